/-
  What gf.Add, gf.Mul, the reference's Mul and Power do.
-/
import Derived.Test.YtjefjlalebpodaaWalksA
namespace Go.Proofs.Ytjefjlalebpodaa
open Go.RowKit

set_option maxHeartbeats 400000 in
theorem add_any (a b : Nat) (w : World) (ha : a < 256) (hb : b < 256) :
    Calls Try.prog 80 #[.int .u8 (a : Int), .int .u8 (b : Int)] w fun e w' => e = .returned (.int .u8 ((a ^^^ b : Nat) : Int)) ∧ w = w' := by
  go_enter Try.func80, Try.ntmps80
  go_wp2_with ((go_at_call 88; refine (plus_any _ _ _ (by omega) (by omega)).mono ?_; rintro e w' ⟨rfl, rfl⟩))
  go_ret
  exact ⟨rfl, rfl⟩

theorem i64_xor_nat (a b : Nat) (ha : a < 2 ^ 31) (hb : b < 2 ^ 31) : bits .xor .i64 (a : Int) (b : Int) = ((a ^^^ b : Nat) : Int) := by
  have ha' : a % 2 ^ IntKind.i64.bits = a := Nat.mod_eq_of_lt (by show a < 2 ^ 64; omega)
  have hb' : b % 2 ^ IntKind.i64.bits = b := Nat.mod_eq_of_lt (by show b < 2 ^ 64; omega)
  have hx : a ^^^ b < 2 ^ 31 := Nat.xor_lt_two_pow ha hb
  simp only [bits, BitVec.ofInt_natCast, BitVec.toNat_xor, BitVec.toNat_ofNat, ha', hb']
  rw [IntKind.wrap_i64]
  omega

theorem i64_and1_nat (a : Nat) (ha : a < 2 ^ 31) : bits .and .i64 (a : Int) 1 = ((a % 2 : Nat) : Int) := by
  have h := (bits_nat .i64 31 (by decide) (fun n h0 h1 => by rw [IntKind.wrap_i64]; omega) a 1 ha (by omega)).1
  rw [Nat.and_one_is_mod] at h
  exact h

theorem fullN_lt (a b : Nat) (ha : a < 256) : ∀ k, k ≤ 8 → Gf.fullN a b k < 2 ^ 16
  | 0, _ => by simp [Gf.fullN]
  | k + 1, h => by
    refine Nat.xor_lt_two_pow (fullN_lt a b ha k (by omega)) ?_
    have : (2 : Nat) ^ k ≤ 2 ^ 7 := Nat.pow_le_pow_right (by omega) (by omega)
    split
    · calc a * 2 ^ k ≤ a * 2 ^ 7 := Nat.mul_le_mul_left _ this
        _ < 2 ^ 16 := by omega
    · omega

theorem restN_lt (l : Nat) (hl : l < 2 ^ 16) : ∀ k, Gf.restN l k < 2 ^ 16
  | 0 => hl
  | k + 1 => by
    refine Nat.xor_lt_two_pow (restN_lt l hl k) ?_
    have : (2 : Nat) ^ (6 - k) ≤ 2 ^ 6 := Nat.pow_le_pow_right (by omega) (by omega)
    split
    · calc 285 * 2 ^ (6 - k) ≤ 285 * 2 ^ 6 := Nat.mul_le_mul_left _ this
        _ < 2 ^ 16 := by omega
    · omega

theorem bit8 (b k : Nat) (hb : b < 256) : (bits BinOp.and IntKind.u8 ((b : Int) / 2 ^ k) 1 == 1) = decide (b / 2 ^ k % 2 = 1) := by
  have e : (b : Int) / 2 ^ k = ((b / 2 ^ k : Nat) : Int) := by simp
  have hl : b / 2 ^ k < 256 := Nat.lt_of_le_of_lt (Nat.div_le_self _ _) hb
  rw [e, show (1 : Int) = ((1 : Nat) : Int) by rfl, u8_and_nat _ 1 hl (by omega), Nat.and_one_is_mod, Bool.eq_iff_iff]
  simp
  omega

theorem bit64 (l j : Nat) (hl : l < 2 ^ 16) : (bits BinOp.and IntKind.i64 ((l : Int) / 2 ^ j) 1 == 1) = decide (l / 2 ^ j % 2 = 1) := by
  have e : (l : Int) / 2 ^ j = ((l / 2 ^ j : Nat) : Int) := by simp
  have hl : l / 2 ^ j < 2 ^ 31 := Nat.lt_of_le_of_lt (Nat.div_le_self _ _) (by omega)
  rw [e, i64_and1_nat _ hl, Bool.eq_iff_iff]
  simp
  omega

theorem full_yes (a b k : Nat) (ha : a < 256) (hk : k < 8) (h : b / 2 ^ k % 2 = 1) : bits BinOp.xor IntKind.i64 ((Gf.fullN a b k : Nat) : Int) (wrap64 ((a : Int) * 2 ^ k)) = ((Gf.fullN a b (k + 1) : Nat) : Int) := by
  have hp : (2 : Nat) ^ k ≤ 2 ^ 7 := Nat.pow_le_pow_right (by omega) (by omega)
  have hl : a * 2 ^ k < 2 ^ 15 := Nat.lt_of_le_of_lt (Nat.mul_le_mul_left _ hp) (by omega)
  have e : (a : Int) * 2 ^ k = ((a * 2 ^ k : Nat) : Int) := by simp
  have hf := fullN_lt a b ha k (by omega)
  rw [e, IntWalk.wrap64_in _ (by omega), i64_xor_nat _ _ (by omega) (by omega)]
  show _ = ((Gf.fullN a b k ^^^ (if b / 2 ^ k % 2 = 1 then a * 2 ^ k else 0) : Nat) : Int)
  rw [if_pos h]

theorem full_no (a b k : Nat) (h : ¬ b / 2 ^ k % 2 = 1) : Gf.fullN a b k = Gf.fullN a b (k + 1) := by
  show _ = Gf.fullN a b k ^^^ (if b / 2 ^ k % 2 = 1 then a * 2 ^ k else 0)
  rw [if_neg h, Nat.xor_zero]

theorem rest_yes (l j : Nat) (hl : l < 2 ^ 16) (h8 : 8 ≤ j) (h14 : j ≤ 14) (h : Gf.restN l (14 - j) / 2 ^ j % 2 = 1) : bits BinOp.xor IntKind.i64 ((Gf.restN l (14 - j) : Nat) : Int) (wrap64 (285 * 2 ^ (j - 8))) = ((Gf.restN l (14 - (j - 1)) : Nat) : Int) := by
  have hp : (2 : Nat) ^ (j - 8) ≤ 2 ^ 6 := Nat.pow_le_pow_right (by omega) (by omega)
  have e : (285 : Int) * 2 ^ (j - 8) = ((285 * 2 ^ (j - 8) : Nat) : Int) := by simp
  have hf := restN_lt l hl (14 - j)
  rw [e, IntWalk.wrap64_in _ (by omega), i64_xor_nat _ _ (by omega) (by omega), show 14 - (j - 1) = (14 - j) + 1 by omega]
  show _ = ((Gf.restN l (14 - j) ^^^ (if Gf.restN l (14 - j) / 2 ^ (14 - (14 - j)) % 2 = 1 then 285 * 2 ^ (6 - (14 - j)) else 0) : Nat) : Int)
  rw [show 14 - (14 - j) = j by omega, if_pos h, show 6 - (14 - j) = j - 8 by omega]

theorem rest_no (l j : Nat) (h8 : 8 ≤ j) (h14 : j ≤ 14) (h : ¬ Gf.restN l (14 - j) / 2 ^ j % 2 = 1) : Gf.restN l (14 - j) = Gf.restN l (14 - (j - 1)) := by
  rw [show 14 - (j - 1) = (14 - j) + 1 by omega]
  show _ = Gf.restN l (14 - j) ^^^ (if Gf.restN l (14 - j) / 2 ^ (14 - (14 - j)) % 2 = 1 then 285 * 2 ^ (6 - (14 - j)) else 0)
  rw [show 14 - (14 - j) = j by omega, if_neg h, Nat.xor_zero]

set_option maxHeartbeats 1000000 in
theorem ref_any (a b : Nat) (w : World) (ha : a < 256) (hb : b < 256) :
    Calls Try.prog 55 #[.int .u8 (a : Int), .int .u8 (b : Int)] w fun e w' => e = .returned (.int .u8 ((Gf.refMul a b : Nat) : Int)) ∧ w = w' := by
  go_enter Try.func55, Try.ntmps55
  go_wp2
  go_loop [5, 6] (fun l i => ∃ k : Nat, k ≤ 8 ∧ i = .int .i64 k ∧ l = .int .i64 ((Gf.fullN a b k : Nat) : Int)) (fun _ i => 8 - (intOf i).toNat)
  case atStart => exact ⟨0, Nat.zero_le _, rfl, rfl⟩
  case round =>
    obtain ⟨k, hk, rfl, rfl⟩ := hrel
    by_cases hlt : k < 8
    · by_cases h1 : b / 2 ^ k % 2 = 1
      · have t1 : (bits BinOp.and IntKind.u8 ((b : Int) / 2 ^ k) 1 == 1) = true := by rw [bit8 b k hb]; simpa using h1
        have H := Lib.hid (full_yes a b k ha hlt h1)
        clear h1
        go_wp2
        go_round
        case rel => exact ⟨k + 1, by omega, by go_num, by rw [H.out]⟩
        case measure => simp [intOf]; omega
      · have t1 : (bits BinOp.and IntKind.u8 ((b : Int) / 2 ^ k) 1 == 1) = false := by rw [bit8 b k hb]; simpa using h1
        have H := Lib.hid (full_no a b k h1)
        clear h1
        go_wp2
        go_round
        case rel => exact ⟨k + 1, by omega, by go_num, by rw [← H.out]⟩
        case measure => simp [intOf]; omega
    · obtain rfl : k = 8 := by omega
      have hL := fullN_lt a b ha 8 (by omega)
      have HL : Hid (Gf.refMul a b = Gf.restN (Gf.fullN a b 8) 7 % 2 ^ 8) := rfl
      generalize Gf.fullN a b 8 = L at hL HL ⊢
      go_wp2
      go_loop [5, 7] (fun l i => ∃ j : Nat, 7 ≤ j ∧ j ≤ 14 ∧ i = .int .i64 j ∧ l = .int .i64 ((Gf.restN L (14 - j) : Nat) : Int)) (fun _ i => (intOf i).toNat)
      case atStart => exact ⟨14, by omega, by omega, rfl, rfl⟩
      case round =>
        obtain ⟨j, hj7, hj14, rfl, rfl⟩ := hrel
        have hr := restN_lt L hL (14 - j)
        by_cases hge : 8 ≤ j
        · by_cases h1 : Gf.restN L (14 - j) / 2 ^ j % 2 = 1
          · have t1 : (bits BinOp.and IntKind.i64 (((Gf.restN L (14 - j) : Nat) : Int) / 2 ^ j) 1 == 1) = true := by rw [bit64 _ j hr]; simpa using h1
            have H := Lib.hid (rest_yes L j hL hge hj14 h1)
            clear h1
            go_wp2
            go_round
            case rel => exact ⟨j - 1, by omega, by omega, by go_num, by rw [← H.out]⟩
            case measure => simp [intOf]; omega
          · have t1 : (bits BinOp.and IntKind.i64 (((Gf.restN L (14 - j) : Nat) : Int) / 2 ^ j) 1 == 1) = false := by rw [bit64 _ j hr]; simpa using h1
            have H := Lib.hid (rest_no L j hge hj14 h1)
            clear h1
            go_wp2
            go_round
            case rel => exact ⟨j - 1, by omega, by omega, by go_num, by rw [← H.out]⟩
            case measure => simp [intOf]; omega
        · obtain rfl : j = 7 := by omega
          go_wp2
          go_ret
          exact ⟨ret_u8 (by rw [HL.out]; simp), rfl⟩

theorem ref_gm (a b : Nat) (w : World) (ha : a < 256) (hb : b < 256) :
    Calls Try.prog 55 #[.int .u8 (a : Int), .int .u8 (b : Int)] w fun e w' => e = .returned (.int .u8 ((Gf.gm a b : Nat) : Int)) ∧ w = w' :=
  (ref_any a b w ha hb).mono fun e w' h => by rw [Gf.ref_eq a b ha hb] at h; exact h

set_option maxHeartbeats 400000 in
theorem power_any (a n : Nat) (w : World) (ha : a < 256) (hn : n ≤ 1000000) :
    Calls Try.prog 56 #[.int .u8 (a : Int), .int .i64 (n : Int)] w fun e w' => e = .returned (.int .u8 ((Gf.ipow a n : Nat) : Int)) ∧ w = w' := by
  go_enter Try.func56, Try.ntmps56
  go_wp2
  go_loop [5, 6] (fun o i => ∃ k : Nat, k ≤ n ∧ i = .int .i64 k ∧ o = .int .u8 ((Gf.ipow a k : Nat) : Int)) (fun _ i => n - (intOf i).toNat)
  case atStart => exact ⟨0, Nat.zero_le _, rfl, rfl⟩
  case round =>
    obtain ⟨k, hk, rfl, rfl⟩ := hrel
    have hl := Gf.ipow_lt a k
    have HS : Hid (Gf.ipow a (k + 1) = Gf.gm (Gf.ipow a k) a) := rfl
    by_cases hlt : k < n
    · go_wp2_with ((go_at_call 55; refine (ref_gm _ _ _ (by omega) (by omega)).mono ?_; rintro e w' ⟨rfl, rfl⟩))
      go_round
      case rel => exact ⟨k + 1, by omega, by go_num, by rw [HS.out]⟩
      case measure => simp [intOf]; omega
    · obtain rfl : k = n := by omega
      go_wp2
      go_ret
      exact ⟨rfl, rfl⟩

end Go.Proofs.Ytjefjlalebpodaa
