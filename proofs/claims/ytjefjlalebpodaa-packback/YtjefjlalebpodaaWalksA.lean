/-
  What gf's small functions do: sums, doubling, products (a jump back), remainders.
  What gf.Add, gf.Mul, the reference's Mul and Power do.
  What gf.Made makes: a block of 511 cells, the powers and the logarithms.
  What gf.Inv, gf.Log, gf.Pow and gf.Eval do.
-/
import Derived.Test.YtjefjlalebpodaaRows
import Derived.Test.YtjefjlalebpodaaGf
import Derived.WalkKit
import Derived.WalkSpells
import Derived.WalkLawsBesides
import Derived.ScopeJumps
import Derived.Lib.Hide
import Derived.Deep.QuietTactic
import Derived.BigQuiet
import Derived.Deep.RegionHeld3
namespace Go.Proofs.Ytjefjlalebpodaa
open Go.RowKit

theorem ret_u8 {a b : Int} (h : a = b) : Ending.returned (.int .u8 a) = .returned (.int .u8 b) := by rw [h]
theorem ret_i64 {a b : Int} (h : a = b) : Ending.returned (.int .i64 a) = .returned (.int .i64 b) := by rw [h]

set_option maxHeartbeats 400000 in
theorem plus_any (a b : Nat) (w : World) (ha : a < 256) (hb : b < 256) :
    Calls Try.prog 88 #[.int .u8 (a : Int), .int .u8 (b : Int)] w fun e w' => e = .returned (.int .u8 ((a ^^^ b : Nat) : Int)) ∧ w = w' := by
  go_enter Try.func88, Try.ntmps88
  go_wp2
  go_ret
  exact ⟨ret_u8 (u8_xor_nat a b ha hb), rfl⟩

theorem and128 (a : Nat) (ha : a < 256) : (bits BinOp.and IntKind.u8 (a : Int) 128 != 0) = decide (a / 2 ^ 7 % 2 = 1) := by
  rw [show (128 : Int) = ((128 : Nat) : Int) by rfl, u8_and_nat a 128 ha (by omega)]
  have h : ∀ a < 256, (a &&& 128 != 0) = decide (a / 2 ^ 7 % 2 = 1) := by decide +kernel
  rw [← h a ha, Bool.eq_iff_iff]
  simp

theorem and1 (a : Nat) (ha : a < 256) : (bits BinOp.and IntKind.u8 (a : Int) 1 != 0) = decide (a % 2 = 1) := by
  rw [show (1 : Int) = ((1 : Nat) : Int) by rfl, u8_and_nat a 1 ha (by omega), Nat.and_one_is_mod, Bool.eq_iff_iff]
  simp
  omega

theorem dbl_yes (a : Nat) (_ : a < 256) (h : a / 2 ^ 7 % 2 = 1) : bits BinOp.xor IntKind.u8 ((a : Int) * 2 % 256) 29 = ((Gf.dbl a : Nat) : Int) := by
  rw [show (29 : Int) = ((29 : Nat) : Int) by rfl, show ((a : Int) * 2 % 256) = ((a * 2 % 256 : Nat) : Int) by omega, u8_xor_nat _ _ (by omega) (by omega)]
  unfold Gf.dbl
  rw [if_pos h]

theorem dbl_no (a : Nat) (h : ¬ a / 2 ^ 7 % 2 = 1) : (a : Int) * 2 % 256 = ((Gf.dbl a : Nat) : Int) := by
  unfold Gf.dbl
  rw [if_neg h, Nat.xor_zero]
  omega

set_option maxHeartbeats 400000 in
theorem dbl_any (a : Nat) (w : World) (ha : a < 256) :
    Calls Try.prog 79 #[.int .u8 (a : Int)] w fun e w' => e = .returned (.int .u8 ((Gf.dbl a : Nat) : Int)) ∧ w = w' := by
  have h128 := and128 a ha
  by_cases h : a / 2 ^ 7 % 2 = 1
  · have hd : (bits BinOp.and IntKind.u8 (a : Int) 128 != 0) = true := by rw [h128]; simpa using h
    have HY := dbl_yes a ha h
    clear h128 h
    have HY2 : Hid _ := HY
    clear HY
    go_enter Try.func79, Try.ntmps79
    go_wp2
    go_ret
    exact ⟨ret_u8 HY2.out, rfl⟩
  · have hd : (bits BinOp.and IntKind.u8 (a : Int) 128 != 0) = false := by rw [h128]; simpa using h
    have HY := dbl_no a h
    clear h128 h
    have HY2 : Hid _ := HY
    clear HY
    go_enter Try.func79, Try.ntmps79
    go_wp2
    go_ret
    exact ⟨ret_u8 HY2.out, rfl⟩

theorem tmod255 (n : Int) : (if n.tmod 255 < 0 then n.tmod 255 + 255 else n.tmod 255) = n % 255 := by
  have h1 := Int.tmod_def n 255
  have h2 := Int.emod_def n 255
  rcases Int.le_total 0 n with h | h
  · have := Int.tmod_eq_emod_of_nonneg (b := 255) h
    rw [if_neg (by rw [this]; omega), this]
  · have := Int.neg_tmod (-n) 255
    rw [Int.neg_neg] at this
    rw [this, Int.tmod_eq_emod_of_nonneg (b := 255) (show 0 ≤ -n by omega)]
    split <;> omega

set_option maxHeartbeats 400000 in
theorem rem_any (n : Int) (w : World) :
    Calls Try.prog 81 #[.int .i64 n] w fun e w' => e = .returned (.int .i64 (n % 255)) ∧ w = w' := by
  have h1 : -255 < n.tmod 255 := by have := Int.lt_tmod_of_pos n (b := 255) (by omega); omega
  have h2 : n.tmod 255 < 255 := Int.tmod_lt_of_pos n (by omega)
  by_cases hn : n.tmod 255 < 0
  · have H : Hid (n.tmod 255 + 255 = n % 255) := by have h := tmod255 n; rw [if_pos hn] at h; exact h
    go_enter Try.func81, Try.ntmps81
    go_wp2
    go_ret
    exact ⟨ret_i64 H.out, rfl⟩
  · have H : Hid (n.tmod 255 = n % 255) := by have h := tmod255 n; rw [if_neg hn] at h; exact h
    go_enter Try.func81, Try.ntmps81
    go_wp2
    go_ret
    exact ⟨ret_i64 H.out, rfl⟩

theorem plus_zero (b : Nat) (w : World) (hb : b < 256) :
    Calls Try.prog 88 #[.int .u8 0, .int .u8 (b : Int)] w fun e w' => e = .returned (.int .u8 (b : Int)) ∧ w = w' :=
  (plus_any 0 b w (by omega) hb).mono fun e w' h => by rw [Nat.zero_xor] at h; exact h

theorem gm_odd (n x y p A B : Nat) (h : Gf.gm A B = p ^^^ Gf.gmN n x y) (hn : y < 2 ^ n) (hy : y % 2 = 1) : ∃ m, y / 2 < 2 ^ m ∧ Gf.gm A B = (p ^^^ x) ^^^ Gf.gmN m (Gf.dbl x) (y / 2) := by
  cases n with
  | zero => exfalso; simp at hn; omega
  | succ m =>
    refine ⟨m, by rw [Nat.pow_succ] at hn; omega, ?_⟩
    rw [h]
    show p ^^^ ((if y / 2 ^ 0 % 2 = 1 then x else 0) ^^^ Gf.gmN m (Gf.dbl x) (y / 2 ^ 1)) = _
    rw [if_pos (by simpa using hy), Nat.xor_assoc]

theorem gm_even (n x y p A B : Nat) (h : Gf.gm A B = p ^^^ Gf.gmN n x y) (hn : y < 2 ^ n) (hy : ¬ y % 2 = 1) : ∃ m, y / 2 < 2 ^ m ∧ Gf.gm A B = p ^^^ Gf.gmN m (Gf.dbl x) (y / 2) := by
  cases n with
  | zero => refine ⟨0, by simp at hn; simp [hn], ?_⟩; rw [h]; rfl
  | succ m =>
    refine ⟨m, by rw [Nat.pow_succ] at hn; omega, ?_⟩
    rw [h]
    show p ^^^ ((if y / 2 ^ 0 % 2 = 1 then x else 0) ^^^ Gf.gmN m (Gf.dbl x) (y / 2 ^ 1)) = _
    rw [if_neg (by simpa using hy), Nat.zero_xor]

theorem gm_last {n x p A B : Nat} (h : Gf.gm A B = p ^^^ Gf.gmN n x 0) : (p : Int) = ((Gf.gm A B : Nat) : Int) := by
  rw [h, Gf.gmN_zero, Nat.xor_zero]

theorem and1_yes (a : Nat) (ha : a < 256) (h : a % 2 = 1) : (bits BinOp.and IntKind.u8 (a : Int) 1 != 0) = true := by rw [and1 a ha]; simpa using h
theorem and1_no (a : Nat) (ha : a < 256) (h : ¬ a % 2 = 1) : (bits BinOp.and IntKind.u8 (a : Int) 1 != 0) = false := by rw [and1 a ha]; simpa using h
theorem half_more (y : Nat) (h : ¬ y / 2 = 0) : ((y : Int) / 2 != 0) = true := by simp; omega
theorem half_none (y : Nat) (h : y / 2 = 0) : ((y : Int) / 2 != 0) = false := by simp; omega

end Go.Proofs.Ytjefjlalebpodaa

namespace Go.Proofs.Ytjefjlalebpodaa
open Go.RowKit

set_option maxHeartbeats 400000 in
theorem add_any (a b : Nat) (w : World) (ha : a < 256) (hb : b < 256) :
    Calls Try.prog 80 #[.int .u8 (a : Int), .int .u8 (b : Int)] w fun e w' => e = .returned (.int .u8 ((a ^^^ b : Nat) : Int)) ∧ w = w' := by
  go_enter Try.func80, Try.ntmps80
  go_wp2_with ((go_at_call 88; refine (plus_any _ _ _ (by omega) (by omega)).mono ?_; rintro e w' ⟨rfl, rfl⟩))
  go_ret
  exact ⟨rfl, rfl⟩

theorem i64_xor_nat (a b : Nat) (ha : a < 2 ^ 31) (hb : b < 2 ^ 31) : bits .xor .i64 (a : Int) (b : Int) = ((a ^^^ b : Nat) : Int) := by
  have ha' : a % 2 ^ IntKind.i64.bits = a := Nat.mod_eq_of_lt (by show a < 2 ^ 64; omega)
  have hb' : b % 2 ^ IntKind.i64.bits = b := Nat.mod_eq_of_lt (by show b < 2 ^ 64; omega)
  have hx : a ^^^ b < 2 ^ 31 := Nat.xor_lt_two_pow ha hb
  simp only [bits, BitVec.ofInt_natCast, BitVec.toNat_xor, BitVec.toNat_ofNat, ha', hb']
  rw [IntKind.wrap_i64]
  omega

theorem i64_and1_nat (a : Nat) (ha : a < 2 ^ 31) : bits .and .i64 (a : Int) 1 = ((a % 2 : Nat) : Int) := by
  have h := (bits_nat .i64 31 (by decide) (fun n h0 h1 => by rw [IntKind.wrap_i64]; omega) a 1 ha (by omega)).1
  rw [Nat.and_one_is_mod] at h
  exact h

theorem fullN_lt (a b : Nat) (ha : a < 256) : ∀ k, k ≤ 8 → Gf.fullN a b k < 2 ^ 16
  | 0, _ => by simp [Gf.fullN]
  | k + 1, h => by
    refine Nat.xor_lt_two_pow (fullN_lt a b ha k (by omega)) ?_
    have : (2 : Nat) ^ k ≤ 2 ^ 7 := Nat.pow_le_pow_right (by omega) (by omega)
    split
    · calc a * 2 ^ k ≤ a * 2 ^ 7 := Nat.mul_le_mul_left _ this
        _ < 2 ^ 16 := by omega
    · omega

theorem restN_lt (l : Nat) (hl : l < 2 ^ 16) : ∀ k, Gf.restN l k < 2 ^ 16
  | 0 => hl
  | k + 1 => by
    refine Nat.xor_lt_two_pow (restN_lt l hl k) ?_
    have : (2 : Nat) ^ (6 - k) ≤ 2 ^ 6 := Nat.pow_le_pow_right (by omega) (by omega)
    split
    · calc 285 * 2 ^ (6 - k) ≤ 285 * 2 ^ 6 := Nat.mul_le_mul_left _ this
        _ < 2 ^ 16 := by omega
    · omega

theorem bit8 (b k : Nat) (hb : b < 256) : (bits BinOp.and IntKind.u8 ((b : Int) / 2 ^ k) 1 == 1) = decide (b / 2 ^ k % 2 = 1) := by
  have e : (b : Int) / 2 ^ k = ((b / 2 ^ k : Nat) : Int) := by simp
  have hl : b / 2 ^ k < 256 := Nat.lt_of_le_of_lt (Nat.div_le_self _ _) hb
  rw [e, show (1 : Int) = ((1 : Nat) : Int) by rfl, u8_and_nat _ 1 hl (by omega), Nat.and_one_is_mod, Bool.eq_iff_iff]
  simp
  omega

theorem bit64 (l j : Nat) (hl : l < 2 ^ 16) : (bits BinOp.and IntKind.i64 ((l : Int) / 2 ^ j) 1 == 1) = decide (l / 2 ^ j % 2 = 1) := by
  have e : (l : Int) / 2 ^ j = ((l / 2 ^ j : Nat) : Int) := by simp
  have hl : l / 2 ^ j < 2 ^ 31 := Nat.lt_of_le_of_lt (Nat.div_le_self _ _) (by omega)
  rw [e, i64_and1_nat _ hl, Bool.eq_iff_iff]
  simp
  omega

theorem full_yes (a b k : Nat) (ha : a < 256) (hk : k < 8) (h : b / 2 ^ k % 2 = 1) : bits BinOp.xor IntKind.i64 ((Gf.fullN a b k : Nat) : Int) (wrap64 ((a : Int) * 2 ^ k)) = ((Gf.fullN a b (k + 1) : Nat) : Int) := by
  have hp : (2 : Nat) ^ k ≤ 2 ^ 7 := Nat.pow_le_pow_right (by omega) (by omega)
  have hl : a * 2 ^ k < 2 ^ 15 := Nat.lt_of_le_of_lt (Nat.mul_le_mul_left _ hp) (by omega)
  have e : (a : Int) * 2 ^ k = ((a * 2 ^ k : Nat) : Int) := by simp
  have hf := fullN_lt a b ha k (by omega)
  rw [e, IntWalk.wrap64_in _ (by omega), i64_xor_nat _ _ (by omega) (by omega)]
  show _ = ((Gf.fullN a b k ^^^ (if b / 2 ^ k % 2 = 1 then a * 2 ^ k else 0) : Nat) : Int)
  rw [if_pos h]

theorem full_no (a b k : Nat) (h : ¬ b / 2 ^ k % 2 = 1) : Gf.fullN a b k = Gf.fullN a b (k + 1) := by
  show _ = Gf.fullN a b k ^^^ (if b / 2 ^ k % 2 = 1 then a * 2 ^ k else 0)
  rw [if_neg h, Nat.xor_zero]

theorem rest_yes (l j : Nat) (hl : l < 2 ^ 16) (h8 : 8 ≤ j) (h14 : j ≤ 14) (h : Gf.restN l (14 - j) / 2 ^ j % 2 = 1) : bits BinOp.xor IntKind.i64 ((Gf.restN l (14 - j) : Nat) : Int) (wrap64 (285 * 2 ^ (j - 8))) = ((Gf.restN l (14 - (j - 1)) : Nat) : Int) := by
  have hp : (2 : Nat) ^ (j - 8) ≤ 2 ^ 6 := Nat.pow_le_pow_right (by omega) (by omega)
  have e : (285 : Int) * 2 ^ (j - 8) = ((285 * 2 ^ (j - 8) : Nat) : Int) := by simp
  have hf := restN_lt l hl (14 - j)
  rw [e, IntWalk.wrap64_in _ (by omega), i64_xor_nat _ _ (by omega) (by omega), show 14 - (j - 1) = (14 - j) + 1 by omega]
  show _ = ((Gf.restN l (14 - j) ^^^ (if Gf.restN l (14 - j) / 2 ^ (14 - (14 - j)) % 2 = 1 then 285 * 2 ^ (6 - (14 - j)) else 0) : Nat) : Int)
  rw [show 14 - (14 - j) = j by omega, if_pos h, show 6 - (14 - j) = j - 8 by omega]

theorem rest_no (l j : Nat) (h8 : 8 ≤ j) (h14 : j ≤ 14) (h : ¬ Gf.restN l (14 - j) / 2 ^ j % 2 = 1) : Gf.restN l (14 - j) = Gf.restN l (14 - (j - 1)) := by
  rw [show 14 - (j - 1) = (14 - j) + 1 by omega]
  show _ = Gf.restN l (14 - j) ^^^ (if Gf.restN l (14 - j) / 2 ^ (14 - (14 - j)) % 2 = 1 then 285 * 2 ^ (6 - (14 - j)) else 0)
  rw [show 14 - (14 - j) = j by omega, if_neg h, Nat.xor_zero]

set_option maxHeartbeats 1000000 in
theorem ref_any (a b : Nat) (w : World) (ha : a < 256) (hb : b < 256) :
    Calls Try.prog 55 #[.int .u8 (a : Int), .int .u8 (b : Int)] w fun e w' => e = .returned (.int .u8 ((Gf.refMul a b : Nat) : Int)) ∧ w = w' := by
  go_enter Try.func55, Try.ntmps55
  go_wp2
  go_loop [5, 6] (fun l i => ∃ k : Nat, k ≤ 8 ∧ i = .int .i64 k ∧ l = .int .i64 ((Gf.fullN a b k : Nat) : Int)) (fun _ i => 8 - (intOf i).toNat)
  case atStart => exact ⟨0, Nat.zero_le _, rfl, rfl⟩
  case round =>
    obtain ⟨k, hk, rfl, rfl⟩ := hrel
    by_cases hlt : k < 8
    · by_cases h1 : b / 2 ^ k % 2 = 1
      · have t1 : (bits BinOp.and IntKind.u8 ((b : Int) / 2 ^ k) 1 == 1) = true := by rw [bit8 b k hb]; simpa using h1
        have H := Lib.hid (full_yes a b k ha hlt h1)
        clear h1
        go_wp2
        go_round
        case rel => exact ⟨k + 1, by omega, by go_num, by rw [H.out]⟩
        case measure => simp [intOf]; omega
      · have t1 : (bits BinOp.and IntKind.u8 ((b : Int) / 2 ^ k) 1 == 1) = false := by rw [bit8 b k hb]; simpa using h1
        have H := Lib.hid (full_no a b k h1)
        clear h1
        go_wp2
        go_round
        case rel => exact ⟨k + 1, by omega, by go_num, by rw [← H.out]⟩
        case measure => simp [intOf]; omega
    · obtain rfl : k = 8 := by omega
      have hL := fullN_lt a b ha 8 (by omega)
      have HL : Hid (Gf.refMul a b = Gf.restN (Gf.fullN a b 8) 7 % 2 ^ 8) := rfl
      generalize Gf.fullN a b 8 = L at hL HL ⊢
      go_wp2
      go_loop [5, 7] (fun l i => ∃ j : Nat, 7 ≤ j ∧ j ≤ 14 ∧ i = .int .i64 j ∧ l = .int .i64 ((Gf.restN L (14 - j) : Nat) : Int)) (fun _ i => (intOf i).toNat)
      case atStart => exact ⟨14, by omega, by omega, rfl, rfl⟩
      case round =>
        obtain ⟨j, hj7, hj14, rfl, rfl⟩ := hrel
        have hr := restN_lt L hL (14 - j)
        by_cases hge : 8 ≤ j
        · by_cases h1 : Gf.restN L (14 - j) / 2 ^ j % 2 = 1
          · have t1 : (bits BinOp.and IntKind.i64 (((Gf.restN L (14 - j) : Nat) : Int) / 2 ^ j) 1 == 1) = true := by rw [bit64 _ j hr]; simpa using h1
            have H := Lib.hid (rest_yes L j hL hge hj14 h1)
            clear h1
            go_wp2
            go_round
            case rel => exact ⟨j - 1, by omega, by omega, by go_num, by rw [← H.out]⟩
            case measure => simp [intOf]; omega
          · have t1 : (bits BinOp.and IntKind.i64 (((Gf.restN L (14 - j) : Nat) : Int) / 2 ^ j) 1 == 1) = false := by rw [bit64 _ j hr]; simpa using h1
            have H := Lib.hid (rest_no L j hge hj14 h1)
            clear h1
            go_wp2
            go_round
            case rel => exact ⟨j - 1, by omega, by omega, by go_num, by rw [← H.out]⟩
            case measure => simp [intOf]; omega
        · obtain rfl : j = 7 := by omega
          go_wp2
          go_ret
          exact ⟨ret_u8 (by rw [HL.out]; simp), rfl⟩

theorem ref_gm (a b : Nat) (w : World) (ha : a < 256) (hb : b < 256) :
    Calls Try.prog 55 #[.int .u8 (a : Int), .int .u8 (b : Int)] w fun e w' => e = .returned (.int .u8 ((Gf.gm a b : Nat) : Int)) ∧ w = w' :=
  (ref_any a b w ha hb).mono fun e w' h => by rw [Gf.ref_eq a b ha hb] at h; exact h

set_option maxHeartbeats 400000 in
theorem power_any (a n : Nat) (w : World) (ha : a < 256) (hn : n ≤ 1000000) :
    Calls Try.prog 56 #[.int .u8 (a : Int), .int .i64 (n : Int)] w fun e w' => e = .returned (.int .u8 ((Gf.ipow a n : Nat) : Int)) ∧ w = w' := by
  go_enter Try.func56, Try.ntmps56
  go_wp2
  go_loop [5, 6] (fun o i => ∃ k : Nat, k ≤ n ∧ i = .int .i64 k ∧ o = .int .u8 ((Gf.ipow a k : Nat) : Int)) (fun _ i => n - (intOf i).toNat)
  case atStart => exact ⟨0, Nat.zero_le _, rfl, rfl⟩
  case round =>
    obtain ⟨k, hk, rfl, rfl⟩ := hrel
    have hl := Gf.ipow_lt a k
    have HS : Hid (Gf.ipow a (k + 1) = Gf.gm (Gf.ipow a k) a) := rfl
    by_cases hlt : k < n
    · go_wp2_with ((go_at_call 55; refine (ref_gm _ _ _ (by omega) (by omega)).mono ?_; rintro e w' ⟨rfl, rfl⟩))
      go_round
      case rel => exact ⟨k + 1, by omega, by go_num, by rw [HS.out]⟩
      case measure => simp [intOf]; omega
    · obtain rfl : k = n := by omega
      go_wp2
      go_ret
      exact ⟨rfl, rfl⟩

end Go.Proofs.Ytjefjlalebpodaa

namespace Go.Proofs.Ytjefjlalebpodaa
open Go.RowKit

/-- The block behind n rounds. -/
def tab : Nat → Array Value
  | 0 => Array.replicate 511 (.int .u8 0)
  | n + 1 => ((tab n).setIfInBounds n (.int .u8 ((Gf.pw n : Nat) : Int))).setIfInBounds (255 + Gf.pw n) (.int .u8 (n : Int))

theorem tab_size (n : Nat) : (tab n).size = 511 := by
  induction n with
  | zero => simp [tab]
  | succ n ih => simp [tab, ih]

theorem pw_inj (i j : Nat) (hi : i < 255) (hj : j < 255) (h : Gf.pw i = Gf.pw j) : i = j := by
  rw [← Gf.lg_pw i hi, h, Gf.lg_pw j hj]

theorem tab_pow (n : Nat) (hn : n ≤ 255) (i : Nat) (hi : i < n) : (tab n)[i]? = some (.int .u8 ((Gf.pw i : Nat) : Int)) := by
  induction n with
  | zero => omega
  | succ n ih =>
    show (((tab n).setIfInBounds n _).setIfInBounds (255 + Gf.pw n) _)[i]? = _
    rw [Array.getElem?_setIfInBounds_ne (by omega)]
    by_cases h : i = n
    · subst h; rw [Array.getElem?_setIfInBounds_self_of_lt (by rw [tab_size]; omega)]
    · rw [Array.getElem?_setIfInBounds_ne (by omega)]; exact ih (by omega) (by omega)

theorem tab_log (n : Nat) (hn : n ≤ 255) (i : Nat) (hi : i < n) : (tab n)[255 + Gf.pw i]? = some (.int .u8 (i : Int)) := by
  induction n with
  | zero => omega
  | succ n ih =>
    show (((tab n).setIfInBounds n _).setIfInBounds (255 + Gf.pw n) _)[255 + Gf.pw i]? = _
    by_cases h : i = n
    · subst h
      have := Gf.pw_lt i
      rw [Array.getElem?_setIfInBounds_self_of_lt (by rw [Array.size_setIfInBounds, tab_size]; omega)]
    · rw [Array.getElem?_setIfInBounds_ne (by intro e; exact h (pw_inj i n (by omega) (by omega) (by omega))), Array.getElem?_setIfInBounds_ne (by omega)]
      exact ih (by omega) (by omega)

/-- Block b holds the table that Made makes. -/
structure IsTab (w : World) (b : Nat) : Prop where
  pow : ∀ i, i < 255 → w.cell? ⟨b, i, none⟩ = some (.int .u8 ((Gf.pw i : Nat) : Int))
  log : ∀ a, a ≠ 0 → a < 256 → w.cell? ⟨b, 255 + a, none⟩ = some (.int .u8 ((Gf.lg a : Nat) : Int))

theorem IsTab.new (w : World) (t : TypeId) : IsTab (w.alloc (.cells (tab 255) t)) w.heap.size where
  pow i hi := by rw [World.cell?_alloc_at (hn := rfl)]; exact tab_pow 255 (by omega) i hi
  log a h0 h := by
    rw [World.cell?_alloc_at (hn := rfl)]
    have := tab_log 255 (by omega) (Gf.lg a) (Gf.lg_lt a h0 h)
    rw [Gf.pw_lg a h0 h] at this
    exact this

theorem IsTab.below {w w' : World} {b : Nat} (h : IsTab w b) (hb : Below w.heap.size w w') (hs : b < w.heap.size) : IsTab w' b where
  pow i hi := by rw [hb.cell (p := ⟨b, i, none⟩) hs]; exact h.pow i hi
  log a h0 h1 := by rw [hb.cell (p := ⟨b, 255 + a, none⟩) hs]; exact h.log a h0 h1

theorem zero43 (w : World) : (zeroValue 108).run Try.prog w = .ok (.agg (tab 0)) w := by kernel_rfl

set_option maxRecDepth 100000 in
set_option maxHeartbeats 400000 in
theorem made_any (w : World) :
    Calls Try.prog 68 #[] w fun e w' => e = .returned (.pointer (some ⟨w.heap.size, 0, none⟩)) ∧ w.alloc (.cells (tab 255) 108) = w' := by
  have hz := zero43
  go_enter Try.func68, Try.ntmps68
  go_wp2
  clear hz
  go_loopw [2, 3, 5] (fun p _ i ws => ∃ k : Nat, k ≤ 255 ∧ i = .int .i64 k ∧ p = .int .u8 ((Gf.pw k : Nat) : Int) ∧ ws = w.alloc (.cells (tab k) 108)) (fun _ _ i _ => 255 - (intOf i).toNat)
  case atStart => exact ⟨0, Nat.zero_le _, rfl, rfl, rfl⟩
  case round =>
    obtain ⟨k, hk, rfl, rfl, rfl⟩ := hrel
    have hl := Gf.pw_lt k
    by_cases hlt : k < 255
    · obtain ⟨v1, hv1⟩ : ∃ v, (tab k)[k]? = some v := ⟨_, Array.getElem?_eq_getElem (by rw [tab_size]; omega)⟩
      obtain ⟨v2, hv2⟩ : ∃ v, ((tab k).setIfInBounds k (.int .u8 ((Gf.pw k : Nat) : Int)))[255 + Gf.pw k]? = some v := ⟨_, Array.getElem?_eq_getElem (by rw [Array.size_setIfInBounds, tab_size]; omega)⟩
      have HP : Hid (Gf.pw (k + 1) = Gf.dbl (Gf.pw k)) := rfl
      go_wp2_with ((go_at_call 79; refine (dbl_any _ _ (by omega)).mono ?_; rintro e w' ⟨rfl, rfl⟩))
      go_round
      case rel => exact ⟨k + 1, by omega, by go_num, by rw [HP.out], rfl⟩
      case measure => simp [intOf]; omega
    · obtain rfl : k = 255 := by omega
      go_wp2
      go_ret
      exact ⟨rfl, rfl⟩

theorem rem_add (x y : Nat) (w : World) :
    Calls Try.prog 81 #[.int .i64 ((x : Int) + (y : Int))] w fun e w' => e = .returned (.int .i64 (((x + y) % 255 : Nat) : Int)) ∧ w' = w :=
  (rem_any _ w).mono fun e w' ⟨h, h'⟩ => ⟨by rw [h]; simp, h'.symm⟩

theorem rem_neg (x : Nat) (hx : x < 255) (w : World) :
    Calls Try.prog 81 #[.int .i64 (-(x : Int))] w fun e w' => e = .returned (.int .i64 (((255 - x) % 255 : Nat) : Int)) ∧ w' = w :=
  (rem_any _ w).mono fun e w' ⟨h, h'⟩ => ⟨by rw [h]; exact ret_i64 (by omega), h'.symm⟩

set_option maxHeartbeats 400000 in
theorem tmul_none (a b : Nat) (w : World) :
    Calls Try.prog 72 #[.pointer none, .int .u8 (a : Int), .int .u8 (b : Int)] w fun e w' => e = .returned (.int .u8 0) ∧ w = w' := by
  go_enter Try.func72, Try.ntmps72
  go_wp2
  go_ret
  exact ⟨rfl, rfl⟩

set_option maxHeartbeats 400000 in
theorem tinv_none (a : Nat) (w : World) :
    Calls Try.prog 85 #[.pointer none, .int .u8 (a : Int)] w fun e w' => e = .returned (.int .u8 0) ∧ w = w' := by
  go_enter Try.func85, Try.ntmps85
  go_wp2
  go_ret
  exact ⟨rfl, rfl⟩

set_option maxHeartbeats 400000 in
theorem tinv_zero (b : Nat) (w : World) :
    Calls Try.prog 85 #[.pointer (some ⟨b, 0, none⟩), .int .u8 0] w fun e w' => e = .returned (.int .u8 0) ∧ w = w' := by
  go_enter Try.func85, Try.ntmps85
  go_wp2
  go_ret
  exact ⟨rfl, rfl⟩

set_option maxHeartbeats 400000 in
theorem tinv_some (b a : Nat) (w : World) (ht : IsTab w b) (h0 : a ≠ 0) (ha : a < 256) :
    Calls Try.prog 85 #[.pointer (some ⟨b, 0, none⟩), .int .u8 (a : Int)] w fun e w' => e = .returned (.int .u8 ((Gf.inv a : Nat) : Int)) ∧ ∃ n, w' = w.drewN n := by
  have hl := Gf.lg_lt a h0 ha
  have hc1 := ht.log a h0 ha
  have hc2 := ht.pow ((255 - Gf.lg a) % 255) (Nat.mod_lt _ (by omega))
  have HE : Hid (Gf.inv a = Gf.pw ((255 - Gf.lg a) % 255)) := by show Gf.inv a = _; unfold Gf.inv; rw [if_neg h0]
  have hr : (255 - Gf.lg a) % 255 < 255 := Nat.mod_lt _ (by omega)
  have t0 : ((a : Int) == 0) = false := by simp; omega
  clear ht
  go_enter Try.func85, Try.ntmps85
  go_wp2
  go_quiet ((go_at_call 81; exact Calls.quiet_of_same (rem_neg _ (by omega) _)))
  go_wp2
  go_ret
  exact ⟨ret_u8 (by rw [HE.out]), nq, rfl⟩

theorem below_drewN (w : World) (n : Nat) : Below w.heap.size w (w.drewN n) := ⟨rfl, rfl, rfl, Nat.le_refl _, fun _ _ => rfl⟩

theorem tinv_any (b a : Nat) (w : World) (ht : IsTab w b) (ha : a < 256) :
    Calls Try.prog 85 #[.pointer (some ⟨b, 0, none⟩), .int .u8 (a : Int)] w fun e w' => e = .returned (.int .u8 ((Gf.inv a : Nat) : Int)) ∧ ∃ n, w' = w.drewN n := by
  by_cases h0 : a = 0
  · subst h0; exact (tinv_zero b w).mono fun e w' ⟨h, h'⟩ => ⟨h, 0, h'.symm⟩
  · exact tinv_some b a w ht h0 ha

set_option maxHeartbeats 400000 in
theorem tmul_left (b y : Nat) (w : World) :
    Calls Try.prog 72 #[.pointer (some ⟨b, 0, none⟩), .int .u8 0, .int .u8 (y : Int)] w fun e w' => e = .returned (.int .u8 0) ∧ w = w' := by
  go_enter Try.func72, Try.ntmps72
  go_wp2
  go_ret
  exact ⟨rfl, rfl⟩

set_option maxHeartbeats 400000 in
theorem tmul_right (b x : Nat) (h0 : x ≠ 0) (w : World) :
    Calls Try.prog 72 #[.pointer (some ⟨b, 0, none⟩), .int .u8 (x : Int), .int .u8 0] w fun e w' => e = .returned (.int .u8 0) ∧ w = w' := by
  have t0 : ((x : Int) == 0) = false := by simp; omega
  go_enter Try.func72, Try.ntmps72
  go_wp2
  go_ret
  exact ⟨rfl, rfl⟩

set_option maxHeartbeats 400000 in
theorem tmul_some (b x y : Nat) (w : World) (ht : IsTab w b) (hx0 : x ≠ 0) (hx : x < 256) (hy0 : y ≠ 0) (hy : y < 256) :
    Calls Try.prog 72 #[.pointer (some ⟨b, 0, none⟩), .int .u8 (x : Int), .int .u8 (y : Int)] w fun e w' => e = .returned (.int .u8 ((Gf.gm x y : Nat) : Int)) ∧ ∃ n, w' = w.drewN n := by
  have hlx := Gf.lg_lt x hx0 hx
  have hly := Gf.lg_lt y hy0 hy
  have hc1 := ht.log x hx0 hx
  have hc2 := ht.log y hy0 hy
  have hc3 := ht.pow ((Gf.lg x + Gf.lg y) % 255) (Nat.mod_lt _ (by omega))
  have HE : Hid (Gf.gm x y = Gf.pw ((Gf.lg x + Gf.lg y) % 255)) := by show Gf.gm x y = _; rw [Gf.gm_pw x y hx0 hy0 hx hy, Gf.pw_mod]
  have hr : (Gf.lg x + Gf.lg y) % 255 < 255 := Nat.mod_lt _ (by omega)
  have t0 : ((x : Int) == 0) = false := by simp; omega
  have t1 : ((y : Int) == 0) = false := by simp; omega
  clear ht
  have hw : IntKind.i64.wrap (((Gf.lg x : Nat) : Int) + ((Gf.lg y : Nat) : Int)) = ((Gf.lg x : Nat) : Int) + ((Gf.lg y : Nat) : Int) := IntWalk.i64_in _ (by omega)
  go_enter Try.func72, Try.ntmps72
  go_wp2
  go_quiet ((go_at_call 81; exact Calls.quiet_of_same (rem_add _ _ _)))
  go_wp2
  go_ret
  exact ⟨ret_u8 (by rw [HE.out]), nq, rfl⟩

theorem tmul_any (b x y : Nat) (w : World) (ht : IsTab w b) (hx : x < 256) (hy : y < 256) :
    Calls Try.prog 72 #[.pointer (some ⟨b, 0, none⟩), .int .u8 (x : Int), .int .u8 (y : Int)] w fun e w' => e = .returned (.int .u8 ((Gf.gm x y : Nat) : Int)) ∧ ∃ n, w' = w.drewN n := by
  by_cases h0 : x = 0
  · subst h0; rw [Gf.zero_gm]; exact (tmul_left b y w).mono fun e w' ⟨h, h'⟩ => ⟨h, 0, h'.symm⟩
  · by_cases h1 : y = 0
    · subst h1; rw [Gf.gm_zero]; exact (tmul_right b x h0 w).mono fun e w' ⟨h, h'⟩ => ⟨h, 0, h'.symm⟩
    · exact tmul_some b x y w ht h0 hx h1 hy

end Go.Proofs.Ytjefjlalebpodaa

namespace Go.Proofs.Ytjefjlalebpodaa
open Go.RowKit

/-- A row of cells that holds the powers and the logarithms. -/
structure TabCells (cs : Array Value) : Prop where
  pow : ∀ i, i < 255 → cs[i]? = some (.int .u8 ((Gf.pw i : Nat) : Int))
  log : ∀ a, a ≠ 0 → a < 256 → cs[255 + a]? = some (.int .u8 ((Gf.lg a : Nat) : Int))

theorem TabCells.isTab {cs : Array Value} (h : TabCells cs) (w : World) (t : TypeId) : IsTab (w.alloc (.cells cs t)) w.heap.size where
  pow i hi := by rw [World.cell?_alloc_at (hn := rfl)]; exact h.pow i hi
  log a h0 ha := by rw [World.cell?_alloc_at (hn := rfl)]; exact h.log a h0 ha

theorem made_ex (w : World) :
    Calls Try.prog 68 #[] w fun e w' => e = .returned (.pointer (some ⟨w.heap.size, 0, none⟩)) ∧ ∃ cs, TabCells cs ∧ w.alloc (.cells cs 108) = w' :=
  (made_any w).mono fun e w' ⟨h, h'⟩ => ⟨h, tab 255, ⟨fun i hi => tab_pow 255 (by omega) i hi, fun a h0 ha => by
    have := tab_log 255 (by omega) (Gf.lg a) (Gf.lg_lt a h0 ha)
    rw [Gf.pw_lg a h0 ha] at this
    exact this⟩, h'⟩

theorem below_one (w : World) (o : Obj) : Below w.heap.size w (w.alloc o) := (Below.refl _ _).alloc (Nat.le_refl _) _

theorem quiet_left' {P : Program} {f : FuncId} {args : Array Value} {w : World} {n : Nat} {v : Value}
    (h : Calls P f args (w.drewN n) fun e w' => e = .returned v ∧ w.drewN n = w') : Calls P f args (w.drewN n) fun e w'' => e = .returned v ∧ ∃ m, w'' = w.drewN m :=
  h.mono fun _ _ h => ⟨h.1, _, h.2.symm⟩

theorem drop_get (ps : List Nat) (j : Nat) (h : j < ps.length) : ps.drop j = ps.getD j 0 :: ps.drop (j + 1) := by
  rw [List.drop_eq_getElem_cons h, List.getD_eq_getElem?_getD, List.getElem?_eq_getElem h]; rfl

end Go.Proofs.Ytjefjlalebpodaa
