/-
  What gf's small functions do: sums, doubling, products (a jump back), remainders.
-/
import Derived.Test.YtjefjlalebpodaaRows
import Derived.Test.YtjefjlalebpodaaGf
import Derived.WalkKit
import Derived.WalkSpells
import Derived.WalkLawsBesides
import Derived.ScopeJumps
import Derived.Lib.Hide
namespace Go.Proofs.Ytjefjlalebpodaa
open Go.RowKit

theorem ret_u8 {a b : Int} (h : a = b) : Ending.returned (.int .u8 a) = .returned (.int .u8 b) := by rw [h]
theorem ret_i64 {a b : Int} (h : a = b) : Ending.returned (.int .i64 a) = .returned (.int .i64 b) := by rw [h]

set_option maxHeartbeats 400000 in
theorem plus_any (a b : Nat) (w : World) (ha : a < 256) (hb : b < 256) :
    Calls Try.prog 88 #[.int .u8 (a : Int), .int .u8 (b : Int)] w fun e w' => e = .returned (.int .u8 ((a ^^^ b : Nat) : Int)) ∧ w = w' := by
  go_enter Try.func88, Try.ntmps88
  go_wp2
  go_ret
  exact ⟨ret_u8 (u8_xor_nat a b ha hb), rfl⟩

theorem and128 (a : Nat) (ha : a < 256) : (bits BinOp.and IntKind.u8 (a : Int) 128 != 0) = decide (a / 2 ^ 7 % 2 = 1) := by
  rw [show (128 : Int) = ((128 : Nat) : Int) by rfl, u8_and_nat a 128 ha (by omega)]
  have h : ∀ a < 256, (a &&& 128 != 0) = decide (a / 2 ^ 7 % 2 = 1) := by decide +kernel
  rw [← h a ha, Bool.eq_iff_iff]
  simp

theorem and1 (a : Nat) (ha : a < 256) : (bits BinOp.and IntKind.u8 (a : Int) 1 != 0) = decide (a % 2 = 1) := by
  rw [show (1 : Int) = ((1 : Nat) : Int) by rfl, u8_and_nat a 1 ha (by omega), Nat.and_one_is_mod, Bool.eq_iff_iff]
  simp
  omega

theorem dbl_yes (a : Nat) (_ : a < 256) (h : a / 2 ^ 7 % 2 = 1) : bits BinOp.xor IntKind.u8 ((a : Int) * 2 % 256) 29 = ((Gf.dbl a : Nat) : Int) := by
  rw [show (29 : Int) = ((29 : Nat) : Int) by rfl, show ((a : Int) * 2 % 256) = ((a * 2 % 256 : Nat) : Int) by omega, u8_xor_nat _ _ (by omega) (by omega)]
  unfold Gf.dbl
  rw [if_pos h]

theorem dbl_no (a : Nat) (h : ¬ a / 2 ^ 7 % 2 = 1) : (a : Int) * 2 % 256 = ((Gf.dbl a : Nat) : Int) := by
  unfold Gf.dbl
  rw [if_neg h, Nat.xor_zero]
  omega

set_option maxHeartbeats 400000 in
theorem dbl_any (a : Nat) (w : World) (ha : a < 256) :
    Calls Try.prog 79 #[.int .u8 (a : Int)] w fun e w' => e = .returned (.int .u8 ((Gf.dbl a : Nat) : Int)) ∧ w = w' := by
  have h128 := and128 a ha
  by_cases h : a / 2 ^ 7 % 2 = 1
  · have hd : (bits BinOp.and IntKind.u8 (a : Int) 128 != 0) = true := by rw [h128]; simpa using h
    have HY := dbl_yes a ha h
    clear h128 h
    have HY2 : Hid _ := HY
    clear HY
    go_enter Try.func79, Try.ntmps79
    go_wp2
    go_ret
    exact ⟨ret_u8 HY2.out, rfl⟩
  · have hd : (bits BinOp.and IntKind.u8 (a : Int) 128 != 0) = false := by rw [h128]; simpa using h
    have HY := dbl_no a h
    clear h128 h
    have HY2 : Hid _ := HY
    clear HY
    go_enter Try.func79, Try.ntmps79
    go_wp2
    go_ret
    exact ⟨ret_u8 HY2.out, rfl⟩

theorem tmod255 (n : Int) : (if n.tmod 255 < 0 then n.tmod 255 + 255 else n.tmod 255) = n % 255 := by
  have h1 := Int.tmod_def n 255
  have h2 := Int.emod_def n 255
  rcases Int.le_total 0 n with h | h
  · have := Int.tmod_eq_emod_of_nonneg (b := 255) h
    rw [if_neg (by rw [this]; omega), this]
  · have := Int.neg_tmod (-n) 255
    rw [Int.neg_neg] at this
    rw [this, Int.tmod_eq_emod_of_nonneg (b := 255) (show 0 ≤ -n by omega)]
    split <;> omega

set_option maxHeartbeats 400000 in
theorem rem_any (n : Int) (w : World) :
    Calls Try.prog 81 #[.int .i64 n] w fun e w' => e = .returned (.int .i64 (n % 255)) ∧ w = w' := by
  have h1 : -255 < n.tmod 255 := by have := Int.lt_tmod_of_pos n (b := 255) (by omega); omega
  have h2 : n.tmod 255 < 255 := Int.tmod_lt_of_pos n (by omega)
  by_cases hn : n.tmod 255 < 0
  · have H : Hid (n.tmod 255 + 255 = n % 255) := by have h := tmod255 n; rw [if_pos hn] at h; exact h
    go_enter Try.func81, Try.ntmps81
    go_wp2
    go_ret
    exact ⟨ret_i64 H.out, rfl⟩
  · have H : Hid (n.tmod 255 = n % 255) := by have h := tmod255 n; rw [if_neg hn] at h; exact h
    go_enter Try.func81, Try.ntmps81
    go_wp2
    go_ret
    exact ⟨ret_i64 H.out, rfl⟩

theorem plus_zero (b : Nat) (w : World) (hb : b < 256) :
    Calls Try.prog 88 #[.int .u8 0, .int .u8 (b : Int)] w fun e w' => e = .returned (.int .u8 (b : Int)) ∧ w = w' :=
  (plus_any 0 b w (by omega) hb).mono fun e w' h => by rw [Nat.zero_xor] at h; exact h

theorem gm_odd (n x y p A B : Nat) (h : Gf.gm A B = p ^^^ Gf.gmN n x y) (hn : y < 2 ^ n) (hy : y % 2 = 1) : ∃ m, y / 2 < 2 ^ m ∧ Gf.gm A B = (p ^^^ x) ^^^ Gf.gmN m (Gf.dbl x) (y / 2) := by
  cases n with
  | zero => exfalso; simp at hn; omega
  | succ m =>
    refine ⟨m, by rw [Nat.pow_succ] at hn; omega, ?_⟩
    rw [h]
    show p ^^^ ((if y / 2 ^ 0 % 2 = 1 then x else 0) ^^^ Gf.gmN m (Gf.dbl x) (y / 2 ^ 1)) = _
    rw [if_pos (by simpa using hy), Nat.xor_assoc]

theorem gm_even (n x y p A B : Nat) (h : Gf.gm A B = p ^^^ Gf.gmN n x y) (hn : y < 2 ^ n) (hy : ¬ y % 2 = 1) : ∃ m, y / 2 < 2 ^ m ∧ Gf.gm A B = p ^^^ Gf.gmN m (Gf.dbl x) (y / 2) := by
  cases n with
  | zero => refine ⟨0, by simp at hn; simp [hn], ?_⟩; rw [h]; rfl
  | succ m =>
    refine ⟨m, by rw [Nat.pow_succ] at hn; omega, ?_⟩
    rw [h]
    show p ^^^ ((if y / 2 ^ 0 % 2 = 1 then x else 0) ^^^ Gf.gmN m (Gf.dbl x) (y / 2 ^ 1)) = _
    rw [if_neg (by simpa using hy), Nat.zero_xor]

theorem gm_last {n x p A B : Nat} (h : Gf.gm A B = p ^^^ Gf.gmN n x 0) : (p : Int) = ((Gf.gm A B : Nat) : Int) := by
  rw [h, Gf.gmN_zero, Nat.xor_zero]

theorem and1_yes (a : Nat) (ha : a < 256) (h : a % 2 = 1) : (bits BinOp.and IntKind.u8 (a : Int) 1 != 0) = true := by rw [and1 a ha]; simpa using h
theorem and1_no (a : Nat) (ha : a < 256) (h : ¬ a % 2 = 1) : (bits BinOp.and IntKind.u8 (a : Int) 1 != 0) = false := by rw [and1 a ha]; simpa using h
theorem half_more (y : Nat) (h : ¬ y / 2 = 0) : ((y : Int) / 2 != 0) = true := by simp; omega
theorem half_none (y : Nat) (h : y / 2 = 0) : ((y : Int) / 2 != 0) = false := by simp; omega

end Go.Proofs.Ytjefjlalebpodaa
