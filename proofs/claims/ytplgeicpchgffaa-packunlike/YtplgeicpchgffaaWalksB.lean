/-
  What gf.Add, gf.Mul, the reference's Mul and Power do.
-/
import Derived.Test.YtplgeicpchgffaaWalksA
namespace Go.Proofs.Ytplgeicpchgffaa
open Go.RowKit

theorem i64_xor_nat (a b : Nat) (ha : a < 2 ^ 31) (hb : b < 2 ^ 31) : bits .xor .i64 (a : Int) (b : Int) = ((a ^^^ b : Nat) : Int) := by
  have ha' : a % 2 ^ IntKind.i64.bits = a := Nat.mod_eq_of_lt (by show a < 2 ^ 64; omega)
  have hb' : b % 2 ^ IntKind.i64.bits = b := Nat.mod_eq_of_lt (by show b < 2 ^ 64; omega)
  have hx : a ^^^ b < 2 ^ 31 := Nat.xor_lt_two_pow ha hb
  simp only [bits, BitVec.ofInt_natCast, BitVec.toNat_xor, BitVec.toNat_ofNat, ha', hb']
  rw [IntKind.wrap_i64]
  omega

theorem i64_and1_nat (a : Nat) (ha : a < 2 ^ 31) : bits .and .i64 (a : Int) 1 = ((a % 2 : Nat) : Int) := by
  have h := (bits_nat .i64 31 (by decide) (fun n h0 h1 => by rw [IntKind.wrap_i64]; omega) a 1 ha (by omega)).1
  rw [Nat.and_one_is_mod] at h
  exact h

theorem fullN_lt (a b : Nat) (ha : a < 256) : ∀ k, k ≤ 8 → Gf.fullN a b k < 2 ^ 16
  | 0, _ => by simp [Gf.fullN]
  | k + 1, h => by
    refine Nat.xor_lt_two_pow (fullN_lt a b ha k (by omega)) ?_
    have : (2 : Nat) ^ k ≤ 2 ^ 7 := Nat.pow_le_pow_right (by omega) (by omega)
    split
    · calc a * 2 ^ k ≤ a * 2 ^ 7 := Nat.mul_le_mul_left _ this
        _ < 2 ^ 16 := by omega
    · omega

theorem restN_lt (l : Nat) (hl : l < 2 ^ 16) : ∀ k, Gf.restN l k < 2 ^ 16
  | 0 => hl
  | k + 1 => by
    refine Nat.xor_lt_two_pow (restN_lt l hl k) ?_
    have : (2 : Nat) ^ (6 - k) ≤ 2 ^ 6 := Nat.pow_le_pow_right (by omega) (by omega)
    split
    · calc 285 * 2 ^ (6 - k) ≤ 285 * 2 ^ 6 := Nat.mul_le_mul_left _ this
        _ < 2 ^ 16 := by omega
    · omega

theorem bit8 (b k : Nat) (hb : b < 256) : (bits BinOp.and IntKind.u8 ((b : Int) / 2 ^ k) 1 == 1) = decide (b / 2 ^ k % 2 = 1) := by
  have e : (b : Int) / 2 ^ k = ((b / 2 ^ k : Nat) : Int) := by simp
  have hl : b / 2 ^ k < 256 := Nat.lt_of_le_of_lt (Nat.div_le_self _ _) hb
  rw [e, show (1 : Int) = ((1 : Nat) : Int) by rfl, u8_and_nat _ 1 hl (by omega), Nat.and_one_is_mod, Bool.eq_iff_iff]
  simp
  omega

theorem bit64 (l j : Nat) (hl : l < 2 ^ 16) : (bits BinOp.and IntKind.i64 ((l : Int) / 2 ^ j) 1 == 1) = decide (l / 2 ^ j % 2 = 1) := by
  have e : (l : Int) / 2 ^ j = ((l / 2 ^ j : Nat) : Int) := by simp
  have hl : l / 2 ^ j < 2 ^ 31 := Nat.lt_of_le_of_lt (Nat.div_le_self _ _) (by omega)
  rw [e, i64_and1_nat _ hl, Bool.eq_iff_iff]
  simp
  omega

theorem full_yes (a b k : Nat) (ha : a < 256) (hk : k < 8) (h : b / 2 ^ k % 2 = 1) : bits BinOp.xor IntKind.i64 ((Gf.fullN a b k : Nat) : Int) (wrap64 ((a : Int) * 2 ^ k)) = ((Gf.fullN a b (k + 1) : Nat) : Int) := by
  have hp : (2 : Nat) ^ k ≤ 2 ^ 7 := Nat.pow_le_pow_right (by omega) (by omega)
  have hl : a * 2 ^ k < 2 ^ 15 := Nat.lt_of_le_of_lt (Nat.mul_le_mul_left _ hp) (by omega)
  have e : (a : Int) * 2 ^ k = ((a * 2 ^ k : Nat) : Int) := by simp
  have hf := fullN_lt a b ha k (by omega)
  rw [e, IntWalk.wrap64_in _ (by omega), i64_xor_nat _ _ (by omega) (by omega)]
  show _ = ((Gf.fullN a b k ^^^ (if b / 2 ^ k % 2 = 1 then a * 2 ^ k else 0) : Nat) : Int)
  rw [if_pos h]

theorem full_no (a b k : Nat) (h : ¬ b / 2 ^ k % 2 = 1) : Gf.fullN a b k = Gf.fullN a b (k + 1) := by
  show _ = Gf.fullN a b k ^^^ (if b / 2 ^ k % 2 = 1 then a * 2 ^ k else 0)
  rw [if_neg h, Nat.xor_zero]

theorem rest_yes (l j : Nat) (hl : l < 2 ^ 16) (h8 : 8 ≤ j) (h14 : j ≤ 14) (h : Gf.restN l (14 - j) / 2 ^ j % 2 = 1) : bits BinOp.xor IntKind.i64 ((Gf.restN l (14 - j) : Nat) : Int) (wrap64 (285 * 2 ^ (j - 8))) = ((Gf.restN l (14 - (j - 1)) : Nat) : Int) := by
  have hp : (2 : Nat) ^ (j - 8) ≤ 2 ^ 6 := Nat.pow_le_pow_right (by omega) (by omega)
  have e : (285 : Int) * 2 ^ (j - 8) = ((285 * 2 ^ (j - 8) : Nat) : Int) := by simp
  have hf := restN_lt l hl (14 - j)
  rw [e, IntWalk.wrap64_in _ (by omega), i64_xor_nat _ _ (by omega) (by omega), show 14 - (j - 1) = (14 - j) + 1 by omega]
  show _ = ((Gf.restN l (14 - j) ^^^ (if Gf.restN l (14 - j) / 2 ^ (14 - (14 - j)) % 2 = 1 then 285 * 2 ^ (6 - (14 - j)) else 0) : Nat) : Int)
  rw [show 14 - (14 - j) = j by omega, if_pos h, show 6 - (14 - j) = j - 8 by omega]

theorem rest_no (l j : Nat) (h8 : 8 ≤ j) (h14 : j ≤ 14) (h : ¬ Gf.restN l (14 - j) / 2 ^ j % 2 = 1) : Gf.restN l (14 - j) = Gf.restN l (14 - (j - 1)) := by
  rw [show 14 - (j - 1) = (14 - j) + 1 by omega]
  show _ = Gf.restN l (14 - j) ^^^ (if Gf.restN l (14 - j) / 2 ^ (14 - (14 - j)) % 2 = 1 then 285 * 2 ^ (6 - (14 - j)) else 0)
  rw [show 14 - (14 - j) = j by omega, if_neg h, Nat.xor_zero]

end Go.Proofs.Ytplgeicpchgffaa
