/-
  What gf's small functions do: sums, doubling, products (a jump back), remainders.
  What gf.Add, gf.Mul, the reference's Mul and Power do.
  What gf.Made makes: a block of 511 cells, the powers and the logarithms.
  What gf.Inv, gf.Log, gf.Pow and gf.Eval do.
-/
import Derived.Test.YtdgpbdedaafdiaaGreatRows
import Derived.Test.YtdgpbdedaafdiaaGreatGf
import Derived.WalkKit
import Derived.WalkSpells
import Derived.WalkLawsBesides
import Derived.ScopeJumps
import Derived.Lib.Hide
import Derived.Deep.QuietTactic
import Derived.BigQuiet
import Derived.Deep.RegionHeld3
namespace Go.Proofs.YtdgpbdedaafdiaaGreat
open Go.RowKit

theorem ret_u8 {a b : Int} (h : a = b) : Ending.returned (.int .u8 a) = .returned (.int .u8 b) := by rw [h]
theorem ret_i64 {a b : Int} (h : a = b) : Ending.returned (.int .i64 a) = .returned (.int .i64 b) := by rw [h]

theorem and128 (a : Nat) (ha : a < 256) : (bits BinOp.and IntKind.u8 (a : Int) 128 != 0) = decide (a / 2 ^ 7 % 2 = 1) := by
  rw [show (128 : Int) = ((128 : Nat) : Int) by rfl, u8_and_nat a 128 ha (by omega)]
  have h : ∀ a < 256, (a &&& 128 != 0) = decide (a / 2 ^ 7 % 2 = 1) := by decide +kernel
  rw [← h a ha, Bool.eq_iff_iff]
  simp

theorem and1 (a : Nat) (ha : a < 256) : (bits BinOp.and IntKind.u8 (a : Int) 1 != 0) = decide (a % 2 = 1) := by
  rw [show (1 : Int) = ((1 : Nat) : Int) by rfl, u8_and_nat a 1 ha (by omega), Nat.and_one_is_mod, Bool.eq_iff_iff]
  simp
  omega

theorem dbl_yes (a : Nat) (_ : a < 256) (h : a / 2 ^ 7 % 2 = 1) : bits BinOp.xor IntKind.u8 ((a : Int) * 2 % 256) 29 = ((Gf.dbl a : Nat) : Int) := by
  rw [show (29 : Int) = ((29 : Nat) : Int) by rfl, show ((a : Int) * 2 % 256) = ((a * 2 % 256 : Nat) : Int) by omega, u8_xor_nat _ _ (by omega) (by omega)]
  unfold Gf.dbl
  rw [if_pos h]

theorem dbl_no (a : Nat) (h : ¬ a / 2 ^ 7 % 2 = 1) : (a : Int) * 2 % 256 = ((Gf.dbl a : Nat) : Int) := by
  unfold Gf.dbl
  rw [if_neg h, Nat.xor_zero]
  omega

theorem tmod255 (n : Int) : (if n.tmod 255 < 0 then n.tmod 255 + 255 else n.tmod 255) = n % 255 := by
  have h1 := Int.tmod_def n 255
  have h2 := Int.emod_def n 255
  rcases Int.le_total 0 n with h | h
  · have := Int.tmod_eq_emod_of_nonneg (b := 255) h
    rw [if_neg (by rw [this]; omega), this]
  · have := Int.neg_tmod (-n) 255
    rw [Int.neg_neg] at this
    rw [this, Int.tmod_eq_emod_of_nonneg (b := 255) (show 0 ≤ -n by omega)]
    split <;> omega

theorem gm_odd (n x y p A B : Nat) (h : Gf.gm A B = p ^^^ Gf.gmN n x y) (hn : y < 2 ^ n) (hy : y % 2 = 1) : ∃ m, y / 2 < 2 ^ m ∧ Gf.gm A B = (p ^^^ x) ^^^ Gf.gmN m (Gf.dbl x) (y / 2) := by
  cases n with
  | zero => exfalso; simp at hn; omega
  | succ m =>
    refine ⟨m, by rw [Nat.pow_succ] at hn; omega, ?_⟩
    rw [h]
    show p ^^^ ((if y / 2 ^ 0 % 2 = 1 then x else 0) ^^^ Gf.gmN m (Gf.dbl x) (y / 2 ^ 1)) = _
    rw [if_pos (by simpa using hy), Nat.xor_assoc]

theorem gm_even (n x y p A B : Nat) (h : Gf.gm A B = p ^^^ Gf.gmN n x y) (hn : y < 2 ^ n) (hy : ¬ y % 2 = 1) : ∃ m, y / 2 < 2 ^ m ∧ Gf.gm A B = p ^^^ Gf.gmN m (Gf.dbl x) (y / 2) := by
  cases n with
  | zero => refine ⟨0, by simp at hn; simp [hn], ?_⟩; rw [h]; rfl
  | succ m =>
    refine ⟨m, by rw [Nat.pow_succ] at hn; omega, ?_⟩
    rw [h]
    show p ^^^ ((if y / 2 ^ 0 % 2 = 1 then x else 0) ^^^ Gf.gmN m (Gf.dbl x) (y / 2 ^ 1)) = _
    rw [if_neg (by simpa using hy), Nat.zero_xor]

theorem gm_last {n x p A B : Nat} (h : Gf.gm A B = p ^^^ Gf.gmN n x 0) : (p : Int) = ((Gf.gm A B : Nat) : Int) := by
  rw [h, Gf.gmN_zero, Nat.xor_zero]

theorem and1_yes (a : Nat) (ha : a < 256) (h : a % 2 = 1) : (bits BinOp.and IntKind.u8 (a : Int) 1 != 0) = true := by rw [and1 a ha]; simpa using h
theorem and1_no (a : Nat) (ha : a < 256) (h : ¬ a % 2 = 1) : (bits BinOp.and IntKind.u8 (a : Int) 1 != 0) = false := by rw [and1 a ha]; simpa using h
theorem half_more (y : Nat) (h : ¬ y / 2 = 0) : ((y : Int) / 2 != 0) = true := by simp; omega
theorem half_none (y : Nat) (h : y / 2 = 0) : ((y : Int) / 2 != 0) = false := by simp; omega

end Go.Proofs.YtdgpbdedaafdiaaGreat

namespace Go.Proofs.YtdgpbdedaafdiaaGreat
open Go.RowKit

theorem i64_xor_nat (a b : Nat) (ha : a < 2 ^ 31) (hb : b < 2 ^ 31) : bits .xor .i64 (a : Int) (b : Int) = ((a ^^^ b : Nat) : Int) := by
  have ha' : a % 2 ^ IntKind.i64.bits = a := Nat.mod_eq_of_lt (by show a < 2 ^ 64; omega)
  have hb' : b % 2 ^ IntKind.i64.bits = b := Nat.mod_eq_of_lt (by show b < 2 ^ 64; omega)
  have hx : a ^^^ b < 2 ^ 31 := Nat.xor_lt_two_pow ha hb
  simp only [bits, BitVec.ofInt_natCast, BitVec.toNat_xor, BitVec.toNat_ofNat, ha', hb']
  rw [IntKind.wrap_i64]
  omega

theorem i64_and1_nat (a : Nat) (ha : a < 2 ^ 31) : bits .and .i64 (a : Int) 1 = ((a % 2 : Nat) : Int) := by
  have h := (bits_nat .i64 31 (by decide) (fun n h0 h1 => by rw [IntKind.wrap_i64]; omega) a 1 ha (by omega)).1
  rw [Nat.and_one_is_mod] at h
  exact h

theorem fullN_lt (a b : Nat) (ha : a < 256) : ∀ k, k ≤ 8 → Gf.fullN a b k < 2 ^ 16
  | 0, _ => by simp [Gf.fullN]
  | k + 1, h => by
    refine Nat.xor_lt_two_pow (fullN_lt a b ha k (by omega)) ?_
    have : (2 : Nat) ^ k ≤ 2 ^ 7 := Nat.pow_le_pow_right (by omega) (by omega)
    split
    · calc a * 2 ^ k ≤ a * 2 ^ 7 := Nat.mul_le_mul_left _ this
        _ < 2 ^ 16 := by omega
    · omega

theorem restN_lt (l : Nat) (hl : l < 2 ^ 16) : ∀ k, Gf.restN l k < 2 ^ 16
  | 0 => hl
  | k + 1 => by
    refine Nat.xor_lt_two_pow (restN_lt l hl k) ?_
    have : (2 : Nat) ^ (6 - k) ≤ 2 ^ 6 := Nat.pow_le_pow_right (by omega) (by omega)
    split
    · calc 285 * 2 ^ (6 - k) ≤ 285 * 2 ^ 6 := Nat.mul_le_mul_left _ this
        _ < 2 ^ 16 := by omega
    · omega

theorem bit8 (b k : Nat) (hb : b < 256) : (bits BinOp.and IntKind.u8 ((b : Int) / 2 ^ k) 1 == 1) = decide (b / 2 ^ k % 2 = 1) := by
  have e : (b : Int) / 2 ^ k = ((b / 2 ^ k : Nat) : Int) := by simp
  have hl : b / 2 ^ k < 256 := Nat.lt_of_le_of_lt (Nat.div_le_self _ _) hb
  rw [e, show (1 : Int) = ((1 : Nat) : Int) by rfl, u8_and_nat _ 1 hl (by omega), Nat.and_one_is_mod, Bool.eq_iff_iff]
  simp
  omega

theorem bit64 (l j : Nat) (hl : l < 2 ^ 16) : (bits BinOp.and IntKind.i64 ((l : Int) / 2 ^ j) 1 == 1) = decide (l / 2 ^ j % 2 = 1) := by
  have e : (l : Int) / 2 ^ j = ((l / 2 ^ j : Nat) : Int) := by simp
  have hl : l / 2 ^ j < 2 ^ 31 := Nat.lt_of_le_of_lt (Nat.div_le_self _ _) (by omega)
  rw [e, i64_and1_nat _ hl, Bool.eq_iff_iff]
  simp
  omega

theorem full_yes (a b k : Nat) (ha : a < 256) (hk : k < 8) (h : b / 2 ^ k % 2 = 1) : bits BinOp.xor IntKind.i64 ((Gf.fullN a b k : Nat) : Int) (wrap64 ((a : Int) * 2 ^ k)) = ((Gf.fullN a b (k + 1) : Nat) : Int) := by
  have hp : (2 : Nat) ^ k ≤ 2 ^ 7 := Nat.pow_le_pow_right (by omega) (by omega)
  have hl : a * 2 ^ k < 2 ^ 15 := Nat.lt_of_le_of_lt (Nat.mul_le_mul_left _ hp) (by omega)
  have e : (a : Int) * 2 ^ k = ((a * 2 ^ k : Nat) : Int) := by simp
  have hf := fullN_lt a b ha k (by omega)
  rw [e, IntWalk.wrap64_in _ (by omega), i64_xor_nat _ _ (by omega) (by omega)]
  show _ = ((Gf.fullN a b k ^^^ (if b / 2 ^ k % 2 = 1 then a * 2 ^ k else 0) : Nat) : Int)
  rw [if_pos h]

theorem full_no (a b k : Nat) (h : ¬ b / 2 ^ k % 2 = 1) : Gf.fullN a b k = Gf.fullN a b (k + 1) := by
  show _ = Gf.fullN a b k ^^^ (if b / 2 ^ k % 2 = 1 then a * 2 ^ k else 0)
  rw [if_neg h, Nat.xor_zero]

theorem rest_yes (l j : Nat) (hl : l < 2 ^ 16) (h8 : 8 ≤ j) (h14 : j ≤ 14) (h : Gf.restN l (14 - j) / 2 ^ j % 2 = 1) : bits BinOp.xor IntKind.i64 ((Gf.restN l (14 - j) : Nat) : Int) (wrap64 (285 * 2 ^ (j - 8))) = ((Gf.restN l (14 - (j - 1)) : Nat) : Int) := by
  have hp : (2 : Nat) ^ (j - 8) ≤ 2 ^ 6 := Nat.pow_le_pow_right (by omega) (by omega)
  have e : (285 : Int) * 2 ^ (j - 8) = ((285 * 2 ^ (j - 8) : Nat) : Int) := by simp
  have hf := restN_lt l hl (14 - j)
  rw [e, IntWalk.wrap64_in _ (by omega), i64_xor_nat _ _ (by omega) (by omega), show 14 - (j - 1) = (14 - j) + 1 by omega]
  show _ = ((Gf.restN l (14 - j) ^^^ (if Gf.restN l (14 - j) / 2 ^ (14 - (14 - j)) % 2 = 1 then 285 * 2 ^ (6 - (14 - j)) else 0) : Nat) : Int)
  rw [show 14 - (14 - j) = j by omega, if_pos h, show 6 - (14 - j) = j - 8 by omega]

theorem rest_no (l j : Nat) (h8 : 8 ≤ j) (h14 : j ≤ 14) (h : ¬ Gf.restN l (14 - j) / 2 ^ j % 2 = 1) : Gf.restN l (14 - j) = Gf.restN l (14 - (j - 1)) := by
  rw [show 14 - (j - 1) = (14 - j) + 1 by omega]
  show _ = Gf.restN l (14 - j) ^^^ (if Gf.restN l (14 - j) / 2 ^ (14 - (14 - j)) % 2 = 1 then 285 * 2 ^ (6 - (14 - j)) else 0)
  rw [show 14 - (14 - j) = j by omega, if_neg h, Nat.xor_zero]

end Go.Proofs.YtdgpbdedaafdiaaGreat

namespace Go.Proofs.YtdgpbdedaafdiaaGreat
open Go.RowKit

/-- The block behind n rounds. -/
def tab : Nat → Array Value
  | 0 => Array.replicate 511 (.int .u8 0)
  | n + 1 => ((tab n).setIfInBounds n (.int .u8 ((Gf.pw n : Nat) : Int))).setIfInBounds (255 + Gf.pw n) (.int .u8 (n : Int))

theorem tab_size (n : Nat) : (tab n).size = 511 := by
  induction n with
  | zero => simp [tab]
  | succ n ih => simp [tab, ih]

theorem pw_inj (i j : Nat) (hi : i < 255) (hj : j < 255) (h : Gf.pw i = Gf.pw j) : i = j := by
  rw [← Gf.lg_pw i hi, h, Gf.lg_pw j hj]

theorem tab_pow (n : Nat) (hn : n ≤ 255) (i : Nat) (hi : i < n) : (tab n)[i]? = some (.int .u8 ((Gf.pw i : Nat) : Int)) := by
  induction n with
  | zero => omega
  | succ n ih =>
    show (((tab n).setIfInBounds n _).setIfInBounds (255 + Gf.pw n) _)[i]? = _
    rw [Array.getElem?_setIfInBounds_ne (by omega)]
    by_cases h : i = n
    · subst h; rw [Array.getElem?_setIfInBounds_self_of_lt (by rw [tab_size]; omega)]
    · rw [Array.getElem?_setIfInBounds_ne (by omega)]; exact ih (by omega) (by omega)

theorem tab_log (n : Nat) (hn : n ≤ 255) (i : Nat) (hi : i < n) : (tab n)[255 + Gf.pw i]? = some (.int .u8 (i : Int)) := by
  induction n with
  | zero => omega
  | succ n ih =>
    show (((tab n).setIfInBounds n _).setIfInBounds (255 + Gf.pw n) _)[255 + Gf.pw i]? = _
    by_cases h : i = n
    · subst h
      have := Gf.pw_lt i
      rw [Array.getElem?_setIfInBounds_self_of_lt (by rw [Array.size_setIfInBounds, tab_size]; omega)]
    · rw [Array.getElem?_setIfInBounds_ne (by intro e; exact h (pw_inj i n (by omega) (by omega) (by omega))), Array.getElem?_setIfInBounds_ne (by omega)]
      exact ih (by omega) (by omega)

/-- Block b holds the table that Made makes. -/
structure IsTab (w : World) (b : Nat) : Prop where
  pow : ∀ i, i < 255 → w.cell? ⟨b, i, none⟩ = some (.int .u8 ((Gf.pw i : Nat) : Int))
  log : ∀ a, a ≠ 0 → a < 256 → w.cell? ⟨b, 255 + a, none⟩ = some (.int .u8 ((Gf.lg a : Nat) : Int))

theorem IsTab.new (w : World) (t : TypeId) : IsTab (w.alloc (.cells (tab 255) t)) w.heap.size where
  pow i hi := by rw [World.cell?_alloc_at (hn := rfl)]; exact tab_pow 255 (by omega) i hi
  log a h0 h := by
    rw [World.cell?_alloc_at (hn := rfl)]
    have := tab_log 255 (by omega) (Gf.lg a) (Gf.lg_lt a h0 h)
    rw [Gf.pw_lg a h0 h] at this
    exact this

theorem IsTab.below {w w' : World} {b : Nat} (h : IsTab w b) (hb : Below w.heap.size w w') (hs : b < w.heap.size) : IsTab w' b where
  pow i hi := by rw [hb.cell (p := ⟨b, i, none⟩) hs]; exact h.pow i hi
  log a h0 h1 := by rw [hb.cell (p := ⟨b, 255 + a, none⟩) hs]; exact h.log a h0 h1

theorem below_drewN (w : World) (n : Nat) : Below w.heap.size w (w.drewN n) := ⟨rfl, rfl, rfl, Nat.le_refl _, fun _ _ => rfl⟩

end Go.Proofs.YtdgpbdedaafdiaaGreat

namespace Go.Proofs.YtdgpbdedaafdiaaGreat
open Go.RowKit

/-- A row of cells that holds the powers and the logarithms. -/
structure TabCells (cs : Array Value) : Prop where
  pow : ∀ i, i < 255 → cs[i]? = some (.int .u8 ((Gf.pw i : Nat) : Int))
  log : ∀ a, a ≠ 0 → a < 256 → cs[255 + a]? = some (.int .u8 ((Gf.lg a : Nat) : Int))

theorem TabCells.isTab {cs : Array Value} (h : TabCells cs) (w : World) (t : TypeId) : IsTab (w.alloc (.cells cs t)) w.heap.size where
  pow i hi := by rw [World.cell?_alloc_at (hn := rfl)]; exact h.pow i hi
  log a h0 ha := by rw [World.cell?_alloc_at (hn := rfl)]; exact h.log a h0 ha

theorem below_one (w : World) (o : Obj) : Below w.heap.size w (w.alloc o) := (Below.refl _ _).alloc (Nat.le_refl _) _

theorem quiet_left' {P : Program} {f : FuncId} {args : Array Value} {w : World} {n : Nat} {v : Value}
    (h : Calls P f args (w.drewN n) fun e w' => e = .returned v ∧ w.drewN n = w') : Calls P f args (w.drewN n) fun e w'' => e = .returned v ∧ ∃ m, w'' = w.drewN m :=
  h.mono fun _ _ h => ⟨h.1, _, h.2.symm⟩

theorem drop_get (ps : List Nat) (j : Nat) (h : j < ps.length) : ps.drop j = ps.getD j 0 :: ps.drop (j + 1) := by
  rw [List.drop_eq_getElem_cons h, List.getD_eq_getElem?_getD, List.getElem?_eq_getElem h]; rfl

end Go.Proofs.YtdgpbdedaafdiaaGreat
