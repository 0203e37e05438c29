/-
  Whole numbers as float64: two of them, the second one from -5 to 15, are equal if the numbers are. No text of the program is named here.
-/
import GoSem.Op.Equal
namespace Go.Proofs.Ytggjpjpemgpeeaa
open Go Ieee

/-- A whole number as a float64. -/
def flt (x : Int) : Nat := FloatKind.f64.nearest x

theorem flt_near : ∀ x : Fin 31, ∀ a : Fin 21, Op.floatEq .f64 (flt ((x : Nat) - 15 : Int)) (flt ((a : Nat) - 5 : Int)) = decide (((x : Nat) - 15 : Int) = ((a : Nat) - 5 : Int)) := by decide +kernel

def lowD : Datum → Bool
  | .number _ n j => decide (n < 9007199254740992) && decide (j ≤ -49)
  | _ => false

theorem flt_low : ∀ a : Fin 21, lowD (double.read (flt ((a : Nat) - 5 : Int))) = true := by decide +kernel

def highD : Datum → Bool
  | .number _ n j => decide (4503599627370496 ≤ n) && decide (-48 ≤ j)
  | _ => false

theorem cut_zero (neg : Bool) (n : Nat) : Toward.even.cut neg n 0 = n := by
  unfold Toward.cut
  simp [Nat.mod_one]

theorem cut_near (neg : Bool) (n d : Nat) (hd : d ≤ n.log2 + 2) : n / 2 ^ d ≤ Toward.even.cut neg n d ∧ Toward.even.cut neg n d ≤ n / 2 ^ d + 1 := by
  unfold Toward.cut
  rw [Nat.min_eq_left hd, Nat.one_shiftLeft]
  dsimp only
  refine ⟨Nat.le_add_right _ _, Nat.add_le_add_left ?_ _⟩
  generalize (_ || _ : Bool) = b
  cases b <;> decide

theorem kept_in (neg : Bool) (mag : Nat) (h0 : mag ≠ 0) (h : mag.log2 ≤ 63) :
    let last : Int := (mag.log2 : Int) - 52
    4503599627370496 ≤ Toward.even.cut neg (mag <<< (0 - last).toNat) (last - 0).toNat ∧ Toward.even.cut neg (mag <<< (0 - last).toNat) (last - 0).toNat ≤ 9007199254740992 := by
  dsimp only
  have hl : 2 ^ mag.log2 ≤ mag := Nat.log2_self_le h0
  have hu : mag < 2 ^ (mag.log2 + 1) := Nat.lt_log2_self
  have hlog : ∃ k, k = mag.log2 := ⟨_, rfl⟩
  obtain ⟨k, hk⟩ := hlog
  rw [← hk] at hl hu h ⊢
  by_cases hc : k ≤ 52
  · rw [show (((k : Nat) : Int) - 52 - 0).toNat = 0 by omega, show (0 - (((k : Nat) : Int) - 52)).toNat = 52 - k by omega, cut_zero, Nat.shiftLeft_eq]
    have e1 : 2 ^ k * 2 ^ (52 - k) = 4503599627370496 := by rw [← Nat.pow_add, show k + (52 - k) = 52 by omega]
    have e2 : 2 ^ (k + 1) * 2 ^ (52 - k) = 9007199254740992 := by rw [← Nat.pow_add, show k + 1 + (52 - k) = 53 by omega]
    refine ⟨?_, ?_⟩
    · rw [← e1]; exact Nat.mul_le_mul_right _ hl
    · rw [← e2]; exact Nat.mul_le_mul_right _ (Nat.le_of_lt hu)
  · rw [show (0 - (((k : Nat) : Int) - 52)).toNat = 0 by omega, show (((k : Nat) : Int) - 52 - 0).toNat = k - 52 by omega, Nat.shiftLeft_zero]
    have hb := cut_near neg mag (k - 52) (by omega)
    have e1 : 4503599627370496 * 2 ^ (k - 52) = 2 ^ k := by rw [show 4503599627370496 = 2 ^ 52 from rfl, ← Nat.pow_add, show 52 + (k - 52) = k by omega]
    have e2 : 9007199254740992 * 2 ^ (k - 52) = 2 ^ (k + 1) := by rw [show 9007199254740992 = 2 ^ 53 from rfl, ← Nat.pow_add, show 53 + (k - 52) = k + 1 by omega]
    have hp : 0 < 2 ^ (k - 52) := Nat.two_pow_pos _
    have h1 : 4503599627370496 ≤ mag / 2 ^ (k - 52) := (Nat.le_div_iff_mul_le hp).2 (by rw [e1]; exact hl)
    have h2 : mag / 2 ^ (k - 52) < 9007199254740992 := (Nat.div_lt_iff_lt_mul hp).2 (by rw [e2]; exact hu)
    omega

theorem least : double.leastPlace = -1074 := by decide +kernel
theorem binade_is : double.binade = 4503599627370496 := by decide +kernel
theorem inf_is : double.infRung = 9218868437227405312 := by decide +kernel
theorem sign_is : double.signWeight = 9223372036854775808 := by decide +kernel

theorem read_word (neg : Bool) (rung : Nat) (h1 : 4625196817309499392 ≤ rung) (h2 : rung < 9218868437227405312) : highD (double.read (double.word neg rung)) = true := by
  have hr : double.word neg rung % 9223372036854775808 = rung := by
    unfold Format.word
    rw [sign_is]
    cases neg
    · simp; omega
    · simp; omega
  unfold Format.read
  simp only [sign_is, binade_is, inf_is, least]
  rw [hr, if_neg (by omega), if_pos h2]
  unfold highD
  simp only [Bool.and_eq_true, decide_eq_true_eq]
  omega

theorem flt_high (x : Int) (h1 : 16 ≤ x.natAbs) (h2 : x.natAbs ≤ 9223372036854775808) : highD (double.read (flt x)) = true := by
  have h0 : x.natAbs ≠ 0 := by omega
  show highD (double.read (double.nearest (decide (x < 0)) x.natAbs 0)) = true
  unfold Format.nearest
  rw [if_neg h0]
  have hk1 : 4 ≤ x.natAbs.log2 := (Nat.le_log2 h0).2 h1
  have hk2 : x.natAbs.log2 ≤ 63 := by
    have := (Nat.log2_lt h0 (k := 64)).2 (by omega)
    omega
  have hlast : max ((0 : Int) + (x.natAbs.log2 : Int) - (double.fractionBits : Int)) double.leastPlace = (x.natAbs.log2 : Int) - 52 := by
    rw [least, show ((double.fractionBits : Nat) : Int) = 52 from rfl]
    omega
  rw [hlast]
  have hk := kept_in (decide (x < 0)) x.natAbs h0 hk2
  dsimp only at hk ⊢
  generalize Toward.even.cut _ _ _ = kept at *
  rw [least, binade_is, inf_is]
  refine read_word _ _ ?_ ?_ <;> omega

theorem order_far {d e : Datum} (hd : highD d = true) (he : lowD e = true) : (d.order e == some .eq) = false := by
  cases d with
  | number s m i =>
    cases e with
    | number t n j =>
      unfold highD at hd
      unfold lowD at he
      simp only [Bool.and_eq_true, decide_eq_true_eq] at hd he
      show (some (compare (signed s m (i - min i j).toNat) (signed t n (j - min i j).toNat)) == some Ordering.eq) = false
      have hm : min i j = j := by omega
      rw [hm, Int.sub_self]
      obtain ⟨q, hq⟩ : ∃ q, (i - j).toNat = q + 1 := ⟨(i - j).toNat - 1, by omega⟩
      have e1 : (9007199254740992 : Int) ≤ ((m <<< (q + 1) : Nat) : Int) := by
        rw [Nat.shiftLeft_eq, Nat.pow_succ]
        have : 1 ≤ 2 ^ q := Nat.one_le_two_pow
        have h3 : 4503599627370496 * (1 * 2) ≤ m * (2 ^ q * 2) := Nat.mul_le_mul hd.1 (Nat.mul_le_mul_right _ this)
        omega
      have e2 : ((n <<< (0 : Int).toNat : Nat) : Int) < 9007199254740992 := by
        rw [show (0 : Int).toNat = 0 from rfl, Nat.shiftLeft_zero]
        omega
      have hne : signed s m (i - j).toNat ≠ signed t n (0 : Int).toNat := by
        rw [hq]
        unfold signed
        generalize m <<< (q + 1) = A at *
        generalize n <<< (0 : Int).toNat = B at *
        cases s <;> cases t <;> simp <;> omega
      generalize signed s m (i - j).toNat = a at *
      generalize signed t n (0 : Int).toNat = b at *
      have : compare a b ≠ .eq := by
        intro h
        exact hne (Std.LawfulEqCmp.eq_of_compare h)
      cases hc : compare a b
      · rfl
      · exact absurd hc this
      · rfl
    | infinity t => simp [lowD] at he
    | nan t f => simp [lowD] at he
  | infinity s => simp [highD] at hd
  | nan s f => simp [highD] at hd

/-- Floats of whole numbers, the second one small: equal if the numbers are. -/
theorem flt_eq (x a : Int) (hx : -9223372036854775808 ≤ x ∧ x ≤ 9223372036854775807) (ha : -5 ≤ a ∧ a ≤ 15) : Op.floatEq .f64 (flt x) (flt a) = decide (x = a) := by
  by_cases hs : x.natAbs ≤ 15
  · have := flt_near ⟨(x + 15).toNat, by omega⟩ ⟨(a + 5).toNat, by omega⟩
    simp only at this
    rw [show ((((x + 15).toNat : Nat) : Int) - 15) = x by omega, show ((((a + 5).toNat : Nat) : Int) - 5) = a by omega] at this
    exact this
  · have h1 := flt_high x (by omega) (by omega)
    have h2 := flt_low ⟨(a + 5).toNat, by omega⟩
    simp only at h2
    rw [show ((((a + 5).toNat : Nat) : Int) - 5) = a by omega] at h2
    have h3 : x ≠ a := by omega
    rw [decide_eq_false h3]
    exact order_far h1 h2

end Go.Proofs.Ytggjpjpemgpeeaa
