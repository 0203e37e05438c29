/-
  Whole numbers as float64: two of them, the second one from -5 to 15, are equal if the numbers are. No text of the program is named here.
  Links between parties as complex numbers, and a map of the call's own whose keys they are, as a list of pairs.
  slices.Delete of one row out of a slice of rows of the call's own.
  net: a network in memory ('NtA', 'Nt'), and what its methods do to it.
-/
import GoSem.Op.Equal
import Derived.Test.YtggjpjpemgpeeaaGreatMem
import Derived.Test.YtggjpjpemgpeeaaGreatEnt
import Derived.ChangeMaps4
import Derived.Test.YtggjpjpemgpeeaaGreatDk
import Derived.Deep.RegionLaw
import Derived.Lib.SliceRun
import Derived.Test.YtggjpjpemgpeeaaGreatMg
namespace Go.Proofs.YtggjpjpemgpeeaaGreat
open Go Ieee

/-- A whole number as a float64. -/
def flt (x : Int) : Nat := FloatKind.f64.nearest x

theorem flt_near : ∀ x : Fin 31, ∀ a : Fin 21, Op.floatEq .f64 (flt ((x : Nat) - 15 : Int)) (flt ((a : Nat) - 5 : Int)) = decide (((x : Nat) - 15 : Int) = ((a : Nat) - 5 : Int)) := by decide +kernel

def lowD : Datum → Bool
  | .number _ n j => decide (n < 9007199254740992) && decide (j ≤ -49)
  | _ => false

theorem flt_low : ∀ a : Fin 21, lowD (double.read (flt ((a : Nat) - 5 : Int))) = true := by decide +kernel

def highD : Datum → Bool
  | .number _ n j => decide (4503599627370496 ≤ n) && decide (-48 ≤ j)
  | _ => false

theorem cut_zero (neg : Bool) (n : Nat) : Toward.even.cut neg n 0 = n := by
  unfold Toward.cut
  simp [Nat.mod_one]

theorem cut_near (neg : Bool) (n d : Nat) (hd : d ≤ n.log2 + 2) : n / 2 ^ d ≤ Toward.even.cut neg n d ∧ Toward.even.cut neg n d ≤ n / 2 ^ d + 1 := by
  unfold Toward.cut
  rw [Nat.min_eq_left hd, Nat.one_shiftLeft]
  dsimp only
  refine ⟨Nat.le_add_right _ _, Nat.add_le_add_left ?_ _⟩
  generalize (_ || _ : Bool) = b
  cases b <;> decide

theorem kept_in (neg : Bool) (mag : Nat) (h0 : mag ≠ 0) (h : mag.log2 ≤ 63) :
    let last : Int := (mag.log2 : Int) - 52
    4503599627370496 ≤ Toward.even.cut neg (mag <<< (0 - last).toNat) (last - 0).toNat ∧ Toward.even.cut neg (mag <<< (0 - last).toNat) (last - 0).toNat ≤ 9007199254740992 := by
  dsimp only
  have hl : 2 ^ mag.log2 ≤ mag := Nat.log2_self_le h0
  have hu : mag < 2 ^ (mag.log2 + 1) := Nat.lt_log2_self
  have hlog : ∃ k, k = mag.log2 := ⟨_, rfl⟩
  obtain ⟨k, hk⟩ := hlog
  rw [← hk] at hl hu h ⊢
  by_cases hc : k ≤ 52
  · rw [show (((k : Nat) : Int) - 52 - 0).toNat = 0 by omega, show (0 - (((k : Nat) : Int) - 52)).toNat = 52 - k by omega, cut_zero, Nat.shiftLeft_eq]
    have e1 : 2 ^ k * 2 ^ (52 - k) = 4503599627370496 := by rw [← Nat.pow_add, show k + (52 - k) = 52 by omega]
    have e2 : 2 ^ (k + 1) * 2 ^ (52 - k) = 9007199254740992 := by rw [← Nat.pow_add, show k + 1 + (52 - k) = 53 by omega]
    refine ⟨?_, ?_⟩
    · rw [← e1]; exact Nat.mul_le_mul_right _ hl
    · rw [← e2]; exact Nat.mul_le_mul_right _ (Nat.le_of_lt hu)
  · rw [show (0 - (((k : Nat) : Int) - 52)).toNat = 0 by omega, show (((k : Nat) : Int) - 52 - 0).toNat = k - 52 by omega, Nat.shiftLeft_zero]
    have hb := cut_near neg mag (k - 52) (by omega)
    have e1 : 4503599627370496 * 2 ^ (k - 52) = 2 ^ k := by rw [show 4503599627370496 = 2 ^ 52 from rfl, ← Nat.pow_add, show 52 + (k - 52) = k by omega]
    have e2 : 9007199254740992 * 2 ^ (k - 52) = 2 ^ (k + 1) := by rw [show 9007199254740992 = 2 ^ 53 from rfl, ← Nat.pow_add, show 53 + (k - 52) = k + 1 by omega]
    have hp : 0 < 2 ^ (k - 52) := Nat.two_pow_pos _
    have h1 : 4503599627370496 ≤ mag / 2 ^ (k - 52) := (Nat.le_div_iff_mul_le hp).2 (by rw [e1]; exact hl)
    have h2 : mag / 2 ^ (k - 52) < 9007199254740992 := (Nat.div_lt_iff_lt_mul hp).2 (by rw [e2]; exact hu)
    omega

theorem least : double.leastPlace = -1074 := by decide +kernel
theorem binade_is : double.binade = 4503599627370496 := by decide +kernel
theorem inf_is : double.infRung = 9218868437227405312 := by decide +kernel
theorem sign_is : double.signWeight = 9223372036854775808 := by decide +kernel

theorem read_word (neg : Bool) (rung : Nat) (h1 : 4625196817309499392 ≤ rung) (h2 : rung < 9218868437227405312) : highD (double.read (double.word neg rung)) = true := by
  have hr : double.word neg rung % 9223372036854775808 = rung := by
    unfold Format.word
    rw [sign_is]
    cases neg
    · simp; omega
    · simp; omega
  unfold Format.read
  simp only [sign_is, binade_is, inf_is, least]
  rw [hr, if_neg (by omega), if_pos h2]
  unfold highD
  simp only [Bool.and_eq_true, decide_eq_true_eq]
  omega

theorem flt_high (x : Int) (h1 : 16 ≤ x.natAbs) (h2 : x.natAbs ≤ 9223372036854775808) : highD (double.read (flt x)) = true := by
  have h0 : x.natAbs ≠ 0 := by omega
  show highD (double.read (double.nearest (decide (x < 0)) x.natAbs 0)) = true
  unfold Format.nearest
  rw [if_neg h0]
  have hk1 : 4 ≤ x.natAbs.log2 := (Nat.le_log2 h0).2 h1
  have hk2 : x.natAbs.log2 ≤ 63 := by
    have := (Nat.log2_lt h0 (k := 64)).2 (by omega)
    omega
  have hlast : max ((0 : Int) + (x.natAbs.log2 : Int) - (double.fractionBits : Int)) double.leastPlace = (x.natAbs.log2 : Int) - 52 := by
    rw [least, show ((double.fractionBits : Nat) : Int) = 52 from rfl]
    omega
  rw [hlast]
  have hk := kept_in (decide (x < 0)) x.natAbs h0 hk2
  dsimp only at hk ⊢
  generalize Toward.even.cut _ _ _ = kept at *
  rw [least, binade_is, inf_is]
  refine read_word _ _ ?_ ?_ <;> omega

theorem order_far {d e : Datum} (hd : highD d = true) (he : lowD e = true) : (d.order e == some .eq) = false := by
  cases d with
  | number s m i =>
    cases e with
    | number t n j =>
      unfold highD at hd
      unfold lowD at he
      simp only [Bool.and_eq_true, decide_eq_true_eq] at hd he
      show (some (compare (signed s m (i - min i j).toNat) (signed t n (j - min i j).toNat)) == some Ordering.eq) = false
      have hm : min i j = j := by omega
      rw [hm, Int.sub_self]
      obtain ⟨q, hq⟩ : ∃ q, (i - j).toNat = q + 1 := ⟨(i - j).toNat - 1, by omega⟩
      have e1 : (9007199254740992 : Int) ≤ ((m <<< (q + 1) : Nat) : Int) := by
        rw [Nat.shiftLeft_eq, Nat.pow_succ]
        have : 1 ≤ 2 ^ q := Nat.one_le_two_pow
        have h3 : 4503599627370496 * (1 * 2) ≤ m * (2 ^ q * 2) := Nat.mul_le_mul hd.1 (Nat.mul_le_mul_right _ this)
        omega
      have e2 : ((n <<< (0 : Int).toNat : Nat) : Int) < 9007199254740992 := by
        rw [show (0 : Int).toNat = 0 from rfl, Nat.shiftLeft_zero]
        omega
      have hne : signed s m (i - j).toNat ≠ signed t n (0 : Int).toNat := by
        rw [hq]
        unfold signed
        generalize m <<< (q + 1) = A at *
        generalize n <<< (0 : Int).toNat = B at *
        cases s <;> cases t <;> simp <;> omega
      generalize signed s m (i - j).toNat = a at *
      generalize signed t n (0 : Int).toNat = b at *
      have : compare a b ≠ .eq := by
        intro h
        exact hne (Std.LawfulEqCmp.eq_of_compare h)
      cases hc : compare a b
      · rfl
      · exact absurd hc this
      · rfl
    | infinity t => simp [lowD] at he
    | nan t f => simp [lowD] at he
  | infinity s => simp [highD] at hd
  | nan s f => simp [highD] at hd

/-- Floats of whole numbers, the second one small: equal if the numbers are. -/
theorem flt_eq (x a : Int) (hx : -9223372036854775808 ≤ x ∧ x ≤ 9223372036854775807) (ha : -5 ≤ a ∧ a ≤ 15) : Op.floatEq .f64 (flt x) (flt a) = decide (x = a) := by
  by_cases hs : x.natAbs ≤ 15
  · have := flt_near ⟨(x + 15).toNat, by omega⟩ ⟨(a + 5).toNat, by omega⟩
    simp only at this
    rw [show ((((x + 15).toNat : Nat) : Int) - 15) = x by omega, show ((((a + 5).toNat : Nat) : Int) - 5) = a by omega] at this
    exact this
  · have h1 := flt_high x (by omega) (by omega)
    have h2 := flt_low ⟨(a + 5).toNat, by omega⟩
    simp only at h2
    rw [show ((((a + 5).toNat : Nat) : Int) - 5) = a by omega] at h2
    have h3 : x ≠ a := by omega
    rw [decide_eq_false h3]
    exact order_far h1 h2

end Go.Proofs.YtggjpjpemgpeeaaGreat

namespace Go.Proofs.YtggjpjpemgpeeaaGreat
open Go.RowKit

/-- The link of a pair. -/
def lkV (p : Int × Int) : Value := .complex .f64 (flt p.1) (flt p.2)

def SmallP (p : Int × Int) : Prop := (-5 ≤ p.1 ∧ p.1 ≤ 15) ∧ (-5 ≤ p.2 ∧ p.2 ≤ 15)
def BigP (p : Int × Int) : Prop := I64 p.1 ∧ I64 p.2

section
variable {P : Program} {w : World} {kt et tm : TypeId}

theorem run_eqC (hk : P.underlying kt = some (.complex .f64)) (p q : Int × Int) (hp : BigP p) (hq : SmallP q) : (Op.equal kt (lkV p) (lkV q)).run P w = .ok (decide (p = q)) w := by
  have e : (Op.floatEq .f64 (flt p.1) (flt q.1) && Op.floatEq .f64 (flt p.2) (flt q.2)) = decide (p = q) := by
    rw [flt_eq _ _ hp.1 hq.1, flt_eq _ _ hp.2 hq.2]
    obtain ⟨a, b⟩ := p
    obtain ⟨c, d⟩ := q
    simp
  unfold Op.equal lkV
  rw [show Op.maxDepth = 9999 + 1 from rfl]
  unfold Op.equalIn
  simp [run_underlying hk, Result.andThen]
  simpa using e

theorem run_findC (hk : P.underlying kt = some (.complex .f64)) (p : Int × Int) (hp : BigP p) : ∀ (ks : List (Int × Int)) (es : List MapEntry) (i : Nat), es.map (·.key) = ks.map lkV → (∀ e ∈ es, e.val = .agg #[]) → (∀ q ∈ ks, SmallP q) →
    (Instr.findAsking kt (lkV p) es i).run P w = .ok (if p ∈ ks then some (i + ks.idxOf p, .agg #[]) else none) w
  | [], [], i, _, _, _ => by simp [Instr.findAsking]
  | [], e :: es, i, h, _, _ => by simp at h
  | k :: ks, [], i, h, _, _ => by simp at h
  | k :: ks, e :: es, i, h, hv, hs => by
    simp only [List.map_cons, List.cons.injEq] at h
    have hrun := run_eqC (w := w) hk p k hp (hs k (by simp))
    have ih := run_findC hk p hp ks es (i + 1) h.2 (fun e' he => hv e' (by simp [he])) (fun q hq => hs q (by simp [hq]))
    have hev := hv e (by simp)
    unfold Instr.findAsking
    rw [h.1]
    simp only [Sem.run_bind, hrun, Result.andThen]
    by_cases e1 : p = k
    · subst e1
      simp [hev]
    · have e2 : (k == p) = false := by simpa using fun x => e1 x.symm
      rw [decide_eq_false e1]
      simp only [Bool.false_eq_true, if_false]
      rw [ih]
      by_cases hm : p ∈ ks
      · rw [if_pos hm, if_pos (List.mem_cons_of_mem _ hm), List.idxOf_cons, e2]
        simp
        omega
      · rw [if_neg hm, if_neg (by simp [e1, hm])]

theorem run_findKeyC (hk : P.underlying kt = some (.complex .f64)) (p : Int × Int) (hp : BigP p) (ks : List (Int × Int)) (es : List MapEntry) (h : es.map (·.key) = ks.map lkV) (hv : ∀ e ∈ es, e.val = .agg #[]) (hs : ∀ q ∈ ks, SmallP q) :
    (Instr.findKey kt (lkV p) es).run P w = .ok (if p ∈ ks then some (ks.idxOf p, .agg #[]) else none) w := by
  have hf := run_findC (w := w) hk p hp ks es 0 h hv hs
  rw [Nat.zero_add] at hf
  unfold Instr.findKey
  simp only [Sem.run_bind, run_underlying hk, Result.andThen]
  cases es with
  | nil =>
    cases ks with
    | nil => simp [Instr.findNow]
    | cons k ks => simp at h
  | cons e es =>
    have : Instr.findNow (.complex .f64) (lkV p) (e :: es) 0 = none := by
      unfold Instr.findNow lkV
      simp [Instr.sameNow]
    rw [this]
    exact hf

theorem run_checkC (hk : P.underlying kt = some (.complex .f64)) (p : Int × Int) (b : Bool) : (Instr.checkKey b 10000 kt (lkV p)).run P w = .ok () w := by
  rw [show (10000 : Nat) = 9999 + 1 from rfl]
  unfold Instr.checkKey lkV
  simp [run_underlying hk, Result.andThen]

/-- Block b is a map of the call's own whose keys are the links ks. -/
def SetC (w : World) (b : Nat) (ks : List (Int × Int)) : Prop :=
  ∃ es clock, w.heap[b]? = some (.map es clock) ∧ es.toList.map (·.key) = ks.map lkV ∧ (∀ e ∈ es.toList, e.val = .agg #[]) ∧ (∀ q ∈ ks, SmallP q) ∧ ks.Nodup

theorem setC_made (w : World) : SetC (w.alloc (.map #[] 0)) w.heap.size [] :=
  ⟨#[], 0, by show (w.heap.push _)[w.heap.size]? = _; simp, rfl, by simp, by simp, List.nodup_nil⟩

theorem SetC.lt {b : Nat} {ks : List (Int × Int)} (h : SetC w b ks) : b < w.heap.size := by
  obtain ⟨es, c, hb, _⟩ := h
  exact (Array.getElem?_eq_some_iff.1 hb).1

theorem SetC.chg {gs : List Nat} {w' : World} {b : Nat} {ks : List (Int × Int)} (h : SetC w b ks) (hb : Chg gs w w') (hn : b ∉ gs) : SetC w' b ks := by
  have hlt := h.lt
  obtain ⟨es, c, h1, h2⟩ := h
  exact ⟨es, c, (hb.block b hlt hn).trans h1, h2⟩

theorem SetC.small {b : Nat} {ks : List (Int × Int)} (h : SetC w b ks) : ∀ q ∈ ks, SmallP q := by
  obtain ⟨es, c, _, _, _, hs, _⟩ := h
  exact hs

/-- A map, or none. -/
def SetN (w : World) (o : Option Nat) (ks : List (Int × Int)) : Prop :=
  match o with
  | none => ks = []
  | some b => SetC w b ks

theorem SetN.small {o : Option Nat} {ks : List (Int × Int)} (h : SetN w o ks) : ∀ q ∈ ks, SmallP q := by
  cases o with
  | none => unfold SetN at h; subst h; simp
  | some b => exact SetC.small h

theorem run_lookC (hm : P.underlying tm = some (.map kt et)) (hk : P.underlying kt = some (.complex .f64)) (hz : (zeroValue et).run P w = .ok (.agg #[]) w) (o : Option Nat) (ks : List (Int × Int)) (h : SetN w o ks) (p : Int × Int) (hp : BigP p) :
    (Instr.lookup tm (.map o) (lkV p) true).run P w = .ok (.tuple #[.agg #[], .bool (decide (p ∈ ks))]) w := by
  cases o with
  | none =>
    unfold SetN at h
    subst h
    have hf := run_findKeyC (w := w) hk p hp [] [] rfl (by simp) (by simp)
    unfold Instr.lookup
    simp [run_underlying hm, run_checkC hk, hf, hz, Result.andThen]
  | some b =>
    obtain ⟨es, c, hb, h1, h2, h3, h4⟩ := h
    have hf := run_findKeyC (w := w) hk p hp ks es.toList h1 h2 h3
    unfold Instr.lookup
    by_cases hin : p ∈ ks
    · rw [if_pos hin] at hf
      simp [run_underlying hm, MapKept.run_getObj_map hb, run_checkC hk, hf, Result.andThen, hin]
    · rw [if_neg hin] at hf
      simp [run_underlying hm, MapKept.run_getObj_map hb, run_checkC hk, hf, hz, Result.andThen, hin]

theorem chg_obj (w : World) (b : Nat) (o : Obj) : Chg [b] w { w with heap := w.heap.setIfInBounds b o } :=
  ⟨rfl, rfl, rfl, by simp, fun k hk hn => by
    simp at hn
    show (w.heap.setIfInBounds b o)[k]? = w.heap[k]?
    rw [Array.getElem?_setIfInBounds_ne (fun e => hn e.symm)]⟩

theorem run_putC (hm : P.underlying tm = some (.map kt et)) (hk : P.underlying kt = some (.complex .f64)) (b : Nat) (ks : List (Int × Int)) (h : SetC w b ks) (p : Int × Int) (hp : BigP p) (hs : SmallP p) (hn : p ∉ ks) :
    ∃ w', (Instr.mapUpdate tm (.map (some b)) (lkV p) (.agg #[])).run P w = .ok () w' ∧ SetC w' b (ks ++ [p]) ∧ Chg [b] w w' := by
  have hlt := h.lt
  obtain ⟨es, c, hb, h1, h2, h3, h4⟩ := h
  have hf := run_findKeyC (w := w) hk p hp ks es.toList h1 h2 h3
  rw [if_neg hn] at hf
  refine ⟨_, ?_, ⟨es.push { key := lkV p, val := .agg #[], born := c }, c + 1, ?_, ?_, ?_, ?_, ?_⟩, chg_obj w b (.map (es.push { key := lkV p, val := .agg #[], born := c }) (c + 1))⟩
  · unfold Instr.mapUpdate
    simp [run_underlying hm, MapKept.run_getObj_map hb, run_checkC hk, hf, MapKept.run_setObj_map _ hb, Result.andThen]
  · show (w.heap.setIfInBounds b _)[b]? = _
    simp [hlt]
  · simp [h1]
  · intro e he
    simp at he
    rcases he with he | rfl
    · exact h2 e (by simpa using he)
    · rfl
  · intro q hq
    rcases List.mem_append.mp hq with hq | hq
    · exact h3 q hq
    · simp at hq; subst hq; exact hs
  · rw [List.nodup_append]
    refine ⟨h4, by simp, fun a ha b' hb' e => ?_⟩
    simp at hb'
    subst hb'
    subst e
    exact hn ha

theorem erase_idx (ks : List (Int × Int)) (p : Int × Int) : ks.eraseIdx (ks.idxOf p) = ks.erase p := by
  induction ks with
  | nil => rfl
  | cons k ks ih =>
    by_cases e : k = p
    · subst e
      simp
    · have e2 : (k == p) = false := by simpa using e
      rw [List.idxOf_cons, e2, List.erase_cons, e2]
      simp only [cond_false, Bool.false_eq_true, if_false, List.eraseIdx_cons_succ, ih]

theorem map_eraseI {α β : Type} (f : α → β) : ∀ (l : List α) (j : Nat), (l.eraseIdx j).map f = (l.map f).eraseIdx j
  | [], _ => by simp
  | _ :: _, 0 => by simp
  | a :: r, j + 1 => by simp [map_eraseI f r j]

theorem run_dropC (hm : P.underlying tm = some (.map kt et)) (hk : P.underlying kt = some (.complex .f64)) (ty : TypeId) (b : Nat) (ks : List (Int × Int)) (h : SetC w b ks) (p : Int × Int) (hp : BigP p) (hn : p ∈ ks) :
    ∃ w', (Builtin.delete_ #[tm, kt] ty #[.map (some b), lkV p]).run P w = .ok (.tuple #[]) w' ∧ SetC w' b (ks.erase p) ∧ Chg [b] w w' := by
  have hlt := h.lt
  obtain ⟨es, c, hb, h1, h2, h3, h4⟩ := h
  have hf := run_findKeyC (w := w) hk p hp ks es.toList h1 h2 h3
  rw [if_pos hn] at hf
  have hlen : es.size = ks.length := by simpa using congrArg List.length h1
  have hj : ks.idxOf p < es.size := by rw [hlen]; exact List.idxOf_lt_length_of_mem hn
  have hsub : (es.eraseIdxIfInBounds (ks.idxOf p)).toList = es.toList.eraseIdx (ks.idxOf p) := by
    unfold Array.eraseIdxIfInBounds
    rw [dif_pos hj]
    simp
  refine ⟨_, ?_, ⟨es.eraseIdxIfInBounds (ks.idxOf p), c, ?_, ?_, ?_, ?_, ?_⟩, chg_obj w b (.map (es.eraseIdxIfInBounds (ks.idxOf p)) c)⟩
  · unfold Builtin.delete_
    simp [run_underlying hm, MapKept.run_getObj_map hb, run_checkC hk, hf, MapKept.run_setObj_map _ hb, Result.andThen]
  · show (w.heap.setIfInBounds b _)[b]? = _
    simp [hlt]
  · rw [hsub, map_eraseI, h1, ← map_eraseI, erase_idx]
  · intro e he
    rw [hsub] at he
    exact h2 e ((List.eraseIdx_sublist _ _).subset he)
  · intro q hq
    exact h3 q (List.mem_of_mem_erase hq)
  · exact h4.erase p

end

end Go.Proofs.YtggjpjpemgpeeaaGreat

namespace Go.Proofs.YtggjpjpemgpeeaaGreat
open Go.RowKit

theorem owns_setCells {base g n cap : Nat} {e : TypeId} : ∀ (vs : List Value) (o : Nat) (w : World) (xs : List Value), w.ownsRow base e 1 (.slice (some ⟨g, 0, none⟩) n cap) n xs → o + vs.length ≤ n →
    (w.setCells g o vs).ownsRow base e 1 (.slice (some ⟨g, 0, none⟩) n cap) n (xs.take o ++ vs ++ xs.drop (o + vs.length)) ∧ Chg [g] w (w.setCells g o vs)
  | [], o, w, xs, h, _ => by
    refine ⟨?_, Chg.refl _ _⟩
    show w.ownsRow _ _ _ _ _ (xs.take o ++ [] ++ xs.drop (o + 0))
    rw [List.append_nil, Nat.add_zero, List.take_append_drop]
    exact h
  | v :: r, o, w, xs, h, hl => by
    have hlen := h.1
    simp only [List.length_cons] at hl
    have h1 := World.ownsRow.stored h o v
    have ih := owns_setCells r (o + 1) (w.setCell ⟨g, o, none⟩ v) (xs.set o v) h1.1 (by omega)
    refine ⟨?_, (Chg.of_grown h1.2).trans ih.2⟩
    have e : (xs.set o v).take (o + 1) ++ r ++ (xs.set o v).drop (o + 1 + r.length) = xs.take o ++ v :: r ++ xs.drop (o + (v :: r).length) := by
      rw [List.drop_set_of_lt (by omega), List.take_add_one, List.take_set_of_le (by omega), List.getElem?_set_self (by omega)]
      simp
      omega
    rw [← e]
    exact ih.1

set_option maxRecDepth 100000 in
set_option maxHeartbeats 1000000 in
theorem del_raw (g n cap i j : Nat) (f : Nat → Value) (w : World) (hc : ∀ k, k < n → w.cell? ⟨g, k, none⟩ = some (f k)) (hf : ∀ k, w.frozen? ⟨g, k, none⟩ = false) (h1 : ∀ k, k < n → (f k).oneCell' = true)
    (hij : i < j) (hj : j ≤ n) (hn : n ≤ cap) (hm : cap ≤ maxLen) :
    Calls Tryz.prog 29 #[.slice (some ⟨g, 0, none⟩) n cap, .int .i64 (i : Int), .int .i64 (j : Int)] w fun e w' =>
      e = .returned (.slice (some ⟨g, 0, none⟩) (i + (n - j)) cap) ∧ w' = (w.drew.setCells g i ((List.range (n - j)).map fun t => f (j + t))).setCells g (i + (n - j)) (List.replicate (n - (i + (n - j))) (.slice none 0 0)) := by
  have hm' : cap ≤ 9223372036854775807 := by unfold maxLen at hm; omega
  clear hm
  obtain ⟨news, hnews⟩ : ∃ news, news = (List.range (n - j)).map fun t => f (j + t) := ⟨_, rfl⟩
  have hlen : news.length = n - j := by rw [hnews]; simp
  have hget : ∀ t, t < n - j → news[t]? = some (f (j + t)) := fun t ht => by rw [hnews]; simp [ht]
  obtain ⟨A, hA, hsrc⟩ : ∃ A : Addr, (if cap = j then (some ⟨g, 0, none⟩ : Option Addr) else some ⟨g, j, none⟩) = some A ∧ Hid (∀ t u, news[t]? = some u → w.drew.cell? (A.add t) = some u) := by
    by_cases h : cap = j
    · refine ⟨⟨g, 0, none⟩, by simp [h], fun t u hu => ?_⟩
      have h0 : news.length = 0 := by rw [hlen]; omega
      rw [List.length_eq_zero_iff.1 h0] at hu
      simp at hu
    · refine ⟨⟨g, j, none⟩, by simp [h], fun t u hu => ?_⟩
      have ht : t < n - j := by
        have := (List.getElem?_eq_some_iff.1 hu).1
        rwa [hlen] at this
      rw [hget t ht] at hu
      rw [Go.WideShapes.add_plain]
      exact (hc (j + t) (by omega)).trans hu
  have s1 : Hid (news.length = (n - j) * 1) := by rw [Nat.mul_one]; exact hlen
  have s2 : Hid (∀ u ∈ news, u.oneCell' = true) := by
    intro u hu
    rw [hnews] at hu
    obtain ⟨t, ht, rfl⟩ := List.mem_map.1 hu
    have := List.mem_range.1 ht
    exact h1 _ (by omega)
  have s3 : Hid (∀ t, t < news.length → (w.drew.cell? ⟨g, 0 + i * 1 + t, none⟩).isSome = true ∧ w.drew.frozen? ⟨g, 0 + i * 1 + t, none⟩ = false) := by
    intro t ht
    rw [hlen] at ht
    rw [show 0 + i * 1 + t = i + t by omega]
    exact ⟨by show (w.cell? _).isSome = true; rw [hc (i + t) (by omega)]; rfl, hf _⟩
  obtain ⟨W1, hW1⟩ : ∃ W1, W1 = w.drew.setCells g i news := ⟨_, rfl⟩
  have hW1c : ∀ k, k < n → (W1.cell? ⟨g, k, none⟩).isSome = true := fun k hk => by
    rw [hW1]
    have h0 : ∀ q, q < n → (w.drew.cell? ⟨g, q, none⟩).isSome = true := fun q hq => by show (w.cell? _).isSome = true; rw [hc q hq]; rfl
    by_cases hr : i ≤ k ∧ k < i + news.length
    · have := World.cell?_setCells_in g news i w.drew (fun q hq => h0 (i + q) (by omega)) (k - i) (by omega)
      rw [show i + (k - i) = k by omega] at this
      rw [this]; rfl
    · rw [World.cell?_setCells_out g news i w.drew ⟨g, k, none⟩ (fun _ _ => by show k < i ∨ i + news.length ≤ k; omega)]
      exact h0 k hk
  have hW1f : ∀ k, W1.frozen? ⟨g, k, none⟩ = false := fun k => by rw [hW1, World.frozen?_setCells]; exact hf k
  have hcl : ∀ ty, (Builtin.clear_ #[58] ty #[.slice (some ⟨g, i + (n - j), none⟩) (n - (i + (n - j))) (cap - (i + (n - j)))]).run Tryz.prog W1 = .ok (.tuple #[]) (W1.setCells g (i + (n - j)) (List.replicate (n - (i + (n - j))) (.slice none 0 0))) :=
    fun ty => Lib.run_clear_slice W1 _ _ ty (.slice none 0 0) Tryz.underlying58 (fun w => by kernel_rfl) rfl rfl g (i + (n - j)) _ _ (by omega) (fun t ht => hW1c _ (by omega)) (fun t ht => hW1f _)
  have X : Hid (W1 = w.drew.setCells g i news) := hW1
  have XN : Hid (news = (List.range (n - j)).map fun t => f (j + t)) := hnews
  have hW : Hid (W1 = w.drew.setCells g (0 + i * 1) news) := by rw [show 0 + i * 1 = i by omega]; exact hW1
  have hic : i ≤ cap := by omega
  have hjc : j ≤ cap := by omega
  have hne : i ≠ j := by omega
  clear hW1 hc hf h1 hget hnews hlen hW1c hW1f
  go_enter Tryz.func29, Tryz.ntmps29
  go_wp2_with fail
  go_region_law (refine step_append_room rfl (.tmp 22) (.tmp 25) 58 rfl 28 _ 1 Tryz.underlying58 rfl rfl g 0 i cap (by simp [Act.eval, Act.put]) A (n - j) (cap - j) news (by simp [Act.eval, Act.put]) s1.out hsrc.out s2.out (by omega) s3.out ?_; rw [← hW.out])
  go_wp2
  go_ret
  refine ⟨rfl, ?_⟩
  rw [← XN.out, ← X.out]

end Go.Proofs.YtggjpjpemgpeeaaGreat

namespace Go.Proofs.YtggjpjpemgpeeaaGreat
open Go.RowKit

theorem owns_shrink {w : World} {base g n cap m : Nat} {e : TypeId} {xs : List Value} (h : w.ownsRow base e 1 (.slice (some ⟨g, 0, none⟩) n cap) n xs) (hm : m ≤ n) : w.ownsRow base e 1 (.slice (some ⟨g, 0, none⟩) m cap) m (xs.take m) := by
  have hl := h.1
  refine ⟨by rw [List.length_take]; omega, ?_⟩
  rcases h.2 with ⟨e1, _⟩ | ⟨g', c', cur, e1, hb, hg, hnc, hcm, hcs, ht⟩
  · cases e1
  · cases e1
    refine .inr ⟨g, cap, cur, rfl, hb, hg, by omega, hcm, hcs, ?_⟩
    rw [← ht, List.take_take, Nat.min_eq_left (by omega), Nat.mul_one]

/-- slices.Delete of row i. -/
theorem del_any {w : World} {base g cap : Nat} {xs : List Rw} (h : Rws w base (some ⟨g, 0, none⟩) cap xs) (i n : Nat) (hn : xs.length = n) (hi : i < n) :
    Calls Tryz.prog 29 #[.slice (some ⟨g, 0, none⟩) n cap, .int .i64 (i : Int), .int .i64 ((i : Int) + 1)] w fun e w' =>
      ∃ n', n' + 1 = n ∧ e = .returned (.slice (some ⟨g, 0, none⟩) n' cap) ∧ Rws w' base (some ⟨g, 0, none⟩) cap (xs.eraseIdx i) ∧ Chg [g] w w' := by
  subst hn
  have hle := h.le
  have hcell : ∀ k, k < xs.length → w.cell? ⟨g, k, none⟩ = some ((xs.getD k ⟨none, 0, []⟩).val) := fun k hk => by
    obtain ⟨g', e, hc⟩ := h.row ⟨none, 0, []⟩ k hk
    cases e
    exact hc
  have hr := del_raw g xs.length cap i (i + 1) (fun k => (xs.getD k ⟨none, 0, []⟩).val) w hcell (fun k => World.ownsRow.frozenAt h.own k) (fun k _ => rfl) (by omega) (by omega) hle.1 hle.2
  rw [show (((i + 1 : Nat)) : Int) = (i : Int) + 1 from rfl] at hr
  refine hr.mono ?_
  rintro e w' ⟨rfl, rfl⟩
  obtain ⟨n', hn'⟩ : ∃ n', n' + 1 = xs.length := ⟨xs.length - 1, by omega⟩
  rw [show i + (xs.length - (i + 1)) = n' by omega, show xs.length - n' = 1 by omega]
  obtain ⟨news, hnews⟩ : ∃ news, news = (List.range (xs.length - (i + 1))).map fun t => (xs.getD (i + 1 + t) ⟨none, 0, []⟩).val := ⟨_, rfl⟩
  have hv : news = (xs.map Rw.val).drop (i + 1) := by
    rw [hnews]
    apply List.ext_getElem
    · simp
    · intro t h1 h2
      simp at h1
      have ht : i + 1 + t < xs.length := by omega
      simp [List.getD_eq_getElem?_getD, List.getElem?_eq_getElem ht]
  have hnl : news.length = xs.length - (i + 1) := by rw [hnews]; simp
  rw [← hnews]
  have hd : w.drew.ownsRow base 28 1 (.slice (some ⟨g, 0, none⟩) xs.length cap) xs.length (xs.map Rw.val) := h.own
  have o1 := owns_setCells news i w.drew _ hd (by omega)
  have o2 := owns_setCells (List.replicate 1 (Value.slice none 0 0)) n' _ _ o1.1 (by simp; omega)
  have o3 := owns_shrink o2.1 (m := n') (by omega)
  have hchg : Chg [g] w ((w.drew.setCells g i news).setCells g n' (List.replicate 1 (Value.slice none 0 0))) := ((Chg.refl _ w).drew.trans o1.2).trans o2.2
  refine ⟨n', hn', rfl, ⟨?_, fun x hx => ?_, fun x hx g' hg' => ?_⟩, hchg⟩
  · have e1 : (xs.eraseIdx i).length = n' := by rw [List.length_eraseIdx_of_lt (by omega)]; omega
    have e2 : (xs.eraseIdx i).map Rw.val = ((((xs.map Rw.val).take i ++ news ++ (xs.map Rw.val).drop (i + news.length)).take n' ++ List.replicate 1 (Value.slice none 0 0) ++ ((xs.map Rw.val).take i ++ news ++ (xs.map Rw.val).drop (i + news.length)).drop (n' + (List.replicate 1 (Value.slice none 0 0)).length))).take n' := by
      have hA : ((xs.map Rw.val).take i ++ news).length = n' := by rw [List.length_append, List.length_take, List.length_map]; omega
      rw [List.take_append, List.take_append]
      rw [show (((xs.map Rw.val).take i ++ news ++ (xs.map Rw.val).drop (i + news.length)).take n') = (xs.map Rw.val).take i ++ news by rw [List.take_append, hA, Nat.sub_self, List.take_zero, List.append_nil, List.take_of_length_le (by omega)]]
      rw [List.take_of_length_le (by omega), hA, Nat.sub_self, List.take_zero, List.append_nil]
      rw [show n' - ((xs.map Rw.val).take i ++ news ++ List.replicate 1 (Value.slice none 0 0)).length = 0 by rw [List.length_append, hA]; omega, List.take_zero, List.append_nil, hv, List.eraseIdx_eq_take_drop_succ]
      simp
    rw [e1, e2]
    exact o3
  · have hm : x ∈ xs := (List.eraseIdx_sublist _ _).subset hx
    exact seen_chg (h.seen x hm) hchg fun g' hg' => by
      have := (h.far x hm g' hg').1
      simpa [blk] using this
  · have hm : x ∈ xs := (List.eraseIdx_sublist _ _).subset hx
    exact ⟨(h.far x hm g' hg').1, Nat.lt_of_lt_of_le (h.far x hm g' hg').2 hchg.size⟩

/-- A network in block R: its rows at ga, its map in block o, all its blocks N, its messages ms, its cut links ks. -/
structure NtA (w : World) (base R : Nat) (ga : Option Addr) (o : Option Nat) (N : List Nat) (ms : List Pm) (ks : List (Int × Int)) : Prop where
  rows : ∃ cap xs, w.cell? ⟨R, 0, none⟩ = some (.slice ga xs.length cap) ∧ Rws w base ga cap xs ∧ xs.map Rw.ps = ms.map encMg ∧ ∀ x ∈ xs, ∀ g ∈ blk x.loc, g ∈ N ∧ g ≠ R ∧ o ≠ some g
  c1 : w.cell? ⟨R, 1, none⟩ = some (.map o)
  links : SetN w o ks
  free : ∀ k, w.frozen? ⟨R, k, none⟩ = false
  good : ∀ m ∈ ms, m.Wf ∧ sndMg m = true
  most : ms.length ≤ 1024
  up : ∀ p ∈ ks, p.1 < p.2
  neG : R ∉ blk ga
  neO : o ≠ some R
  neGO : ∀ g ∈ blk ga, o ≠ some g
  inR : R ∈ N
  inG : ∀ g ∈ blk ga, g ∈ N
  inO : ∀ b, o = some b → b ∈ N
  nLt : ∀ g ∈ N, base ≤ g ∧ g < w.heap.size

def Nt (w : World) (base R : Nat) (N : List Nat) (ms : List Pm) (ks : List (Int × Int)) : Prop := ∃ ga o, NtA w base R ga o N ms ks

theorem SetN.chg {gs : List Nat} {w w' : World} {o : Option Nat} {ks : List (Int × Int)} (h : SetN w o ks) (hb : Chg gs w w') (hn : ∀ b, o = some b → b ∉ gs) : SetN w' o ks := by
  cases o with
  | none => exact h
  | some b => exact SetC.chg h hb (hn b rfl)

section
variable {w w' w2 : World} {base R : Nat} {ga : Option Addr} {o : Option Nat} {N : List Nat} {ms : List Pm} {ks : List (Int × Int)}

theorem NtA.chg {gs : List Nat} (h : NtA w base R ga o N ms ks) (hb : Chg gs w w') (hn : ∀ g ∈ N, g ∉ gs) : NtA w' base R ga o N ms ks := by
  obtain ⟨cap, xs, h1, h2, h3, h4⟩ := h.rows
  have hR := hn R h.inR
  exact ⟨⟨cap, xs, hb.cell h1 hR, h2.chg hb (fun g hg => hn g (h.inG g hg)) (fun x hx g hg => hn g (h4 x hx g hg).1), h3, h4⟩, hb.cell h.c1 hR, h.links.chg hb (fun b e => hn b (h.inO b e)),
    fun k => by rw [World.frozen?_of_block (hb.block R (h.nLt R h.inR).2 hR)]; exact h.free k, h.good, h.most, h.up, h.neG, h.neO, h.neGO, h.inR, h.inG, h.inO, fun g hg => ⟨(h.nLt g hg).1, Nat.lt_of_lt_of_le (h.nLt g hg).2 hb.size⟩⟩

theorem NtA.below (h : NtA w base R ga o N ms ks) (hb : Below w.heap.size w w') : NtA w' base R ga o N ms ks := h.chg (gs := []) (Chg.of_below hb) (by simp)

theorem Nt.chg {gs : List Nat} (h : Nt w base R N ms ks) (hb : Chg gs w w') (hn : ∀ g ∈ N, g ∉ gs) : Nt w' base R N ms ks := by
  obtain ⟨ga, o, h⟩ := h
  exact ⟨ga, o, h.chg hb hn⟩

theorem Nt.below (h : Nt w base R N ms ks) (hb : Below w.heap.size w w') : Nt w' base R N ms ks := h.chg (gs := []) (Chg.of_below hb) (by simp)

theorem Nt.nLt (h : Nt w base R N ms ks) : ∀ g ∈ N, base ≤ g ∧ g < w.heap.size := by
  obtain ⟨ga, o, h⟩ := h
  exact NtA.nLt h

theorem Nt.good (h : Nt w base R N ms ks) : ∀ m ∈ ms, m.Wf ∧ sndMg m = true := by
  obtain ⟨ga, o, h⟩ := h
  exact NtA.good h

theorem Nt.most (h : Nt w base R N ms ks) : ms.length ≤ 1024 := by
  obtain ⟨ga, o, h⟩ := h
  exact NtA.most h

theorem Nt.up (h : Nt w base R N ms ks) : ∀ p ∈ ks, p.1 < p.2 ∧ SmallP p := by
  obtain ⟨ga, o, h⟩ := h
  exact fun p hp => ⟨NtA.up h p hp, SetN.small h.links p hp⟩

/-- More blocks are counted among a network's own. -/
theorem NtA.more (h : NtA w base R ga o N ms ks) (Y : List Nat) (hY : ∀ g ∈ Y, base ≤ g ∧ g < w.heap.size) : NtA w base R ga o (Y ++ N) ms ks := by
  obtain ⟨cap, xs, h1, h2, h3, h4⟩ := h.rows
  exact ⟨⟨cap, xs, h1, h2, h3, fun x hx g hg => ⟨List.mem_append_right _ (h4 x hx g hg).1, (h4 x hx g hg).2⟩⟩, h.c1, h.links, h.free, h.good, h.most, h.up, h.neG, h.neO, h.neGO, List.mem_append_right _ h.inR, fun g hg => List.mem_append_right _ (h.inG g hg), fun b e => List.mem_append_right _ (h.inO b e), fun g hg => by
    rcases List.mem_append.mp hg with hg | hg
    · exact hY g hg
    · exact h.nLt g hg⟩

/-- The rows are others now; the slice is stored. -/
theorem NtA.put (h : NtA w base R ga o N ms ks) {gs : List Nat} (hb : Chg gs w w2) (hgs : ∀ g ∈ gs, g ∈ blk ga) {ga' : Option Addr} {cap' n : Nat} {xs : List Rw} {ms' : List Pm} (hr : Rws w2 base ga' cap' xs) (hat : ∀ g ∈ blk ga', g ∈ blk ga ∨ w.heap.size ≤ g)
    (hx : ∀ x ∈ xs, ∀ g ∈ blk x.loc, g ∈ N ∧ g ≠ R ∧ o ≠ some g) (hps : xs.map Rw.ps = ms'.map encMg) (hgood : ∀ m ∈ ms', m.Wf ∧ sndMg m = true) (hmost : ms'.length ≤ 1024) (hn : xs.length = n) :
    NtA (w2.setCell ⟨R, 0, none⟩ (.slice ga' n cap')) base R ga' o (blk ga' ++ N) ms' ks ∧ Mv w (w2.setCell ⟨R, 0, none⟩ (.slice ga' n cap')) N (blk ga' ++ N) := by
  subst hn
  obtain ⟨cap, ys, h1, h2, h3, h4⟩ := h.rows
  have hRlt := (h.nLt R h.inR).2
  have hRg : R ∉ gs := fun e => h.neG (hgs _ e)
  have hRga : R ∉ blk ga' := fun e => by
    rcases hat R e with e | e
    · exact h.neG e
    · omega
  have hOg : ∀ b, o = some b → b ∉ gs := fun b e hm => h.neGO b (hgs b hm) e
  have hc1 := chg_set1 w2 R 0 (.slice ga' xs.length cap')
  have hRb : ∀ g ∈ blk ga', g ∉ [R] := fun g hg e => hRga (by simp at e; exact e ▸ hg)
  refine ⟨⟨⟨cap', xs, World.cell?_setCell_same _ _ _ (hb.cell h1 hRg), hr.chg hc1 hRb (fun x hx' g hg => by simp; exact (hx x hx' g hg).2.1), hps, fun x hx' g hg => ⟨List.mem_append_right _ (hx x hx' g hg).1, (hx x hx' g hg).2⟩⟩, ?_,
    (h.links.chg hb hOg).chg hc1 (fun b e => by simp; rintro rfl; exact h.neO e), fun k => ?_, hgood, hmost, h.up, hRga, h.neO, fun g hg e => ?_, List.mem_append_right _ h.inR, fun g hg => List.mem_append_left _ hg, fun b e => List.mem_append_right _ (h.inO b e), fun g hg => ?_⟩, ⟨?_, fun g hg => ?_⟩⟩
  · rw [World.cell?_setCell_other _ _ _ _ (by simp)]
    exact hb.cell h.c1 hRg
  · rw [World.frozen?_setCell, World.frozen?_of_block (hb.block R hRlt hRg)]
    exact h.free k
  · rcases hat g hg with h5 | h5
    · exact h.neGO g h5 e
    · have := (h.nLt g (h.inO g e)).2; omega
  · have hsz := hc1.size
    rcases List.mem_append.mp hg with hg | hg
    · have := hr.lt hg; omega
    · have := h.nLt g hg; have := hb.size; omega
  · exact (hb.mono fun g hg => h.inG g (hgs g hg)).trans (hc1.mono fun g hg => by simp at hg; rw [hg]; exact h.inR)
  · rcases List.mem_append.mp hg with hg | hg
    · rcases hat g hg with h5 | h5
      · exact .inl (h.inG g h5)
      · exact .inr h5
    · exact .inl hg

/-- The links are others now. -/
theorem NtA.relink {b : Nat} {ks' : List (Int × Int)} (h : NtA w base R ga (some b) N ms ks) (hb : Chg [b] w w2) (hs : SetC w2 b ks') (hup : ∀ p ∈ ks', p.1 < p.2) : NtA w2 base R ga (some b) N ms ks' ∧ Mv w w2 N N := by
  obtain ⟨cap, xs, h1, h2, h3, h4⟩ := h.rows
  have hR : R ∉ [b] := by simp; rintro rfl; exact h.neO rfl
  have hRlt := (h.nLt R h.inR).2
  refine ⟨⟨⟨cap, xs, hb.cell h1 hR, h2.chg hb (fun g hg => by simp; rintro rfl; exact h.neGO _ hg rfl) (fun x hx g hg => by simp; rintro rfl; exact (h4 x hx _ hg).2.2 rfl), h3, h4⟩, hb.cell h.c1 hR, hs, fun k => by rw [World.frozen?_of_block (hb.block R hRlt hR)]; exact h.free k, h.good, h.most, hup, h.neG, h.neO, h.neGO, h.inR, h.inG, h.inO, fun g hg => ⟨(h.nLt g hg).1, Nat.lt_of_lt_of_le (h.nLt g hg).2 hb.size⟩⟩, ⟨hb.mono fun g hg => ?_, fun g hg => .inl hg⟩⟩
  simp at hg
  rw [hg]
  exact h.inO b rfl

/-- A map is made and stored. -/
theorem NtA.map (h : NtA w base R ga none N ms ks) : NtA ((w.alloc (.map #[] 0)).setCell ⟨R, 1, none⟩ (.map (some w.heap.size))) base R ga (some w.heap.size) (w.heap.size :: N) ms [] ∧ Mv w ((w.alloc (.map #[] 0)).setCell ⟨R, 1, none⟩ (.map (some w.heap.size))) N (w.heap.size :: N) := by
  obtain ⟨cap, xs, h1, h2, h3, h4⟩ := h.rows
  have hRlt := (h.nLt R h.inR).2
  have hRb := (h.nLt R h.inR).1
  have hb := below_one w (.map #[] 0)
  have hc := chg_set1 (w.alloc (.map #[] 0)) R 1 (.map (some w.heap.size))
  have hsz : (w.alloc (.map #[] 0)).heap.size = w.heap.size + 1 := by simp
  have hnN : ∀ g ∈ N, g ≠ w.heap.size := fun g hg e => by have := (h.nLt g hg).2; omega
  refine ⟨⟨⟨cap, xs, ?_, (h2.below hb).chg hc (fun g hg e => h.neG (by simp at e; exact e ▸ hg)) (fun x hx g hg => by simp; exact (h4 x hx g hg).2.1), h3, fun x hx g hg => ⟨List.mem_cons_of_mem _ (h4 x hx g hg).1, (h4 x hx g hg).2.1, fun e => hnN g (h4 x hx g hg).1 (by simpa using e.symm)⟩⟩,
    World.cell?_setCell_same _ _ _ (cell_later hb h.c1), SetC.chg (setC_made w) hc (by simp; omega), fun k => ?_, h.good, h.most, by simp, h.neG, fun e => hnN R h.inR (by simpa using e.symm), fun g hg e => hnN g (h.inG g hg) (by simpa using e.symm), List.mem_cons_of_mem _ h.inR, fun g hg => List.mem_cons_of_mem _ (h.inG g hg), fun b e => by simp at e; simp [e], fun g hg => ?_⟩, ⟨?_, fun g hg => ?_⟩⟩
  · rw [World.cell?_setCell_other _ _ _ _ (by simp)]
    exact cell_later hb h1
  · rw [World.frozen?_setCell, hb.frozen hRlt]
    exact h.free k
  · have := hc.size
    rcases List.mem_cons.mp hg with rfl | hg
    · omega
    · have := h.nLt g hg; omega
  · exact (Chg.of_below hb).trans (hc.mono fun g hg => by simp at hg; rw [hg]; exact h.inR)
  · rcases List.mem_cons.mp hg with rfl | hg
    · exact .inr (Nat.le_refl _)
    · exact .inl hg

end

end Go.Proofs.YtggjpjpemgpeeaaGreat
