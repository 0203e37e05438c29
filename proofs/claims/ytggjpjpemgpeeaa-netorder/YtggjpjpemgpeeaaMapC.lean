/-
  Whole numbers as float64: two of them, the second one from -5 to 15, are equal if the numbers are. No text of the program is named here.
  Links between parties as complex numbers, and a map of the call's own whose keys they are, as a list of pairs.
-/
import GoSem.Op.Equal
import Derived.Test.YtggjpjpemgpeeaaMem
import Derived.Test.YtggjpjpemgpeeaaEnt
import Derived.ChangeMaps4
namespace Go.Proofs.Ytggjpjpemgpeeaa
open Go Ieee

/-- A whole number as a float64. -/
def flt (x : Int) : Nat := FloatKind.f64.nearest x

theorem flt_near : ∀ x : Fin 31, ∀ a : Fin 21, Op.floatEq .f64 (flt ((x : Nat) - 15 : Int)) (flt ((a : Nat) - 5 : Int)) = decide (((x : Nat) - 15 : Int) = ((a : Nat) - 5 : Int)) := by decide +kernel

def lowD : Datum → Bool
  | .number _ n j => decide (n < 9007199254740992) && decide (j ≤ -49)
  | _ => false

theorem flt_low : ∀ a : Fin 21, lowD (double.read (flt ((a : Nat) - 5 : Int))) = true := by decide +kernel

def highD : Datum → Bool
  | .number _ n j => decide (4503599627370496 ≤ n) && decide (-48 ≤ j)
  | _ => false

theorem cut_zero (neg : Bool) (n : Nat) : Toward.even.cut neg n 0 = n := by
  unfold Toward.cut
  simp [Nat.mod_one]

theorem cut_near (neg : Bool) (n d : Nat) (hd : d ≤ n.log2 + 2) : n / 2 ^ d ≤ Toward.even.cut neg n d ∧ Toward.even.cut neg n d ≤ n / 2 ^ d + 1 := by
  unfold Toward.cut
  rw [Nat.min_eq_left hd, Nat.one_shiftLeft]
  dsimp only
  refine ⟨Nat.le_add_right _ _, Nat.add_le_add_left ?_ _⟩
  generalize (_ || _ : Bool) = b
  cases b <;> decide

theorem kept_in (neg : Bool) (mag : Nat) (h0 : mag ≠ 0) (h : mag.log2 ≤ 63) :
    let last : Int := (mag.log2 : Int) - 52
    4503599627370496 ≤ Toward.even.cut neg (mag <<< (0 - last).toNat) (last - 0).toNat ∧ Toward.even.cut neg (mag <<< (0 - last).toNat) (last - 0).toNat ≤ 9007199254740992 := by
  dsimp only
  have hl : 2 ^ mag.log2 ≤ mag := Nat.log2_self_le h0
  have hu : mag < 2 ^ (mag.log2 + 1) := Nat.lt_log2_self
  have hlog : ∃ k, k = mag.log2 := ⟨_, rfl⟩
  obtain ⟨k, hk⟩ := hlog
  rw [← hk] at hl hu h ⊢
  by_cases hc : k ≤ 52
  · rw [show (((k : Nat) : Int) - 52 - 0).toNat = 0 by omega, show (0 - (((k : Nat) : Int) - 52)).toNat = 52 - k by omega, cut_zero, Nat.shiftLeft_eq]
    have e1 : 2 ^ k * 2 ^ (52 - k) = 4503599627370496 := by rw [← Nat.pow_add, show k + (52 - k) = 52 by omega]
    have e2 : 2 ^ (k + 1) * 2 ^ (52 - k) = 9007199254740992 := by rw [← Nat.pow_add, show k + 1 + (52 - k) = 53 by omega]
    refine ⟨?_, ?_⟩
    · rw [← e1]; exact Nat.mul_le_mul_right _ hl
    · rw [← e2]; exact Nat.mul_le_mul_right _ (Nat.le_of_lt hu)
  · rw [show (0 - (((k : Nat) : Int) - 52)).toNat = 0 by omega, show (((k : Nat) : Int) - 52 - 0).toNat = k - 52 by omega, Nat.shiftLeft_zero]
    have hb := cut_near neg mag (k - 52) (by omega)
    have e1 : 4503599627370496 * 2 ^ (k - 52) = 2 ^ k := by rw [show 4503599627370496 = 2 ^ 52 from rfl, ← Nat.pow_add, show 52 + (k - 52) = k by omega]
    have e2 : 9007199254740992 * 2 ^ (k - 52) = 2 ^ (k + 1) := by rw [show 9007199254740992 = 2 ^ 53 from rfl, ← Nat.pow_add, show 53 + (k - 52) = k + 1 by omega]
    have hp : 0 < 2 ^ (k - 52) := Nat.two_pow_pos _
    have h1 : 4503599627370496 ≤ mag / 2 ^ (k - 52) := (Nat.le_div_iff_mul_le hp).2 (by rw [e1]; exact hl)
    have h2 : mag / 2 ^ (k - 52) < 9007199254740992 := (Nat.div_lt_iff_lt_mul hp).2 (by rw [e2]; exact hu)
    omega

theorem least : double.leastPlace = -1074 := by decide +kernel
theorem binade_is : double.binade = 4503599627370496 := by decide +kernel
theorem inf_is : double.infRung = 9218868437227405312 := by decide +kernel
theorem sign_is : double.signWeight = 9223372036854775808 := by decide +kernel

theorem read_word (neg : Bool) (rung : Nat) (h1 : 4625196817309499392 ≤ rung) (h2 : rung < 9218868437227405312) : highD (double.read (double.word neg rung)) = true := by
  have hr : double.word neg rung % 9223372036854775808 = rung := by
    unfold Format.word
    rw [sign_is]
    cases neg
    · simp; omega
    · simp; omega
  unfold Format.read
  simp only [sign_is, binade_is, inf_is, least]
  rw [hr, if_neg (by omega), if_pos h2]
  unfold highD
  simp only [Bool.and_eq_true, decide_eq_true_eq]
  omega

theorem flt_high (x : Int) (h1 : 16 ≤ x.natAbs) (h2 : x.natAbs ≤ 9223372036854775808) : highD (double.read (flt x)) = true := by
  have h0 : x.natAbs ≠ 0 := by omega
  show highD (double.read (double.nearest (decide (x < 0)) x.natAbs 0)) = true
  unfold Format.nearest
  rw [if_neg h0]
  have hk1 : 4 ≤ x.natAbs.log2 := (Nat.le_log2 h0).2 h1
  have hk2 : x.natAbs.log2 ≤ 63 := by
    have := (Nat.log2_lt h0 (k := 64)).2 (by omega)
    omega
  have hlast : max ((0 : Int) + (x.natAbs.log2 : Int) - (double.fractionBits : Int)) double.leastPlace = (x.natAbs.log2 : Int) - 52 := by
    rw [least, show ((double.fractionBits : Nat) : Int) = 52 from rfl]
    omega
  rw [hlast]
  have hk := kept_in (decide (x < 0)) x.natAbs h0 hk2
  dsimp only at hk ⊢
  generalize Toward.even.cut _ _ _ = kept at *
  rw [least, binade_is, inf_is]
  refine read_word _ _ ?_ ?_ <;> omega

theorem order_far {d e : Datum} (hd : highD d = true) (he : lowD e = true) : (d.order e == some .eq) = false := by
  cases d with
  | number s m i =>
    cases e with
    | number t n j =>
      unfold highD at hd
      unfold lowD at he
      simp only [Bool.and_eq_true, decide_eq_true_eq] at hd he
      show (some (compare (signed s m (i - min i j).toNat) (signed t n (j - min i j).toNat)) == some Ordering.eq) = false
      have hm : min i j = j := by omega
      rw [hm, Int.sub_self]
      obtain ⟨q, hq⟩ : ∃ q, (i - j).toNat = q + 1 := ⟨(i - j).toNat - 1, by omega⟩
      have e1 : (9007199254740992 : Int) ≤ ((m <<< (q + 1) : Nat) : Int) := by
        rw [Nat.shiftLeft_eq, Nat.pow_succ]
        have : 1 ≤ 2 ^ q := Nat.one_le_two_pow
        have h3 : 4503599627370496 * (1 * 2) ≤ m * (2 ^ q * 2) := Nat.mul_le_mul hd.1 (Nat.mul_le_mul_right _ this)
        omega
      have e2 : ((n <<< (0 : Int).toNat : Nat) : Int) < 9007199254740992 := by
        rw [show (0 : Int).toNat = 0 from rfl, Nat.shiftLeft_zero]
        omega
      have hne : signed s m (i - j).toNat ≠ signed t n (0 : Int).toNat := by
        rw [hq]
        unfold signed
        generalize m <<< (q + 1) = A at *
        generalize n <<< (0 : Int).toNat = B at *
        cases s <;> cases t <;> simp <;> omega
      generalize signed s m (i - j).toNat = a at *
      generalize signed t n (0 : Int).toNat = b at *
      have : compare a b ≠ .eq := by
        intro h
        exact hne (Std.LawfulEqCmp.eq_of_compare h)
      cases hc : compare a b
      · rfl
      · exact absurd hc this
      · rfl
    | infinity t => simp [lowD] at he
    | nan t f => simp [lowD] at he
  | infinity s => simp [highD] at hd
  | nan s f => simp [highD] at hd

/-- Floats of whole numbers, the second one small: equal if the numbers are. -/
theorem flt_eq (x a : Int) (hx : -9223372036854775808 ≤ x ∧ x ≤ 9223372036854775807) (ha : -5 ≤ a ∧ a ≤ 15) : Op.floatEq .f64 (flt x) (flt a) = decide (x = a) := by
  by_cases hs : x.natAbs ≤ 15
  · have := flt_near ⟨(x + 15).toNat, by omega⟩ ⟨(a + 5).toNat, by omega⟩
    simp only at this
    rw [show ((((x + 15).toNat : Nat) : Int) - 15) = x by omega, show ((((a + 5).toNat : Nat) : Int) - 5) = a by omega] at this
    exact this
  · have h1 := flt_high x (by omega) (by omega)
    have h2 := flt_low ⟨(a + 5).toNat, by omega⟩
    simp only at h2
    rw [show ((((a + 5).toNat : Nat) : Int) - 5) = a by omega] at h2
    have h3 : x ≠ a := by omega
    rw [decide_eq_false h3]
    exact order_far h1 h2

end Go.Proofs.Ytggjpjpemgpeeaa

namespace Go.Proofs.Ytggjpjpemgpeeaa
open Go.RowKit

/-- The link of a pair. -/
def lkV (p : Int × Int) : Value := .complex .f64 (flt p.1) (flt p.2)

def SmallP (p : Int × Int) : Prop := (-5 ≤ p.1 ∧ p.1 ≤ 15) ∧ (-5 ≤ p.2 ∧ p.2 ≤ 15)
def BigP (p : Int × Int) : Prop := I64 p.1 ∧ I64 p.2

section
variable {P : Program} {w : World} {kt et tm : TypeId}

theorem run_eqC (hk : P.underlying kt = some (.complex .f64)) (p q : Int × Int) (hp : BigP p) (hq : SmallP q) : (Op.equal kt (lkV p) (lkV q)).run P w = .ok (decide (p = q)) w := by
  have e : (Op.floatEq .f64 (flt p.1) (flt q.1) && Op.floatEq .f64 (flt p.2) (flt q.2)) = decide (p = q) := by
    rw [flt_eq _ _ hp.1 hq.1, flt_eq _ _ hp.2 hq.2]
    obtain ⟨a, b⟩ := p
    obtain ⟨c, d⟩ := q
    simp
  unfold Op.equal lkV
  rw [show Op.maxDepth = 9999 + 1 from rfl]
  unfold Op.equalIn
  simp [run_underlying hk, Result.andThen]
  simpa using e

theorem run_findC (hk : P.underlying kt = some (.complex .f64)) (p : Int × Int) (hp : BigP p) : ∀ (ks : List (Int × Int)) (es : List MapEntry) (i : Nat), es.map (·.key) = ks.map lkV → (∀ e ∈ es, e.val = .agg #[]) → (∀ q ∈ ks, SmallP q) →
    (Instr.findAsking kt (lkV p) es i).run P w = .ok (if p ∈ ks then some (i + ks.idxOf p, .agg #[]) else none) w
  | [], [], i, _, _, _ => by simp [Instr.findAsking]
  | [], e :: es, i, h, _, _ => by simp at h
  | k :: ks, [], i, h, _, _ => by simp at h
  | k :: ks, e :: es, i, h, hv, hs => by
    simp only [List.map_cons, List.cons.injEq] at h
    have hrun := run_eqC (w := w) hk p k hp (hs k (by simp))
    have ih := run_findC hk p hp ks es (i + 1) h.2 (fun e' he => hv e' (by simp [he])) (fun q hq => hs q (by simp [hq]))
    have hev := hv e (by simp)
    unfold Instr.findAsking
    rw [h.1]
    simp only [Sem.run_bind, hrun, Result.andThen]
    by_cases e1 : p = k
    · subst e1
      simp [hev]
    · have e2 : (k == p) = false := by simpa using fun x => e1 x.symm
      rw [decide_eq_false e1]
      simp only [Bool.false_eq_true, if_false]
      rw [ih]
      by_cases hm : p ∈ ks
      · rw [if_pos hm, if_pos (List.mem_cons_of_mem _ hm), List.idxOf_cons, e2]
        simp
        omega
      · rw [if_neg hm, if_neg (by simp [e1, hm])]

theorem run_findKeyC (hk : P.underlying kt = some (.complex .f64)) (p : Int × Int) (hp : BigP p) (ks : List (Int × Int)) (es : List MapEntry) (h : es.map (·.key) = ks.map lkV) (hv : ∀ e ∈ es, e.val = .agg #[]) (hs : ∀ q ∈ ks, SmallP q) :
    (Instr.findKey kt (lkV p) es).run P w = .ok (if p ∈ ks then some (ks.idxOf p, .agg #[]) else none) w := by
  have hf := run_findC (w := w) hk p hp ks es 0 h hv hs
  rw [Nat.zero_add] at hf
  unfold Instr.findKey
  simp only [Sem.run_bind, run_underlying hk, Result.andThen]
  cases es with
  | nil =>
    cases ks with
    | nil => simp [Instr.findNow]
    | cons k ks => simp at h
  | cons e es =>
    have : Instr.findNow (.complex .f64) (lkV p) (e :: es) 0 = none := by
      unfold Instr.findNow lkV
      simp [Instr.sameNow]
    rw [this]
    exact hf

theorem run_checkC (hk : P.underlying kt = some (.complex .f64)) (p : Int × Int) (b : Bool) : (Instr.checkKey b 10000 kt (lkV p)).run P w = .ok () w := by
  rw [show (10000 : Nat) = 9999 + 1 from rfl]
  unfold Instr.checkKey lkV
  simp [run_underlying hk, Result.andThen]

/-- Block b is a map of the call's own whose keys are the links ks. -/
def SetC (w : World) (b : Nat) (ks : List (Int × Int)) : Prop :=
  ∃ es clock, w.heap[b]? = some (.map es clock) ∧ es.toList.map (·.key) = ks.map lkV ∧ (∀ e ∈ es.toList, e.val = .agg #[]) ∧ (∀ q ∈ ks, SmallP q) ∧ ks.Nodup

theorem setC_made (w : World) : SetC (w.alloc (.map #[] 0)) w.heap.size [] :=
  ⟨#[], 0, by show (w.heap.push _)[w.heap.size]? = _; simp, rfl, by simp, by simp, List.nodup_nil⟩

theorem SetC.lt {b : Nat} {ks : List (Int × Int)} (h : SetC w b ks) : b < w.heap.size := by
  obtain ⟨es, c, hb, _⟩ := h
  exact (Array.getElem?_eq_some_iff.1 hb).1

theorem SetC.chg {gs : List Nat} {w' : World} {b : Nat} {ks : List (Int × Int)} (h : SetC w b ks) (hb : Chg gs w w') (hn : b ∉ gs) : SetC w' b ks := by
  have hlt := h.lt
  obtain ⟨es, c, h1, h2⟩ := h
  exact ⟨es, c, (hb.block b hlt hn).trans h1, h2⟩

theorem SetC.small {b : Nat} {ks : List (Int × Int)} (h : SetC w b ks) : ∀ q ∈ ks, SmallP q := by
  obtain ⟨es, c, _, _, _, hs, _⟩ := h
  exact hs

/-- A map, or none. -/
def SetN (w : World) (o : Option Nat) (ks : List (Int × Int)) : Prop :=
  match o with
  | none => ks = []
  | some b => SetC w b ks

theorem SetN.small {o : Option Nat} {ks : List (Int × Int)} (h : SetN w o ks) : ∀ q ∈ ks, SmallP q := by
  cases o with
  | none => unfold SetN at h; subst h; simp
  | some b => exact SetC.small h

theorem run_lookC (hm : P.underlying tm = some (.map kt et)) (hk : P.underlying kt = some (.complex .f64)) (hz : (zeroValue et).run P w = .ok (.agg #[]) w) (o : Option Nat) (ks : List (Int × Int)) (h : SetN w o ks) (p : Int × Int) (hp : BigP p) :
    (Instr.lookup tm (.map o) (lkV p) true).run P w = .ok (.tuple #[.agg #[], .bool (decide (p ∈ ks))]) w := by
  cases o with
  | none =>
    unfold SetN at h
    subst h
    have hf := run_findKeyC (w := w) hk p hp [] [] rfl (by simp) (by simp)
    unfold Instr.lookup
    simp [run_underlying hm, run_checkC hk, hf, hz, Result.andThen]
  | some b =>
    obtain ⟨es, c, hb, h1, h2, h3, h4⟩ := h
    have hf := run_findKeyC (w := w) hk p hp ks es.toList h1 h2 h3
    unfold Instr.lookup
    by_cases hin : p ∈ ks
    · rw [if_pos hin] at hf
      simp [run_underlying hm, MapKept.run_getObj_map hb, run_checkC hk, hf, Result.andThen, hin]
    · rw [if_neg hin] at hf
      simp [run_underlying hm, MapKept.run_getObj_map hb, run_checkC hk, hf, hz, Result.andThen, hin]

theorem chg_obj (w : World) (b : Nat) (o : Obj) : Chg [b] w { w with heap := w.heap.setIfInBounds b o } :=
  ⟨rfl, rfl, rfl, by simp, fun k hk hn => by
    simp at hn
    show (w.heap.setIfInBounds b o)[k]? = w.heap[k]?
    rw [Array.getElem?_setIfInBounds_ne (fun e => hn e.symm)]⟩

theorem run_putC (hm : P.underlying tm = some (.map kt et)) (hk : P.underlying kt = some (.complex .f64)) (b : Nat) (ks : List (Int × Int)) (h : SetC w b ks) (p : Int × Int) (hp : BigP p) (hs : SmallP p) (hn : p ∉ ks) :
    ∃ w', (Instr.mapUpdate tm (.map (some b)) (lkV p) (.agg #[])).run P w = .ok () w' ∧ SetC w' b (ks ++ [p]) ∧ Chg [b] w w' := by
  have hlt := h.lt
  obtain ⟨es, c, hb, h1, h2, h3, h4⟩ := h
  have hf := run_findKeyC (w := w) hk p hp ks es.toList h1 h2 h3
  rw [if_neg hn] at hf
  refine ⟨_, ?_, ⟨es.push { key := lkV p, val := .agg #[], born := c }, c + 1, ?_, ?_, ?_, ?_, ?_⟩, chg_obj w b (.map (es.push { key := lkV p, val := .agg #[], born := c }) (c + 1))⟩
  · unfold Instr.mapUpdate
    simp [run_underlying hm, MapKept.run_getObj_map hb, run_checkC hk, hf, MapKept.run_setObj_map _ hb, Result.andThen]
  · show (w.heap.setIfInBounds b _)[b]? = _
    simp [hlt]
  · simp [h1]
  · intro e he
    simp at he
    rcases he with he | rfl
    · exact h2 e (by simpa using he)
    · rfl
  · intro q hq
    rcases List.mem_append.mp hq with hq | hq
    · exact h3 q hq
    · simp at hq; subst hq; exact hs
  · rw [List.nodup_append]
    refine ⟨h4, by simp, fun a ha b' hb' e => ?_⟩
    simp at hb'
    subst hb'
    subst e
    exact hn ha

theorem erase_idx (ks : List (Int × Int)) (p : Int × Int) : ks.eraseIdx (ks.idxOf p) = ks.erase p := by
  induction ks with
  | nil => rfl
  | cons k ks ih =>
    by_cases e : k = p
    · subst e
      simp
    · have e2 : (k == p) = false := by simpa using e
      rw [List.idxOf_cons, e2, List.erase_cons, e2]
      simp only [cond_false, Bool.false_eq_true, if_false, List.eraseIdx_cons_succ, ih]

theorem map_eraseI {α β : Type} (f : α → β) : ∀ (l : List α) (j : Nat), (l.eraseIdx j).map f = (l.map f).eraseIdx j
  | [], _ => by simp
  | _ :: _, 0 => by simp
  | a :: r, j + 1 => by simp [map_eraseI f r j]

theorem run_dropC (hm : P.underlying tm = some (.map kt et)) (hk : P.underlying kt = some (.complex .f64)) (ty : TypeId) (b : Nat) (ks : List (Int × Int)) (h : SetC w b ks) (p : Int × Int) (hp : BigP p) (hn : p ∈ ks) :
    ∃ w', (Builtin.delete_ #[tm, kt] ty #[.map (some b), lkV p]).run P w = .ok (.tuple #[]) w' ∧ SetC w' b (ks.erase p) ∧ Chg [b] w w' := by
  have hlt := h.lt
  obtain ⟨es, c, hb, h1, h2, h3, h4⟩ := h
  have hf := run_findKeyC (w := w) hk p hp ks es.toList h1 h2 h3
  rw [if_pos hn] at hf
  have hlen : es.size = ks.length := by simpa using congrArg List.length h1
  have hj : ks.idxOf p < es.size := by rw [hlen]; exact List.idxOf_lt_length_of_mem hn
  have hsub : (es.eraseIdxIfInBounds (ks.idxOf p)).toList = es.toList.eraseIdx (ks.idxOf p) := by
    unfold Array.eraseIdxIfInBounds
    rw [dif_pos hj]
    simp
  refine ⟨_, ?_, ⟨es.eraseIdxIfInBounds (ks.idxOf p), c, ?_, ?_, ?_, ?_, ?_⟩, chg_obj w b (.map (es.eraseIdxIfInBounds (ks.idxOf p)) c)⟩
  · unfold Builtin.delete_
    simp [run_underlying hm, MapKept.run_getObj_map hb, run_checkC hk, hf, MapKept.run_setObj_map _ hb, Result.andThen]
  · show (w.heap.setIfInBounds b _)[b]? = _
    simp [hlt]
  · rw [hsub, map_eraseI, h1, ← map_eraseI, erase_idx]
  · intro e he
    rw [hsub] at he
    exact h2 e ((List.eraseIdx_sublist _ _).subset he)
  · intro q hq
    exact h3 q (List.mem_of_mem_erase hq)
  · exact h4.erase p

end

end Go.Proofs.Ytggjpjpemgpeeaa
