/-
  Slices of fragments ([]api.Frag: a position and bytes, two cells an element) in memory: 'FrsAt' (read), 'OwnF' (of the call's own); the first fragments of unlike positions.
  What is known of an argument that is a slice of fragments: 'FrsAt'.
-/
import Derived.Test.YtggjpjpemgpeeaaGreatArgC
import Derived.Deep.SlicePairs
namespace Go.Proofs.YtggjpjpemgpeeaaGreat
open Go.RowKit

/-- A fragment as it lies in memory: its position, where its bytes lie and with which capacity, the bytes. -/
structure Fr where
  pos : Int
  loc : Option Addr
  cap : Nat
  data : List Nat

def fr0 : Fr := ⟨0, none, 0, []⟩

/-- The cells behind the address a hold the fragments fs. -/
structure FrsAt (w : World) (a : Option Addr) (cap : Nat) (fs : List Fr) : Prop where
  le : fs.length ≤ cap
  max : cap ≤ maxLen
  el : ∀ i, i < fs.length → ∃ b off, a = some ⟨b, off, none⟩ ∧ w.cell? ⟨b, off + i * 2, none⟩ = some (.int .i64 (fs.getD i fr0).pos) ∧ w.cell? ⟨b, off + i * 2 + 1, none⟩ = some (.slice (fs.getD i fr0).loc (fs.getD i fr0).data.length (fs.getD i fr0).cap) ∧ SeenAt w (fs.getD i fr0).loc (fs.getD i fr0).cap (fs.getD i fr0).data
  wf : ∀ f ∈ fs, (Lit.int .i64 f.pos).wf = true

theorem FrsAt.below {w w' : World} {a : Option Addr} {cap : Nat} {fs : List Fr} (h : FrsAt w a cap fs) (hb : Below w.heap.size w w') : FrsAt w' a cap fs :=
  ⟨h.le, h.max, fun i hi => by obtain ⟨b, off, e, h1, h2, h3⟩ := h.el i hi; exact ⟨b, off, e, cell_later hb h1, cell_later hb h2, h3.below hb⟩, h.wf⟩

theorem FrsAt.alike {w w' : World} {a : Option Addr} {cap : Nat} {fs : List Fr} (h : FrsAt w a cap fs) (e : w'.heap = w.heap) : FrsAt w' a cap fs :=
  ⟨h.le, h.max, fun i hi => by
    obtain ⟨b, off, e1, h1, h2, h3⟩ := h.el i hi
    exact ⟨b, off, e1, by rw [← h1]; simp [World.cell?, e], by rw [← h2]; simp [World.cell?, e], h3.alike e⟩, h.wf⟩

theorem FrsAt.nil {w : World} {a : Option Addr} {cap : Nat} (h : cap ≤ maxLen) : FrsAt w a cap [] := ⟨Nat.zero_le _, h, fun i hi => by simp at hi, by simp⟩

theorem FrsAt.take {w : World} {a : Option Addr} {cap : Nat} {fs : List Fr} (h : FrsAt w a cap fs) (n : Nat) : FrsAt w a cap (fs.take n) :=
  ⟨by have := h.le; simp; omega, h.max, fun i hi => by
    have hi' : i < n ∧ i < fs.length := by rw [List.length_take] at hi; omega
    have e : (fs.take n).getD i fr0 = fs.getD i fr0 := by rw [List.getD_eq_getElem?_getD, List.getElem?_take_of_lt hi'.1, ← List.getD_eq_getElem?_getD]
    rw [e]
    exact h.el i hi'.2, fun f hf => h.wf f (List.mem_of_mem_take hf)⟩

/-- The cells of fragments. -/
def fvals : List Fr → List Value
  | [] => []
  | f :: fs => .int .i64 f.pos :: .slice f.loc f.data.length f.cap :: fvals fs

theorem fvals_len (fs : List Fr) : (fvals fs).length = fs.length * 2 := by
  induction fs with
  | nil => rfl
  | cons f fs ih => simp [fvals, ih]; omega

theorem fvals_app (fs gs : List Fr) : fvals (fs ++ gs) = fvals fs ++ fvals gs := by
  induction fs with
  | nil => rfl
  | cons f fs ih => simp [fvals, ih]

theorem fvals_pos : ∀ (fs : List Fr) (i : Nat), i < fs.length → (fvals fs)[i * 2]? = some (.int .i64 (fs.getD i fr0).pos)
  | [], i, h => by simp at h
  | f :: fs, 0, _ => rfl
  | f :: fs, i + 1, h => by
    have := fvals_pos fs i (by simpa using h)
    rw [show (i + 1) * 2 = i * 2 + 1 + 1 by omega]
    simpa [fvals] using this

theorem fvals_data : ∀ (fs : List Fr) (i : Nat), i < fs.length → (fvals fs)[i * 2 + 1]? = some (.slice (fs.getD i fr0).loc (fs.getD i fr0).data.length (fs.getD i fr0).cap)
  | [], i, h => by simp at h
  | f :: fs, 0, _ => rfl
  | f :: fs, i + 1, h => by
    have := fvals_data fs i (by simpa using h)
    rw [show (i + 1) * 2 + 1 = i * 2 + 1 + 1 + 1 by omega]
    simpa [fvals] using this

/-- A value that is a slice of fragments of the call's own (or nil); the bytes lie in memory that was there in the world w0. -/
structure OldF (w0 w : World) (v : Value) (fs : List Fr) : Prop where
  own : w.ownsRow w0.heap.size 70 2 v fs.length (fvals fs)
  seen : ∀ f ∈ fs, SeenAt w0 f.loc f.cap f.data
  wf : ∀ f ∈ fs, (Lit.int .i64 f.pos).wf = true

theorem OldF.frs {w0 w : World} {a : Option Addr} {n cap : Nat} {fs : List Fr} (h : OldF w0 w (.slice a n cap) fs) (hb : Below w0.heap.size w0 w) : fs.length = n ∧ FrsAt w a cap fs := by
  have hx := h.own
  rcases hx.2 with ⟨hv, h0⟩ | ⟨g, cap', cur, hv, _, hg, hnc, hcm, _⟩
  · have : fs = [] := by cases fs with | nil => rfl | cons f fs => simp at h0
    subst this
    cases hv
    exact ⟨rfl, FrsAt.nil (Nat.zero_le _)⟩
  · cases hv
    refine ⟨rfl, ⟨hnc, hcm, fun i hi => ⟨g, 0, rfl, ?_, ?_, (h.seen _ (getD_mem fs i fr0 hi)).below hb⟩, h.wf⟩⟩
    · rw [Nat.zero_add, World.ownsRow.cellAt h.own (i * 2) (by omega)]; exact fvals_pos fs i hi
    · rw [Nat.zero_add, World.ownsRow.cellAt h.own (i * 2 + 1) (by omega)]; exact fvals_data fs i hi

theorem OldF.chg {gs : List Nat} {w0 w w' : World} {v : Value} {fs : List Fr} (h : OldF w0 w v fs) (hb : Chg gs w w') (hn : ∀ g, v.ownBlock = some g → g ∉ gs) : OldF w0 w' v fs :=
  ⟨hb.owns h.own hn, h.seen, h.wf⟩

theorem OldF.below {w0 w w' : World} {v : Value} {fs : List Fr} (h : OldF w0 w v fs) (hb : Below w.heap.size w w') : OldF w0 w' v fs :=
  h.chg (gs := []) (Chg.of_below hb) (by simp)

theorem OldF.lt {w0 w : World} {v : Value} {fs : List Fr} (h : OldF w0 w v fs) (g : Nat) (hg : v.ownBlock = some g) : w0.heap.size ≤ g ∧ g < w.heap.size := World.ownsRow.lt h.own g hg

theorem oldF_nil (w0 w : World) : OldF w0 w (.slice none 0 0) [] := ⟨⟨rfl, .inl ⟨rfl, rfl⟩⟩, by simp, by simp⟩

theorem oldF_none (w0 w : World) (h : w0.heap.size ≤ w.heap.size) : OldF w0 (w.alloc (.cells #[] 70)) (.slice (some ⟨w.heap.size, 0, none⟩) 0 0) [] :=
  ⟨World.ownsRow_lit (base := w0.heap.size) (e := 70) (size := 2) w #[] 0 h (by unfold maxLen; omega) rfl, by simp, by simp⟩

theorem below_grown {w0 w w' : World} {v : Value} {fs : List Fr} (h : OldF w0 w v fs) (hb : Below w0.heap.size w0 w) (hg : w.grownBy w' v.ownBlock) : Below w0.heap.size w0 w' :=
  hb.trans ⟨hg.os, hg.tape, hg.output, hg.size, fun i hi => hg.block i (Nat.lt_of_lt_of_le hi hb.size) (fun e => by have := (h.lt i e.symm).1; omega)⟩

theorem infoF : (Tryz.prog.info? 70).map (fun i => (i.zero, i.size, i.bytes)) = some (some (.agg #[.int .i64 0, .slice none 0 0]), 2, 32) := by kernel_rfl

/-- append(list, f), f laid in a block of its own (two cells). -/
theorem wpList_appF {ops : Array Oper} {rest : List Oper} {o : Oper} {a : Act} {Q : Exit → Act → World → Prop} {w0 w : World} (hgd : o.guard = none) (s x : Operand)
    (ho : o.op = .call { callee := .builtin .append, args := #[s, x], argTypes := #[32, 32] })
    (v : Value) (fs : List Fr) (n : Nat) (hn : fs.length = n) (hs : a.eval s = v) (hown : OldF w0 w v fs) (f : Fr) (hf : SeenAt w0 f.loc f.cap f.data) (hw : (Lit.int .i64 f.pos).wf = true)
    (B xc : Nat) (hx : a.eval x = .slice (some ⟨B, 0, none⟩) 1 xc) (h0 : w.cell? ⟨B, 0, none⟩ = some (.int .i64 f.pos)) (h1 : w.cell? ⟨B, 1, none⟩ = some (.slice f.loc f.data.length f.cap)) (hb : n ≤ 1000000000) (hbase : w0.heap.size ≤ w.heap.size)
    (h : ∀ g' cap' w', OldF w0 w' (.slice (some ⟨g', 0, none⟩) (n + 1) cap') (fs ++ [f]) → w.grownBy w' v.ownBlock → (v.ownBlock = some g' ∨ w.heap.size ≤ g') → wpList Tryz.prog ops Q rest (a.put o.dst (.slice (some ⟨g', 0, none⟩) (n + 1) cap')) w') :
    wpList Tryz.prog ops Q (o :: rest) a w := by
  obtain ⟨i, hi, hz, hsz, hby⟩ := info_parts infoF
  subst hn
  refine wpList_append_lies w hgd s x 32 ho w0.heap.size 70 i _ 2 32 Tryz.underlying32 hi hz hsz hby rfl (by omega) v _ _ hs hown.own ⟨B, 0, none⟩ 1 xc [.int .i64 f.pos, .slice f.loc f.data.length f.cap] hx rfl
    (fun j u hj => ?_) (by simp [Value.oneCell']) (by omega) (by unfold maxLen; omega) (by omega) hbase w.heap.size rfl ?_
  · match j, hj with
    | 0, hj => simp at hj; subst hj; exact h0
    | 1, hj => simp at hj; subst hj; exact h1
    | j + 2, hj => simp at hj
  · intro g' cap' w' hown' hg hat hlt
    refine h g' cap' w' ⟨?_, fun e he => ?_, fun e he => ?_⟩ hg ?_
    · rw [List.length_append, List.length_singleton, fvals_app]
      exact hown'
    · rcases List.mem_append.mp he with he | he
      · exact hown.seen e he
      · rw [List.mem_singleton.mp he]; exact hf
    · rcases List.mem_append.mp he with he | he
      · exact hown.wf e he
      · rw [List.mem_singleton.mp he]; exact hw
    · rcases hat with hat | hat
      · exact .inl hat
      · exact .inr (by omega)

/-- The first fragments of unlike positions. -/
def fst1 (acc : List Fr) (f : Fr) : List Fr := if (acc.map (·.pos)).contains f.pos then acc else acc ++ [f]
def firsts (fs : List Fr) : List Fr := fs.foldl fst1 []

theorem firsts_snoc (fs : List Fr) (f : Fr) : firsts (fs ++ [f]) = fst1 (firsts fs) f := by simp [firsts, List.foldl_append]
theorem firsts_nil : firsts [] = [] := rfl

theorem take_snoc {α : Type} (fs : List α) (i : Nat) (d : α) (h : i < fs.length) : fs.take (i + 1) = fs.take i ++ [fs.getD i d] := by
  rw [List.take_succ_eq_append_getElem h, List.getD_eq_getElem?_getD, List.getElem?_eq_getElem h]; rfl

theorem firsts_step (fs : List Fr) (i : Nat) (h : i < fs.length) : firsts (fs.take (i + 1)) = fst1 (firsts (fs.take i)) (fs.getD i fr0) := by
  rw [take_snoc fs i fr0 h, firsts_snoc]

theorem fst1_mem (acc : List Fr) (f e : Fr) (h : e ∈ fst1 acc f) : e ∈ acc ∨ e = f := by
  unfold fst1 at h
  split at h
  · exact .inl h
  · rcases List.mem_append.mp h with h | h
    · exact .inl h
    · exact .inr (by simpa using h)

theorem firsts_mem : ∀ (fs : List Fr) (e : Fr), e ∈ firsts fs → e ∈ fs := by
  have : ∀ (fs acc : List Fr) (e : Fr), e ∈ fs.foldl fst1 acc → e ∈ acc ∨ e ∈ fs := by
    intro fs
    induction fs with
    | nil => intro acc e h; exact .inl h
    | cons f fs ih =>
      intro acc e h
      rcases ih _ e h with h | h
      · rcases fst1_mem acc f e h with h | h
        · exact .inl h
        · exact .inr (by rw [h]; simp)
      · exact .inr (List.mem_cons_of_mem _ h)
  intro fs e h
  rcases this fs [] e h with h | h
  · simp at h
  · exact h

/-- Their positions. -/
def poss (fs : List Fr) : List Int := fs.map (·.pos)

theorem fst1_poss (acc : List Fr) (f : Fr) : poss (fst1 acc f) = if f.pos ∈ poss acc then poss acc else poss acc ++ [f.pos] := by
  unfold fst1 poss
  by_cases h : f.pos ∈ acc.map (·.pos)
  · rw [if_pos (by simpa using h), if_pos h]
  · rw [if_neg (by simpa using h), if_neg h]; simp

theorem firsts_nodup : ∀ (fs : List Fr), (poss (firsts fs)).Nodup := by
  have : ∀ (fs acc : List Fr), (poss acc).Nodup → (poss (fs.foldl fst1 acc)).Nodup := by
    intro fs
    induction fs with
    | nil => intro acc h; exact h
    | cons f fs ih =>
      intro acc h
      refine ih _ ?_
      rw [fst1_poss]
      split
      · exact h
      · rename_i hn
        rw [List.nodup_append]
        refine ⟨h, by simp, fun a ha b hb => ?_⟩
        rw [List.mem_singleton.mp hb]
        rintro rfl
        exact hn ha
  intro fs
  exact this fs [] (by simp [poss])

theorem firsts_has (fs : List Fr) (e : Fr) (h : e ∈ fs) : e.pos ∈ poss (firsts fs) := by
  have : ∀ (fs acc : List Fr) (p : Int), p ∈ poss acc ∨ (∃ e ∈ fs, e.pos = p) → p ∈ poss (fs.foldl fst1 acc) := by
    intro fs
    induction fs with
    | nil => intro acc p h; rcases h with h | ⟨e, he, _⟩; exact h; simp at he
    | cons f fs ih =>
      intro acc p h
      refine ih _ p ?_
      rw [fst1_poss]
      rcases h with h | ⟨e, he, rfl⟩
      · left; split
        · exact h
        · exact List.mem_append_left _ h
      · rcases List.mem_cons.mp he with rfl | he
        · left; split
          · assumption
          · simp
        · exact .inr ⟨e, he, rfl⟩
  exact this fs [] e.pos (.inr ⟨e, h, rfl⟩)

/-- The first k of them are those of an earlier part, if that has k. -/
theorem firsts_prefix (fs : List Fr) (i : Nat) : ∃ gs, firsts fs = firsts (fs.take i) ++ gs := by
  have : ∀ (fs acc : List Fr), ∃ gs, fs.foldl fst1 acc = acc ++ gs := by
    intro fs
    induction fs with
    | nil => intro acc; exact ⟨[], by simp⟩
    | cons f fs ih =>
      intro acc
      obtain ⟨gs, h⟩ := ih (fst1 acc f)
      show ∃ gs, fs.foldl fst1 (fst1 acc f) = acc ++ gs
      rw [h]
      unfold fst1
      split
      · exact ⟨gs, rfl⟩
      · exact ⟨f :: gs, by simp⟩
  obtain ⟨gs, h⟩ := this (fs.drop i) (firsts (fs.take i))
  refine ⟨gs, ?_⟩
  rw [← h]
  unfold firsts
  rw [← List.foldl_append, List.take_append_drop]

end Go.Proofs.YtggjpjpemgpeeaaGreat

namespace Go.Proofs.YtggjpjpemgpeeaaGreat
open Go.ChangeShapes Go.WideShapes Go.ChangeAt Go.RowKit

theorem pick_all {P : Nat → Fr → Prop} : ∀ n : Nat, (∀ i, i < n → ∃ f, P i f) → ∃ fs : List Fr, fs.length = n ∧ ∀ i, i < n → P i (fs.getD i fr0)
  | 0, _ => ⟨[], rfl, fun i hi => by omega⟩
  | n + 1, h => by
    obtain ⟨fs, hl, hf⟩ := pick_all n fun i hi => h i (by omega)
    obtain ⟨f, hn⟩ := h n (by omega)
    refine ⟨fs ++ [f], by simp [hl], fun i hi => ?_⟩
    by_cases e : i = n
    · have e1 := getD_app_eq fs f fr0
      rw [hl] at e1
      rw [e, e1]; exact hn
    · rw [getD_app_lt fs f fr0 i (by omega)]; exact hf i (by omega)

/-- An argument that is a slice of fragments. -/
theorem frs_arg {H : Type} {enc : TypeId × Value → H} {W : World} {a : Option Addr} {len cap : Nat} {d : DataW H} {ps : List MemPlace} (h : DataW.Trod enc Tryz.prog W 0 (fun _ => true) true 32 (.slice a len cap) d ps) :
    ∃ fs : List Fr, fs.length = len ∧ FrsAt W a cap fs := by
  obtain ⟨fuel, hf⟩ := h
  rcases Go.Deep.open_slice_pairs Tryz.underlying32 Tryz.underlying70 (by kernel_rfl) rfl rfl (by kernel_rfl) (by kernel_rfl) hf with ⟨hcs, _⟩ | ⟨x, l, c, m, n, V0, V1, D0, D1, P0, P1, hcs, _, hl, hm, hmm, _, hel⟩
  · simp [Value.cells] at hcs
    obtain ⟨rfl, rfl, rfl⟩ := hcs
    exact ⟨[], rfl, FrsAt.nil (Nat.zero_le _)⟩
  · simp [Value.cells] at hcs
    obtain ⟨rfl, rfl, rfl⟩ := hcs
    have hmc : m = cap := by simpa using hmm
    subst hmc
    have each : ∀ i, i < len → ∃ f : Fr, W.cell? (x.add (i * 2)) = some (.int .i64 f.pos) ∧ W.cell? (x.add (i * 2 + 1)) = some (.slice f.loc f.data.length f.cap) ∧ SeenAt W f.loc f.cap f.data ∧ (Lit.int .i64 f.pos).wf = true := by
      intro i hi
      obtain ⟨h0, h1, t0, t1⟩ := hel i (by omega)
      obtain ⟨z, e0, _, hw⟩ := DataW.trod_int Tryz.underlying3 t0
      obtain ⟨ra, rc, qs, e1, hs⟩ := seen_cell t1
      have e0' : V0 i = .int .i64 z := by simpa using e0
      exact ⟨⟨z, ra, rc, qs⟩, by rw [h0, e0'], by rw [h1, e1], hs, hw⟩
    obtain ⟨fs, hfl, hfe⟩ := pick_all len each
    refine ⟨fs, hfl, ⟨by omega, hm, fun i hi => ?_, fun f hf => ?_⟩⟩
    · obtain ⟨g0, g1, g2, _⟩ := hfe i (by omega)
      have hx : ∃ b off, x = ⟨b, off, none⟩ := by
        obtain ⟨g0', _⟩ := hfe 0 (by omega)
        exact addr_of (by simpa using g0')
      obtain ⟨b, off, rfl⟩ := hx
      rw [Go.WideShapes.add_plain] at g0 g1
      exact ⟨b, off, rfl, g0, by rw [← Nat.add_assoc] at g1; exact g1, g2⟩
    · obtain ⟨i, hi, e⟩ := List.mem_iff_getElem.mp hf
      have := (hfe i (by omega)).2.2.2
      rw [List.getD_eq_getElem?_getD, List.getElem?_eq_getElem hi] at this
      have e2 : (some (fs[i])).getD fr0 = f := e
      rw [e2] at this
      exact this

end Go.Proofs.YtggjpjpemgpeeaaGreat
