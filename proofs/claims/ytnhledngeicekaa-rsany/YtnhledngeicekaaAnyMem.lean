/-
  Rows of integers of the call's own (the law RsAny's 'left'), and what appends to them run to.
-/
import Derived.Test.YtnhledngeicekaaSums
import Derived.Test.YtnhledngeicekaaSameNo
namespace Go.Proofs.Ytnhledngeicekaa
open Go.RowKit

def ivals (xs : List Nat) : List Value := xs.map fun (c : Nat) => .int .i64 (c : Int)
theorem ivals_len (xs : List Nat) : (ivals xs).length = xs.length := by simp [ivals]
theorem ivals_at (xs : List Nat) (i : Nat) (h : i < xs.length) : (ivals xs)[i]? = some (.int .i64 ((xs.getD i 0 : Nat) : Int)) := by simp [ivals, h]
theorem ivals_app (xs ys : List Nat) : ivals (xs ++ ys) = ivals xs ++ ivals ys := by simp [ivals]
theorem ivals_one (xs : List Nat) : ∀ u ∈ ivals xs, u.oneCell' = true := by
  intro u hu
  obtain ⟨c, _, rfl⟩ := List.mem_map.mp hu
  rfl

theorem infoI : ∃ i, Try.prog.info? 3 = some i ∧ i.zero = some (.int .i64 0) ∧ i.size = 1 ∧ i.bytes = 8 := ⟨_, rfl, by kernel_rfl, by kernel_rfl, by kernel_rfl⟩

/-- A row of integers of the call's own. -/
def OwnI (w : World) (base g cap : Nat) (xs : List Nat) : Prop := w.ownsRow base 3 1 (.slice (some ⟨g, 0, none⟩) xs.length cap) xs.length (ivals xs)

theorem OwnI.lt {w : World} {base g cap : Nat} {xs : List Nat} (h : OwnI w base g cap xs) : base ≤ g ∧ g < w.heap.size := World.ownsRow.lt h g rfl
theorem OwnI.cell {w : World} {base g cap : Nat} {xs : List Nat} (h : OwnI w base g cap xs) (i : Nat) (hi : i < xs.length) : w.cell? ⟨g, i, none⟩ = some (.int .i64 ((xs.getD i 0 : Nat) : Int)) := by
  rw [World.ownsRow.cellAt h i (by omega)]; exact ivals_at xs i hi
theorem OwnI.cap_le {w : World} {base g cap : Nat} {xs : List Nat} (h : OwnI w base g cap xs) : xs.length ≤ cap ∧ cap ≤ maxLen := by
  obtain ⟨_, _, h1, h2, _, _⟩ := heap_of_owns h
  exact ⟨h1, h2⟩
theorem OwnI.chg {gs : List Nat} {w w' : World} {base g cap : Nat} {xs : List Nat} (h : OwnI w base g cap xs) (hb : Chg gs w w') (hn : g ∉ gs) : OwnI w' base g cap xs := hb.owns h (by rintro k ⟨⟩; exact hn)
theorem OwnI.below {w w' : World} {base g cap : Nat} {xs : List Nat} (h : OwnI w base g cap xs) (hb : Below w.heap.size w w') : OwnI w' base g cap xs := h.chg (gs := []) (Chg.of_below hb) (by simp)
theorem ownI_none (w : World) (base : Nat) (hb : base ≤ w.heap.size) : OwnI (w.alloc (.cells #[] 3)) base w.heap.size 0 [] :=
  World.ownsRow_lit (base := base) (e := 3) (size := 1) w #[] 0 hb (by unfold maxLen; omega) rfl

/-- append(row, source...): what it runs to. -/
theorem run_appI (w : World) (ty : TypeId) (base g cap n q B off xc : Nat) (xs ys : List Nat) (hn : xs.length = n) (hq : ys.length = q) (hown : OwnI w base g cap xs) (hsrc : ∀ j, j < q → w.cell? ⟨B, off + j, none⟩ = some (.int .i64 ((ys.getD j 0 : Nat) : Int))) (hb : n + q ≤ 1000000) (hbase : base ≤ w.heap.size) :
    ∃ g' cap' w', (Builtin.append_ #[35, 35] ty #[.slice (some ⟨g, 0, none⟩) n cap, .slice (some ⟨B, off, none⟩) q xc]).run Try.prog w = .ok (.slice (some ⟨g', 0, none⟩) (n + q) cap') w' ∧ OwnI w' base g' cap' (xs ++ ys) ∧ Chg [g] w w' ∧ (g' = g ∨ w.heap.size ≤ g') := by
  subst hn hq
  obtain ⟨i, hi, hz, hsz, hby⟩ := infoI
  by_cases h0 : ys = []
  · subst h0
    refine ⟨g, cap, w, ?_, by rw [List.append_nil]; exact hown, Chg.refl _ _, .inl rfl⟩
    have hc := hown.cap_le.1
    simp [Builtin.append_, run_underlying Try.underlying35, sizeOf, typeInfo, hi, Builtin.lenOf, Builtin.firstCells, hc, storeCells, loadCells, loadCellsFrom]
  · have hpos : 0 < ys.length := by cases ys with | nil => exact absurd rfl h0 | cons c q => simp
    obtain ⟨g', cap', w', hr, h2, h3, h4, _⟩ := run_append_lies (P := Try.prog) w 35 ty base 3 i (.int .i64 0) 1 8 Try.underlying35 hi hz hsz hby rfl (by omega) (.slice (some ⟨g, 0, none⟩) xs.length cap) xs.length (ivals xs) hown ⟨B, off, none⟩ ys.length xc (ivals ys) (by rw [ivals_len]; omega)
      (fun j u hj => by
        have hl : j < ys.length := by
          rcases Nat.lt_or_ge j ys.length with hlt | hge
          · exact hlt
          · rw [List.getElem?_eq_none (by rw [ivals_len]; exact hge)] at hj; cases hj
        rw [ivals_at ys j hl] at hj
        rw [← hj, Go.WideShapes.add_plain]
        exact hsrc j hl) (ivals_one ys) hpos (by unfold maxLen; omega) (by omega) hbase w.heap.size rfl
    refine ⟨g', cap', w', hr, ?_, Chg.of_grown h3, ?_⟩
    · show w'.ownsRow _ _ _ _ _ _
      rw [ivals_app, List.length_append]
      exact h2
    · rcases h4 with h4 | h4
      · left; cases h4; rfl
      · right; omega

/-- append(list, f): what it runs to. -/
theorem run_appF {w0 : World} (w : World) (ty : TypeId) (v : Value) (fs : List Fr) (n B : Nat) (f : Fr) (hn : fs.length = n) (hown : OldF w0 w v fs) (hf : SeenAt w0 f.loc f.cap f.data) (hw : (Lit.int .i64 f.pos).wf = true)
    (h0 : w.cell? ⟨B, 0, none⟩ = some (.int .i64 f.pos)) (h1 : w.cell? ⟨B, 1, none⟩ = some (.slice f.loc f.data.length f.cap)) (hb : n ≤ 1000000) (hbase : w0.heap.size ≤ w.heap.size) :
    ∃ g' cap' w', (Builtin.append_ #[36, 36] ty #[v, .slice (some ⟨B, 0, none⟩) 1 1]).run Try.prog w = .ok (.slice (some ⟨g', 0, none⟩) (n + 1) cap') w' ∧ OldF w0 w' (.slice (some ⟨g', 0, none⟩) (n + 1) cap') (fs ++ [f]) ∧ w.grownBy w' v.ownBlock ∧ (v.ownBlock = some g' ∨ w.heap.size ≤ g') := by
  obtain ⟨i, hi, hz, hsz, hby⟩ := info_parts infoF
  subst hn
  obtain ⟨g', cap', w', hr, h2, h3, h4, _⟩ := run_append_lies (P := Try.prog) w 36 ty w0.heap.size 38 i _ 2 32 Try.underlying36 hi hz hsz hby rfl (by omega) v fs.length (fvals fs) hown.own ⟨B, 0, none⟩ 1 1 [.int .i64 f.pos, .slice f.loc f.data.length f.cap] rfl
    (fun j u hj => by
      match j, hj with
      | 0, hj => simp at hj; subst hj; exact h0
      | 1, hj => simp at hj; subst hj; exact h1
      | j + 2, hj => simp at hj) (by simp [Value.oneCell']) (by omega) (by unfold maxLen; omega) (by omega) hbase w.heap.size rfl
  refine ⟨g', cap', w', hr, ⟨?_, fun e he => ?_, fun e he => ?_⟩, h3, ?_⟩
  · rw [List.length_append, List.length_singleton, fvals_app]
    exact h2
  · rcases List.mem_append.mp he with he | he
    · exact hown.seen e he
    · rw [List.mem_singleton.mp he]; exact hf
  · rcases List.mem_append.mp he with he | he
    · exact hown.wf e he
    · rw [List.mem_singleton.mp he]; exact hw
  · rcases h4 with h4 | h4
    · exact .inl h4
    · exact .inr (by omega)

end Go.Proofs.Ytnhledngeicekaa
