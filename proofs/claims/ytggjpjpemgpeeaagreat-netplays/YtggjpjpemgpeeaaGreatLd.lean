/-
  A struct of many cells that is loaded or stored as one operation.
-/
import Derived.Test.YtggjpjpemgpeeaaGreatMgM
import Derived.Test.YtggjpjpemgpeeaaGreatWalksY7
namespace Go.Proofs.YtggjpjpemgpeeaaGreat
open Go.RowKit

theorem run_ld {W : World} (t : TypeId) (n B o : Nat) (C : Array Value) (hs : (sizeOf t).run Tryz.prog W = .ok n W) (ha : (isAgg t).run Tryz.prog W = .ok true W) (hn : C.size = n)
    (h : ∀ i v, C[i]? = some v → W.cell? ⟨B, o + i, none⟩ = some v) : (Go.Instr.loadAt t (.pointer (some ⟨B, o, none⟩))).run Tryz.prog W = .ok (.agg C) W := by
  have h1 := run_loadCells_list (P := Tryz.prog) W ⟨B, o, none⟩ C.toList (fun j v hv => by rw [Go.WideShapes.add_plain]; exact h j v (by rw [← Array.getElem?_toList]; exact hv))
  rw [Array.toArray_toList, Array.length_toList, hn] at h1
  have hq : (if true = true then (do let s ← sizeOf t; let c ← loadCells ⟨B, o, none⟩ s; pure (Value.agg c) : Sem Value) else load ⟨B, o, none⟩).run Tryz.prog W = .ok (.agg C) W := by
    simp only [if_true, Sem.run_bind, hs, Result.andThen, h1, Sem.run_pure]
  simp only [Go.Instr.loadAt, Go.Instr.sureAddr, loadVar, Sem.run_bind, Sem.run_pure, Result.andThen, ha]
  exact hq

theorem run_ldM {W : World} (B : Nat) (C : Array Value) (hn : C.size = 19) (h : Box W B C) : (Go.Instr.loadAt 40 (.pointer (some ⟨B, 0, none⟩))).run Tryz.prog W = .ok (.agg C) W :=
  run_ld 40 19 B 0 C (by kernel_rfl) (by kernel_rfl) hn fun i v hv => by rw [Nat.zero_add]; exact h i v hv

/-- A message is loaded. -/
theorem wpList_ldM {ops : Array Oper} {rest : List Oper} {o : Oper} {a : Act} {Q : Exit → Act → World → Prop} {w : World} (s : Operand) (B : Nat) (C : Array Value) (hgd : o.guard = none) (ho : o.op = .load 40 s)
    (hs : a.eval s = .pointer (some ⟨B, 0, none⟩)) (hn : C.size = 19) (hb : Box w B C) (h : wpList Tryz.prog ops Q rest (a.put o.dst (.agg C)) w) : wpList Tryz.prog ops Q (o :: rest) a w := by
  have hrun := run_ldM B C hn hb
  refine wpList_plain hgd fun K hK => ?_
  unfold Oper.wp
  simp [execOp, ho, hs, hrun, Result.andThen]
  exact hK _ _ h

theorem chg_row (w : World) (B : Nat) (D : Array Value) : Chg [B] w (w.setRow B D) :=
  ⟨rfl, rfl, rfl, by simp [World.setRow], fun i hi hn => by
    have : i ≠ B := by simpa using hn
    simp only [World.setRow]
    rw [Array.getElem?_modify]
    simp [Ne.symm this]⟩

theorem run_st {w : World} (t : TypeId) (n B o : Nat) (t' : TypeId) (C D D' : Array Value) (hs : (sizeOf t).run Tryz.prog w = .ok n w) (hn : C.size = n) (h : Bx w B t' D) (hf : o + n ≤ D.size) (h1 : ∀ v ∈ C.toList, v.oneCell' = true)
    (hD : (D.toList.take o ++ C.toList ++ D.toList.drop (o + n)).toArray = D') : (Go.Instr.storeAt t (.pointer (some ⟨B, o, none⟩)) (.agg C)).run Tryz.prog w = .ok () (w.setRow B D') := by
  have hst := run_storeCells_at Tryz.prog B o t' C.toList 0 D w h (by rw [Array.length_toList, hn]; exact hf) h1
  rw [Nat.add_zero, Array.length_toList, hn, hD] at hst
  have hne : ¬ (Value.agg C).cells.size ≠ n := by show ¬ C.size ≠ n; omega
  simp only [Go.Instr.storeAt, Go.Instr.sureAddr, storeVar, Sem.run_bind, Sem.run_pure, Result.andThen, hs, if_neg hne]
  exact hst

/-- A struct is stored into a block of the call's own. -/
theorem wpList_st {ops : Array Oper} {rest : List Oper} {o : Oper} {a : Act} {Q : Exit → Act → World → Prop} {w : World} (t : TypeId) (n B off : Nat) (t' : TypeId) (C D D' : Array Value) (x y : Operand) (hgd : o.guard = none) (ho : o.op = .store t x y) (hd : o.dst = none)
    (hx : a.eval x = .pointer (some ⟨B, off, none⟩)) (hy : a.eval y = .agg C) (hs : (sizeOf t).run Tryz.prog w = .ok n w) (hn : C.size = n) (hb : Bx w B t' D) (hf : off + n ≤ D.size) (h1 : ∀ v ∈ C.toList, v.oneCell' = true)
    (hD : (D.toList.take off ++ C.toList ++ D.toList.drop (off + n)).toArray = D')
    (h : ∀ w', Bx w' B t' D' → Chg [B] w w' → wpList Tryz.prog ops Q rest a w') : wpList Tryz.prog ops Q (o :: rest) a w := by
  have hrun := run_st t n B off t' C D D' hs hn hb hf h1 hD
  refine wpList_plain hgd fun K hK => ?_
  unfold Oper.wp
  simp [execOp, ho, hx, hy, hrun, Result.andThen]
  exact hK _ _ (by rw [hd]; exact h _ (setRow_heap w B D D' t' (0, 0) hb) (chg_row w B D'))

end Go.Proofs.YtggjpjpemgpeeaaGreat
