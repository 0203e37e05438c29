/-
  A map[int]bool that the call itself has made, as a set of plain numbers.
-/
import Derived.Test.YtjefjlalebpodaaMem
import Derived.Maps.OwnOps
import Derived.Maps.Views
namespace Go.Proofs.Ytjefjlalebpodaa
open Go.RowKit Go.Maps

/-- Block b is a map of at most n entries; asked for k it answers S k. -/
def SetI (w : World) (b n : Nat) (S : Nat → Bool) : Prop :=
  ∃ D : DataW Unit, IsMap D ∧ w.ownsMap Try.prog 3 (plainElem Try.prog 4) b n D ∧ ∀ k : Nat, D.atKey (.int .i64 (k : Int)) (.lit (.bool false)) = .lit (.bool (S k))

theorem set_made (w : World) : SetI (w.alloc (.map #[] 0)) w.heap.size 0 (fun _ => false) :=
  ⟨.map [], ⟨[], rfl⟩, World.ownsMap_made w _ _ _, fun _ => rfl⟩

theorem SetI.lt {w : World} {b n : Nat} {S : Nat → Bool} (h : SetI w b n S) : b < w.heap.size := by obtain ⟨D, _, hD, _⟩ := h; exact hD.lt

theorem SetI.chg {gs : List Nat} {w w' : World} {b n : Nat} {S : Nat → Bool} (h : SetI w b n S) (hb : Chg gs w w') (hn : b ∉ gs) : SetI w' b n S := by
  have hlt := h.lt
  obtain ⟨D, hm, ⟨es, clock, hg, F, hs, hD⟩, hk⟩ := h
  exact ⟨D, hm, ⟨es, clock, (hb.block b hlt hn).trans hg, F, hs, hD⟩, hk⟩

theorem zeroBool (w : World) : (zeroValue 4).run Try.prog w = .ok (.bool false) w := by kernel_rfl

theorem wf_nat (k : Nat) (h : k < 1000000000) : (Lit.int .i64 (k : Int)).wf = true := by
  simp [Lit.wf, IntKind.min, IntKind.max, IntKind.signed, IntKind.bits]
  omega

set_option maxRecDepth 100000 in
/-- m[k]. -/
theorem wpList_setLook {ops : Array Oper} {rest : List Oper} {o : Oper} {a : Act} {Q : Exit → Act → World → Prop} {w : World} (hgd : o.guard = none) (m x : Operand)
    (ho : o.op = Op.lookup 79 m x false) (b n : Nat) (S : Nat → Bool) (hm : a.eval m = .map (some b)) (hown : SetI w b n S) (k : Nat) (z : Int) (hz : z = (k : Int)) (hx : a.eval x = .int .i64 z) (hk : k < 1000000000)
    (h : wpList Try.prog ops Q rest (a.put o.dst (.bool (S k))) w) : wpList Try.prog ops Q (o :: rest) a w := by
  subst hz
  refine wpList_plain hgd fun K' hK' => ?_
  obtain ⟨D, _, hD, hS⟩ := hown
  obtain ⟨v, ps, hrun, hv⟩ := hD.lookup (int_keyed Try.underlying3) Try.underlying79 (zeroBool w) (plainElem_bool Try.underlying4 false) (keyOf_int_mk Try.underlying3 (wf_nat k hk))
  rw [hS k] at hv
  have e : v = .bool (S k) := by
    unfold plainElem at hv
    rw [Try.underlying4] at hv
    cases v <;> simp at hv
    rw [hv.1]
  subst e
  unfold Oper.wp
  simp [execOp, ho, hm, hx, hrun, Result.andThen]
  exact hK' _ _ h

/-- m[k] = true. -/
theorem wpList_setPut {ops : Array Oper} {rest : List Oper} {o : Oper} {a : Act} {Q : Exit → Act → World → Prop} {w : World} (hgd : o.guard = none) (m x v : Operand)
    (ho : o.op = Op.mapUpdate 79 m x v) (b n : Nat) (S : Nat → Bool) (hm : a.eval m = .map (some b)) (hown : SetI w b n S) (k : Nat) (z : Int) (hz : z = (k : Int)) (hx : a.eval x = .int .i64 z) (hk : k < 1000000000) (hv : a.eval v = .bool true) (hn : n < 1000000000)
    (h : ∀ w', SetI w' b (n + 1) (fun j => if j = k then true else S j) → Chg [b] w w' → wpList Try.prog ops Q rest (a.put o.dst undef) w') : wpList Try.prog ops Q (o :: rest) a w := by
  subst hz
  obtain ⟨D, hDm, hD, hS⟩ := hown
  refine wpList_mapUpdate_own w hgd m x v 79 ho 3 4 (int_keyed Try.underlying3) Try.underlying79 _ b n D hm hD (by unfold maxLen; omega) _ _ (.int .i64 (k : Int)) hx hv (keyOf_int_mk Try.underlying3 (wf_nat k hk)) _ _ (plainElem_bool Try.underlying4 true) ?_
  intro w' hD' hg
  refine h w' ⟨_, ?_, hD', fun j => ?_⟩ (Chg.of_grown hg)
  · obtain ⟨es, rfl⟩ := hDm
    exact ⟨_, rfl⟩
  · show _ = DataW.lit (.bool (if j = k then true else S j))
    by_cases e : j = k
    · subst e
      rw [if_pos rfl]
      exact atKey_put_same hDm (by simp [WideAt.IsKeyLit]) _ _
    · rw [if_neg e, atKey_put_other (by intro h'; cases h'; exact e rfl)]
      exact hS j

end Go.Proofs.Ytjefjlalebpodaa
