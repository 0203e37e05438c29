/-
  Regions that draw their order, where two that make memory may come up.
-/
import Derived.Test.YtggjpjpemgpeeaaGreatExt
namespace Go.Proofs.YtggjpjpemgpeeaaGreat
open Go.RowKit

section
variable {P : Program} {ops : Array Oper} {Q : Exit → Act → World → Prop} {md : Region.Mode}

/-- Number i alone may come up; the condition stays what it was. -/
theorem wpAnyH_oneF {i : Nat} {o : Oper} {fuel : Nat} {listed : Array Bool} {a : Act} {w w0 : World} (ho : ops[i]? = some o) (hr : Region.ready md ops listed = [i])
    (hw : Region.wanted o (yielded ops a.tmps) = true)
    (h : ∀ K' : Act → World → Prop, Shut (∀ a w', Ext w0 w' → wpAnyH P md ops (NoPanic Q) (Ext w0) fuel (listed.setIfInBounds i true) a w' → K' a w') → Oper.wp P o a w K' (NoPanic Q)) :
    wpAnyH P md ops (NoPanic Q) (Ext w0) (fuel + 1) listed a w := by
  refine wpAnyH_all hr (by simp) fun j hj => ?_
  obtain rfl : j = i := by simpa using hj
  refine wpOp_step ho fun K' hK => ?_
  rw [if_pos hw]
  exact h K' fun a w' hE hW => hK a w' ⟨hE, hW⟩

/-- Two may come up, i or j. -/
theorem wpAnyH_twoF {i j : Nat} {oi oj : Oper} {fuel : Nat} {listed : Array Bool} {a : Act} {w w0 : World} (hi : ops[i]? = some oi) (hj : ops[j]? = some oj) (hr : Region.ready md ops listed = [i, j])
    (hwi : Region.wanted oi (yielded ops a.tmps) = true) (hwj : Region.wanted oj (yielded ops a.tmps) = true)
    (h1 : ∀ K' : Act → World → Prop, Shut (∀ a w', Ext w0 w' → wpAnyH P md ops (NoPanic Q) (Ext w0) fuel (listed.setIfInBounds i true) a w' → K' a w') → Oper.wp P oi a w K' (NoPanic Q))
    (h2 : ∀ K' : Act → World → Prop, Shut (∀ a w', Ext w0 w' → wpAnyH P md ops (NoPanic Q) (Ext w0) fuel (listed.setIfInBounds j true) a w' → K' a w') → Oper.wp P oj a w K' (NoPanic Q)) :
    wpAnyH P md ops (NoPanic Q) (Ext w0) (fuel + 1) listed a w := by
  refine wpAnyH_all hr (by simp) fun q hq => ?_
  have hq' : q = i ∨ q = j := by simpa using hq
  rcases hq' with rfl | rfl
  · refine wpOp_step hi fun K' hK => ?_
    rw [if_pos hwi]
    exact h1 K' fun a w' hE hW => hK a w' ⟨hE, hW⟩
  · refine wpOp_step hj fun K' hK => ?_
    rw [if_pos hwj]
    exact h2 K' fun a w' hE hW => hK a w' ⟨hE, hW⟩

/-- From here on the present world is the one that all have. -/
theorem wpAnyH_now {fuel : Nat} {listed : Array Bool} {a : Act} {w w0 : World} (h : Ext w0 w) (hw : wpAnyH P md ops Q (Ext w) fuel listed a w) : wpAnyH P md ops Q (Ext w0) fuel listed a w :=
  wpAnyH_more (fun _ hx => h.trans hx) _ _ _ _ hw

end

end Go.Proofs.YtggjpjpemgpeeaaGreat
