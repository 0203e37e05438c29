/-
  A region that draws its order, with calls that turn old memory too: a condition S that all its operations keep; behind a call a stronger one may take its place.
-/
import Derived.Test.YtfcjnhcolkpppaaExt
namespace Go.Proofs.Ytfcjnhcolkpppaa
open Go.RowKit

section
variable {P : Program} {ops : Array Oper} {Q : Exit → Act → World → Prop} {md : Region.Mode} {S : World → Prop}

theorem wp_region_S2 {id : Nat} {a : Act} {w : World} (S : World → Prop) (hm : P.follows .mixedOrders = true)
    (h : wpAnyH P .any ops (NoPanic Q) S ops.size (Array.replicate ops.size false) a w.drew) : (Code.region id ops true).wp P Q a w :=
  wp_region_noPanic (wp_region_held hm h)

/-- Take number i first: it yields v in every world that meets S. -/
theorem wpAnyH_tkS2 {i : Nat} (d : Nat) {oi : Oper} {v : Value} {fuel : Nat} {listed : Array Bool} {a : Act} {w : World} (hi : ops[i]? = some oi) (hd : oi.dst = some d)
    (hs : Region.noSelect ops = true) (hf : Region.free md ops listed i = true) (hr : (Region.ready md ops listed).contains i = true)
    (hw : Region.wanted oi (yielded ops a.tmps) = true) (hS : S w) (hv : ∀ w', S w' → (execOp a.eval oi).run P w' = .ok (.value v) w')
    (h : wpAnyH P md ops (NoPanic Q) S fuel (listed.setIfInBounds i true) ⟨a.tmps.setIfInBounds d v, a.defers⟩ w) : wpAnyH P md ops (NoPanic Q) S (fuel + 1) listed a w :=
  wpAnyH_take hi hs hf hr (fun _ _ _ h => h) (.inl ⟨hw, hv⟩) hS (by rw [hd]; exact h)

/-- Number i is under a guard that says no. -/
theorem wpAnyH_notS2 {i : Nat} (d : Nat) {oi : Oper} {fuel : Nat} {listed : Array Bool} {a : Act} {w : World} (hi : ops[i]? = some oi) (hd : oi.dst = some d)
    (hs : Region.noSelect ops = true) (hf : Region.free md ops listed i = true) (hr : (Region.ready md ops listed).contains i = true)
    (hw : Region.wanted oi (yielded ops a.tmps) = false) (hS : S w)
    (h : wpAnyH P md ops (NoPanic Q) S fuel (listed.setIfInBounds i true) ⟨a.tmps.setIfInBounds d undef, a.defers⟩ w) : wpAnyH P md ops (NoPanic Q) S (fuel + 1) listed a w :=
  wpAnyH_take hi hs hf hr (fun _ _ _ h => h) (.inr ⟨hw, rfl⟩) hS (by rw [hd]; exact h)

/-- Number i alone may come up: a call; behind it the condition may be a stronger one. -/
theorem wpAnyH_oneS2 {i : Nat} {o : Oper} {fuel : Nat} {listed : Array Bool} {a : Act} {w : World} (ho : ops[i]? = some o) (hr : Region.ready md ops listed = [i])
    (hw : Region.wanted o (yielded ops a.tmps) = true)
    (h : ∀ K' : Act → World → Prop, Shut (∀ a w' (S' : World → Prop), (∀ x, S' x → S x) → S' w' → wpAnyH P md ops (NoPanic Q) S' fuel (listed.setIfInBounds i true) a w' → K' a w') → Oper.wp P o a w K' (NoPanic Q)) :
    wpAnyH P md ops (NoPanic Q) S (fuel + 1) listed a w := by
  refine wpAnyH_all hr (by simp) fun j hj => ?_
  obtain rfl : j = i := by simpa using hj
  refine wpOp_step ho fun K' hK => ?_
  rw [if_pos hw]
  exact h K' fun a w' S' hE hW hH => hK a w' ⟨hE w' hW, wpAnyH_more hE _ _ _ _ hH⟩

/-- Two may come up, i or j. -/
theorem wpAnyH_twoS2 {i j : Nat} {oi oj : Oper} {fuel : Nat} {listed : Array Bool} {a : Act} {w : World} (hi : ops[i]? = some oi) (hj : ops[j]? = some oj) (hr : Region.ready md ops listed = [i, j])
    (hwi : Region.wanted oi (yielded ops a.tmps) = true) (hwj : Region.wanted oj (yielded ops a.tmps) = true)
    (h1 : ∀ K' : Act → World → Prop, Shut (∀ a w' (S' : World → Prop), (∀ x, S' x → S x) → S' w' → wpAnyH P md ops (NoPanic Q) S' fuel (listed.setIfInBounds i true) a w' → K' a w') → Oper.wp P oi a w K' (NoPanic Q))
    (h2 : ∀ K' : Act → World → Prop, Shut (∀ a w' (S' : World → Prop), (∀ x, S' x → S x) → S' w' → wpAnyH P md ops (NoPanic Q) S' fuel (listed.setIfInBounds j true) a w' → K' a w') → Oper.wp P oj a w K' (NoPanic Q)) :
    wpAnyH P md ops (NoPanic Q) S (fuel + 1) listed a w := by
  refine wpAnyH_all hr (by simp) fun q hq => ?_
  have hq' : q = i ∨ q = j := by simpa using hq
  rcases hq' with rfl | rfl
  · refine wpOp_step hi fun K' hK => ?_
    rw [if_pos hwi]
    exact h1 K' fun a w' S' hE hW hH => hK a w' ⟨hE w' hW, wpAnyH_more hE _ _ _ _ hH⟩
  · refine wpOp_step hj fun K' hK => ?_
    rw [if_pos hwj]
    exact h2 K' fun a w' S' hE hW hH => hK a w' ⟨hE w' hW, wpAnyH_more hE _ _ _ _ hH⟩

end

end Go.Proofs.Ytfcjnhcolkpppaa
