/-
  A region that draws its order, with calls that only add to memory: what is read of a world is read alike in all that come behind it; so all that only reads is taken first, and each call stands alone: one walk.
-/
import Derived.Test.YtdgpbdedaafdiaaGreatStr
import Derived.Deep.RegionHeld3
namespace Go.Proofs.YtdgpbdedaafdiaaGreat
open Go.RowKit

/-- w' has all that w has. -/
def Ext (w w' : World) : Prop := Below w.heap.size w w'

theorem Ext.refl (w : World) : Ext w w := Below.refl _ _
theorem Ext.trans {a b c : World} (h : Ext a b) (k : Ext b c) : Ext a c := Below.trans h (Below.mono k h.size)

section
variable {P : Program} {ops : Array Oper} {Q : Exit → Act → World → Prop} {md : Region.Mode}

theorem wpAnyH_more {S S' : World → Prop} (hS : ∀ w, S' w → S w) : ∀ (fuel : Nat) (listed : Array Bool) (a : Act) (w : World), wpAnyH P md ops Q S' fuel listed a w → wpAnyH P md ops Q S fuel listed a w
  | 0, _, _, _, h => h
  | fuel + 1, _, _, _, h => ⟨h.1, fun i hi => wpOp_mono (fun a' w' h' => ⟨hS w' h'.1, wpAnyH_more hS fuel _ a' w' h'.2⟩) (h.2 i hi)⟩

/-- The beginning. -/
theorem wp_region_ext {id : Nat} {a : Act} {w : World} (hm : P.follows .mixedOrders = true)
    (h : wpAnyH P .any ops (NoPanic Q) (Ext w.drew) ops.size (Array.replicate ops.size false) a w.drew) : (Code.region id ops true).wp P Q a w :=
  wp_region_noPanic (wp_region_held hm h)

/-- Take number i first: it reads only. -/
theorem wpAnyH_tk {i : Nat} (d : Nat) {oi : Oper} {v : Value} {fuel : Nat} {listed : Array Bool} {a : Act} {w : World} (hi : ops[i]? = some oi) (hd : oi.dst = some d)
    (hs : Region.noSelect ops = true) (hf : Region.free md ops listed i = true) (hr : (Region.ready md ops listed).contains i = true)
    (hw : Region.wanted oi (yielded ops a.tmps) = true) (hv : ∀ w', Ext w w' → (execOp a.eval oi).run P w' = .ok (.value v) w')
    (h : wpAnyH P md ops (NoPanic Q) (Ext w) fuel (listed.setIfInBounds i true) ⟨a.tmps.setIfInBounds d v, a.defers⟩ w) : wpAnyH P md ops (NoPanic Q) (Ext w) (fuel + 1) listed a w :=
  wpAnyH_take hi hs hf hr (fun _ _ _ h => h) (.inl ⟨hw, hv⟩) (Ext.refl w) (by rw [hd]; exact h)

/-- Number i is under a guard that says no. -/
theorem wpAnyH_not {i : Nat} (d : Nat) {oi : Oper} {fuel : Nat} {listed : Array Bool} {a : Act} {w : World} (hi : ops[i]? = some oi) (hd : oi.dst = some d)
    (hs : Region.noSelect ops = true) (hf : Region.free md ops listed i = true) (hr : (Region.ready md ops listed).contains i = true)
    (hw : Region.wanted oi (yielded ops a.tmps) = false)
    (h : wpAnyH P md ops (NoPanic Q) (Ext w) fuel (listed.setIfInBounds i true) ⟨a.tmps.setIfInBounds d undef, a.defers⟩ w) : wpAnyH P md ops (NoPanic Q) (Ext w) (fuel + 1) listed a w :=
  wpAnyH_take hi hs hf hr (fun _ _ _ h => h) (.inr ⟨hw, rfl⟩) (Ext.refl w) (by rw [hd]; exact h)

/-- Number i alone may come up: a call. -/
theorem wpAnyH_one {i : Nat} {o : Oper} {fuel : Nat} {listed : Array Bool} {a : Act} {w : World} (ho : ops[i]? = some o) (hr : Region.ready md ops listed = [i])
    (hw : Region.wanted o (yielded ops a.tmps) = true)
    (h : ∀ K' : Act → World → Prop, Shut (∀ a w', Ext w w' → wpAnyH P md ops (NoPanic Q) (Ext w') fuel (listed.setIfInBounds i true) a w' → K' a w') → Oper.wp P o a w K' (NoPanic Q)) :
    wpAnyH P md ops (NoPanic Q) (Ext w) (fuel + 1) listed a w := by
  refine wpAnyH_all hr (by simp) fun j hj => ?_
  obtain rfl : j = i := by simpa using hj
  refine wpOp_step ho fun K' hK => ?_
  rw [if_pos hw]
  exact h K' fun a w' hE hW => hK a w' ⟨hE, wpAnyH_more (fun _ h => hE.trans h) _ _ _ _ hW⟩

end

/-- Block B holds these cells. -/
def Box (w : World) (B : Nat) (C : Array Value) : Prop := ∀ (i : Nat) (v : Value), C[i]? = some v → w.cell? ⟨B, i, none⟩ = some v

theorem Box.below {w w' : World} {B : Nat} {C : Array Value} (h : Box w B C) (hb : Below w.heap.size w w') : Box w' B C := fun i v hv => cell_later hb (h i v hv)

theorem box_new (w : World) (C : Array Value) (t : TypeId) (B : Nat) (hB : w.heap.size = B) : Box (w.alloc (.cells C t)) B C := fun i v hv => by rw [← hB, World.cell?_alloc_mark]; exact hv

theorem box6 {w : World} {B : Nat} {a b c d e f : Value} (h : Box w B #[a, b, c, d, e, f]) :
    w.cell? ⟨B, 0, none⟩ = some a ∧ w.cell? ⟨B, 1, none⟩ = some b ∧ w.cell? ⟨B, 2, none⟩ = some c ∧ w.cell? ⟨B, 3, none⟩ = some d ∧ w.cell? ⟨B, 4, none⟩ = some e ∧ w.cell? ⟨B, 5, none⟩ = some f :=
  ⟨h 0 a rfl, h 1 b rfl, h 2 c rfl, h 3 d rfl, h 4 e rfl, h 5 f rfl⟩

theorem box8 {w : World} {B : Nat} {a b c d e f g k : Value} (h : Box w B #[a, b, c, d, e, f, g, k]) :
    w.cell? ⟨B, 0, none⟩ = some a ∧ w.cell? ⟨B, 1, none⟩ = some b ∧ w.cell? ⟨B, 2, none⟩ = some c ∧ w.cell? ⟨B, 3, none⟩ = some d ∧ w.cell? ⟨B, 4, none⟩ = some e ∧ w.cell? ⟨B, 5, none⟩ = some f ∧ w.cell? ⟨B, 6, none⟩ = some g ∧ w.cell? ⟨B, 7, none⟩ = some k :=
  ⟨h 0 a rfl, h 1 b rfl, h 2 c rfl, h 3 d rfl, h 4 e rfl, h 5 f rfl, h 6 g rfl, h 7 k rfl⟩

theorem box2 {w : World} {B : Nat} {a b : Value} (h : Box w B #[a, b]) : w.cell? ⟨B, 0, none⟩ = some a ∧ w.cell? ⟨B, 1, none⟩ = some b := ⟨h 0 a rfl, h 1 b rfl⟩

end Go.Proofs.YtdgpbdedaafdiaaGreat
