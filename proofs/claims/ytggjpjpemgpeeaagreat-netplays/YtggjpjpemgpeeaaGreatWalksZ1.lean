/-
  Decode; bytes.Equal and the program's Same; the reference's Same.
-/
import Derived.Test.YtggjpjpemgpeeaaGreatWalksY9
import Derived.Test.YtggjpjpemgpeeaaGreatWalksY6
namespace Go.Proofs.YtggjpjpemgpeeaaGreat
open Go.RowKit

/-- Decode's answer where the bytes are a sound record's. -/
def RetD (w : World) (r : Pr) (e : Ending) (w' : World) : Prop :=
  ∃ ma mc ea ec, e = .returned (.tuple #[.agg #[.int .i64 r.kind, .int .i64 r.epoch, .slice ma r.mem.length mc, .int .i64 r.pos, .int .i64 r.last, .slice ea r.ents.length ec], .int .i64 0]) ∧ (∀ gs w2, Chg gs w' w2 → (∀ g ∈ gs, g < w.heap.size) → RecAt w2 ma mc ea ec r) ∧ Below w.heap.size w w'

theorem Bx.set {w : World} {B : Nat} {t : TypeId} {C C' : Array Value} (h : Bx w B t C) (k : Nat) (v : Value) (hC : C.setIfInBounds k v = C') : Bx (w.setCell ⟨B, k, none⟩ v) B t C' := by
  subst hC
  exact heap_setCell_same w B k C t v h

theorem Bx.put6 {w : World} {B : Nat} {t : TypeId} {y0 y1 y2 y3 y4 y5 : Value} (h : Bx w B t #[y0, y1, y2, y3, y4, y5]) (v0 v1 v2 v3 v4 v5 : Value) :
    Bx ((((((w.setCell ⟨B, 0, none⟩ v0).setCell ⟨B, 1, none⟩ v1).setCell ⟨B, 2, none⟩ v2).setCell ⟨B, 3, none⟩ v3).setCell ⟨B, 4, none⟩ v4).setCell ⟨B, 5, none⟩ v5) B t #[v0, v1, v2, v3, v4, v5] ∧ Chg [B] w ((((((w.setCell ⟨B, 0, none⟩ v0).setCell ⟨B, 1, none⟩ v1).setCell ⟨B, 2, none⟩ v2).setCell ⟨B, 3, none⟩ v3).setCell ⟨B, 4, none⟩ v4).setCell ⟨B, 5, none⟩ v5) := by
  have h0 := h.set (C' := #[v0, y1, y2, y3, y4, y5]) 0 v0 (by simp)
  have h1 := h0.set (C' := #[v0, v1, y2, y3, y4, y5]) 1 v1 (by simp)
  have h2 := h1.set (C' := #[v0, v1, v2, y3, y4, y5]) 2 v2 (by simp)
  have h3 := h2.set (C' := #[v0, v1, v2, v3, y4, y5]) 3 v3 (by simp)
  have h4 := h3.set (C' := #[v0, v1, v2, v3, v4, y5]) 4 v4 (by simp)
  have h5 := h4.set (C' := #[v0, v1, v2, v3, v4, v5]) 5 v5 (by simp)
  exact ⟨h5, (((((chg_set w _ 0 v0).trans (chg_set _ _ 1 v1)).trans (chg_set _ _ 2 v2)).trans (chg_set _ _ 3 v3)).trans (chg_set _ _ 4 v4)).trans (chg_set _ _ 5 v5)⟩

theorem fin_finB (s : Pk.St) : Pk.fin s = finB s := rfl



end Go.Proofs.YtggjpjpemgpeeaaGreat
