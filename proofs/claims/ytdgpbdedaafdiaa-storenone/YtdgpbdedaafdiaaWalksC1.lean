/-
  The reference's SameRecs.
-/
import Derived.Test.YtdgpbdedaafdiaaWalksB9
namespace Go.Proofs.Ytdgpbdedaafdiaa
open Go.RowKit


theorem map_take_ne {α : Type} (f : α → List Nat) (xs ys : List α) (d : α) (k : Nat) (hx : k < xs.length) (hy : k < ys.length) (h : f (xs.getD k d) ≠ f (ys.getD k d)) : xs.map f ≠ ys.map f := fun e => by
  have := congrArg (fun l => l[k]?) e
  simp only [List.getElem?_map, List.getElem?_eq_getElem hx, List.getElem?_eq_getElem hy, Option.map_some, Option.some.injEq] at this
  apply h
  rw [List.getD_eq_getElem?_getD, List.getD_eq_getElem?_getD, List.getElem?_eq_getElem hx, List.getElem?_eq_getElem hy]
  exact this

end Go.Proofs.Ytdgpbdedaafdiaa
