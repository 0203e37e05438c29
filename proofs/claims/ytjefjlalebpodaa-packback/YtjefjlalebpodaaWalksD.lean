/-
  What gf.Inv, gf.Log, gf.Pow and gf.Eval do.
-/
import Derived.Test.YtjefjlalebpodaaWalksC
import Derived.Deep.RegionHeld3
namespace Go.Proofs.Ytjefjlalebpodaa
open Go.RowKit

/-- A row of cells that holds the powers and the logarithms. -/
structure TabCells (cs : Array Value) : Prop where
  pow : ∀ i, i < 255 → cs[i]? = some (.int .u8 ((Gf.pw i : Nat) : Int))
  log : ∀ a, a ≠ 0 → a < 256 → cs[255 + a]? = some (.int .u8 ((Gf.lg a : Nat) : Int))

theorem TabCells.isTab {cs : Array Value} (h : TabCells cs) (w : World) (t : TypeId) : IsTab (w.alloc (.cells cs t)) w.heap.size where
  pow i hi := by rw [World.cell?_alloc_at (hn := rfl)]; exact h.pow i hi
  log a h0 ha := by rw [World.cell?_alloc_at (hn := rfl)]; exact h.log a h0 ha

theorem made_ex (w : World) :
    Calls Try.prog 68 #[] w fun e w' => e = .returned (.pointer (some ⟨w.heap.size, 0, none⟩)) ∧ ∃ cs, TabCells cs ∧ w.alloc (.cells cs 108) = w' :=
  (made_any w).mono fun e w' ⟨h, h'⟩ => ⟨h, tab 255, ⟨fun i hi => tab_pow 255 (by omega) i hi, fun a h0 ha => by
    have := tab_log 255 (by omega) (Gf.lg a) (Gf.lg_lt a h0 ha)
    rw [Gf.pw_lg a h0 ha] at this
    exact this⟩, h'⟩

theorem below_one (w : World) (o : Obj) : Below w.heap.size w (w.alloc o) := (Below.refl _ _).alloc (Nat.le_refl _) _

theorem quiet_left' {P : Program} {f : FuncId} {args : Array Value} {w : World} {n : Nat} {v : Value}
    (h : Calls P f args (w.drewN n) fun e w' => e = .returned v ∧ w.drewN n = w') : Calls P f args (w.drewN n) fun e w'' => e = .returned v ∧ ∃ m, w'' = w.drewN m :=
  h.mono fun _ _ h => ⟨h.1, _, h.2.symm⟩

theorem drop_get (ps : List Nat) (j : Nat) (h : j < ps.length) : ps.drop j = ps.getD j 0 :: ps.drop (j + 1) := by
  rw [List.drop_eq_getElem_cons h, List.getD_eq_getElem?_getD, List.getElem?_eq_getElem h]; rfl

end Go.Proofs.Ytjefjlalebpodaa
