/-
  What gf.Made makes: a block of 511 cells, the powers and the logarithms.
-/
import Derived.Test.YtplgeicpchgffaaWalksB
import Derived.Deep.QuietTactic
import Derived.BigQuiet
namespace Go.Proofs.Ytplgeicpchgffaa
open Go.RowKit

/-- The block behind n rounds. -/
def tab : Nat → Array Value
  | 0 => Array.replicate 511 (.int .u8 0)
  | n + 1 => ((tab n).setIfInBounds n (.int .u8 ((Gf.pw n : Nat) : Int))).setIfInBounds (255 + Gf.pw n) (.int .u8 (n : Int))

theorem tab_size (n : Nat) : (tab n).size = 511 := by
  induction n with
  | zero => simp [tab]
  | succ n ih => simp [tab, ih]

theorem pw_inj (i j : Nat) (hi : i < 255) (hj : j < 255) (h : Gf.pw i = Gf.pw j) : i = j := by
  rw [← Gf.lg_pw i hi, h, Gf.lg_pw j hj]

theorem tab_pow (n : Nat) (hn : n ≤ 255) (i : Nat) (hi : i < n) : (tab n)[i]? = some (.int .u8 ((Gf.pw i : Nat) : Int)) := by
  induction n with
  | zero => omega
  | succ n ih =>
    show (((tab n).setIfInBounds n _).setIfInBounds (255 + Gf.pw n) _)[i]? = _
    rw [Array.getElem?_setIfInBounds_ne (by omega)]
    by_cases h : i = n
    · subst h; rw [Array.getElem?_setIfInBounds_self_of_lt (by rw [tab_size]; omega)]
    · rw [Array.getElem?_setIfInBounds_ne (by omega)]; exact ih (by omega) (by omega)

theorem tab_log (n : Nat) (hn : n ≤ 255) (i : Nat) (hi : i < n) : (tab n)[255 + Gf.pw i]? = some (.int .u8 (i : Int)) := by
  induction n with
  | zero => omega
  | succ n ih =>
    show (((tab n).setIfInBounds n _).setIfInBounds (255 + Gf.pw n) _)[255 + Gf.pw i]? = _
    by_cases h : i = n
    · subst h
      have := Gf.pw_lt i
      rw [Array.getElem?_setIfInBounds_self_of_lt (by rw [Array.size_setIfInBounds, tab_size]; omega)]
    · rw [Array.getElem?_setIfInBounds_ne (by intro e; exact h (pw_inj i n (by omega) (by omega) (by omega))), Array.getElem?_setIfInBounds_ne (by omega)]
      exact ih (by omega) (by omega)

/-- Block b holds the table that Made makes. -/
structure IsTab (w : World) (b : Nat) : Prop where
  pow : ∀ i, i < 255 → w.cell? ⟨b, i, none⟩ = some (.int .u8 ((Gf.pw i : Nat) : Int))
  log : ∀ a, a ≠ 0 → a < 256 → w.cell? ⟨b, 255 + a, none⟩ = some (.int .u8 ((Gf.lg a : Nat) : Int))

theorem IsTab.new (w : World) (t : TypeId) : IsTab (w.alloc (.cells (tab 255) t)) w.heap.size where
  pow i hi := by rw [World.cell?_alloc_at (hn := rfl)]; exact tab_pow 255 (by omega) i hi
  log a h0 h := by
    rw [World.cell?_alloc_at (hn := rfl)]
    have := tab_log 255 (by omega) (Gf.lg a) (Gf.lg_lt a h0 h)
    rw [Gf.pw_lg a h0 h] at this
    exact this

theorem IsTab.below {w w' : World} {b : Nat} (h : IsTab w b) (hb : Below w.heap.size w w') (hs : b < w.heap.size) : IsTab w' b where
  pow i hi := by rw [hb.cell (p := ⟨b, i, none⟩) hs]; exact h.pow i hi
  log a h0 h1 := by rw [hb.cell (p := ⟨b, 255 + a, none⟩) hs]; exact h.log a h0 h1

theorem below_drewN (w : World) (n : Nat) : Below w.heap.size w (w.drewN n) := ⟨rfl, rfl, rfl, Nat.le_refl _, fun _ _ => rfl⟩

end Go.Proofs.Ytplgeicpchgffaa
