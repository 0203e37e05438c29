/-
  The walk of the law PackBack, for every input.
-/
import Derived.Test.YtjefjlalebpodaaLaw52
import Derived.Test.YtjefjlalebpodaaArgZ
namespace Go.Proofs.Ytjefjlalebpodaa
open Go.RowKit

theorem packBack_walk (a0 : Option Addr) (len0 cap0 : Nat) (zs : List Int) (a1 : Option Addr) (len1 cap1 : Nat) (m : List (List Nat)) (w : World) (w0 : zs.length = len0 ∧ IntsAt w a0 cap0 zs) (w1 : m.length = len1 ∧ GridAt w a1 cap1 m ∧ ∀ i, i < m.length → (m.getD i []).length ≤ 140737488351232) :
    Calls Try.prog 4 #[.slice a0 len0 cap0, .slice a1 len1 cap1] w fun e w' => e = .returned (.bool true) ∧ Below w.heap.size w w' := by
  refine packBack_from a0 len0 cap0 zs a1 len1 cap1 m (min len0 30) (min len1 10) w w0.1 w0.2 w1.1 w1.2.1 w1.2.2 (by omega) (by omega) (by omega) (by omega) ?_ ?_
  · by_cases h : len0 ≤ 30
    · rw [show min len0 30 = len0 by omega]
      exact .inl ⟨by simp, by simp⟩
    · rw [show min len0 30 = 30 by omega]
      exact .inr ⟨by simp; omega, by simp; omega, by simp⟩
  · by_cases h : len1 ≤ 10
    · rw [show min len1 10 = len1 by omega]
      exact .inl ⟨by simp, by simp⟩
    · rw [show min len1 10 = 10 by omega]
      exact .inr ⟨by simp; omega, by simp; omega, by simp⟩

end Go.Proofs.Ytjefjlalebpodaa
