/-
  The walks of the laws MatMuls and MatChains.
-/
import Derived.Test.YtnhledngeicekaaAwake2
namespace Go.Proofs.Ytnhledngeicekaa
open Go.RowKit

theorem ctM_le (m : List (List Nat)) : (ctM m).length ≤ 12 := by rw [ctM_len]; omega
theorem ctM_row (m : List (List Nat)) (i : Nat) : ((ctM m).getD i []).length ≤ 12 := by
  by_cases h : i < (ctM m).length
  · rw [ctM_len] at h
    rw [ctM_get m i (by omega), List.length_take]; omega
  · rw [show (ctM m).getD i [] = [] by rw [List.getD_eq_getElem?_getD, List.getElem?_eq_none (by omega)]; rfl]; simp





end Go.Proofs.Ytnhledngeicekaa
