/-
  What the law's cut does.
-/
import Derived.Test.YtnhledngeicekaaWalksM13
namespace Go.Proofs.Ytnhledngeicekaa
open Go.RowKit

/-- At most twelve rows of at most twelve. -/
def ctM (m : List (List Nat)) : List (List Nat) := (m.take 12).map fun r => r.take 12

theorem ctM_len (m : List (List Nat)) : (ctM m).length = min 12 m.length := by simp [ctM]
theorem ctM_get (m : List (List Nat)) (i : Nat) (h : i < 12) : (ctM m).getD i [] = (m.getD i []).take 12 := by
  unfold ctM
  rw [List.getD_eq_getElem?_getD, List.getElem?_map, List.getElem?_take_of_lt h, List.getD_eq_getElem?_getD]
  cases m[i]? <;> simp

/-- The first i rows done. -/
def ctK (m : List (List Nat)) (i : Nat) : List (List Nat) := (m.take i).map fun r => r.take 12
theorem ctK_len (m : List (List Nat)) (i : Nat) (h : i ≤ m.length) : (ctK m i).length = i := by simp [ctK]; omega
theorem ctK_succ (m : List (List Nat)) (i : Nat) (h : i < m.length) : ctK m (i + 1) = ctK m i ++ [(m.getD i []).take 12] := by
  unfold ctK
  rw [List.take_succ_eq_append_getElem h, List.map_append, List.getD_eq_getElem?_getD, List.getElem?_eq_getElem h]
  rfl



/-- The law's cut. -/
theorem ctK_all (m : List (List Nat)) : ctK m (min 12 m.length) = ctM m := by
  unfold ctK ctM
  by_cases h : 12 ≤ m.length
  · rw [Nat.min_eq_left h]
  · rw [Nat.min_eq_right (by omega), List.take_of_length_le (Nat.le_refl _), List.take_of_length_le (by omega : m.length ≤ 12)]

end Go.Proofs.Ytnhledngeicekaa
