/-
  What the laws' fixed fact 'awake' of layer 2 does: it is true, and nothing that was there is changed.
-/
import Derived.Test.YtnhledngeicekaaMatEq
namespace Go.Proofs.Ytnhledngeicekaa
open Go.RowKit

theorem van32 : vanK 2 3 = [[1, 0], [1, 1], [1, 2]] := by decide +kernel

theorem below_3 (w : World) (a b c : Obj) : Below w.heap.size w (((w.alloc a).alloc b).alloc c) := ((below_one w a).alloc (by simp) b).alloc (by simp; omega) c
theorem below_4 (w : World) (a b c d : Obj) : Below w.heap.size w ((((w.alloc a).alloc b).alloc c).alloc d) := (below_3 w a b c).alloc (by simp; omega) d

end Go.Proofs.Ytnhledngeicekaa
