/-
  slices.Index and Contains over integers; the reference's Pos; conf: fits, nodes, Sound, Pos, at, beside, Next, Prev, Head, Tail.
-/
import Derived.Test.YtdgpbdedaafdiaaInts
import Derived.Test.YtdgpbdedaafdiaaCf
namespace Go.Proofs.Ytdgpbdedaafdiaa
open Go.RowKit

theorem ret_boolZ {a b : Bool} (h : a = b) : Ending.returned (.bool a) = .returned (.bool b) := by rw [h]
theorem ret_intZ {a b : Int} (h : a = b) : Ending.returned (.int .i64 a) = .returned (.int .i64 b) := by rw [h]
theorem ret_twoZ {a b : Int} {c d : Bool} (h : a = b) (h' : c = d) : Ending.returned (.tuple #[.int .i64 a, .bool c]) = .returned (.tuple #[.int .i64 b, .bool d]) := by rw [h, h']

end Go.Proofs.Ytdgpbdedaafdiaa
