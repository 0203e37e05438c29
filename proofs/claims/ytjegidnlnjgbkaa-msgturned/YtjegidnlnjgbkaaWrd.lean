/-
  fields.Word: a number as four bytes.
-/
import Derived.Test.YtjegidnlnjgbkaaBk
import Derived.Test.YtjegidnlnjgbkaaWalksV1
namespace Go.Proofs.Ytjegidnlnjgbkaa
open Go.RowKit

set_option maxHeartbeats 1000000 in
theorem word_any (n : Nat) (w : World) (hn : n < 4294967296) :
    Calls Try.prog 80 #[.int .u32 (n : Int)] w (RetO w (be4 n)) := by
  have HO : Hid (OwnB (w.alloc (.cells #[Value.int IntKind.u8 ((n : Int) / 16777216), Value.int IntKind.u8 ((n : Int) / 65536 % 256), Value.int IntKind.u8 ((n : Int) / 256 % 256), Value.int IntKind.u8 ((n : Int) % 256)] 5)) w.heap.size w.heap.size 4 (be4 n)) := by
    refine ownB_lit w w.heap.size (be4 n) _ ?_ (be4_bytes n) (Nat.le_refl _) (by rw [be4_len]; decide)
    have e : (n : Int) / 16777216 = ((n / 16777216 % 256 : Nat) : Int) := by omega
    rw [e]
    simp [vals, be4]
  go_enter Try.func80, Try.ntmps80
  go_wp2
  go_ret
  exact ⟨w.heap.size, 4, rfl, HO.out, below_one _ _⟩

end Go.Proofs.Ytjegidnlnjgbkaa
