/-
  The walk of the law BookPlays, whole.
-/
import Derived.Test.YtfcjnhcolkpppaaLaw91A
import Derived.Test.YtfcjnhcolkpppaaLaw91B
import Derived.Test.YtfcjnhcolkpppaaLaw91C
namespace Go.Proofs.Ytfcjnhcolkpppaa
open Go.RowKit

theorem bookPlays_walk (a0 : Int) (a1 : Option Addr) (len1 cap1 : Nat) (m1 : List Ab) (w : World) (w0 : (Lit.int .u16 a0).wf = true) (w1 : m1.length = len1 ∧ AbA w a1 cap1 m1) :
    Calls Try.prog 3 #[.int .u16 a0, .slice a1 len1 cap1] w fun e w' => e = .returned (.bool true) ∧ Below w.heap.size w w' :=
  bookCut.go ⟨bookA⟩ ⟨bookB⟩ ⟨bookC⟩ a0 a1 len1 cap1 m1 w w0 w1

end Go.Proofs.Ytfcjnhcolkpppaa
