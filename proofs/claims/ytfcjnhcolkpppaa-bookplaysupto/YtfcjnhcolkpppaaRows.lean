/-
  No cell of these rows narrows 'for every input' (looked for: loops, veiled, ifaces, maps, wideKeys, modest, calm, conditions, laid).
  DERIVED. THE GIVEN ROWS OF THIS SEAT. 4 by the template 'for every input the law returns true; each argument reads behind the call as it read before'; 0 by the template 'total and deterministic' (their statements: YtfcjnhcolkpppaaTotals.lean).
  GIVEN WITH THE SEED: the statements are not yours to turn. If you find one false, say at which input.
  Laid BY PROGRAM, IN A SANDBOX (cutbox-rows.mjs): the forced cells as the released guide's own fill.sh prints them over the translation 27c54f3644178e59… (all of the seat's roots in one cut). By AI agents, Wed Nov 11 2026. No macro, syntax, notation, axiom, sorry.
-/
import Derived.Test.YtfcjnhcolkpppaaChecked
import GoSem.Claim
import GoSem.ClaimJoined
import GoSem.ClaimMapViews
import Derived.JoinedTies
import Derived.KernelRfl
namespace Go.Proofs.Ytfcjnhcolkpppaa
/- THE CELL 'sum', in the pinned program and in every row, IS THE sha256 OF THE DUMP (.gsa) THAT YtfcjnhcolkpppaaProg.lean LOADS. Nothing in Lean hashes anything: it is a label: what it is worth is what the hold of that sum in a sandbox is worth. -/
noncomputable def Try.pinned : Pinned := { name := "ytfcjnhcolkpppaa", sum := "27c54f3644178e596be4f41d0ee9f2027bf997d6cb0a31a370a54b73393eea58", checked := Try.checked }
namespace Rows
def none {H : Type} : Left H := { results := [], args := [] }

/-- 'deadeyelaw09.BookPlays': WHATEVER THE INPUT: true; the input reads as it did. -/
def bookPlaysSpec : ChangeSpec := { name := "bookPlays", fn := fun _ => fun
  | [d1, d2] => { results := [.lit (.bool true)], args := [d1, d2] }
  | _ => none }
def bookPlaysRow : OpenClaim := { program := "ytfcjnhcolkpppaa", sum := "27c54f3644178e596be4f41d0ee9f2027bf997d6cb0a31a370a54b73393eea58", func := "deadeye/deadeyelaw09.BookPlays", spec := "bookPlays", unfollowed := true, recurses := true, apart := false }
def BookPlaysSaid : Prop := bookPlaysRow.holds Try.pinned (OpenSpec.ofChange bookPlaysSpec)

/-- ITS FALSE NEIGHBOUR: 'it returns false'. Refute it at one input. -/
def bookPlaysWrong : ChangeSpec := { name := "bookPlays", fn := fun _ => fun
  | [d1, d2] => { results := [.lit (.bool false)], args := [d1, d2] }
  | _ => none }
def BookPlaysWrongFalsely : Prop := bookPlaysRow.holds Try.pinned (OpenSpec.ofChange bookPlaysWrong)

/-- 'deadeyelaw09.BookOpens': WHATEVER THE INPUT: true; the input reads as it did. -/
def bookOpensSpec : ChangeSpec := { name := "bookOpens", fn := fun _ => fun
  | [d1, d2] => { results := [.lit (.bool true)], args := [d1, d2] }
  | _ => none }
def bookOpensRow : OpenClaim := { program := "ytfcjnhcolkpppaa", sum := "27c54f3644178e596be4f41d0ee9f2027bf997d6cb0a31a370a54b73393eea58", func := "deadeye/deadeyelaw09.BookOpens", spec := "bookOpens", unfollowed := true, recurses := true, apart := false }
def BookOpensSaid : Prop := bookOpensRow.holds Try.pinned (OpenSpec.ofChange bookOpensSpec)

/-- ITS FALSE NEIGHBOUR: 'it returns false'. Refute it at one input. -/
def bookOpensWrong : ChangeSpec := { name := "bookOpens", fn := fun _ => fun
  | [d1, d2] => { results := [.lit (.bool false)], args := [d1, d2] }
  | _ => none }
def BookOpensWrongFalsely : Prop := bookOpensRow.holds Try.pinned (OpenSpec.ofChange bookOpensWrong)

/-- 'deadeyelaw09.BookNone': WHATEVER THE INPUT: true; the input reads as it did. -/
def bookNoneSpec : ChangeSpec := { name := "bookNone", fn := fun _ => fun
  | [d] => { results := [.lit (.bool true)], args := [d] }
  | _ => none }
def bookNoneRow : OpenClaim := { program := "ytfcjnhcolkpppaa", sum := "27c54f3644178e596be4f41d0ee9f2027bf997d6cb0a31a370a54b73393eea58", func := "deadeye/deadeyelaw09.BookNone", spec := "bookNone", unfollowed := true, recurses := true, apart := false }
def BookNoneSaid : Prop := bookNoneRow.holds Try.pinned (OpenSpec.ofChange bookNoneSpec)

/-- ITS FALSE NEIGHBOUR: 'it returns false'. Refute it at one input. -/
def bookNoneWrong : ChangeSpec := { name := "bookNone", fn := fun _ => fun
  | [d] => { results := [.lit (.bool false)], args := [d] }
  | _ => none }
def BookNoneWrongFalsely : Prop := bookNoneRow.holds Try.pinned (OpenSpec.ofChange bookNoneWrong)

/-- 'deadeyelaw09.BookTears': WHATEVER THE INPUT: true; the input reads as it did. -/
def bookTearsSpec : ChangeSpec := { name := "bookTears", fn := fun _ => fun
  | [d1, d2, d3, d4] => { results := [.lit (.bool true)], args := [d1, d2, d3, d4] }
  | _ => none }
def bookTearsRow : OpenClaim := { program := "ytfcjnhcolkpppaa", sum := "27c54f3644178e596be4f41d0ee9f2027bf997d6cb0a31a370a54b73393eea58", func := "deadeye/deadeyelaw09.BookTears", spec := "bookTears", unfollowed := true, recurses := true, apart := false }
def BookTearsSaid : Prop := bookTearsRow.holds Try.pinned (OpenSpec.ofChange bookTearsSpec)

/-- ITS FALSE NEIGHBOUR: 'it returns false'. Refute it at one input. -/
def bookTearsWrong : ChangeSpec := { name := "bookTears", fn := fun _ => fun
  | [d1, d2, d3, d4] => { results := [.lit (.bool false)], args := [d1, d2, d3, d4] }
  | _ => none }
def BookTearsWrongFalsely : Prop := bookTearsRow.holds Try.pinned (OpenSpec.ofChange bookTearsWrong)

/- THE SECOND FORM. 'bulk': how many values and letters a reading holds, each counted each time it is reached (what is shared counts as often as it is met; a slice's spare places count too). A statement '..UptoSaid' is the law's where the arguments, and the package variables that the reading takes, are together of bulk at most 1048576: NARROWER than '..Said'. Prove '..Said' where nothing that the law and all that it calls make is longer than what came in: it says more and counts as full. Else prove '..UptoSaid'. A law counts once. -/
mutual
def uptoBulk {H : Type} : DataW H → Nat
  | .lit (.string bytes) => bytes.length + 1
  | .lit _ => 1
  | .nil => 1
  | .ptr d => uptoBulk d + 1
  | .slice elems spare => uptoBulkAll elems + uptoBulkAll spare + 1
  | .agg parts => uptoBulkAll parts + 1
  | .iface _ d => uptoBulk d + 1
  | .map entries => uptoBulkEntries entries + 1
  | .held _ => 1
def uptoBulkAll {H : Type} : List (DataW H) → Nat
  | [] => 0
  | d :: r => uptoBulk d + uptoBulkAll r
def uptoBulkEntries {H : Type} : List (Lit × DataW H) → Nat
  | [] => 0
  | x :: r => uptoBulkEntry x + uptoBulkEntries r
def uptoBulkEntry {H : Type} : Lit × DataW H → Nat
  | (.string bytes, d) => bytes.length + uptoBulk d + 1
  | (_, d) => uptoBulk d + 1
 end
def uptoSmall : (H : Type) → List (DataW H) → Bool := fun _ ds => decide (uptoBulkAll ds ≤ 1048576)
def OpenSpec.upto (s : _root_.Go.ChangeSpec) : _root_.Go.OpenSpec := { _root_.Go.OpenSpec.ofChange s with cond := some uptoSmall }

/-- 'deadeyelaw09.BookPlays', WHERE WHAT IT READS IS OF BULK AT MOST 1048576: true; the input reads as it did. -/
def bookPlaysUptoRow : OpenClaim := { program := "ytfcjnhcolkpppaa", sum := "27c54f3644178e596be4f41d0ee9f2027bf997d6cb0a31a370a54b73393eea58", func := "deadeye/deadeyelaw09.BookPlays", spec := "bookPlays", unfollowed := true, recurses := true, apart := false, narrowed := true }
def BookPlaysUptoSaid : Prop := bookPlaysUptoRow.holds Try.pinned (OpenSpec.upto bookPlaysSpec)

/-- 'deadeyelaw09.BookOpens', WHERE WHAT IT READS IS OF BULK AT MOST 1048576: true; the input reads as it did. -/
def bookOpensUptoRow : OpenClaim := { program := "ytfcjnhcolkpppaa", sum := "27c54f3644178e596be4f41d0ee9f2027bf997d6cb0a31a370a54b73393eea58", func := "deadeye/deadeyelaw09.BookOpens", spec := "bookOpens", unfollowed := true, recurses := true, apart := false, narrowed := true }
def BookOpensUptoSaid : Prop := bookOpensUptoRow.holds Try.pinned (OpenSpec.upto bookOpensSpec)

/-- 'deadeyelaw09.BookNone', WHERE WHAT IT READS IS OF BULK AT MOST 1048576: true; the input reads as it did. -/
def bookNoneUptoRow : OpenClaim := { program := "ytfcjnhcolkpppaa", sum := "27c54f3644178e596be4f41d0ee9f2027bf997d6cb0a31a370a54b73393eea58", func := "deadeye/deadeyelaw09.BookNone", spec := "bookNone", unfollowed := true, recurses := true, apart := false, narrowed := true }
def BookNoneUptoSaid : Prop := bookNoneUptoRow.holds Try.pinned (OpenSpec.upto bookNoneSpec)

/-- 'deadeyelaw09.BookTears', WHERE WHAT IT READS IS OF BULK AT MOST 1048576: true; the input reads as it did. -/
def bookTearsUptoRow : OpenClaim := { program := "ytfcjnhcolkpppaa", sum := "27c54f3644178e596be4f41d0ee9f2027bf997d6cb0a31a370a54b73393eea58", func := "deadeye/deadeyelaw09.BookTears", spec := "bookTears", unfollowed := true, recurses := true, apart := false, narrowed := true }
def BookTearsUptoSaid : Prop := bookTearsUptoRow.holds Try.pinned (OpenSpec.upto bookTearsSpec)

end Rows
end Go.Proofs.Ytfcjnhcolkpppaa
