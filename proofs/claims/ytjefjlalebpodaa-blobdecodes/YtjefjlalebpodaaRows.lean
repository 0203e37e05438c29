/-
  No cell of these rows narrows 'for every input' (looked for: loops, veiled, ifaces, maps, wideKeys, modest, calm, conditions, laid).
  DERIVED. THE GIVEN ROWS OF THIS SEAT. 10 by the template 'for every input the law returns true; each argument reads behind the call as it read before'; 0 by the template 'total and deterministic' (their statements: YtjefjlalebpodaaTotals.lean).
  GIVEN WITH THE SEED: the statements are not yours to turn. If you find one false, say at which input.
  Laid BY PROGRAM, IN A SANDBOX (cutbox-rows.mjs): the forced cells as the released guide's own fill.sh prints them over the translation 5ed88f2e644471bb… (all of the seat's roots in one cut). By AI agents, Wed Nov 11 2026. No macro, syntax, notation, axiom, sorry.
-/
import Derived.Test.YtjefjlalebpodaaChecked
import GoSem.Claim
import GoSem.ClaimJoined
import GoSem.ClaimMapViews
import Derived.JoinedTies
import Derived.KernelRfl
namespace Go.Proofs.Ytjefjlalebpodaa
/- THE CELL 'sum', in the pinned program and in every row, IS THE sha256 OF THE DUMP (.gsa) THAT YtjefjlalebpodaaProg.lean LOADS. Nothing in Lean hashes anything: it is a label: what it is worth is what the hold of that sum in a sandbox is worth. -/
noncomputable def Try.pinned : Pinned := { name := "ytjefjlalebpodaa", sum := "5ed88f2e644471bbfd3eb2a61fbd339ddec95a6418ccb11e909401730a43ec04", checked := Try.checked }
namespace Rows
def none {H : Type} : Left H := { results := [], args := [] }

/-- 'deadeyelaw05.PackPuts': WHATEVER THE INPUT: true; the input reads as it did. -/
def packPutsSpec : ChangeSpec := { name := "packPuts", fn := fun _ => fun
  | [d1, d2, d3] => { results := [.lit (.bool true)], args := [d1, d2, d3] }
  | _ => none }
def packPutsRow : OpenClaim := { program := "ytjefjlalebpodaa", sum := "5ed88f2e644471bbfd3eb2a61fbd339ddec95a6418ccb11e909401730a43ec04", func := "deadeye/deadeyelaw05.PackPuts", spec := "packPuts", apart := false }
def PackPutsSaid : Prop := packPutsRow.holds Try.pinned (OpenSpec.ofChange packPutsSpec)

/-- ITS FALSE NEIGHBOUR: 'it returns false'. Refute it at one input. -/
def packPutsWrong : ChangeSpec := { name := "packPuts", fn := fun _ => fun
  | [d1, d2, d3] => { results := [.lit (.bool false)], args := [d1, d2, d3] }
  | _ => none }
def PackPutsWrongFalsely : Prop := packPutsRow.holds Try.pinned (OpenSpec.ofChange packPutsWrong)

/-- 'deadeyelaw05.PackBack': WHATEVER THE INPUT: true; the input reads as it did. -/
def packBackSpec : ChangeSpec := { name := "packBack", fn := fun _ => fun
  | [d1, d2] => { results := [.lit (.bool true)], args := [d1, d2] }
  | _ => none }
def packBackRow : OpenClaim := { program := "ytjefjlalebpodaa", sum := "5ed88f2e644471bbfd3eb2a61fbd339ddec95a6418ccb11e909401730a43ec04", func := "deadeye/deadeyelaw05.PackBack", spec := "packBack", apart := false }
def PackBackSaid : Prop := packBackRow.holds Try.pinned (OpenSpec.ofChange packBackSpec)

/-- ITS FALSE NEIGHBOUR: 'it returns false'. Refute it at one input. -/
def packBackWrong : ChangeSpec := { name := "packBack", fn := fun _ => fun
  | [d1, d2] => { results := [.lit (.bool false)], args := [d1, d2] }
  | _ => none }
def PackBackWrongFalsely : Prop := packBackRow.holds Try.pinned (OpenSpec.ofChange packBackWrong)

/-- 'deadeyelaw05.PackReads': WHATEVER THE INPUT: true; the input reads as it did. -/
def packReadsSpec : ChangeSpec := { name := "packReads", fn := fun _ => fun
  | [d1, d2] => { results := [.lit (.bool true)], args := [d1, d2] }
  | _ => none }
def packReadsRow : OpenClaim := { program := "ytjefjlalebpodaa", sum := "5ed88f2e644471bbfd3eb2a61fbd339ddec95a6418ccb11e909401730a43ec04", func := "deadeye/deadeyelaw05.PackReads", spec := "packReads", apart := false }
def PackReadsSaid : Prop := packReadsRow.holds Try.pinned (OpenSpec.ofChange packReadsSpec)

/-- ITS FALSE NEIGHBOUR: 'it returns false'. Refute it at one input. -/
def packReadsWrong : ChangeSpec := { name := "packReads", fn := fun _ => fun
  | [d1, d2] => { results := [.lit (.bool false)], args := [d1, d2] }
  | _ => none }
def PackReadsWrongFalsely : Prop := packReadsRow.holds Try.pinned (OpenSpec.ofChange packReadsWrong)

/-- 'deadeyelaw05.PackNone': WHATEVER THE INPUT: true; the input reads as it did. -/
def packNoneSpec : ChangeSpec := { name := "packNone", fn := fun _ => fun
  | [d] => { results := [.lit (.bool true)], args := [d] }
  | _ => none }
def packNoneRow : OpenClaim := { program := "ytjefjlalebpodaa", sum := "5ed88f2e644471bbfd3eb2a61fbd339ddec95a6418ccb11e909401730a43ec04", func := "deadeye/deadeyelaw05.PackNone", spec := "packNone", apart := false }
def PackNoneSaid : Prop := packNoneRow.holds Try.pinned (OpenSpec.ofChange packNoneSpec)

/-- ITS FALSE NEIGHBOUR: 'it returns false'. Refute it at one input. -/
def packNoneWrong : ChangeSpec := { name := "packNone", fn := fun _ => fun
  | [d] => { results := [.lit (.bool false)], args := [d] }
  | _ => none }
def PackNoneWrongFalsely : Prop := packNoneRow.holds Try.pinned (OpenSpec.ofChange packNoneWrong)

/-- 'deadeyelaw05.PackUnlike': WHATEVER THE INPUT: true; the input reads as it did. -/
def packUnlikeSpec : ChangeSpec := { name := "packUnlike", fn := fun _ => fun
  | [d1, d2, d3, d4] => { results := [.lit (.bool true)], args := [d1, d2, d3, d4] }
  | _ => none }
def packUnlikeRow : OpenClaim := { program := "ytjefjlalebpodaa", sum := "5ed88f2e644471bbfd3eb2a61fbd339ddec95a6418ccb11e909401730a43ec04", func := "deadeye/deadeyelaw05.PackUnlike", spec := "packUnlike", apart := false }
def PackUnlikeSaid : Prop := packUnlikeRow.holds Try.pinned (OpenSpec.ofChange packUnlikeSpec)

/-- ITS FALSE NEIGHBOUR: 'it returns false'. Refute it at one input. -/
def packUnlikeWrong : ChangeSpec := { name := "packUnlike", fn := fun _ => fun
  | [d1, d2, d3, d4] => { results := [.lit (.bool false)], args := [d1, d2, d3, d4] }
  | _ => none }
def PackUnlikeWrongFalsely : Prop := packUnlikeRow.holds Try.pinned (OpenSpec.ofChange packUnlikeWrong)

/-- 'deadeyelaw06.BlobEncodes': WHATEVER THE INPUT: true; the input reads as it did. -/
def blobEncodesSpec : ChangeSpec := { name := "blobEncodes", fn := fun _ => fun
  | [d1, d2, d3] => { results := [.lit (.bool true)], args := [d1, d2, d3] }
  | _ => none }
def blobEncodesRow : OpenClaim := { program := "ytjefjlalebpodaa", sum := "5ed88f2e644471bbfd3eb2a61fbd339ddec95a6418ccb11e909401730a43ec04", func := "deadeye/deadeyelaw06.BlobEncodes", spec := "blobEncodes", unfollowed := true, recurses := true, apart := false }
def BlobEncodesSaid : Prop := blobEncodesRow.holds Try.pinned (OpenSpec.ofChange blobEncodesSpec)

/-- ITS FALSE NEIGHBOUR: 'it returns false'. Refute it at one input. -/
def blobEncodesWrong : ChangeSpec := { name := "blobEncodes", fn := fun _ => fun
  | [d1, d2, d3] => { results := [.lit (.bool false)], args := [d1, d2, d3] }
  | _ => none }
def BlobEncodesWrongFalsely : Prop := blobEncodesRow.holds Try.pinned (OpenSpec.ofChange blobEncodesWrong)

/-- 'deadeyelaw06.BlobWidths': WHATEVER THE INPUT: true; the input reads as it did. -/
def blobWidthsSpec : ChangeSpec := { name := "blobWidths", fn := fun _ => fun
  | [d1, d2] => { results := [.lit (.bool true)], args := [d1, d2] }
  | _ => none }
def blobWidthsRow : OpenClaim := { program := "ytjefjlalebpodaa", sum := "5ed88f2e644471bbfd3eb2a61fbd339ddec95a6418ccb11e909401730a43ec04", func := "deadeye/deadeyelaw06.BlobWidths", spec := "blobWidths", unfollowed := true, recurses := true, apart := false }
def BlobWidthsSaid : Prop := blobWidthsRow.holds Try.pinned (OpenSpec.ofChange blobWidthsSpec)

/-- ITS FALSE NEIGHBOUR: 'it returns false'. Refute it at one input. -/
def blobWidthsWrong : ChangeSpec := { name := "blobWidths", fn := fun _ => fun
  | [d1, d2] => { results := [.lit (.bool false)], args := [d1, d2] }
  | _ => none }
def BlobWidthsWrongFalsely : Prop := blobWidthsRow.holds Try.pinned (OpenSpec.ofChange blobWidthsWrong)

/-- 'deadeyelaw06.BlobBack': WHATEVER THE INPUT: true; the input reads as it did. -/
def blobBackSpec : ChangeSpec := { name := "blobBack", fn := fun _ => fun
  | [d1, d2, d3, d4] => { results := [.lit (.bool true)], args := [d1, d2, d3, d4] }
  | _ => none }
def blobBackRow : OpenClaim := { program := "ytjefjlalebpodaa", sum := "5ed88f2e644471bbfd3eb2a61fbd339ddec95a6418ccb11e909401730a43ec04", func := "deadeye/deadeyelaw06.BlobBack", spec := "blobBack", unfollowed := true, recurses := true, apart := false }
def BlobBackSaid : Prop := blobBackRow.holds Try.pinned (OpenSpec.ofChange blobBackSpec)

/-- ITS FALSE NEIGHBOUR: 'it returns false'. Refute it at one input. -/
def blobBackWrong : ChangeSpec := { name := "blobBack", fn := fun _ => fun
  | [d1, d2, d3, d4] => { results := [.lit (.bool false)], args := [d1, d2, d3, d4] }
  | _ => none }
def BlobBackWrongFalsely : Prop := blobBackRow.holds Try.pinned (OpenSpec.ofChange blobBackWrong)

/-- 'deadeyelaw06.BlobDecodes': WHATEVER THE INPUT: true; the input reads as it did. -/
def blobDecodesSpec : ChangeSpec := { name := "blobDecodes", fn := fun _ => fun
  | [d1, d2, d3, d4, d5] => { results := [.lit (.bool true)], args := [d1, d2, d3, d4, d5] }
  | _ => none }
def blobDecodesRow : OpenClaim := { program := "ytjefjlalebpodaa", sum := "5ed88f2e644471bbfd3eb2a61fbd339ddec95a6418ccb11e909401730a43ec04", func := "deadeye/deadeyelaw06.BlobDecodes", spec := "blobDecodes", unfollowed := true, recurses := true, apart := false }
def BlobDecodesSaid : Prop := blobDecodesRow.holds Try.pinned (OpenSpec.ofChange blobDecodesSpec)

/-- ITS FALSE NEIGHBOUR: 'it returns false'. Refute it at one input. -/
def blobDecodesWrong : ChangeSpec := { name := "blobDecodes", fn := fun _ => fun
  | [d1, d2, d3, d4, d5] => { results := [.lit (.bool false)], args := [d1, d2, d3, d4, d5] }
  | _ => none }
def BlobDecodesWrongFalsely : Prop := blobDecodesRow.holds Try.pinned (OpenSpec.ofChange blobDecodesWrong)

/-- 'deadeyelaw06.BlobSizes': WHATEVER THE INPUT: true; the input reads as it did. -/
def blobSizesSpec : ChangeSpec := { name := "blobSizes", fn := fun _ => fun
  | [d1, d2, d3] => { results := [.lit (.bool true)], args := [d1, d2, d3] }
  | _ => none }
def blobSizesRow : OpenClaim := { program := "ytjefjlalebpodaa", sum := "5ed88f2e644471bbfd3eb2a61fbd339ddec95a6418ccb11e909401730a43ec04", func := "deadeye/deadeyelaw06.BlobSizes", spec := "blobSizes", unfollowed := true, recurses := true, apart := false }
def BlobSizesSaid : Prop := blobSizesRow.holds Try.pinned (OpenSpec.ofChange blobSizesSpec)

/-- ITS FALSE NEIGHBOUR: 'it returns false'. Refute it at one input. -/
def blobSizesWrong : ChangeSpec := { name := "blobSizes", fn := fun _ => fun
  | [d1, d2, d3] => { results := [.lit (.bool false)], args := [d1, d2, d3] }
  | _ => none }
def BlobSizesWrongFalsely : Prop := blobSizesRow.holds Try.pinned (OpenSpec.ofChange blobSizesWrong)

/- THE SECOND FORM. 'bulk': how many values and letters a reading holds, each counted each time it is reached (what is shared counts as often as it is met; a slice's spare places count too). A statement '..UptoSaid' is the law's where the arguments, and the package variables that the reading takes, are together of bulk at most 1048576: NARROWER than '..Said'. Prove '..Said' where nothing that the law and all that it calls make is longer than what came in: it says more and counts as full. Else prove '..UptoSaid'. A law counts once. -/
mutual
def uptoBulk {H : Type} : DataW H → Nat
  | .lit (.string bytes) => bytes.length + 1
  | .lit _ => 1
  | .nil => 1
  | .ptr d => uptoBulk d + 1
  | .slice elems spare => uptoBulkAll elems + uptoBulkAll spare + 1
  | .agg parts => uptoBulkAll parts + 1
  | .iface _ d => uptoBulk d + 1
  | .map entries => uptoBulkEntries entries + 1
  | .held _ => 1
def uptoBulkAll {H : Type} : List (DataW H) → Nat
  | [] => 0
  | d :: r => uptoBulk d + uptoBulkAll r
def uptoBulkEntries {H : Type} : List (Lit × DataW H) → Nat
  | [] => 0
  | x :: r => uptoBulkEntry x + uptoBulkEntries r
def uptoBulkEntry {H : Type} : Lit × DataW H → Nat
  | (.string bytes, d) => bytes.length + uptoBulk d + 1
  | (_, d) => uptoBulk d + 1
 end
def uptoSmall : (H : Type) → List (DataW H) → Bool := fun _ ds => decide (uptoBulkAll ds ≤ 1048576)
def OpenSpec.upto (s : _root_.Go.ChangeSpec) : _root_.Go.OpenSpec := { _root_.Go.OpenSpec.ofChange s with cond := some uptoSmall }

/-- 'deadeyelaw05.PackPuts', WHERE WHAT IT READS IS OF BULK AT MOST 1048576: true; the input reads as it did. -/
def packPutsUptoRow : OpenClaim := { program := "ytjefjlalebpodaa", sum := "5ed88f2e644471bbfd3eb2a61fbd339ddec95a6418ccb11e909401730a43ec04", func := "deadeye/deadeyelaw05.PackPuts", spec := "packPuts", apart := false, narrowed := true }
def PackPutsUptoSaid : Prop := packPutsUptoRow.holds Try.pinned (OpenSpec.upto packPutsSpec)

/-- 'deadeyelaw05.PackBack', WHERE WHAT IT READS IS OF BULK AT MOST 1048576: true; the input reads as it did. -/
def packBackUptoRow : OpenClaim := { program := "ytjefjlalebpodaa", sum := "5ed88f2e644471bbfd3eb2a61fbd339ddec95a6418ccb11e909401730a43ec04", func := "deadeye/deadeyelaw05.PackBack", spec := "packBack", apart := false, narrowed := true }
def PackBackUptoSaid : Prop := packBackUptoRow.holds Try.pinned (OpenSpec.upto packBackSpec)

/-- 'deadeyelaw05.PackReads', WHERE WHAT IT READS IS OF BULK AT MOST 1048576: true; the input reads as it did. -/
def packReadsUptoRow : OpenClaim := { program := "ytjefjlalebpodaa", sum := "5ed88f2e644471bbfd3eb2a61fbd339ddec95a6418ccb11e909401730a43ec04", func := "deadeye/deadeyelaw05.PackReads", spec := "packReads", apart := false, narrowed := true }
def PackReadsUptoSaid : Prop := packReadsUptoRow.holds Try.pinned (OpenSpec.upto packReadsSpec)

/-- 'deadeyelaw05.PackNone', WHERE WHAT IT READS IS OF BULK AT MOST 1048576: true; the input reads as it did. -/
def packNoneUptoRow : OpenClaim := { program := "ytjefjlalebpodaa", sum := "5ed88f2e644471bbfd3eb2a61fbd339ddec95a6418ccb11e909401730a43ec04", func := "deadeye/deadeyelaw05.PackNone", spec := "packNone", apart := false, narrowed := true }
def PackNoneUptoSaid : Prop := packNoneUptoRow.holds Try.pinned (OpenSpec.upto packNoneSpec)

/-- 'deadeyelaw05.PackUnlike', WHERE WHAT IT READS IS OF BULK AT MOST 1048576: true; the input reads as it did. -/
def packUnlikeUptoRow : OpenClaim := { program := "ytjefjlalebpodaa", sum := "5ed88f2e644471bbfd3eb2a61fbd339ddec95a6418ccb11e909401730a43ec04", func := "deadeye/deadeyelaw05.PackUnlike", spec := "packUnlike", apart := false, narrowed := true }
def PackUnlikeUptoSaid : Prop := packUnlikeUptoRow.holds Try.pinned (OpenSpec.upto packUnlikeSpec)

/-- 'deadeyelaw06.BlobEncodes', WHERE WHAT IT READS IS OF BULK AT MOST 1048576: true; the input reads as it did. -/
def blobEncodesUptoRow : OpenClaim := { program := "ytjefjlalebpodaa", sum := "5ed88f2e644471bbfd3eb2a61fbd339ddec95a6418ccb11e909401730a43ec04", func := "deadeye/deadeyelaw06.BlobEncodes", spec := "blobEncodes", unfollowed := true, recurses := true, apart := false, narrowed := true }
def BlobEncodesUptoSaid : Prop := blobEncodesUptoRow.holds Try.pinned (OpenSpec.upto blobEncodesSpec)

/-- 'deadeyelaw06.BlobWidths', WHERE WHAT IT READS IS OF BULK AT MOST 1048576: true; the input reads as it did. -/
def blobWidthsUptoRow : OpenClaim := { program := "ytjefjlalebpodaa", sum := "5ed88f2e644471bbfd3eb2a61fbd339ddec95a6418ccb11e909401730a43ec04", func := "deadeye/deadeyelaw06.BlobWidths", spec := "blobWidths", unfollowed := true, recurses := true, apart := false, narrowed := true }
def BlobWidthsUptoSaid : Prop := blobWidthsUptoRow.holds Try.pinned (OpenSpec.upto blobWidthsSpec)

/-- 'deadeyelaw06.BlobBack', WHERE WHAT IT READS IS OF BULK AT MOST 1048576: true; the input reads as it did. -/
def blobBackUptoRow : OpenClaim := { program := "ytjefjlalebpodaa", sum := "5ed88f2e644471bbfd3eb2a61fbd339ddec95a6418ccb11e909401730a43ec04", func := "deadeye/deadeyelaw06.BlobBack", spec := "blobBack", unfollowed := true, recurses := true, apart := false, narrowed := true }
def BlobBackUptoSaid : Prop := blobBackUptoRow.holds Try.pinned (OpenSpec.upto blobBackSpec)

/-- 'deadeyelaw06.BlobDecodes', WHERE WHAT IT READS IS OF BULK AT MOST 1048576: true; the input reads as it did. -/
def blobDecodesUptoRow : OpenClaim := { program := "ytjefjlalebpodaa", sum := "5ed88f2e644471bbfd3eb2a61fbd339ddec95a6418ccb11e909401730a43ec04", func := "deadeye/deadeyelaw06.BlobDecodes", spec := "blobDecodes", unfollowed := true, recurses := true, apart := false, narrowed := true }
def BlobDecodesUptoSaid : Prop := blobDecodesUptoRow.holds Try.pinned (OpenSpec.upto blobDecodesSpec)

/-- 'deadeyelaw06.BlobSizes', WHERE WHAT IT READS IS OF BULK AT MOST 1048576: true; the input reads as it did. -/
def blobSizesUptoRow : OpenClaim := { program := "ytjefjlalebpodaa", sum := "5ed88f2e644471bbfd3eb2a61fbd339ddec95a6418ccb11e909401730a43ec04", func := "deadeye/deadeyelaw06.BlobSizes", spec := "blobSizes", unfollowed := true, recurses := true, apart := false, narrowed := true }
def BlobSizesUptoSaid : Prop := blobSizesUptoRow.holds Try.pinned (OpenSpec.upto blobSizesSpec)

end Rows
end Go.Proofs.Ytjefjlalebpodaa
