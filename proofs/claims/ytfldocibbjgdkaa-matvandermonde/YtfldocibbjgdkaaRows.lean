/-
  No cell of these rows narrows 'for every input' (looked for: loops, veiled, ifaces, maps, wideKeys, modest, calm, conditions, laid).
  DERIVED. THE GIVEN ROWS OF THIS SEAT. 5 by the template 'for every input the law returns true; each argument reads behind the call as it read before'; 0 by the template 'total and deterministic' (their statements: YtfldocibbjgdkaaTotals.lean).
  GIVEN WITH THE SEED: the statements are not yours to turn. If you find one false, say at which input.
  Laid BY PROGRAM, IN A SANDBOX (cutbox-rows.mjs): the forced cells as the released guide's own fill.sh prints them over the translation e4f51f823b2b7607… (all of the seat's roots in one cut). By AI agents, Wed Nov 11 2026. No macro, syntax, notation, axiom, sorry.
-/
import Derived.Test.YtfldocibbjgdkaaChecked
import GoSem.Claim
import GoSem.ClaimJoined
import GoSem.ClaimMapViews
import Derived.JoinedTies
import Derived.KernelRfl
namespace Go.Proofs.Ytfldocibbjgdkaa
/- THE CELL 'sum', in the pinned program and in every row, IS THE sha256 OF THE DUMP (.gsa) THAT YtfldocibbjgdkaaProg.lean LOADS. Nothing in Lean hashes anything: it is a label: what it is worth is what the hold of that sum in a sandbox is worth. -/
noncomputable def Try.pinned : Pinned := { name := "ytfldocibbjgdkaa", sum := "e4f51f823b2b76075c4e42dcfa56f3aae48ae0aeda3abdd1fd16cf14c8659d9a", checked := Try.checked }
namespace Rows
def none {H : Type} : Left H := { results := [], args := [] }

/-- 'deadeyelaw02.MatMuls': WHATEVER THE INPUT: true; the input reads as it did. -/
def matMulsSpec : ChangeSpec := { name := "matMuls", fn := fun _ => fun
  | [d1, d2] => { results := [.lit (.bool true)], args := [d1, d2] }
  | _ => none }
def matMulsRow : OpenClaim := { program := "ytfldocibbjgdkaa", sum := "e4f51f823b2b76075c4e42dcfa56f3aae48ae0aeda3abdd1fd16cf14c8659d9a", func := "deadeye/deadeyelaw02.MatMuls", spec := "matMuls", unfollowed := true, recurses := true, apart := false }
def MatMulsSaid : Prop := matMulsRow.holds Try.pinned (OpenSpec.ofChange matMulsSpec)

/-- ITS FALSE NEIGHBOUR: 'it returns false'. Refute it at one input. -/
def matMulsWrong : ChangeSpec := { name := "matMuls", fn := fun _ => fun
  | [d1, d2] => { results := [.lit (.bool false)], args := [d1, d2] }
  | _ => none }
def MatMulsWrongFalsely : Prop := matMulsRow.holds Try.pinned (OpenSpec.ofChange matMulsWrong)

/-- 'deadeyelaw02.MatInverts': WHATEVER THE INPUT: true; the input reads as it did. -/
def matInvertsSpec : ChangeSpec := { name := "matInverts", fn := fun _ => fun
  | [d] => { results := [.lit (.bool true)], args := [d] }
  | _ => none }
def matInvertsRow : OpenClaim := { program := "ytfldocibbjgdkaa", sum := "e4f51f823b2b76075c4e42dcfa56f3aae48ae0aeda3abdd1fd16cf14c8659d9a", func := "deadeye/deadeyelaw02.MatInverts", spec := "matInverts", unfollowed := true, recurses := true, apart := false }
def MatInvertsSaid : Prop := matInvertsRow.holds Try.pinned (OpenSpec.ofChange matInvertsSpec)

/-- ITS FALSE NEIGHBOUR: 'it returns false'. Refute it at one input. -/
def matInvertsWrong : ChangeSpec := { name := "matInverts", fn := fun _ => fun
  | [d] => { results := [.lit (.bool false)], args := [d] }
  | _ => none }
def MatInvertsWrongFalsely : Prop := matInvertsRow.holds Try.pinned (OpenSpec.ofChange matInvertsWrong)

/-- 'deadeyelaw02.MatVanders': WHATEVER THE INPUT: true; the input reads as it did. -/
def matVandersSpec : ChangeSpec := { name := "matVanders", fn := fun _ => fun
  | [d1, d2] => { results := [.lit (.bool true)], args := [d1, d2] }
  | _ => none }
def matVandersRow : OpenClaim := { program := "ytfldocibbjgdkaa", sum := "e4f51f823b2b76075c4e42dcfa56f3aae48ae0aeda3abdd1fd16cf14c8659d9a", func := "deadeye/deadeyelaw02.MatVanders", spec := "matVanders", unfollowed := true, recurses := true, apart := false }
def MatVandersSaid : Prop := matVandersRow.holds Try.pinned (OpenSpec.ofChange matVandersSpec)

/-- ITS FALSE NEIGHBOUR: 'it returns false'. Refute it at one input. -/
def matVandersWrong : ChangeSpec := { name := "matVanders", fn := fun _ => fun
  | [d1, d2] => { results := [.lit (.bool false)], args := [d1, d2] }
  | _ => none }
def MatVandersWrongFalsely : Prop := matVandersRow.holds Try.pinned (OpenSpec.ofChange matVandersWrong)

/-- 'deadeyelaw02.MatChains': WHATEVER THE INPUT: true; the input reads as it did. -/
def matChainsSpec : ChangeSpec := { name := "matChains", fn := fun _ => fun
  | [d1, d2, d3] => { results := [.lit (.bool true)], args := [d1, d2, d3] }
  | _ => none }
def matChainsRow : OpenClaim := { program := "ytfldocibbjgdkaa", sum := "e4f51f823b2b76075c4e42dcfa56f3aae48ae0aeda3abdd1fd16cf14c8659d9a", func := "deadeye/deadeyelaw02.MatChains", spec := "matChains", unfollowed := true, recurses := true, apart := false }
def MatChainsSaid : Prop := matChainsRow.holds Try.pinned (OpenSpec.ofChange matChainsSpec)

/-- ITS FALSE NEIGHBOUR: 'it returns false'. Refute it at one input. -/
def matChainsWrong : ChangeSpec := { name := "matChains", fn := fun _ => fun
  | [d1, d2, d3] => { results := [.lit (.bool false)], args := [d1, d2, d3] }
  | _ => none }
def MatChainsWrongFalsely : Prop := matChainsRow.holds Try.pinned (OpenSpec.ofChange matChainsWrong)

/-- 'deadeyelaw02.MatVandermonde': WHATEVER THE INPUT: true; the input reads as it did. -/
def matVandermondeSpec : ChangeSpec := { name := "matVandermonde", fn := fun _ => fun
  | [d1, d2] => { results := [.lit (.bool true)], args := [d1, d2] }
  | _ => none }
def matVandermondeRow : OpenClaim := { program := "ytfldocibbjgdkaa", sum := "e4f51f823b2b76075c4e42dcfa56f3aae48ae0aeda3abdd1fd16cf14c8659d9a", func := "deadeye/deadeyelaw02.MatVandermonde", spec := "matVandermonde", unfollowed := true, recurses := true, apart := false }
def MatVandermondeSaid : Prop := matVandermondeRow.holds Try.pinned (OpenSpec.ofChange matVandermondeSpec)

/-- ITS FALSE NEIGHBOUR: 'it returns false'. Refute it at one input. -/
def matVandermondeWrong : ChangeSpec := { name := "matVandermonde", fn := fun _ => fun
  | [d1, d2] => { results := [.lit (.bool false)], args := [d1, d2] }
  | _ => none }
def MatVandermondeWrongFalsely : Prop := matVandermondeRow.holds Try.pinned (OpenSpec.ofChange matVandermondeWrong)

/- THE SECOND FORM. 'bulk': how many values and letters a reading holds, each counted each time it is reached (what is shared counts as often as it is met; a slice's spare places count too). A statement '..UptoSaid' is the law's where the arguments, and the package variables that the reading takes, are together of bulk at most 1048576: NARROWER than '..Said'. Prove '..Said' where nothing that the law and all that it calls make is longer than what came in: it says more and counts as full. Else prove '..UptoSaid'. A law counts once. -/
mutual
def uptoBulk {H : Type} : DataW H → Nat
  | .lit (.string bytes) => bytes.length + 1
  | .lit _ => 1
  | .nil => 1
  | .ptr d => uptoBulk d + 1
  | .slice elems spare => uptoBulkAll elems + uptoBulkAll spare + 1
  | .agg parts => uptoBulkAll parts + 1
  | .iface _ d => uptoBulk d + 1
  | .map entries => uptoBulkEntries entries + 1
  | .held _ => 1
def uptoBulkAll {H : Type} : List (DataW H) → Nat
  | [] => 0
  | d :: r => uptoBulk d + uptoBulkAll r
def uptoBulkEntries {H : Type} : List (Lit × DataW H) → Nat
  | [] => 0
  | x :: r => uptoBulkEntry x + uptoBulkEntries r
def uptoBulkEntry {H : Type} : Lit × DataW H → Nat
  | (.string bytes, d) => bytes.length + uptoBulk d + 1
  | (_, d) => uptoBulk d + 1
 end
def uptoSmall : (H : Type) → List (DataW H) → Bool := fun _ ds => decide (uptoBulkAll ds ≤ 1048576)
def OpenSpec.upto (s : _root_.Go.ChangeSpec) : _root_.Go.OpenSpec := { _root_.Go.OpenSpec.ofChange s with cond := some uptoSmall }

/-- 'deadeyelaw02.MatMuls', WHERE WHAT IT READS IS OF BULK AT MOST 1048576: true; the input reads as it did. -/
def matMulsUptoRow : OpenClaim := { program := "ytfldocibbjgdkaa", sum := "e4f51f823b2b76075c4e42dcfa56f3aae48ae0aeda3abdd1fd16cf14c8659d9a", func := "deadeye/deadeyelaw02.MatMuls", spec := "matMuls", unfollowed := true, recurses := true, apart := false, narrowed := true }
def MatMulsUptoSaid : Prop := matMulsUptoRow.holds Try.pinned (OpenSpec.upto matMulsSpec)

/-- 'deadeyelaw02.MatInverts', WHERE WHAT IT READS IS OF BULK AT MOST 1048576: true; the input reads as it did. -/
def matInvertsUptoRow : OpenClaim := { program := "ytfldocibbjgdkaa", sum := "e4f51f823b2b76075c4e42dcfa56f3aae48ae0aeda3abdd1fd16cf14c8659d9a", func := "deadeye/deadeyelaw02.MatInverts", spec := "matInverts", unfollowed := true, recurses := true, apart := false, narrowed := true }
def MatInvertsUptoSaid : Prop := matInvertsUptoRow.holds Try.pinned (OpenSpec.upto matInvertsSpec)

/-- 'deadeyelaw02.MatVanders', WHERE WHAT IT READS IS OF BULK AT MOST 1048576: true; the input reads as it did. -/
def matVandersUptoRow : OpenClaim := { program := "ytfldocibbjgdkaa", sum := "e4f51f823b2b76075c4e42dcfa56f3aae48ae0aeda3abdd1fd16cf14c8659d9a", func := "deadeye/deadeyelaw02.MatVanders", spec := "matVanders", unfollowed := true, recurses := true, apart := false, narrowed := true }
def MatVandersUptoSaid : Prop := matVandersUptoRow.holds Try.pinned (OpenSpec.upto matVandersSpec)

/-- 'deadeyelaw02.MatChains', WHERE WHAT IT READS IS OF BULK AT MOST 1048576: true; the input reads as it did. -/
def matChainsUptoRow : OpenClaim := { program := "ytfldocibbjgdkaa", sum := "e4f51f823b2b76075c4e42dcfa56f3aae48ae0aeda3abdd1fd16cf14c8659d9a", func := "deadeye/deadeyelaw02.MatChains", spec := "matChains", unfollowed := true, recurses := true, apart := false, narrowed := true }
def MatChainsUptoSaid : Prop := matChainsUptoRow.holds Try.pinned (OpenSpec.upto matChainsSpec)

/-- 'deadeyelaw02.MatVandermonde', WHERE WHAT IT READS IS OF BULK AT MOST 1048576: true; the input reads as it did. -/
def matVandermondeUptoRow : OpenClaim := { program := "ytfldocibbjgdkaa", sum := "e4f51f823b2b76075c4e42dcfa56f3aae48ae0aeda3abdd1fd16cf14c8659d9a", func := "deadeye/deadeyelaw02.MatVandermonde", spec := "matVandermonde", unfollowed := true, recurses := true, apart := false, narrowed := true }
def MatVandermondeUptoSaid : Prop := matVandermondeUptoRow.holds Try.pinned (OpenSpec.upto matVandermondeSpec)

end Rows
end Go.Proofs.Ytfldocibbjgdkaa
