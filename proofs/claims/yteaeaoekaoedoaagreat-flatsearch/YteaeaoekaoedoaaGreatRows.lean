/-
  No cell of these rows narrows 'for every input' (looked for: loops, veiled, ifaces, maps, wideKeys, modest, calm, conditions, laid).
  DERIVED. THE GIVEN ROWS OF THIS SEAT. 4 by the template 'for every input the law returns true; each argument reads behind the call as it read before'; 0 by the template 'total and deterministic' (their statements: YteaeaoekaoedoaaGreatTotals.lean).
  GIVEN WITH THE SEED: the statements are not yours to turn. If you find one false, say at which input.
  Laid BY PROGRAM, IN A SANDBOX (cutbox-rows.mjs): the forced cells as the released guide's own fill.sh prints them over the translation a4cd61bd95acb9aa… (all of the seat's roots in one cut). By AI agents, Wed Nov 11 2026. No macro, syntax, notation, axiom, sorry.
-/
import Derived.Test.YteaeaoekaoedoaaGreatChecked
import GoSem.Claim
import GoSem.ClaimJoined
import GoSem.ClaimMapViews
import Derived.JoinedTies
import Derived.KernelRfl
namespace Go.Proofs.YteaeaoekaoedoaaGreat
/- THE CELL 'sum', in the pinned program and in every row, IS THE sha256 OF THE DUMP (.gsa) THAT YteaeaoekaoedoaaGreatProg.lean LOADS. Nothing in Lean hashes anything: it is a label: what it is worth is what the hold of that sum in a sandbox is worth. -/
noncomputable def Tryz.pinned : Pinned := { name := "yteaeaoekaoedoaagreat", sum := "a4cd61bd95acb9aa48f1b046cb47ebf3a8a64aa71dcfcc16995ff1b2994c47c9", checked := Tryz.checked }
namespace Rows
def none {H : Type} : Left H := { results := [], args := [] }

/-- 'theodolitelaw05.FlatTopK': WHATEVER THE INPUT: true; the input reads as it did. -/
def flatTopKSpec : ChangeSpec := { name := "flatTopK", fn := fun _ => fun
  | [d1, d2, d3, d4] => { results := [.lit (.bool true)], args := [d1, d2, d3, d4] }
  | _ => none }
def flatTopKRow : OpenClaim := { program := "yteaeaoekaoedoaagreat", sum := "a4cd61bd95acb9aa48f1b046cb47ebf3a8a64aa71dcfcc16995ff1b2994c47c9", func := "theodolite/theodolitelaw05.FlatTopK", spec := "flatTopK", inPlace := ["math/bits.Add64"], unfollowed := true, recurses := true, apart := false }
def FlatTopKSaid : Prop := flatTopKRow.holds Tryz.pinned (OpenSpec.ofChange flatTopKSpec)

/-- ITS FALSE NEIGHBOUR: 'it returns false'. Refute it at one input. -/
def flatTopKWrong : ChangeSpec := { name := "flatTopK", fn := fun _ => fun
  | [d1, d2, d3, d4] => { results := [.lit (.bool false)], args := [d1, d2, d3, d4] }
  | _ => none }
def FlatTopKWrongFalsely : Prop := flatTopKRow.holds Tryz.pinned (OpenSpec.ofChange flatTopKWrong)

/-- 'theodolitelaw05.FlatRange': WHATEVER THE INPUT: true; the input reads as it did. -/
def flatRangeSpec : ChangeSpec := { name := "flatRange", fn := fun _ => fun
  | [d1, d2, d3] => { results := [.lit (.bool true)], args := [d1, d2, d3] }
  | _ => none }
def flatRangeRow : OpenClaim := { program := "yteaeaoekaoedoaagreat", sum := "a4cd61bd95acb9aa48f1b046cb47ebf3a8a64aa71dcfcc16995ff1b2994c47c9", func := "theodolite/theodolitelaw05.FlatRange", spec := "flatRange", inPlace := ["math/bits.Add64"], unfollowed := true, recurses := true, apart := false }
def FlatRangeSaid : Prop := flatRangeRow.holds Tryz.pinned (OpenSpec.ofChange flatRangeSpec)

/-- ITS FALSE NEIGHBOUR: 'it returns false'. Refute it at one input. -/
def flatRangeWrong : ChangeSpec := { name := "flatRange", fn := fun _ => fun
  | [d1, d2, d3] => { results := [.lit (.bool false)], args := [d1, d2, d3] }
  | _ => none }
def FlatRangeWrongFalsely : Prop := flatRangeRow.holds Tryz.pinned (OpenSpec.ofChange flatRangeWrong)

/-- 'theodolitelaw05.FlatSearch': WHATEVER THE INPUT: true; the input reads as it did. -/
def flatSearchSpec : ChangeSpec := { name := "flatSearch", fn := fun _ => fun
  | [d1, d2, d3, d4] => { results := [.lit (.bool true)], args := [d1, d2, d3, d4] }
  | _ => none }
def flatSearchRow : OpenClaim := { program := "yteaeaoekaoedoaagreat", sum := "a4cd61bd95acb9aa48f1b046cb47ebf3a8a64aa71dcfcc16995ff1b2994c47c9", func := "theodolite/theodolitelaw05.FlatSearch", spec := "flatSearch", inPlace := ["math/bits.Add64"], unfollowed := true, recurses := true, apart := false }
def FlatSearchSaid : Prop := flatSearchRow.holds Tryz.pinned (OpenSpec.ofChange flatSearchSpec)

/-- ITS FALSE NEIGHBOUR: 'it returns false'. Refute it at one input. -/
def flatSearchWrong : ChangeSpec := { name := "flatSearch", fn := fun _ => fun
  | [d1, d2, d3, d4] => { results := [.lit (.bool false)], args := [d1, d2, d3, d4] }
  | _ => none }
def FlatSearchWrongFalsely : Prop := flatSearchRow.holds Tryz.pinned (OpenSpec.ofChange flatSearchWrong)

/-- 'theodolitelaw05.FlatNone': WHATEVER THE INPUT: true; the input reads as it did. -/
def flatNoneSpec : ChangeSpec := { name := "flatNone", fn := fun _ => fun
  | [d1, d2, d3] => { results := [.lit (.bool true)], args := [d1, d2, d3] }
  | _ => none }
def flatNoneRow : OpenClaim := { program := "yteaeaoekaoedoaagreat", sum := "a4cd61bd95acb9aa48f1b046cb47ebf3a8a64aa71dcfcc16995ff1b2994c47c9", func := "theodolite/theodolitelaw05.FlatNone", spec := "flatNone", inPlace := ["math/bits.Add64"], unfollowed := true, recurses := true, apart := false }
def FlatNoneSaid : Prop := flatNoneRow.holds Tryz.pinned (OpenSpec.ofChange flatNoneSpec)

/-- ITS FALSE NEIGHBOUR: 'it returns false'. Refute it at one input. -/
def flatNoneWrong : ChangeSpec := { name := "flatNone", fn := fun _ => fun
  | [d1, d2, d3] => { results := [.lit (.bool false)], args := [d1, d2, d3] }
  | _ => none }
def FlatNoneWrongFalsely : Prop := flatNoneRow.holds Tryz.pinned (OpenSpec.ofChange flatNoneWrong)

/- THE SECOND FORM. 'bulk': how many values and letters a reading holds, each counted each time it is reached (what is shared counts as often as it is met; a slice's spare places count too). A statement '..UptoSaid' is the law's where the arguments, and the package variables that the reading takes, are together of bulk at most 1048576: NARROWER than '..Said'. Prove '..Said' where nothing that the law and all that it calls make is longer than what came in: it says more and counts as full. Else prove '..UptoSaid'. A law counts once. -/
mutual
def uptoBulk {H : Type} : DataW H → Nat
  | .lit (.string bytes) => bytes.length + 1
  | .lit _ => 1
  | .nil => 1
  | .ptr d => uptoBulk d + 1
  | .slice elems spare => uptoBulkAll elems + uptoBulkAll spare + 1
  | .agg parts => uptoBulkAll parts + 1
  | .iface _ d => uptoBulk d + 1
  | .map entries => uptoBulkEntries entries + 1
  | .held _ => 1
def uptoBulkAll {H : Type} : List (DataW H) → Nat
  | [] => 0
  | d :: r => uptoBulk d + uptoBulkAll r
def uptoBulkEntries {H : Type} : List (Lit × DataW H) → Nat
  | [] => 0
  | x :: r => uptoBulkEntry x + uptoBulkEntries r
def uptoBulkEntry {H : Type} : Lit × DataW H → Nat
  | (.string bytes, d) => bytes.length + uptoBulk d + 1
  | (_, d) => uptoBulk d + 1
 end
def uptoSmall : (H : Type) → List (DataW H) → Bool := fun _ ds => decide (uptoBulkAll ds ≤ 1048576)
def OpenSpec.upto (s : _root_.Go.ChangeSpec) : _root_.Go.OpenSpec := { _root_.Go.OpenSpec.ofChange s with cond := some uptoSmall }

/-- 'theodolitelaw05.FlatTopK', WHERE WHAT IT READS IS OF BULK AT MOST 1048576: true; the input reads as it did. -/
def flatTopKUptoRow : OpenClaim := { program := "yteaeaoekaoedoaagreat", sum := "a4cd61bd95acb9aa48f1b046cb47ebf3a8a64aa71dcfcc16995ff1b2994c47c9", func := "theodolite/theodolitelaw05.FlatTopK", spec := "flatTopK", inPlace := ["math/bits.Add64"], unfollowed := true, recurses := true, apart := false, narrowed := true }
def FlatTopKUptoSaid : Prop := flatTopKUptoRow.holds Tryz.pinned (OpenSpec.upto flatTopKSpec)

/-- 'theodolitelaw05.FlatRange', WHERE WHAT IT READS IS OF BULK AT MOST 1048576: true; the input reads as it did. -/
def flatRangeUptoRow : OpenClaim := { program := "yteaeaoekaoedoaagreat", sum := "a4cd61bd95acb9aa48f1b046cb47ebf3a8a64aa71dcfcc16995ff1b2994c47c9", func := "theodolite/theodolitelaw05.FlatRange", spec := "flatRange", inPlace := ["math/bits.Add64"], unfollowed := true, recurses := true, apart := false, narrowed := true }
def FlatRangeUptoSaid : Prop := flatRangeUptoRow.holds Tryz.pinned (OpenSpec.upto flatRangeSpec)

/-- 'theodolitelaw05.FlatSearch', WHERE WHAT IT READS IS OF BULK AT MOST 1048576: true; the input reads as it did. -/
def flatSearchUptoRow : OpenClaim := { program := "yteaeaoekaoedoaagreat", sum := "a4cd61bd95acb9aa48f1b046cb47ebf3a8a64aa71dcfcc16995ff1b2994c47c9", func := "theodolite/theodolitelaw05.FlatSearch", spec := "flatSearch", inPlace := ["math/bits.Add64"], unfollowed := true, recurses := true, apart := false, narrowed := true }
def FlatSearchUptoSaid : Prop := flatSearchUptoRow.holds Tryz.pinned (OpenSpec.upto flatSearchSpec)

/-- 'theodolitelaw05.FlatNone', WHERE WHAT IT READS IS OF BULK AT MOST 1048576: true; the input reads as it did. -/
def flatNoneUptoRow : OpenClaim := { program := "yteaeaoekaoedoaagreat", sum := "a4cd61bd95acb9aa48f1b046cb47ebf3a8a64aa71dcfcc16995ff1b2994c47c9", func := "theodolite/theodolitelaw05.FlatNone", spec := "flatNone", inPlace := ["math/bits.Add64"], unfollowed := true, recurses := true, apart := false, narrowed := true }
def FlatNoneUptoSaid : Prop := flatNoneUptoRow.holds Tryz.pinned (OpenSpec.upto flatNoneSpec)

end Rows
end Go.Proofs.YteaeaoekaoedoaaGreat
