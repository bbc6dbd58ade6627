/-
  No cell of these rows narrows 'for every input' (looked for: loops, veiled, ifaces, maps, wideKeys, modest, calm, conditions, laid).
  DERIVED. THE GIVEN ROWS OF THIS SEAT. 1 by the template 'for every input the law returns true; each argument reads behind the call as it read before'; 0 by the template 'total and deterministic' (their statements: YtepjbdklljlecabGreatTotals.lean).
  GIVEN WITH THE SEED: the statements are not yours to turn. If you find one false, say at which input.
  Laid BY PROGRAM, IN A SANDBOX (cutbox-rows.mjs): the forced cells as the released guide's own fill.sh prints them over the translation 1a5105fba5989ae7… (all of the seat's roots in one cut). By AI agents, Wed Nov 11 2026. No macro, syntax, notation, axiom, sorry.
-/
import Derived.Test.YtepjbdklljlecabGreatChecked
import GoSem.Claim
import GoSem.ClaimJoined
import GoSem.ClaimMapViews
import Derived.JoinedTies
import Derived.KernelRfl
namespace Go.Proofs.YtepjbdklljlecabGreat
/- THE CELL 'sum', in the pinned program and in every row, IS THE sha256 OF THE DUMP (.gsa) THAT YtepjbdklljlecabGreatProg.lean LOADS. Nothing in Lean hashes anything: it is a label: what it is worth is what the hold of that sum in a sandbox is worth. -/
noncomputable def Tryz.pinned : Pinned := { name := "ytepjbdklljlecabgreat", sum := "1a5105fba5989ae759694298922667453046da4f7d270bbb932abc35d51040dc", checked := Tryz.checked }
namespace Rows
def none {H : Type} : Left H := { results := [], args := [] }

/-- 'theodolitelaw08.VptreeSure': WHATEVER THE INPUT: true; the input reads as it did. -/
def vptreeSureSpec : ChangeSpec := { name := "vptreeSure", fn := fun _ => fun
  | [d1, d2, d3, d4, d5, d6] => { results := [.lit (.bool true)], args := [d1, d2, d3, d4, d5, d6] }
  | _ => none }
def vptreeSureRow : OpenClaim := { program := "ytepjbdklljlecabgreat", sum := "1a5105fba5989ae759694298922667453046da4f7d270bbb932abc35d51040dc", func := "theodolite/theodolitelaw08.VptreeSure", spec := "vptreeSure", inPlace := ["math/bits.Add64", "slices.overlaps[theodolite/vptree.candidate]", "slices.overlaps[theodolite/api.Row]"], unfollowed := true, recurses := true, apart := false }
def VptreeSureSaid : Prop := vptreeSureRow.holds Tryz.pinned (OpenSpec.ofChange vptreeSureSpec)

/-- ITS FALSE NEIGHBOUR: 'it returns false'. Refute it at one input. -/
def vptreeSureWrong : ChangeSpec := { name := "vptreeSure", fn := fun _ => fun
  | [d1, d2, d3, d4, d5, d6] => { results := [.lit (.bool false)], args := [d1, d2, d3, d4, d5, d6] }
  | _ => none }
def VptreeSureWrongFalsely : Prop := vptreeSureRow.holds Tryz.pinned (OpenSpec.ofChange vptreeSureWrong)

/- THE SECOND FORM. 'bulk': how many values and letters a reading holds, each counted each time it is reached (what is shared counts as often as it is met; a slice's spare places count too). A statement '..UptoSaid' is the law's where the arguments, and the package variables that the reading takes, are together of bulk at most 1048576: NARROWER than '..Said'. Prove '..Said' where nothing that the law and all that it calls make is longer than what came in: it says more and counts as full. Else prove '..UptoSaid'. A law counts once. -/
mutual
def uptoBulk {H : Type} : DataW H → Nat
  | .lit (.string bytes) => bytes.length + 1
  | .lit _ => 1
  | .nil => 1
  | .ptr d => uptoBulk d + 1
  | .slice elems spare => uptoBulkAll elems + uptoBulkAll spare + 1
  | .agg parts => uptoBulkAll parts + 1
  | .iface _ d => uptoBulk d + 1
  | .map entries => uptoBulkEntries entries + 1
  | .held _ => 1
def uptoBulkAll {H : Type} : List (DataW H) → Nat
  | [] => 0
  | d :: r => uptoBulk d + uptoBulkAll r
def uptoBulkEntries {H : Type} : List (Lit × DataW H) → Nat
  | [] => 0
  | x :: r => uptoBulkEntry x + uptoBulkEntries r
def uptoBulkEntry {H : Type} : Lit × DataW H → Nat
  | (.string bytes, d) => bytes.length + uptoBulk d + 1
  | (_, d) => uptoBulk d + 1
 end
def uptoSmall : (H : Type) → List (DataW H) → Bool := fun _ ds => decide (uptoBulkAll ds ≤ 1048576)
def OpenSpec.upto (s : _root_.Go.ChangeSpec) : _root_.Go.OpenSpec := { _root_.Go.OpenSpec.ofChange s with cond := some uptoSmall }

/-- 'theodolitelaw08.VptreeSure', WHERE WHAT IT READS IS OF BULK AT MOST 1048576: true; the input reads as it did. -/
def vptreeSureUptoRow : OpenClaim := { program := "ytepjbdklljlecabgreat", sum := "1a5105fba5989ae759694298922667453046da4f7d270bbb932abc35d51040dc", func := "theodolite/theodolitelaw08.VptreeSure", spec := "vptreeSure", inPlace := ["math/bits.Add64", "slices.overlaps[theodolite/vptree.candidate]", "slices.overlaps[theodolite/api.Row]"], unfollowed := true, recurses := true, apart := false, narrowed := true }
def VptreeSureUptoSaid : Prop := vptreeSureUptoRow.holds Tryz.pinned (OpenSpec.upto vptreeSureSpec)

end Rows
end Go.Proofs.YtepjbdklljlecabGreat
