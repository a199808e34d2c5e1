/-
  No cell of these rows narrows 'for every input' (looked for: loops, veiled, ifaces, maps, wideKeys, modest, calm, conditions, laid).
  DERIVED. THE GIVEN ROWS OF THIS SEAT. 3 by the template 'for every input the law returns true; each argument reads behind the call as it read before'; 0 by the template 'total and deterministic' (their statements: YtniehkjicdlpeabTotals.lean).
  GIVEN WITH THE SEED: the statements are not yours to turn. If you find one false, say at which input.
  Laid BY PROGRAM, IN A SANDBOX (cutbox-rows.mjs): the forced cells as the released guide's own fill.sh prints them over the translation cc85b9cfbdf7f641… (all of the seat's roots in one cut). By AI agents, Wed Nov 11 2026. No macro, syntax, notation, axiom, sorry.
-/
import Derived.Test.YtniehkjicdlpeabChecked
import GoSem.Claim
import GoSem.ClaimJoined
import GoSem.ClaimMapViews
import Derived.JoinedTies
import Derived.KernelRfl
namespace Go.Proofs.Ytniehkjicdlpeab
/- THE CELL 'sum', in the pinned program and in every row, IS THE sha256 OF THE DUMP (.gsa) THAT YtniehkjicdlpeabProg.lean LOADS. Nothing in Lean hashes anything: it is a label: what it is worth is what the hold of that sum in a sandbox is worth. -/
noncomputable def Try.pinned : Pinned := { name := "ytniehkjicdlpeab", sum := "cc85b9cfbdf7f641fb2daabe3762a6d4c75ab3480f56b15e467f5f30de9a2b39", checked := Try.checked }
namespace Rows
def none {H : Type} : Left H := { results := [], args := [] }

/-- 'cofferdamlaw02.GfGenerates': WHATEVER THE INPUT: true; the input reads as it did. -/
def gfGeneratesSpec : ChangeSpec := { name := "gfGenerates", fn := fun _ => fun
  | [d] => { results := [.lit (.bool true)], args := [d] }
  | _ => none }
def gfGeneratesRow : OpenClaim := { program := "ytniehkjicdlpeab", sum := "cc85b9cfbdf7f641fb2daabe3762a6d4c75ab3480f56b15e467f5f30de9a2b39", func := "cofferdam/cofferdamlaw02.GfGenerates", spec := "gfGenerates", apart := false }
def GfGeneratesSaid : Prop := gfGeneratesRow.holds Try.pinned (OpenSpec.ofChange gfGeneratesSpec)

/-- ITS FALSE NEIGHBOUR: 'it returns false'. Refute it at one input. -/
def gfGeneratesWrong : ChangeSpec := { name := "gfGenerates", fn := fun _ => fun
  | [d] => { results := [.lit (.bool false)], args := [d] }
  | _ => none }
def GfGeneratesWrongFalsely : Prop := gfGeneratesRow.holds Try.pinned (OpenSpec.ofChange gfGeneratesWrong)

/-- 'cofferdamlaw02.GfExponents': WHATEVER THE INPUT: true; the input reads as it did. -/
def gfExponentsSpec : ChangeSpec := { name := "gfExponents", fn := fun _ => fun
  | [d1, d2, d3] => { results := [.lit (.bool true)], args := [d1, d2, d3] }
  | _ => none }
def gfExponentsRow : OpenClaim := { program := "ytniehkjicdlpeab", sum := "cc85b9cfbdf7f641fb2daabe3762a6d4c75ab3480f56b15e467f5f30de9a2b39", func := "cofferdam/cofferdamlaw02.GfExponents", spec := "gfExponents", apart := false }
def GfExponentsSaid : Prop := gfExponentsRow.holds Try.pinned (OpenSpec.ofChange gfExponentsSpec)

/-- ITS FALSE NEIGHBOUR: 'it returns false'. Refute it at one input. -/
def gfExponentsWrong : ChangeSpec := { name := "gfExponents", fn := fun _ => fun
  | [d1, d2, d3] => { results := [.lit (.bool false)], args := [d1, d2, d3] }
  | _ => none }
def GfExponentsWrongFalsely : Prop := gfExponentsRow.holds Try.pinned (OpenSpec.ofChange gfExponentsWrong)

/-- 'cofferdamlaw02.GfNil': WHATEVER THE INPUT: true; the input reads as it did. -/
def gfNilSpec : ChangeSpec := { name := "gfNil", fn := fun _ => fun
  | [d1, d2, d3] => { results := [.lit (.bool true)], args := [d1, d2, d3] }
  | _ => none }
def gfNilRow : OpenClaim := { program := "ytniehkjicdlpeab", sum := "cc85b9cfbdf7f641fb2daabe3762a6d4c75ab3480f56b15e467f5f30de9a2b39", func := "cofferdam/cofferdamlaw02.GfNil", spec := "gfNil", apart := false }
def GfNilSaid : Prop := gfNilRow.holds Try.pinned (OpenSpec.ofChange gfNilSpec)

/-- ITS FALSE NEIGHBOUR: 'it returns false'. Refute it at one input. -/
def gfNilWrong : ChangeSpec := { name := "gfNil", fn := fun _ => fun
  | [d1, d2, d3] => { results := [.lit (.bool false)], args := [d1, d2, d3] }
  | _ => none }
def GfNilWrongFalsely : Prop := gfNilRow.holds Try.pinned (OpenSpec.ofChange gfNilWrong)

/- THE SECOND FORM. 'bulk': how many values and letters a reading holds, each counted each time it is reached (what is shared counts as often as it is met; a slice's spare places count too). A statement '..UptoSaid' is the law's where the arguments, and the package variables that the reading takes, are together of bulk at most 1048576: NARROWER than '..Said'. Prove '..Said' where nothing that the law and all that it calls make is longer than what came in: it says more and counts as full. Else prove '..UptoSaid'. A law counts once. -/
mutual
def uptoBulk {H : Type} : DataW H → Nat
  | .lit (.string bytes) => bytes.length + 1
  | .lit _ => 1
  | .nil => 1
  | .ptr d => uptoBulk d + 1
  | .slice elems spare => uptoBulkAll elems + uptoBulkAll spare + 1
  | .agg parts => uptoBulkAll parts + 1
  | .iface _ d => uptoBulk d + 1
  | .map entries => uptoBulkEntries entries + 1
  | .held _ => 1
def uptoBulkAll {H : Type} : List (DataW H) → Nat
  | [] => 0
  | d :: r => uptoBulk d + uptoBulkAll r
def uptoBulkEntries {H : Type} : List (Lit × DataW H) → Nat
  | [] => 0
  | x :: r => uptoBulkEntry x + uptoBulkEntries r
def uptoBulkEntry {H : Type} : Lit × DataW H → Nat
  | (.string bytes, d) => bytes.length + uptoBulk d + 1
  | (_, d) => uptoBulk d + 1
 end
def uptoSmall : (H : Type) → List (DataW H) → Bool := fun _ ds => decide (uptoBulkAll ds ≤ 1048576)
def OpenSpec.upto (s : _root_.Go.ChangeSpec) : _root_.Go.OpenSpec := { _root_.Go.OpenSpec.ofChange s with cond := some uptoSmall }

/-- 'cofferdamlaw02.GfGenerates', WHERE WHAT IT READS IS OF BULK AT MOST 1048576: true; the input reads as it did. -/
def gfGeneratesUptoRow : OpenClaim := { program := "ytniehkjicdlpeab", sum := "cc85b9cfbdf7f641fb2daabe3762a6d4c75ab3480f56b15e467f5f30de9a2b39", func := "cofferdam/cofferdamlaw02.GfGenerates", spec := "gfGenerates", apart := false, narrowed := true }
def GfGeneratesUptoSaid : Prop := gfGeneratesUptoRow.holds Try.pinned (OpenSpec.upto gfGeneratesSpec)

/-- 'cofferdamlaw02.GfExponents', WHERE WHAT IT READS IS OF BULK AT MOST 1048576: true; the input reads as it did. -/
def gfExponentsUptoRow : OpenClaim := { program := "ytniehkjicdlpeab", sum := "cc85b9cfbdf7f641fb2daabe3762a6d4c75ab3480f56b15e467f5f30de9a2b39", func := "cofferdam/cofferdamlaw02.GfExponents", spec := "gfExponents", apart := false, narrowed := true }
def GfExponentsUptoSaid : Prop := gfExponentsUptoRow.holds Try.pinned (OpenSpec.upto gfExponentsSpec)

/-- 'cofferdamlaw02.GfNil', WHERE WHAT IT READS IS OF BULK AT MOST 1048576: true; the input reads as it did. -/
def gfNilUptoRow : OpenClaim := { program := "ytniehkjicdlpeab", sum := "cc85b9cfbdf7f641fb2daabe3762a6d4c75ab3480f56b15e467f5f30de9a2b39", func := "cofferdam/cofferdamlaw02.GfNil", spec := "gfNil", apart := false, narrowed := true }
def GfNilUptoSaid : Prop := gfNilUptoRow.holds Try.pinned (OpenSpec.upto gfNilSpec)

end Rows
end Go.Proofs.Ytniehkjicdlpeab
