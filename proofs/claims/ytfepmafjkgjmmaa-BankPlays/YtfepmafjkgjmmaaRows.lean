/-
  No cell of these rows narrows 'for every input' (looked for: loops, veiled, ifaces, maps, wideKeys, modest, calm, conditions, laid).
  DERIVED. THE GIVEN ROWS OF THIS SEAT. 5 by the template 'for every input the law returns true; each argument reads behind the call as it read before'; 0 by the template 'total and deterministic' (their statements: YtfepmafjkgjmmaaTotals.lean).
  GIVEN WITH THE SEED: the statements are not yours to turn. If you find one false, say at which input.
  Laid BY PROGRAM, IN A SANDBOX (cutbox-rows.mjs): the forced cells as the released guide's own fill.sh prints them over the translation 7da2f1170b5abe22… (all of the seat's roots in one cut). By AI agents, Wed Nov 11 2026. No macro, syntax, notation, axiom, sorry.
-/
import Derived.Test.YtfepmafjkgjmmaaChecked
import GoSem.Claim
import GoSem.ClaimJoined
import GoSem.ClaimMapViews
import Derived.JoinedTies
import Derived.KernelRfl
namespace Go.Proofs.Ytfepmafjkgjmmaa
/- THE CELL 'sum', in the pinned program and in every row, IS THE sha256 OF THE DUMP (.gsa) THAT YtfepmafjkgjmmaaProg.lean LOADS. Nothing in Lean hashes anything: it is a label: what it is worth is what the hold of that sum in a sandbox is worth. -/
noncomputable def Try.pinned : Pinned := { name := "ytfepmafjkgjmmaa", sum := "7da2f1170b5abe22fe26e8d4cd4378e0102ad4acffbb66c689382972961afc97", checked := Try.checked }
namespace Rows
def none {H : Type} : Left H := { results := [], args := [] }

/-- 'cofferdamlaw10.BankPlays': WHATEVER THE INPUT: true; the input reads as it did. -/
def bankPlaysSpec : ChangeSpec := { name := "bankPlays", fn := fun _ => fun
  | [d1, d2, d3] => { results := [.lit (.bool true)], args := [d1, d2, d3] }
  | _ => none }
def bankPlaysRow : OpenClaim := { program := "ytfepmafjkgjmmaa", sum := "7da2f1170b5abe22fe26e8d4cd4378e0102ad4acffbb66c689382972961afc97", func := "cofferdam/cofferdamlaw10.BankPlays", spec := "bankPlays", apart := false }
def BankPlaysSaid : Prop := bankPlaysRow.holds Try.pinned (OpenSpec.ofChange bankPlaysSpec)

/-- ITS FALSE NEIGHBOUR: 'it returns false'. Refute it at one input. -/
def bankPlaysWrong : ChangeSpec := { name := "bankPlays", fn := fun _ => fun
  | [d1, d2, d3] => { results := [.lit (.bool false)], args := [d1, d2, d3] }
  | _ => none }
def BankPlaysWrongFalsely : Prop := bankPlaysRow.holds Try.pinned (OpenSpec.ofChange bankPlaysWrong)

/-- 'cofferdamlaw10.BankCut': WHATEVER THE INPUT: true; the input reads as it did. -/
def bankCutSpec : ChangeSpec := { name := "bankCut", fn := fun _ => fun
  | [d1, d2] => { results := [.lit (.bool true)], args := [d1, d2] }
  | _ => none }
def bankCutRow : OpenClaim := { program := "ytfepmafjkgjmmaa", sum := "7da2f1170b5abe22fe26e8d4cd4378e0102ad4acffbb66c689382972961afc97", func := "cofferdam/cofferdamlaw10.BankCut", spec := "bankCut", apart := false }
def BankCutSaid : Prop := bankCutRow.holds Try.pinned (OpenSpec.ofChange bankCutSpec)

/-- ITS FALSE NEIGHBOUR: 'it returns false'. Refute it at one input. -/
def bankCutWrong : ChangeSpec := { name := "bankCut", fn := fun _ => fun
  | [d1, d2] => { results := [.lit (.bool false)], args := [d1, d2] }
  | _ => none }
def BankCutWrongFalsely : Prop := bankCutRow.holds Try.pinned (OpenSpec.ofChange bankCutWrong)

/-- 'cofferdamlaw10.BankApart': WHATEVER THE INPUT: true; the input reads as it did. -/
def bankApartSpec : ChangeSpec := { name := "bankApart", fn := fun _ => fun
  | [d1, d2, d3] => { results := [.lit (.bool true)], args := [d1, d2, d3] }
  | _ => none }
def bankApartRow : OpenClaim := { program := "ytfepmafjkgjmmaa", sum := "7da2f1170b5abe22fe26e8d4cd4378e0102ad4acffbb66c689382972961afc97", func := "cofferdam/cofferdamlaw10.BankApart", spec := "bankApart", apart := false }
def BankApartSaid : Prop := bankApartRow.holds Try.pinned (OpenSpec.ofChange bankApartSpec)

/-- ITS FALSE NEIGHBOUR: 'it returns false'. Refute it at one input. -/
def bankApartWrong : ChangeSpec := { name := "bankApart", fn := fun _ => fun
  | [d1, d2, d3] => { results := [.lit (.bool false)], args := [d1, d2, d3] }
  | _ => none }
def BankApartWrongFalsely : Prop := bankApartRow.holds Try.pinned (OpenSpec.ofChange bankApartWrong)

/-- 'cofferdamlaw10.BankNil': WHATEVER THE INPUT: true; the input reads as it did. -/
def bankNilSpec : ChangeSpec := { name := "bankNil", fn := fun _ => fun
  | [d] => { results := [.lit (.bool true)], args := [d] }
  | _ => none }
def bankNilRow : OpenClaim := { program := "ytfepmafjkgjmmaa", sum := "7da2f1170b5abe22fe26e8d4cd4378e0102ad4acffbb66c689382972961afc97", func := "cofferdam/cofferdamlaw10.BankNil", spec := "bankNil", apart := false }
def BankNilSaid : Prop := bankNilRow.holds Try.pinned (OpenSpec.ofChange bankNilSpec)

/-- ITS FALSE NEIGHBOUR: 'it returns false'. Refute it at one input. -/
def bankNilWrong : ChangeSpec := { name := "bankNil", fn := fun _ => fun
  | [d] => { results := [.lit (.bool false)], args := [d] }
  | _ => none }
def BankNilWrongFalsely : Prop := bankNilRow.holds Try.pinned (OpenSpec.ofChange bankNilWrong)

/-- 'cofferdamlaw10.BankSteps': WHATEVER THE INPUT: true; the input reads as it did. -/
def bankStepsSpec : ChangeSpec := { name := "bankSteps", fn := fun _ => fun
  | [d] => { results := [.lit (.bool true)], args := [d] }
  | _ => none }
def bankStepsRow : OpenClaim := { program := "ytfepmafjkgjmmaa", sum := "7da2f1170b5abe22fe26e8d4cd4378e0102ad4acffbb66c689382972961afc97", func := "cofferdam/cofferdamlaw10.BankSteps", spec := "bankSteps", unfollowed := true, recurses := true, apart := false }
def BankStepsSaid : Prop := bankStepsRow.holds Try.pinned (OpenSpec.ofChange bankStepsSpec)

/-- ITS FALSE NEIGHBOUR: 'it returns false'. Refute it at one input. -/
def bankStepsWrong : ChangeSpec := { name := "bankSteps", fn := fun _ => fun
  | [d] => { results := [.lit (.bool false)], args := [d] }
  | _ => none }
def BankStepsWrongFalsely : Prop := bankStepsRow.holds Try.pinned (OpenSpec.ofChange bankStepsWrong)

/- THE SECOND FORM. 'bulk': how many values and letters a reading holds, each counted each time it is reached (what is shared counts as often as it is met; a slice's spare places count too). A statement '..UptoSaid' is the law's where the arguments, and the package variables that the reading takes, are together of bulk at most 1048576: NARROWER than '..Said'. Prove '..Said' where nothing that the law and all that it calls make is longer than what came in: it says more and counts as full. Else prove '..UptoSaid'. A law counts once. -/
mutual
def uptoBulk {H : Type} : DataW H → Nat
  | .lit (.string bytes) => bytes.length + 1
  | .lit _ => 1
  | .nil => 1
  | .ptr d => uptoBulk d + 1
  | .slice elems spare => uptoBulkAll elems + uptoBulkAll spare + 1
  | .agg parts => uptoBulkAll parts + 1
  | .iface _ d => uptoBulk d + 1
  | .map entries => uptoBulkEntries entries + 1
  | .held _ => 1
def uptoBulkAll {H : Type} : List (DataW H) → Nat
  | [] => 0
  | d :: r => uptoBulk d + uptoBulkAll r
def uptoBulkEntries {H : Type} : List (Lit × DataW H) → Nat
  | [] => 0
  | x :: r => uptoBulkEntry x + uptoBulkEntries r
def uptoBulkEntry {H : Type} : Lit × DataW H → Nat
  | (.string bytes, d) => bytes.length + uptoBulk d + 1
  | (_, d) => uptoBulk d + 1
 end
def uptoSmall : (H : Type) → List (DataW H) → Bool := fun _ ds => decide (uptoBulkAll ds ≤ 1048576)
def OpenSpec.upto (s : _root_.Go.ChangeSpec) : _root_.Go.OpenSpec := { _root_.Go.OpenSpec.ofChange s with cond := some uptoSmall }

/-- 'cofferdamlaw10.BankPlays', WHERE WHAT IT READS IS OF BULK AT MOST 1048576: true; the input reads as it did. -/
def bankPlaysUptoRow : OpenClaim := { program := "ytfepmafjkgjmmaa", sum := "7da2f1170b5abe22fe26e8d4cd4378e0102ad4acffbb66c689382972961afc97", func := "cofferdam/cofferdamlaw10.BankPlays", spec := "bankPlays", apart := false, narrowed := true }
def BankPlaysUptoSaid : Prop := bankPlaysUptoRow.holds Try.pinned (OpenSpec.upto bankPlaysSpec)

/-- 'cofferdamlaw10.BankCut', WHERE WHAT IT READS IS OF BULK AT MOST 1048576: true; the input reads as it did. -/
def bankCutUptoRow : OpenClaim := { program := "ytfepmafjkgjmmaa", sum := "7da2f1170b5abe22fe26e8d4cd4378e0102ad4acffbb66c689382972961afc97", func := "cofferdam/cofferdamlaw10.BankCut", spec := "bankCut", apart := false, narrowed := true }
def BankCutUptoSaid : Prop := bankCutUptoRow.holds Try.pinned (OpenSpec.upto bankCutSpec)

/-- 'cofferdamlaw10.BankApart', WHERE WHAT IT READS IS OF BULK AT MOST 1048576: true; the input reads as it did. -/
def bankApartUptoRow : OpenClaim := { program := "ytfepmafjkgjmmaa", sum := "7da2f1170b5abe22fe26e8d4cd4378e0102ad4acffbb66c689382972961afc97", func := "cofferdam/cofferdamlaw10.BankApart", spec := "bankApart", apart := false, narrowed := true }
def BankApartUptoSaid : Prop := bankApartUptoRow.holds Try.pinned (OpenSpec.upto bankApartSpec)

/-- 'cofferdamlaw10.BankNil', WHERE WHAT IT READS IS OF BULK AT MOST 1048576: true; the input reads as it did. -/
def bankNilUptoRow : OpenClaim := { program := "ytfepmafjkgjmmaa", sum := "7da2f1170b5abe22fe26e8d4cd4378e0102ad4acffbb66c689382972961afc97", func := "cofferdam/cofferdamlaw10.BankNil", spec := "bankNil", apart := false, narrowed := true }
def BankNilUptoSaid : Prop := bankNilUptoRow.holds Try.pinned (OpenSpec.upto bankNilSpec)

/-- 'cofferdamlaw10.BankSteps', WHERE WHAT IT READS IS OF BULK AT MOST 1048576: true; the input reads as it did. -/
def bankStepsUptoRow : OpenClaim := { program := "ytfepmafjkgjmmaa", sum := "7da2f1170b5abe22fe26e8d4cd4378e0102ad4acffbb66c689382972961afc97", func := "cofferdam/cofferdamlaw10.BankSteps", spec := "bankSteps", unfollowed := true, recurses := true, apart := false, narrowed := true }
def BankStepsUptoSaid : Prop := bankStepsUptoRow.holds Try.pinned (OpenSpec.upto bankStepsSpec)

end Rows
end Go.Proofs.Ytfepmafjkgjmmaa
