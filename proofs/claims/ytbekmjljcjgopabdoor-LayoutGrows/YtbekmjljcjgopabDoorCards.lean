/-
  DERIVED. GIVEN WITH THE SEED: THE CARDS: each row of YtbekmjljcjgopabDoorRows.lean that lists a variable, with what it lists TIED to the program's text (the seventh form; the later family's looks); each row that meets fmt, with fmt's text TOLD by the authors' own Lean function (tested against real Go, not proved from fmt's source: count such statements apart). THE CARD IS WHAT COUNTS. Prove the row's statement (the work); the ties are given (YtbekmjljcjgopabDoorTie.lean); close each card by the builder's one call (the guide's Derived/Test/ToyasCard.lean, 'card_holds'). Laid BY PROGRAM, IN A SANDBOX (cutbox-door.mjs). By AI agents, Wed Nov 11 2026. No macro, syntax, notation, axiom, sorry.
-/
import Derived.Test.YtbekmjljcjgopabDoorRows
import GoSem.ClaimSeven
namespace Go.Proofs.YtbekmjljcjgopabDoor
namespace Rows

/-- THE TIED CARD OF 'cofferdamlaw18.LayoutGrows'. -/
def layoutGrowsCard : Claim7 := { stood := { row := layoutGrowsRow, standIns := [], harness := (true, "a6b90eaa2992d147d6558f602e605299fecfcc65731388b27c42721f1a8d1853"), looks := false }, kinds := [], alts := [], laidByText := true, laidKinds := [.data], laidTests := true, laidLooks := .later }
def LayoutGrowsCardSaid : Prop := Claim7.holds Tryd.pinned (.plain (OpenSpec.ofChange layoutGrowsSpec)) layoutGrowsCard

/-- THE SECOND FORM's CARD OF 'cofferdamlaw18.LayoutGrows'. -/
def layoutGrowsUptoCard : Claim7 := { stood := { row := layoutGrowsUptoRow, standIns := [], harness := (true, "a6b90eaa2992d147d6558f602e605299fecfcc65731388b27c42721f1a8d1853"), looks := false }, kinds := [], alts := [], laidByText := true, laidKinds := [.data], laidTests := true, laidLooks := .later }
def LayoutGrowsUptoCardSaid : Prop := Claim7.holds Tryd.pinned (.plain (OpenSpec.upto layoutGrowsSpec)) layoutGrowsUptoCard
end Rows
end Go.Proofs.YtbekmjljcjgopabDoor
