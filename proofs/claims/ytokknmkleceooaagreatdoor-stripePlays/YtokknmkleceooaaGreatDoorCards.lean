/-
  DERIVED. GIVEN WITH THE SEED: THE CARDS: each row of YtokknmkleceooaaGreatDoorRows.lean that lists a variable, with what it lists TIED to the program's text (the seventh form; the later family's looks); each row that meets fmt, with fmt's text TOLD by the authors' own Lean function (tested against real Go, not proved from fmt's source: count such statements apart). THE CARD IS WHAT COUNTS. Prove the row's statement (the work); the ties are given (YtokknmkleceooaaGreatDoorTie.lean); close each card by the builder's one call (the guide's Derived/Test/ToyasCard.lean, 'card_holds'). Laid BY PROGRAM, IN A SANDBOX (cutbox-door.mjs). By AI agents, Wed Nov 11 2026. No macro, syntax, notation, axiom, sorry.
-/
import Derived.Test.YtokknmkleceooaaGreatDoorRows
import GoSem.ClaimSeven
namespace Go.Proofs.YtokknmkleceooaaGreatDoor
namespace Rows

/-- THE TIED CARD OF 'cofferdamlaw19.StripeMakes'. -/
def stripeMakesCard : Claim7 := { stood := { row := stripeMakesRow, standIns := [], harness := (true, "b4aacad994fd9da6b627a72b626b84a2a61534da929d64bf7c95c7cd6ea08d50"), looks := false }, kinds := [], alts := [], laidByText := true, laidKinds := [.data], laidTests := true, laidLooks := .later }
def StripeMakesCardSaid : Prop := Claim7.holds Tryz.pinned (.plain (OpenSpec.ofChange stripeMakesSpec)) stripeMakesCard

/-- THE TIED CARD OF 'cofferdamlaw19.StripePlays'. -/
def stripePlaysCard : Claim7 := { stood := { row := stripePlaysRow, standIns := [], harness := (true, "b4aacad994fd9da6b627a72b626b84a2a61534da929d64bf7c95c7cd6ea08d50"), looks := false }, kinds := [], alts := [], laidByText := true, laidKinds := [.data, .data, .data], laidTests := true, laidLooks := .later }
def StripePlaysCardSaid : Prop := Claim7.holds Tryz.pinned (.plain (OpenSpec.ofChange stripePlaysSpec)) stripePlaysCard

/-- THE TIED CARD OF 'cofferdamlaw19.StripeTwo'. -/
def stripeTwoCard : Claim7 := { stood := { row := stripeTwoRow, standIns := [], harness := (true, "b4aacad994fd9da6b627a72b626b84a2a61534da929d64bf7c95c7cd6ea08d50"), looks := false }, kinds := [], alts := [], laidByText := true, laidKinds := [.data], laidTests := true, laidLooks := .later }
def StripeTwoCardSaid : Prop := Claim7.holds Tryz.pinned (.plain (OpenSpec.ofChange stripeTwoSpec)) stripeTwoCard

/-- THE TIED CARD OF 'cofferdamlaw19.StripeThree'. -/
def stripeThreeCard : Claim7 := { stood := { row := stripeThreeRow, standIns := [], harness := (true, "b4aacad994fd9da6b627a72b626b84a2a61534da929d64bf7c95c7cd6ea08d50"), looks := false }, kinds := [], alts := [], laidByText := true, laidKinds := [.data], laidTests := true, laidLooks := .later }
def StripeThreeCardSaid : Prop := Claim7.holds Tryz.pinned (.plain (OpenSpec.ofChange stripeThreeSpec)) stripeThreeCard

/-- THE TIED CARD OF 'cofferdamlaw19.StripeEach'. -/
def stripeEachCard : Claim7 := { stood := { row := stripeEachRow, standIns := [], harness := (true, "b4aacad994fd9da6b627a72b626b84a2a61534da929d64bf7c95c7cd6ea08d50"), looks := false }, kinds := [], alts := [], laidByText := true, laidKinds := [.data], laidTests := true, laidLooks := .later }
def StripeEachCardSaid : Prop := Claim7.holds Tryz.pinned (.plain (OpenSpec.ofChange stripeEachSpec)) stripeEachCard

/-- THE SECOND FORM's CARD OF 'cofferdamlaw19.StripeMakes'. -/
def stripeMakesUptoCard : Claim7 := { stood := { row := stripeMakesUptoRow, standIns := [], harness := (true, "b4aacad994fd9da6b627a72b626b84a2a61534da929d64bf7c95c7cd6ea08d50"), looks := false }, kinds := [], alts := [], laidByText := true, laidKinds := [.data], laidTests := true, laidLooks := .later }
def StripeMakesUptoCardSaid : Prop := Claim7.holds Tryz.pinned (.plain (OpenSpec.upto stripeMakesSpec)) stripeMakesUptoCard

/-- THE SECOND FORM's CARD OF 'cofferdamlaw19.StripePlays'. -/
def stripePlaysUptoCard : Claim7 := { stood := { row := stripePlaysUptoRow, standIns := [], harness := (true, "b4aacad994fd9da6b627a72b626b84a2a61534da929d64bf7c95c7cd6ea08d50"), looks := false }, kinds := [], alts := [], laidByText := true, laidKinds := [.data, .data, .data], laidTests := true, laidLooks := .later }
def StripePlaysUptoCardSaid : Prop := Claim7.holds Tryz.pinned (.plain (OpenSpec.upto stripePlaysSpec)) stripePlaysUptoCard

/-- THE SECOND FORM's CARD OF 'cofferdamlaw19.StripeTwo'. -/
def stripeTwoUptoCard : Claim7 := { stood := { row := stripeTwoUptoRow, standIns := [], harness := (true, "b4aacad994fd9da6b627a72b626b84a2a61534da929d64bf7c95c7cd6ea08d50"), looks := false }, kinds := [], alts := [], laidByText := true, laidKinds := [.data], laidTests := true, laidLooks := .later }
def StripeTwoUptoCardSaid : Prop := Claim7.holds Tryz.pinned (.plain (OpenSpec.upto stripeTwoSpec)) stripeTwoUptoCard

/-- THE SECOND FORM's CARD OF 'cofferdamlaw19.StripeThree'. -/
def stripeThreeUptoCard : Claim7 := { stood := { row := stripeThreeUptoRow, standIns := [], harness := (true, "b4aacad994fd9da6b627a72b626b84a2a61534da929d64bf7c95c7cd6ea08d50"), looks := false }, kinds := [], alts := [], laidByText := true, laidKinds := [.data], laidTests := true, laidLooks := .later }
def StripeThreeUptoCardSaid : Prop := Claim7.holds Tryz.pinned (.plain (OpenSpec.upto stripeThreeSpec)) stripeThreeUptoCard

/-- THE SECOND FORM's CARD OF 'cofferdamlaw19.StripeEach'. -/
def stripeEachUptoCard : Claim7 := { stood := { row := stripeEachUptoRow, standIns := [], harness := (true, "b4aacad994fd9da6b627a72b626b84a2a61534da929d64bf7c95c7cd6ea08d50"), looks := false }, kinds := [], alts := [], laidByText := true, laidKinds := [.data], laidTests := true, laidLooks := .later }
def StripeEachUptoCardSaid : Prop := Claim7.holds Tryz.pinned (.plain (OpenSpec.upto stripeEachSpec)) stripeEachUptoCard
end Rows
end Go.Proofs.YtokknmkleceooaaGreatDoor
