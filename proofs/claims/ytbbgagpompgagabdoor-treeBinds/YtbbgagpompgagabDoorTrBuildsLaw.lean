/- What the Go function TreeBuilds answers: true, for every texts, number and bool. -/
import Derived.Test.YtbbgagpompgagabDoorTrArg
namespace Go.Proofs.YtbbgagpompgagabDoor
open Go.RowKit Go.PlainAid Go.Shelf
set_option linter.unusedVariables false

theorem Sa.cut {w : World} {a : Option Addr} {n m : Nat} {p : Nat → ByteArray} (h : Sa w a n p) (hm : m ≤ n) : Sa w a m p := by
  rcases h with h | ⟨b, o, rfl, h⟩
  · exact .inl (by omega)
  · exact .inr ⟨b, o, rfl, fun i hi => h i (by omega)⟩
end Go.Proofs.YtbbgagpompgagabDoor
