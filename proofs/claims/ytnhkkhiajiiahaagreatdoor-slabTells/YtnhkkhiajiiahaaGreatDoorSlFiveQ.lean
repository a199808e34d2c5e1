/- What Seal, Get, Prepare, Blank and Bad do to a slab that lives: nothing. -/
import Derived.Test.YtnhkkhiajiiahaaGreatDoorSlWakes2Q
namespace Go.Proofs.YtnhkkhiajiiahaaGreatDoor
open Go.RowKit Go.PlainAid
set_option linter.unusedVariables false
set_option maxRecDepth 20000
end Go.Proofs.YtnhkkhiajiiahaaGreatDoor
