/- The steps over a leaf, from the last one on. -/
import Derived.Test.YtbbgagpompgagabDoorTrPut0
namespace Go.Proofs.YtbbgagpompgagabDoor
open Go.RowKit Go.PlainAid Go.Shelf
set_option linter.unusedVariables false
attribute [local go_sem] Oper.semAt_some

end Go.Proofs.YtbbgagpompgagabDoor
