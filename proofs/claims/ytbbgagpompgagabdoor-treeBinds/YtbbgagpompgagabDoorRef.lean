/- What the document's own digest does with one block. -/
import Derived.Test.YtbbgagpompgagabDoorSched
import Derived.Maps.AppendAt
namespace Go.Proofs.YtbbgagpompgagabDoor
open Go.RowKit Go.PlainAid
set_option linter.unusedVariables false

end Go.Proofs.YtbbgagpompgagabDoor
