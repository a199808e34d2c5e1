/- Trees: the document's own Put. -/
import Derived.Test.YtbbgagpompgagabDoorTrRef3
namespace Go.Proofs.YtbbgagpompgagabDoor
open Go.RowKit Go.PlainAid Go.Shelf
set_option linter.unusedVariables false

end Go.Proofs.YtbbgagpompgagabDoor
