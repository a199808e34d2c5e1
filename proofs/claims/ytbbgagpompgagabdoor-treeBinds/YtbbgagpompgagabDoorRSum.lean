/- The digest of a text, as the document makes it. -/
import Derived.Test.YtbbgagpompgagabDoorPad
import Derived.Test.YtbbgagpompgagabDoorWrite
namespace Go.Proofs.YtbbgagpompgagabDoor
open Go.RowKit Go.PlainAid
set_option linter.unusedVariables false

end Go.Proofs.YtbbgagpompgagabDoor
