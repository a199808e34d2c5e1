/- The state behind one more block, as the document makes it. -/
import Derived.Test.YtbbgagpompgagabDoorRef
import Derived.Test.YtbbgagpompgagabDoorMix
import Derived.Deep.AppendLies
namespace Go.Proofs.YtbbgagpompgagabDoor
open Go.RowKit Go.PlainAid
set_option linter.unusedVariables false

end Go.Proofs.YtbbgagpompgagabDoor
