/- The document's Tamper and Image. -/
import Derived.Test.YtfepmafjkgjmmaaDkRef1
import Derived.Test.YtfepmafjkgjmmaaDkTamp
namespace Go.Proofs.Ytfepmafjkgjmmaa
open Go.RowKit Go.PlainAid
set_option linter.unusedVariables false

end Go.Proofs.Ytfepmafjkgjmmaa
