/- A thing is found by its key: hist's way, by a closure, and the document's. -/
import Derived.Test.YtcaapnjipjemiaaDoorKvRead
import Derived.Lib.QuietBelow
namespace Go.Proofs.YtcaapnjipjemiaaDoor.P
open Go.RowKit Go.Sort
set_option maxHeartbeats 400000
set_option linter.unusedVariables false
set_option linter.unusedSimpArgs false
set_option maxRecDepth 100000

end Go.Proofs.YtcaapnjipjemiaaDoor.P
