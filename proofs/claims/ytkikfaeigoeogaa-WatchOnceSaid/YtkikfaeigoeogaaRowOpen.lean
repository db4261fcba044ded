/- A list of things of any struct, as an argument: opened to what it reads as. -/
import Derived.Test.YtkikfaeigoeogaaBaseOwn
import Derived.Test.YtkikfaeigoeogaaKvOpen
import Derived.ProofKit
import Derived.OpenShut
import Derived.ShutString
import Derived.Carry
import Derived.Lib.SmallJoins
import Derived.Deep.Slices
namespace Go.Proofs.Ytkikfaeigoeogaa.P
open Go.ChangeShapes Go.WideShapes Go.ChangeAt Go.RowKit Go.Deep
set_option linter.unusedVariables false
set_option maxRecDepth 100000
end Go.Proofs.Ytkikfaeigoeogaa.P
