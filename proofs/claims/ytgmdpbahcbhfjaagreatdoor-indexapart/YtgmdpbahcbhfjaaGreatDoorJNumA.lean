import Derived.Test.YtgmdpbahcbhfjaaGreatDoorJMath
import Derived.Test.YtgmdpbahcbhfjaaGreatDoorJLen
import Derived.Laws.BitsAllLaws
set_option linter.unusedSimpArgs false
set_option linter.unusedVariables false
set_option maxHeartbeats 40000000
set_option maxRecDepth 100000
namespace Go.Proofs.YtgmdpbahcbhfjaaGreatDoor.J
open Go.RowKit

end Go.Proofs.YtgmdpbahcbhfjaaGreatDoor.J
