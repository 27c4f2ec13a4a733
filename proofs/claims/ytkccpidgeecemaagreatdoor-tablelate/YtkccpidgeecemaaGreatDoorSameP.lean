/-
  sameP of the law.
-/
import Derived.Test.YtkccpidgeecemaaGreatDoorFldA
import Derived.Test.YtkccpidgeecemaaGreatDoorHelp
import Derived.BigGuard
import Derived.BigCall
namespace Go.Proofs.YtkccpidgeecemaaGreatDoor
open Go.ChangeShapes Go.WideShapes Go.ChangeAt Go.RowKit Num
set_option linter.unusedVariables false
set_option maxHeartbeats 4000000
set_option maxRecDepth 100000
end Go.Proofs.YtkccpidgeecemaaGreatDoor
