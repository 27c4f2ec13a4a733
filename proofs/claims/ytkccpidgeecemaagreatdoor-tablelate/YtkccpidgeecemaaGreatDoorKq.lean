/-
  A quota that came in.
-/
import Derived.Test.YtkccpidgeecemaaGreatDoorKitA
namespace Go.Proofs.YtkccpidgeecemaaGreatDoor
open Go.ChangeShapes Go.WideShapes Go.ChangeAt Go.RowKit Go.Deep Num
set_option linter.unusedVariables false
set_option maxHeartbeats 4000000
set_option maxRecDepth 100000
end Go.Proofs.YtkccpidgeecemaaGreatDoor
