/-
  A script that came in.
-/
import Derived.Test.YtkccpidgeecemaaGreatDoorKq
namespace Go.Proofs.YtkccpidgeecemaaGreatDoor
open Go.ChangeShapes Go.WideShapes Go.ChangeAt Go.RowKit Go.Deep Num
set_option linter.unusedVariables false
set_option maxHeartbeats 4000000
set_option maxRecDepth 100000
structure Oq where
  k : Int
  q : Qo
  x : X
  t : Int
def Oq.cells (o : Oq) : List Value := .int .i64 o.k :: .int .i64 o.q.e :: .int .i64 o.q.b :: .int .i64 o.q.h :: .int .i64 o.q.t :: (listP o.x.p o.x.o o.x.d ++ [.int .i64 o.t])
def Oq.ok (w : World) (o : Oq) : Prop := i64ok o.k ∧ (i64ok o.q.e ∧ i64ok o.q.b ∧ i64ok o.q.h ∧ i64ok o.q.t) ∧ o.x.ok w ∧ i64ok o.t
end Go.Proofs.YtkccpidgeecemaaGreatDoor
