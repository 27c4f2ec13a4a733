/-
  equal of package cut.
-/
import Derived.Test.YtkccpidgeecemaaGreatDoorSameP
namespace Go.Proofs.YtkccpidgeecemaaGreatDoor
open Go.ChangeShapes Go.WideShapes Go.ChangeAt Go.RowKit Num
set_option linter.unusedVariables false
set_option maxHeartbeats 4000000
set_option maxRecDepth 100000
theorem bequal_any (a b : Option Addr) (l m : List Int) (n k cap cap' : Nat) (w : World) (hn : l.length = n) (hk : m.length = k) (ha : a = none → cap = 0) (hb : b = none → cap' = 0) (hr : Row w a l) (hs : Row w b m) :
    Calls Tryz.prog 101 #[.slice a n cap, .slice b k cap'] w fun E w' => E = .returned (.bool (decide (l = m))) ∧ w' = w := by
  subst hn; subst hk
  have s1 := conv_any w a l cap hr ha
  have s2 := conv_any w b m cap' hs hb
  have hq := bstr_eq l m hr.2.1 hs.2.1
  generalize bstr l = x at *
  generalize bstr m = y at *
  generalize decide (l = m) = z at *
  clear hr hs ha hb
  go_enter Tryz.func101, Tryz.ntmps101
  go_wp2
  go_ret
  exact ⟨rfl, rfl⟩
end Go.Proofs.YtkccpidgeecemaaGreatDoor
