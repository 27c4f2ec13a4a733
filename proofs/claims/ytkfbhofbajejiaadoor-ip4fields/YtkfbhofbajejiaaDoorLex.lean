/-
  That the great region of Ip4Fields may be walked in the order of its text, reckoned by itself.
-/
import Derived.Test.YtkfbhofbajejiaaDoorStl
namespace Go.Proofs.YtkfbhofbajejiaaDoor
set_option maxRecDepth 100000
def regOps (n : Nat) : Code → Option (Array Oper)
  | .region id ops _ => if id = n then some ops else none
  | .seq a b => match regOps n a with
    | some x => some x
    | none => regOps n b
  | .cond _ a b => match regOps n a with
    | some x => some x
    | none => regOps n b
  | .block _ a => regOps n a
  | .loop a => regOps n a
  | .scope a => regOps n a
  | _ => none
def lexOf (f : Func) (n : Nat) : Bool := match f.body with
  | some c => match regOps n c with
    | some ops => Region.lexB .any ops.toList.toArray
    | none => false
  | none => false
theorem lex13 : lexOf Tryd.f4 13 = true := by kernel_rfl
end Go.Proofs.YtkfbhofbajejiaaDoor
