/-
  An entry as plain data: what each call does.
-/
import Derived.Test.YtkccpidgeecemaaGreatDoorHHol
import Derived.Test.YtkccpidgeecemaaGreatDoorPk6
namespace Go.Proofs.YtkccpidgeecemaaGreatDoor
set_option linter.unusedVariables false
/-! A key, as a packet's. -/
def kyB (p q : Pk) : Bool := decide (p.v = q.v) && ((decide (p.sv = q.sv) && decide (p.sb = q.sb)) && ((decide (p.dv = q.dv) && decide (p.db = q.db)) && (decide (p.proto = q.proto) && decide (p.id = q.id))))
def hdP (p : Pk) : Int := if rightP p = true then 20 + p.o.length else 0
structure Es where
  k : Pk
  tb : Int
  bad : Bool
  m : List H.Sp
  e : Int
  d : List Int
  h : Int
  f : Pk
  fl : Nat
  hd : Int
  ps : Int → Int × Bool
def newS (k : Pk) (t : Int) : Es := ⟨k, t, false, [(0, 65535)], -1, [], 0, zeroPk, 0, 0, fun _ => (0, false)⟩
def poisS (s : Es) : Es := ⟨s.k, s.tb, true, [], -1, [], 0, zeroPk, 0, 0, fun _ => (0, false)⟩
def rgt2 (p : Pk) : Bool := rightP p || S6.rightP p
def ownB (s : Es) (p : Pk) : Bool := kyB p s.k && (decide (0 < p.off) || p.more) && rgt2 p
def endP (p : Pk) : Int := p.off + p.d.length
def freshE (s : Es) (p : Pk) : List H.Sp := H.freshP s.m (p.off, p.off + p.d.length)
def listS (s : Es) (p : Pk) : Es := { s with m := H.putM s.m p.off p.d.length p.more, e := H.putE s.e p.off p.d.length p.more }
def begS (s : Es) (p : Pk) : Es := if 0 < p.off ∨ 0 < s.fl then s else { s with f := { p with d := [] }, fl := p.d.length, hd := hdP p }
def over (d : List Int) (i : Nat) (xs : List Int) : List Int := d.take i ++ xs ++ d.drop (i + xs.length)
def grow (d : List Int) (n : Nat) : List Int := d ++ List.replicate (n - d.length) 0
def laySp (off : Int) (pd d : List Int) (s : H.Sp) : List Int := over d s.1.toNat ((pd.drop (s.1 - off).toNat).take (s.2 - s.1).toNat)
def layD (d : List Int) (p : Pk) (fr : List H.Sp) : List Int := fr.foldl (laySp p.off p.d) (grow d (endP p).toNat)
def layS (s : Es) (p : Pk) (fr : List H.Sp) : Es := { s with d := layD s.d p fr, h := s.h + H.lenP fr }
def agrP (s : Es) (p : Pk) : Bool := decide ((s.d.drop p.off.toNat).take p.d.length = p.d)
def doneB (s : Es) : Bool := decide (s.e ≠ -1) && decide (s.m = [])
def progN (s : Es) : Int := if doneB s = true then 6 else 5
def long4 (s : Es) : Bool := decide (65535 < s.hd + s.e)
def take4 (e0 : Int) (s : Es) (p : Pk) (fr : List H.Sp) : Int × Es :=
  if long4 s = true then (4, s) else if agrP (layS s p fr) p = false then (4, layS s p fr) else if fr = [] ∧ s.e = e0 then (3, layS s p fr) else (progN s, layS s p fr)
def pieceS (s : Es) (p : Pk) : Es := { s with ps := fun o => if o = p.off then (endP p, p.more) else s.ps o }
def take6 (s : Es) (p : Pk) (fr : List H.Sp) : Int × Es :=
  if H.sizeP fr = p.d.length then (progN s, pieceS (layS s p fr) p) else if s.ps p.off = (endP p, p.more) ∧ agrP s p = true then (3, s) else (4, s)
def takeS (s : Es) (p : Pk) : Int × Es :=
  if H.putOk s.m s.e p.off p.d.length p.more = false then (4, s)
  else if p.v = 6 then take6 (begS (listS s p) p) p (freshE s p) else take4 s.e (begS (listS s p) p) p (freshE s p)
def putS (s : Es) (p : Pk) : Int × Es :=
  if ownB s p = false then (1, s) else if s.bad = true then (2, s) else if (takeS s p).1 = 4 then (4, poisS s) else takeS s p
def filledP (s : Es) (n : Nat) : Pk := { s.f with d := s.d.take n }
def firstP (s : Es) : Pk × Bool := if s.fl = 0 then (zeroPk, false) else (filledP s s.fl, true)
def wholeP (s : Es) : Pk × Bool :=
  if s.bad = true ∨ doneB s = false then (zeroPk, false)
  else ({ filledP s s.e.toNat with more := false, frag := if s.f.v = 6 then false else s.f.frag, id := if s.f.v = 6 then 0 else s.f.id }, true)
def holesN (s : Es) : Int := if s.bad = true then 0 else s.m.length
structure Inv (s : Es) (T : Int → Bool) : Prop where
  ho : H.Ho T s.m s.e
  cnt : s.h = H.cnt T 65535
  dl : s.d.length ≤ 65535
  db : Bytes s.d
  fl : s.fl ≤ s.d.length
  en : s.e ≤ s.d.length
  ps : ∀ o, (s.ps o).1 ≤ s.d.length
  hd : 0 ≤ s.hd ∧ s.hd ≤ 60
  fw : Wf s.f
  fd : s.f.d = []
  fo : s.f.o.length ≤ 40
  there : ∀ n, T n = true → n < s.d.length
theorem over_len {d xs : List Int} {i : Nat} (h : i + xs.length ≤ d.length) : (over d i xs).length = d.length := by simp [over]; omega
theorem grow_len (d : List Int) (n : Nat) : (grow d n).length = max d.length n := by simp [grow]; omega
theorem grow_bytes {d : List Int} (h : Bytes d) (n : Nat) : Bytes (grow d n) := h.app (fun x hx => by simp at hx; omega)
theorem over_bytes {d xs : List Int} (h : Bytes d) (hx : Bytes xs) (i : Nat) : Bytes (over d i xs) := ((h.take i).app hx).app (h.drop _)
end Go.Proofs.YtkccpidgeecemaaGreatDoor
