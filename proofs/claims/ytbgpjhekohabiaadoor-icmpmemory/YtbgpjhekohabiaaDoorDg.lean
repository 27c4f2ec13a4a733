/-
  Datagrams as plain data: their pseudo-headers, their bytes, and what bytes are. Nothing of the program.
-/
import Derived.Test.YtbgpjhekohabiaaDoorAdr
namespace Go.Proofs.YtbgpjhekohabiaaDoor
open Num
set_option linter.unusedVariables false

/-- An address. -/
structure Ax where
  v : Int
  l : List Int
structure WfA (a : Ax) : Prop where
  v : i64ok a.v
  n : a.l.length = 16
  l : Bytes a.l
def pairP (s t : Ax) : Bool := avalidP s.v s.l && avalidP t.v t.l && decide (s.v = t.v)
def wordP (n : Int) : Bool := decide (0 ≤ n) && decide (n ≤ 65535)
theorem word_iff {n : Int} : wordP n = true ↔ 0 ≤ n ∧ n ≤ 65535 := by simp [wordP]
theorem pair_v {s t : Ax} (h : pairP s t = true) : t.v = s.v ∧ (s.v = 4 ∨ s.v = 6) := by
  simp only [pairP, Bool.and_eq_true, decide_eq_true_eq] at h
  refine ⟨h.2.symm, ?_⟩
  have := h.1.1
  unfold avalidP at this
  split at this
  · left; assumption
  · right; simpa using this
theorem pair_comm (s t : Ax) : pairP s t = pairP t s := by
  unfold pairP
  rw [Bool.and_comm (avalidP s.v s.l), decide_eq_decide.mpr (show s.v = t.v ↔ t.v = s.v from ⟨Eq.symm, Eq.symm⟩)]
/-- The pseudo-header. -/
def psb (s t : Ax) (proto n : Int) : List Int :=
  if s.v = 4 then s.l.take 4 ++ (t.l.take 4 ++ [0, proto, n / 256, n % 256]) else s.l ++ (t.l ++ [0, 0, n / 256, n % 256, 0, 0, 0, proto])
theorem psb_bytes {s t : Ax} (hs : WfA s) (ht : WfA t) {proto n : Int} (h0 : 0 ≤ proto) (h1 : proto ≤ 255) (h2 : 0 ≤ n) (h3 : n ≤ 65535) : Bytes (psb s t proto n) := by
  unfold psb
  split
  · refine (hs.l.take 4).app ((ht.l.take 4).app ?_)
    exact (((Bytes.nil.cons (by omega) (by omega)).cons (by omega) (by omega)).cons h0 h1).cons (by omega) (by omega)
  · refine hs.l.app (ht.l.app ?_)
    exact (((((((Bytes.nil.cons h0 h1).cons (by omega) (by omega)).cons (by omega) (by omega)).cons (by omega) (by omega)).cons (by omega) (by omega)).cons (by omega) (by omega)).cons (by omega) (by omega)).cons (by omega) (by omega)
theorem psb_len {s t : Ax} (hs : WfA s) (ht : WfA t) (proto n : Int) : (psb s t proto n).length = if s.v = 4 then 12 else 40 := by
  unfold psb
  split <;> simp [hs.n, ht.n]
theorem ws_even (l m : List Int) (h : l.length % 2 = 0) : ws true (l ++ m) = ws true l + ws true m := by
  have := ws_app true l m
  rw [h] at this
  simpa using this
def psOk (s t : Ax) (proto n : Int) : Bool := pairP s t && (decide (0 ≤ proto) && decide (proto ≤ 255)) && wordP n
def psP (s t : Ax) (proto n : Int) : Int × Int := if psOk s t proto n = true then (pt (psb s t proto n), 0) else (0, 1)
def wd (b : List Int) (i : Nat) : Int := 256 * b[i]?.getD 0 + b[i + 1]?.getD 0
theorem wd_eq (b : List Int) (i : Nat) : wd b i = 256 * b[i]?.getD 0 + b[i + 1]?.getD 0 := rfl
theorem wd_bd {b : List Int} (hb : Bytes b) (i : Nat) : 0 ≤ wd b i ∧ wd b i ≤ 65535 := by
  have h1 := hb.getD i; have h2 := hb.getD (i + 1)
  unfold wd; omega
theorem wd_sum (x y n : Int) (h0 : x = n / 256) (h1 : y = n % 256) : 256 * x + y = n := by omega
/-- The first eight bytes, and the rest. -/
theorem eight {b : List Int} (h : 8 ≤ b.length) : ∃ b0 b1 b2 b3 b4 b5 b6 b7 r, b = b0 :: b1 :: b2 :: b3 :: b4 :: b5 :: b6 :: b7 :: r := by
  match b, h with
  | b0 :: b1 :: b2 :: b3 :: b4 :: b5 :: b6 :: b7 :: r, _ => exact ⟨b0, b1, b2, b3, b4, b5, b6, b7, r, rfl⟩
end Go.Proofs.YtbgpjhekohabiaaDoor
