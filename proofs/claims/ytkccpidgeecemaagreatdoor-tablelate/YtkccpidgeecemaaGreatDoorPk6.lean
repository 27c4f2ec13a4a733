/-
  Packets of version 6 as plain data: when one is right, its bytes, and what bytes are. Nothing of the program.
-/
import Derived.Test.YtkccpidgeecemaaGreatDoorNumA
namespace Go.Proofs.YtkccpidgeecemaaGreatDoor.S6
open Num
set_option linter.unusedVariables false
def bareP (p : Pk) : Bool := decide (p.id = 0) && decide (p.off = 0) && !p.more
def hofP (p : Pk) : Nat := if p.frag = true then 48 else 40
def rightP (p : Pk) : Bool :=
  decide (p.v = 6) && !p.df && decide (p.o.length = 0) && decide (0 ≤ p.flow) && decide (p.flow < 1048576) && octP p.tos && octP p.ttl && octP p.proto && decide (p.proto ≠ 44) && decide (p.sv = 6) && decide (p.dv = 6) && placedP p.off p.more p.d.length && (p.frag || bareP p) && decide (hofP p - 40 + p.d.length ≤ 65535)
structure Rgt (p : Pk) : Prop where
  v : p.v = 6
  df : p.df = false
  o : p.o = []
  f0 : 0 ≤ p.flow
  f1 : p.flow < 1048576
  t0 : 0 ≤ p.tos
  t1 : p.tos ≤ 255
  l0 : 0 ≤ p.ttl
  l1 : p.ttl ≤ 255
  r0 : 0 ≤ p.proto
  r1 : p.proto ≤ 255
  r44 : p.proto ≠ 44
  sv : p.sv = 6
  dv : p.dv = 6
  o0 : 0 ≤ p.off
  o1 : p.off ≤ 65528
  o8 : p.off % 8 = 0
  m8 : p.more = true → p.d.length % 8 = 0
  mn : (p.more = true ∨ 0 < p.off) → p.d.length ≠ 0
  reach : p.off + p.d.length ≤ 65535
  bare : p.frag = false → p.id = 0 ∧ p.off = 0 ∧ p.more = false
  all : hofP p - 40 + p.d.length ≤ 65535
theorem right_iff (p : Pk) : rightP p = true ↔ Rgt p := by
  unfold rightP octP placedP bareP
  simp only [Bool.and_eq_true, Bool.or_eq_true, Bool.not_eq_true', decide_eq_true_eq, List.length_eq_zero_iff, Bool.or_eq_false_iff, decide_eq_false_iff_not]
  constructor
  · rintro ⟨⟨⟨⟨⟨⟨⟨⟨⟨⟨⟨⟨⟨a1, a2⟩, a3⟩, a4⟩, a5⟩, a6, a7⟩, a8, a9⟩, b1, b2⟩, b3⟩, b4⟩, b5⟩, ⟨⟨⟨⟨c1, c2⟩, c3⟩, c4⟩, c5⟩, c6⟩, d1⟩, d2⟩
    refine ⟨a1, a2, a3, a4, a5, a6, a7, a8, a9, b1, b2, b3, b4, b5, c1, c2, c3, fun h => ?_, fun h => ?_, c6, fun h => ?_, d2⟩
    · rcases c4 with e | e
      · rw [h] at e; simp at e
      · exact e
    · rcases c5 with e | e
      · rcases h with h | h
        · rw [h] at e; simp at e
        · exact absurd h e.2
      · exact e
    · rcases d1 with e | e
      · rw [h] at e; simp at e
      · exact ⟨e.1.1, e.1.2, e.2⟩
  · intro h
    refine ⟨⟨⟨⟨⟨⟨⟨⟨⟨⟨⟨⟨⟨h.v, h.df⟩, h.o⟩, h.f0⟩, h.f1⟩, h.t0, h.t1⟩, h.l0, h.l1⟩, h.r0, h.r1⟩, h.r44⟩, h.sv⟩, h.dv⟩, ⟨⟨⟨⟨h.o0, h.o1⟩, h.o8⟩, ?_⟩, ?_⟩, h.reach⟩, ?_⟩, h.all⟩
    · cases hm : p.more
      · exact .inl rfl
      · exact .inr (h.m8 hm)
    · by_cases hm : p.more = true ∨ 0 < p.off
      · exact .inr (h.mn hm)
      · refine .inl ⟨?_, fun e => hm (.inr e)⟩
        cases hq : p.more
        · rfl
        · exact absurd (.inl hq) hm
    · cases hf : p.frag
      · obtain ⟨e1, e2, e3⟩ := h.bare hf
        exact .inr ⟨⟨e1, e2⟩, e3⟩
      · exact .inl rfl
/-! Bytes. -/
def q4 (x : Int) : List Int := [x / 16777216, x / 65536 % 256, x / 256 % 256, x % 256]
def q2 (x : Int) : List Int := [x / 256, x % 256]
def word (p : Pk) : Int := 1610612736 + p.tos * 1048576 + p.flow
def lenP (p : Pk) : Int := (hofP p : Int) - 40 + p.d.length
def headP (p : Pk) : Int := if rightP p = true then hofP p else 0
/-! What bytes are. -/
structure Bs (b : List Int) (b0 b1 b2 b3 b4 b5 b6 b7 : Int) (s d r : List Int) : Prop where
  g0 : gt b 0 = b0
  g1 : gt b 1 = b1
  g2 : gt b 2 = b2
  g3 : gt b 3 = b3
  g4 : gt b 4 = b4
  g5 : gt b 5 = b5
  g6 : gt b 6 = b6
  g7 : gt b 7 = b7
  es : (b.drop 8).take 16 = s
  ed : (b.drop 24).take 16 = d
  er : b.drop 40 = r
  k : ∀ k, gt b (40 + k) = gt r k
  len : b.length = 40 + r.length
theorem zero_wf : Wf zeroPk := by
  have hz : Bytes z16 := by unfold Bytes z16; decide
  exact ⟨by simp [zeroPk, i64ok], by simp [zeroPk, i64ok], by simp [zeroPk, i64ok], by simp [zeroPk, i64ok], rfl, hz, by simp [zeroPk, i64ok], rfl, hz, by simp [zeroPk, i64ok], by simp [zeroPk, i64ok], by simp [zeroPk], by simp [zeroPk], by simp [zeroPk, i64ok], Bytes.nil, by simp [zeroPk], Bytes.nil, by simp [zeroPk]⟩
end Go.Proofs.YtkccpidgeecemaaGreatDoor.S6
