/-
  Packets of version 6 as plain data: when one is right, its bytes, and what bytes are. Nothing of the program.
-/
import Derived.Test.YtbkeilboneaejaaGreatDoorPk
namespace Go.Proofs.YtbkeilboneaejaaGreatDoor.S6
open Num
set_option linter.unusedVariables false

def bareP (p : Pk) : Bool := decide (p.id = 0) && decide (p.off = 0) && !p.more
def hofP (p : Pk) : Nat := if p.frag = true then 48 else 40
def rightP (p : Pk) : Bool :=
  decide (p.v = 6) && !p.df && decide (p.o.length = 0) && decide (0 ≤ p.flow) && decide (p.flow < 1048576) && octP p.tos && octP p.ttl && octP p.proto && decide (p.proto ≠ 44) && decide (p.sv = 6) && decide (p.dv = 6) && placedP p.off p.more p.d.length && (p.frag || bareP p) && decide (hofP p - 40 + p.d.length ≤ 65535)
/-- The same, as facts. -/
structure Rgt (p : Pk) : Prop where
  v : p.v = 6
  df : p.df = false
  o : p.o = []
  f0 : 0 ≤ p.flow
  f1 : p.flow < 1048576
  t0 : 0 ≤ p.tos
  t1 : p.tos ≤ 255
  l0 : 0 ≤ p.ttl
  l1 : p.ttl ≤ 255
  r0 : 0 ≤ p.proto
  r1 : p.proto ≤ 255
  r44 : p.proto ≠ 44
  sv : p.sv = 6
  dv : p.dv = 6
  o0 : 0 ≤ p.off
  o1 : p.off ≤ 65528
  o8 : p.off % 8 = 0
  m8 : p.more = true → p.d.length % 8 = 0
  mn : (p.more = true ∨ 0 < p.off) → p.d.length ≠ 0
  reach : p.off + p.d.length ≤ 65535
  bare : p.frag = false → p.id = 0 ∧ p.off = 0 ∧ p.more = false
  all : hofP p - 40 + p.d.length ≤ 65535
theorem right_iff (p : Pk) : rightP p = true ↔ Rgt p := by
  unfold rightP octP placedP bareP
  simp only [Bool.and_eq_true, Bool.or_eq_true, Bool.not_eq_true', decide_eq_true_eq, List.length_eq_zero_iff, Bool.or_eq_false_iff, decide_eq_false_iff_not]
  constructor
  · rintro ⟨⟨⟨⟨⟨⟨⟨⟨⟨⟨⟨⟨⟨a1, a2⟩, a3⟩, a4⟩, a5⟩, a6, a7⟩, a8, a9⟩, b1, b2⟩, b3⟩, b4⟩, b5⟩, ⟨⟨⟨⟨c1, c2⟩, c3⟩, c4⟩, c5⟩, c6⟩, d1⟩, d2⟩
    refine ⟨a1, a2, a3, a4, a5, a6, a7, a8, a9, b1, b2, b3, b4, b5, c1, c2, c3, fun h => ?_, fun h => ?_, c6, fun h => ?_, d2⟩
    · rcases c4 with e | e
      · rw [h] at e; simp at e
      · exact e
    · rcases c5 with e | e
      · rcases h with h | h
        · rw [h] at e; simp at e
        · exact absurd h e.2
      · exact e
    · rcases d1 with e | e
      · rw [h] at e; simp at e
      · exact ⟨e.1.1, e.1.2, e.2⟩
  · intro h
    refine ⟨⟨⟨⟨⟨⟨⟨⟨⟨⟨⟨⟨⟨h.v, h.df⟩, h.o⟩, h.f0⟩, h.f1⟩, h.t0, h.t1⟩, h.l0, h.l1⟩, h.r0, h.r1⟩, h.r44⟩, h.sv⟩, h.dv⟩, ⟨⟨⟨⟨h.o0, h.o1⟩, h.o8⟩, ?_⟩, ?_⟩, h.reach⟩, ?_⟩, h.all⟩
    · cases hm : p.more
      · exact .inl rfl
      · exact .inr (h.m8 hm)
    · by_cases hm : p.more = true ∨ 0 < p.off
      · exact .inr (h.mn hm)
      · refine .inl ⟨?_, fun e => hm (.inr e)⟩
        cases hq : p.more
        · rfl
        · exact absurd (.inl hq) hm
    · cases hf : p.frag
      · obtain ⟨e1, e2, e3⟩ := h.bare hf
        exact .inr ⟨⟨e1, e2⟩, e3⟩
      · exact .inl rfl

/-! Bytes. -/
def q4 (x : Int) : List Int := [x / 16777216, x / 65536 % 256, x / 256 % 256, x % 256]
def q2 (x : Int) : List Int := [x / 256, x % 256]
def word (p : Pk) : Int := 1610612736 + p.tos * 1048576 + p.flow
def lenP (p : Pk) : Int := (hofP p : Int) - 40 + p.d.length
def nextP (p : Pk) : Int := if p.frag = true then 44 else p.proto
def placeP (p : Pk) : Int := p.off + (if p.more = true then 1 else 0)
def fixP (p : Pk) : List Int := q4 (word p) ++ q2 (lenP p) ++ [nextP p, p.ttl] ++ p.sb ++ p.db
def fragP (p : Pk) : List Int := [p.proto, 0] ++ q2 (placeP p) ++ q4 p.id
def headB (p : Pk) : List Int := fixP p ++ (if p.frag = true then fragP p else [])
def lay6 (p : Pk) : List Int := headB p ++ p.d
def build6 (p : Pk) : List Int × Int := if rightP p = true then (lay6 p, 0) else ([], 1)
def headP (p : Pk) : Int := if rightP p = true then hofP p else 0
theorem q4_bytes {x : Int} (h0 : 0 ≤ x) (h1 : x ≤ 4294967295) : Bytes (q4 x) := (((Bytes.nil.cons (by omega) (by omega)).cons (by omega) (by omega)).cons (by omega) (by omega)).cons (by omega) (by omega)
theorem q2_bytes {x : Int} (h0 : 0 ≤ x) (h1 : x ≤ 65535) : Bytes (q2 x) := (Bytes.nil.cons (by omega) (by omega)).cons (by omega) (by omega)
theorem word_bd {p : Pk} (h : Rgt p) : 0 ≤ word p ∧ word p ≤ 4294967295 := by
  have := h.t0; have := h.t1; have := h.f0; have := h.f1
  unfold word; omega
theorem lenP_bd {p : Pk} (h : Rgt p) : 0 ≤ lenP p ∧ lenP p ≤ 65535 := by
  have := h.all
  unfold lenP hofP at *
  split at this <;> simp_all <;> omega
theorem nextP_bd {p : Pk} (h : Rgt p) : 0 ≤ nextP p ∧ nextP p ≤ 255 := by
  have := h.r0; have := h.r1
  unfold nextP; split <;> omega
theorem placeP_bd {p : Pk} (h : Rgt p) : 0 ≤ placeP p ∧ placeP p ≤ 65535 := by
  have := h.o0; have := h.o1
  unfold placeP; split <;> omega
theorem fixP_bytes {p : Pk} (hw : Wf p) (h : Rgt p) : Bytes (fixP p) :=
  ((((q4_bytes (word_bd h).1 (word_bd h).2).app (q2_bytes (lenP_bd h).1 (lenP_bd h).2)).app ((Bytes.nil.cons h.l0 h.l1).cons (nextP_bd h).1 (nextP_bd h).2)).app hw.sb).app hw.db
theorem fragP_bytes {p : Pk} (hw : Wf p) (h : Rgt p) : Bytes (fragP p) :=
  (((Bytes.nil.cons (by omega) (by omega)).cons h.r0 h.r1).app (q2_bytes (placeP_bd h).1 (placeP_bd h).2)).app (q4_bytes hw.id0 hw.id1)
theorem headB_bytes {p : Pk} (hw : Wf p) (h : Rgt p) : Bytes (headB p) := by
  unfold headB
  refine (fixP_bytes hw h).app ?_
  split
  · exact fragP_bytes hw h
  · exact Bytes.nil
theorem lay6_bytes {p : Pk} (hw : Wf p) (h : Rgt p) : Bytes (lay6 p) := (headB_bytes hw h).app hw.d
theorem fixP_len {p : Pk} (hw : Wf p) : (fixP p).length = 40 := by simp [fixP, q4, q2, hw.sl, hw.dl]
theorem fragP_len (p : Pk) : (fragP p).length = 8 := rfl
theorem headB_len {p : Pk} (hw : Wf p) : (headB p).length = hofP p := by
  unfold headB hofP
  split
  · rw [List.length_append, fixP_len hw, fragP_len]
  · rw [List.length_append, fixP_len hw]; rfl
theorem lay6_len {p : Pk} (hw : Wf p) : (lay6 p).length = hofP p + p.d.length := by
  unfold lay6; rw [List.length_append, headB_len hw]
theorem lay6_bd {p : Pk} (hw : Wf p) (h : Rgt p) : Bytes (lay6 p) ∧ (lay6 p).length ≤ 65575 ∧ 40 ≤ (lay6 p).length := by
  have := lay6_len hw
  have := h.all
  have h4 : hofP p = 48 ∨ hofP p = 40 := by unfold hofP; split; exact .inl rfl; exact .inr rfl
  exact ⟨lay6_bytes hw h, by omega, by omega⟩

/-! What bytes are. -/
def wd (b : List Int) (i : Nat) : Int := 256 * gt b i + gt b (i + 1)
def wd4 (b : List Int) (i : Nat) : Int := 16777216 * gt b i + 65536 * gt b (i + 1) + 256 * gt b (i + 2) + gt b (i + 3)
def measP (b : List Int) : Int :=
  if b.length < 40 then 20 else if gt b 0 / 16 ≠ 6 then 50 else if wd b 4 ≠ (b.length : Int) - 40 then 51 else if gt b 6 = 44 ∧ b.length < 48 then 20 else 0
def fixR (b : List Int) : Pk := ⟨6, wd4 b 0 / 1048576 % 256, wd4 b 0 % 1048576, 6, (b.drop 8).take 16, 6, (b.drop 24).take 16, gt b 6, gt b 7, 0, false, false, false, 0, [], []⟩
def readP (b : List Int) : Pk :=
  if gt b 6 = 44 then { fixR b with proto := gt b 40, id := wd4 b 44, more := decide (wd b 42 % 2 = 1), frag := true, off := wd b 42 / 8 * 8, d := b.drop 48 }
  else { fixR b with d := b.drop 40 }
def cleanP (b : List Int) : Bool := decide (gt b 6 ≠ 44) || (decide (gt b 41 = 0) && decide (wd b 42 / 2 % 4 = 0))
def parse6 (b : List Int) : Pk × Int :=
  if measP b ≠ 0 then (zeroPk, measP b) else if (cleanP b && rightP (readP b)) = true then (readP b, 0) else (zeroPk, 50)

theorem list16' {l : List Int} (h : l.length = 16) : ∃ b0 b1 b2 b3 b4 b5 b6 b7 b8 b9 b10 b11 b12 b13 b14 b15 : Int, l = [b0, b1, b2, b3, b4, b5, b6, b7, b8, b9, b10, b11, b12, b13, b14, b15] := by
  match l, h with
  | [b0, b1, b2, b3, b4, b5, b6, b7, b8, b9, b10, b11, b12, b13, b14, b15], _ => exact ⟨b0, b1, b2, b3, b4, b5, b6, b7, b8, b9, b10, b11, b12, b13, b14, b15, rfl⟩
/-- A head's eight bytes, two addresses, and the rest. -/
def bs (b0 b1 b2 b3 b4 b5 b6 b7 : Int) (s d r : List Int) : List Int := b0 :: b1 :: b2 :: b3 :: b4 :: b5 :: b6 :: b7 :: (s ++ (d ++ r))
theorem bs_of {b : List Int} (h : 40 ≤ b.length) : ∃ b0 b1 b2 b3 b4 b5 b6 b7 s d r, b = bs b0 b1 b2 b3 b4 b5 b6 b7 s d r ∧ s.length = 16 ∧ d.length = 16 := by
  match b, h with
  | b0 :: b1 :: b2 :: b3 :: b4 :: b5 :: b6 :: b7 :: t, h =>
    simp only [List.length_cons] at h
    refine ⟨b0, b1, b2, b3, b4, b5, b6, b7, t.take 16, (t.drop 16).take 16, t.drop 32, ?_, by simp; omega, by simp; omega⟩
    unfold bs
    rw [show t.drop 32 = (t.drop 16).drop 16 from by rw [List.drop_drop], List.take_append_drop, List.take_append_drop]
structure Bs (b : List Int) (b0 b1 b2 b3 b4 b5 b6 b7 : Int) (s d r : List Int) : Prop where
  g0 : gt b 0 = b0
  g1 : gt b 1 = b1
  g2 : gt b 2 = b2
  g3 : gt b 3 = b3
  g4 : gt b 4 = b4
  g5 : gt b 5 = b5
  g6 : gt b 6 = b6
  g7 : gt b 7 = b7
  es : (b.drop 8).take 16 = s
  ed : (b.drop 24).take 16 = d
  er : b.drop 40 = r
  k : ∀ k, gt b (40 + k) = gt r k
  len : b.length = 40 + r.length
theorem bs_at (b0 b1 b2 b3 b4 b5 b6 b7 : Int) (s d r : List Int) (hs : s.length = 16) (hd : d.length = 16) : Bs (bs b0 b1 b2 b3 b4 b5 b6 b7 s d r) b0 b1 b2 b3 b4 b5 b6 b7 s d r := by
  obtain ⟨c0, c1, c2, c3, c4, c5, c6, c7, c8, c9, c10, c11, c12, c13, c14, c15, rfl⟩ := list16' hs
  obtain ⟨d0, d1, d2, d3, d4, d5, d6, d7, d8, d9, d10, d11, d12, d13, d14, d15, rfl⟩ := list16' hd
  refine ⟨rfl, rfl, rfl, rfl, rfl, rfl, rfl, rfl, rfl, rfl, rfl, fun k => ?_, ?_⟩
  · unfold gt
    rw [show 40 + k = k + 40 from by omega]
    rfl
  · simp [bs]; omega
theorem lay6_bs {p : Pk} (hw : Wf p) : lay6 p = bs (word p / 16777216) (word p / 65536 % 256) (word p / 256 % 256) (word p % 256) (lenP p / 256) (lenP p % 256) (nextP p) p.ttl p.sb p.db ((if p.frag = true then fragP p else []) ++ p.d) := by
  simp [lay6, headB, fixP, q4, q2, bs]
theorem frag_at (p : Pk) (t : List Int) : gt (fragP p ++ t) 0 = p.proto ∧ gt (fragP p ++ t) 1 = 0 ∧ gt (fragP p ++ t) 2 = placeP p / 256 ∧ gt (fragP p ++ t) 3 = placeP p % 256 ∧ gt (fragP p ++ t) 4 = p.id / 16777216 ∧ gt (fragP p ++ t) 5 = p.id / 65536 % 256 ∧ gt (fragP p ++ t) 6 = p.id / 256 % 256 ∧ gt (fragP p ++ t) 7 = p.id % 256 ∧ (fragP p ++ t).drop 8 = t := ⟨rfl, rfl, rfl, rfl, rfl, rfl, rfl, rfl, rfl⟩
theorem parse_lay6 {p : Pk} (hw : Wf p) (hr : rightP p = true) : parse6 (lay6 p) = (p, 0) := by
  have h := (right_iff p).1 hr
  have hl := lay6_len hw
  have hb := bs_at (word p / 16777216) (word p / 65536 % 256) (word p / 256 % 256) (word p % 256) (lenP p / 256) (lenP p % 256) (nextP p) p.ttl p.sb p.db ((if p.frag = true then fragP p else []) ++ p.d) hw.sl hw.dl
  rw [← lay6_bs hw] at hb
  have w0 := word_bd h
  have l0 := lenP_bd h
  have e4 : wd4 (lay6 p) 0 = word p := by unfold wd4; rw [hb.g0, hb.g1, hb.g2, hb.g3]; omega
  have e2 : wd (lay6 p) 4 = lenP p := by unfold wd; rw [hb.g4, hb.g5]; omega
  have ht : word p / 1048576 % 256 = p.tos ∧ word p % 1048576 = p.flow := by
    have := h.t0; have := h.t1; have := h.f0; have := h.f1
    unfold word; omega
  have hfx : fixR (lay6 p) = ⟨6, p.tos, p.flow, 6, p.sb, 6, p.db, nextP p, p.ttl, 0, false, false, false, 0, [], []⟩ := by
    unfold fixR; rw [e4, ht.1, ht.2, hb.es, hb.ed, hb.g6, hb.g7]
  have hlp : lenP p = ((lay6 p).length : Int) - 40 := by rw [hl]; unfold lenP; omega
  have hv := h.v; have hsv := h.sv; have hdv := h.dv; have hdf := h.df; have ho := h.o
  have hm : measP (lay6 p) = 0 := by
    have hof : 40 ≤ hofP p := by unfold hofP; split <;> omega
    unfold measP
    rw [if_neg (by omega), if_neg, if_neg (by rw [e2]; omega), if_neg]
    · rw [hb.g6]; rintro ⟨e, e'⟩
      cases hf : p.frag
      · rw [show nextP p = p.proto from by unfold nextP; rw [hf]; rfl] at e; exact h.r44 e
      · rw [hl, show hofP p = 48 from by unfold hofP; rw [hf]; rfl] at e'; omega
    · rw [hb.g0]; unfold word; have := h.t0; have := h.t1; have := h.f0; have := h.f1; omega
  cases hf : p.frag
  · obtain ⟨e1, e3, e5⟩ := h.bare hf
    have hn : nextP p = p.proto := by unfold nextP; rw [hf]; rfl
    have h6 : gt (lay6 p) 6 ≠ 44 := by rw [hb.g6, hn]; exact h.r44
    have hrd : readP (lay6 p) = p := by
      unfold readP
      rw [if_neg h6, hfx, hb.er, hf, hn]
      obtain ⟨v, tos, flow, sv, sb, dv', db, proto, ttl, id, df, more, frag, off, o, d⟩ := p
      simp only at *
      subst hv hsv hdv hdf ho e1 e3 e5 hf
      rfl
    unfold parse6
    rw [if_neg (by simp [hm]), hrd, if_pos]
    simp [cleanP, h6, hr]
  · have hn : nextP p = 44 := by unfold nextP; rw [hf]; rfl
    have h6 : gt (lay6 p) 6 = 44 := by rw [hb.g6, hn]
    rw [hf] at hb
    simp only [if_true] at hb
    obtain ⟨f0, f1, f2, f3, f4, f5, f6, f7, f8⟩ := frag_at p p.d
    have k0 := hb.k 0; have k1 := hb.k 1; have k2 := hb.k 2; have k3 := hb.k 3; have k4 := hb.k 4; have k5 := hb.k 5; have k6 := hb.k 6; have k7 := hb.k 7
    rw [f0] at k0; rw [f1] at k1; rw [f2] at k2; rw [f3] at k3; rw [f4] at k4; rw [f5] at k5; rw [f6] at k6; rw [f7] at k7
    have kd : (lay6 p).drop 48 = p.d := by rw [show 48 = 40 + 8 from rfl, ← List.drop_drop, hb.er, f8]
    have pb := placeP_bd h
    have epl : wd (lay6 p) 42 = placeP p := by unfold wd; rw [k2, k3]; omega
    have i0 := hw.id0; have i1 := hw.id1
    have eid : wd4 (lay6 p) 44 = p.id := by unfold wd4; rw [k4, k5, k6, k7]; omega
    have o8 := h.o8
    have em : decide (placeP p % 2 = 1) = p.more := by
      unfold placeP
      cases p.more
      · simp; omega
      · simp; omega
    have eo : placeP p / 8 * 8 = p.off := by unfold placeP; split <;> omega
    have hrd : readP (lay6 p) = p := by
      unfold readP
      rw [if_pos h6, hfx, k0, eid, epl, em, eo, kd]
      clear hb f0 f1 f2 f3 f4 f5 f6 f7 f8 k0 k1 k2 k3 k4 k5 k6 k7 hfx hm e4 e2 h6 kd epl eid em eo hl hlp w0 l0 ht pb hn
      obtain ⟨v, tos, flow, sv, sb, dv', db, proto, ttl, id, df, more, frag, off, o, d⟩ := p
      simp only at *
      subst hv hsv hdv hdf ho hf
      rfl
    have hcl : placeP p / 2 % 4 = 0 := by unfold placeP; split <;> omega
    unfold parse6
    rw [if_neg (by simp [hm]), hrd, if_pos]
    unfold cleanP
    rw [show gt (lay6 p) 41 = 0 from k1, epl, hcl, hr]
    simp
theorem meas_ok {b : List Int} (h : measP b = 0) : 40 ≤ b.length ∧ gt b 0 / 16 = 6 ∧ wd b 4 = (b.length : Int) - 40 ∧ (gt b 6 = 44 → 48 ≤ b.length) := by
  unfold measP at h
  split at h
  · simp at h
  · split at h
    · simp at h
    · split at h
      · simp at h
      · split at h
        · simp at h
        · rename_i h1 h2 h3 h4
          refine ⟨by omega, by omega, by omega, fun e => ?_⟩
          rcases Nat.lt_or_ge b.length 48 with h | h
          · exact absurd ⟨e, h⟩ h4
          · exact h
theorem meas_cases (b : List Int) : measP b = 0 ∨ measP b = 20 ∨ measP b = 50 ∨ measP b = 51 := by
  unfold measP; repeat' split
  all_goals simp
theorem parse6_no {b : List Int} (h : (parse6 b).2 ≠ 0) : (parse6 b).1 = zeroPk := by
  unfold parse6 at *
  split
  · rfl
  · rename_i h1
    rw [if_neg h1] at h
    split
    · rename_i h2; rw [if_pos h2] at h; exact absurd rfl h
    · rfl
theorem parse6_cases (b : List Int) : (parse6 b).2 = 0 ∨ (parse6 b).2 = 20 ∨ (parse6 b).2 = 50 ∨ (parse6 b).2 = 51 := by
  unfold parse6
  split
  · exact meas_cases b
  · split
    · exact .inl rfl
    · exact .inr (.inr (.inl rfl))
theorem zero_wf : Wf zeroPk := by
  have hz : Bytes z16 := by unfold Bytes z16; decide
  exact ⟨by simp [zeroPk, i64ok], by simp [zeroPk, i64ok], by simp [zeroPk, i64ok], by simp [zeroPk, i64ok], rfl, hz, by simp [zeroPk, i64ok], rfl, hz, by simp [zeroPk, i64ok], by simp [zeroPk, i64ok], by simp [zeroPk], by simp [zeroPk], by simp [zeroPk, i64ok], Bytes.nil, by simp [zeroPk], Bytes.nil, by simp [zeroPk]⟩
theorem wd_bd {b : List Int} (h : Bytes b) (i : Nat) : 0 ≤ wd b i ∧ wd b i ≤ 65535 := by
  have := gt_bd h i; have := gt_bd h (i + 1); unfold wd; omega
theorem wd4_bd {b : List Int} (h : Bytes b) (i : Nat) : 0 ≤ wd4 b i ∧ wd4 b i ≤ 4294967295 := by
  have := gt_bd h i; have := gt_bd h (i + 1); have := gt_bd h (i + 2); have := gt_bd h (i + 3); unfold wd4; omega
theorem read_wf {b : List Int} (hb : Bytes b) (hn : b.length ≤ 140737488355328) (h : 40 ≤ b.length) : Wf (readP b) := by
  have w0 := wd4_bd hb 0; have w44 := wd4_bd hb 44; have w42 := wd_bd hb 42
  have g6 := gt_bd hb 6; have g7 := gt_bd hb 7; have g40 := gt_bd hb 40
  have s16 : ((b.drop 8).take 16).length = 16 := by simp; omega
  have d16 : ((b.drop 24).take 16).length = 16 := by simp; omega
  unfold readP
  split
  · exact ⟨by simp [fixR, i64ok], by simp [fixR, i64ok]; omega, by simp [fixR, i64ok]; omega, by simp [fixR, i64ok], s16, (hb.drop 8).take 16, by simp [fixR, i64ok], d16, (hb.drop 24).take 16, by simp [i64ok]; omega, by simp [fixR, i64ok]; omega, by simp; omega, by simp; omega, by simp [i64ok]; omega, Bytes.nil, by simp [fixR], hb.drop 48, by simp; omega⟩
  · exact ⟨by simp [fixR, i64ok], by simp [fixR, i64ok]; omega, by simp [fixR, i64ok]; omega, by simp [fixR, i64ok], s16, (hb.drop 8).take 16, by simp [fixR, i64ok], d16, (hb.drop 24).take 16, by simp [fixR, i64ok]; omega, by simp [fixR, i64ok]; omega, by simp [fixR], by simp [fixR], by simp [fixR, i64ok], Bytes.nil, by simp [fixR], hb.drop 40, by simp; omega⟩
theorem parse6_ok {b : List Int} (h : (parse6 b).2 = 0) : measP b = 0 ∧ cleanP b = true ∧ rightP (readP b) = true ∧ (parse6 b).1 = readP b := by
  unfold parse6 at *
  split at h
  · rename_i h1; exact absurd h h1
  · rename_i h1
    split at h
    · rename_i h2
      rw [if_neg h1, if_pos h2]
      simp only [Bool.and_eq_true] at h2
      exact ⟨by omega, h2.1, h2.2, rfl⟩
    · simp at h
theorem lay_parse6 {b : List Int} (hb : Bytes b) (hn : b.length ≤ 140737488355328) (h : (parse6 b).2 = 0) : Wf (parse6 b).1 ∧ rightP (parse6 b).1 = true ∧ lay6 (parse6 b).1 = b := by
  obtain ⟨hm, hc, hr, he⟩ := parse6_ok h
  rw [he]
  obtain ⟨h40, hv, hl, hf⟩ := meas_ok hm
  have hw := read_wf hb hn h40
  refine ⟨hw, hr, ?_⟩
  rw [lay6_bs hw]
  obtain ⟨b0, b1, b2, b3, b4, b5, b6, b7, s, d, r, hbs, hs, hd⟩ := bs_of h40
  have hx := bs_at b0 b1 b2 b3 b4 b5 b6 b7 s d r hs hd
  rw [← hbs] at hx
  have g0 := gt_bd hb 0; have g1 := gt_bd hb 1; have g2 := gt_bd hb 2; have g3 := gt_bd hb 3; have g4 := gt_bd hb 4; have g5 := gt_bd hb 5
  have W : word (readP b) = wd4 b 0 := by
    have e1 : (readP b).tos = wd4 b 0 / 1048576 % 256 := by unfold readP; split <;> rfl
    have e2 : (readP b).flow = wd4 b 0 % 1048576 := by unfold readP; split <;> rfl
    unfold word
    rw [e1, e2]
    have ew : wd4 b 0 = 16777216 * gt b 0 + 65536 * gt b 1 + 256 * gt b 2 + gt b 3 := rfl
    rw [ew]
    omega
  have L : lenP (readP b) = wd b 4 := by
    rw [hl]
    unfold lenP hofP readP
    by_cases e : gt b 6 = 44
    · have := hf e
      rw [if_pos e]
      simp; omega
    · rw [if_neg e]
      simp [fixR]; omega
  have N : nextP (readP b) = gt b 6 := by
    unfold nextP readP
    by_cases e : gt b 6 = 44
    · rw [if_pos e, if_pos rfl, e]
    · rw [if_neg e, if_neg (by simp [fixR])]; rfl
  have T : (readP b).ttl = gt b 7 := by unfold readP; split <;> rfl
  have S : (readP b).sb = s := by rw [show (readP b).sb = (b.drop 8).take 16 from by unfold readP; split <;> rfl]; exact hx.es
  have D : (readP b).db = d := by rw [show (readP b).db = (b.drop 24).take 16 from by unfold readP; split <;> rfl]; exact hx.ed
  rw [W, L, N, T, S, D]
  have R : ((if (readP b).frag = true then fragP (readP b) else []) ++ (readP b).d) = r := by
    by_cases e : gt b 6 = 44
    · have h48 := hf e
      have ef : (readP b).frag = true := by unfold readP; rw [if_pos e]
      rw [if_pos ef]
      have hc' : gt b 41 = 0 ∧ wd b 42 / 2 % 4 = 0 := by
        unfold cleanP at hc
        simpa [e] using hc
      have hrl : 8 ≤ r.length := by have := hx.len; omega
      match r, hrl, hx.k, hx.er with
      | r0 :: r1 :: r2 :: r3 :: r4 :: r5 :: r6 :: r7 :: t, _, hk, hdr =>
        have k0 : gt b 40 = r0 := hk 0
        have k1 : gt b 41 = r1 := hk 1
        have k2 : gt b 42 = r2 := hk 2
        have k3 : gt b 43 = r3 := hk 3
        have k4 : gt b 44 = r4 := hk 4
        have k5 : gt b 45 = r5 := hk 5
        have k6 : gt b 46 = r6 := hk 6
        have k7 : gt b 47 = r7 := hk 7
        have p1 : (readP b).proto = r0 := by unfold readP; rw [if_pos e]; exact k0
        have pid : (readP b).id = wd4 b 44 := by unfold readP; rw [if_pos e]
        have pd : (readP b).d = t := by
          unfold readP; rw [if_pos e]
          show b.drop 48 = t
          rw [show 48 = 40 + 8 from rfl, ← List.drop_drop, hdr]; rfl
        have ppl : placeP (readP b) = wd b 42 := by
          unfold placeP readP
          rw [if_pos e]
          simp only [decide_eq_true_eq]
          have := hc'.2
          split <;> omega
        have c2 := gt_bd hb 42; have c3 := gt_bd hb 43; have c4 := gt_bd hb 44; have c5 := gt_bd hb 45; have c6 := gt_bd hb 46; have c7 := gt_bd hb 47
        rw [k2] at c2; rw [k3] at c3; rw [k4] at c4; rw [k5] at c5; rw [k6] at c6; rw [k7] at c7
        have x1 : r1 = 0 := by rw [← k1]; exact hc'.1
        unfold fragP
        rw [p1, pid, pd, ppl]
        unfold wd wd4 q2 q4
        rw [k2, k3, k4, k5, k6, k7, x1]
        rw [show (256 * r2 + r3) / 256 = r2 from by omega, show (256 * r2 + r3) % 256 = r3 from by omega, show (16777216 * r4 + 65536 * r5 + 256 * r6 + r7) / 16777216 = r4 from by omega, show (16777216 * r4 + 65536 * r5 + 256 * r6 + r7) / 65536 % 256 = r5 from by omega, show (16777216 * r4 + 65536 * r5 + 256 * r6 + r7) / 256 % 256 = r6 from by omega, show (16777216 * r4 + 65536 * r5 + 256 * r6 + r7) % 256 = r7 from by omega]
        rfl
    · have ef : (readP b).frag = false := by unfold readP; rw [if_neg e]; rfl
      rw [if_neg (by simp [ef]), List.nil_append]
      unfold readP; rw [if_neg e]
      exact hx.er
  rw [R]
  unfold wd4 wd
  rw [hx.g0, hx.g1, hx.g2, hx.g3, hx.g4, hx.g5, hx.g6, hx.g7]
  rw [hx.g0] at g0; rw [hx.g1] at g1; rw [hx.g2] at g2; rw [hx.g3] at g3; rw [hx.g4] at g4; rw [hx.g5] at g5
  rw [show (16777216 * b0 + 65536 * b1 + 256 * b2 + b3) / 16777216 = b0 from by omega, show (16777216 * b0 + 65536 * b1 + 256 * b2 + b3) / 65536 % 256 = b1 from by omega, show (16777216 * b0 + 65536 * b1 + 256 * b2 + b3) / 256 % 256 = b2 from by omega, show (16777216 * b0 + 65536 * b1 + 256 * b2 + b3) % 256 = b3 from by omega, show (256 * b4 + b5) / 256 = b4 from by omega, show (256 * b4 + b5) % 256 = b5 from by omega]
  exact hbs.symm
theorem parse6_wf {b : List Int} (hb : Bytes b) (hn : b.length ≤ 140737488355328) : Wf (parse6 b).1 := by
  by_cases h : (parse6 b).2 = 0
  · exact (lay_parse6 hb hn h).1
  · rw [parse6_no h]; exact zero_wf
#print axioms lay_parse6
end Go.Proofs.YtbkeilboneaejaaGreatDoor.S6
