/-
  Parse.
-/
import Derived.Test.YtbgpjhekohabiaaDoorPk
import Derived.Test.YtbgpjhekohabiaaDoorPkt
import Derived.Deep.DrawnRows
import Derived.Deep.RegionHeld3
import Derived.BigQuiet
import Derived.BigCall
import Derived.Test.YtbgpjhekohabiaaDoorRAdr
import Derived.Test.YtbgpjhekohabiaaDoorRead
import Derived.Deep.CutBlock
import Derived.Deep.DeepCutAuto
namespace Go.Proofs.YtbgpjhekohabiaaDoor.S6
open Num
set_option linter.unusedVariables false

def bareP (p : Pk) : Bool := decide (p.id = 0) && decide (p.off = 0) && !p.more
def hofP (p : Pk) : Nat := if p.frag = true then 48 else 40
def rightP (p : Pk) : Bool :=
  decide (p.v = 6) && !p.df && decide (p.o.length = 0) && decide (0 ≤ p.flow) && decide (p.flow < 1048576) && octP p.tos && octP p.ttl && octP p.proto && decide (p.proto ≠ 44) && decide (p.sv = 6) && decide (p.dv = 6) && placedP p.off p.more p.d.length && (p.frag || bareP p) && decide (hofP p - 40 + p.d.length ≤ 65535)
/-- The same, as facts. -/
structure Rgt (p : Pk) : Prop where
  v : p.v = 6
  df : p.df = false
  o : p.o = []
  f0 : 0 ≤ p.flow
  f1 : p.flow < 1048576
  t0 : 0 ≤ p.tos
  t1 : p.tos ≤ 255
  l0 : 0 ≤ p.ttl
  l1 : p.ttl ≤ 255
  r0 : 0 ≤ p.proto
  r1 : p.proto ≤ 255
  r44 : p.proto ≠ 44
  sv : p.sv = 6
  dv : p.dv = 6
  o0 : 0 ≤ p.off
  o1 : p.off ≤ 65528
  o8 : p.off % 8 = 0
  m8 : p.more = true → p.d.length % 8 = 0
  mn : (p.more = true ∨ 0 < p.off) → p.d.length ≠ 0
  reach : p.off + p.d.length ≤ 65535
  bare : p.frag = false → p.id = 0 ∧ p.off = 0 ∧ p.more = false
  all : hofP p - 40 + p.d.length ≤ 65535
theorem right_iff (p : Pk) : rightP p = true ↔ Rgt p := by
  unfold rightP octP placedP bareP
  simp only [Bool.and_eq_true, Bool.or_eq_true, Bool.not_eq_true', decide_eq_true_eq, List.length_eq_zero_iff, Bool.or_eq_false_iff, decide_eq_false_iff_not]
  constructor
  · rintro ⟨⟨⟨⟨⟨⟨⟨⟨⟨⟨⟨⟨⟨a1, a2⟩, a3⟩, a4⟩, a5⟩, a6, a7⟩, a8, a9⟩, b1, b2⟩, b3⟩, b4⟩, b5⟩, ⟨⟨⟨⟨c1, c2⟩, c3⟩, c4⟩, c5⟩, c6⟩, d1⟩, d2⟩
    refine ⟨a1, a2, a3, a4, a5, a6, a7, a8, a9, b1, b2, b3, b4, b5, c1, c2, c3, fun h => ?_, fun h => ?_, c6, fun h => ?_, d2⟩
    · rcases c4 with e | e
      · rw [h] at e; simp at e
      · exact e
    · rcases c5 with e | e
      · rcases h with h | h
        · rw [h] at e; simp at e
        · exact absurd h e.2
      · exact e
    · rcases d1 with e | e
      · rw [h] at e; simp at e
      · exact ⟨e.1.1, e.1.2, e.2⟩
  · intro h
    refine ⟨⟨⟨⟨⟨⟨⟨⟨⟨⟨⟨⟨⟨h.v, h.df⟩, h.o⟩, h.f0⟩, h.f1⟩, h.t0, h.t1⟩, h.l0, h.l1⟩, h.r0, h.r1⟩, h.r44⟩, h.sv⟩, h.dv⟩, ⟨⟨⟨⟨h.o0, h.o1⟩, h.o8⟩, ?_⟩, ?_⟩, h.reach⟩, ?_⟩, h.all⟩
    · cases hm : p.more
      · exact .inl rfl
      · exact .inr (h.m8 hm)
    · by_cases hm : p.more = true ∨ 0 < p.off
      · exact .inr (h.mn hm)
      · refine .inl ⟨?_, fun e => hm (.inr e)⟩
        cases hq : p.more
        · rfl
        · exact absurd (.inl hq) hm
    · cases hf : p.frag
      · obtain ⟨e1, e2, e3⟩ := h.bare hf
        exact .inr ⟨⟨e1, e2⟩, e3⟩
      · exact .inl rfl

/-! Bytes. -/
def q4 (x : Int) : List Int := [x / 16777216, x / 65536 % 256, x / 256 % 256, x % 256]
def q2 (x : Int) : List Int := [x / 256, x % 256]
def word (p : Pk) : Int := 1610612736 + p.tos * 1048576 + p.flow
def lenP (p : Pk) : Int := (hofP p : Int) - 40 + p.d.length
def nextP (p : Pk) : Int := if p.frag = true then 44 else p.proto
def placeP (p : Pk) : Int := p.off + (if p.more = true then 1 else 0)
def fixP (p : Pk) : List Int := q4 (word p) ++ q2 (lenP p) ++ [nextP p, p.ttl] ++ p.sb ++ p.db
def fragP (p : Pk) : List Int := [p.proto, 0] ++ q2 (placeP p) ++ q4 p.id
def headB (p : Pk) : List Int := fixP p ++ (if p.frag = true then fragP p else [])
def lay6 (p : Pk) : List Int := headB p ++ p.d
def build6 (p : Pk) : List Int × Int := if rightP p = true then (lay6 p, 0) else ([], 1)
def headP (p : Pk) : Int := if rightP p = true then hofP p else 0
theorem q4_bytes {x : Int} (h0 : 0 ≤ x) (h1 : x ≤ 4294967295) : Bytes (q4 x) := (((Bytes.nil.cons (by omega) (by omega)).cons (by omega) (by omega)).cons (by omega) (by omega)).cons (by omega) (by omega)
theorem q2_bytes {x : Int} (h0 : 0 ≤ x) (h1 : x ≤ 65535) : Bytes (q2 x) := (Bytes.nil.cons (by omega) (by omega)).cons (by omega) (by omega)
theorem word_bd {p : Pk} (h : Rgt p) : 0 ≤ word p ∧ word p ≤ 4294967295 := by
  have := h.t0; have := h.t1; have := h.f0; have := h.f1
  unfold word; omega
theorem lenP_bd {p : Pk} (h : Rgt p) : 0 ≤ lenP p ∧ lenP p ≤ 65535 := by
  have := h.all
  unfold lenP hofP at *
  split at this <;> simp_all <;> omega
theorem nextP_bd {p : Pk} (h : Rgt p) : 0 ≤ nextP p ∧ nextP p ≤ 255 := by
  have := h.r0; have := h.r1
  unfold nextP; split <;> omega
theorem placeP_bd {p : Pk} (h : Rgt p) : 0 ≤ placeP p ∧ placeP p ≤ 65535 := by
  have := h.o0; have := h.o1
  unfold placeP; split <;> omega
theorem fixP_bytes {p : Pk} (hw : Wf p) (h : Rgt p) : Bytes (fixP p) :=
  ((((q4_bytes (word_bd h).1 (word_bd h).2).app (q2_bytes (lenP_bd h).1 (lenP_bd h).2)).app ((Bytes.nil.cons h.l0 h.l1).cons (nextP_bd h).1 (nextP_bd h).2)).app hw.sb).app hw.db
theorem fragP_bytes {p : Pk} (hw : Wf p) (h : Rgt p) : Bytes (fragP p) :=
  (((Bytes.nil.cons (by omega) (by omega)).cons h.r0 h.r1).app (q2_bytes (placeP_bd h).1 (placeP_bd h).2)).app (q4_bytes hw.id0 hw.id1)
theorem headB_bytes {p : Pk} (hw : Wf p) (h : Rgt p) : Bytes (headB p) := by
  unfold headB
  refine (fixP_bytes hw h).app ?_
  split
  · exact fragP_bytes hw h
  · exact Bytes.nil
theorem lay6_bytes {p : Pk} (hw : Wf p) (h : Rgt p) : Bytes (lay6 p) := (headB_bytes hw h).app hw.d
theorem fixP_len {p : Pk} (hw : Wf p) : (fixP p).length = 40 := by simp [fixP, q4, q2, hw.sl, hw.dl]
theorem fragP_len (p : Pk) : (fragP p).length = 8 := rfl
theorem headB_len {p : Pk} (hw : Wf p) : (headB p).length = hofP p := by
  unfold headB hofP
  split
  · rw [List.length_append, fixP_len hw, fragP_len]
  · rw [List.length_append, fixP_len hw]; rfl
theorem lay6_len {p : Pk} (hw : Wf p) : (lay6 p).length = hofP p + p.d.length := by
  unfold lay6; rw [List.length_append, headB_len hw]
theorem lay6_bd {p : Pk} (hw : Wf p) (h : Rgt p) : Bytes (lay6 p) ∧ (lay6 p).length ≤ 65575 ∧ 40 ≤ (lay6 p).length := by
  have := lay6_len hw
  have := h.all
  have h4 : hofP p = 48 ∨ hofP p = 40 := by unfold hofP; split; exact .inl rfl; exact .inr rfl
  exact ⟨lay6_bytes hw h, by omega, by omega⟩

/-! What bytes are. -/
def wd (b : List Int) (i : Nat) : Int := 256 * gt b i + gt b (i + 1)
def wd4 (b : List Int) (i : Nat) : Int := 16777216 * gt b i + 65536 * gt b (i + 1) + 256 * gt b (i + 2) + gt b (i + 3)
def measP (b : List Int) : Int :=
  if b.length < 40 then 20 else if gt b 0 / 16 ≠ 6 then 50 else if wd b 4 ≠ (b.length : Int) - 40 then 51 else if gt b 6 = 44 ∧ b.length < 48 then 20 else 0
def fixR (b : List Int) : Pk := ⟨6, wd4 b 0 / 1048576 % 256, wd4 b 0 % 1048576, 6, (b.drop 8).take 16, 6, (b.drop 24).take 16, gt b 6, gt b 7, 0, false, false, false, 0, [], []⟩
def readP (b : List Int) : Pk :=
  if gt b 6 = 44 then { fixR b with proto := gt b 40, id := wd4 b 44, more := decide (wd b 42 % 2 = 1), frag := true, off := wd b 42 / 8 * 8, d := b.drop 48 }
  else { fixR b with d := b.drop 40 }
def cleanP (b : List Int) : Bool := decide (gt b 6 ≠ 44) || (decide (gt b 41 = 0) && decide (wd b 42 / 2 % 4 = 0))
def parse6 (b : List Int) : Pk × Int :=
  if measP b ≠ 0 then (zeroPk, measP b) else if (cleanP b && rightP (readP b)) = true then (readP b, 0) else (zeroPk, 50)

theorem list16' {l : List Int} (h : l.length = 16) : ∃ b0 b1 b2 b3 b4 b5 b6 b7 b8 b9 b10 b11 b12 b13 b14 b15 : Int, l = [b0, b1, b2, b3, b4, b5, b6, b7, b8, b9, b10, b11, b12, b13, b14, b15] := by
  match l, h with
  | [b0, b1, b2, b3, b4, b5, b6, b7, b8, b9, b10, b11, b12, b13, b14, b15], _ => exact ⟨b0, b1, b2, b3, b4, b5, b6, b7, b8, b9, b10, b11, b12, b13, b14, b15, rfl⟩
/-- A head's eight bytes, two addresses, and the rest. -/
def bs (b0 b1 b2 b3 b4 b5 b6 b7 : Int) (s d r : List Int) : List Int := b0 :: b1 :: b2 :: b3 :: b4 :: b5 :: b6 :: b7 :: (s ++ (d ++ r))
theorem bs_of {b : List Int} (h : 40 ≤ b.length) : ∃ b0 b1 b2 b3 b4 b5 b6 b7 s d r, b = bs b0 b1 b2 b3 b4 b5 b6 b7 s d r ∧ s.length = 16 ∧ d.length = 16 := by
  match b, h with
  | b0 :: b1 :: b2 :: b3 :: b4 :: b5 :: b6 :: b7 :: t, h =>
    simp only [List.length_cons] at h
    refine ⟨b0, b1, b2, b3, b4, b5, b6, b7, t.take 16, (t.drop 16).take 16, t.drop 32, ?_, by simp; omega, by simp; omega⟩
    unfold bs
    rw [show t.drop 32 = (t.drop 16).drop 16 from by rw [List.drop_drop], List.take_append_drop, List.take_append_drop]
structure Bs (b : List Int) (b0 b1 b2 b3 b4 b5 b6 b7 : Int) (s d r : List Int) : Prop where
  g0 : gt b 0 = b0
  g1 : gt b 1 = b1
  g2 : gt b 2 = b2
  g3 : gt b 3 = b3
  g4 : gt b 4 = b4
  g5 : gt b 5 = b5
  g6 : gt b 6 = b6
  g7 : gt b 7 = b7
  es : (b.drop 8).take 16 = s
  ed : (b.drop 24).take 16 = d
  er : b.drop 40 = r
  k : ∀ k, gt b (40 + k) = gt r k
  len : b.length = 40 + r.length
theorem bs_at (b0 b1 b2 b3 b4 b5 b6 b7 : Int) (s d r : List Int) (hs : s.length = 16) (hd : d.length = 16) : Bs (bs b0 b1 b2 b3 b4 b5 b6 b7 s d r) b0 b1 b2 b3 b4 b5 b6 b7 s d r := by
  obtain ⟨c0, c1, c2, c3, c4, c5, c6, c7, c8, c9, c10, c11, c12, c13, c14, c15, rfl⟩ := list16' hs
  obtain ⟨d0, d1, d2, d3, d4, d5, d6, d7, d8, d9, d10, d11, d12, d13, d14, d15, rfl⟩ := list16' hd
  refine ⟨rfl, rfl, rfl, rfl, rfl, rfl, rfl, rfl, rfl, rfl, rfl, fun k => ?_, ?_⟩
  · unfold gt
    rw [show 40 + k = k + 40 from by omega]
    rfl
  · simp [bs]; omega
theorem lay6_bs {p : Pk} (hw : Wf p) : lay6 p = bs (word p / 16777216) (word p / 65536 % 256) (word p / 256 % 256) (word p % 256) (lenP p / 256) (lenP p % 256) (nextP p) p.ttl p.sb p.db ((if p.frag = true then fragP p else []) ++ p.d) := by
  simp [lay6, headB, fixP, q4, q2, bs]
theorem frag_at (p : Pk) (t : List Int) : gt (fragP p ++ t) 0 = p.proto ∧ gt (fragP p ++ t) 1 = 0 ∧ gt (fragP p ++ t) 2 = placeP p / 256 ∧ gt (fragP p ++ t) 3 = placeP p % 256 ∧ gt (fragP p ++ t) 4 = p.id / 16777216 ∧ gt (fragP p ++ t) 5 = p.id / 65536 % 256 ∧ gt (fragP p ++ t) 6 = p.id / 256 % 256 ∧ gt (fragP p ++ t) 7 = p.id % 256 ∧ (fragP p ++ t).drop 8 = t := ⟨rfl, rfl, rfl, rfl, rfl, rfl, rfl, rfl, rfl⟩
theorem parse_lay6 {p : Pk} (hw : Wf p) (hr : rightP p = true) : parse6 (lay6 p) = (p, 0) := by
  have h := (right_iff p).1 hr
  have hl := lay6_len hw
  have hb := bs_at (word p / 16777216) (word p / 65536 % 256) (word p / 256 % 256) (word p % 256) (lenP p / 256) (lenP p % 256) (nextP p) p.ttl p.sb p.db ((if p.frag = true then fragP p else []) ++ p.d) hw.sl hw.dl
  rw [← lay6_bs hw] at hb
  have w0 := word_bd h
  have l0 := lenP_bd h
  have e4 : wd4 (lay6 p) 0 = word p := by unfold wd4; rw [hb.g0, hb.g1, hb.g2, hb.g3]; omega
  have e2 : wd (lay6 p) 4 = lenP p := by unfold wd; rw [hb.g4, hb.g5]; omega
  have ht : word p / 1048576 % 256 = p.tos ∧ word p % 1048576 = p.flow := by
    have := h.t0; have := h.t1; have := h.f0; have := h.f1
    unfold word; omega
  have hfx : fixR (lay6 p) = ⟨6, p.tos, p.flow, 6, p.sb, 6, p.db, nextP p, p.ttl, 0, false, false, false, 0, [], []⟩ := by
    unfold fixR; rw [e4, ht.1, ht.2, hb.es, hb.ed, hb.g6, hb.g7]
  have hlp : lenP p = ((lay6 p).length : Int) - 40 := by rw [hl]; unfold lenP; omega
  have hv := h.v; have hsv := h.sv; have hdv := h.dv; have hdf := h.df; have ho := h.o
  have hm : measP (lay6 p) = 0 := by
    have hof : 40 ≤ hofP p := by unfold hofP; split <;> omega
    unfold measP
    rw [if_neg (by omega), if_neg, if_neg (by rw [e2]; omega), if_neg]
    · rw [hb.g6]; rintro ⟨e, e'⟩
      cases hf : p.frag
      · rw [show nextP p = p.proto from by unfold nextP; rw [hf]; rfl] at e; exact h.r44 e
      · rw [hl, show hofP p = 48 from by unfold hofP; rw [hf]; rfl] at e'; omega
    · rw [hb.g0]; unfold word; have := h.t0; have := h.t1; have := h.f0; have := h.f1; omega
  cases hf : p.frag
  · obtain ⟨e1, e3, e5⟩ := h.bare hf
    have hn : nextP p = p.proto := by unfold nextP; rw [hf]; rfl
    have h6 : gt (lay6 p) 6 ≠ 44 := by rw [hb.g6, hn]; exact h.r44
    have hrd : readP (lay6 p) = p := by
      unfold readP
      rw [if_neg h6, hfx, hb.er, hf, hn]
      obtain ⟨v, tos, flow, sv, sb, dv', db, proto, ttl, id, df, more, frag, off, o, d⟩ := p
      simp only at *
      subst hv hsv hdv hdf ho e1 e3 e5 hf
      rfl
    unfold parse6
    rw [if_neg (by simp [hm]), hrd, if_pos]
    simp [cleanP, h6, hr]
  · have hn : nextP p = 44 := by unfold nextP; rw [hf]; rfl
    have h6 : gt (lay6 p) 6 = 44 := by rw [hb.g6, hn]
    rw [hf] at hb
    simp only [if_true] at hb
    obtain ⟨f0, f1, f2, f3, f4, f5, f6, f7, f8⟩ := frag_at p p.d
    have k0 := hb.k 0; have k1 := hb.k 1; have k2 := hb.k 2; have k3 := hb.k 3; have k4 := hb.k 4; have k5 := hb.k 5; have k6 := hb.k 6; have k7 := hb.k 7
    rw [f0] at k0; rw [f1] at k1; rw [f2] at k2; rw [f3] at k3; rw [f4] at k4; rw [f5] at k5; rw [f6] at k6; rw [f7] at k7
    have kd : (lay6 p).drop 48 = p.d := by rw [show 48 = 40 + 8 from rfl, ← List.drop_drop, hb.er, f8]
    have pb := placeP_bd h
    have epl : wd (lay6 p) 42 = placeP p := by unfold wd; rw [k2, k3]; omega
    have i0 := hw.id0; have i1 := hw.id1
    have eid : wd4 (lay6 p) 44 = p.id := by unfold wd4; rw [k4, k5, k6, k7]; omega
    have o8 := h.o8
    have em : decide (placeP p % 2 = 1) = p.more := by
      unfold placeP
      cases p.more
      · simp; omega
      · simp; omega
    have eo : placeP p / 8 * 8 = p.off := by unfold placeP; split <;> omega
    have hrd : readP (lay6 p) = p := by
      unfold readP
      rw [if_pos h6, hfx, k0, eid, epl, em, eo, kd]
      clear hb f0 f1 f2 f3 f4 f5 f6 f7 f8 k0 k1 k2 k3 k4 k5 k6 k7 hfx hm e4 e2 h6 kd epl eid em eo hl hlp w0 l0 ht pb hn
      obtain ⟨v, tos, flow, sv, sb, dv', db, proto, ttl, id, df, more, frag, off, o, d⟩ := p
      simp only at *
      subst hv hsv hdv hdf ho hf
      rfl
    have hcl : placeP p / 2 % 4 = 0 := by unfold placeP; split <;> omega
    unfold parse6
    rw [if_neg (by simp [hm]), hrd, if_pos]
    unfold cleanP
    rw [show gt (lay6 p) 41 = 0 from k1, epl, hcl, hr]
    simp
theorem meas_ok {b : List Int} (h : measP b = 0) : 40 ≤ b.length ∧ gt b 0 / 16 = 6 ∧ wd b 4 = (b.length : Int) - 40 ∧ (gt b 6 = 44 → 48 ≤ b.length) := by
  unfold measP at h
  split at h
  · simp at h
  · split at h
    · simp at h
    · split at h
      · simp at h
      · split at h
        · simp at h
        · rename_i h1 h2 h3 h4
          refine ⟨by omega, by omega, by omega, fun e => ?_⟩
          rcases Nat.lt_or_ge b.length 48 with h | h
          · exact absurd ⟨e, h⟩ h4
          · exact h
theorem meas_cases (b : List Int) : measP b = 0 ∨ measP b = 20 ∨ measP b = 50 ∨ measP b = 51 := by
  unfold measP; repeat' split
  all_goals simp
theorem parse6_no {b : List Int} (h : (parse6 b).2 ≠ 0) : (parse6 b).1 = zeroPk := by
  unfold parse6 at *
  split
  · rfl
  · rename_i h1
    rw [if_neg h1] at h
    split
    · rename_i h2; rw [if_pos h2] at h; exact absurd rfl h
    · rfl
theorem parse6_cases (b : List Int) : (parse6 b).2 = 0 ∨ (parse6 b).2 = 20 ∨ (parse6 b).2 = 50 ∨ (parse6 b).2 = 51 := by
  unfold parse6
  split
  · exact meas_cases b
  · split
    · exact .inl rfl
    · exact .inr (.inr (.inl rfl))
theorem zero_wf : Wf zeroPk := by
  have hz : Bytes z16 := by unfold Bytes z16; decide
  exact ⟨by simp [zeroPk, i64ok], by simp [zeroPk, i64ok], by simp [zeroPk, i64ok], by simp [zeroPk, i64ok], rfl, hz, by simp [zeroPk, i64ok], rfl, hz, by simp [zeroPk, i64ok], by simp [zeroPk, i64ok], by simp [zeroPk], by simp [zeroPk], by simp [zeroPk, i64ok], Bytes.nil, by simp [zeroPk], Bytes.nil, by simp [zeroPk]⟩
theorem wd_bd {b : List Int} (h : Bytes b) (i : Nat) : 0 ≤ wd b i ∧ wd b i ≤ 65535 := by
  have := gt_bd h i; have := gt_bd h (i + 1); unfold wd; omega
theorem wd4_bd {b : List Int} (h : Bytes b) (i : Nat) : 0 ≤ wd4 b i ∧ wd4 b i ≤ 4294967295 := by
  have := gt_bd h i; have := gt_bd h (i + 1); have := gt_bd h (i + 2); have := gt_bd h (i + 3); unfold wd4; omega
theorem read_wf {b : List Int} (hb : Bytes b) (hn : b.length ≤ 140737488355328) (h : 40 ≤ b.length) : Wf (readP b) := by
  have w0 := wd4_bd hb 0; have w44 := wd4_bd hb 44; have w42 := wd_bd hb 42
  have g6 := gt_bd hb 6; have g7 := gt_bd hb 7; have g40 := gt_bd hb 40
  have s16 : ((b.drop 8).take 16).length = 16 := by simp; omega
  have d16 : ((b.drop 24).take 16).length = 16 := by simp; omega
  unfold readP
  split
  · exact ⟨by simp [fixR, i64ok], by simp [fixR, i64ok]; omega, by simp [fixR, i64ok]; omega, by simp [fixR, i64ok], s16, (hb.drop 8).take 16, by simp [fixR, i64ok], d16, (hb.drop 24).take 16, by simp [i64ok]; omega, by simp [fixR, i64ok]; omega, by simp; omega, by simp; omega, by simp [i64ok]; omega, Bytes.nil, by simp [fixR], hb.drop 48, by simp; omega⟩
  · exact ⟨by simp [fixR, i64ok], by simp [fixR, i64ok]; omega, by simp [fixR, i64ok]; omega, by simp [fixR, i64ok], s16, (hb.drop 8).take 16, by simp [fixR, i64ok], d16, (hb.drop 24).take 16, by simp [fixR, i64ok]; omega, by simp [fixR, i64ok]; omega, by simp [fixR], by simp [fixR], by simp [fixR, i64ok], Bytes.nil, by simp [fixR], hb.drop 40, by simp; omega⟩
theorem parse6_ok {b : List Int} (h : (parse6 b).2 = 0) : measP b = 0 ∧ cleanP b = true ∧ rightP (readP b) = true ∧ (parse6 b).1 = readP b := by
  unfold parse6 at *
  split at h
  · rename_i h1; exact absurd h h1
  · rename_i h1
    split at h
    · rename_i h2
      rw [if_neg h1, if_pos h2]
      simp only [Bool.and_eq_true] at h2
      exact ⟨by omega, h2.1, h2.2, rfl⟩
    · simp at h
theorem lay_parse6 {b : List Int} (hb : Bytes b) (hn : b.length ≤ 140737488355328) (h : (parse6 b).2 = 0) : Wf (parse6 b).1 ∧ rightP (parse6 b).1 = true ∧ lay6 (parse6 b).1 = b := by
  obtain ⟨hm, hc, hr, he⟩ := parse6_ok h
  rw [he]
  obtain ⟨h40, hv, hl, hf⟩ := meas_ok hm
  have hw := read_wf hb hn h40
  refine ⟨hw, hr, ?_⟩
  rw [lay6_bs hw]
  obtain ⟨b0, b1, b2, b3, b4, b5, b6, b7, s, d, r, hbs, hs, hd⟩ := bs_of h40
  have hx := bs_at b0 b1 b2 b3 b4 b5 b6 b7 s d r hs hd
  rw [← hbs] at hx
  have g0 := gt_bd hb 0; have g1 := gt_bd hb 1; have g2 := gt_bd hb 2; have g3 := gt_bd hb 3; have g4 := gt_bd hb 4; have g5 := gt_bd hb 5
  have W : word (readP b) = wd4 b 0 := by
    have e1 : (readP b).tos = wd4 b 0 / 1048576 % 256 := by unfold readP; split <;> rfl
    have e2 : (readP b).flow = wd4 b 0 % 1048576 := by unfold readP; split <;> rfl
    unfold word
    rw [e1, e2]
    have ew : wd4 b 0 = 16777216 * gt b 0 + 65536 * gt b 1 + 256 * gt b 2 + gt b 3 := rfl
    rw [ew]
    omega
  have L : lenP (readP b) = wd b 4 := by
    rw [hl]
    unfold lenP hofP readP
    by_cases e : gt b 6 = 44
    · have := hf e
      rw [if_pos e]
      simp; omega
    · rw [if_neg e]
      simp [fixR]; omega
  have N : nextP (readP b) = gt b 6 := by
    unfold nextP readP
    by_cases e : gt b 6 = 44
    · rw [if_pos e, if_pos rfl, e]
    · rw [if_neg e, if_neg (by simp [fixR])]; rfl
  have T : (readP b).ttl = gt b 7 := by unfold readP; split <;> rfl
  have S : (readP b).sb = s := by rw [show (readP b).sb = (b.drop 8).take 16 from by unfold readP; split <;> rfl]; exact hx.es
  have D : (readP b).db = d := by rw [show (readP b).db = (b.drop 24).take 16 from by unfold readP; split <;> rfl]; exact hx.ed
  rw [W, L, N, T, S, D]
  have R : ((if (readP b).frag = true then fragP (readP b) else []) ++ (readP b).d) = r := by
    by_cases e : gt b 6 = 44
    · have h48 := hf e
      have ef : (readP b).frag = true := by unfold readP; rw [if_pos e]
      rw [if_pos ef]
      have hc' : gt b 41 = 0 ∧ wd b 42 / 2 % 4 = 0 := by
        unfold cleanP at hc
        simpa [e] using hc
      have hrl : 8 ≤ r.length := by have := hx.len; omega
      match r, hrl, hx.k, hx.er with
      | r0 :: r1 :: r2 :: r3 :: r4 :: r5 :: r6 :: r7 :: t, _, hk, hdr =>
        have k0 : gt b 40 = r0 := hk 0
        have k1 : gt b 41 = r1 := hk 1
        have k2 : gt b 42 = r2 := hk 2
        have k3 : gt b 43 = r3 := hk 3
        have k4 : gt b 44 = r4 := hk 4
        have k5 : gt b 45 = r5 := hk 5
        have k6 : gt b 46 = r6 := hk 6
        have k7 : gt b 47 = r7 := hk 7
        have p1 : (readP b).proto = r0 := by unfold readP; rw [if_pos e]; exact k0
        have pid : (readP b).id = wd4 b 44 := by unfold readP; rw [if_pos e]
        have pd : (readP b).d = t := by
          unfold readP; rw [if_pos e]
          show b.drop 48 = t
          rw [show 48 = 40 + 8 from rfl, ← List.drop_drop, hdr]; rfl
        have ppl : placeP (readP b) = wd b 42 := by
          unfold placeP readP
          rw [if_pos e]
          simp only [decide_eq_true_eq]
          have := hc'.2
          split <;> omega
        have c2 := gt_bd hb 42; have c3 := gt_bd hb 43; have c4 := gt_bd hb 44; have c5 := gt_bd hb 45; have c6 := gt_bd hb 46; have c7 := gt_bd hb 47
        rw [k2] at c2; rw [k3] at c3; rw [k4] at c4; rw [k5] at c5; rw [k6] at c6; rw [k7] at c7
        have x1 : r1 = 0 := by rw [← k1]; exact hc'.1
        unfold fragP
        rw [p1, pid, pd, ppl]
        unfold wd wd4 q2 q4
        rw [k2, k3, k4, k5, k6, k7, x1]
        rw [show (256 * r2 + r3) / 256 = r2 from by omega, show (256 * r2 + r3) % 256 = r3 from by omega, show (16777216 * r4 + 65536 * r5 + 256 * r6 + r7) / 16777216 = r4 from by omega, show (16777216 * r4 + 65536 * r5 + 256 * r6 + r7) / 65536 % 256 = r5 from by omega, show (16777216 * r4 + 65536 * r5 + 256 * r6 + r7) / 256 % 256 = r6 from by omega, show (16777216 * r4 + 65536 * r5 + 256 * r6 + r7) % 256 = r7 from by omega]
        rfl
    · have ef : (readP b).frag = false := by unfold readP; rw [if_neg e]; rfl
      rw [if_neg (by simp [ef]), List.nil_append]
      unfold readP; rw [if_neg e]
      exact hx.er
  rw [R]
  unfold wd4 wd
  rw [hx.g0, hx.g1, hx.g2, hx.g3, hx.g4, hx.g5, hx.g6, hx.g7]
  rw [hx.g0] at g0; rw [hx.g1] at g1; rw [hx.g2] at g2; rw [hx.g3] at g3; rw [hx.g4] at g4; rw [hx.g5] at g5
  rw [show (16777216 * b0 + 65536 * b1 + 256 * b2 + b3) / 16777216 = b0 from by omega, show (16777216 * b0 + 65536 * b1 + 256 * b2 + b3) / 65536 % 256 = b1 from by omega, show (16777216 * b0 + 65536 * b1 + 256 * b2 + b3) / 256 % 256 = b2 from by omega, show (16777216 * b0 + 65536 * b1 + 256 * b2 + b3) % 256 = b3 from by omega, show (256 * b4 + b5) / 256 = b4 from by omega, show (256 * b4 + b5) % 256 = b5 from by omega]
  exact hbs.symm
theorem parse6_wf {b : List Int} (hb : Bytes b) (hn : b.length ≤ 140737488355328) : Wf (parse6 b).1 := by
  by_cases h : (parse6 b).2 = 0
  · exact (lay_parse6 hb hn h).1
  · rw [parse6_no h]; exact zero_wf
#print axioms lay_parse6
end Go.Proofs.YtbgpjhekohabiaaDoor.S6

namespace Go.Proofs.YtbgpjhekohabiaaDoor.S6
open Go.ChangeShapes Go.WideShapes Go.ChangeAt Go.RowKit Num
set_option linter.unusedVariables false
set_option maxHeartbeats 4000000
set_option maxRecDepth 100000
theorem wp_region_cls {C : World → Prop} {id : Nat} {Q : Exit → Act → World → Prop} {a : Act} {w : World} {l : List Oper} (hm : Tryd.prog.follows .mixedOrders = true) (hB : Region.lexB .any l.toArray = true) (hC : C w.drew)
    (h : wpQuiet Tryd.prog l.toArray C (fun a' => ∀ w', C w' → Q .normal a' w') l a) : (Code.region id l.toArray true).wp Tryd.prog Q a w :=
  wp_region_quiet (C := C) hm hB hC (by simpa using h)
theorem quiet_val {o : Oper} {a : Act} {C : World → Prop} {K : Act → Prop} (v : Value) (h : ∀ w, (execOp a.eval o).run Tryd.prog w = .ok (.value v) w) (hk : K (a.put o.dst v)) : o.quiet Tryd.prog a C K :=
  ⟨v, fun w _ => by unfold Oper.quietAt; rw [h w]; exact ⟨rfl, rfl⟩, hk⟩
theorem quiet_call {o : Oper} {a : Act} {C : World → Prop} {K : Act → Prop} (f : FuncId) (args : Array Value) (v : Value) (h : ∀ w, (execOp a.eval o).run Tryd.prog w = .ok (.enter f args) w) (hc : ∀ W, C W → Calls Tryd.prog f args W fun e w' => e = .returned v ∧ C w') (hk : K (a.put o.dst v)) : o.quiet Tryd.prog a C K :=
  ⟨v, fun w hw => by unfold Oper.quietAt; rw [h w]; exact ⟨rfl, hc w hw⟩, hk⟩
theorem ld3 {w : World} {ad : Addr} {z : Int} (h : w.cell? ad = some (.int .i64 z)) : (Instr.loadAt 3 (.pointer (some ad))).run Tryd.prog w = .ok (.int .i64 z) w := by
  simp [go_sem, Instr.loadAt, Instr.sureAddr, h]
theorem ld4 {w : World} {ad : Addr} {z : Bool} (h : w.cell? ad = some (.bool z)) : (Instr.loadAt 4 (.pointer (some ad))).run Tryd.prog w = .ok (.bool z) w := by
  simp [go_sem, Instr.loadAt, Instr.sureAddr, h]
theorem ld5 {w : World} {ad : Addr} {z : Int} (h : w.cell? ad = some (.int .u8 z)) : (Instr.loadAt 5 (.pointer (some ad))).run Tryd.prog w = .ok (.int .u8 z) w := by
  simp [go_sem, Instr.loadAt, Instr.sureAddr, h]
theorem ld25 {w : World} {ad : Addr} {z : Int} (h : w.cell? ad = some (.int .u32 z)) : (Instr.loadAt 22 (.pointer (some ad))).run Tryd.prog w = .ok (.int .u32 z) w := by
  simp [go_sem, Instr.loadAt, Instr.sureAddr, h]
theorem ld26 {w : World} {ad : Addr} {a : Option Addr} {n c : Nat} (h : w.cell? ad = some (.slice a n c)) : (Instr.loadAt 23 (.pointer (some ad))).run Tryd.prog w = .ok (.slice a n c) w := by
  simp [go_sem, Instr.loadAt, Instr.sureAddr, h]
theorem quiet_ld {o : Oper} {a : Act} {C : World → Prop} {K : Act → Prop} {t : TypeId} {v : Value} {ad : Addr} (x : Operand) (ho : o.op = .load t x) (hx : a.eval x = .pointer (some ad)) (hC : ∀ w, C w → (Instr.loadAt t (.pointer (some ad))).run Tryd.prog w = .ok v w) (hk : K (a.put o.dst v)) : o.quiet Tryd.prog a C K := by
  refine ⟨v, fun w hw => ?_, hk⟩
  unfold Oper.quietAt execOp
  simp only [ho, hx, Sem.run_bind, hC w hw, Result.andThen_ok]
  exact ⟨rfl, rfl⟩
theorem load28_run {w : World} {g : Nat} {p : Pk} {ov dv : Value} (hb : BoxP w g p ov dv) (ha : Ad p) : (Instr.loadAt 32 (.pointer (some ⟨g, 0, none⟩))).run Tryd.prog w = .ok (.agg (csP p ov dv)) w := by
  simp only [Instr.loadAt, Instr.sureAddr, Sem.run_bind, Sem.run_pure, Result.andThen]
  rw [run_loadVar_row w g 32 32 (csP p ov dv) (0, 0) _ hb Tryd.underlying32 rfl (by rw [csP_size ha]; exact info28)]
theorem load24m_run {w : World} {g k : Nat} {v : Int} {l : List Int} (hc : w.rangeAt g k (cellsA v l)) (hl : l.length = 16) : (Instr.loadAt 30 (.pointer (some ⟨g, k, none⟩))).run Tryd.prog w = .ok (.agg (csA v l)) w := by
  have h17 : (cellsA v l).length = 17 := by simp [cellsA, hl]
  have := run_loadVar_mid (P := Tryd.prog) w g k 30 (cellsA v l) _ hc Tryd.underlying30 rfl (by rw [h17]; exact info24)
  simp only [Instr.loadAt, Instr.sureAddr, Sem.run_bind, Sem.run_pure, Result.andThen]
  rw [this]; rfl
end Go.Proofs.YtbgpjhekohabiaaDoor.S6

namespace Go.Proofs.YtbgpjhekohabiaaDoor.S6
open Go.ChangeShapes Go.WideShapes Go.ChangeAt Go.RowKit Num
set_option linter.unusedVariables false
set_option maxHeartbeats 4000000
set_option maxRecDepth 100000

theorem zero24 : (Tryd.prog.info? 30).bind (·.zero) = some (.agg (csA 0 z16)) := by kernel_rfl
theorem wpList_alloc24 {ops : Array Oper} {rest : List Oper} {o : Oper} {a : Act} {w : World} {Q : Exit → Act → World → Prop} (hg : o.guard = none) (ho : o.op = .alloc 30)
    (h : ∀ g w1, w.heap.size ≤ g → BoxA w1 g 0 z16 → Away [] w w1 → wpList Tryd.prog ops Q rest (a.put o.dst (.pointer (some ⟨g, 0, none⟩))) w1) : wpList Tryd.prog ops Q (o :: rest) a w := by
  have hz : (zeroValue 30).run Tryd.prog w = .ok (.agg (csA 0 z16)) w := by
    have := zero24
    cases hi : Tryd.prog.info? 30 with
    | none => rw [hi] at this; simp at this
    | some i => rw [hi] at this; simp at this; simp [zeroValue, typeInfo, hi, this]
  refine wpList_plain hg fun K hK => ?_
  unfold Oper.wp execOp
  simp only [ho, Sem.run_bind, Instr.alloc, hz, newVar, newRow, run_newObj_alloc, Sem.run_pure, Result.andThen_ok]
  exact hK _ _ (h w.heap.size _ (Nat.le_refl _) (block_new _ _) ((Away.refl [] w).alloc _))
theorem wpList_store24b {ops : Array Oper} {rest : List Oper} {o : Oper} {a : Act} {w : World} {Q : Exit → Act → World → Prop} (hw : Region.wanted o (yielded ops a.tmps) = true) (x y : Operand) (ho : o.op = .store 30 x y)
    (g : Nat) (hx : a.eval x = .pointer (some ⟨g, 0, none⟩)) (v : Int) (l : List Int) (hy : a.eval y = .agg (csA v l)) (v' : Int) (l' : List Int) (hb : BoxA w g v' l') (hl : l.length = 16) (hl' : l'.length = 16)
    (h : ∀ w1, BoxA w1 g v l → Away [g] w w1 → wpList Tryd.prog ops Q rest (a.put o.dst undef) w1) : wpList Tryd.prog ops Q (o :: rest) a w :=
  BigFrame.wpList_want hw fun K hK => wp_store_row 30 x y ho g (csA v l) hx hy 30 (csA v' l') hb (by rw [csA_size hl]; exact info24) (by rw [csA_size hl, csA_size hl']) (csA_one v l) (hK _ _ (h _ (by
    unfold BoxA at hb ⊢; simp [World.setRow, Array.getElem?_modify, hb]) ((Away.refl [g] w).setRow (.inl (by simp)) _)))
theorem arr_slice1 (g : Nat) (w : World) : (Instr.sliceAt 28 (.pointer (some ⟨g, 1, none⟩)) none none none).run Tryd.prog w = .ok (.slice (some ⟨g, 1, none⟩) 16 16) w := by kernel_rfl
/-- What readAddress did. -/
def AdrOut (w : World) (g d : Nat) (m r : List Int) (E : Ending) (w' : World) : Prop :=
  E = .returned (.agg (csA 6 m)) ∧ Rd w' g d r 0 ∧ Away [g] w w'
theorem rd16 {l : List Int} (h : 16 ≤ l.length) : rdOut l 0 16 = l.take 16 ∧ rdRest l 0 16 = l.drop 16 ∧ rdErr l 0 16 = 0 := by
  unfold rdOut rdRest rdErr
  rw [if_pos ⟨rfl, by omega, by omega⟩, if_pos ⟨rfl, by omega, by omega⟩, if_pos rfl, if_neg (by omega), if_pos (by omega)]
  exact ⟨rfl, rfl, rfl⟩
theorem copy4 (w : World) (g : Nat) (m : List Int) (hm : m.length = 16) (ad : Addr) (cap : Nat) (hb : BoxA w g 6 z16) (hr : Row w (some ad) m) (ty : TypeId) :
    (Builtin.copy_ #[23, 23] ty #[.slice (some ⟨g, 1, none⟩) 16 16, .slice (some ad) 16 cap]).run Tryd.prog w = .ok (goInt 16) (w.setRow g (csA 6 m)) := by
  obtain ⟨b0, b1, b2, b3, b4, b5, b6, b7, b8, b9, b10, b11, b12, b13, b14, b15, rfl⟩ := list16 hm
  have := run_copy_row (P := Tryd.prog) w 23 23 ty 5 g 1 16 16 ad 16 cap (csA 6 z16) 30 ([b0, b1, b2, b3, b4, b5, b6, b7, b8, b9, b10, b11, b12, b13, b14, b15].map (Value.int .u8)) Tryd.underlying23 (by kernel_rfl) hb (by simp [Nat.min]) hr.src (by simp [csA, cellsA, z16]) (oneCell_bytes _)
  rw [this]
  rfl
theorem _root_.Go.Proofs.YtbgpjhekohabiaaDoor.Away.undrew1 {S : List Nat} {w w' : World} (h : Away S w.drew w') : Away S w w' := ⟨h.os, h.tape, h.output, h.size, h.block⟩
theorem readAddress_c (w : World) (g d : Nat) (l m r : List Int) (h : Rd w g d l 0) (h4 : 16 ≤ l.length) (hm : l.take 16 = m) (hr : l.drop 16 = r) :
    Calls Tryd.prog 105 #[.pointer (some ⟨g, 0, none⟩)] w fun E w' => AdrOut w g d m r E w' := by
  have HR := Lib.hid h
  have hlt := h.lt
  have HB := Lib.hid h.bytes
  clear h
  have hsl := arr_slice1
  have hr4 := rd16 h4
  have hm4 : m.length = 16 := by rw [← hm]; simp; omega
  have hmb : Bytes m := by rw [← hm]; exact HB.out.1.take 16
  rw [hm, hr] at hr4
  have H41 := Lib.hid hr4.1; have H42 := Lib.hid hr4.2.1; have H43 := Lib.hid hr4.2.2
  clear hr4 hm hr
  go_enter Tryd.func105, Tryd.ntmps105
  go_wp2_with (refine wpList_alloc24 rfl rfl ?_; refine Hid.out ?_)
  refine Lib.hid ?_
  intro g2 w1 hg2 hb2 haw1
  have HB2 := Lib.hid hb2; have HA1 := Lib.hid haw1
  have hl2 := hb2.lt
  clear hb2 haw1
  go_wp2_with (first | (refine wpList_alloc24 rfl rfl ?_; refine Hid.out ?_))
  refine Lib.hid ?_
  intro g3 w2 hg3 hb3 haw2
  have HB3 := Lib.hid hb3; have HA2 := Lib.hid haw2
  have hl3 := hb3.lt
  clear hb3 haw2
  go_wp2_with (first | (refine wpList_store24b rfl _ _ rfl _ rfl 6 z16 rfl 0 z16 (by exact HB3.out) rfl rfl ?_; refine Hid.out ?_))
  refine Lib.hid ?_
  intro w3 hb3 haw3
  have hs1 := HA1.out.size; have hs2 := HA2.out.size; have hs3 := haw3.size
  have HB3' := Lib.hid hb3
  have HB2' := Lib.hid ((HB2.out.keep HA2.out (by simp)).keep haw3 (by simp; omega))
  have HA3 : Hid (Away [] w w3) := (HA1.out.next HA2.out (by simp)).next haw3 (fun x hx => .inr (by simp at hx; omega))
  clear HB2 HB3 HA1 HA2 hb3 haw3
  have HR3 := Lib.hid (HR.out.away HA3.out (by simp) (by simp))
  go_wp2_with fail
  go_region_held3 (fun w' => True) (trivial)
    (first
      | (go_at_call 42
         refine (bytes_any _ g d l 0 16 (by exact HR3.out)).mono ?_
         rintro E w4 ⟨v, rfl, hown, hnew, hrd, haw, hby, hln⟩
         rw [H41.out] at hown
         rw [H42.out, H43.out] at hrd
         obtain ⟨a4, cap4, hv4, hcap4, -, hrow4, -⟩ := hown.row (by rw [hm4]; omega) hmb
         rw [hm4] at hv4
         subst hv4
         have haw4 := haw.undrew1
         have hb4 := HB3'.out.keep haw4 (by simp; omega)
         have hb2 := HB2'.out.keep haw4 (by simp; omega)
         have HN4 : Hid (a4 ≠ none) := (by
           rintro rfl
           rcases hrow4.2.2 with h0 | ⟨_, _, h0, _⟩
           · rw [h0] at hm4; simp at hm4
           · simp at h0)
         rcases a4 with _ | ad
         · exact absurd rfl HN4.out
         have hcp := copy4 w4 g3 m hm4 ad cap4 hb4 hrow4))
  have hlm : m.length = 16 := hm4
  have hb5 : BoxA (w4.setRow g3 (csA 6 m)) g3 6 m := by unfold BoxA at hb4 ⊢; simp [World.setRow, Array.getElem?_modify, hb4]
  have haw5 : Away [g3] w4 (w4.setRow g3 (csA 6 m)) := (Away.refl [g3] w4).setRow (.inl (by simp)) _
  have hlt3 := HR3.out.lt
  have hs4 := haw4.size
  have hr5 := hrd.away haw5 (by simp; omega) (by simp; omega)
  have hb25 := hb2.keep haw5 (by simp; omega)
  have HB5 := Lib.hid hb5; have HB25 := Lib.hid hb25; have HR5 := Lib.hid hr5
  have HA5 : Hid (Away [g] w (w4.setRow g3 (csA 6 m))) := (((HA3.out.mono (T := [g]) (by simp)).next haw4 (fun x hx => .inl hx)).next haw5 (fun x hx => .inr (by simp at hx; omega)))
  have hr3 := Lib.hid (rowAt_of (hb5 : (w4.setRow g3 (csA 6 m)).heap[g3]? = _) (csA_size hlm))
  clear hb5 haw5 hr5 hb25 hcp hown hrd hrow4 hb4 hb2 HB3' HB2' HR3 HA3 HN4 hnew haw haw4
  generalize w4.setRow g3 (csA 6 m) = w5 at *
  have HLM := Lib.hid hlm
  clear hlm
  go_wp2_with (first | (refine wpList_load24 rfl _ rfl _ rfl _ hr3.out ?_) | (refine wpList_store24b rfl _ _ rfl _ rfl 6 m rfl 0 z16 (by exact HB25.out) HLM.out rfl ?_; refine Hid.out ?_))
  refine Lib.hid ?_
  intro w6 hb6 haw6
  have HR6 := Lib.hid (HR5.out.away haw6 (by simp; omega) (by simp; omega))
  have HA6 : Hid (Away [g] w w6) := HA5.out.next haw6 (fun x hx => .inr (by simp at hx; omega))
  have hr6 := Lib.hid (rowAt_of (hb6 : w6.heap[g2]? = _) (csA_size HLM.out))
  clear hb6 haw6 HA5 HR5 HB25 hr3 HB5
  go_wp2_with fail
  refine bodyPost_ret (v := .agg (csA 6 m)) ?_ rfl ⟨rfl, HR6.out, HA6.out⟩
  exact result24 rfl _ _ _ _ rfl hr6.out
#print axioms readAddress_c
end Go.Proofs.YtbgpjhekohabiaaDoor.S6

namespace Go.Proofs.YtbgpjhekohabiaaDoor.S6
open Go.ChangeShapes Go.WideShapes Go.ChangeAt Go.RowKit Num
set_option linter.unusedVariables false
set_option maxHeartbeats 4000000
set_option maxRecDepth 100000

theorem rd1 (x : Int) (r : List Int) : rdOut (x :: r) 0 1 = [x] ∧ rdRest (x :: r) 0 1 = r ∧ rdErr (x :: r) 0 1 = 0 := by
  have h : (0 : Int) = 0 ∧ (0 : Int) ≤ 1 ∧ (1 : Int) ≤ ((x :: r).length : Int) := ⟨rfl, by omega, by simp; omega⟩
  unfold rdOut rdRest rdErr
  rw [if_pos h, if_pos h, if_pos rfl, if_neg (by omega), if_pos h.2.2]
  exact ⟨rfl, rfl, rfl⟩
theorem rd2 (x y : Int) (r : List Int) : rdOut (x :: y :: r) 0 2 = [x, y] ∧ rdRest (x :: y :: r) 0 2 = r ∧ rdErr (x :: y :: r) 0 2 = 0 := by
  have h : (0 : Int) = 0 ∧ (0 : Int) ≤ 2 ∧ (2 : Int) ≤ ((x :: y :: r).length : Int) := ⟨rfl, by omega, by simp; omega⟩
  unfold rdOut rdRest rdErr
  rw [if_pos h, if_pos h, if_pos rfl, if_neg (by omega), if_pos h.2.2]
  exact ⟨rfl, rfl, rfl⟩
theorem rdN (r : List Int) : rdOut r 0 r.length = r ∧ rdRest r 0 r.length = [] ∧ rdErr r 0 r.length = 0 := by
  have h : (0 : Int) = 0 ∧ (0 : Int) ≤ r.length ∧ (r.length : Int) ≤ (r.length : Int) := ⟨rfl, by omega, by omega⟩
  unfold rdOut rdRest rdErr
  rw [if_pos h, if_pos h, if_pos rfl, if_neg (by omega), if_pos h.2.2]
  simp
abbrev vnil : Value := .slice none 0 0
theorem rd4 (x y z u : Int) (r : List Int) : rdOut (x :: y :: z :: u :: r) 0 4 = [x, y, z, u] ∧ rdRest (x :: y :: z :: u :: r) 0 4 = r ∧ rdErr (x :: y :: z :: u :: r) 0 4 = 0 := by
  have h : (0 : Int) = 0 ∧ (0 : Int) ≤ 4 ∧ (4 : Int) ≤ ((x :: y :: z :: u :: r).length : Int) := ⟨rfl, by omega, by simp; omega⟩
  unfold rdOut rdRest rdErr
  rw [if_pos h, if_pos h, if_pos rfl, if_neg (by omega), if_pos h.2.2]
  exact ⟨rfl, rfl, rfl⟩
/-- A reader at work beside a packet that is being read. -/
structure RH (w0 w : World) (g2 g4 gr dr : Nat) (p : Pk) (r : List Int) : Prop where
  b2 : BoxP w g2 zeroPk (.slice none 0 0) (.slice none 0 0)
  b4 : BoxP w g4 p (.slice none 0 0) (.slice none 0 0)
  rd : Rd w gr dr r 0
  aw : Away [gr] w0 w
  ad : Ad p
  n2 : w0.heap.size ≤ g2
  n4 : w0.heap.size ≤ g4
  e1 : g2 ≠ g4
  e2 : g2 ≠ gr
  e3 : g4 ≠ gr
  e4 : g4 ≠ dr
  e5 : g2 ≠ dr
theorem RH.read {w0 w w' : World} {g2 g4 gr dr : Nat} {p : Pk} {r r' : List Int} (h : RH w0 w g2 g4 gr dr p r) (hr : Rd w' gr dr r' 0) (haw : Away [gr] w w') : RH w0 w' g2 g4 gr dr p r' :=
  ⟨h.b2.away haw (by simp; exact h.e2), h.b4.away haw (by simp; exact h.e3), hr, h.aw.trans haw, h.ad, h.n2, h.n4, h.e1, h.e2, h.e3, h.e4, h.e5⟩
theorem RH.put {w0 w : World} {g2 g4 gr dr : Nat} {p q : Pk} {r : List Int} (h : RH w0 w g2 g4 gr dr p r) (i : Nat) (x : Value) (hx : (csP p (.slice none 0 0) (.slice none 0 0)).setIfInBounds i x = csP q (.slice none 0 0) (.slice none 0 0)) (hq : Ad q) :
    RH w0 (w.setCell ⟨g4, i, none⟩ x) g2 g4 gr dr q r :=
  ⟨h.b2.away (away_put i x) (by simp; exact h.e1), h.b4.put i x hx, h.rd.away (away_put (g := g4) i x) (by simp; exact fun e => h.e3 e.symm) (by simp; exact fun e => h.e4 e.symm), h.aw.setCell (.inr h.n4) _, hq, h.n2, h.n4, h.e1, h.e2, h.e3, h.e4, h.e5⟩
theorem RH.u8 {w0 w : World} {g2 g4 gr dr : Nat} {p : Pk} {x : Int} {r : List Int} (h : RH w0 w g2 g4 gr dr p (x :: r)) :
    Calls Tryd.prog 39 #[.pointer (some ⟨gr, 0, none⟩)] w fun E w' => E = .returned (.int .u8 x) ∧ RH w0 w' g2 g4 gr dr p r := by
  have k := u8_any w gr dr (x :: r) 0 h.rd
  obtain ⟨e1, e2, e3⟩ := rd1 x r
  rw [e1, e2, e3, show num [x] = x from by simp [num]] at k
  exact k.mono fun E w' hk => ⟨hk.1, h.read hk.2.1 hk.2.2⟩
theorem RH.u16 {w0 w : World} {g2 g4 gr dr : Nat} {p : Pk} {x y : Int} {r : List Int} (h : RH w0 w g2 g4 gr dr p (x :: y :: r)) :
    Calls Tryd.prog 40 #[.pointer (some ⟨gr, 0, none⟩)] w fun E w' => E = .returned (.int .u16 (256 * x + y)) ∧ RH w0 w' g2 g4 gr dr p r := by
  have k := u16_any w gr dr (x :: y :: r) 0 h.rd
  obtain ⟨e1, e2, e3⟩ := rd2 x y r
  rw [e1, e2, e3, show num [x, y] = 256 * x + y from by simp [num]] at k
  exact k.mono fun E w' hk => ⟨hk.1, h.read hk.2.1 hk.2.2⟩
theorem num4 (x y z u : Int) : num [x, y, z, u] = 16777216 * x + 65536 * y + 256 * z + u := by simp [num]; omega
theorem RH.u32 {w0 w : World} {g2 g4 gr dr : Nat} {p : Pk} {x y z u : Int} {r : List Int} (h : RH w0 w g2 g4 gr dr p (x :: y :: z :: u :: r)) :
    Calls Tryd.prog 41 #[.pointer (some ⟨gr, 0, none⟩)] w fun E w' => E = .returned (.int .u32 (16777216 * x + 65536 * y + 256 * z + u)) ∧ RH w0 w' g2 g4 gr dr p r := by
  have k := u32_any w gr dr (x :: y :: z :: u :: r) 0 h.rd
  obtain ⟨e1, e2, e3⟩ := rd4 x y z u r
  rw [e1, e2, e3, num4] at k
  exact k.mono fun E w' hk => ⟨hk.1, h.read hk.2.1 hk.2.2⟩
theorem RH.adr {w0 w : World} {g2 g4 gr dr : Nat} {p : Pk} {s r : List Int} (h : RH w0 w g2 g4 gr dr p (s ++ r)) (hs : s.length = 16) :
    Calls Tryd.prog 105 #[.pointer (some ⟨gr, 0, none⟩)] w fun E w' => E = .returned (.agg (csA 6 s)) ∧ RH w0 w' g2 g4 gr dr p r :=
  (readAddress_c w gr dr (s ++ r) s r h.rd (by simp [hs]) (by rw [← hs]; exact List.take_left) (by rw [← hs]; exact List.drop_left)).mono fun E w' hk => ⟨hk.1, h.read hk.2.1 hk.2.2⟩
/-- A store of an address into the packet that is being read. -/
theorem wpList_store24m {ops : Array Oper} {rest : List Oper} {o : Oper} {a : Act} {w : World} {Q : Exit → Act → World → Prop} (hw : Region.wanted o (yielded ops a.tmps) = true) (x y : Operand) (ho : o.op = .store 30 x y)
    (g k : Nat) (hx : a.eval x = .pointer (some ⟨g, k, none⟩)) (v : Int) (l : List Int) (hy : a.eval y = .agg (csA v l)) (p q : Pk) (ov dv : Value) (hb : BoxP w g p ov dv) (ha : Ad p) (hl : l.length = 16) (hk : k ≤ 29)
    (hq : ((csP p ov dv).toList.take k ++ (csA v l).toList ++ (csP p ov dv).toList.drop (k + 17)).toArray = csP q ov dv)
    (h : ∀ w1, BoxP w1 g q ov dv → Away [g] w w1 → wpList Tryd.prog ops Q rest (a.put o.dst undef) w1) : wpList Tryd.prog ops Q (o :: rest) a w := by
  refine BigFrame.wpList_want hw fun K hK => ?_
  have h17 : (csA v l).toList.length = 17 := by simpa using csA_size hl
  have hst := run_storeCells_at Tryd.prog g k 32 (csA v l).toList 0 (csP p ov dv) w hb (by rw [h17, csP_size ha]; omega) (fun u hu => (Array.all_eq_true_iff_forall_mem.1 (csA_one v l)) u (by simpa using hu))
  rw [Nat.add_zero, h17, hq] at hst
  have e : (Instr.storeAt 30 (.pointer (some ⟨g, k, none⟩)) (.agg (csA v l))).run Tryd.prog w = .ok () (w.setRow g (csP q ov dv)) := by
    simp only [Instr.storeAt, Instr.sureAddr, Sem.run_bind, Sem.run_pure, Result.andThen]
    have hi := info24
    cases hq' : Tryd.prog.info? 30 with
    | none => simp [hq'] at hi
    | some i =>
      have hs : i.size = 17 := by simpa [hq'] using hi
      have hs' : (csA v l).size = i.size := by rw [csA_size hl, hs]
      simp [storeVar, sizeOf, typeInfo, hq', Value.cells, hs', hst]
  unfold Oper.wp execOp
  simp only [ho, hx, hy, Sem.run_bind, e, Result.andThen_ok, Sem.run_pure]
  exact hK _ _ (h _ (by unfold BoxP at hb ⊢; simp [World.setRow, Array.getElem?_modify, hb]) ((Away.refl [g] w).setRow (.inl (by simp)) _))
theorem csP_src {p : Pk} (h : Ad p) (ov dv : Value) (v : Int) (l : List Int) : ((csP p ov dv).toList.take 3 ++ (csA v l).toList ++ (csP p ov dv).toList.drop (3 + 17)).toArray = csP { p with sv := v, sb := l } ov dv := by
  obtain ⟨pv, tos, flow, sv, sb, dv', db, proto, ttl, id, df, more, frag, off, o, d⟩ := p
  obtain ⟨h1, h2⟩ := h
  simp only at h1 h2
  obtain ⟨b0, b1, b2, b3, b4, b5, b6, b7, b8, b9, b10, b11, b12, b13, b14, b15, rfl⟩ := list16 h1
  obtain ⟨c0, c1, c2, c3, c4, c5, c6, c7, c8, c9, c10, c11, c12, c13, c14, c15, rfl⟩ := list16 h2
  simp [csP, listP, csA, cellsA]
theorem csP_dst {p : Pk} (h : Ad p) (ov dv : Value) (v : Int) (l : List Int) : ((csP p ov dv).toList.take 20 ++ (csA v l).toList ++ (csP p ov dv).toList.drop (20 + 17)).toArray = csP { p with dv := v, db := l } ov dv := by
  obtain ⟨pv, tos, flow, sv, sb, dv', db, proto, ttl, id, df, more, frag, off, o, d⟩ := p
  obtain ⟨h1, h2⟩ := h
  simp only at h1 h2
  obtain ⟨b0, b1, b2, b3, b4, b5, b6, b7, b8, b9, b10, b11, b12, b13, b14, b15, rfl⟩ := list16 h1
  obtain ⟨c0, c1, c2, c3, c4, c5, c6, c7, c8, c9, c10, c11, c12, c13, c14, c15, rfl⟩ := list16 h2
  simp [csP, listP, csA, cellsA]
theorem RH.away {w0 w w' : World} {g2 g4 gr dr : Nat} {p q : Pk} {r : List Int} (h : RH w0 w g2 g4 gr dr p r) (hb : BoxP w' g4 q (.slice none 0 0) (.slice none 0 0)) (haw : Away [g4] w w') (hq : Ad q) : RH w0 w' g2 g4 gr dr q r :=
  ⟨h.b2.away haw (by simp; exact h.e1), hb, h.rd.away haw (by simp; exact fun e => h.e3 e.symm) (by simp; exact fun e => h.e4 e.symm), h.aw.next haw (fun x hx => .inr (by simp at hx; rw [hx]; exact h.n4)), hq, h.n2, h.n4, h.e1, h.e2, h.e3, h.e4, h.e5⟩
theorem and8 (x : Int) (h0 : 0 ≤ x) (h1 : x ≤ 4095) : bits .and .u32 x 255 = x % 256 := by
  rw [u32_and _ _ h0 (by omega) (by omega) (by omega), show (255 : Int).toNat = 2 ^ 8 - 1 from rfl, Nat.and_two_pow_sub_one_eq_mod]
  omega
theorem andlo (f : Int) (h0 : 0 ≤ f) (h1 : f ≤ 65535) : bits .and .u16 f 1 = f % 2 := by
  rw [u16_and _ _ h0 (by omega) (by omega) (by omega), show (1 : Int).toNat = 2 ^ 1 - 1 from rfl, Nat.and_two_pow_sub_one_eq_mod]
  omega
theorem nat_hi (n : Nat) (h : n < 65536) : n &&& 65528 = n / 8 * 8 := by
  have e : n / 8 * 8 = 2 ^ 3 * (n / 2 ^ 3) := by omega
  rw [e]
  apply Nat.eq_of_testBit_eq
  intro i
  rw [Nat.testBit_and, Nat.testBit_two_pow_mul, Nat.testBit_div_two_pow]
  by_cases hi : i < 16
  · have : ∀ j : Fin 16, (65528 : Nat).testBit j.val = decide (j.val ≥ 3) := by decide
    rw [this ⟨i, hi⟩]
    by_cases h3 : 3 ≤ i
    · simp only [h3, decide_true, Bool.and_true, Bool.true_and]; rw [Nat.sub_add_cancel h3]
    · simp [h3]
  · have hz : n.testBit i = false := Nat.testBit_lt_two_pow (Nat.lt_of_lt_of_le h (by have : 2 ^ 16 ≤ 2 ^ i := Nat.pow_le_pow_right (by decide) (by omega); omega))
    have h3 : 3 ≤ i := by omega
    rw [hz, Nat.sub_add_cancel h3, hz]; simp
theorem andhi (f : Int) (h0 : 0 ≤ f) (h1 : f ≤ 65535) : bits .and .u16 f 65528 = f / 8 * 8 := by
  rw [u16_and _ _ h0 (by omega) (by omega) (by omega)]
  obtain ⟨n, rfl⟩ := Int.eq_ofNat_of_zero_le h0
  rw [Int.toNat_natCast, show (65528 : Int).toNat = 65528 from rfl, nat_hi n (by omega)]
  omega
theorem nat_mid : ∀ m : Fin 8, m.val &&& 6 = m.val / 2 * 2 := by decide
theorem andmid (f : Int) (h0 : 0 ≤ f) (h1 : f ≤ 65535) : bits .and .u16 f 6 = f / 2 % 4 * 2 := by
  rw [u16_and _ _ h0 (by omega) (by omega) (by omega)]
  obtain ⟨n, rfl⟩ := Int.eq_ofNat_of_zero_le h0
  rw [Int.toNat_natCast, show (6 : Int).toNat = 6 from rfl]
  have e : n &&& 6 = (n % 8) &&& 6 := by
    have : (6 : Nat) = 7 &&& 6 := by decide
    conv => lhs; rw [this, ← Nat.and_assoc]
    rw [show n &&& 7 = n % 8 from Nat.and_two_pow_sub_one_eq_mod n 3]
  rw [e, nat_mid ⟨n % 8, by omega⟩]
  simp only
  omega
/-- What readFixed tells. -/
def FixOut (w : World) (gr dr : Nat) (p : Pk) (r : List Int) (E : Ending) (w' : World) : Prop :=
  E = .returned (.agg (csP p (.slice none 0 0) (.slice none 0 0))) ∧ Rd w' gr dr r 0 ∧ Away [gr] w w'
theorem readFixed_c (w : World) (gr dr : Nat) (b0 b1 b2 b3 b4 b5 b6 b7 : Int) (s d r : List Int) (hs : s.length = 16) (hd : d.length = 16) (hr : Rd w gr dr (bs b0 b1 b2 b3 b4 b5 b6 b7 s d r) 0) :
    Calls Tryd.prog 93 #[.pointer (some ⟨gr, 0, none⟩)] w fun E w' => FixOut w gr dr (fixR (bs b0 b1 b2 b3 b4 b5 b6 b7 s d r)) r E w' := by
  have hx := bs_at b0 b1 b2 b3 b4 b5 b6 b7 s d r hs hd
  have hby := hr.bytes.1
  have x0 := hby.head
  have x1 := hby.tail.head
  have x2 := hby.tail.tail.head
  have x3 := hby.tail.tail.tail.head
  have x6 := hby.tail.tail.tail.tail.tail.tail.head
  have x7 := hby.tail.tail.tail.tail.tail.tail.tail.head
  have hlt := hr.lt
  have HR := Lib.hid hr
  obtain ⟨F, hF⟩ : ∃ F, F = 16777216 * b0 + 65536 * b1 + 256 * b2 + b3 := ⟨_, rfl⟩
  have hfx : fixR (bs b0 b1 b2 b3 b4 b5 b6 b7 s d r) = ⟨6, F / 1048576 % 256, F % 1048576, 6, s, 6, d, b6, b7, 0, false, false, false, 0, [], []⟩ := by
    unfold fixR wd4; rw [hx.g0, hx.g1, hx.g2, hx.g3, hx.es, hx.ed, hx.g6, hx.g7, hF]
  rw [hfx]
  have f0 : 0 ≤ F := by omega
  have f1 : F ≤ 4294967295 := by omega
  have k8 := and8 (F / 1048576) (by omega) (by omega)
  have HF := Lib.hid hF
  have HS := Lib.hid hs
  have HD := Lib.hid hd
  have HAD : Hid ((z16 : List Int).length = 16 ∧ (z16 : List Int).length = 16) := ⟨rfl, rfl⟩
  clear hF hby hr hx hfx hs hd
  go_enter Tryd.func93, Tryd.ntmps93
  go_wp2_with (refine wpList_alloc28 rfl rfl ?_; refine Hid.out ?_)
  refine Lib.hid ?_
  intro g2 w1 hg2 hb2 haw1
  have HB2 := Lib.hid hb2; have HA1 := Lib.hid haw1
  have hl2 := hb2.lt
  clear hb2 haw1
  go_wp2_with (first | (refine wpList_alloc28 rfl rfl ?_; refine Hid.out ?_))
  refine Lib.hid ?_
  intro g4 w2 hg4 hb4 haw2
  have HB4 := Lib.hid hb4; have HA2 := Lib.hid haw2
  have hl4 := hb4.lt
  clear hb4 haw2
  go_wp2_with (first | (refine wpList_store28 rfl _ _ rfl _ rfl { zeroPk with v := 6 } (.slice none 0 0) (.slice none 0 0) rfl zeroPk (.slice none 0 0) (.slice none 0 0) (by exact HB4.out) ⟨rfl, rfl⟩ ⟨rfl, rfl⟩ rfl rfl ?_; refine Hid.out ?_))
  refine Lib.hid ?_
  intro w3 hb4 haw3
  have hs1 := HA1.out.size; have hs2 := HA2.out.size; have hs3 := haw3.size
  have HA3 : Hid (Away [] w w3) := (HA1.out.next HA2.out (by simp)).next haw3 (fun x hx => .inr (by simp at hx; omega))
  have HL : Hid (RH w w3 g2 g4 gr dr { zeroPk with v := 6 } (b0 :: b1 :: b2 :: b3 :: b4 :: b5 :: b6 :: b7 :: (s ++ (d ++ r)))) :=
    ⟨(HB2.out.away HA2.out (by simp)).away haw3 (by simp; omega), hb4, HR.out.away HA3.out (by simp) (by simp), HA3.out.mono (by simp), ⟨rfl, rfl⟩, hg2, by omega, by omega, by omega, by omega, by omega, by omega⟩
  clear HB2 HB4 HA1 HA2 hb4 haw3 HA3 HR hg2 hg4 hl2 hl4 hs1 hs2 hs3
  go_wp2_with fail
  refine (RH.u32 (by exact HL.out)).mono ?_
  rintro E w5 ⟨rfl, hL⟩
  have HLn := Lib.hid hL
  clear HL hL
  have HL := HLn
  clear HLn
  rw [← HF.out]
  have s1 := (HL.out.b4.cells HL.out.ad).tos
  have t1 := HL.out.b4.free 1
  have s2 := (HL.out.b4.cells HL.out.ad).flow
  have t2 := HL.out.b4.free 2
  go_wp2_with fail
  have HLn := Lib.hid ((HL.out.put 1 (.int .i64 (F / 1048576 % 256)) ((csP_set (by exact ⟨rfl, rfl⟩) _ _).2.1 (F / 1048576 % 256)) ⟨rfl, rfl⟩).put 2 (.int .i64 (F % 1048576)) ((csP_set (by exact ⟨rfl, rfl⟩) _ _).2.2.1 (F % 1048576)) ⟨rfl, rfl⟩)
  clear HL s1 t1 s2 t2
  generalize ((w5.setCell ⟨g4, 1, none⟩ (.int .i64 (F / 1048576 % 256))).setCell ⟨g4, 2, none⟩ (.int .i64 (F % 1048576))) = w6 at *
  have HL := HLn
  clear HLn
  refine (RH.u16 (by exact HL.out)).mono ?_
  rintro E w7 ⟨rfl, hL⟩
  have HLn := Lib.hid hL
  clear HL hL
  have HL := HLn
  clear HLn
  go_wp2_with fail
  refine (RH.u8 (by exact HL.out)).mono ?_
  rintro E w8 ⟨rfl, hL⟩
  have HLn := Lib.hid hL
  clear HL hL
  have HL := HLn
  clear HLn
  have s37 := (HL.out.b4.cells HL.out.ad).proto
  have t37 := HL.out.b4.free 37
  go_wp2_with fail
  have HLn := Lib.hid ((HL.out.put 37 (.int .i64 b6) ((csP_set (by exact ⟨rfl, rfl⟩) _ _).2.2.2.2.2.1 (b6)) ⟨rfl, rfl⟩))
  clear HL s37 t37
  generalize (w8.setCell ⟨g4, 37, none⟩ (.int .i64 b6)) = w9 at *
  have HL := HLn
  clear HLn
  refine (RH.u8 (by exact HL.out)).mono ?_
  rintro E w10 ⟨rfl, hL⟩
  have HLn := Lib.hid hL
  clear HL hL
  have HL := HLn
  clear HLn
  have s38 := (HL.out.b4.cells HL.out.ad).ttl
  have t38 := HL.out.b4.free 38
  go_wp2_with fail
  have HLn := Lib.hid ((HL.out.put 38 (.int .i64 b7) ((csP_set (by exact ⟨rfl, rfl⟩) _ _).2.2.2.2.2.2.1 (b7)) ⟨rfl, rfl⟩))
  clear HL s38 t38
  generalize (w10.setCell ⟨g4, 38, none⟩ (.int .i64 b7)) = w11 at *
  have HL := HLn
  clear HLn
  refine (RH.adr (by exact HL.out) HS.out).mono ?_
  rintro E w12 ⟨rfl, hL⟩
  have HLn := Lib.hid hL
  clear HL hL
  have HL := HLn
  clear HLn
  go_wp2_with (first | (refine wpList_store24m rfl _ _ rfl _ 3 rfl 6 _ rfl _ _ _ _ (by exact HL.out.b4) HL.out.ad HS.out (by omega) (csP_src HL.out.ad _ _ _ _) ?_; refine Hid.out ?_))
  refine Lib.hid ?_
  intro w13 hbq hawq
  have HLn := Lib.hid (HL.out.away hbq hawq ⟨HS.out, HL.out.ad.2⟩)
  clear HL hbq hawq
  have HL := HLn
  clear HLn
  go_wp2_with fail
  refine (RH.adr (by exact HL.out) HD.out).mono ?_
  rintro E w14 ⟨rfl, hL⟩
  have HLn := Lib.hid hL
  clear HL hL
  have HL := HLn
  clear HLn
  go_wp2_with (first | (refine wpList_store24m rfl _ _ rfl _ 20 rfl 6 _ rfl _ _ _ _ (by exact HL.out.b4) HL.out.ad HD.out (by omega) (csP_dst HL.out.ad _ _ _ _) ?_; refine Hid.out ?_))
  refine Lib.hid ?_
  intro w15 hbq hawq
  have HLn := Lib.hid (HL.out.away hbq hawq ⟨HL.out.ad.1, HD.out⟩)
  clear HL hbq hawq
  have HL := HLn
  clear HLn
  have hn2 := HL.out.n2
  go_wp2_with (first
    | (refine wpList_load28 rfl _ rfl _ rfl _ _ _ (by exact HL.out.b4) HL.out.ad ?_)
    | (refine wpList_store28 rfl _ _ rfl _ rfl _ _ _ rfl zeroPk (.slice none 0 0) (.slice none 0 0) (by exact HL.out.b2) HL.out.ad ⟨rfl, rfl⟩ rfl rfl ?_; refine Hid.out ?_))
  refine Lib.hid ?_
  intro w9 hb9 haw9
  have HB9 := Lib.hid hb9
  have HR9 := Lib.hid (HL.out.rd.away haw9 (by simp; exact fun e => HL.out.e2 e.symm) (by simp; exact fun e => HL.out.e5 e.symm))
  have HA9 : Hid (Away [gr] w w9) := HL.out.aw.next haw9 (fun x hx => .inr (by simp at hx; omega))
  have HAD9 := Lib.hid HL.out.ad
  clear hb9 haw9 HL
  go_wp2_with fail
  refine bodyPost_ret (result28 rfl _ _ _ _ _ _ rfl HB9.out HAD9.out) rfl ⟨rfl, HR9.out, HA9.out⟩
/-- What readFragment did. -/
def FragOut (w : World) (gp gr dr : Nat) (p : Pk) (ov dv : Value) (t : List Int) (c : Bool) (E : Ending) (w' : World) : Prop :=
  E = .returned (.bool c) ∧ BoxP w' gp p ov dv ∧ Rd w' gr dr t 0 ∧ Away [gp, gr] w w'
/-- A reader beside a packet that is filled. -/
structure RG (w0 w : World) (gp gr dr : Nat) (p : Pk) (ov dv : Value) (r : List Int) : Prop where
  b4 : BoxP w gp p ov dv
  rd : Rd w gr dr r 0
  aw : Away [gp, gr] w0 w
  ad : Ad p
  e3 : gp ≠ gr
  e4 : gp ≠ dr
theorem RG.read {w0 w w' : World} {gp gr dr : Nat} {p : Pk} {ov dv : Value} {r r' : List Int} (h : RG w0 w gp gr dr p ov dv r) (hr : Rd w' gr dr r' 0) (haw : Away [gr] w w') : RG w0 w' gp gr dr p ov dv r' :=
  ⟨h.b4.away haw (by simp; exact h.e3), hr, h.aw.trans (haw.mono (by simp)), h.ad, h.e3, h.e4⟩
theorem RG.put {w0 w : World} {gp gr dr : Nat} {p q : Pk} {ov dv : Value} {r : List Int} (h : RG w0 w gp gr dr p ov dv r) (i : Nat) (x : Value) (hx : (csP p ov dv).setIfInBounds i x = csP q ov dv) (hq : Ad q) :
    RG w0 (w.setCell ⟨gp, i, none⟩ x) gp gr dr q ov dv r :=
  ⟨h.b4.put i x hx, h.rd.away (away_put (g := gp) i x) (by simp; exact fun e => h.e3 e.symm) (by simp; exact fun e => h.e4 e.symm), h.aw.setCell (.inl (by simp)) _, hq, h.e3, h.e4⟩
theorem RG.u8 {w0 w : World} {gp gr dr : Nat} {p : Pk} {ov dv : Value} {x : Int} {r : List Int} (h : RG w0 w gp gr dr p ov dv (x :: r)) :
    Calls Tryd.prog 39 #[.pointer (some ⟨gr, 0, none⟩)] w fun E w' => E = .returned (.int .u8 x) ∧ RG w0 w' gp gr dr p ov dv r := by
  have k := u8_any w gr dr (x :: r) 0 h.rd
  obtain ⟨e1, e2, e3⟩ := rd1 x r
  rw [e1, e2, e3, show num [x] = x from by simp [num]] at k
  exact k.mono fun E w' hk => ⟨hk.1, h.read hk.2.1 hk.2.2⟩
theorem RG.u16 {w0 w : World} {gp gr dr : Nat} {p : Pk} {ov dv : Value} {x y : Int} {r : List Int} (h : RG w0 w gp gr dr p ov dv (x :: y :: r)) :
    Calls Tryd.prog 40 #[.pointer (some ⟨gr, 0, none⟩)] w fun E w' => E = .returned (.int .u16 (256 * x + y)) ∧ RG w0 w' gp gr dr p ov dv r := by
  have k := u16_any w gr dr (x :: y :: r) 0 h.rd
  obtain ⟨e1, e2, e3⟩ := rd2 x y r
  rw [e1, e2, e3, show num [x, y] = 256 * x + y from by simp [num]] at k
  exact k.mono fun E w' hk => ⟨hk.1, h.read hk.2.1 hk.2.2⟩
theorem RG.u32 {w0 w : World} {gp gr dr : Nat} {p : Pk} {ov dv : Value} {x y z u : Int} {r : List Int} (h : RG w0 w gp gr dr p ov dv (x :: y :: z :: u :: r)) :
    Calls Tryd.prog 41 #[.pointer (some ⟨gr, 0, none⟩)] w fun E w' => E = .returned (.int .u32 (16777216 * x + 65536 * y + 256 * z + u)) ∧ RG w0 w' gp gr dr p ov dv r := by
  have k := u32_any w gr dr (x :: y :: z :: u :: r) 0 h.rd
  obtain ⟨e1, e2, e3⟩ := rd4 x y z u r
  rw [e1, e2, e3, num4] at k
  exact k.mono fun E w' hk => ⟨hk.1, h.read hk.2.1 hk.2.2⟩
theorem readFragment_c (w : World) (g4 gr dr : Nat) (p : Pk) (ov dv : Value) (r0 r1 r2 r3 r4 r5 r6 r7 : Int) (t : List Int) (ha : Ad p) (hb : BoxP w g4 p ov dv) (hr : Rd w gr dr (r0 :: r1 :: r2 :: r3 :: r4 :: r5 :: r6 :: r7 :: t) 0) (e3 : g4 ≠ gr) (e4 : g4 ≠ dr) :
    Calls Tryd.prog 94 #[.pointer (some ⟨gr, 0, none⟩), .pointer (some ⟨g4, 0, none⟩)] w fun E w' =>
      FragOut w g4 gr dr { p with frag := true, proto := r0, off := (256 * r2 + r3) / 8 * 8, more := decide ((256 * r2 + r3) % 2 = 1), id := 16777216 * r4 + 65536 * r5 + 256 * r6 + r7 } ov dv t (decide (r1 = 0) && decide ((256 * r2 + r3) / 2 % 4 = 0)) E w' := by
  have hby := hr.bytes.1
  have x0 := hby.head
  have x1 := hby.tail.head
  have x2 := hby.tail.tail.head
  have x3 := hby.tail.tail.tail.head
  have x4 := hby.tail.tail.tail.tail.head
  have x5 := hby.tail.tail.tail.tail.tail.head
  have x6 := hby.tail.tail.tail.tail.tail.tail.head
  have x7 := hby.tail.tail.tail.tail.tail.tail.tail.head
  obtain ⟨F, hF⟩ : ∃ F, F = 256 * r2 + r3 := ⟨_, rfl⟩
  rw [← hF]
  have f0 : 0 ≤ F := by omega
  have f1 : F ≤ 65535 := by omega
  have k1 := andlo F f0 f1
  have k2 := andhi F f0 f1
  have k3 := andmid F f0 f1
  obtain ⟨N, hN⟩ : ∃ N, N = 16777216 * r4 + 65536 * r5 + 256 * r6 + r7 := ⟨_, rfl⟩
  rw [← hN]
  have n0 : 0 ≤ N := by omega
  have n1 : N ≤ 4294967295 := by omega
  have HF := Lib.hid hF; have HN := Lib.hid hN
  have HAD := Lib.hid ha
  have HL : Hid (RG w w g4 gr dr p ov dv (r0 :: r1 :: r2 :: r3 :: r4 :: r5 :: r6 :: r7 :: t)) := ⟨hb, hr, Away.refl _ _, ha, e3, e4⟩
  have em : (F % 2 != 0) = decide (F % 2 = 1) := by
    rcases (by omega : F % 2 = 0 ∨ F % 2 = 1) with h | h <;> simp [h]
  have HEM := Lib.hid em
  have ec : (F / 2 % 4 * 2 == 0) = decide (F / 2 % 4 = 0) := by
    rw [Bool.eq_iff_iff]; simp; omega
  have HEC := Lib.hid ec
  clear hF hN hby hr hb ha em ec x1 e3 e4
  go_enter Tryd.func94, Tryd.ntmps94
  have s42 := (HL.out.b4.cells HL.out.ad).frag
  have t42 := HL.out.b4.free 42
  go_wp2_with fail
  have HLn := Lib.hid ((HL.out.put 42 (.bool true) ((csP_set HL.out.ad _ _).2.2.2.2.2.2.2.2.2.2.1 (true)) HL.out.ad))
  clear HL s42 t42
  generalize (w.setCell ⟨g4, 42, none⟩ (.bool true)) = w1 at *
  have HL := HLn
  clear HLn
  refine (RG.u8 (by exact HL.out)).mono ?_
  rintro E w2 ⟨rfl, hL⟩
  have HLn := Lib.hid hL
  clear HL hL
  have HL := HLn
  clear HLn
  have s37 := (HL.out.b4.cells HL.out.ad).proto
  have t37 := HL.out.b4.free 37
  go_wp2_with fail
  have HLn := Lib.hid ((HL.out.put 37 (.int .i64 r0) ((csP_set HL.out.ad _ _).2.2.2.2.2.1 (r0)) HL.out.ad))
  clear HL s37 t37
  generalize (w2.setCell ⟨g4, 37, none⟩ (.int .i64 r0)) = w3 at *
  have HL := HLn
  clear HLn
  refine (RG.u8 (by exact HL.out)).mono ?_
  rintro E w4 ⟨rfl, hL⟩
  have HLn := Lib.hid hL
  clear HL hL
  have HL := HLn
  clear HLn
  go_wp2_with fail
  refine (RG.u16 (by exact HL.out)).mono ?_
  rintro E w5 ⟨rfl, hL⟩
  have HLn := Lib.hid hL
  clear HL hL
  have HL := HLn
  clear HLn
  rw [← HF.out]
  have s43 := (HL.out.b4.cells HL.out.ad).off
  have t43 := HL.out.b4.free 43
  have s41 := (HL.out.b4.cells HL.out.ad).more
  have t41 := HL.out.b4.free 41
  go_wp2_with fail
  have HLn := Lib.hid ((HL.out.put 43 (.int .i64 (F / 8 * 8)) ((csP_set HL.out.ad _ _).2.2.2.2.2.2.2.2.2.2.2.1 (F / 8 * 8)) HL.out.ad).put 41 (.bool (F % 2 != 0)) ((csP_set (by exact HL.out.ad) _ _).2.2.2.2.2.2.2.2.2.1 (F % 2 != 0)) HL.out.ad)
  clear HL s43 t43 s41 t41
  generalize ((w5.setCell ⟨g4, 43, none⟩ (.int .i64 (F / 8 * 8))).setCell ⟨g4, 41, none⟩ (.bool (F % 2 != 0))) = w6 at *
  have HL := HLn
  clear HLn
  refine (RG.u32 (by exact HL.out)).mono ?_
  rintro E w7 ⟨rfl, hL⟩
  have HLn := Lib.hid hL
  clear HL hL
  have HL := HLn
  clear HLn
  rw [← HN.out]
  have s39 := (HL.out.b4.cells HL.out.ad).id
  have t39 := HL.out.b4.free 39
  have HLn := Lib.hid ((HL.out.put 39 (.int .u32 N) ((csP_set HL.out.ad _ _).2.2.2.2.2.2.2.1 N) HL.out.ad))
  by_cases hz : r1 = 0
  · subst hz
    go_wp2_with fail
    go_ret
    refine ⟨by rw [← HEC.out]; simp, ?_, HLn.out.rd, HLn.out.aw⟩
    have hb := HLn.out.b4
    rw [HEM.out] at hb
    exact hb
  · have hz' : (r1 == 0) = false := by simp [hz]
    have hz2 : decide (r1 = 0) = false := by simp [hz]
    clear hz
    go_wp2_with fail
    go_ret
    refine ⟨by rw [hz2]; rfl, ?_, HLn.out.rd, HLn.out.aw⟩
    have hb := HLn.out.b4
    rw [HEM.out] at hb
    exact hb
#print axioms readFragment_c
end Go.Proofs.YtbgpjhekohabiaaDoor.S6

namespace Go.Proofs.YtbgpjhekohabiaaDoor.S6
open Go.ChangeShapes Go.WideShapes Go.ChangeAt Go.RowKit Num
set_option linter.unusedVariables false
set_option maxHeartbeats 4000000
set_option maxRecDepth 100000

theorem octet_c (n : Int) (w : World) : Calls Tryd.prog 106 #[.int .i64 n] w fun E w' => E = .returned (.bool (octP n)) ∧ w' = w := by
  unfold octP
  by_cases h0 : 0 ≤ n
  · have e0 : decide (0 ≤ n) = true := by simp [h0]
    go_enter Tryd.func106, Tryd.ntmps106
    go_wp2
    go_ret
    exact ⟨by rw [e0]; rfl, rfl⟩
  · have e0 : decide (0 ≤ n) = false := by simp [h0]
    go_enter Tryd.func106, Tryd.ntmps106
    go_wp2
    go_ret
    exact ⟨rfl, rfl⟩
theorem avalid6 (l : List Int) : avalidP 6 l = true := by unfold avalidP; rw [if_neg (by decide)]; rfl
theorem address_c (v : Int) (l : List Int) (hl : l.length = 16) (w : World) : Calls Tryd.prog 107 #[.agg (csA v l)] w fun E w' => E = .returned (.bool (decide (v = 6))) ∧ Away [] w w' := by
  obtain ⟨cs, hcs⟩ : ∃ c, c = csA v l := ⟨_, rfl⟩
  have r1 : rowAt (w.alloc (.cells cs 30)) w.heap.size = some (csA v l) := by rw [hcs]; exact rowAt_new w _ 30 (csA_size hl)
  have c1 : cs[0]? = some (.int .i64 v) := by rw [hcs]; exact csA_zero v l
  have HA : Hid (Away [] w (w.alloc (.cells cs 30))) := (Away.refl [] w).alloc _
  rw [← hcs]
  clear hcs
  have key := avalid_c v l hl
  have KEY : Hid (∀ w, Calls Tryd.prog 62 #[.agg (csA v l)] w fun e w' => e = .returned (.bool (avalidP v l)) ∧ Below w.heap.size w w') := key
  clear key
  by_cases hv : v = 6
  · subst hv
    rw [avalid6] at KEY
    go_enter Tryd.func107, Tryd.ntmps107
    go_wp2_with (refine wpList_load24 rfl _ rfl _ rfl _ (by assumption) ?_)
    refine (KEY.out _).mono ?_
    rintro E w' ⟨rfl, hb⟩
    have HB : Hid (Away [] w w') := HA.out.next (Away.of_below hb) (by simp)
    clear hb
    go_wp2_with fail
    go_ret
    exact ⟨rfl, HB.out⟩
  · have h1 : decide (v = 6) = false := by simp [hv]
    have h2 : (v == 6) = false := by simp [hv]
    rw [h1]
    go_enter Tryd.func107, Tryd.ntmps107
    go_wp2_with fail
    go_ret
    exact ⟨rfl, HA.out⟩
theorem placed_c (p : Pk) (ov dv : Value) (w : World) (hw : Wf p) (ho : Sl w ov p.o) (hd : Sl w dv p.d) :
    Calls Tryd.prog 108 #[.agg (csP p ov dv)] w fun E w' => E = .returned (.bool (placedP p.off p.more p.d.length)) ∧ Away [] w w' := by
  have ha := hw.ad
  obtain ⟨a, cap, rfl, -⟩ := hd
  have hn := hw.dn
  have hi := hw.off
  unfold i64ok at hi
  clear ho hw
  obtain ⟨z, hz⟩ : ∃ z, z = placedP p.off p.more p.d.length := ⟨_, rfl⟩
  rw [← hz]
  have HZ : Hid (z = placedP p.off p.more p.d.length) := hz
  clear hz
  go_enter Tryd.func108, Tryd.ntmps108
  go_wp2_with (refine wpList_box28 rfl _ rfl p _ _ rfl ?_; refine Hid.out ?_)
  refine Lib.hid ?_
  intro g w1 hg hb haw
  have hc := hb.cells ha
  have c1 := hc.off
  have c2 := hc.more
  have c3 := hc.d
  have HA : Hid (Away [] w w1) := haw
  clear hc hb haw hg ha
  generalize p.off = off at *
  generalize p.more = more at *
  generalize p.d.length = n at *
  have hdec : off < 0 ∨ (0 ≤ off ∧ 65528 < off) ∨ (0 ≤ off ∧ off ≤ 65528 ∧ off % 8 ≠ 0) ∨ (0 ≤ off ∧ off ≤ 65528 ∧ off % 8 = 0) := by omega
  rcases hdec with h | ⟨h1, h2⟩ | ⟨h1, h2, h3⟩ | ⟨h1, h2, h3⟩
  · obtain rfl : z = false := by rw [HZ.out]; unfold placedP; rw [show decide (0 ≤ off) = false from by simp; omega]; rfl
    go_wp2_with fail
    go_ret
    exact ⟨rfl, HA.out⟩
  · obtain rfl : z = false := by rw [HZ.out]; unfold placedP; rw [show decide (off ≤ 65528) = false from by simp; omega]; simp
    go_wp2_with fail
    go_ret
    exact ⟨rfl, HA.out⟩
  · obtain rfl : z = false := by rw [HZ.out]; unfold placedP; rw [show decide (off % 8 = 0) = false from by simp; omega]; simp
    have h4 : (off % 8 == 0) = false := by simp [h3]
    have h5 : (off % 8 != 0) = true := by simp [h3]
    clear h3
    go_wp2_with fail
    go_ret
    exact ⟨rfl, HA.out⟩
  · have h4 : (off % 8 == 0) = true := by simp [h3]
    have h5 : (off % 8 != 0) = false := by simp [h3]
    clear h3
    have HP : Hid (z = ((!more || decide (n % 8 = 0)) && (!(more || decide (0 < off)) || decide (n ≠ 0)) && decide (off + n ≤ 65535))) := by
      show _ = _
      rw [HZ.out]; unfold placedP; rw [show decide (0 ≤ off) = true from by simp; omega, show decide (off ≤ 65528) = true from by simp; omega, show decide (off % 8 = 0) = true from by simpa using h4]; simp
    clear HZ
    cases more
    · by_cases h6 : 0 < off
      · by_cases h7 : n = 0
        · subst h7
          obtain rfl : z = false := by rw [HP.out]; simp [h6]
          go_wp2_with fail
          go_ret
          exact ⟨rfl, HA.out⟩
        · have HQ : Hid (z = decide (off + n ≤ 65535)) := by show _ = _; rw [HP.out]; simp [h6, h7]
          have h8 : ((n : Int) == 0) = false := by simp; omega
          have h9 : decide ((n : Int) = 0) = false := by simp; omega
          clear HP h7
          go_wp2_with fail
          go_ret
          exact ⟨by rw [HQ.out]; rfl, HA.out⟩
      · have HQ : Hid (z = decide (off + n ≤ 65535)) := by show _ = _; rw [HP.out]; simp [h6]
        obtain rfl : off = 0 := by omega
        clear HP h6 h1 h2 h4 h5
        go_wp2_with fail
        go_ret
        exact ⟨by rw [HQ.out]; simp, HA.out⟩
    · by_cases h6 : n % 8 = 0
      · have h10 : ((n : Int) % 8 == 0) = true := by simp; omega
        have h11 : ((n : Int) % 8 != 0) = false := by simp; omega
        by_cases h7 : n = 0
        · subst h7
          obtain rfl : z = false := by rw [HP.out]; simp
          go_wp2_with fail
          go_ret
          exact ⟨rfl, HA.out⟩
        · have HQ : Hid (z = decide (off + n ≤ 65535)) := by show _ = _; rw [HP.out]; simp [h6, h7]
          have h8 : ((n : Int) == 0) = false := by simp; omega
          have h9 : decide ((n : Int) = 0) = false := by simp; omega
          clear HP h7 h6
          go_wp2_with fail
          go_ret
          exact ⟨by rw [HQ.out]; rfl, HA.out⟩
      · have h10 : ((n : Int) % 8 == 0) = false := by simp; omega
        have h11 : ((n : Int) % 8 != 0) = true := by simp; omega
        obtain rfl : z = false := by rw [HP.out]; simp [h6]
        clear h6
        go_wp2_with fail
        go_ret
        exact ⟨rfl, HA.out⟩

theorem bare_c (p : Pk) (ov dv : Value) (w : World) (ha : Ad p) :
    Calls Tryd.prog 109 #[.agg (csP p ov dv)] w fun E w' => E = .returned (.bool (bareP p)) ∧ Away [] w w' := by
  obtain ⟨z, hz⟩ : ∃ z, z = bareP p := ⟨_, rfl⟩
  rw [← hz]
  have HZ : Hid (z = bareP p) := hz
  unfold bareP at HZ
  clear hz
  go_enter Tryd.func109, Tryd.ntmps109
  go_wp2_with (refine wpList_box28 rfl _ rfl p _ _ rfl ?_; refine Hid.out ?_)
  refine Lib.hid ?_
  intro g w1 hg hb haw
  have hc := hb.cells ha
  have c1 := hc.off; have c2 := hc.more; have c3 := hc.id
  have HA : Hid (Away [] w w1) := haw
  clear hc hb haw hg ha
  generalize p.off = off at *
  generalize p.more = more at *
  generalize p.id = id at *
  by_cases h1 : id = 0
  · subst h1
    by_cases h2 : off = 0
    · subst h2
      obtain rfl : z = !more := by rw [HZ.out]; simp
      cases more
      · go_wp2_with fail
        go_ret
        exact ⟨rfl, HA.out⟩
      · go_wp2_with fail
        go_ret
        exact ⟨rfl, HA.out⟩
    · obtain rfl : z = false := by rw [HZ.out]; simp [h2]
      have h3 : (off == 0) = false := by simp [h2]
      clear h2
      go_wp2_with fail
      go_ret
      exact ⟨rfl, HA.out⟩
  · obtain rfl : z = false := by rw [HZ.out]; simp [h1]
    have h3 : (id == 0) = false := by simp [h1]
    clear h1
    go_wp2_with fail
    go_ret
    exact ⟨rfl, HA.out⟩
theorem headOf_c (p : Pk) (ov dv : Value) (w : World) (ha : Ad p) :
    Calls Tryd.prog 110 #[.agg (csP p ov dv)] w fun E w' => E = .returned (.int .i64 (hofP p)) ∧ Away [] w w' := by
  obtain ⟨z, hz⟩ : ∃ z : Int, z = hofP p := ⟨_, rfl⟩
  rw [← hz]
  have HZ : Hid (z = hofP p) := hz
  unfold hofP at HZ
  clear hz
  go_enter Tryd.func110, Tryd.ntmps110
  go_wp2_with (refine wpList_box28 rfl _ rfl p _ _ rfl ?_; refine Hid.out ?_)
  refine Lib.hid ?_
  intro g w1 hg hb haw
  have hc := hb.cells ha
  have c1 := hc.frag
  have HA : Hid (Away [] w w1) := haw
  clear hc hb haw hg ha
  generalize p.frag = fr at *
  cases fr
  · obtain rfl : z = 40 := by rw [HZ.out]; rfl
    go_wp2_with fail
    go_ret
    exact ⟨rfl, HA.out⟩
  · obtain rfl : z = 48 := by rw [HZ.out]; rfl
    go_wp2_with fail
    go_ret
    exact ⟨rfl, HA.out⟩
#print axioms headOf_c
end Go.Proofs.YtbgpjhekohabiaaDoor.S6

namespace Go.Proofs.YtbgpjhekohabiaaDoor.S6
open Go.ChangeShapes Go.WideShapes Go.ChangeAt Go.RowKit Num
set_option linter.unusedVariables false
set_option maxHeartbeats 4000000
set_option maxRecDepth 100000

/-- A packet that can be read. -/
structure Pkt (w : World) (p : Pk) (ov dv : Value) : Prop where
  wf : Wf p
  o : Sl w ov p.o
  d : Sl w dv p.d
theorem Pkt.on {w w' : World} {p : Pk} {ov dv : Value} (h : Pkt w p ov dv) (hw : Away [] w w') : Pkt w' p ov dv := ⟨h.wf, h.o.on hw, h.d.on hw⟩

theorem right_c (p : Pk) (ov dv : Value) (w : World) (hp : Pkt w p ov dv) :
    Calls Tryd.prog 95 #[.agg (csP p ov dv)] w fun E w' => E = .returned (.bool (rightP p)) ∧ Away [] w w' := by
  have ha := hp.wf.ad
  have CLS : ∀ (f : FuncId) (g : Nat) (args : Array Value) (v : Value), (∀ w', Away [] w w' → Calls Tryd.prog f args w' fun E w'' => E = .returned v ∧ Away [] w' w'') →
      ∀ W, (Away [] w W ∧ BoxP W g p ov dv) → Calls Tryd.prog f args W fun E w'' => E = .returned v ∧ (Away [] w w'' ∧ BoxP w'' g p ov dv) :=
    fun f g args v h W hW => (h W hW.1).mono fun E w'' hk => ⟨hk.1, hW.1.next hk.2 (by simp), hW.2.on hk.2⟩
  have KO : ∀ n : Int, ∀ w', Away [] w w' → Calls Tryd.prog 106 #[.int .i64 n] w' fun E w'' => E = .returned (.bool (octP n)) ∧ Away [] w' w'' := fun n w' _ => (octet_c n w').mono fun E w'' h => ⟨h.1, by rw [h.2]; exact Away.refl _ _⟩
  have K1 := fun g => Lib.hid (CLS 106 g _ _ (KO p.tos))
  have K2 := fun g => Lib.hid (CLS 106 g _ _ (KO p.ttl))
  have K3 := fun g => Lib.hid (CLS 106 g _ _ (KO p.proto))
  have K4 := fun g => Lib.hid (CLS 107 g _ _ (fun w' _ => address_c p.sv p.sb hp.wf.sl w'))
  have K5 := fun g => Lib.hid (CLS 107 g _ _ (fun w' _ => address_c p.dv p.db hp.wf.dl w'))
  have KP := fun g => Lib.hid (CLS 108 g _ _ (fun w' h => placed_c p ov dv w' hp.wf (hp.o.on h) (hp.d.on h)))
  have KB := fun g => Lib.hid (CLS 109 g _ _ (fun w' _ => bare_c p ov dv w' ha))
  have KH := fun g => Lib.hid (CLS 110 g _ _ (fun w' _ => headOf_c p ov dv w' ha))
  clear CLS KO
  obtain ⟨hw, ⟨ao, capo, hov, -⟩, ⟨ad, capd, hdv, -⟩⟩ := hp
  have HOV := Lib.hid hov; have HDV := Lib.hid hdv
  clear hov hdv
  have hn := hw.dn
  have hm := hw.ol
  have hl1 := hw.sl
  have hl2 := hw.dl
  clear hw
  obtain ⟨z, hz⟩ : ∃ z, z = rightP p := ⟨_, rfl⟩
  rw [← hz]
  have HZ : Hid (z = rightP p) := hz
  unfold rightP at HZ
  clear hz
  have HAD : Hid (Ad p) := ha
  go_enter Tryd.func95, Tryd.ntmps95
  simp only [List.append_eq, List.cons_append, List.nil_append]
  go_wp2_with (refine wpList_box28 rfl _ rfl p _ _ rfl ?_; refine Hid.out ?_)
  refine Lib.hid ?_
  intro g w1 hg hb haw
  have HC : Hid (Away [] w w1.drew ∧ BoxP w1.drew g p ov dv) := ⟨haw.drew, hb⟩
  clear hb haw hg ha
  go_wp2_with fail
  replace K1 := K1 g; replace K2 := K2 g; replace K3 := K3 g; replace K4 := K4 g; replace K5 := K5 g; replace KP := KP g; replace KB := KB g; replace KH := KH g
  refine wp_region_cls (C := fun w' => Away [] w w' ∧ BoxP w' g p ov dv) (by kernel_rfl) (by kernel_rfl) HC.out ?_
  go_big_quiet_want; (refine quiet_val ?_ ?_ ?_; rotate_left; (intro w; go_simp; rfl); go_simp; go_big_quiet_on)
  go_big_quiet_want; refine quiet_ld _ rfl (ad := ⟨g, 0, none⟩) rfl (fun w' h => ld3 (h.2.cells HAD.out).v) ?_; go_simp; go_big_quiet_on
  go_big_quiet_want; (refine quiet_val ?_ ?_ ?_; rotate_left; (intro w; go_simp; rfl); go_simp; go_big_quiet_on)
  go_big_quiet_want; (refine quiet_val ?_ ?_ ?_; rotate_left; (intro w; go_simp; rfl); go_simp; go_big_quiet_on)
  generalize hb1 : (p.v == 6) = b1
  cases b1
  · rw [show decide (p.v = 6) = false from decide_eq_false (by simpa using hb1)] at HZ
    repeat (first | go_big_quiet_skip | (go_big_quiet_want; (refine quiet_val ?_ ?_ ?_; rotate_left; (intro w; go_simp; rfl); go_simp; go_big_quiet_on)))
    refine wpQuiet_nil ?_
    intro V hV
    have HV := Lib.hid hV.1
    clear hV
    obtain rfl : z = false := by rw [HZ.out]; simp
    go_wp2_with fail
    go_ret
    exact ⟨rfl, HV.out⟩
  rw [show decide (p.v = 6) = true from decide_eq_true (by simpa using hb1)] at HZ
  go_big_quiet_want; (refine quiet_val ?_ ?_ ?_; rotate_left; (intro w; go_simp; rfl); go_simp; go_big_quiet_on)
  go_big_quiet_want; refine quiet_ld _ rfl (ad := ⟨g, 40, none⟩) rfl (fun w' h => ld4 (h.2.cells HAD.out).df) ?_; go_simp; go_big_quiet_on
  go_big_quiet_want; (refine quiet_val ?_ ?_ ?_; rotate_left; (intro w; go_simp; rfl); go_simp; go_big_quiet_on)
  go_big_quiet_want; (refine quiet_val ?_ ?_ ?_; rotate_left; (intro w; go_simp; rfl); go_simp; go_big_quiet_on)
  go_big_quiet_want; (refine quiet_val ?_ ?_ ?_; rotate_left; (intro w; go_simp; rfl); go_simp; go_big_quiet_on)
  generalize hb2 : (!p.df) = b2
  cases b2
  · rw [show p.df = true from by simpa using hb2] at HZ
    repeat (first | go_big_quiet_skip | (go_big_quiet_want; (refine quiet_val ?_ ?_ ?_; rotate_left; (intro w; go_simp; rfl); go_simp; go_big_quiet_on)))
    refine wpQuiet_nil ?_
    intro V hV
    have HV := Lib.hid hV.1
    clear hV
    obtain rfl : z = false := by rw [HZ.out]; simp
    go_wp2_with fail
    go_ret
    exact ⟨rfl, HV.out⟩
  rw [show p.df = false from by simpa using hb2] at HZ
  go_big_quiet_want; (refine quiet_val ?_ ?_ ?_; rotate_left; (intro w; go_simp; rfl); go_simp; go_big_quiet_on)
  go_big_quiet_want; refine quiet_ld _ rfl (ad := ⟨g, 44, none⟩) rfl (fun w' h => ld26 (by have := (h.2.cells HAD.out).o; rw [HOV.out] at this; exact this)) ?_; go_simp; go_big_quiet_on
  go_big_quiet_want; (refine quiet_val ?_ ?_ ?_; rotate_left; (intro w; go_simp; rfl); go_simp; go_big_quiet_on)
  go_big_quiet_want; (refine quiet_val ?_ ?_ ?_; rotate_left; (intro w; go_simp; rfl); go_simp; go_big_quiet_on)
  go_big_quiet_want; (refine quiet_val ?_ ?_ ?_; rotate_left; (intro w; go_simp; rfl); go_simp; go_big_quiet_on)
  go_big_quiet_want; (refine quiet_val ?_ ?_ ?_; rotate_left; (intro w; go_simp; rfl); go_simp; go_big_quiet_on)
  generalize hb3 : ((p.o.length : Int) == 0) = b3
  cases b3
  · rw [show decide (p.o.length = 0) = false from decide_eq_false (by have := beq_eq_false_iff_ne.1 hb3; omega)] at HZ
    repeat (first | go_big_quiet_skip | (go_big_quiet_want; (refine quiet_val ?_ ?_ ?_; rotate_left; (intro w; go_simp; rfl); go_simp; go_big_quiet_on)))
    refine wpQuiet_nil ?_
    intro V hV
    have HV := Lib.hid hV.1
    clear hV
    obtain rfl : z = false := by rw [HZ.out]; simp
    go_wp2_with fail
    go_ret
    exact ⟨rfl, HV.out⟩
  rw [show decide (p.o.length = 0) = true from decide_eq_true (by have := beq_iff_eq.1 hb3; omega)] at HZ
  go_big_quiet_want; (refine quiet_val ?_ ?_ ?_; rotate_left; (intro w; go_simp; rfl); go_simp; go_big_quiet_on)
  go_big_quiet_want; refine quiet_ld _ rfl (ad := ⟨g, 2, none⟩) rfl (fun w' h => ld3 (h.2.cells HAD.out).flow) ?_; go_simp; go_big_quiet_on
  go_big_quiet_want; (refine quiet_val ?_ ?_ ?_; rotate_left; (intro w; go_simp; rfl); go_simp; go_big_quiet_on)
  go_big_quiet_want; (refine quiet_val ?_ ?_ ?_; rotate_left; (intro w; go_simp; rfl); go_simp; go_big_quiet_on)
  go_big_quiet_want; (refine quiet_val ?_ ?_ ?_; rotate_left; (intro w; go_simp; rfl); go_simp; go_big_quiet_on)
  generalize hb4 : (decide (0 ≤ p.flow)) = b4 at HZ ⊢
  cases b4
  · skip
    repeat (first | go_big_quiet_skip | (go_big_quiet_want; (refine quiet_val ?_ ?_ ?_; rotate_left; (intro w; go_simp; rfl); go_simp; go_big_quiet_on)))
    refine wpQuiet_nil ?_
    intro V hV
    have HV := Lib.hid hV.1
    clear hV
    obtain rfl : z = false := by rw [HZ.out]; simp
    go_wp2_with fail
    go_ret
    exact ⟨rfl, HV.out⟩
  go_big_quiet_want; (refine quiet_val ?_ ?_ ?_; rotate_left; (intro w; go_simp; rfl); go_simp; go_big_quiet_on)
  go_big_quiet_want; refine quiet_ld _ rfl (ad := ⟨g, 2, none⟩) rfl (fun w' h => ld3 (h.2.cells HAD.out).flow) ?_; go_simp; go_big_quiet_on
  go_big_quiet_want; (refine quiet_val ?_ ?_ ?_; rotate_left; (intro w; go_simp; rfl); go_simp; go_big_quiet_on)
  go_big_quiet_want; (refine quiet_val ?_ ?_ ?_; rotate_left; (intro w; go_simp; rfl); go_simp; go_big_quiet_on)
  go_big_quiet_want; (refine quiet_val ?_ ?_ ?_; rotate_left; (intro w; go_simp; rfl); go_simp; go_big_quiet_on)
  generalize hb5 : (decide (p.flow < 1048576)) = b5 at HZ ⊢
  cases b5
  · skip
    repeat (first | go_big_quiet_skip | (go_big_quiet_want; (refine quiet_val ?_ ?_ ?_; rotate_left; (intro w; go_simp; rfl); go_simp; go_big_quiet_on)))
    refine wpQuiet_nil ?_
    intro V hV
    have HV := Lib.hid hV.1
    clear hV
    obtain rfl : z = false := by rw [HZ.out]; simp
    go_wp2_with fail
    go_ret
    exact ⟨rfl, HV.out⟩
  go_big_quiet_want; (refine quiet_val ?_ ?_ ?_; rotate_left; (intro w; go_simp; rfl); go_simp; go_big_quiet_on)
  go_big_quiet_want; refine quiet_ld _ rfl (ad := ⟨g, 1, none⟩) rfl (fun w' h => ld3 (h.2.cells HAD.out).tos) ?_; go_simp; go_big_quiet_on
  go_big_quiet_want; refine quiet_call 106 #[.int .i64 p.tos] (.bool (octP p.tos)) ?_ K1.out ?_
  · intro w; go_simp; done
  go_simp; go_big_quiet_on
  go_big_quiet_want; (refine quiet_val ?_ ?_ ?_; rotate_left; (intro w; go_simp; rfl); go_simp; go_big_quiet_on)
  go_big_quiet_want; (refine quiet_val ?_ ?_ ?_; rotate_left; (intro w; go_simp; rfl); go_simp; go_big_quiet_on)
  generalize hb6 : (octP p.tos) = b6 at HZ ⊢
  cases b6
  · skip
    repeat (first | go_big_quiet_skip | (go_big_quiet_want; (refine quiet_val ?_ ?_ ?_; rotate_left; (intro w; go_simp; rfl); go_simp; go_big_quiet_on)))
    refine wpQuiet_nil ?_
    intro V hV
    have HV := Lib.hid hV.1
    clear hV
    obtain rfl : z = false := by rw [HZ.out]; simp
    go_wp2_with fail
    go_ret
    exact ⟨rfl, HV.out⟩
  go_big_quiet_want; (refine quiet_val ?_ ?_ ?_; rotate_left; (intro w; go_simp; rfl); go_simp; go_big_quiet_on)
  go_big_quiet_want; refine quiet_ld _ rfl (ad := ⟨g, 38, none⟩) rfl (fun w' h => ld3 (h.2.cells HAD.out).ttl) ?_; go_simp; go_big_quiet_on
  go_big_quiet_want; refine quiet_call 106 #[.int .i64 p.ttl] (.bool (octP p.ttl)) ?_ K2.out ?_
  · intro w; go_simp; done
  go_simp; go_big_quiet_on
  go_big_quiet_want; (refine quiet_val ?_ ?_ ?_; rotate_left; (intro w; go_simp; rfl); go_simp; go_big_quiet_on)
  go_big_quiet_want; (refine quiet_val ?_ ?_ ?_; rotate_left; (intro w; go_simp; rfl); go_simp; go_big_quiet_on)
  generalize hb7 : (octP p.ttl) = b7 at HZ ⊢
  cases b7
  · skip
    repeat (first | go_big_quiet_skip | (go_big_quiet_want; (refine quiet_val ?_ ?_ ?_; rotate_left; (intro w; go_simp; rfl); go_simp; go_big_quiet_on)))
    refine wpQuiet_nil ?_
    intro V hV
    have HV := Lib.hid hV.1
    clear hV
    obtain rfl : z = false := by rw [HZ.out]; simp
    go_wp2_with fail
    go_ret
    exact ⟨rfl, HV.out⟩
  go_big_quiet_want; (refine quiet_val ?_ ?_ ?_; rotate_left; (intro w; go_simp; rfl); go_simp; go_big_quiet_on)
  go_big_quiet_want; refine quiet_ld _ rfl (ad := ⟨g, 37, none⟩) rfl (fun w' h => ld3 (h.2.cells HAD.out).proto) ?_; go_simp; go_big_quiet_on
  go_big_quiet_want; refine quiet_call 106 #[.int .i64 p.proto] (.bool (octP p.proto)) ?_ K3.out ?_
  · intro w; go_simp; done
  go_simp; go_big_quiet_on
  go_big_quiet_want; (refine quiet_val ?_ ?_ ?_; rotate_left; (intro w; go_simp; rfl); go_simp; go_big_quiet_on)
  go_big_quiet_want; (refine quiet_val ?_ ?_ ?_; rotate_left; (intro w; go_simp; rfl); go_simp; go_big_quiet_on)
  generalize hb8 : (octP p.proto) = b8 at HZ ⊢
  cases b8
  · skip
    repeat (first | go_big_quiet_skip | (go_big_quiet_want; (refine quiet_val ?_ ?_ ?_; rotate_left; (intro w; go_simp; rfl); go_simp; go_big_quiet_on)))
    refine wpQuiet_nil ?_
    intro V hV
    have HV := Lib.hid hV.1
    clear hV
    obtain rfl : z = false := by rw [HZ.out]; simp
    go_wp2_with fail
    go_ret
    exact ⟨rfl, HV.out⟩
  go_big_quiet_want; (refine quiet_val ?_ ?_ ?_; rotate_left; (intro w; go_simp; rfl); go_simp; go_big_quiet_on)
  go_big_quiet_want; refine quiet_ld _ rfl (ad := ⟨g, 37, none⟩) rfl (fun w' h => ld3 (h.2.cells HAD.out).proto) ?_; go_simp; go_big_quiet_on
  go_big_quiet_want; (refine quiet_val ?_ ?_ ?_; rotate_left; (intro w; go_simp; rfl); go_simp; go_big_quiet_on)
  go_big_quiet_want; (refine quiet_val ?_ ?_ ?_; rotate_left; (intro w; go_simp; rfl); go_simp; go_big_quiet_on)
  go_big_quiet_want; (refine quiet_val ?_ ?_ ?_; rotate_left; (intro w; go_simp; rfl); go_simp; go_big_quiet_on)
  generalize hb9 : (p.proto != 44) = b9
  cases b9
  · rw [show decide (p.proto ≠ 44) = false from decide_eq_false (by simpa using hb9)] at HZ
    repeat (first | go_big_quiet_skip | (go_big_quiet_want; (refine quiet_val ?_ ?_ ?_; rotate_left; (intro w; go_simp; rfl); go_simp; go_big_quiet_on)))
    refine wpQuiet_nil ?_
    intro V hV
    have HV := Lib.hid hV.1
    clear hV
    obtain rfl : z = false := by rw [HZ.out]; simp
    go_wp2_with fail
    go_ret
    exact ⟨rfl, HV.out⟩
  rw [show decide (p.proto ≠ 44) = true from decide_eq_true (by simpa using hb9)] at HZ
  go_big_quiet_want; (refine quiet_val ?_ ?_ ?_; rotate_left; (intro w; go_simp; rfl); go_simp; go_big_quiet_on)
  go_big_quiet_want; refine quiet_ld _ rfl (ad := ⟨g, 3, none⟩) rfl (fun w' h => load24m_run h.2.srow hl1) ?_; go_simp; go_big_quiet_on
  go_big_quiet_want; refine quiet_call 107 #[.agg (csA p.sv p.sb)] (.bool (decide (p.sv = 6))) ?_ K4.out ?_
  · intro w; go_simp; done
  go_simp; go_big_quiet_on
  go_big_quiet_want; (refine quiet_val ?_ ?_ ?_; rotate_left; (intro w; go_simp; rfl); go_simp; go_big_quiet_on)
  go_big_quiet_want; (refine quiet_val ?_ ?_ ?_; rotate_left; (intro w; go_simp; rfl); go_simp; go_big_quiet_on)
  generalize hb10 : (decide (p.sv = 6)) = b10 at HZ ⊢
  cases b10
  · skip
    repeat (first | go_big_quiet_skip | (go_big_quiet_want; (refine quiet_val ?_ ?_ ?_; rotate_left; (intro w; go_simp; rfl); go_simp; go_big_quiet_on)))
    refine wpQuiet_nil ?_
    intro V hV
    have HV := Lib.hid hV.1
    clear hV
    obtain rfl : z = false := by rw [HZ.out]; simp
    go_wp2_with fail
    go_ret
    exact ⟨rfl, HV.out⟩
  go_big_quiet_want; (refine quiet_val ?_ ?_ ?_; rotate_left; (intro w; go_simp; rfl); go_simp; go_big_quiet_on)
  go_big_quiet_want; refine quiet_ld _ rfl (ad := ⟨g, 20, none⟩) rfl (fun w' h => load24m_run (h.2.drow HAD.out) hl2) ?_; go_simp; go_big_quiet_on
  go_big_quiet_want; refine quiet_call 107 #[.agg (csA p.dv p.db)] (.bool (decide (p.dv = 6))) ?_ K5.out ?_
  · intro w; go_simp; done
  go_simp; go_big_quiet_on
  go_big_quiet_want; (refine quiet_val ?_ ?_ ?_; rotate_left; (intro w; go_simp; rfl); go_simp; go_big_quiet_on)
  go_big_quiet_want; (refine quiet_val ?_ ?_ ?_; rotate_left; (intro w; go_simp; rfl); go_simp; go_big_quiet_on)
  generalize hb11 : (decide (p.dv = 6)) = b11 at HZ ⊢
  cases b11
  · skip
    repeat (first | go_big_quiet_skip | (go_big_quiet_want; (refine quiet_val ?_ ?_ ?_; rotate_left; (intro w; go_simp; rfl); go_simp; go_big_quiet_on)))
    refine wpQuiet_nil ?_
    intro V hV
    have HV := Lib.hid hV.1
    clear hV
    obtain rfl : z = false := by rw [HZ.out]; simp
    go_wp2_with fail
    go_ret
    exact ⟨rfl, HV.out⟩
  go_big_quiet_want; refine quiet_ld _ rfl (ad := ⟨g, 0, none⟩) rfl (fun w' h => load28_run h.2 HAD.out) ?_; go_simp; go_big_quiet_on
  go_big_quiet_want; refine quiet_call 108 #[.agg (csP p ov dv)] (.bool (placedP p.off p.more p.d.length)) ?_ KP.out ?_
  · intro w; go_simp; done
  go_simp; go_big_quiet_on
  go_big_quiet_want; (refine quiet_val ?_ ?_ ?_; rotate_left; (intro w; go_simp; rfl); go_simp; go_big_quiet_on)
  go_big_quiet_want; (refine quiet_val ?_ ?_ ?_; rotate_left; (intro w; go_simp; rfl); go_simp; go_big_quiet_on)
  generalize hb12 : (placedP p.off p.more p.d.length) = b12 at HZ ⊢
  cases b12
  · skip
    repeat (first | go_big_quiet_skip | (go_big_quiet_want; (refine quiet_val ?_ ?_ ?_; rotate_left; (intro w; go_simp; rfl); go_simp; go_big_quiet_on)))
    refine wpQuiet_nil ?_
    intro V hV
    have HV := Lib.hid hV.1
    clear hV
    obtain rfl : z = false := by rw [HZ.out]; simp
    go_wp2_with fail
    go_ret
    exact ⟨rfl, HV.out⟩
  go_big_quiet_want; (refine quiet_val ?_ ?_ ?_; rotate_left; (intro w; go_simp; rfl); go_simp; go_big_quiet_on)
  go_big_quiet_want; refine quiet_ld _ rfl (ad := ⟨g, 42, none⟩) rfl (fun w' h => ld4 (h.2.cells HAD.out).frag) ?_; go_simp; go_big_quiet_on
  go_big_quiet_want; (refine quiet_val ?_ ?_ ?_; rotate_left; (intro w; go_simp; rfl); go_simp; go_big_quiet_on)
  generalize hfr : p.frag = fr at HZ ⊢
  cases fr
  · skip
    go_big_quiet_want; refine quiet_ld _ rfl (ad := ⟨g, 0, none⟩) rfl (fun w' h => load28_run h.2 HAD.out) ?_; go_simp; go_big_quiet_on
    go_big_quiet_want; refine quiet_call 109 #[.agg (csP p ov dv)] (.bool (bareP p)) ?_ KB.out ?_
    · intro w; go_simp; done
    go_simp; go_big_quiet_on
    go_big_quiet_want; (refine quiet_val ?_ ?_ ?_; rotate_left; (intro w; go_simp; rfl); go_simp; go_big_quiet_on)
    go_big_quiet_want; (refine quiet_val ?_ ?_ ?_; rotate_left; (intro w; go_simp; rfl); go_simp; go_big_quiet_on)
    go_big_quiet_want; (refine quiet_val ?_ ?_ ?_; rotate_left; (intro w; go_simp; rfl); go_simp; go_big_quiet_on)
    generalize bareP p = b13 at HZ ⊢
    cases b13
    · repeat (first | go_big_quiet_skip | (go_big_quiet_want; (refine quiet_val ?_ ?_ ?_; rotate_left; (intro w; go_simp; rfl); go_simp; go_big_quiet_on)))
      refine wpQuiet_nil ?_
      intro V hV
      have HV := Lib.hid hV.1
      clear hV
      obtain rfl : z = false := by rw [HZ.out]; simp
      go_wp2_with fail
      go_ret
      exact ⟨rfl, HV.out⟩
    have HQ : Hid (z = decide (hofP p - 40 + p.d.length ≤ 65535)) := by show _ = _; rw [HZ.out]; simp
    clear HZ
    have hhh : hofP p = 40 ∨ hofP p = 48 := by unfold hofP; split <;> simp
    generalize hofP p = hh at *
    go_big_quiet_want; refine quiet_ld _ rfl (ad := ⟨g, 0, none⟩) rfl (fun w' h => load28_run h.2 HAD.out) ?_; go_simp; go_big_quiet_on
    go_big_quiet_want; refine quiet_call 110 #[.agg (csP p ov dv)] (.int .i64 hh) ?_ KH.out ?_
    · intro w; go_simp; done
    go_simp; go_big_quiet_on
    go_big_quiet_want; (refine quiet_val ?_ ?_ ?_; rotate_left; (intro w; go_simp; rfl); go_simp; go_big_quiet_on)
    go_big_quiet_want; (refine quiet_val ?_ ?_ ?_; rotate_left; (intro w; go_simp; rfl); go_simp; go_big_quiet_on)
    go_big_quiet_want; refine quiet_ld _ rfl (ad := ⟨g, 45, none⟩) rfl (fun w' h => ld26 (by have := (h.2.cells HAD.out).d; rw [HDV.out] at this; exact this)) ?_; go_simp; go_big_quiet_on
    go_big_quiet_want; (refine quiet_val ?_ ?_ ?_; rotate_left; (intro w; go_simp; rfl); go_simp; go_big_quiet_on)
    go_big_quiet_want; (refine quiet_val ?_ ?_ ?_; rotate_left; (intro w; go_simp; rfl); go_simp; go_big_quiet_on)
    go_big_quiet_want; (refine quiet_val ?_ ?_ ?_; rotate_left; (intro w; go_simp; rfl); go_simp; go_big_quiet_on)
    go_big_quiet_want; (refine quiet_val ?_ ?_ ?_; rotate_left; (intro w; go_simp; rfl); go_simp; go_big_quiet_on)
    go_big_quiet_want; (refine quiet_val ?_ ?_ ?_; rotate_left; (intro w; go_simp; rfl); go_simp; go_big_quiet_on)
    refine wpQuiet_nil ?_
    intro V hV
    have HV := Lib.hid hV.1
    clear hV
    go_wp2_with fail
    go_ret
    refine ⟨?_, HV.out⟩
    rw [HQ.out]
    have ew : IntKind.i64.wrap (IntKind.i64.wrap ((hh : Int) - 40) + p.d.length) = (hh : Int) - 40 + p.d.length := by simp only [IntKind.wrap_i64]; omega
    show Ending.returned (.bool (decide (IntKind.i64.wrap (IntKind.i64.wrap ((hh : Int) - 40) + p.d.length) ≤ 65535))) = _
    rw [ew]
    exact ret_bool (by rw [decide_eq_decide]; omega)
  · skip
    go_big_quiet_skip
    go_big_quiet_skip
    go_big_quiet_want; (refine quiet_val ?_ ?_ ?_; rotate_left; (intro w; go_simp; rfl); go_simp; go_big_quiet_on)
    go_big_quiet_want; (refine quiet_val ?_ ?_ ?_; rotate_left; (intro w; go_simp; rfl); go_simp; go_big_quiet_on)
    go_big_quiet_want; (refine quiet_val ?_ ?_ ?_; rotate_left; (intro w; go_simp; rfl); go_simp; go_big_quiet_on)
    have HQ : Hid (z = decide (hofP p - 40 + p.d.length ≤ 65535)) := by show _ = _; rw [HZ.out]; simp
    clear HZ
    have hhh : hofP p = 40 ∨ hofP p = 48 := by unfold hofP; split <;> simp
    generalize hofP p = hh at *
    go_big_quiet_want; refine quiet_ld _ rfl (ad := ⟨g, 0, none⟩) rfl (fun w' h => load28_run h.2 HAD.out) ?_; go_simp; go_big_quiet_on
    go_big_quiet_want; refine quiet_call 110 #[.agg (csP p ov dv)] (.int .i64 hh) ?_ KH.out ?_
    · intro w; go_simp; done
    go_simp; go_big_quiet_on
    go_big_quiet_want; (refine quiet_val ?_ ?_ ?_; rotate_left; (intro w; go_simp; rfl); go_simp; go_big_quiet_on)
    go_big_quiet_want; (refine quiet_val ?_ ?_ ?_; rotate_left; (intro w; go_simp; rfl); go_simp; go_big_quiet_on)
    go_big_quiet_want; refine quiet_ld _ rfl (ad := ⟨g, 45, none⟩) rfl (fun w' h => ld26 (by have := (h.2.cells HAD.out).d; rw [HDV.out] at this; exact this)) ?_; go_simp; go_big_quiet_on
    go_big_quiet_want; (refine quiet_val ?_ ?_ ?_; rotate_left; (intro w; go_simp; rfl); go_simp; go_big_quiet_on)
    go_big_quiet_want; (refine quiet_val ?_ ?_ ?_; rotate_left; (intro w; go_simp; rfl); go_simp; go_big_quiet_on)
    go_big_quiet_want; (refine quiet_val ?_ ?_ ?_; rotate_left; (intro w; go_simp; rfl); go_simp; go_big_quiet_on)
    go_big_quiet_want; (refine quiet_val ?_ ?_ ?_; rotate_left; (intro w; go_simp; rfl); go_simp; go_big_quiet_on)
    go_big_quiet_want; (refine quiet_val ?_ ?_ ?_; rotate_left; (intro w; go_simp; rfl); go_simp; go_big_quiet_on)
    refine wpQuiet_nil ?_
    intro V hV
    have HV := Lib.hid hV.1
    clear hV
    go_wp2_with fail
    go_ret
    refine ⟨?_, HV.out⟩
    rw [HQ.out]
    have ew : IntKind.i64.wrap (IntKind.i64.wrap ((hh : Int) - 40) + p.d.length) = (hh : Int) - 40 + p.d.length := by simp only [IntKind.wrap_i64]; omega
    show Ending.returned (.bool (decide (IntKind.i64.wrap (IntKind.i64.wrap ((hh : Int) - 40) + p.d.length) ≤ 65535))) = _
    rw [ew]
    exact ret_bool (by rw [decide_eq_decide]; omega)
end Go.Proofs.YtbgpjhekohabiaaDoor.S6

namespace Go.Proofs.YtbgpjhekohabiaaDoor.S6
open Go.ChangeShapes Go.WideShapes Go.ChangeAt Go.RowKit Num
set_option linter.unusedVariables false
set_option maxHeartbeats 4000000
set_option maxRecDepth 100000

theorem measure_c (a : Option Addr) (b : List Int) (n cap : Nat) (w : World) (hn : b.length = n) (hcap : n ≤ cap) (ha : a = none → cap = 0) (hr : Row w a b) :
    Calls Tryd.prog 92 #[.slice a n cap] w fun E w' => E = .returned (.int .i64 (measP b)) ∧ Away [] w w' := by
  subst hn
  have hlen := hr.1
  obtain ⟨z, hz⟩ : ∃ z, z = measP b := ⟨_, rfl⟩
  rw [← hz]
  have HZ : Hid (z = if b.length < 40 then 20 else if gt b 0 / 16 ≠ 6 then 50 else if wd b 4 ≠ (b.length : Int) - 40 then 51 else if gt b 6 = 44 ∧ b.length < 48 then 20 else 0) := hz
  clear hz
  by_cases h40 : b.length < 40
  · obtain rfl : z = 20 := by rw [HZ.out, if_pos h40]
    clear hr ha
    go_enter Tryd.func92, Tryd.ntmps92
    go_wp2_with fail
    go_ret
    exact ⟨rfl, Away.refl _ _⟩
  · rcases hr.2.2 with h0 | ⟨blk, off, rfl, hcell⟩
    · rw [h0] at h40; simp at h40
    have c0 : w.cell? ⟨blk, off, none⟩ = some (.int .u8 (gt b 0)) := hcell 0 (by omega)
    have c6 : w.cell? ⟨blk, off + 6, none⟩ = some (.int .u8 (gt b 6)) := hcell 6 (by omega)
    have g0 := gt_bd hr.2.1 0; have g6 := gt_bd hr.2.1 6; have g4 := gt_bd hr.2.1 4; have g5 := gt_bd hr.2.1 5
    obtain ⟨A, hA⟩ : ∃ A, A = if cap = 4 then some ⟨blk, off, none⟩ else (some (⟨blk, off, none⟩ : Addr)).map (·.add 4) := ⟨_, rfl⟩
    have hsl := slice_lh (some ⟨blk, off, none⟩) A b.length cap 4 2 4 6 hA rfl rfl (by omega)
    have hrow : Row w A ((b.drop 4).take 2) := by have := hr.sub 4 2 cap hcap (by omega); rw [← hA] at this; exact this
    have hAn : A ≠ none := by rw [hA]; split <;> simp
    have HW2 : Hid ((b.drop 4).take 2 = [gt b 4, gt b 5]) := by
      show _ = _
      match b, h40 with
      | b0 :: b1 :: b2 :: b3 :: b4 :: b5 :: r, _ => rfl
      | [], h => simp at h
      | [_], h => simp at h
      | [_, _], h => simp at h
      | [_, _, _], h => simp at h
      | [_, _, _, _], h => simp at h
      | [_, _, _, _, _], h => simp at h
    have HROW := Lib.hid hrow
    have HWD : Hid (wd b 4 = 256 * gt b 4 + gt b 5) := rfl
    have hsh : bits .shr .u8 (gt b 0) 4 = gt b 0 / 16 ∨ True := .inr trivial
    clear hA hcell hr hrow hsh ha
    by_cases hv : gt b 0 / 16 = 6
    · have hv1 : (gt b 0 / 16 == 6) = true := by simp [hv]
      have hv2 : (gt b 0 / 16 != 6) = false := by simp [hv]
      have KEY : Hid (∀ w', Away [] w w' → Calls Tryd.prog 38 #[.slice A 2 (cap - 4)] w' fun E w'' => Opened w' [gt b 4, gt b 5] E w'') := fun w' h => newReader_any A [gt b 4, gt b 5] 2 (cap - 4) w' rfl (fun e => absurd e hAn) (by rw [← HW2.out]; exact HROW.out.away h (by simp))
      have HZ2 : Hid (z = if wd b 4 ≠ (b.length : Int) - 40 then 51 else if gt b 6 = 44 ∧ b.length < 48 then 20 else 0) := by
        show _ = _
        rw [HZ.out, if_neg h40, if_neg (by simp [hv])]
      clear HZ hv HROW HW2 hAn
      go_enter Tryd.func92, Tryd.ntmps92
      go_wp2_with fail
      refine (KEY.out _ (Away.refl _ _)).mono ?_
      rintro E w2 ⟨gr, dr, rfl, hrd, hgr, hdr, haw⟩
      have HR2 := Lib.hid hrd
      have HA2 := Lib.hid haw
      have c6 := haw.cell (by simp) c6
      clear hrd haw KEY
      go_wp2_with fail
      refine (u16_any _ gr dr [gt b 4, gt b 5] 0 (by exact HR2.out)).mono ?_
      obtain ⟨e1, e2, e3⟩ := rd2 (gt b 4) (gt b 5) []
      rw [e1, e2, e3, show num [gt b 4, gt b 5] = wd b 4 from by rw [HWD.out]; simp [num]]
      clear e1 e2 e3
      rintro E w3 ⟨rfl, hrd, haw⟩
      have HA3 : Hid (Away [] w w3) := HA2.out.next haw (fun x hx => .inr (by simp at hx; omega))
      have hne : blk ≠ gr := by have : blk < w.heap.size := block_lt_of_cell c0; omega
      have c6 := haw.cell (by simp; exact hne) c6
      have wb : 0 ≤ wd b 4 ∧ wd b 4 ≤ 65535 := by rw [HWD.out]; omega
      clear hrd haw HA2 HR2
      by_cases hl : wd b 4 = (b.length : Int) - 40
      · have hl1 : (wd b 4 == (b.length : Int) - 40) = true := by simp [hl]
        have hl2 : (wd b 4 != (b.length : Int) - 40) = false := by simp [hl]
        have HZ3 : Hid (z = if gt b 6 = 44 ∧ b.length < 48 then 20 else 0) := by
          show _ = _
          rw [HZ2.out, if_neg (by simp [hl])]
        clear HZ2 hl HWD
        by_cases h6 : gt b 6 = 44
        · by_cases h8 : b.length < 48
          · obtain rfl : z = 20 := by rw [HZ3.out, if_pos ⟨h6, h8⟩]
            have h61 : (gt b 6 == 44) = true := by simp [h6]
            clear h6
            go_wp2_with fail
            go_ret
            exact ⟨rfl, HA3.out⟩
          · obtain rfl : z = 0 := by rw [HZ3.out, if_neg (fun h => h8 h.2)]
            have h61 : (gt b 6 == 44) = true := by simp [h6]
            clear h6
            go_wp2_with fail
            go_ret
            exact ⟨rfl, HA3.out⟩
        · obtain rfl : z = 0 := by rw [HZ3.out, if_neg (fun h => h6 h.1)]
          have h61 : (gt b 6 == 44) = false := by simp [h6]
          clear h6
          go_wp2_with fail
          go_ret
          exact ⟨rfl, HA3.out⟩
      · have hl1 : (wd b 4 == (b.length : Int) - 40) = false := by simp [hl]
        have hl2 : (wd b 4 != (b.length : Int) - 40) = true := by simp [hl]
        obtain rfl : z = 51 := by rw [HZ2.out, if_pos hl]
        clear HZ2 hl HWD
        go_wp2_with fail
        go_ret
        exact ⟨rfl, HA3.out⟩
    · have hv1 : (gt b 0 / 16 == 6) = false := by simp [hv]
      have hv2 : (gt b 0 / 16 != 6) = true := by simp [hv]
      obtain rfl : z = 50 := by rw [HZ.out, if_neg h40, if_pos hv]
      clear HZ hv HROW HW2 HWD
      go_enter Tryd.func92, Tryd.ntmps92
      go_wp2_with fail
      go_ret
      exact ⟨rfl, Away.refl _ _⟩
#print axioms measure_c
end Go.Proofs.YtbgpjhekohabiaaDoor.S6

namespace Go.Proofs.YtbgpjhekohabiaaDoor.S6
open Go.ChangeShapes Go.WideShapes Go.ChangeAt Go.RowKit Num
set_option linter.unusedVariables false
set_option maxHeartbeats 4000000
set_option maxRecDepth 100000

/-- What Parse tells. -/
def ParseOut (w : World) (b : List Int) (E : Ending) (w' : World) : Prop :=
  ∃ ov dv, E = .returned (.tuple #[.agg (csP (parse6 b).1 ov dv), .int .i64 (parse6 b).2]) ∧ Owns w' ov (parse6 b).1.o ∧ Owns w' dv (parse6 b).1.d ∧ New w.heap.size ov ∧ New w.heap.size dv ∧ (∀ k, ov.ownBlock = some k → dv.ownBlock ≠ some k) ∧ Away [] w w'
/-- The state behind the heads. -/
structure PS (w wq : World) (g2 g6 gr dr : Nat) (q : Pk) (r : List Int) : Prop where
  b2 : BoxP wq g2 zeroPk (.slice none 0 0) (.slice none 0 0)
  b6 : BoxP wq g6 q (.slice none 0 0) (.slice none 0 0)
  rd : Rd wq gr dr r 0
  aw : Away [] w wq
  n2 : w.heap.size ≤ g2
  n6 : w.heap.size ≤ g6
  nr : w.heap.size ≤ gr
  e1 : g2 ≠ g6
  e2 : g2 ≠ gr
  e3 : g6 ≠ gr
  e4 : g2 ≠ dr
  e5 : g6 ≠ dr
theorem parse_at {b : List Int} (hm : measP b = 0) : parse6 b = if (cleanP b && rightP (readP b)) = true then (readP b, 0) else (zeroPk, 50) := by
  unfold parse6; rw [if_neg (by simp [hm])]
theorem parse_c (a : Option Addr) (b : List Int) (n cap : Nat) (w : World) (hn : b.length = n) (hcap : n ≤ cap) (ha : a = none → cap = 0) (hr : Row w a b) :
    Calls Tryd.prog 76 #[.slice a n cap] w fun E w' => ParseOut w b E w' := by
  subst hn
  have hlen := hr.1
  have HR := Lib.hid hr
  have HBY := Lib.hid hr.2.1
  clear hr
  go_enter Tryd.func76, Tryd.ntmps76
  go_wp2_with (refine wpList_alloc28 rfl rfl ?_; refine Hid.out ?_)
  refine Lib.hid ?_
  intro g2 w1 hg2 hb2 haw1
  have HB2 := Lib.hid hb2; have HA1 := Lib.hid haw1
  have hl2 := hb2.lt
  clear hb2 haw1
  go_wp2_with fail
  refine (measure_c a b _ cap _ rfl hcap ha (by exact HR.out.away HA1.out (by simp))).mono ?_
  rintro E w2 ⟨rfl, haw2⟩
  have HA2 := Lib.hid (HA1.out.next haw2 (by simp))
  have HB22 := Lib.hid (HB2.out.on haw2)
  have hs2 := haw2.size
  clear HA1 HB2 haw2
  have ZER : Hid (∀ (e : Int) w', Away [] w w' → parse6 b = (zeroPk, e) → ParseOut w b (.returned (.tuple #[.agg (csP zeroPk (.slice none 0 0) (.slice none 0 0)), .int .i64 e])) w') := fun e w' h e' => ⟨.slice none 0 0, .slice none 0 0, by rw [e'], by rw [e']; exact Owns.nil _, by rw [e']; exact Owns.nil _, New.nil _, New.nil _, by simp [Value.ownBlock], h⟩
  by_cases he : measP b = 0
  rotate_left
  · have HE : Hid (parse6 b = (zeroPk, measP b)) := by show _ = _; unfold parse6; rw [if_pos he]
    have h1 : (measP b == 0) = false := by simp [he]
    have h2 : (measP b != 0) = true := by simp [he]
    clear he
    generalize measP b = z at *
    go_wp2_with (first | (refine wpList_store28 rfl _ _ rfl _ rfl zeroPk (.slice none 0 0) (.slice none 0 0) rfl zeroPk (.slice none 0 0) (.slice none 0 0) (by exact HB22.out) ⟨rfl, rfl⟩ ⟨rfl, rfl⟩ rfl rfl ?_; refine Hid.out ?_))
    refine Lib.hid ?_
    intro w9 hb9 haw9
    have HB9 := Lib.hid hb9
    have HA9 : Hid (Away [] w w9) := HA2.out.next haw9 (fun x hx => .inr (by simp at hx; omega))
    clear hb9 haw9
    go_wp2_with fail
    refine bodyPost_ret (result28t rfl _ _ _ _ _ _ (.int .i64 z) rfl rfl HB9.out ⟨rfl, rfl⟩) rfl (ZER.out _ _ HA9.out HE.out)
  · have HPA := Lib.hid (parse_at he)
    obtain ⟨h40, -, -, hf48⟩ := meas_ok he
    have HWF := Lib.hid (read_wf HBY.out hlen h40)
    obtain ⟨b0, b1, b2, b3, b4, b5, b6, b7, s, d, r, hbs, hs, hd⟩ := bs_of h40
    have hx := bs_at b0 b1 b2 b3 b4 b5 b6 b7 s d r hs hd
    rw [← hbs] at hx
    have HX := Lib.hid hx
    have HBS := Lib.hid hbs
    have HS := Lib.hid hs; have HD := Lib.hid hd
    have HF48 := Lib.hid hf48
    rw [he]
    clear hx hbs hs hd hf48 he
    go_wp2_with fail
    refine (newReader_any a b _ cap _ rfl ha (by exact HR.out.away HA2.out (by simp))).mono ?_
    rintro E w3 ⟨gr, dr, rfl, hrd, hgr, hdr, haw3⟩
    have HR3 := Lib.hid hrd
    have HA3 := Lib.hid (HA2.out.next haw3 (by simp))
    have HB3 := Lib.hid (HB22.out.on haw3)
    have hs3 := haw3.size
    have hrl3 := hrd.lt
    clear HA2 HB22 hrd haw3
    go_wp2_with fail
    refine (readFixed_c w3 gr dr b0 b1 b2 b3 b4 b5 b6 b7 s d r HS.out HD.out (by rw [← HBS.out]; exact HR3.out)).mono ?_
    rw [← HBS.out]
    rintro E w4 ⟨rfl, hrd, haw4⟩
    have hs4 := haw4.size
    have HR4 := Lib.hid hrd
    have HA4 : Hid (Away [] w w4) := HA3.out.next haw4 (fun x hx => .inr (by simp at hx; omega))
    have HB4 := Lib.hid (HB3.out.away haw4 (by simp; omega))
    have HFA : Hid (Ad (fixR b)) := ⟨by show ((b.drop 8).take 16).length = 16; simp; omega, by show ((b.drop 24).take 16).length = 16; simp; omega⟩
    clear HA3 HB3 HR3 hrd haw4
    go_wp2_with (first | (refine wpList_alloc28 rfl rfl ?_; refine Hid.out ?_))
    refine Lib.hid ?_
    intro g6 w5 hg6 hb6 haw5
    have HB6 := Lib.hid hb6
    have hl6 := hb6.lt
    have HB5 := Lib.hid (HB4.out.on haw5)
    have HA5 := Lib.hid (HA4.out.next haw5 (by simp))
    have HR5 := Lib.hid (HR4.out.away haw5 (by simp) (by simp))
    have hs5 := haw5.size
    clear hb6 haw5 HB4 HA4 HR4
    go_wp2_with (first | (refine wpList_store28 rfl _ _ rfl _ rfl (fixR b) (.slice none 0 0) (.slice none 0 0) rfl zeroPk (.slice none 0 0) (.slice none 0 0) (by exact HB6.out) HFA.out ⟨rfl, rfl⟩ rfl rfl ?_; refine Hid.out ?_))
    refine Lib.hid ?_
    intro w6 hb6 haw6
    have hs6 := haw6.size
    have HL : Hid (PS w w6 g2 g6 gr dr (fixR b) r) := ⟨HB5.out.away haw6 (by simp; omega), hb6, HR5.out.away haw6 (by simp; omega) (by simp; omega), HA5.out.next haw6 (fun x hx => .inr (by simp at hx; omega)), hg2, by omega, by omega, by omega, by omega, by omega, by omega, by omega⟩
    clear hb6 haw6 HB6 HB5 HA5 HR5 hg2 hg6 hl2 hl6 hs2 hs3 hs4 hs5 hs6 hgr hdr hrl3
    have c6 : w6.cell? ⟨g6, 37, none⟩ = some (.int .i64 (gt b 6)) := (HL.out.b6.cells HFA.out).proto
    by_cases h6 : gt b 6 = 44
    · have h61 : (gt b 6 == 44) = true := by simp [h6]
      have h48 := HF48.out h6
      have hrl : 8 ≤ r.length := by have := HX.out.len; omega
      obtain ⟨r0, r1, r2, r3, r4, r5, r6, r7, t, rfl⟩ : ∃ r0 r1 r2 r3 r4 r5 r6 r7 t, r = r0 :: r1 :: r2 :: r3 :: r4 :: r5 :: r6 :: r7 :: t := by
        match r, hrl with
        | r0 :: r1 :: r2 :: r3 :: r4 :: r5 :: r6 :: r7 :: t, _ => exact ⟨r0, r1, r2, r3, r4, r5, r6, r7, t, rfl⟩
      have k0 : gt b 40 = r0 := HX.out.k 0
      have k1 : gt b 41 = r1 := HX.out.k 1
      have k2 : gt b 42 = r2 := HX.out.k 2
      have k3 : gt b 43 = r3 := HX.out.k 3
      have k4 : gt b 44 = r4 := HX.out.k 4
      have k5 : gt b 45 = r5 := HX.out.k 5
      have k6 : gt b 46 = r6 := HX.out.k 6
      have k7 : gt b 47 = r7 := HX.out.k 7
      have kd : b.drop 48 = t := by rw [show 48 = 40 + 8 from rfl, ← List.drop_drop, HX.out.er]; rfl
      obtain ⟨P, hP⟩ : ∃ P, P = readP b := ⟨_, rfl⟩
      rw [← hP] at HWF HPA
      obtain ⟨q, hq⟩ : ∃ q : Pk, q = { fixR b with frag := true, proto := r0, off := (256 * r2 + r3) / 8 * 8, more := decide ((256 * r2 + r3) % 2 = 1), id := 16777216 * r4 + 65536 * r5 + 256 * r6 + r7 } := ⟨_, rfl⟩
      have hP2 : P = { q with d := t } := by
        rw [hP, hq]; unfold readP; rw [if_pos h6]; unfold wd wd4; rw [k0, k2, k3, k4, k5, k6, k7, kd]
      have HQP : Hid (({ q with d := t } : Pk) = P) := hP2.symm
      have HPD : Hid (P.d = t) := by rw [hP2]; rfl
      have HPO : Hid (P.o = []) := by rw [hP2, hq]; rfl
      have HCL : Hid (cleanP b = (decide (r1 = 0) && decide ((256 * r2 + r3) / 2 % 4 = 0))) := by
        show _ = _
        unfold cleanP wd; rw [k1, k2, k3]; simp [h6]
      have HQA : Hid (Ad q) := by rw [hq]; exact HFA.out
      have HQ := Lib.hid hq
      clear hq hP hP2 k0 k1 k2 k3 k4 k5 k6 k7 kd hrl h48 h6
      go_wp2_with fail
      refine (readFragment_c w6 g6 gr dr (fixR b) (.slice none 0 0) (.slice none 0 0) r0 r1 r2 r3 r4 r5 r6 r7 t HFA.out HL.out.b6 HL.out.rd HL.out.e3 HL.out.e5).mono ?_
      rw [← HQ.out]
      rintro E wq ⟨rfl, hbq, hrdq, hawq⟩
      have HLq : Hid (PS w wq g2 g6 gr dr q t) := ⟨HL.out.b2.away hawq (by simp; exact ⟨HL.out.e1, HL.out.e2⟩), hbq, hrdq, HL.out.aw.next hawq (fun x hx => .inr (by simp at hx; rcases hx with h | h <;> rw [h] <;> first | exact HL.out.n6 | exact HL.out.nr)), HL.out.n2, HL.out.n6, HL.out.nr, HL.out.e1, HL.out.e2, HL.out.e3, HL.out.e4, HL.out.e5⟩
      clear HL hbq hrdq hawq c6 HX HBS HS HD HFA
      have HL := HLq
      clear HLq
      go_wp2_with fail
      refine (left_any wq gr dr t 0 (by exact HL.out.rd)).mono ?_
      rintro E wl ⟨rfl, rfl⟩
      obtain ⟨z1, z2, z3⟩ := rdN t
      go_wp2_with fail
      refine (bytes_any _ gr dr t 0 t.length (by exact HL.out.rd)).mono ?_
      rw [z1, z2, z3]
      clear z1 z2 z3
      rintro E wb ⟨dv, rfl, hown, hnew, hrd, hawb, hby, hln⟩
      have hsb := hawb.size
      have hsq := HL.out.aw.size
      have hl2 := HL.out.b2.lt
      have hl6 := HL.out.b6.lt
      have HLb : Hid (PS w wb g2 g6 gr dr q []) := ⟨HL.out.b2.away hawb (by simp; exact HL.out.e2), HL.out.b6.away hawb (by simp; exact HL.out.e3), hrd, HL.out.aw.next hawb (fun x hx => .inr (by simp at hx; rw [hx]; exact HL.out.nr)), HL.out.n2, HL.out.n6, HL.out.nr, HL.out.e1, HL.out.e2, HL.out.e3, HL.out.e4, HL.out.e5⟩
      have HDV : Hid (∀ k, dv.ownBlock = some k → k ≠ g6 ∧ k ≠ g2) := fun k hk => by have := hnew k hk; omega
      have hnw : New w.heap.size dv := hnew.mono hsq
      have HSD0 := Lib.hid (hown.sl hby hln)
      have HO := Lib.hid hown
      obtain ⟨ad, capd, hdv, -⟩ := hown.row hln hby
      subst hdv
      clear hown hrd hawb HL
      have s45 := (HLb.out.b6.cells HQA.out).d
      have t45 := HLb.out.b6.free 45
      have hA7 := away_put (w := wb) (g := g6) 45 (.slice ad t.length capd)
      have hB7 := HLb.out.b6.put 45 (.slice ad t.length capd) ((csP_set HQA.out _ _).2.2.2.2.2.2.2.2.2.2.2.2.2 t (.slice ad t.length capd))
      rw [HQP.out] at hB7
      have HB7 := Lib.hid hB7
      have HB27 := Lib.hid (HLb.out.b2.away hA7 (by simp; exact HLb.out.e1))
      have HA7 := Lib.hid (HLb.out.aw.next hA7 (fun x hx => .inr (by simp at hx; rw [hx]; exact HLb.out.n6)))
      have HO7 := Lib.hid (HO.out.away hA7 (fun k hk => by simpa using (HDV.out k hk).1))
      have HSD7 := Lib.hid (HO7.out.sl hby hln)
      have hn2 := HLb.out.n2
      clear hA7 hB7 HO HSD0 HLb hnew
      go_upto_region 9 with fail
      clear s45 t45
      generalize wb.setCell ⟨g6, 45, none⟩ (.slice ad t.length capd) = w7 at *
      have HPK : Hid (Pkt w7 P (.slice none 0 0) (.slice ad t.length capd)) := ⟨HWF.out, by rw [HPO.out]; exact Sl.nil _, by rw [HPD.out]; exact HSD7.out⟩
      generalize hcl : (decide (r1 = 0) && decide ((256 * r2 + r3) / 2 % 4 = 0)) = cl at HCL ⊢
      clear hcl
      cases cl
      · go_wp2_with (first | (refine wpList_store28 rfl _ _ rfl _ rfl zeroPk (.slice none 0 0) (.slice none 0 0) rfl zeroPk (.slice none 0 0) (.slice none 0 0) (by exact HB27.out) ⟨rfl, rfl⟩ ⟨rfl, rfl⟩ rfl rfl ?_; refine Hid.out ?_))
        refine Lib.hid ?_
        intro w9 hb9 haw9
        have HB9 := Lib.hid hb9
        have HA9 : Hid (Away [] w w9) := HA7.out.next haw9 (fun x hx => .inr (by simp at hx; omega))
        clear hb9 haw9
        go_wp2_with fail
        refine bodyPost_ret (result28t rfl _ _ _ _ _ _ (.int .i64 50) rfl rfl HB9.out ⟨rfl, rfl⟩) rfl (ZER.out _ _ HA9.out (by rw [HPA.out, HCL.out]; simp))
      go_wp2_with (first | (refine wpList_load28 rfl _ rfl _ rfl P _ _ (by exact HB7.out) HWF.out.ad ?_))
      refine (right_c P (.slice none 0 0) (.slice ad t.length capd) w7 HPK.out).mono ?_
      rintro E w8 ⟨rfl, haw8⟩
      have HB8 := Lib.hid (HB7.out.on haw8)
      have HB28 := Lib.hid (HB27.out.on haw8)
      have HA8 := Lib.hid (HA7.out.next haw8 (by simp))
      have HO8 := Lib.hid (HO7.out.away haw8 (by simp))
      have hs8 := haw8.size
      clear HB7 HB27 HA7 HO7 HSD7 HPK haw8
      generalize hrg : rightP P = rg
      have HRG := Lib.hid hrg
      clear hrg
      cases rg
      · go_wp2_with (first | (refine wpList_store28 rfl _ _ rfl _ rfl zeroPk (.slice none 0 0) (.slice none 0 0) rfl zeroPk (.slice none 0 0) (.slice none 0 0) (by exact HB28.out) ⟨rfl, rfl⟩ ⟨rfl, rfl⟩ rfl rfl ?_; refine Hid.out ?_))
        refine Lib.hid ?_
        intro w9 hb9 haw9
        have HB9 := Lib.hid hb9
        have HA9 : Hid (Away [] w w9) := HA8.out.next haw9 (fun x hx => .inr (by simp at hx; omega))
        clear hb9 haw9
        go_wp2_with fail
        refine bodyPost_ret (result28t rfl _ _ _ _ _ _ (.int .i64 50) rfl rfl HB9.out ⟨rfl, rfl⟩) rfl (ZER.out _ _ HA9.out (by rw [HPA.out, HRG.out]; simp))
      · go_wp2_with (first
          | (refine wpList_load28 rfl _ rfl _ rfl P _ _ (by exact HB8.out) HWF.out.ad ?_)
          | (refine wpList_store28 rfl _ _ rfl _ rfl P (.slice none 0 0) (.slice ad t.length capd) rfl zeroPk (.slice none 0 0) (.slice none 0 0) (by exact HB28.out) HWF.out.ad ⟨rfl, rfl⟩ rfl rfl ?_; refine Hid.out ?_))
        refine Lib.hid ?_
        intro wx hbx hawx
        have HBx := Lib.hid hbx
        have HAx : Hid (Away [] w wx) := HA8.out.next hawx (fun x hx => .inr (by simp at hx; omega))
        have HDx := Lib.hid (HO8.out.away hawx (fun k hk => by simpa using (HDV.out k hk).2))
        have HPO2 : Hid (parse6 b = (P, 0)) := by show _ = _; rw [HPA.out, HRG.out, HCL.out]; simp
        clear hbx hawx
        go_wp2_with fail
        refine bodyPost_ret (result28t rfl _ _ _ _ _ _ (.int .i64 0) rfl rfl HBx.out HWF.out.ad) rfl ⟨_, _, by rw [HPO2.out], by rw [HPO2.out]; show Owns _ _ P.o; rw [HPO.out]; exact Owns.nil _, by rw [HPO2.out]; show Owns _ _ P.d; rw [HPD.out]; exact HDx.out, New.nil _, hnw, by simp [Value.ownBlock], HAx.out⟩
    · have h61 : (gt b 6 == 44) = false := by simp [h6]
      obtain ⟨P, hP⟩ : ∃ P, P = readP b := ⟨_, rfl⟩
      rw [← hP] at HWF HPA
      have hP2 : P = { fixR b with d := r } := by
        rw [hP]; unfold readP; rw [if_neg h6, HX.out.er]
      have HQP : Hid (({ fixR b with d := r } : Pk) = P) := hP2.symm
      have HPD : Hid (P.d = r) := by show P.d = r; rw [hP2]
      have HPO : Hid (P.o = []) := by rw [hP2]; rfl
      have HCL : Hid (cleanP b = true) := by
        show _ = _
        unfold cleanP; simp [h6]
      have HQA := HFA
      clear hP hP2 h6 HX HBS HS HD
      go_wp2_with fail
      refine (left_any w6 gr dr r 0 (by exact HL.out.rd)).mono ?_
      rintro E wl ⟨rfl, rfl⟩
      obtain ⟨z1, z2, z3⟩ := rdN r
      go_wp2_with fail
      refine (bytes_any _ gr dr r 0 r.length (by exact HL.out.rd)).mono ?_
      rw [z1, z2, z3]
      clear z1 z2 z3
      rintro E wb ⟨dv, rfl, hown, hnew, hrd, hawb, hby, hln⟩
      have hsb := hawb.size
      have hsq := HL.out.aw.size
      have hl2 := HL.out.b2.lt
      have hl6 := HL.out.b6.lt
      have HLb : Hid (PS w wb g2 g6 gr dr (fixR b) []) := ⟨HL.out.b2.away hawb (by simp; exact HL.out.e2), HL.out.b6.away hawb (by simp; exact HL.out.e3), hrd, HL.out.aw.next hawb (fun x hx => .inr (by simp at hx; rw [hx]; exact HL.out.nr)), HL.out.n2, HL.out.n6, HL.out.nr, HL.out.e1, HL.out.e2, HL.out.e3, HL.out.e4, HL.out.e5⟩
      have HDV : Hid (∀ k, dv.ownBlock = some k → k ≠ g6 ∧ k ≠ g2) := fun k hk => by have := hnew k hk; omega
      have hnw : New w.heap.size dv := hnew.mono hsq
      have HSD0 := Lib.hid (hown.sl hby hln)
      have HO := Lib.hid hown
      obtain ⟨ad, capd, hdv, -⟩ := hown.row hln hby
      subst hdv
      clear hown hrd hawb HL
      have s45 := (HLb.out.b6.cells HQA.out).d
      have t45 := HLb.out.b6.free 45
      have hA7 := away_put (w := wb) (g := g6) 45 (.slice ad r.length capd)
      have hB7 := HLb.out.b6.put 45 (.slice ad r.length capd) ((csP_set HQA.out _ _).2.2.2.2.2.2.2.2.2.2.2.2.2 r (.slice ad r.length capd))
      rw [HQP.out] at hB7
      have HB7 := Lib.hid hB7
      have HB27 := Lib.hid (HLb.out.b2.away hA7 (by simp; exact HLb.out.e1))
      have HA7 := Lib.hid (HLb.out.aw.next hA7 (fun x hx => .inr (by simp at hx; rw [hx]; exact HLb.out.n6)))
      have HO7 := Lib.hid (HO.out.away hA7 (fun k hk => by simpa using (HDV.out k hk).1))
      have HSD7 := Lib.hid (HO7.out.sl hby hln)
      have hn2 := HLb.out.n2
      clear hA7 hB7 HO HSD0 HLb hnew
      go_upto_region 9 with fail
      clear s45 t45
      generalize wb.setCell ⟨g6, 45, none⟩ (.slice ad r.length capd) = w7 at *
      have HPK : Hid (Pkt w7 P (.slice none 0 0) (.slice ad r.length capd)) := ⟨HWF.out, by rw [HPO.out]; exact Sl.nil _, by rw [HPD.out]; exact HSD7.out⟩
      go_wp2_with (first | (refine wpList_load28 rfl _ rfl _ rfl P _ _ (by exact HB7.out) HWF.out.ad ?_))
      refine (right_c P (.slice none 0 0) (.slice ad r.length capd) w7 HPK.out).mono ?_
      rintro E w8 ⟨rfl, haw8⟩
      have HB8 := Lib.hid (HB7.out.on haw8)
      have HB28 := Lib.hid (HB27.out.on haw8)
      have HA8 := Lib.hid (HA7.out.next haw8 (by simp))
      have HO8 := Lib.hid (HO7.out.away haw8 (by simp))
      have hs8 := haw8.size
      clear HB7 HB27 HA7 HO7 HSD7 HPK haw8
      generalize hrg : rightP P = rg
      have HRG := Lib.hid hrg
      clear hrg
      cases rg
      · go_wp2_with (first | (refine wpList_store28 rfl _ _ rfl _ rfl zeroPk (.slice none 0 0) (.slice none 0 0) rfl zeroPk (.slice none 0 0) (.slice none 0 0) (by exact HB28.out) ⟨rfl, rfl⟩ ⟨rfl, rfl⟩ rfl rfl ?_; refine Hid.out ?_))
        refine Lib.hid ?_
        intro w9 hb9 haw9
        have HB9 := Lib.hid hb9
        have HA9 : Hid (Away [] w w9) := HA8.out.next haw9 (fun x hx => .inr (by simp at hx; omega))
        clear hb9 haw9
        go_wp2_with fail
        refine bodyPost_ret (result28t rfl _ _ _ _ _ _ (.int .i64 50) rfl rfl HB9.out ⟨rfl, rfl⟩) rfl (ZER.out _ _ HA9.out (by rw [HPA.out, HRG.out]; simp))
      · go_wp2_with (first
          | (refine wpList_load28 rfl _ rfl _ rfl P _ _ (by exact HB8.out) HWF.out.ad ?_)
          | (refine wpList_store28 rfl _ _ rfl _ rfl P (.slice none 0 0) (.slice ad r.length capd) rfl zeroPk (.slice none 0 0) (.slice none 0 0) (by exact HB28.out) HWF.out.ad ⟨rfl, rfl⟩ rfl rfl ?_; refine Hid.out ?_))
        refine Lib.hid ?_
        intro wx hbx hawx
        have HBx := Lib.hid hbx
        have HAx : Hid (Away [] w wx) := HA8.out.next hawx (fun x hx => .inr (by simp at hx; omega))
        have HDx := Lib.hid (HO8.out.away hawx (fun k hk => by simpa using (HDV.out k hk).2))
        have HPO2 : Hid (parse6 b = (P, 0)) := by show _ = _; rw [HPA.out, HRG.out, HCL.out]; simp
        clear hbx hawx
        go_wp2_with fail
        refine bodyPost_ret (result28t rfl _ _ _ _ _ _ (.int .i64 0) rfl rfl HBx.out HWF.out.ad) rfl ⟨_, _, by rw [HPO2.out], by rw [HPO2.out]; show Owns _ _ P.o; rw [HPO.out]; exact Owns.nil _, by rw [HPO2.out]; show Owns _ _ P.d; rw [HPD.out]; exact HDx.out, New.nil _, hnw, by simp [Value.ownBlock], HAx.out⟩
#print axioms parse_c
end Go.Proofs.YtbgpjhekohabiaaDoor.S6
