/-
  Packets as plain data: when one is right, its bytes, and what bytes are. Nothing of the program.
-/
import Derived.Test.YtbkeilboneaejaaGreatDoorSum
namespace Go.Proofs.YtbkeilboneaejaaGreatDoor
open Num
set_option linter.unusedVariables false

structure Pk where
  v : Int
  tos : Int
  flow : Int
  sv : Int
  sb : List Int
  dv : Int
  db : List Int
  proto : Int
  ttl : Int
  id : Int
  df : Bool
  more : Bool
  frag : Bool
  off : Int
  o : List Int
  d : List Int

def z12 : List Int := [0, 0, 0, 0, 0, 0, 0, 0, 0, 0, 0, 0]
def z16 : List Int := [0, 0, 0, 0, 0, 0, 0, 0, 0, 0, 0, 0, 0, 0, 0, 0]
def zeroPk : Pk := ⟨0, 0, 0, 0, z16, 0, z16, 0, 0, 0, false, false, false, 0, [], []⟩
def i64ok (n : Int) : Prop := -9223372036854775808 ≤ n ∧ n ≤ 9223372036854775807
/-- What any packet of the program holds. -/
structure Wf (p : Pk) : Prop where
  v : i64ok p.v
  tos : i64ok p.tos
  flow : i64ok p.flow
  sv : i64ok p.sv
  sl : p.sb.length = 16
  sb : Bytes p.sb
  dv : i64ok p.dv
  dl : p.db.length = 16
  db : Bytes p.db
  proto : i64ok p.proto
  ttl : i64ok p.ttl
  id0 : 0 ≤ p.id
  id1 : p.id ≤ 4294967295
  off : i64ok p.off
  o : Bytes p.o
  ol : p.o.length ≤ 140737488355328
  d : Bytes p.d
  dn : p.d.length ≤ 140737488355328

def octP (n : Int) : Bool := decide (0 ≤ n) && decide (n ≤ 255)
def adrP (v : Int) (l : List Int) : Bool := decide (v = 4) && decide (l.drop 4 = z12)
def placedP (off : Int) (more : Bool) (n : Nat) : Bool :=
  decide (0 ≤ off) && decide (off ≤ 65528) && decide (off % 8 = 0) && (!more || decide (n % 8 = 0)) && (!(more || decide (0 < off)) || decide (n ≠ 0)) && decide (off + n ≤ 65535)
def formedP (p : Pk) : Bool :=
  decide (p.v = 4) && decide (p.flow = 0) && !p.frag && decide (p.id ≤ 65535) && octP p.tos && octP p.ttl && octP p.proto && adrP p.sv p.sb && adrP p.dv p.db && placedP p.off p.more p.d.length && decide (20 + p.o.length + p.d.length ≤ 65535)
def rightP (p : Pk) : Bool := formedP p && validP p.o

structure Formed (p : Pk) : Prop where
  v : p.v = 4
  flow : p.flow = 0
  frag : p.frag = false
  id : p.id ≤ 65535
  t0 : 0 ≤ p.tos
  t1 : p.tos ≤ 255
  l0 : 0 ≤ p.ttl
  l1 : p.ttl ≤ 255
  r0 : 0 ≤ p.proto
  r1 : p.proto ≤ 255
  sv : p.sv = 4
  sb : p.sb.drop 4 = z12
  dv : p.dv = 4
  db : p.db.drop 4 = z12
  o0 : 0 ≤ p.off
  o1 : p.off ≤ 65528
  o8 : p.off % 8 = 0
  m8 : p.more = true → p.d.length % 8 = 0
  m0 : p.more = true → p.d.length ≠ 0
  f0 : 0 < p.off → p.d.length ≠ 0
  reach : p.off + p.d.length ≤ 65535
  all : 20 + p.o.length + p.d.length ≤ 65535
theorem placed_iff (off : Int) (more : Bool) (n : Nat) : placedP off more n = true ↔ 0 ≤ off ∧ off ≤ 65528 ∧ off % 8 = 0 ∧ (more = true → n % 8 = 0) ∧ (more = true → n ≠ 0) ∧ (0 < off → n ≠ 0) ∧ off + n ≤ 65535 := by
  unfold placedP
  simp only [Bool.and_eq_true, Bool.or_eq_true, decide_eq_true_eq, Bool.not_eq_true', Bool.or_eq_false_iff, decide_eq_false_iff_not]
  cases more <;> simp only [Bool.true_eq_false, Bool.false_eq_true, false_and, true_and, false_or, true_or, and_true, false_implies, forall_const] <;> omega
theorem formed_iff (p : Pk) : formedP p = true ↔ Formed p := by
  unfold formedP octP adrP
  simp only [Bool.and_eq_true, decide_eq_true_eq, placed_iff, Bool.not_eq_true']
  constructor
  · rintro ⟨⟨⟨⟨⟨⟨⟨⟨⟨⟨h1, h2⟩, h3⟩, h4⟩, h5, h6⟩, h7, h8⟩, h9, h10⟩, h11, h12⟩, h13, h14⟩, h15, h16, h17, h18, h19, h20, h21⟩, h22⟩
    exact ⟨h1, h2, h3, h4, h5, h6, h7, h8, h9, h10, h11, h12, h13, h14, h15, h16, h17, h18, h19, h20, h21, h22⟩
  · rintro ⟨h1, h2, h3, h4, h5, h6, h7, h8, h9, h10, h11, h12, h13, h14, h15, h16, h17, h18, h19, h20, h21, h22⟩
    exact ⟨⟨⟨⟨⟨⟨⟨⟨⟨⟨h1, h2⟩, h3⟩, h4⟩, h5, h6⟩, h7, h8⟩, h9, h10⟩, h11, h12⟩, h13, h14⟩, h15, h16, h17, h18, h19, h20, h21⟩, h22⟩
theorem right_iff (p : Pk) : rightP p = true ↔ Formed p ∧ validP p.o = true := by unfold rightP; rw [Bool.and_eq_true, formed_iff]
theorem valid_len {l : List Int} (h : validP l = true) : l.length ≤ 40 ∧ l.length % 4 = 0 := by
  unfold validP at h; simp at h; exact ⟨h.1.1, h.1.2⟩

/-- The word of the flags. -/
def flagP (p : Pk) : Int := p.off / 8 + (if p.df = true then 16384 else 0) + (if p.more = true then 8192 else 0)
def totP (p : Pk) : Int := 20 + p.o.length + p.d.length
/-- The head, with x and y for its checksum. -/
def hd (p : Pk) (x y : Int) : List Int :=
  (64 + (20 + p.o.length) / 4) :: p.tos :: totP p / 256 :: totP p % 256 :: p.id / 256 :: p.id % 256 :: flagP p / 256 :: flagP p % 256 :: p.ttl :: p.proto :: x :: y :: (p.sb.take 4 ++ (p.db.take 4 ++ p.o))
def ckP (p : Pk) : Int := 65535 - pt (hd p 0 0)
def layH (p : Pk) : List Int := hd p (ckP p / 256) (ckP p % 256)
def lay4 (p : Pk) : List Int := layH p ++ p.d
def build4 (p : Pk) : List Int × Int := if rightP p = true then (lay4 p, 0) else ([], 1)
theorem hd_set (p : Pk) (x y x' y' : Int) : ((hd p x y).set 10 x').set 11 y' = hd p x' y' := rfl
theorem hd_len {p : Pk} (hs : p.sb.length = 16) (hd' : p.db.length = 16) (x y : Int) : (hd p x y).length = 20 + p.o.length := by
  simp [hd, hs, hd']; omega
theorem layH_len {p : Pk} (h : Wf p) : (layH p).length = 20 + p.o.length := hd_len h.sl h.dl _ _
theorem lay4_len {p : Pk} (h : Wf p) : (lay4 p).length = 20 + p.o.length + p.d.length := by rw [lay4, List.length_append, layH_len h]

def gt (b : List Int) (i : Nat) : Int := b[i]?.getD 0
def w16 (b : List Int) (i : Nat) : Int := 256 * gt b i + gt b (i + 1)
/-- What a head's fields say. -/
def readP (b : List Int) (k : Nat) : Pk :=
  ⟨4, gt b 1, 0, 4, (b.drop 12).take 4 ++ z12, 4, (b.drop 16).take 4 ++ z12, gt b 9, gt b 8, w16 b 4, decide (w16 b 6 / 16384 % 2 = 1), decide (w16 b 6 / 8192 % 2 = 1), false, w16 b 6 % 8192 * 8, (b.drop 20).take (k - 20), b.drop k⟩
def sumH (h : List Int) : Int := 65535 - pt ((h.set 10 0).set 11 0)
def headN (b : List Int) : Nat := (gt b 0 % 16 * 4).toNat
/-- The head's length, or the error. -/
def headE (b : List Int) : Int :=
  if b.length < 20 then 20 else if gt b 0 / 16 ≠ 4 ∨ headN b < 20 then 50 else if b.length < headN b then 20 else if w16 b 2 ≠ b.length then 51 else if w16 b 10 ≠ sumH (b.take (headN b)) then 52 else 0
def parse4 (b : List Int) : Pk × Int :=
  if headE b ≠ 0 then (zeroPk, headE b)
  else if 128 ≤ gt b 6 ∨ formedP (readP b (headN b)) = false then (zeroPk, 50)
  else if validP (readP b (headN b)).o = false then (zeroPk, 40)
  else (readP b (headN b), 0)

theorem gt_app (l m : List Int) (i : Nat) (h : i < l.length) : gt (l ++ m) i = gt l i := by unfold gt; rw [List.getElem?_append_left h]
theorem gt_bd {l : List Int} (h : Bytes l) (i : Nat) : 0 ≤ gt l i ∧ gt l i ≤ 255 := h.getD i
theorem flag_bd {p : Pk} (h : Formed p) : 0 ≤ flagP p ∧ flagP p ≤ 32767 := by
  have := h.o0; have := h.o1
  unfold flagP; split <;> split <;> omega
theorem hd_bytes {p : Pk} (hw : Wf p) (h : Formed p) (hv : p.o.length ≤ 40) {x y : Int} (hx : 0 ≤ x ∧ x ≤ 255) (hy : 0 ≤ y ∧ y ≤ 255) : Bytes (hd p x y) := by
  have hf := flag_bd h
  have h1 := h.all; have h2 := h.id; have h3 := hw.id0
  have ht : 0 ≤ totP p ∧ totP p ≤ 65535 := by unfold totP; omega
  have e := h.t0; have e' := h.t1; have f := h.l0; have f' := h.l1; have g := h.r0; have g' := h.r1
  unfold hd
  refine Bytes.cons (Bytes.cons (Bytes.cons (Bytes.cons (Bytes.cons (Bytes.cons (Bytes.cons (Bytes.cons (Bytes.cons (Bytes.cons (Bytes.cons (Bytes.cons ((hw.sb.take 4).app ((hw.db.take 4).app hw.o)) hy.1 hy.2) hx.1 hx.2) ?_ ?_) ?_ ?_) ?_ ?_) ?_ ?_) ?_ ?_) ?_ ?_) ?_ ?_) ?_ ?_) ?_ ?_) ?_ ?_
  all_goals omega
theorem ck_bd {p : Pk} (hw : Wf p) (h : Formed p) (hv : p.o.length ≤ 40) : 0 ≤ ckP p ∧ ckP p ≤ 65535 := by
  have := pt_bd (hd_bytes hw h hv (x := 0) (y := 0) (by omega) (by omega))
  unfold ckP; omega
theorem layH_bytes {p : Pk} (hw : Wf p) (h : Formed p) (hv : p.o.length ≤ 40) : Bytes (layH p) := by
  have := ck_bd hw h hv
  exact hd_bytes hw h hv (by omega) (by omega)
theorem lay4_bytes {p : Pk} (hw : Wf p) (h : Formed p) (hv : p.o.length ≤ 40) : Bytes (lay4 p) := (layH_bytes hw h hv).app hw.d

theorem read_eq {p : Pk} (hw : Wf p) (h : Formed p) (hv : p.o.length ≤ 40 ∧ p.o.length % 4 = 0) (x y : Int) : readP (hd p x y ++ p.d) (20 + p.o.length) = p := by
  have hl := hd_len hw.sl hw.dl x y
  have hf := flag_bd h
  have s4 : (p.sb.take 4).length = 4 := by simp [hw.sl]
  have d4 : (p.db.take 4).length = 4 := by simp [hw.dl]
  have e1 : ((hd p x y ++ p.d).drop 12).take 4 = p.sb.take 4 := by
    show ((p.sb.take 4 ++ (p.db.take 4 ++ p.o)) ++ p.d).take 4 = _
    rw [List.append_assoc, List.take_append_of_le_length (by omega), List.take_of_length_le (by omega)]
  have e2' : (hd p x y ++ p.d).drop 16 = (p.db.take 4 ++ p.o) ++ p.d := by
    show ((p.sb.take 4 ++ (p.db.take 4 ++ p.o)) ++ p.d).drop 4 = _
    rw [List.append_assoc, List.drop_append_of_le_length (by omega), List.drop_eq_nil_of_le (by omega), List.nil_append]
  have e2 : ((hd p x y ++ p.d).drop 16).take 4 = p.db.take 4 := by
    rw [e2', List.append_assoc, List.take_append_of_le_length (by omega), List.take_of_length_le (by omega)]
  have e3' : (hd p x y ++ p.d).drop 20 = p.o ++ p.d := by
    have : (hd p x y ++ p.d).drop 20 = ((hd p x y ++ p.d).drop 16).drop 4 := by rw [List.drop_drop]
    rw [this, e2', List.append_assoc, List.drop_append_of_le_length (by omega), List.drop_eq_nil_of_le (by omega), List.nil_append]
  have e3 : ((hd p x y ++ p.d).drop 20).take (20 + p.o.length - 20) = p.o := by
    rw [e3', List.take_append_of_le_length (by omega), List.take_of_length_le (by omega)]
  have e4 : (hd p x y ++ p.d).drop (20 + p.o.length) = p.d := by rw [← hl]; exact List.drop_left
  have k1 : p.sb.take 4 ++ z12 = p.sb := by rw [← h.sb]; exact List.take_append_drop 4 p.sb
  have k2 : p.db.take 4 ++ z12 = p.db := by rw [← h.db]; exact List.take_append_drop 4 p.db
  have w4 : w16 (hd p x y ++ p.d) 4 = p.id := by show 256 * (p.id / 256) + p.id % 256 = p.id; omega
  have w6 : w16 (hd p x y ++ p.d) 6 = flagP p := by show 256 * (flagP p / 256) + flagP p % 256 = flagP p; omega
  have hb1 := h.o0; have hb2 := h.o1; have hb3 := h.o8
  have fdf : decide (flagP p / 16384 % 2 = 1) = p.df := by
    unfold flagP
    cases p.df <;> cases p.more <;> simp <;> omega
  have fmo : decide (flagP p / 8192 % 2 = 1) = p.more := by
    unfold flagP
    cases p.df <;> cases p.more <;> simp <;> omega
  have fof : flagP p % 8192 * 8 = p.off := by
    unfold flagP
    cases p.df <;> cases p.more <;> simp <;> omega
  unfold readP
  rw [e1, e2, e3, e4, k1, k2, w4, w6, fdf, fmo, fof]
  show (⟨4, p.tos, 0, 4, p.sb, 4, p.db, p.proto, p.ttl, p.id, p.df, p.more, false, p.off, p.o, p.d⟩ : Pk) = p
  have := h.v; have := h.flow; have := h.sv; have := h.dv; have := h.frag
  cases p; simp_all
theorem head_lay {p : Pk} (hw : Wf p) (h : Formed p) (hv : p.o.length ≤ 40 ∧ p.o.length % 4 = 0) (r : List Int) (x y : Int) : headN (hd p x y ++ r) = 20 + p.o.length ∧ gt (hd p x y ++ r) 0 / 16 = 4 := by
  have e : gt (hd p x y ++ r) 0 = 64 + (20 + p.o.length) / 4 := rfl
  unfold headN
  rw [e]
  omega
/-- There and back. -/
theorem parse_lay4 {p : Pk} (hw : Wf p) (hr : rightP p = true) : parse4 (lay4 p) = (p, 0) := by
  obtain ⟨h, hv⟩ := (right_iff p).1 hr
  have hl := valid_len hv
  have hb := lay4_len hw
  obtain ⟨hn, h4⟩ := head_lay hw h hl p.d (ckP p / 256) (ckP p % 256)
  have hE : headE (lay4 p) = 0 := by
    unfold headE
    have e1 : headN (lay4 p) = 20 + p.o.length := hn
    have e2 : gt (lay4 p) 0 / 16 = 4 := h4
    have e3 : w16 (lay4 p) 2 = (lay4 p).length := by
      rw [hb]
      show 256 * (totP p / 256) + totP p % 256 = _
      unfold totP; omega
    have e4 : w16 (lay4 p) 10 = ckP p := by show 256 * (ckP p / 256) + ckP p % 256 = _; omega
    have e5 : (lay4 p).take (20 + p.o.length) = layH p := by
      rw [← layH_len hw]; exact List.take_left
    have e6 : sumH (layH p) = ckP p := by unfold sumH layH; rw [hd_set]; rfl
    rw [if_neg (by omega), if_neg (by rw [e1]; omega), if_neg (by rw [e1]; omega), if_neg (by simpa using e3), e1, e5, e6, e4, if_neg (by simp)]
  have hre : readP (lay4 p) (headN (lay4 p)) = p := by
    rw [show headN (lay4 p) = 20 + p.o.length from hn]
    exact read_eq hw h hl _ _
  have hg : gt (lay4 p) 6 = flagP p / 256 := rfl
  have hf := flag_bd h
  unfold parse4
  rw [hE, if_neg (by simp), hre, hg, if_neg (by rw [(formed_iff p).2 h]; simp; omega), if_neg (by rw [hv]; simp)]

theorem list_cons {b : List Int} {n : Nat} (h : n + 1 ≤ b.length) : ∃ x r, b = x :: r ∧ n ≤ r.length := by
  cases b with
  | nil => simp at h
  | cons x r => exact ⟨x, r, rfl, by simpa using h⟩
theorem list20 {b : List Int} (h : 20 ≤ b.length) : ∃ b0 b1 b2 b3 b4 b5 b6 b7 b8 b9 b10 b11 b12 b13 b14 b15 b16 b17 b18 b19 r, b = b0 :: b1 :: b2 :: b3 :: b4 :: b5 :: b6 :: b7 :: b8 :: b9 :: b10 :: b11 :: b12 :: b13 :: b14 :: b15 :: b16 :: b17 :: b18 :: b19 :: r := by
  obtain ⟨b0, r0, rfl, h0⟩ := list_cons h
  obtain ⟨b1, r1, rfl, h1⟩ := list_cons h0
  obtain ⟨b2, r2, rfl, h2⟩ := list_cons h1
  obtain ⟨b3, r3, rfl, h3⟩ := list_cons h2
  obtain ⟨b4, r4, rfl, h4⟩ := list_cons h3
  obtain ⟨b5, r5, rfl, h5⟩ := list_cons h4
  obtain ⟨b6, r6, rfl, h6⟩ := list_cons h5
  obtain ⟨b7, r7, rfl, h7⟩ := list_cons h6
  obtain ⟨b8, r8, rfl, h8⟩ := list_cons h7
  obtain ⟨b9, r9, rfl, h9⟩ := list_cons h8
  obtain ⟨b10, r10, rfl, h10⟩ := list_cons h9
  obtain ⟨b11, r11, rfl, h11⟩ := list_cons h10
  obtain ⟨b12, r12, rfl, h12⟩ := list_cons h11
  obtain ⟨b13, r13, rfl, h13⟩ := list_cons h12
  obtain ⟨b14, r14, rfl, h14⟩ := list_cons h13
  obtain ⟨b15, r15, rfl, h15⟩ := list_cons h14
  obtain ⟨b16, r16, rfl, h16⟩ := list_cons h15
  obtain ⟨b17, r17, rfl, h17⟩ := list_cons h16
  obtain ⟨b18, r18, rfl, h18⟩ := list_cons h17
  obtain ⟨b19, r19, rfl, h19⟩ := list_cons h18
  exact ⟨b0, b1, b2, b3, b4, b5, b6, b7, b8, b9, b10, b11, b12, b13, b14, b15, b16, b17, b18, b19, r19, rfl⟩
theorem read_wf {b : List Int} (hb : Bytes b) (hn : b.length ≤ 140737488355328) (k : Nat) (h20 : 20 ≤ b.length) : Wf (readP b k) := by
  have g1 := gt_bd hb 1; have g4 := gt_bd hb 4; have g5 := gt_bd hb 5; have g6 := gt_bd hb 6; have g7 := gt_bd hb 7; have g8 := gt_bd hb 8; have g9 := gt_bd hb 9
  have hz : Bytes z12 := by unfold Bytes z12; decide
  have w4 : w16 b 4 = 256 * gt b 4 + gt b 5 := rfl
  have w6 : w16 b 6 = 256 * gt b 6 + gt b 7 := rfl
  refine ⟨by simp [readP, i64ok], ?_, by simp [readP, i64ok], by simp [readP, i64ok], by simp [readP, z12]; omega, ((hb.drop 12).take 4).app hz, by simp [readP, i64ok], by simp [readP, z12]; omega, ((hb.drop 16).take 4).app hz, ?_, ?_, ?_, ?_, ?_, (hb.drop 20).take _, ?_, hb.drop k, ?_⟩
  · simp only [readP, i64ok]; omega
  · simp only [readP, i64ok]; omega
  · simp only [readP, i64ok]; omega
  · simp only [readP, w4]; omega
  · simp only [readP, w4]; omega
  · simp only [readP, i64ok, w6]; omega
  · simp [readP]; omega
  · simp [readP]; omega
theorem headE_ok {b : List Int} (h : headE b = 0) : 20 ≤ b.length ∧ gt b 0 / 16 = 4 ∧ 20 ≤ headN b ∧ headN b ≤ b.length ∧ w16 b 2 = b.length ∧ w16 b 10 = sumH (b.take (headN b)) := by
  unfold headE at h
  split at h
  · simp at h
  · split at h
    · simp at h
    · split at h
      · simp at h
      · split at h
        · simp at h
        · split at h
          · simp at h
          · rename_i h1 h2 h3 h4 h5
            simp only [not_or, Decidable.not_not] at h2 h4 h5
            exact ⟨by omega, h2.1, by omega, by omega, h4, h5⟩
/-- What was read is a packet's. -/
theorem parse4_ok {b : List Int} {p : Pk} (h : parse4 b = (p, 0)) : headE b = 0 ∧ gt b 6 < 128 ∧ p = readP b (headN b) ∧ Formed p ∧ validP p.o = true := by
  unfold parse4 at h
  split at h
  · rename_i h1
    simp only [Prod.mk.injEq] at h
    exact absurd h.2 h1
  · rename_i h1
    split at h
    · simp at h
    · rename_i h2
      split at h
      · simp at h
      · rename_i h3
        simp only [Prod.mk.injEq, and_true] at h
        subst h
        simp only [not_or, Bool.not_eq_false] at h2 h3
        exact ⟨by omega, by omega, rfl, (formed_iff _).1 h2.2, h3⟩
theorem lay_parse4 {b : List Int} {p : Pk} (hb : Bytes b) (hn : b.length ≤ 140737488355328) (h : parse4 b = (p, 0)) : Wf p ∧ rightP p = true ∧ lay4 p = b := by
  obtain ⟨hE, h6, rfl, hf, hv⟩ := parse4_ok h
  obtain ⟨h20, h4, hk, hkl, hlen, hsum⟩ := headE_ok hE
  have hw := read_wf hb hn (headN b) h20
  refine ⟨hw, (right_iff _).2 ⟨hf, hv⟩, ?_⟩
  have hol : (readP b (headN b)).o.length = headN b - 20 := by simp [readP]; omega
  have hdl : (readP b (headN b)).d.length = b.length - headN b := by simp [readP]
  have hN : (headN b : Int) = gt b 0 % 16 * 4 := by unfold headN; have := gt_bd hb 0; omega
  obtain ⟨b0, b1, b2, b3, b4, b5, b6, b7, b8, b9, b10, b11, b12, b13, b14, b15, b16, b17, b18, b19, r, hbe⟩ := list20 h20
  have hby : ∀ i, 0 ≤ gt b i ∧ gt b i ≤ 255 := fun i => gt_bd hb i
  have e0 : gt b 0 = b0 := by rw [hbe]; rfl
  have e4 : w16 b 4 = 256 * b4 + b5 := by rw [hbe]; rfl
  have e6 : w16 b 6 = 256 * b6 + b7 := by rw [hbe]; rfl
  have e2 : w16 b 2 = 256 * b2 + b3 := by rw [hbe]; rfl
  have x0 := hby 0; have x2 := hby 2; have x3 := hby 3; have x4 := hby 4; have x5 := hby 5; have x6 := hby 6; have x7 := hby 7; have x10 := hby 10; have x11 := hby 11
  rw [hbe] at x0 x2 x3 x4 x5 x6 x7 x10 x11 h6
  change 0 ≤ b0 ∧ b0 ≤ 255 at x0
  change 0 ≤ b2 ∧ b2 ≤ 255 at x2
  change 0 ≤ b3 ∧ b3 ≤ 255 at x3
  change 0 ≤ b4 ∧ b4 ≤ 255 at x4
  change 0 ≤ b5 ∧ b5 ≤ 255 at x5
  change 0 ≤ b6 ∧ b6 ≤ 255 at x6
  change 0 ≤ b7 ∧ b7 ≤ 255 at x7
  change 0 ≤ b10 ∧ b10 ≤ 255 at x10
  change 0 ≤ b11 ∧ b11 ≤ 255 at x11
  change b6 < 128 at h6
  have hkr : headN b - 20 ≤ r.length := by have : b.length = r.length + 20 := by rw [hbe]; simp
                                           omega
  have ho : (readP b (headN b)).o = r.take (headN b - 20) := by unfold readP; rw [hbe]; rfl
  have hd' : (readP b (headN b)).d = r.drop (headN b - 20) := by
    show b.drop (headN b) = _
    have : b.drop (headN b) = (b.drop 20).drop (headN b - 20) := by rw [List.drop_drop]; congr 1; omega
    rw [this, hbe]; rfl
  have hs : (readP b (headN b)).sb.take 4 = [b12, b13, b14, b15] := by unfold readP; rw [hbe]; rfl
  have hdb : (readP b (headN b)).db.take 4 = [b16, b17, b18, b19] := by unfold readP; rw [hbe]; rfl
  have hfl : flagP (readP b (headN b)) = 256 * b6 + b7 := by
    have a1 : (readP b (headN b)).off = (256 * b6 + b7) % 8192 * 8 := by show w16 b 6 % 8192 * 8 = _; rw [e6]
    have a2 : (readP b (headN b)).df = decide ((256 * b6 + b7) / 16384 % 2 = 1) := by show decide (w16 b 6 / 16384 % 2 = 1) = _; rw [e6]
    have a3 : (readP b (headN b)).more = decide ((256 * b6 + b7) / 8192 % 2 = 1) := by show decide (w16 b 6 / 8192 % 2 = 1) = _; rw [e6]
    unfold flagP
    rw [a1, a2, a3]
    simp only [decide_eq_true_eq]
    split <;> split <;> omega
  have htot : totP (readP b (headN b)) = 256 * b2 + b3 := by unfold totP; rw [hol, hdl]; omega
  have hid : (readP b (headN b)).id = 256 * b4 + b5 := e4
  have hh : ∀ x y, hd (readP b (headN b)) x y = b0 :: b1 :: b2 :: b3 :: b4 :: b5 :: b6 :: b7 :: b8 :: b9 :: x :: y :: b12 :: b13 :: b14 :: b15 :: b16 :: b17 :: b18 :: b19 :: r.take (headN b - 20) := by
    intro x y
    unfold hd
    rw [hfl, htot, hid, hs, hdb, hol, ho]
    have q1 : (64 : Int) + (20 + ((headN b - 20 : Nat) : Int)) / 4 = b0 := by omega
    have q2 : (256 * b2 + b3) / 256 = b2 := by omega
    have q3 : (256 * b2 + b3) % 256 = b3 := by omega
    have q4 : (256 * b4 + b5) / 256 = b4 := by omega
    have q5 : (256 * b4 + b5) % 256 = b5 := by omega
    have q6 : (256 * b6 + b7) / 256 = b6 := by omega
    have q7 : (256 * b6 + b7) % 256 = b7 := by omega
    rw [q1, q2, q3, q4, q5, q6, q7]
    have t1 : (readP b (headN b)).tos = b1 := by show gt b 1 = _; rw [hbe]; rfl
    have t2 : (readP b (headN b)).ttl = b8 := by show gt b 8 = _; rw [hbe]; rfl
    have t3 : (readP b (headN b)).proto = b9 := by show gt b 9 = _; rw [hbe]; rfl
    rw [t1, t2, t3]
    rfl
  have hck : ckP (readP b (headN b)) = 256 * b10 + b11 := by
    have : b.take (headN b) = b0 :: b1 :: b2 :: b3 :: b4 :: b5 :: b6 :: b7 :: b8 :: b9 :: b10 :: b11 :: b12 :: b13 :: b14 :: b15 :: b16 :: b17 :: b18 :: b19 :: r.take (headN b - 20) := by
      obtain ⟨m, hm⟩ : ∃ m, headN b = m + 20 := ⟨headN b - 20, by omega⟩
      rw [hm, hbe]; simp
    rw [this] at hsum
    have e10 : w16 b 10 = 256 * b10 + b11 := by rw [hbe]; rfl
    rw [e10] at hsum
    unfold ckP
    rw [hh, hsum]
    rfl
  unfold lay4 layH
  rw [hh, hck, hd']
  have q8 : (256 * b10 + b11) / 256 = b10 := by omega
  have q9 : (256 * b10 + b11) % 256 = b11 := by omega
  rw [q8, q9]
  simp only [List.cons_append, List.take_append_drop]
  exact hbe.symm
theorem parse4_no {b : List Int} (h : (parse4 b).2 ≠ 0) : (parse4 b).1 = zeroPk := by
  unfold parse4 at h ⊢
  split
  · rfl
  · split
    · rfl
    · split
      · rfl
      · rename_i h1 h2 h3
        rw [if_neg h1, if_neg h2, if_neg h3] at h
        simp at h
#print axioms lay_parse4
end Go.Proofs.YtbkeilboneaejaaGreatDoor
