/-
  Datagrams as plain data: their pseudo-headers, their bytes, and what bytes are. Nothing of the program.
-/
import Derived.Test.YtbfpphoiapggnaaSum
namespace Go.Proofs.Ytbfpphoiapggnaa
open Num
set_option linter.unusedVariables false

def z12 : List Int := [0, 0, 0, 0, 0, 0, 0, 0, 0, 0, 0, 0]
def z16 : List Int := [0, 0, 0, 0, 0, 0, 0, 0, 0, 0, 0, 0, 0, 0, 0, 0]
def i64ok (n : Int) : Prop := -9223372036854775808 ≤ n ∧ n ≤ 9223372036854775807
/-- Equal lists, under a name that the walk leaves alone. -/
def eqL (l m : List Int) : Bool := decide (l = m)
def avalidP (v : Int) (l : List Int) : Bool := if v = 4 then eqL (l.drop 4) z12 else decide (v = 6)
/-- An address. -/
structure Ax where
  v : Int
  l : List Int
structure WfA (a : Ax) : Prop where
  v : i64ok a.v
  n : a.l.length = 16
  l : Bytes a.l
structure Dg where
  sp : Int
  dp : Int
  ns : Bool
  d : List Int
def zeroDg : Dg := ⟨0, 0, false, []⟩
structure WfD (g : Dg) : Prop where
  sp : i64ok g.sp
  dp : i64ok g.dp
  d : Bytes g.d
  dn : g.d.length ≤ 140737488355328
theorem zero_wf : WfD zeroDg := ⟨⟨by decide, by decide⟩, ⟨by decide, by decide⟩, Bytes.nil, by decide⟩

def pairP (s t : Ax) : Bool := avalidP s.v s.l && avalidP t.v t.l && decide (s.v = t.v)
def wordP (n : Int) : Bool := decide (0 ≤ n) && decide (n ≤ 65535)
theorem word_iff {n : Int} : wordP n = true ↔ 0 ≤ n ∧ n ≤ 65535 := by simp [wordP]
theorem pair_v {s t : Ax} (h : pairP s t = true) : t.v = s.v ∧ (s.v = 4 ∨ s.v = 6) := by
  simp only [pairP, Bool.and_eq_true, decide_eq_true_eq] at h
  refine ⟨h.2.symm, ?_⟩
  have := h.1.1
  unfold avalidP at this
  split at this
  · left; assumption
  · right; simpa using this
theorem pair_comm (s t : Ax) : pairP s t = pairP t s := by
  unfold pairP
  rw [Bool.and_comm (avalidP s.v s.l), decide_eq_decide.mpr (show s.v = t.v ↔ t.v = s.v from ⟨Eq.symm, Eq.symm⟩)]
/-- The pseudo-header. -/
def psb (s t : Ax) (proto n : Int) : List Int :=
  if s.v = 4 then s.l.take 4 ++ (t.l.take 4 ++ [0, proto, n / 256, n % 256]) else s.l ++ (t.l ++ [0, 0, n / 256, n % 256, 0, 0, 0, proto])
theorem psb_bytes {s t : Ax} (hs : WfA s) (ht : WfA t) {proto n : Int} (h0 : 0 ≤ proto) (h1 : proto ≤ 255) (h2 : 0 ≤ n) (h3 : n ≤ 65535) : Bytes (psb s t proto n) := by
  unfold psb
  split
  · refine (hs.l.take 4).app ((ht.l.take 4).app ?_)
    exact (((Bytes.nil.cons (by omega) (by omega)).cons (by omega) (by omega)).cons h0 h1).cons (by omega) (by omega)
  · refine hs.l.app (ht.l.app ?_)
    exact (((((((Bytes.nil.cons h0 h1).cons (by omega) (by omega)).cons (by omega) (by omega)).cons (by omega) (by omega)).cons (by omega) (by omega)).cons (by omega) (by omega)).cons (by omega) (by omega)).cons (by omega) (by omega)
theorem psb_len {s t : Ax} (hs : WfA s) (ht : WfA t) (proto n : Int) : (psb s t proto n).length = if s.v = 4 then 12 else 40 := by
  unfold psb
  split <;> simp [hs.n, ht.n]
theorem ws_even (l m : List Int) (h : l.length % 2 = 0) : ws true (l ++ m) = ws true l + ws true m := by
  have := ws_app true l m
  rw [h] at this
  simpa using this
theorem psb_comm {s t : Ax} (hs : WfA s) (ht : WfA t) (hv : t.v = s.v) (proto n : Int) : ws true (psb s t proto n) = ws true (psb t s proto n) := by
  unfold psb
  rw [hv]
  split
  · rw [ws_even _ _ (by simp [hs.n]), ws_even _ _ (by simp [ht.n]), ws_even _ _ (by simp [ht.n]), ws_even _ _ (by simp [hs.n])]; omega
  · rw [ws_even _ _ (by simp [hs.n]), ws_even _ _ (by simp [ht.n]), ws_even _ _ (by simp [ht.n]), ws_even _ _ (by simp [hs.n])]; omega
def psOk (s t : Ax) (proto n : Int) : Bool := pairP s t && (decide (0 ≤ proto) && decide (proto ≤ 255)) && wordP n
def psP (s t : Ax) (proto n : Int) : Int × Int := if psOk s t proto n = true then (pt (psb s t proto n), 0) else (0, 1)
/-- The Part of the pseudo-header and of bytes behind it. -/
def ckP (s t : Ax) (b : List Int) : Int := add (pt (psb s t 17 b.length)) (pt b)
def smP (s t : Ax) (b : List Int) : Int := if 65535 - ckP s t b = 0 then 65535 else 65535 - ckP s t b
def roomP (v : Int) : Int := if v = 4 then 65507 else 65527
theorem room_bd (v : Int) : roomP v ≤ 65527 ∧ 0 ≤ roomP v := by unfold roomP; split <;> omega
/-- A datagram's bytes with no checksum. -/
def rawP (g : Dg) : List Int := [g.sp / 256, g.sp % 256, g.dp / 256, g.dp % 256, (8 + (g.d.length : Int)) / 256, (8 + (g.d.length : Int)) % 256, 0, 0] ++ g.d
def layP (s t : Ax) (g : Dg) : List Int := ((rawP g).set 6 (smP s t (rawP g) / 256)).set 7 (smP s t (rawP g) % 256)
def bdOk (s t : Ax) (g : Dg) : Bool := pairP s t && wordP g.sp && wordP g.dp && !(g.ns && decide (s.v = 6))
def outP (s t : Ax) (g : Dg) : List Int := if g.ns = true then rawP g else layP s t g
def buildP (s t : Ax) (g : Dg) : List Int × Int :=
  if bdOk s t g = true then if (g.d.length : Int) ≤ roomP s.v then (outP s t g, 0) else ([], 3) else ([], 1)
def wd (b : List Int) (i : Nat) : Int := 256 * b[i]?.getD 0 + b[i + 1]?.getD 0
def dgP (b : List Int) : Dg := ⟨wd b 0, wd b 2, decide (wd b 6 = 0), b.drop 8⟩
def parseP (s t : Ax) (b : List Int) : Dg × Int :=
  if pairP s t = true then
    if b.length < 8 then (zeroDg, 20) else
    if (b.length : Int) - 8 ≤ roomP s.v ∧ wd b 4 = b.length then
      if (wd b 6 = 0 → s.v = 6) ∧ (wd b 6 ≠ 0 → ckP s t b ≠ 65535) then (zeroDg, 52) else (dgP b, 0)
    else (zeroDg, 51)
  else (zeroDg, 1)

theorem raw_len (g : Dg) : (rawP g).length = 8 + g.d.length := by simp [rawP]; omega
theorem lay_len (s t : Ax) (g : Dg) : (layP s t g).length = 8 + g.d.length := by simp [layP, raw_len]
theorem out_len (s t : Ax) (g : Dg) : (outP s t g).length = 8 + g.d.length := by unfold outP; split; exact raw_len g; exact lay_len s t g
structure Fit (v : Int) (g : Dg) : Prop where
  sp0 : 0 ≤ g.sp
  sp1 : g.sp ≤ 65535
  dp0 : 0 ≤ g.dp
  dp1 : g.dp ≤ 65535
  n : (g.d.length : Int) ≤ roomP v
  s6 : v = 6 → g.ns = false
  d : Bytes g.d
theorem raw_bytes {v : Int} {g : Dg} (h : Fit v g) : Bytes (rawP g) := by
  have := room_bd v
  have h5 := h.n
  have h1 := h.sp0; have h2 := h.sp1; have h3 := h.dp0; have h4 := h.dp1
  unfold rawP
  refine Bytes.app ?_ h.d
  exact (((((((Bytes.nil.cons (by omega) (by omega)).cons (by omega) (by omega)).cons (by omega) (by omega)).cons (by omega) (by omega)).cons (by omega) (by omega)).cons (by omega) (by omega)).cons (by omega) (by omega)).cons (by omega) (by omega)
theorem wlen {s t : Ax} (hs : WfA s) (ht : WfA t) {b : List Int} (hl : b.length ≤ 65535) : Bytes (psb s t 17 b.length) := psb_bytes hs ht (by omega) (by omega) (by omega) (by omega)
theorem ck_bd {s t : Ax} (hs : WfA s) (ht : WfA t) {b : List Int} (hb : Bytes b) (hl : b.length ≤ 65535) : 0 ≤ ckP s t b ∧ ckP s t b ≤ 65535 :=
  add_bd (pt_bd (wlen hs ht hl)).1 (pt_bd hb).1
theorem sm_bd {s t : Ax} (hs : WfA s) (ht : WfA t) {b : List Int} (hb : Bytes b) (hl : b.length ≤ 65535) : 1 ≤ smP s t b ∧ smP s t b ≤ 65535 := by
  have := ck_bd hs ht hb hl
  unfold smP; split <;> omega
theorem sm_back {s t : Ax} (hs : WfA s) (ht : WfA t) {b : List Int} (hb : Bytes b) (hl : b.length ≤ 65535) :
    (65535 - ckP s t b = 0 → smP s t b = 65535) ∧ (65535 - ckP s t b ≠ 0 → smP s t b = 65535 - ckP s t b) := by
  unfold smP; constructor
  · intro h; rw [if_pos h]
  · intro h; rw [if_neg h]
/-- The plain facts of ckP. -/
theorem ck_mod {s t : Ax} (b : List Int) : ckP s t b % 65535 = (ws true (psb s t 17 b.length) + ws true b) % 65535 := by
  have h1 := add_mod (pt (psb s t 17 b.length)) (pt b)
  have h2 : pt (psb s t 17 b.length) % 65535 = _ := fold_mod
  have h3 : pt b % 65535 = _ := fold_mod
  unfold ckP
  omega
theorem ck_zero {s t : Ax} (hs : WfA s) (ht : WfA t) {b : List Int} (hb : Bytes b) (hl : b.length ≤ 65535) : ckP s t b = 0 ↔ ws true (psb s t 17 b.length) + ws true b = 0 := by
  have h1 := @add_zero_iff (pt (psb s t 17 b.length)) (pt b)
  have h2 : pt (psb s t 17 b.length) = 0 ↔ _ := fold_zero
  have h3 : pt b = 0 ↔ _ := fold_zero
  have h4 := (ws_bd true _ (wlen hs ht hl)).1
  have h5 := (ws_bd true _ hb).1
  have h6 := (pt_bd (wlen hs ht hl)).1
  have h7 := (pt_bd hb).1
  unfold ckP
  omega
theorem ck_pt {s t : Ax} (hs : WfA s) (ht : WfA t) {b : List Int} (hb : Bytes b) (hl : b.length ≤ 65535) : ckP s t b = pt (psb s t 17 b.length ++ b) := by
  have h := pt_join (wlen hs ht hl) hb (0 : Int) (by rw [psb_len hs ht]; split <;> decide)
  rw [← h]; rfl
theorem ck_comm {s t : Ax} (hs : WfA s) (ht : WfA t) (hv : t.v = s.v) (b : List Int) : ckP s t b = ckP t s b := by
  unfold ckP pt; rw [psb_comm hs ht hv]
/-- The checksum is just one number. -/
theorem ck_iff {s t : Ax} (hs : WfA s) (ht : WfA t) {b r : List Int} (hb : Bytes b) (hr : Bytes r) (hl : b.length ≤ 65535) (hlen : b.length = r.length) (x : Int) (hx : ws true b = ws true r + x) (hx0 : 1 ≤ x) (hx1 : x ≤ 65535) :
    ckP s t b = 65535 ↔ x = smP s t r := by
  have m1 := @ck_mod s t b
  have m2 := @ck_mod s t r
  have z1 := ck_zero hs ht hb hl
  have z2 := ck_zero hs ht hr (by omega)
  have b1 := ck_bd hs ht hb hl
  have b2 := ck_bd hs ht hr (by omega)
  have e := sm_back hs ht hr (by omega)
  have w1 := (ws_bd true _ (wlen hs ht hl)).1
  have w2 := (ws_bd true _ hr).1
  rw [hlen] at m1 z1 w1
  omega
theorem wd_eq (b : List Int) (i : Nat) : wd b i = 256 * b[i]?.getD 0 + b[i + 1]?.getD 0 := rfl
theorem wd_bd {b : List Int} (hb : Bytes b) (i : Nat) : 0 ≤ wd b i ∧ wd b i ≤ 65535 := by
  have h1 := hb.getD i; have h2 := hb.getD (i + 1)
  unfold wd; omega
theorem raw_get (g : Dg) : (rawP g)[0]?.getD 0 = g.sp / 256 ∧ (rawP g)[1]?.getD 0 = g.sp % 256 ∧ (rawP g)[2]?.getD 0 = g.dp / 256 ∧ (rawP g)[3]?.getD 0 = g.dp % 256 ∧
    (rawP g)[4]?.getD 0 = (8 + (g.d.length : Int)) / 256 ∧ (rawP g)[5]?.getD 0 = (8 + (g.d.length : Int)) % 256 ∧ (rawP g)[6]?.getD 0 = 0 ∧ (rawP g)[7]?.getD 0 = 0 := by
  unfold rawP; exact ⟨rfl, rfl, rfl, rfl, rfl, rfl, rfl, rfl⟩
theorem lay_get (s t : Ax) (g : Dg) : (layP s t g)[0]?.getD 0 = g.sp / 256 ∧ (layP s t g)[1]?.getD 0 = g.sp % 256 ∧ (layP s t g)[2]?.getD 0 = g.dp / 256 ∧ (layP s t g)[3]?.getD 0 = g.dp % 256 ∧
    (layP s t g)[4]?.getD 0 = (8 + (g.d.length : Int)) / 256 ∧ (layP s t g)[5]?.getD 0 = (8 + (g.d.length : Int)) % 256 ∧ (layP s t g)[6]?.getD 0 = smP s t (rawP g) / 256 ∧ (layP s t g)[7]?.getD 0 = smP s t (rawP g) % 256 := by
  unfold layP
  generalize smP s t (rawP g) = z
  unfold rawP; exact ⟨rfl, rfl, rfl, rfl, rfl, rfl, rfl, rfl⟩
theorem lay_drop (s t : Ax) (g : Dg) : (layP s t g).drop 8 = g.d := by
  unfold layP
  generalize smP s t (rawP g) = z
  unfold rawP; simp
theorem raw_drop (g : Dg) : (rawP g).drop 8 = g.d := by unfold rawP; simp
theorem ws_lay {s t : Ax} (g : Dg) : ws true (layP s t g) = ws true (rawP g) + smP s t (rawP g) := by
  have h := ws_word (rawP g) 3 (smP s t (rawP g) / 256) (smP s t (rawP g) % 256) (by rw [raw_len]; omega)
  obtain ⟨_, _, _, _, _, _, h6, h7⟩ := raw_get g
  simp only [show 2 * 3 = 6 from rfl, show 6 + 1 = 7 from rfl] at h
  rw [h6, h7] at h
  unfold layP
  omega
theorem lay_bytes {s t : Ax} (hs : WfA s) (ht : WfA t) {g : Dg} (h : Fit s.v g) : Bytes (layP s t g) := by
  have hr := raw_bytes h
  have h1 := room_bd s.v
  have h2 := h.n
  have := sm_bd hs ht hr (by rw [raw_len]; omega)
  exact (hr.set 6 (by omega) (by omega)).set 7 (by omega) (by omega)
theorem out_bytes {s t : Ax} (hs : WfA s) (ht : WfA t) {g : Dg} (h : Fit s.v g) : Bytes (outP s t g) := by
  unfold outP; split; exact raw_bytes h; exact lay_bytes hs ht h
theorem bd_iff {s t : Ax} {g : Dg} : bdOk s t g = true ↔ pairP s t = true ∧ (0 ≤ g.sp ∧ g.sp ≤ 65535) ∧ (0 ≤ g.dp ∧ g.dp ≤ 65535) ∧ (s.v = 6 → g.ns = false) := by
  simp only [bdOk, Bool.and_eq_true, word_iff, Bool.not_eq_true', Bool.and_eq_false_iff, decide_eq_false_iff_not]
  constructor
  · rintro ⟨⟨⟨h1, h2⟩, h3⟩, h4⟩
    refine ⟨h1, h2, h3, fun h => ?_⟩
    rcases h4 with h4 | h4
    · exact h4
    · exact absurd h h4
  · rintro ⟨h1, h2, h3, h4⟩
    refine ⟨⟨⟨h1, h2⟩, h3⟩, ?_⟩
    by_cases h : s.v = 6
    · exact .inl (h4 h)
    · exact .inr h
theorem build_ok {s t : Ax} {g : Dg} (hp : pairP s t = true) (h : Fit s.v g) : buildP s t g = (outP s t g, 0) := by
  unfold buildP
  rw [if_pos (bd_iff.2 ⟨hp, ⟨h.sp0, h.sp1⟩, ⟨h.dp0, h.dp1⟩, h.s6⟩), if_pos h.n]
theorem build_fit {s t : Ax} {g : Dg} (hg : Bytes g.d) (h : (buildP s t g).2 = 0) : pairP s t = true ∧ Fit s.v g ∧ (buildP s t g).1 = outP s t g := by
  unfold buildP at h ⊢
  by_cases h1 : bdOk s t g = true
  · rw [if_pos h1] at h ⊢
    by_cases h2 : (g.d.length : Int) ≤ roomP s.v
    · rw [if_pos h2]
      obtain ⟨a, b, c, d⟩ := bd_iff.1 h1
      exact ⟨a, ⟨b.1, b.2, c.1, c.2, h2, d, hg⟩, rfl⟩
    · rw [if_neg h2] at h; simp at h
  · rw [if_neg h1] at h; simp at h
theorem build_no {s t : Ax} {g : Dg} (h : (buildP s t g).2 ≠ 0) : (buildP s t g).1 = [] := by
  unfold buildP at h ⊢
  split at h
  · rename_i h1
    rw [if_pos h1]
    split at h
    · simp at h
    · rename_i h2; rw [if_neg h2]
  · rename_i h1; rw [if_neg h1]
theorem build_cases (s t : Ax) (g : Dg) : (buildP s t g).2 = 0 ∨ (buildP s t g).2 = 1 ∨ (buildP s t g).2 = 3 := by
  unfold buildP; split
  · split <;> simp
  · simp
theorem wd_sum (x y n : Int) (h0 : x = n / 256) (h1 : y = n % 256) : 256 * x + y = n := by omega
/-- What is laid is read as it was. -/
theorem parse_out {s t : Ax} (hs : WfA s) (ht : WfA t) {g : Dg} (hp : pairP s t = true) (h : Fit s.v g) : parseP s t (outP s t g) = (g, 0) := by
  have hr := room_bd s.v
  have hn := h.n
  have hlen := out_len s t g
  have hrb := raw_bytes h
  have hrl := raw_len g
  have hsm := sm_bd hs ht hrb (by omega)
  have hv := (pair_v hp).2
  unfold parseP
  rw [if_pos hp, if_neg (by omega)]
  by_cases hns : g.ns = true
  · have e : outP s t g = rawP g := by unfold outP; rw [if_pos hns]
    rw [e] at hlen ⊢
    obtain ⟨g0, g1, g2, g3, g4, g5, g6, g7⟩ := raw_get g
    have w4 : wd (rawP g) 4 = 8 + (g.d.length : Int) := wd_sum _ _ _ g4 g5
    have w0 : wd (rawP g) 0 = g.sp := wd_sum _ _ _ g0 g1
    have w2 : wd (rawP g) 2 = g.dp := wd_sum _ _ _ g2 g3
    have w6 : wd (rawP g) 6 = 0 := wd_sum _ _ 0 g6 g7
    rw [if_pos ⟨by omega, by omega⟩, if_neg]
    · unfold dgP
      rw [w0, w2, w6, raw_drop]
      have hd : decide ((0 : Int) = 0) = g.ns := by rw [hns]; rfl
      rw [hd]
    · rintro ⟨k1, _⟩
      have := h.s6 (k1 w6)
      rw [hns] at this; simp at this
  · have e : outP s t g = layP s t g := by unfold outP; rw [if_neg hns]
    rw [e] at hlen ⊢
    obtain ⟨g0, g1, g2, g3, g4, g5, g6, g7⟩ := lay_get s t g
    have w4 : wd (layP s t g) 4 = 8 + (g.d.length : Int) := wd_sum _ _ _ g4 g5
    have w0 : wd (layP s t g) 0 = g.sp := wd_sum _ _ _ g0 g1
    have w2 : wd (layP s t g) 2 = g.dp := wd_sum _ _ _ g2 g3
    have w6 : wd (layP s t g) 6 = smP s t (rawP g) := wd_sum _ _ _ g6 g7
    have ck : ckP s t (layP s t g) = 65535 := (ck_iff hs ht (lay_bytes hs ht h) hrb (by omega) (by omega) _ (ws_lay g) (by omega) (by omega)).2 rfl
    rw [if_pos ⟨by omega, by omega⟩, if_neg]
    · unfold dgP
      rw [w0, w2, w6, lay_drop]
      have hd : decide (smP s t (rawP g) = 0) = g.ns := by
        have : g.ns = false := by simpa using hns
        rw [this]
        exact decide_eq_false (by omega)
      rw [hd]
    · rintro ⟨_, k2⟩
      exact k2 (by omega) ck
/-- The first eight bytes, and the rest. -/
theorem eight {b : List Int} (h : 8 ≤ b.length) : ∃ b0 b1 b2 b3 b4 b5 b6 b7 r, b = b0 :: b1 :: b2 :: b3 :: b4 :: b5 :: b6 :: b7 :: r := by
  match b, h with
  | b0 :: b1 :: b2 :: b3 :: b4 :: b5 :: b6 :: b7 :: r, _ => exact ⟨b0, b1, b2, b3, b4, b5, b6, b7, r, rfl⟩
theorem dg_raw {b : List Int} (hb : Bytes b) (h : 8 ≤ b.length) (hl : wd b 4 = b.length) : rawP (dgP b) = (b.set 6 0).set 7 0 := by
  obtain ⟨b0, b1, b2, b3, b4, b5, b6, b7, r, rfl⟩ := eight h
  have h0 := hb.head; have h1 := hb.tail.head; have h2 := hb.tail.tail.head; have h3 := hb.tail.tail.tail.head
  have h4 := hb.tail.tail.tail.tail.head; have h5 := hb.tail.tail.tail.tail.tail.head
  simp only [wd, List.getElem?_cons_succ, List.getElem?_cons_zero, Option.getD_some, List.length_cons] at hl
  simp only [rawP, dgP, wd, List.getElem?_cons_succ, List.getElem?_cons_zero, Option.getD_some, List.drop_succ_cons, List.drop_zero, List.set_cons_succ, List.set_cons_zero, List.cons_append, List.nil_append]
  have e4 : (8 + (r.length : Int)) / 256 = b4 := by omega
  have e5 : (8 + (r.length : Int)) % 256 = b5 := by omega
  rw [e4, e5, show (256 * b0 + b1) / 256 = b0 by omega, show (256 * b0 + b1) % 256 = b1 by omega, show (256 * b2 + b3) / 256 = b2 by omega, show (256 * b2 + b3) % 256 = b3 by omega]
theorem set_back {b : List Int} (h : 8 ≤ b.length) : (((b.set 6 0).set 7 0).set 6 (b[6]?.getD 0)).set 7 (b[7]?.getD 0) = b := by
  obtain ⟨b0, b1, b2, b3, b4, b5, b6, b7, r, rfl⟩ := eight h
  rfl
theorem ws_zeroed {b : List Int} (h : 8 ≤ b.length) : ws true b = ws true ((b.set 6 0).set 7 0) + wd b 6 := by
  have e := ws_word b 3 0 0 (by omega)
  simp only [show 2 * 3 = 6 from rfl, show 6 + 1 = 7 from rfl] at e
  have e6 : wd b 6 = 256 * b[6]?.getD 0 + b[7]?.getD 0 := rfl
  omega
/-- What is taken. -/
structure Taken (s t : Ax) (b : List Int) : Prop where
  pair : pairP s t = true
  n8 : 8 ≤ b.length
  room : (b.length : Int) - 8 ≤ roomP s.v
  len : wd b 4 = b.length
  s6 : wd b 6 = 0 → s.v ≠ 6
  ck : wd b 6 ≠ 0 → ckP s t b = 65535
theorem taken_iff {s t : Ax} {b : List Int} : (parseP s t b).2 = 0 ↔ Taken s t b := by
  unfold parseP
  constructor
  · intro h
    split at h
    · rename_i h1
      split at h
      · simp at h
      · rename_i h2
        split at h
        · rename_i h3
          split at h
          · simp at h
          · rename_i h4
            refine ⟨h1, by omega, h3.1, h3.2, fun e k => h4 ⟨fun _ => k, fun n => absurd e n⟩, fun n => ?_⟩
            by_cases hc : ckP s t b = 65535
            · exact hc
            · exact absurd ⟨fun e => absurd e n, fun _ => hc⟩ h4
        · simp at h
    · simp at h
  · intro h
    rw [if_pos h.pair, if_neg (by have := h.n8; omega), if_pos ⟨h.room, h.len⟩, if_neg]
    rintro ⟨k1, k2⟩
    by_cases e : wd b 6 = 0
    · exact h.s6 e (k1 e)
    · exact k2 e (h.ck e)
theorem parse_taken {s t : Ax} {b : List Int} (h : Taken s t b) : parseP s t b = (dgP b, 0) := by
  unfold parseP
  rw [if_pos h.pair, if_neg (by have := h.n8; omega), if_pos ⟨h.room, h.len⟩, if_neg]
  rintro ⟨k1, k2⟩
  by_cases e : wd b 6 = 0
  · exact h.s6 e (k1 e)
  · exact k2 e (h.ck e)
theorem parse_no {s t : Ax} {b : List Int} (h : (parseP s t b).2 ≠ 0) : (parseP s t b).1 = zeroDg := by
  unfold parseP at h ⊢
  split
  · rename_i h1
    rw [if_pos h1] at h
    split
    · rfl
    · rename_i h2
      rw [if_neg h2] at h
      split
      · rename_i h3
        rw [if_pos h3] at h
        split
        · rfl
        · rename_i h4; rw [if_neg h4] at h; simp at h
      · rfl
  · rfl
theorem parse_cases (s t : Ax) (b : List Int) : (parseP s t b).2 = 0 ∨ (parseP s t b).2 = 1 ∨ (parseP s t b).2 = 20 ∨ (parseP s t b).2 = 51 ∨ (parseP s t b).2 = 52 := by
  unfold parseP
  split
  · split
    · simp
    · split
      · split <;> simp
      · simp
  · simp
theorem taken_fit {s t : Ax} {b : List Int} (hb : Bytes b) (h : Taken s t b) : Fit s.v (dgP b) := by
  have h0 := wd_bd hb 0; have h2 := wd_bd hb 2
  refine ⟨h0.1, h0.2, h2.1, h2.2, ?_, fun e => ?_, hb.drop 8⟩
  · have := h.room; have := h.n8
    show ((b.drop 8).length : Int) ≤ _
    rw [List.length_drop]; omega
  · show decide (wd b 6 = 0) = false
    by_cases k : wd b 6 = 0
    · exact absurd e (h.s6 k)
    · simp [k]
/-- What is taken is laid as it stood. -/
theorem out_dg {s t : Ax} (hs : WfA s) (ht : WfA t) {b : List Int} (hb : Bytes b) (h : Taken s t b) : outP s t (dgP b) = b := by
  have hraw := dg_raw hb h.n8 h.len
  have hr := room_bd s.v
  have hrm := h.room
  have h8 := h.n8
  have hwz := ws_zeroed h.n8
  have hb6 := hb.getD 6
  have hb7 := hb.getD 7
  have hw6 : wd b 6 = 256 * b[6]?.getD 0 + b[7]?.getD 0 := rfl
  by_cases k : wd b 6 = 0
  · have e : outP s t (dgP b) = rawP (dgP b) := by unfold outP; rw [if_pos (by show decide (wd b 6 = 0) = true; simp [k])]
    rw [e, hraw]
    have h6 : b[6]?.getD 0 = 0 := by omega
    have h7 : b[7]?.getD 0 = 0 := by omega
    have := set_back h.n8
    rw [h6, h7] at this
    have e2 : (((b.set 6 0).set 7 0).set 6 0).set 7 0 = (b.set 6 0).set 7 0 := by
      obtain ⟨b0, b1, b2, b3, b4, b5, b6, b7, r, rfl⟩ := eight h8
      rfl
    rw [← e2]; exact this
  · have e : outP s t (dgP b) = layP s t (dgP b) := by unfold outP; rw [if_neg (by show ¬ decide (wd b 6 = 0) = true; simp [k])]
    have hrb : Bytes ((b.set 6 0).set 7 0) := (hb.set 6 (by omega) (by omega)).set 7 (by omega) (by omega)
    have hx := (ck_iff hs ht hb hrb (by omega) (by simp) (wd b 6) hwz (by have := wd_bd hb 6; omega) (wd_bd hb 6).2).1 (h.ck k)
    rw [e]
    unfold layP
    rw [hraw, ← hx, show wd b 6 / 256 = b[6]?.getD 0 by omega, show wd b 6 % 256 = b[7]?.getD 0 by omega]
    exact set_back h.n8
theorem taken_back {s t : Ax} (hs : WfA s) (ht : WfA t) {b : List Int} (h : Taken s t b) : Taken t s b := by
  have hv := pair_v h.pair
  refine ⟨by rw [pair_comm]; exact h.pair, h.n8, by rw [hv.1]; exact h.room, h.len, by rw [hv.1]; exact h.s6, fun k => ?_⟩
  rw [ck_comm ht hs hv.1.symm]; exact h.ck k
/-- One other byte. -/
theorem one_byte {s t : Ax} (hs : WfA s) (ht : WfA t) {g : Dg} (hp : pairP s t = true) (h : Fit s.v g) (hns : g.ns = false) (k : Nat) (hk : k < (layP s t g).length) (x : Int) (hx0 : 0 ≤ x) (hx1 : x ≤ 255) (hne : x ≠ (layP s t g)[k]?.getD 0) :
    (parseP s t ((layP s t g).set k x)).2 = if k = 4 ∨ k = 5 then 51 else if wd ((layP s t g).set k x) 6 = 0 ∧ s.v ≠ 6 then 0 else 52 := by
  have hb := lay_bytes hs ht h
  have hlen := lay_len s t g
  have hr := room_bd s.v
  have hn := h.n
  have hrb := raw_bytes h
  have hrl := raw_len g
  have hsm := sm_bd hs ht hrb (by omega)
  obtain ⟨g0, g1, g2, g3, g4, g5, g6, g7⟩ := lay_get s t g
  have w4 : wd (layP s t g) 4 = 8 + (g.d.length : Int) := wd_sum _ _ _ g4 g5
  have ck : ckP s t (layP s t g) = 65535 := (ck_iff hs ht hb hrb (by omega) (by omega) _ (ws_lay g) (by omega) (by omega)).2 rfl
  generalize layP s t g = b at *
  have hcl : (b.set k x).length = b.length := by simp
  have hcb : Bytes (b.set k x) := hb.set k hx0 hx1
  have hold := hb.getD k
  have hws := ws_set true b k x hk
  have m1 := @ck_mod s t b
  have m2 := @ck_mod s t (b.set k x)
  have hckb := ck_bd hs ht hcb (by omega)
  rw [hcl] at m2
  have hck : ckP s t (b.set k x) ≠ 65535 := by
    split at hws <;> omega
  unfold parseP
  rw [if_pos hp, hcl, if_neg (by omega)]
  by_cases hk45 : k = 4 ∨ k = 5
  · rw [if_pos hk45, if_neg]
    rintro ⟨_, hw⟩
    have w45 : 256 * b[4]?.getD 0 + b[5]?.getD 0 = 8 + (g.d.length : Int) := w4
    have hw : 256 * (b.set k x)[4]?.getD 0 + (b.set k x)[5]?.getD 0 = (b.length : Int) := hw
    rcases hk45 with rfl | rfl
    · rw [List.getElem?_set_self hk, List.getElem?_set_ne (by omega)] at hw
      simp only [Option.getD_some] at hw
      omega
    · rw [List.getElem?_set_self hk, List.getElem?_set_ne (by omega)] at hw
      simp only [Option.getD_some] at hw
      omega
  · rw [if_neg hk45]
    have hw : wd (b.set k x) 4 = wd b 4 := by
      unfold wd
      rw [List.getElem?_set_ne (by omega), List.getElem?_set_ne (by omega)]
    rw [if_pos ⟨by omega, by rw [hw]; omega⟩]
    by_cases hz : wd (b.set k x) 6 = 0 ∧ s.v ≠ 6
    · rw [if_pos hz, if_neg]
      rintro ⟨k1, _⟩
      exact hz.2 (k1 hz.1)
    · rw [if_neg hz, if_pos]
      refine ⟨fun e => ?_, fun _ => hck⟩
      by_cases e6 : s.v = 6
      · exact e6
      · exact absurd ⟨e, e6⟩ hz
#print axioms one_byte
end Go.Proofs.Ytbfpphoiapggnaa
