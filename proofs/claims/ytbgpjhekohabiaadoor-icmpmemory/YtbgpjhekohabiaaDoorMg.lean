/-
  Messages as plain data: their checksums, their bytes, and what bytes are. Nothing of the program.
-/
import Derived.Test.YtbgpjhekohabiaaDoorDg
namespace Go.Proofs.YtbgpjhekohabiaaDoor
open Num
set_option linter.unusedVariables false

structure Mg where
  v : Int
  ty : Int
  co : Int
  re : Int
  d : List Int
def zeroMg : Mg := ⟨0, 0, 0, 0, []⟩
structure WfM (m : Mg) : Prop where
  v : i64ok m.v
  ty : i64ok m.ty
  co : i64ok m.co
  re0 : 0 ≤ m.re
  re1 : m.re ≤ 4294967295
  d : Bytes m.d
  dn : m.d.length ≤ 140737488355328
theorem zeroM_wf : WfM zeroMg := ⟨⟨by decide, by decide⟩, ⟨by decide, by decide⟩, ⟨by decide, by decide⟩, by decide, by decide, Bytes.nil, by decide⟩
theorem oct_iff {n : Int} : octP n = true ↔ 0 ≤ n ∧ n ≤ 255 := by simp [octP]
def mostP (v : Int) : Int := if v = 4 then 65515 else 65535
theorem most_bd (v : Int) : 65515 ≤ mostP v ∧ mostP v ≤ 65535 := by unfold mostP; split <;> omega
def bareP (b : List Int) : List Int := (b.set 2 0).set 3 0
theorem bare_len (b : List Int) : (bareP b).length = b.length := by simp [bareP]
theorem bare_bytes {b : List Int} (h : Bytes b) : Bytes (bareP b) := (h.set 2 (by omega) (by omega)).set 3 (by omega) (by omega)
/-- The sum of the bytes without their checksum, with the pseudo-header's. -/
def msumP (s t : Ax) (b : List Int) : Int := if s.v = 4 then pt (bareP b) else add (pt (psb s t 58 b.length)) (pt (bareP b))
def mckP (s t : Ax) (b : List Int) : Int := 65535 - msumP s t b
def mrawP (m : Mg) : List Int := [m.ty, m.co, 0, 0, m.re / 16777216, m.re / 65536 % 256, m.re / 256 % 256, m.re % 256] ++ m.d
def mlayP (s t : Ax) (m : Mg) : List Int := ((mrawP m).set 2 (mckP s t (mrawP m) / 256)).set 3 (mckP s t (mrawP m) % 256)
def mOk (s t : Ax) (m : Mg) : Bool := pairP s t && decide (m.v = s.v) && octP m.ty && octP m.co
def mbuildP (s t : Ax) (m : Mg) : List Int × Int :=
  if mOk s t m = true then if (m.d.length : Int) ≤ mostP m.v - 8 then (mlayP s t m, 0) else ([], 3) else ([], 1)
def q4 (b : List Int) (i : Nat) : Int := wd b i * 65536 + wd b (i + 2)
def mgP (v : Int) (b : List Int) : Mg := ⟨v, b[0]?.getD 0, b[1]?.getD 0, q4 b 4, b.drop 8⟩
def mparseP (s t : Ax) (b : List Int) : Mg × Int :=
  if pairP s t = true then
    if b.length < 8 then (zeroMg, 20) else
    if mostP s.v < b.length then (zeroMg, 3) else
    if wd b 2 = mckP s t b then (mgP s.v b, 0) else (zeroMg, 52)
  else (zeroMg, 1)
def errP (m : Mg) : Bool :=
  if m.v = 4 then decide (3 ≤ m.ty ∧ m.ty ≤ 5) || decide (m.ty = 11) || decide (m.ty = 12) else decide (m.v = 6) && (decide (0 ≤ m.ty) && decide (m.ty ≤ 127))

theorem mraw_len (m : Mg) : (mrawP m).length = 8 + m.d.length := by simp [mrawP]; omega
theorem mlay_len (s t : Ax) (m : Mg) : (mlayP s t m).length = 8 + m.d.length := by simp [mlayP, mraw_len]
structure FitM (s : Ax) (m : Mg) : Prop where
  v : m.v = s.v
  ty0 : 0 ≤ m.ty
  ty1 : m.ty ≤ 255
  co0 : 0 ≤ m.co
  co1 : m.co ≤ 255
  re0 : 0 ≤ m.re
  re1 : m.re ≤ 4294967295
  n : (m.d.length : Int) ≤ mostP s.v - 8
  d : Bytes m.d
theorem mraw_bytes {s : Ax} {m : Mg} (h : FitM s m) : Bytes (mrawP m) := by
  have h1 := h.ty0; have h2 := h.ty1; have h3 := h.co0; have h4 := h.co1; have h5 := h.re0; have h6 := h.re1
  unfold mrawP
  refine Bytes.app ?_ h.d
  exact (((((((Bytes.nil.cons (by omega) (by omega)).cons (by omega) (by omega)).cons (by omega) (by omega)).cons (by omega) (by omega)).cons (by omega) (by omega)).cons (by omega) (by omega)).cons (by omega) (by omega)).cons (by omega) (by omega)
theorem mlen {s t : Ax} (hs : WfA s) (ht : WfA t) {n : Nat} (hl : n ≤ 65535) : Bytes (psb s t 58 n) := psb_bytes hs ht (by omega) (by omega) (by omega) (by omega)
theorem msum_bd {s t : Ax} (hs : WfA s) (ht : WfA t) {b : List Int} (hb : Bytes b) (hl : b.length ≤ 65535) : 0 ≤ msumP s t b ∧ msumP s t b ≤ 65535 := by
  unfold msumP
  split
  · exact pt_bd (bare_bytes hb)
  · exact add_bd (pt_bd (mlen hs ht hl)).1 (pt_bd (bare_bytes hb)).1
theorem mck_bd {s t : Ax} (hs : WfA s) (ht : WfA t) {b : List Int} (hb : Bytes b) (hl : b.length ≤ 65535) : 0 ≤ mckP s t b ∧ mckP s t b ≤ 65535 := by
  have := msum_bd hs ht hb hl
  unfold mckP; omega
theorem msum_mod {s t : Ax} (b : List Int) : msumP s t b % 65535 = ((if s.v = 4 then 0 else ws true (psb s t 58 b.length)) + ws true (bareP b)) % 65535 := by
  have h3 : pt (bareP b) % 65535 = _ := fold_mod
  unfold msumP
  split
  · omega
  · have h1 := add_mod (pt (psb s t 58 b.length)) (pt (bareP b))
    have h2 : pt (psb s t 58 b.length) % 65535 = _ := fold_mod
    omega
theorem bare_lay (s t : Ax) (m : Mg) : bareP (mlayP s t m) = mrawP m := by
  unfold mlayP bareP
  generalize mckP s t (mrawP m) = z
  unfold mrawP; rfl
theorem bare_raw (m : Mg) : bareP (mrawP m) = mrawP m := by unfold bareP mrawP; rfl
theorem mck_lay (s t : Ax) (m : Mg) : mckP s t (mlayP s t m) = mckP s t (mrawP m) := by
  unfold mckP msumP
  rw [bare_lay, bare_raw, mlay_len, mraw_len]
theorem mlay_get (s t : Ax) (m : Mg) : (mlayP s t m)[0]?.getD 0 = m.ty ∧ (mlayP s t m)[1]?.getD 0 = m.co ∧ (mlayP s t m)[2]?.getD 0 = mckP s t (mrawP m) / 256 ∧ (mlayP s t m)[3]?.getD 0 = mckP s t (mrawP m) % 256 ∧
    (mlayP s t m)[4]?.getD 0 = m.re / 16777216 ∧ (mlayP s t m)[5]?.getD 0 = m.re / 65536 % 256 ∧ (mlayP s t m)[6]?.getD 0 = m.re / 256 % 256 ∧ (mlayP s t m)[7]?.getD 0 = m.re % 256 := by
  unfold mlayP
  generalize mckP s t (mrawP m) = z
  unfold mrawP; exact ⟨rfl, rfl, rfl, rfl, rfl, rfl, rfl, rfl⟩
theorem mlay_drop (s t : Ax) (m : Mg) : (mlayP s t m).drop 8 = m.d := by
  unfold mlayP
  generalize mckP s t (mrawP m) = z
  unfold mrawP; simp
theorem mlay_bytes {s t : Ax} (hs : WfA s) (ht : WfA t) {m : Mg} (h : FitM s m) : Bytes (mlayP s t m) := by
  have hr := mraw_bytes h
  have h1 := most_bd s.v
  have h2 := h.n
  have := mck_bd hs ht hr (by rw [mraw_len]; omega)
  exact (hr.set 2 (by omega) (by omega)).set 3 (by omega) (by omega)
theorem mlay_wd {s t : Ax} (m : Mg) : wd (mlayP s t m) 2 = mckP s t (mlayP s t m) := by
  obtain ⟨g0, g1, g2, g3, g4, g5, g6, g7⟩ := mlay_get s t m
  rw [mck_lay]; exact wd_sum _ _ _ g2 g3
/-- What is laid is read as it was. -/
theorem mparse_lay {s t : Ax} {m : Mg} (hp : pairP s t = true) (h : FitM s m) : mparseP s t (mlayP s t m) = (m, 0) := by
  have hn := h.n
  have hlen := mlay_len s t m
  have hm := most_bd s.v
  have h5 := h.re0; have h6 := h.re1
  obtain ⟨g0, g1, g2, g3, g4, g5, g6, g7⟩ := mlay_get s t m
  unfold mparseP
  rw [if_pos hp, if_neg (by omega), if_neg (by omega), if_pos (mlay_wd m)]
  have e : mgP s.v (mlayP s t m) = m := by
    unfold mgP q4 wd
    rw [g0, g1, g4, g5, g6, g7, mlay_drop, ← h.v, show (256 * (m.re / 16777216) + m.re / 65536 % 256) * 65536 + (256 * (m.re / 256 % 256) + m.re % 256) = m.re by omega]
  rw [e]
theorem mbuild_ok {s t : Ax} {m : Mg} (hp : pairP s t = true) (h : FitM s m) : mbuildP s t m = (mlayP s t m, 0) := by
  have hn := h.n
  unfold mbuildP
  rw [if_pos (by simp [mOk, hp, h.v, oct_iff, h.ty0, h.ty1, h.co0, h.co1]), if_pos (by rw [h.v]; exact hn)]
theorem mok_iff {s t : Ax} {m : Mg} : mOk s t m = true ↔ pairP s t = true ∧ m.v = s.v ∧ (0 ≤ m.ty ∧ m.ty ≤ 255) ∧ (0 ≤ m.co ∧ m.co ≤ 255) := by
  simp only [mOk, Bool.and_eq_true, oct_iff, decide_eq_true_eq]
  constructor
  · rintro ⟨⟨⟨a, b⟩, c⟩, d⟩; exact ⟨a, b, c, d⟩
  · rintro ⟨a, b, c, d⟩; exact ⟨⟨⟨a, b⟩, c⟩, d⟩
theorem mbuild_fit {s t : Ax} {m : Mg} (hw : WfM m) (h : (mbuildP s t m).2 = 0) : pairP s t = true ∧ FitM s m ∧ (mbuildP s t m).1 = mlayP s t m := by
  unfold mbuildP at h ⊢
  by_cases h1 : mOk s t m = true
  · rw [if_pos h1] at h ⊢
    by_cases h2 : (m.d.length : Int) ≤ mostP m.v - 8
    · rw [if_pos h2]
      obtain ⟨a, b, c, d⟩ := mok_iff.1 h1
      exact ⟨a, ⟨b, c.1, c.2, d.1, d.2, hw.re0, hw.re1, by rw [← b]; exact h2, hw.d⟩, rfl⟩
    · rw [if_neg h2] at h; simp at h
  · rw [if_neg h1] at h; simp at h
structure TakenM (s t : Ax) (b : List Int) : Prop where
  pair : pairP s t = true
  n8 : 8 ≤ b.length
  room : (b.length : Int) ≤ mostP s.v
  ck : wd b 2 = mckP s t b
theorem mtaken_iff {s t : Ax} {b : List Int} : (mparseP s t b).2 = 0 ↔ TakenM s t b := by
  unfold mparseP
  constructor
  · intro h
    split at h
    · rename_i h1
      split at h
      · simp at h
      · rename_i h2
        split at h
        · simp at h
        · rename_i h3
          split at h
          · rename_i h4; exact ⟨h1, by omega, by omega, h4⟩
          · simp at h
    · simp at h
  · intro h
    rw [if_pos h.pair, if_neg (by have := h.n8; omega), if_neg (by have := h.room; omega), if_pos h.ck]
theorem mparse_taken {s t : Ax} {b : List Int} (h : TakenM s t b) : mparseP s t b = (mgP s.v b, 0) := by
  unfold mparseP
  rw [if_pos h.pair, if_neg (by have := h.n8; omega), if_neg (by have := h.room; omega), if_pos h.ck]
theorem mparse_no {s t : Ax} {b : List Int} (h : (mparseP s t b).2 ≠ 0) : (mparseP s t b).1 = zeroMg := by
  unfold mparseP at h ⊢
  split
  · rename_i h1
    rw [if_pos h1] at h
    split
    · rfl
    · rename_i h2
      rw [if_neg h2] at h
      split
      · rfl
      · rename_i h3
        rw [if_neg h3] at h
        split
        · rename_i h4; rw [if_pos h4] at h; simp at h
        · rfl
  · rfl
theorem mparse_cases {s t : Ax} (hp : pairP s t = true) (b : List Int) : (b.length < 8 ∧ (mparseP s t b).2 = 20) ∨ (8 ≤ b.length ∧ ((mparseP s t b).2 = 0 ∨ (mparseP s t b).2 = 3 ∨ (mparseP s t b).2 = 52)) := by
  unfold mparseP
  rw [if_pos hp]
  split
  · left; exact ⟨by assumption, rfl⟩
  · right
    refine ⟨by omega, ?_⟩
    split
    · simp
    · split <;> simp
theorem q4_bd {b : List Int} (hb : Bytes b) (i : Nat) : 0 ≤ q4 b i ∧ q4 b i ≤ 4294967295 := by
  have h1 := wd_bd hb i; have h2 := wd_bd hb (i + 2)
  unfold q4; omega
theorem mtaken_fit {s t : Ax} {b : List Int} (hb : Bytes b) (h : TakenM s t b) : FitM s (mgP s.v b) := by
  have h0 := hb.getD 0; have h1 := hb.getD 1; have h4 := q4_bd hb 4
  refine ⟨rfl, h0.1, h0.2, h1.1, h1.2, h4.1, h4.2, ?_, hb.drop 8⟩
  have := h.room; have := h.n8
  show ((b.drop 8).length : Int) ≤ _
  rw [List.length_drop]; omega
theorem mg_raw {b : List Int} (v : Int) (hb : Bytes b) (h : 8 ≤ b.length) : mrawP (mgP v b) = bareP b := by
  obtain ⟨b0, b1, b2, b3, b4, b5, b6, b7, r, rfl⟩ := eight h
  have h4 := hb.tail.tail.tail.tail.head; have h5 := hb.tail.tail.tail.tail.tail.head
  have h6 := hb.tail.tail.tail.tail.tail.tail.head; have h7 := hb.tail.tail.tail.tail.tail.tail.tail.head
  simp only [mrawP, mgP, q4, wd, bareP, List.getElem?_cons_succ, List.getElem?_cons_zero, Option.getD_some, List.drop_succ_cons, List.drop_zero, List.set_cons_succ, List.set_cons_zero, List.cons_append, List.nil_append]
  have e4 : ((256 * b4 + b5) * 65536 + (256 * b6 + b7)) / 16777216 = b4 := by omega
  have e5 : ((256 * b4 + b5) * 65536 + (256 * b6 + b7)) / 65536 % 256 = b5 := by omega
  have e6 : ((256 * b4 + b5) * 65536 + (256 * b6 + b7)) / 256 % 256 = b6 := by omega
  have e7 : ((256 * b4 + b5) * 65536 + (256 * b6 + b7)) % 256 = b7 := by omega
  rw [e4, e5, e6, e7]
/-- What is taken is laid as it stood. -/
theorem mlay_mg {s t : Ax} {b : List Int} (hb : Bytes b) (h : TakenM s t b) : mlayP s t (mgP s.v b) = b := by
  have hb2 := hb.getD 2
  have hb3 := hb.getD 3
  have hraw := mg_raw s.v hb h.n8
  have hck : mckP s t (bareP b) = mckP s t b := by
    unfold mckP msumP
    rw [bare_len]
    have : bareP (bareP b) = bareP b := by
      obtain ⟨b0, b1, b2, b3, b4, b5, b6, b7, r, rfl⟩ := eight h.n8
      rfl
    rw [this]
  have hw : 256 * b[2]?.getD 0 + b[3]?.getD 0 = mckP s t b := h.ck
  unfold mlayP
  have e2 : mckP s t b / 256 = b[2]?.getD 0 := by omega
  have e3 : mckP s t b % 256 = b[3]?.getD 0 := by omega
  rw [hraw, hck, e2, e3]
  obtain ⟨b0, b1, b2, b3, b4, b5, b6, b7, r, rfl⟩ := eight h.n8
  rfl
/-- One other byte. -/
theorem mone_byte {s t : Ax} (hs : WfA s) (ht : WfA t) {m : Mg} (hp : pairP s t = true) (h : FitM s m) (k : Nat) (hk : k < (mlayP s t m).length) (x : Int) (hx0 : 0 ≤ x) (hx1 : x ≤ 255) (hne : x ≠ (mlayP s t m)[k]?.getD 0) :
    mparseP s t ((mlayP s t m).set k x) = (zeroMg, 52) := by
  have hb := mlay_bytes hs ht h
  have hlen := mlay_len s t m
  have hm := most_bd s.v
  have hn := h.n
  have hwd := mlay_wd (s := s) (t := t) m
  generalize mlayP s t m = b at *
  have hcl : (b.set k x).length = b.length := by simp
  have hcb : Bytes (b.set k x) := hb.set k hx0 hx1
  have hold := hb.getD k
  unfold mparseP
  rw [if_pos hp, hcl, if_neg (by omega), if_neg (by omega), if_neg]
  intro he
  have m1 := @msum_mod s t b
  have m2 := @msum_mod s t (b.set k x)
  rw [hcl] at m2
  by_cases hk23 : k = 2 ∨ k = 3
  · have e : bareP (b.set k x) = bareP b := by
      unfold bareP
      rcases hk23 with rfl | rfl
      · rw [List.set_set]
      · rw [List.set_comm _ _ (by omega : (3 : Nat) ≠ 2), List.set_set]
    have hcc : mckP s t (b.set k x) = mckP s t b := by unfold mckP msumP; rw [e, hcl]
    rw [hcc, ← hwd] at he
    unfold wd at he
    simp only [Nat.reduceAdd] at he
    rcases hk23 with rfl | rfl
    · rw [List.getElem?_set_self hk, List.getElem?_set_ne (by omega)] at he
      simp only [Option.getD_some] at he
      omega
    · rw [List.getElem?_set_self hk, List.getElem?_set_ne (by omega)] at he
      simp only [Option.getD_some] at he
      omega
  · have hw : wd (b.set k x) 2 = wd b 2 := by
      unfold wd
      rw [List.getElem?_set_ne (by omega), List.getElem?_set_ne (by omega)]
    have e : bareP (b.set k x) = (bareP b).set k x := by
      unfold bareP
      rw [List.set_comm _ _ (by omega : k ≠ 2), List.set_comm _ _ (by omega : k ≠ 3)]
    have hws := ws_set true (bareP b) k x (by rw [bare_len]; omega)
    have hbk : (bareP b)[k]?.getD 0 = b[k]?.getD 0 := by
      unfold bareP
      rw [List.getElem?_set_ne (by omega), List.getElem?_set_ne (by omega)]
    rw [hbk] at hws
    rw [e] at m2
    have hc1 : mckP s t b = 65535 - msumP s t b := rfl
    have hc2 : mckP s t (b.set k x) = 65535 - msumP s t (b.set k x) := rfl
    split at hws <;> omega
#print axioms mone_byte
end Go.Proofs.YtbgpjhekohabiaaDoor
