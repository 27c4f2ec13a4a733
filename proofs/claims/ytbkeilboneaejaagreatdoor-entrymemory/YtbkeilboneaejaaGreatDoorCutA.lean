/-
  own of package cut.
-/
import Derived.Test.YtbkeilboneaejaaGreatDoorPk6
import Derived.Test.YtbkeilboneaejaaGreatDoorLp
import Derived.Test.YtbkeilboneaejaaGreatDoorHdc
import Derived.Test.YtbkeilboneaejaaGreatDoorUnt
import Derived.Deep.RegionHeld3
import Derived.Deep.CutBlock
import Derived.Deep.DeepCutAuto
namespace Go.Proofs.YtbkeilboneaejaaGreatDoor
open Num
set_option linter.unusedVariables false

/-- Equal or not. -/
def pkDec (p q : Pk) : Decidable (p = q) :=
  decidable_of_iff (p.v = q.v ∧ p.tos = q.tos ∧ p.flow = q.flow ∧ p.sv = q.sv ∧ p.sb = q.sb ∧ p.dv = q.dv ∧ p.db = q.db ∧ p.proto = q.proto ∧ p.ttl = q.ttl ∧ p.id = q.id ∧ p.df = q.df ∧ p.more = q.more ∧ p.frag = q.frag ∧ p.off = q.off ∧ p.o = q.o ∧ p.d = q.d) ⟨fun h => by
    cases p; cases q
    simp only at h
    simp only [Pk.mk.injEq]
    exact h, fun h => by subst h; simp⟩
abbrev dP (p q : Pk) : Bool := @decide (p = q) (pkDec p q)
def hdC (p : Pk) : Int := if p.v = 6 then S6.headP p else (if rightP p = true then 20 + p.o.length else 0)
def longP (p : Pk) : Int := if hdC p = 0 then 0 else hdC p + p.d.length
def uncutP (p : Pk) : Bool := decide (0 < longP p) && decide (p.off = 0) && !p.more && !p.frag
def mtuP (m v : Int) : Bool := decide ((if v = 6 then 1280 else 68) ≤ m) && decide (m ≤ 65535)
def fitsP (p : Pk) (m : Int) : Bool := decide (0 < longP p) && decide (longP p ≤ m)
def fstP (p : Pk) (id : Int) : Pk := if p.v = 6 then { p with d := [], frag := true, id := id } else { p with d := [] }
def latP (p : Pk) (id : Int) : Pk := { fstP p id with o := carryP p.o }
def plcP (f : Pk) (n : Nat) (l : List Int) (m : Bool) : Pk := { f with off := n, d := l, more := m }
def shareP (left room : Nat) (v : Int) : Nat := if left ≤ (if v = 6 then room / 8 * 8 else room) then left else room / 8 * 8
def roomP (f : Pk) (m : Int) : Nat := (m - longP f).toNat
def pcsP (p : Pk) (m : Int) (lat : Pk) : Nat → Pk → Nat → List Pk
  | 0, _, _ => []
  | k + 1, f, n => if n < p.d.length then
      plcP f n ((p.d.drop n).take (shareP (p.d.length - n) (roomP f m) p.v)) (decide (shareP (p.d.length - n) (roomP f m) p.v < p.d.length - n)) :: pcsP p m lat k lat (n + shareP (p.d.length - n) (roomP f m) p.v)
    else []
def cutL (p : Pk) (m id : Int) : List Pk := pcsP p m (latP p id) p.d.length (fstP p id) 0
def cutP (p : Pk) (m id : Int) : List Pk × Int :=
  if (uncutP p && mtuP m p.v) = true then (if fitsP p m = true then ([p], 0) else if p.df = true then ([], 100) else (cutL p m id, 0)) else ([], 1)
def partP (p : Pk) (m : Int) (lat : Pk) : Pk → Nat → List Pk → Bool
  | _, n, [] => decide (n = p.d.length)
  | f, n, q :: r => fitsP q m && decide (n + q.d.length ≤ p.d.length) && dP q (plcP f n ((p.d.drop n).take q.d.length) (!r.isEmpty)) && partP p m lat lat (n + q.d.length) r
def isP (p : Pk) (m : Int) (l : List Pk) : Bool :=
  uncutP p && mtuP m p.v && (match l with | [] => false | [q] => fitsP p m && dP q p | q :: r => !p.df && partP p m (latP p q.id) (fstP p q.id) 0 (q :: r))

/-! What is right, of either version. -/
def rgtP (p : Pk) : Bool := if p.v = 6 then S6.rightP p else rightP p
def topP (p : Pk) : Nat := if p.v = 6 then S6.hofP p else 20 + p.o.length
theorem hd_eq (p : Pk) : hdC p = if rgtP p = true then (topP p : Int) else 0 := by
  unfold hdC rgtP topP S6.headP
  by_cases h : p.v = 6
  · simp only [h, if_true]
  · simp only [h, if_false]
    split
    · push_cast; rfl
    · rfl
theorem top_pos (p : Pk) : 20 ≤ topP p := by
  unfold topP S6.hofP
  split
  · split <;> omega
  · omega
theorem long_eq (p : Pk) : longP p = if rgtP p = true then ((topP p + p.d.length : Nat) : Int) else 0 := by
  unfold longP
  rw [hd_eq]
  have := top_pos p
  by_cases h : rgtP p = true
  · simp only [h, if_true]
    rw [if_neg (by omega)]; push_cast; rfl
  · rw [if_neg h, if_pos rfl, if_neg h]
theorem long_pos (p : Pk) : 0 < longP p ↔ rgtP p = true := by
  rw [long_eq]
  have := top_pos p
  by_cases h : rgtP p = true
  · simp only [h, if_true, iff_true]; omega
  · rw [if_neg h]; simp [h]
theorem long_of {p : Pk} (h : rgtP p = true) : longP p = ((topP p + p.d.length : Nat) : Int) := by rw [long_eq, if_pos h]
structure Unc (p : Pk) : Prop where
  r : rgtP p = true
  off : p.off = 0
  more : p.more = false
  frag : p.frag = false
theorem uncut_iff (p : Pk) : uncutP p = true ↔ Unc p := by
  unfold uncutP
  simp only [Bool.and_eq_true, decide_eq_true_eq, Bool.not_eq_true', long_pos]
  exact ⟨fun ⟨⟨⟨a, b⟩, c⟩, d⟩ => ⟨a, b, c, d⟩, fun h => ⟨⟨⟨h.r, h.off⟩, h.more⟩, h.frag⟩⟩
theorem fits_iff (p : Pk) (m : Int) : fitsP p m = true ↔ rgtP p = true ∧ ((topP p + p.d.length : Nat) : Int) ≤ m := by
  unfold fitsP
  simp only [Bool.and_eq_true, decide_eq_true_eq, long_pos]
  constructor
  · rintro ⟨a, b⟩; rw [long_of a] at b; exact ⟨a, b⟩
  · rintro ⟨a, b⟩; rw [long_of a]; exact ⟨a, b⟩
theorem mtu_iff (m v : Int) : mtuP m v = true ↔ (if v = 6 then 1280 else 68) ≤ m ∧ m ≤ 65535 := by
  unfold mtuP; simp only [Bool.and_eq_true, decide_eq_true_eq]
theorem share_le (left room : Nat) (v : Int) : shareP left room v ≤ left := by unfold shareP; split <;> (split at * <;> omega)
theorem share_room (left room : Nat) (v : Int) : shareP left room v ≤ room := by unfold shareP; split <;> (split at * <;> omega)
theorem share_pos (left room : Nat) (v : Int) (h : 0 < left) (hr : 8 ≤ room) : 0 < shareP left room v := by unfold shareP; split <;> (split at * <;> omega)
theorem share_8 (left room : Nat) (v : Int) : shareP left room v = left ∨ shareP left room v % 8 = 0 := by unfold shareP; split <;> (split at * <;> omega)

theorem fst_v (p : Pk) (id : Int) : (fstP p id).v = p.v := by unfold fstP; split <;> rfl
theorem lat_v (p : Pk) (id : Int) : (latP p id).v = p.v := fst_v p id
theorem fst_d (p : Pk) (id : Int) : (fstP p id).d = [] := by unfold fstP; split <;> rfl
theorem lat_d (p : Pk) (id : Int) : (latP p id).d = [] := fst_d p id
theorem fst_o (p : Pk) (id : Int) : (fstP p id).o = p.o := by unfold fstP; split <;> rfl
theorem fst_top {p : Pk} (id : Int) : topP (fstP p id) = if p.v = 6 then 48 else 20 + p.o.length := by
  unfold topP
  rw [fst_v, fst_o]
  by_cases h : p.v = 6
  · rw [if_pos h, if_pos h]; unfold fstP S6.hofP; rw [if_pos h]; rfl
  · rw [if_neg h, if_neg h]
theorem lat_top {p : Pk} (id : Int) : topP (latP p id) = if p.v = 6 then 48 else 20 + (carryP p.o).length := by
  unfold topP
  rw [lat_v]
  by_cases h : p.v = 6
  · rw [if_pos h, if_pos h]; unfold latP fstP S6.hofP; rw [if_pos h]; rfl
  · rw [if_neg h, if_neg h]; rfl
theorem plc_top (f : Pk) (n : Nat) (l : List Int) (m : Bool) : topP (plcP f n l m) = topP f := rfl
theorem carry_nil {b : List Int} (hb : b = []) : carryP b = [] := by
  subst hb
  have := (carry_valid (b := []) Bytes.nil).2.1
  exact List.eq_nil_of_length_eq_zero (by simpa using this)
/-- A piece is right. -/
structure Frm (p f : Pk) : Prop where
  h4 : p.v ≠ 6 → ∃ o, f = { p with d := [], o := o } ∧ validP o = true ∧ o.length ≤ p.o.length ∧ Bytes o
  h6 : p.v = 6 → ∃ id, f = { p with d := [], frag := true, id := id } ∧ 0 ≤ id ∧ id ≤ 4294967295
theorem Unc.fst {p : Pk} (h : Unc p) (hw : Wf p) {id : Int} (h0 : 0 ≤ id) (h1 : id ≤ 4294967295) : Frm p (fstP p id) := by
  refine ⟨fun hv => ⟨p.o, ?_, ?_, Nat.le_refl _, hw.o⟩, fun hv => ⟨id, ?_, h0, h1⟩⟩
  · unfold fstP; rw [if_neg hv]
  · have := h.r; unfold rgtP at this; rw [if_neg hv, right_iff] at this; exact this.2
  · unfold fstP; rw [if_pos hv]
theorem Unc.lat {p : Pk} (h : Unc p) (hw : Wf p) {id : Int} (h0 : 0 ≤ id) (h1 : id ≤ 4294967295) : Frm p (latP p id) := by
  have hc := carry_valid hw.o
  refine ⟨fun hv => ⟨carryP p.o, ?_, hc.1, hc.2.1, hc.2.2.1⟩, fun hv => ⟨id, ?_, h0, h1⟩⟩
  · unfold latP fstP; rw [if_neg hv]
  · have := h.r; unfold rgtP at this; rw [if_pos hv, S6.right_iff] at this
    unfold latP fstP; rw [if_pos hv, carry_nil this.o, ← this.o]
theorem Frm.wf {p f : Pk} (h : Frm p f) (hw : Wf p) (n : Nat) (hn : n ≤ 140737488355328) (l : List Int) (hl : Bytes l) (hk : l.length ≤ 140737488355328) (m : Bool) : Wf (plcP f n l m) := by
  by_cases hv : p.v = 6
  · obtain ⟨id, rfl, h0, h1⟩ := h.h6 hv
    exact ⟨hw.v, hw.tos, hw.flow, hw.sv, hw.sl, hw.sb, hw.dv, hw.dl, hw.db, hw.proto, hw.ttl, h0, h1, ⟨by show (-9223372036854775808 : Int) ≤ (n : Int); omega, by show (n : Int) ≤ 9223372036854775807; omega⟩, hw.o, hw.ol, hl, hk⟩
  · obtain ⟨o, rfl, h0, h1, h2⟩ := h.h4 hv
    exact ⟨hw.v, hw.tos, hw.flow, hw.sv, hw.sl, hw.sb, hw.dv, hw.dl, hw.db, hw.proto, hw.ttl, hw.id0, hw.id1, ⟨by show (-9223372036854775808 : Int) ≤ (n : Int); omega, by show (n : Int) ≤ 9223372036854775807; omega⟩, h2, Nat.le_trans h1 hw.ol, hl, hk⟩
theorem Unc.all {p : Pk} (h : Unc p) : p.d.length ≤ 65535 ∧ (p.v ≠ 6 → p.o.length ≤ 40 ∧ 20 + p.o.length + p.d.length ≤ 65535) := by
  have := h.r; unfold rgtP at this
  by_cases hv : p.v = 6
  · rw [if_pos hv, S6.right_iff] at this
    have := this.reach; have := h.off
    exact ⟨by omega, fun h => absurd hv h⟩
  · rw [if_neg hv, right_iff] at this
    have h1 := this.1.all; have h2 := valid_len this.2
    exact ⟨by omega, fun _ => ⟨h2.1, h1⟩⟩
theorem piece_right {p f : Pk} (h : Unc p) (hw : Wf p) (hf : Frm p f) (n : Nat) (l : List Int) (m : Bool) (h0 : 0 < l.length) (h8 : n % 8 = 0) (hn : n + l.length ≤ p.d.length) (hm : m = true → l.length % 8 = 0) (hs : p.v = 6 → l.length ≤ 65527) : rgtP (plcP f n l m) = true := by
  have ha := h.all
  have hr := h.r
  unfold rgtP at hr ⊢
  by_cases hv : p.v = 6
  · obtain ⟨id, rfl, -⟩ := hf.h6 hv
    have hs := hs hv
    rw [if_pos hv, S6.right_iff] at hr
    refine (if_pos hv).trans ?_
    rw [S6.right_iff]
    exact ⟨hr.v, hr.df, hr.o, hr.f0, hr.f1, hr.t0, hr.t1, hr.l0, hr.l1, hr.r0, hr.r1, hr.r44, hr.sv, hr.dv, Int.natCast_nonneg n, by show (n : Int) ≤ 65528; omega, by show (n : Int) % 8 = 0; omega, hm, fun _ => by show l.length ≠ 0; omega, by show (n : Int) + l.length ≤ 65535; omega, fun e => by simp [plcP] at e, by show (if true = true then 48 else 40) - 40 + l.length ≤ 65535; simp; omega⟩
  · obtain ⟨o, rfl, hv', ho, -⟩ := hf.h4 hv
    rw [if_neg hv, right_iff] at hr
    refine (if_neg hv).trans ?_
    rw [right_iff]
    have hr1 := hr.1
    have ha2 := ha.2 hv
    exact ⟨⟨hr1.v, hr1.flow, hr1.frag, hr1.id, hr1.t0, hr1.t1, hr1.l0, hr1.l1, hr1.r0, hr1.r1, hr1.sv, hr1.sb, hr1.dv, hr1.db, Int.natCast_nonneg n, by show (n : Int) ≤ 65528; omega, by show (n : Int) % 8 = 0; omega, hm, fun _ => by show l.length ≠ 0; omega, fun _ => by show l.length ≠ 0; omega, by show (n : Int) + l.length ≤ 65535; omega, by show 20 + o.length + l.length ≤ 65535; omega⟩, hv'⟩
/-- The frame by itself is right, and leaves room. -/
theorem frame_right {p f : Pk} (h : Unc p) (hw : Wf p) (hf : Frm p f) : rgtP f = true ∧ f.d = [] ∧ topP f ≤ 60 ∧ (p.v = 6 → topP f = 48) := by
  have ha := h.all
  have hr := h.r
  unfold rgtP at hr ⊢
  by_cases hv : p.v = 6
  · obtain ⟨id, rfl, -⟩ := hf.h6 hv
    rw [if_pos hv, S6.right_iff] at hr
    have e : topP { p with d := [], frag := true, id := id } = 48 := by unfold topP; rw [if_pos (show p.v = 6 from hv)]; rfl
    refine ⟨(if_pos hv).trans ((S6.right_iff _).2 ?_), rfl, by omega, fun _ => e⟩
    refine ⟨hr.v, hr.df, hr.o, hr.f0, hr.f1, hr.t0, hr.t1, hr.l0, hr.l1, hr.r0, hr.r1, hr.r44, hr.sv, hr.dv, hr.o0, hr.o1, hr.o8, fun e => ?_, fun e => ?_, ?_, fun e => by simp at e, by show (if true = true then 48 else 40) - 40 + 0 ≤ 65535; simp⟩
    · rw [show ({ p with d := [], frag := true, id := id } : Pk).more = p.more from rfl, h.more] at e; simp at e
    · rcases e with e | e
      · rw [show ({ p with d := [], frag := true, id := id } : Pk).more = p.more from rfl, h.more] at e; simp at e
      · rw [show ({ p with d := [], frag := true, id := id } : Pk).off = p.off from rfl, h.off] at e; simp at e
    · show p.off + ((0 : Nat) : Int) ≤ 65535; rw [h.off]; simp
  · obtain ⟨o, rfl, hv', ho, -⟩ := hf.h4 hv
    rw [if_neg hv, right_iff] at hr
    have hr1 := hr.1
    have ha2 := ha.2 hv
    have e : topP { p with d := [], o := o } = 20 + o.length := by unfold topP; rw [if_neg (show ¬ p.v = 6 from hv)]
    refine ⟨(if_neg hv).trans ((right_iff _).2 ⟨?_, hv'⟩), rfl, by omega, fun e => absurd e hv⟩
    refine ⟨hr1.v, hr1.flow, hr1.frag, hr1.id, hr1.t0, hr1.t1, hr1.l0, hr1.l1, hr1.r0, hr1.r1, hr1.sv, hr1.sb, hr1.dv, hr1.db, hr1.o0, hr1.o1, hr1.o8, fun e => rfl, fun e => ?_, fun e => ?_, ?_, by show 20 + o.length + 0 ≤ 65535; omega⟩
    · rw [show ({ p with d := [], o := o } : Pk).more = p.more from rfl, h.more] at e; simp at e
    · rw [show ({ p with d := [], o := o } : Pk).off = p.off from rfl, h.off] at e; simp at e
    · show p.off + ((0 : Nat) : Int) ≤ 65535; rw [h.off]; simp
theorem room_eq {p f : Pk} (h : Unc p) (hw : Wf p) (hf : Frm p f) {m : Int} (hm : mtuP m p.v = true) : longP f = topP f ∧ roomP f m = (m - topP f).toNat ∧ 8 ≤ roomP f m ∧ (roomP f m : Int) = m - topP f ∧ m ≤ 65535 ∧ (p.v = 6 → roomP f m ≤ 65487) ∧ roomP f m ≤ 65515 := by
  obtain ⟨h1, h2, h3, h4⟩ := frame_right h hw hf
  have h5 := (mtu_iff _ _).1 hm
  have e : longP f = topP f := by rw [long_of h1, h2]; simp
  have ht := top_pos f
  have e2 : roomP f m = (m - topP f).toNat := by unfold roomP; rw [e]
  by_cases hv : p.v = 6
  · rw [if_pos hv] at h5
    have := h4 hv
    exact ⟨e, e2, by omega, by omega, by omega, fun _ => by omega, by omega⟩
  · rw [if_neg hv] at h5
    exact ⟨e, e2, by omega, by omega, by omega, fun h => absurd h hv, by omega⟩
#print axioms room_eq
end Go.Proofs.YtbkeilboneaejaaGreatDoor

namespace Go.Proofs.YtbkeilboneaejaaGreatDoor
open Num
set_option linter.unusedVariables false

theorem pcs_nil {p : Pk} {m : Int} {lat f : Pk} {k n : Nat} (h : ¬ n < p.d.length) : pcsP p m lat k f n = [] := by
  cases k with
  | zero => rfl
  | succ k => rw [pcsP, if_neg h]
theorem pcs_empty {p : Pk} {m : Int} {lat f : Pk} {k n : Nat} (h : p.d.length - n ≤ k) : (pcsP p m lat k f n).isEmpty = decide (¬ n < p.d.length) := by
  by_cases hn : n < p.d.length
  · obtain ⟨j, rfl⟩ : ∃ j, k = j + 1 := ⟨k - 1, by omega⟩
    rw [pcsP, if_pos hn]; simp [hn]
  · rw [pcs_nil hn]; simp; omega
/-- What the next piece takes. -/
structure Took (p : Pk) (f : Pk) (m : Int) (n s : Nat) : Prop where
  eq : s = shareP (p.d.length - n) (roomP f m) p.v
  pos : 0 < s
  le : n + s ≤ p.d.length
  room : s ≤ roomP f m
  d8 : n + s = p.d.length ∨ s % 8 = 0
  len : ((p.d.drop n).take s).length = s
  long : (topP f : Int) + s ≤ m
  six : p.v = 6 → s ≤ 65527
theorem took {p f : Pk} {m : Int} (h : Unc p) (hw : Wf p) (hf : Frm p f) (hm : mtuP m p.v = true) {n : Nat} (hn : n < p.d.length) : Took p f m n (shareP (p.d.length - n) (roomP f m) p.v) := by
  obtain ⟨r1, r2, r3, r4, r5, r6, r7⟩ := room_eq h hw hf hm
  have s1 := share_le (p.d.length - n) (roomP f m) p.v
  have s2 := share_room (p.d.length - n) (roomP f m) p.v
  have s3 := share_pos (p.d.length - n) (roomP f m) p.v (by omega) r3
  have s4 := share_8 (p.d.length - n) (roomP f m) p.v
  generalize hs : shareP (p.d.length - n) (roomP f m) p.v = s at *
  exact ⟨hs.symm, s3, by omega, s2, by omega, by simp; omega, by omega, fun hv => by have := r6 hv; omega⟩
theorem part_pcs {p lat : Pk} {m : Int} (h : Unc p) (hw : Wf p) (hl : Frm p lat) (hm : mtuP m p.v = true) : ∀ (k : Nat) (f : Pk) (n : Nat), Frm p f → p.d.length - n ≤ k → n ≤ p.d.length → (n = p.d.length ∨ n % 8 = 0) → partP p m lat f n (pcsP p m lat k f n) = true
  | 0, f, n, hf, hk, hn, h8 => by
    rw [pcsP, partP]; simp; omega
  | k + 1, f, n, hf, hk, hn, h8 => by
    by_cases hlt : n < p.d.length
    · have ht := took h hw hf hm hlt
      rw [pcsP, if_pos hlt]
      generalize shareP (p.d.length - n) (roomP f m) p.v = s at *
      have hle := ht.le
      have hlen := ht.len
      have hpos := ht.pos
      have h8' : n % 8 = 0 := by omega
      have hr : rgtP (plcP f n ((p.d.drop n).take s) (decide (s < p.d.length - n))) = true :=
        piece_right h hw hf n _ _ (by rw [ht.len]; exact hpos) h8' (by rw [ht.len]; exact hle) (fun e => by rw [ht.len]; have := ht.d8; have := of_decide_eq_true e; omega) (fun hv => by rw [ht.len]; exact ht.six hv)
      have hfit : fitsP (plcP f n ((p.d.drop n).take s) (decide (s < p.d.length - n))) m = true := by
        rw [fits_iff]
        refine ⟨hr, ?_⟩
        have := ht.long
        rw [plc_top]
        show ((topP f + ((p.d.drop n).take s).length : Nat) : Int) ≤ m
        rw [hlen]; omega
      rw [partP, hfit, show (plcP f n ((p.d.drop n).take s) (decide (s < p.d.length - n))).d.length = s from hlen, pcs_empty (by omega),
        part_pcs h hw hl hm k lat (n + s) hl (by omega) hle (by have := ht.d8; omega)]
      have e : (!decide (¬ n + s < p.d.length)) = decide (s < p.d.length - n) := by
        by_cases c : n + s < p.d.length
        · simp [c]; omega
        · simp [c]; omega
      rw [e]
      simp [hle]
    · rw [pcs_nil hlt, partP]; simp; omega
theorem fst_id (p : Pk) (id : Int) : fstP p (fstP p id).id = fstP p id := by
  by_cases hv : p.v = 6
  · simp [fstP, hv]
  · simp [fstP, hv]
theorem lat_id (p : Pk) (id : Int) : latP p (fstP p id).id = latP p id := by unfold latP; rw [fst_id]
/-- A packet that does not fit: its first piece is not all. -/
theorem cut_two {p : Pk} {m id : Int} (h : Unc p) (hw : Wf p) (h0 : 0 ≤ id) (h1 : id ≤ 4294967295) (hm : mtuP m p.v = true) (hno : fitsP p m = false) :
    ∃ s q r, Took p (fstP p id) m 0 s ∧ s < p.d.length ∧ cutL p m id = plcP (fstP p id) 0 (p.d.take s) true :: q :: r ∧ q :: r = pcsP p m (latP p id) (p.d.length - 1) (latP p id) s := by
  have hf := h.fst hw h0 h1
  obtain ⟨r1, r2, r3, r4, r5, r6, r7⟩ := room_eq h hw hf hm
  have hbig : m < topP p + p.d.length := by
    by_cases e : m < topP p + p.d.length
    · exact e
    · rw [(fits_iff p m).2 ⟨h.r, by omega⟩] at hno; simp at hno
  have htop : topP p ≤ topP (fstP p id) := by
    rw [fst_top]; unfold topP
    by_cases hv : p.v = 6
    · rw [if_pos hv, if_pos hv]; unfold S6.hofP; rw [h.frag]; simp
    · rw [if_neg hv, if_neg hv]; exact Nat.le_refl _
  have hpos : 0 < p.d.length := by omega
  have ht := took h hw hf hm hpos
  have hlt : shareP (p.d.length - 0) (roomP (fstP p id) m) p.v < p.d.length := by have := ht.room; omega
  obtain ⟨k, hk⟩ : ∃ k, p.d.length = k + 1 := ⟨p.d.length - 1, by omega⟩
  have e : cutL p m id = plcP (fstP p id) 0 ((p.d.drop 0).take (shareP (p.d.length - 0) (roomP (fstP p id) m) p.v)) (decide (shareP (p.d.length - 0) (roomP (fstP p id) m) p.v < p.d.length - 0)) :: pcsP p m (latP p id) k (latP p id) (0 + shareP (p.d.length - 0) (roomP (fstP p id) m) p.v) := by
    have e1 : cutL p m id = pcsP p m (latP p id) (k + 1) (fstP p id) 0 := by unfold cutL; rw [hk]
    rw [e1, pcsP, if_pos hpos]
  rw [e]
  generalize shareP (p.d.length - 0) (roomP (fstP p id) m) p.v = s at *
  have hemp := pcs_empty (p := p) (m := m) (lat := latP p id) (f := latP p id) (k := k) (n := 0 + s) (by have := ht.pos; omega)
  cases hq : pcsP p m (latP p id) k (latP p id) (0 + s) with
  | nil => rw [hq] at hemp; simp at hemp; omega
  | cons q r =>
    refine ⟨s, q, r, ht, hlt, ?_, ?_⟩
    · rw [show decide (s < p.d.length - 0) = true from by simp; omega]; rfl
    · rw [← hq, Nat.zero_add, hk]; rfl
theorem is_cut {p : Pk} {m id : Int} (h : Unc p) (hw : Wf p) (h0 : 0 ≤ id) (h1 : id ≤ 4294967295) (hm : mtuP m p.v = true) (hno : fitsP p m = false) (hdf : p.df = false) : isP p m (cutL p m id) = true := by
  obtain ⟨s, q, r, ht, hlt, e, -⟩ := cut_two h hw h0 h1 hm hno
  have hp := part_pcs h hw (h.lat hw h0 h1) hm p.d.length (fstP p id) 0 (h.fst hw h0 h1) (by omega) (by omega) (by omega)
  unfold isP
  rw [(uncut_iff p).2 h, hm]
  change partP p m (latP p id) (fstP p id) 0 (cutL p m id) = true at hp
  rw [e] at hp ⊢
  show (true && true && (!p.df && partP p m (latP p (fstP p id).id) (fstP p (fstP p id).id) 0 _)) = true
  rw [hdf, fst_id, lat_id, hp]; rfl
theorem is_alone {p : Pk} {m : Int} (h : Unc p) (hm : mtuP m p.v = true) (hf : fitsP p m = true) : isP p m [p] = true := by
  unfold isP; rw [(uncut_iff p).2 h, hm]; simp [hf]
theorem is_not {p : Pk} {m : Int} (l : List Pk) (h : (uncutP p && mtuP m p.v) = false) : isP p m l = false := by unfold isP; rw [h]; rfl
theorem cut_not {p : Pk} {m id : Int} (h : (uncutP p && mtuP m p.v) = false) : cutP p m id = ([], 1) := by unfold cutP; rw [h]; rfl
#print axioms is_cut
end Go.Proofs.YtbkeilboneaejaaGreatDoor

namespace Go.Proofs.YtbkeilboneaejaaGreatDoor
open Go.ChangeShapes Go.WideShapes Go.ChangeAt Go.RowKit Num
set_option linter.unusedVariables false
set_option maxHeartbeats 4000000
set_option maxRecDepth 100000

theorem head_bd (p : Pk) : 0 ≤ headP p ∧ headP p ≤ 20 + p.o.length := by unfold headP; split <;> omega
theorem head6_bd (p : Pk) : 0 ≤ S6.headP p ∧ S6.headP p ≤ 48 := by unfold S6.headP S6.hofP; split <;> (try split) <;> omega
theorem length_c (p : Pk) (ov dv : Value) (w : World) (hp : Pkt w p ov dv) (hg : Glob w) :
    Calls Tryz.prog 81 #[.agg (csP p ov dv)] w fun E w' => E = .returned (.int .i64 (longP p)) ∧ Away [] w w' := by
  have ha := hp.wf.ad
  have K4 : Hid (∀ w', Away [] w w' → Calls Tryz.prog 85 #[.agg (csP p ov dv)] w' fun E w'' => E = .returned (.int .i64 (headP p)) ∧ Away [] w' w'') := fun w' h => head_c p ov dv w' (hp.on h) (hg.on h)
  have K6 : Hid (∀ w', Away [] w w' → Calls Tryz.prog 86 #[.agg (csP p ov dv)] w' fun E w'' => E = .returned (.int .i64 (S6.headP p)) ∧ Away [] w' w'') := fun w' h => S6.head_c p ov dv w' (hp.on h).six
  have hol := hp.wf.ol; have hdn := hp.wf.dn
  have b4 := head_bd p; have b6 := head6_bd p
  obtain ⟨hwf, ho, ⟨ad, capd, rfl, q1, q2, q3⟩⟩ := hp
  clear hwf ho q1 q2 q3 hg
  obtain ⟨z, hz⟩ : ∃ z, z = longP p := ⟨_, rfl⟩
  rw [← hz]
  have HZ : Hid (z = if (if p.v = 6 then S6.headP p else headP p) = 0 then 0 else (if p.v = 6 then S6.headP p else headP p) + p.d.length) := hz
  clear hz
  have HAD : Hid (Ad p) := ha
  clear ha
  go_enter Tryz.func81, Tryz.ntmps81
  go_wp2_with (refine wpList_box28 rfl _ rfl p _ _ rfl ?_; refine Hid.out ?_)
  refine Lib.hid ?_
  intro g w1 hg hb haw
  have HA : Hid (Away [] w w1) := haw
  have HB : Hid (BoxP w1 g p ov (.slice ad p.d.length capd)) := hb
  clear hb haw hg
  go_wp2_with (refine wpList_load28 rfl _ rfl _ rfl p _ _ (by exact HB.out) HAD.out ?_)
  refine (K4.out _ HA.out).mono ?_
  rintro E w2 ⟨rfl, haw⟩
  replace HB := Lib.hid (HB.out.on haw)
  replace HA := Lib.hid (HA.out.next haw (by simp))
  clear haw K4
  have c0 := (HB.out.cells HAD.out).v
  have c45 := (HB.out.cells HAD.out).d
  generalize headP p = h4 at *
  generalize S6.headP p = h6 at *
  by_cases hv : p.v = 6
  · rw [hv] at c0
    go_wp2_with (refine wpList_load28 rfl _ rfl _ rfl p _ _ (by exact HB.out) HAD.out ?_)
    refine (K6.out _ HA.out).mono ?_
    rintro E w3 ⟨rfl, haw⟩
    replace HB := Lib.hid (HB.out.on haw)
    replace HA := Lib.hid (HA.out.next haw (by simp))
    clear haw K6 c0 c45
    have c45 := (HB.out.cells HAD.out).d
    have HZ2 : Hid (z = if h6 = 0 then 0 else h6 + p.d.length) := by show _ = _; rw [HZ.out]; simp only [hv, if_true]
    clear HZ
    by_cases h0 : h6 = 0
    · subst h0
      obtain rfl : z = 0 := HZ2.out
      go_wp2_with fail
      go_ret
      exact ⟨rfl, HA.out⟩
    · have hb0 : decide (h6 = 0) = false := by simp [h0]
      go_wp2_with fail
      go_ret
      refine ⟨?_, HA.out⟩
      have := HZ2.out
      rw [if_neg h0] at this
      apply ret_int; rw [this]
  · have HZ2 : Hid (z = if h4 = 0 then 0 else h4 + p.d.length) := by show _ = _; rw [HZ.out]; simp only [hv, if_false]
    clear HZ K6
    have hbv : decide (p.v = 6) = false := by simp [hv]
    by_cases h0 : h4 = 0
    · subst h0
      obtain rfl : z = 0 := HZ2.out
      go_wp2_with fail
      go_ret
      exact ⟨rfl, HA.out⟩
    · have hb0 : decide (h4 = 0) = false := by simp [h0]
      go_wp2_with fail
      go_ret
      refine ⟨?_, HA.out⟩
      have := HZ2.out
      rw [if_neg h0] at this
      apply ret_int; rw [this]
theorem uncut_c (p : Pk) (ov dv : Value) (w : World) (hp : Pkt w p ov dv) (hg : Glob w) :
    Calls Tryz.prog 60 #[.agg (csP p ov dv)] w fun E w' => E = .returned (.bool (uncutP p)) ∧ Away [] w w' := by
  have HAD := Lib.hid hp.wf.ad
  have K : Hid (∀ w', Away [] w w' → Calls Tryz.prog 81 #[.agg (csP p ov dv)] w' fun E w'' => E = .returned (.int .i64 (longP p)) ∧ Away [] w' w'') := fun w' h => length_c p ov dv w' (hp.on h) (hg.on h)
  clear hp hg
  obtain ⟨z, hz⟩ : ∃ z, z = uncutP p := ⟨_, rfl⟩
  rw [← hz]
  have HZ : Hid (z = (decide (0 < longP p) && decide (p.off = 0) && !p.more && !p.frag)) := hz
  clear hz
  go_enter Tryz.func60, Tryz.ntmps60
  go_wp2_with (refine wpList_box28 rfl _ rfl p _ _ rfl ?_; refine Hid.out ?_)
  refine Lib.hid ?_
  intro g w1 hg hb haw
  have HA : Hid (Away [] w w1) := haw
  have HB : Hid (BoxP w1 g p ov dv) := hb
  clear hb haw hg
  go_wp2_with (refine wpList_load28 rfl _ rfl _ rfl p _ _ (by exact HB.out) HAD.out ?_)
  refine (K.out _ HA.out).mono ?_
  rintro E w2 ⟨rfl, haw⟩
  replace HB := Lib.hid (HB.out.on haw)
  replace HA := Lib.hid (HA.out.next haw (by simp))
  clear haw K
  have c43 := (HB.out.cells HAD.out).off
  have c41 := (HB.out.cells HAD.out).more
  have c42 := (HB.out.cells HAD.out).frag
  generalize longP p = n at *
  generalize p.off = off at *
  generalize p.more = more at *
  generalize p.frag = frag at *
  by_cases h1 : 0 < n
  · have d1 : decide (0 < n) = true := by simp [h1]
    by_cases h2 : off = 0
    · subst h2
      obtain rfl : z = (!more && !frag) := by rw [HZ.out, d1]; rfl
      cases more
      · cases frag
        · go_wp2_with fail
          go_ret
          exact ⟨rfl, HA.out⟩
        · go_wp2_with fail
          go_ret
          exact ⟨rfl, HA.out⟩
      · go_wp2_with fail
        go_ret
        exact ⟨rfl, HA.out⟩
    · have d2 : decide (off = 0) = false := by simp [h2]
      obtain rfl : z = false := by rw [HZ.out, d1, d2]; rfl
      go_wp2_with fail
      go_ret
      exact ⟨rfl, HA.out⟩
  · have d1 : decide (0 < n) = false := by simp; omega
    obtain rfl : z = false := by rw [HZ.out, d1]; rfl
    go_wp2_with fail
    go_ret
    exact ⟨rfl, HA.out⟩
theorem mtu_c (m v : Int) (w : World) : Calls Tryz.prog 61 #[.int .i64 m, .int .i64 v] w fun E w' => E = .returned (.bool (mtuP m v)) ∧ w' = w := by
  obtain ⟨z, hz⟩ : ∃ z, z = mtuP m v := ⟨_, rfl⟩
  rw [← hz]
  unfold mtuP at hz
  have HZ := Lib.hid hz
  clear hz
  by_cases hv : v = 6
  · subst hv
    by_cases h1 : 1280 ≤ m
    · have d1 : decide (1280 ≤ m) = true := by simp [h1]
      obtain rfl : z = decide (m ≤ 65535) := by rw [HZ.out, if_pos rfl, d1]; rfl
      go_enter Tryz.func61, Tryz.ntmps61
      go_wp2
      go_ret
      exact ⟨rfl, rfl⟩
    · have d1 : decide (1280 ≤ m) = false := by simp; omega
      obtain rfl : z = false := by rw [HZ.out, if_pos rfl, d1]; rfl
      go_enter Tryz.func61, Tryz.ntmps61
      go_wp2
      go_ret
      exact ⟨rfl, rfl⟩
  · have dv : decide (v = 6) = false := by simp [hv]
    by_cases h1 : 68 ≤ m
    · have d1 : decide (68 ≤ m) = true := by simp [h1]
      obtain rfl : z = decide (m ≤ 65535) := by rw [HZ.out, if_neg hv, d1]; rfl
      go_enter Tryz.func61, Tryz.ntmps61
      go_wp2
      go_ret
      exact ⟨rfl, rfl⟩
    · have d1 : decide (68 ≤ m) = false := by simp; omega
      obtain rfl : z = false := by rw [HZ.out, if_neg hv, d1]; rfl
      go_enter Tryz.func61, Tryz.ntmps61
      go_wp2
      go_ret
      exact ⟨rfl, rfl⟩
theorem fits_c (p : Pk) (ov dv : Value) (m : Int) (w : World) (hp : Pkt w p ov dv) (hg : Glob w) :
    Calls Tryz.prog 62 #[.agg (csP p ov dv), .int .i64 m] w fun E w' => E = .returned (.bool (fitsP p m)) ∧ Away [] w w' := by
  have HAD := Lib.hid hp.wf.ad
  have K : Hid (∀ w', Away [] w w' → Calls Tryz.prog 81 #[.agg (csP p ov dv)] w' fun E w'' => E = .returned (.int .i64 (longP p)) ∧ Away [] w' w'') := fun w' h => length_c p ov dv w' (hp.on h) (hg.on h)
  clear hp hg
  obtain ⟨z, hz⟩ : ∃ z, z = fitsP p m := ⟨_, rfl⟩
  rw [← hz]
  have HZ : Hid (z = (decide (0 < longP p) && decide (longP p ≤ m))) := hz
  clear hz
  go_enter Tryz.func62, Tryz.ntmps62
  go_wp2_with (refine wpList_box28 rfl _ rfl p _ _ rfl ?_; refine Hid.out ?_)
  refine Lib.hid ?_
  intro g w1 hg hb haw
  have HA : Hid (Away [] w w1) := haw
  have HB : Hid (BoxP w1 g p ov dv) := hb
  clear hb haw hg
  go_wp2_with (refine wpList_load28 rfl _ rfl _ rfl p _ _ (by exact HB.out) HAD.out ?_)
  refine (K.out _ HA.out).mono ?_
  rintro E w2 ⟨rfl, haw⟩
  replace HA := Lib.hid (HA.out.next haw (by simp))
  clear haw K HB
  generalize longP p = n at *
  by_cases h1 : 0 < n
  · have d1 : decide (0 < n) = true := by simp [h1]
    obtain rfl : z = decide (n ≤ m) := by rw [HZ.out, d1]; rfl
    go_wp2_with fail
    go_ret
    exact ⟨rfl, HA.out⟩
  · have d1 : decide (0 < n) = false := by simp; omega
    obtain rfl : z = false := by rw [HZ.out, d1]; rfl
    go_wp2_with fail
    go_ret
    exact ⟨rfl, HA.out⟩
theorem share_c (l r : Nat) (lz rz v : Int) (hl : lz = l) (hr : rz = r) (hb : r ≤ 140737488355328) (w : World) : Calls Tryz.prog 83 #[.int .i64 lz, .int .i64 rz, .int .i64 v] w fun E w' => E = .returned (.int .i64 (shareP l r v)) ∧ w' = w := by
  subst hl; subst hr
  have e : (r : Int).tdiv 8 = ((r / 8 : Nat) : Int) := by rw [Int.tdiv_eq_ediv_of_nonneg (by omega)]; omega
  obtain ⟨z, hz⟩ : ∃ z, z = shareP l r v := ⟨_, rfl⟩
  rw [← hz]
  unfold shareP at hz
  have HZ := Lib.hid hz
  clear hz
  by_cases hv : v = 6
  · subst hv
    by_cases h1 : l ≤ r / 8 * 8
    · obtain rfl : z = l := by rw [HZ.out, if_pos rfl, if_pos h1]
      go_enter Tryz.func83, Tryz.ntmps83
      go_wp2
      go_ret
      exact ⟨rfl, rfl⟩
    · obtain rfl : z = r / 8 * 8 := by rw [HZ.out, if_pos rfl, if_neg h1]
      go_enter Tryz.func83, Tryz.ntmps83
      go_wp2
      go_ret
      exact ⟨by apply ret_int; go_num, rfl⟩
  · have dv : decide (v = 6) = false := by simp [hv]
    by_cases h1 : l ≤ r
    · obtain rfl : z = l := by rw [HZ.out, if_neg hv, if_pos h1]
      go_enter Tryz.func83, Tryz.ntmps83
      go_wp2
      go_ret
      exact ⟨rfl, rfl⟩
    · obtain rfl : z = r / 8 * 8 := by rw [HZ.out, if_neg hv, if_neg h1]
      go_enter Tryz.func83, Tryz.ntmps83
      go_wp2
      go_ret
      exact ⟨by apply ret_int; go_num, rfl⟩
theorem plc_c (f : Pk) (ov dv : Value) (n : Nat) (a : Option Addr) (l : List Int) (k cap : Nat) (m : Bool) (w : World) (ha : Ad f) (ho : ov.oneCell' = true) (hd : dv.oneCell' = true) :
    Calls Tryz.prog 84 #[.agg (csP f ov dv), .int .i64 n, .slice a k cap, .bool m] w fun E w' => E = .returned (.agg (csP (plcP f n l m) ov (.slice a k cap))) ∧ Away [] w w' := by
  have HAD := Lib.hid ha
  have HO := Lib.hid ho
  clear ha ho hd
  go_enter Tryz.func84, Tryz.ntmps84
  go_wp2_with (refine wpList_box28 rfl _ rfl f _ _ rfl ?_; refine Hid.out ?_)
  refine Lib.hid ?_
  intro g1 w1 hg1 hb1 haw1
  have HB1 := Lib.hid hb1; have HA1 := Lib.hid haw1
  have hl1 := hb1.lt
  clear hb1 haw1
  go_wp2_with (refine wpList_alloc28 rfl rfl ?_; refine Hid.out ?_)
  refine Lib.hid ?_
  intro g2 w2 hg2 hb2 haw2
  have HB2 := Lib.hid hb2
  replace HB1 := Lib.hid (HB1.out.on haw2)
  replace HA1 := Lib.hid (HA1.out.next haw2 (by simp))
  have hl2 := hb2.lt
  have hs2 := haw2.size
  clear hb2 haw2
  have cs := csP_set (p := f) HAD.out ov dv
  have HB3 := Lib.hid (HB1.out.put 43 (.int .i64 n) (cs.2.2.2.2.2.2.2.2.2.2.2.1 n))
  have HB4 := Lib.hid (HB3.out.put 45 (.slice a k cap) ((csP_set (p := { f with off := n }) HAD.out ov dv).2.2.2.2.2.2.2.2.2.2.2.2.2 l (.slice a k cap)))
  have HB5 := Lib.hid (HB4.out.put 41 (.bool m) ((csP_set (p := { f with off := n, d := l }) HAD.out ov (.slice a k cap)).2.2.2.2.2.2.2.2.2.1 m))
  have hA3 := away_put (w := w2) (g := g1) 43 (.int .i64 n)
  have hA4 := away_put (w := w2.setCell ⟨g1, 43, none⟩ (.int .i64 n)) (g := g1) 45 (.slice a k cap)
  have hA5 := away_put (w := (w2.setCell ⟨g1, 43, none⟩ (.int .i64 n)).setCell ⟨g1, 45, none⟩ (.slice a k cap)) (g := g1) 41 (.bool m)
  have hA6 := (hA3.trans hA4).trans hA5
  have HB6 := Lib.hid (HB2.out.away hA6 (by simp; omega))
  have HA6 := Lib.hid (HA1.out.next hA6 (fun x hx => .inr (by simp at hx; omega)))
  have s43 := (HB1.out.cells HAD.out).off
  have s45 := (HB1.out.cells HAD.out).d
  have s41 := (HB1.out.cells HAD.out).more
  have f43 := HB1.out.free 43
  have f45 := HB1.out.free 45
  have f41 := HB1.out.free 41
  clear hA3 hA4 hA5 hA6 cs HB3 HB4 HA1 HB1 HB2
  go_upto_region 2 with fail
  clear s43 s45 s41 f43 f45 f41
  generalize ((w2.setCell ⟨g1, 43, none⟩ (.int .i64 n)).setCell ⟨g1, 45, none⟩ (.slice a k cap)).setCell ⟨g1, 41, none⟩ (.bool m) = w6 at *
  go_wp2_with (first
    | (refine wpList_load28 rfl _ rfl _ rfl (plcP f n l m) _ _ (by exact HB5.out) HAD.out ?_)
    | (refine wpList_store28 rfl _ _ rfl _ rfl (plcP f n l m) ov (.slice a k cap) rfl zeroPk (.slice none 0 0) (.slice none 0 0) (by exact HB6.out) HAD.out ⟨rfl, rfl⟩ HO.out rfl ?_; refine Hid.out ?_))
  refine Lib.hid ?_
  intro w7 hb7 haw7
  have HB7 := Lib.hid hb7
  have HA7 : Hid (Away [] w w7) := HA6.out.next haw7 (fun x hx => .inr (by simp at hx; omega))
  clear hb7 haw7
  go_wp2_with fail
  exact bodyPost_ret (result28 rfl _ _ _ _ _ _ rfl HB7.out HAD.out) rfl ⟨rfl, HA7.out⟩
#print axioms plc_c
end Go.Proofs.YtbkeilboneaejaaGreatDoor

namespace Go.Proofs.YtbkeilboneaejaaGreatDoor
open Go.ChangeShapes Go.WideShapes Go.ChangeAt Go.RowKit Num
set_option linter.unusedVariables false
set_option maxHeartbeats 4000000
set_option maxRecDepth 100000

theorem yields_ldc {ops : Array Oper} {S : World → Prop} {op : Oper} {a : Act} {t : TypeId} {v : Value} {ad : Addr} (hw : Region.wanted op (yielded ops a.tmps) = true) (x : Operand) (ho : op.op = .load t x) (hx : a.eval x = .pointer (some ad))
    (hS : ∀ w, S w → (Instr.loadAt t (.pointer (some ad))).run Tryz.prog w = .ok v w) : YieldsIf Tryz.prog ops S op v a :=
  .inl ⟨hw, fun w hw' => by
    unfold execOp
    simp only [ho, hx, Sem.run_bind, hS w hw', Result.andThen_ok, Sem.run_pure]⟩
theorem step_store26c {ops : Array Oper} {o : Oper} {a : Act} {w : World} {K : Act → World → Prop} {Q : Exit → Act → World → Prop} {E : Prop} (hg : o.guard = none) (s r : Nat)
    (ho : o.op = .store 26 (.tmp s) (.tmp r)) (g i : Nat) (hx : a.tmps[s]?.getD undef = .pointer (some ⟨g, i, none⟩)) (b : Option Addr) (n c : Nat) (hy : a.tmps[r]?.getD undef = .slice b n c) (u : Value) (hc : w.cell? ⟨g, i, none⟩ = some u) (hf : w.frozen? ⟨g, i, none⟩ = false)
    (hK : K (a.put o.dst undef) (w.setCell ⟨g, i, none⟩ (.slice b n c))) :
    if Region.wanted o (yielded ops a.tmps) = true then Oper.wp Tryz.prog o a w K Q else E := by
  have hw : Region.wanted o (yielded ops a.tmps) = true := by simp [Region.wanted, hg]
  rw [if_pos hw]
  obtain ⟨d, op, ty, ps, af, gd⟩ := o
  simp only at ho
  subst ho
  go_simp
  exact hK
theorem copyP_c (p : Pk) (ov dv : Value) (w : World) (hp : Pkt w p ov dv) :
    Calls Tryz.prog 63 #[.agg (csP p ov dv)] w fun E w' => OwnOut w p E w' := by
  have HAD := Lib.hid hp.wf.ad
  have KO : Hid (∀ w', Away [] w w' → Calls Tryz.prog 77 #[ov] w' fun E w'' => ∃ v, E = .returned v ∧ Owns w'' v p.o ∧ New w'.heap.size v ∧ Away [] w' w'') := by
    obtain ⟨a, c, rfl, x1, x2, x3⟩ := hp.o
    exact fun w' h => clone_any a p.o c w' x2 (x3.away h (by simp))
  have KD : Hid (∀ w', Away [] w w' → Calls Tryz.prog 77 #[dv] w' fun E w'' => ∃ v, E = .returned v ∧ Owns w'' v p.d ∧ New w'.heap.size v ∧ Away [] w' w'') := by
    obtain ⟨a, c, rfl, x1, x2, x3⟩ := hp.d
    exact fun w' h => clone_any a p.d c w' x2 (x3.away h (by simp))
  obtain ⟨-, ⟨o1, o2, rfl, -⟩, ⟨o3, o4, rfl, -⟩⟩ := hp
  generalize p.o.length = no at *
  generalize p.d.length = nd at *
  go_enter Tryz.func63, Tryz.ntmps63
  go_wp2_with (refine wpList_box28 rfl _ rfl p _ _ rfl ?_; refine Hid.out ?_)
  refine Lib.hid ?_
  intro g1 w1 hg1 hb1 haw1
  have HB1 := Lib.hid hb1; have HA1 := Lib.hid haw1
  have hl1 := hb1.lt
  clear hb1 haw1
  go_wp2_with (refine wpList_alloc28 rfl rfl ?_; refine Hid.out ?_)
  refine Lib.hid ?_
  intro g2 w2 hg2 hb2 haw2
  have HB2 := Lib.hid hb2
  replace HB1 := Lib.hid (HB1.out.on haw2)
  replace HA1 := Lib.hid (HA1.out.next haw2 (by simp))
  have hl2 := hb2.lt
  have hs1 := HA1.out.size
  have hs2 := haw2.size
  clear hb2 haw2
  go_wp2_with fail
  have ck : BoxP w2.drew g1 p (.slice o1 no o2) (.slice o3 nd o4) := HB1.out
  refine wp_region_U [7] (fun w' => BoxP w' g1 p (.slice o1 no o2) (.slice o3 nd o4)) (by kernel_rfl) ?_
  refine wpAnyU_take (i := 0) (v := ?_) (by simp only [List.getElem?_toArray, List.getElem?_cons_zero]; rfl) (by kernel_rfl) (by kernel_rfl) (by kernel_rfl) (by decide) (by decide) (by unfold Un; kernel_rfl) (by exact fun _ _ _ h => h) (Or.inl ⟨by rfl, ?_⟩) (by exact ck) ?_
  rotate_left
  · intro wq hSw
    (try dsimp only at hSw)
    go_simp
    all_goals (with_reducible rfl)
  try simp only [Act.put, List.setIfInBounds_toArray, List.set_cons_zero, List.set_cons_succ]
  refine wpAnyU_take (i := 1) (by simp only [List.getElem?_toArray, List.getElem?_cons_succ, List.getElem?_cons_zero]; rfl) (by kernel_rfl) (by kernel_rfl) (by kernel_rfl) (by decide) (by decide) (by unfold Un; kernel_rfl) (by exact fun _ _ _ h => h) (yields_ldc (ad := ⟨g1, 44, none⟩) (by rfl) _ rfl rfl (fun w' h => S6.ld26 (BoxP.cells h HAD.out).o)) (by exact ck) ?_
  try simp only [Act.put, List.setIfInBounds_toArray, List.set_cons_zero, List.set_cons_succ]
  refine wpAnyU_take (i := 3) (v := ?_) (by simp only [List.getElem?_toArray, List.getElem?_cons_succ, List.getElem?_cons_zero]; rfl) (by kernel_rfl) (by kernel_rfl) (by kernel_rfl) (by decide) (by decide) (by unfold Un; kernel_rfl) (by exact fun _ _ _ h => h) (Or.inl ⟨by rfl, ?_⟩) (by exact ck) ?_
  rotate_left
  · intro wq hSw
    (try dsimp only at hSw)
    go_simp
    all_goals (with_reducible rfl)
  try simp only [Act.put, List.setIfInBounds_toArray, List.set_cons_zero, List.set_cons_succ]
  refine wpAnyU_take (i := 4) (by simp only [List.getElem?_toArray, List.getElem?_cons_succ, List.getElem?_cons_zero]; rfl) (by kernel_rfl) (by kernel_rfl) (by kernel_rfl) (by decide) (by decide) (by unfold Un; kernel_rfl) (by exact fun _ _ _ h => h) (yields_ldc (ad := ⟨g1, 45, none⟩) (by rfl) _ rfl rfl (fun w' h => S6.ld26 (BoxP.cells h HAD.out).d)) (by exact ck) ?_
  try simp only [Act.put, List.setIfInBounds_toArray, List.set_cons_zero, List.set_cons_succ]
  refine wpAnyU_ready (rs := [2]) (by kernel_rfl) (by simp) ?_
  refine ReadyU.cons (by simp only [List.getElem?_toArray, List.getElem?_cons_succ, List.getElem?_cons_zero]; rfl) (fun K hK => ?_) ReadyU.nil
  go_simp
  refine (KO.out _ HA1.out.drew).mono ?_
  rintro E y1 ⟨v1, rfl, ho1, hn1, ha1⟩
  have HO1 := Lib.hid ho1
  have HB2y := Lib.hid (HB2.out.on ((Away.refl [] w2).drew.next ha1 (by simp)))
  have HAy := Lib.hid (HA1.out.drew.next ha1 (by simp))
  have hsy : w2.heap.size ≤ y1.heap.size := ha1.size
  have hlt1 := ho1.lt
  replace ck := BoxP.on ck ha1
  clear ho1 ha1
  obtain ⟨a3, n3, k3, rfl⟩ := HO1.out.shp
  go_wp2_with fail
  refine hK.out _ _ (fun _ => ck) ?_
  clear hK K
  try simp only [Act.put, List.setIfInBounds_toArray, List.set_cons_zero, List.set_cons_succ]
  refine wpAnyU_take (i := 6) (v := ?_) (by simp only [List.getElem?_toArray, List.getElem?_cons_succ, List.getElem?_cons_zero]; rfl) (by kernel_rfl) (by kernel_rfl) (by kernel_rfl) (by decide) (by decide) (by unfold Un; kernel_rfl) (by exact fun _ _ _ h => h) (Or.inl ⟨by rfl, ?_⟩) (by exact ck) ?_
  rotate_left
  · intro wq hSw
    (try dsimp only at hSw)
    go_simp
    all_goals (with_reducible rfl)
  try simp only [Act.put, List.setIfInBounds_toArray, List.set_cons_zero, List.set_cons_succ]
  refine wpAnyU_ready (rs := [5]) (by kernel_rfl) (by simp) ?_
  refine ReadyU.cons (by simp only [List.getElem?_toArray, List.getElem?_cons_succ, List.getElem?_cons_zero]; rfl) (fun K hK => ?_) ReadyU.nil
  go_simp
  refine (KD.out _ HAy.out).mono ?_
  rintro E y2 ⟨v2, rfl, ho2, hn2, ha2⟩
  have HO2 := Lib.hid ho2
  replace HO1 := Lib.hid (HO1.out.on ha2)
  replace HB2y := Lib.hid (HB2y.out.on ha2)
  replace HAy := Lib.hid (HAy.out.next ha2 (by simp))
  have hsz : y1.heap.size ≤ y2.heap.size := ha2.size
  replace ck := BoxP.on ck ha2
  clear ho2 ha2
  obtain ⟨a5, n5, k5, rfl⟩ := HO2.out.shp
  go_wp2_with fail
  refine hK.out _ _ (fun _ => ck) ?_
  clear hK K
  try simp only [Act.put, List.setIfInBounds_toArray, List.set_cons_zero, List.set_cons_succ]
  refine wpAnyU_ready (rs := [7]) (by kernel_rfl) (by simp) ?_
  refine ReadyU.cons (by simp only [List.getElem?_toArray, List.getElem?_cons_succ, List.getElem?_cons_zero]; rfl) (fun K hK => ?_) ReadyU.nil
  refine step_store26c rfl 9 5 rfl g1 44 rfl a3 n3 k3 rfl _ (by exact (ck.cells HAD.out).o) (by exact ck.free 44) ?_
  refine hK.out _ _ (by intro h; simp [Un] at h) ?_
  clear hK K
  try simp only [Act.put]
  have CK3 := Lib.hid (ck.put 44 (.slice a3 n3 k3) ((csP_set HAD.out _ _).2.2.2.2.2.2.2.2.2.2.2.2.1 p.o (.slice a3 n3 k3)))
  have hA3 := away_put (w := y2) (g := g1) 44 (.slice a3 n3 k3)
  refine wpAnyU_ready (rs := [8]) (by kernel_rfl) (by simp) ?_
  refine ReadyU.cons (by simp only [List.getElem?_toArray, List.getElem?_cons_succ, List.getElem?_cons_zero]; rfl) (fun K hK => ?_) ReadyU.nil
  go_simp
  refine hK.out _ _ (by intro h; simp [Un] at h) ?_
  clear hK K
  try simp only [Act.put]
  refine wpAnyU_ready (rs := [9]) (by kernel_rfl) (by simp) ?_
  refine ReadyU.cons (by simp only [List.getElem?_toArray, List.getElem?_cons_succ, List.getElem?_cons_zero]; rfl) (fun K hK => ?_) ReadyU.nil
  refine step_store26c rfl 10 8 rfl g1 45 rfl a5 n5 k5 rfl _ (by exact (CK3.out.cells HAD.out).d) (by exact CK3.out.free 45) ?_
  refine hK.out _ _ (by intro h; simp [Un] at h) ?_
  clear hK K
  try simp only [Act.put]
  refine wpAnyU_done (by kernel_rfl) ?_ _
  have hA4 := away_put (w := y2.setCell ⟨g1, 44, none⟩ (.slice a3 n3 k3)) (g := g1) 45 (.slice a5 n5 k5)
  have HB6 := Lib.hid (CK3.out.put 45 (.slice a5 n5 k5) ((csP_set (p := { p with o := p.o }) HAD.out _ _).2.2.2.2.2.2.2.2.2.2.2.2.2 p.d (.slice a5 n5 k5)))
  have hA := hA3.trans hA4
  have hv3 : ∀ k, (Value.slice a3 n3 k3).ownBlock = some k → k ≠ g1 ∧ k ≠ g2 ∧ w.heap.size ≤ k ∧ k < y1.heap.size := fun k hk => by
    have h1 := hn1 k hk
    have h2 := hlt1 k hk
    have h3 : w2.heap.size ≤ k := h1
    exact ⟨by omega, by omega, by omega, h2⟩
  have hv5 : ∀ k, (Value.slice a5 n5 k5).ownBlock = some k → k ≠ g1 ∧ k ≠ g2 ∧ w.heap.size ≤ k ∧ y1.heap.size ≤ k := fun k hk => by
    have h1 := hn2 k hk
    exact ⟨by omega, by omega, by omega, h1⟩
  have HM := Lib.hid (show Mine _ w.heap.size p (.slice a3 n3 k3) (.slice a5 n5 k5) from ⟨HO1.out.away hA (fun k hk => by simpa using (hv3 k hk).1), HO2.out.away hA (fun k hk => by simpa using (hv5 k hk).1), fun k hk => (hv3 k hk).2.2.1, fun k hk => (hv5 k hk).2.2.1, fun k hk e => by
    have h1 := (hv3 k hk).2.2.2; have h2 := (hv5 k e).2.2.2; omega⟩)
  have HB7 := Lib.hid (HB2y.out.away hA (by simp; omega))
  have HA7 := Lib.hid (HAy.out.next hA (fun x hx => .inr (by simp at hx; omega)))
  have HV := Lib.hid (show ∀ k, (Value.slice a3 n3 k3).ownBlock = some k ∨ (Value.slice a5 n5 k5).ownBlock = some k → k ≠ g2 from fun k hk => by
    rcases hk with hk | hk
    · exact (hv3 k hk).2.1
    · exact (hv5 k hk).2.1)
  have hz7 : w.heap.size ≤ g2 := by omega
  clear hA hA3 hA4 CK3 ck HO1 HO2 HB2y HAy hv3 hv5 hn1 hn2 hlt1 hsy hsz
  generalize (y2.setCell ⟨g1, 44, none⟩ (.slice a3 n3 k3)).setCell ⟨g1, 45, none⟩ (.slice a5 n5 k5) = w6 at *
  go_wp2_with (first
    | (refine wpList_load28 rfl _ rfl _ rfl p _ _ (by exact HB6.out) HAD.out ?_)
    | (refine wpList_store28 rfl _ _ rfl _ rfl p (.slice a3 n3 k3) (.slice a5 n5 k5) rfl zeroPk (.slice none 0 0) (.slice none 0 0) (by exact HB7.out) HAD.out ⟨rfl, rfl⟩ rfl rfl ?_; refine Hid.out ?_))
  refine Lib.hid ?_
  intro w7 hb7 haw7
  have HB8 := Lib.hid hb7
  have HA8 : Hid (Away [] w w7) := HA7.out.next haw7 (fun x hx => .inr (by simp at hx; omega))
  have HM8 := Lib.hid (HM.out.away haw7 (fun k hk => by simpa using HV.out k hk))
  clear hb7 haw7
  go_wp2_with fail
  exact bodyPost_ret (result28 rfl _ _ _ _ _ _ rfl HB8.out HAD.out) rfl ⟨_, _, rfl, HM8.out, HA8.out⟩
#print axioms copyP_c
end Go.Proofs.YtbkeilboneaejaaGreatDoor
