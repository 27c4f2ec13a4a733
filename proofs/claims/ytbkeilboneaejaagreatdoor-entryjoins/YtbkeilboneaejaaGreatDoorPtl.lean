/-
  What Cut and pieces tell are pieces of one packet. Plain data.
-/
import Derived.Test.YtbkeilboneaejaaGreatDoorRfp
import Derived.Test.YtbkeilboneaejaaGreatDoorPcA
namespace Go.Proofs.YtbkeilboneaejaaGreatDoor
open Go.ChangeShapes Go.WideShapes Go.ChangeAt Go.RowKit Num
set_option linter.unusedVariables false
set_option maxHeartbeats 4000000
set_option maxRecDepth 100000

namespace R
/-- What all pieces of p, cut by the number id, share. -/
def basP (p : Pk) (id : Int) : Pk := { p with frag := if p.v = 6 then true else p.frag, id := if p.v = 6 then id else p.id }
structure FrI (p f : Pk) (id : Int) : Prop where
  fr : Frm p f
  eq : ∃ o, f = { basP p id with d := [], o := o }
theorem fri_fst {p : Pk} (hu : Unc p) (hw : Wf p) {id : Int} (h0 : 0 ≤ id) (h1 : id ≤ 4294967295) : FrI p (fstP p id) id := by
  refine ⟨hu.fst hw h0 h1, p.o, ?_⟩
  unfold fstP basP
  by_cases hv : p.v = 6
  · rw [if_pos hv, if_pos hv, if_pos hv]
  · rw [if_neg hv, if_neg hv, if_neg hv]
theorem fri_lat {p : Pk} (hu : Unc p) (hw : Wf p) {id : Int} (h0 : 0 ≤ id) (h1 : id ≤ 4294967295) : FrI p (latP p id) id := by
  refine ⟨hu.lat hw h0 h1, carryP p.o, ?_⟩
  obtain ⟨o, e⟩ := (fri_fst hu hw h0 h1).eq
  unfold latP
  rw [e]
theorem pcs_kin {p : Pk} {m id : Int} (hu : Unc p) (hw : Wf p) (hm : mtuP m p.v = true) {lat : Pk} (hl : FrI p lat id) : ∀ (k : Nat) (f : Pk) (n : Nat), FrI p f id → p.d.length - n ≤ k → n < p.d.length → n % 8 = 0 →
    (∀ q ∈ pcsP p m lat k f n, Kin (basP p id) q) ∧ moresB false (pcsP p m lat k f n) ∧ complL (n : Int) (pcsP p m lat k f n) = true ∧ datas (pcsP p m lat k f n) = p.d.drop n ∧ (∀ q r, pcsP p m lat k f n = q :: r → q.o = f.o ∧ q.off = (n : Int))
  | 0, f, n, hf, hk, hn, h8 => by omega
  | k + 1, f, n, hf, hk, hn, h8 => by
    have ht := took hu hw hf.fr hm hn
    generalize hs : shareP (p.d.length - n) (roomP f m) p.v = s at ht
    have t1 := ht.pos; have t2 := ht.le; have t3 := ht.d8; have t4 := ht.len; have t6 := ht.six
    have ha := hu.all.1
    rw [pcsP, if_pos hn, hs]
    have hkin : ∀ b : Bool, (b = true → s % 8 = 0) → Kin (basP p id) (plcP f n ((p.d.drop n).take s) b) := fun b hb => by
      have hr := piece_right hu hw hf.fr n ((p.d.drop n).take s) b (by omega) h8 (by omega) (by rw [t4]; exact hb) (by rw [t4]; exact t6)
      have hwf := hf.fr.wf hw n (by omega) ((p.d.drop n).take s) ((hw.d.drop n).take s) (by rw [t4]; omega) b
      obtain ⟨o, rfl⟩ := hf.eq
      exact ⟨hwf, hr, rfl, rfl, rfl, rfl, rfl, rfl, rfl, rfl, rfl, rfl, rfl, rfl⟩
    rcases Nat.lt_or_ge (n + s) p.d.length with hlt | hge
    · have h8s : s % 8 = 0 := by omega
      obtain ⟨i1, i2, i3, i4, i5⟩ := pcs_kin hu hw hm hl k lat (n + s) hl (by omega) hlt (by omega)
      have hd : decide (s < p.d.length - n) = true := by simp; omega
      rw [hd]
      generalize pcsP p m lat k lat (n + s) = L at i1 i2 i3 i4 i5 ⊢
      refine ⟨fun q hq => ?_, ?_, ?_, ?_, fun q r e => ?_⟩
      · rcases List.mem_cons.1 hq with rfl | hq
        · exact hkin true (fun _ => h8s)
        · exact i1 q hq
      · cases L with
        | nil => exact i2.elim
        | cons a c => exact ⟨rfl, i2⟩
      · rw [complL, Bool.and_eq_true, decide_eq_true_eq]
        refine ⟨rfl, ?_⟩
        have e : (plcP f n ((p.d.drop n).take s) true).off + ((plcP f n ((p.d.drop n).take s) true).d.length : Int) = ((n + s : Nat) : Int) := by
          show (n : Int) + (((p.d.drop n).take s).length : Int) = _
          rw [t4]; omega
        rw [e]; exact i3
      · show (p.d.drop n).take s ++ datas L = p.d.drop n
        rw [i4, ← List.drop_drop, List.take_append_drop]
      · simp only [List.cons.injEq] at e
        obtain ⟨rfl, -⟩ := e
        exact ⟨rfl, rfl⟩
    · have hes : n + s = p.d.length := by omega
      rw [pcs_nil (by omega)]
      have hd : decide (s < p.d.length - n) = false := by simp; omega
      rw [hd]
      refine ⟨fun q hq => by simp at hq; subst hq; exact hkin false (by simp), rfl, by simp [complL, plcP], ?_, fun q r e => by simp at e; obtain ⟨rfl, -⟩ := e; exact ⟨rfl, rfl⟩⟩
      show (p.d.drop n).take s ++ [] = p.d.drop n
      rw [List.append_nil, List.take_of_length_le (by rw [List.length_drop]; omega)]
theorem cut_ref {p : Pk} {m id : Int} (hu : Unc p) (hw : Wf p) (h0 : 0 ≤ id) (h1 : id ≤ 4294967295) (hm : mtuP m p.v = true) (hno : fitsP p m = false) : Ref (basP p id) (cutL p m id) := by
  have h2 := cut_two hu hw h0 h1 hm hno
  obtain ⟨a, b, r, -, -, e, -⟩ := h2
  have hd0 : 0 < p.d.length := by
    have := pcs_len p m (latP p id) p.d.length (fstP p id) 0
    have e2 := congrArg List.length e
    unfold cutL at e2
    simp only [List.length_cons] at e2
    omega
  obtain ⟨i1, i2, i3, i4, i5⟩ := pcs_kin hu hw hm (fri_lat hu hw h0 h1) p.d.length (fstP p id) 0 (fri_fst hu hw h0 h1) (by omega) hd0 rfl
  refine ⟨i1, ?_, ?_, ?_, fun q r e => ?_⟩
  · show moresB p.more _; rw [hu.more]; exact i2
  · show complL p.off _ = true; rw [hu.off]; exact i3
  · show datas _ = p.d; rw [List.drop_zero] at i4; exact i4
  · have h := i5 q r e
    rw [fst_o] at h
    exact ⟨h.1, by show q.off = p.off; rw [hu.off, h.2]; rfl⟩
theorem bas_four {p : Pk} (hv : p.v ≠ 6) (id : Int) : basP p id = p := by unfold basP; rw [if_neg hv, if_neg hv]
/-- Each of a list cut again. -/
theorem more_ref {x : Pk} {l : List Pk} {r : Int} (h : Ref x l) (hv : x.v = 4) (hdf : x.df = false) (hm : mtuP r 4 = true) : Ref x (moreL r l) := by
  have key : ∀ y ∈ l, Ref y (recE r y) := fun y hy => by
    have k := h.kin y hy
    obtain ⟨u, e, hu⟩ := recut_ref (m := r) k.wf k.r (k.v.trans hv) (k.df.trans hdf) hm
    unfold recE
    rw [e, if_pos rfl]; exact hu
  have := h.trans (l.map (fun y => (y, recE r y))) (by rw [List.map_map]; simp [Function.comp_def]) (fun z hz => by
    obtain ⟨y, hy, rfl⟩ := List.mem_map.1 hz
    exact key y hy)
  rw [List.flatMap_map] at this
  exact this
/-- What pieces tells: nothing; or q itself, and q cut again; or the pieces of q, and those cut again. -/
theorem pcs_told {q : Pk} {n s : Int} (hu : Unc q) (hw : Wf q) (hv : q.v = 4 ∨ q.v = 6) (hdf : q.df = false) (hn : 0 ≤ n ∧ n ≤ 1023) (hs : 0 ≤ s ∧ s ≤ 255) :
    ∃ x c m, pcsE q n s = c ++ m ∧ Ref x c ∧ (m = [] ∨ Ref x m) ∧ ((x = q ∧ c = [q]) ∨ (x = basP q 9 ∧ 2 ≤ c.length)) ∧ (q.v = 6 → m = []) := by
  have hm : mtuP (lowP q + n) q.v = true := by
    rw [mtu_iff]; unfold lowP; split <;> omega
  have hunc : (uncutP q && mtuP (lowP q + n) q.v) = true := by rw [hm, (uncut_iff q).2 hu]; rfl
  have hms : mtuP (68 + s) 4 = true := by rw [mtu_iff]; simp; omega
  unfold pcsE cutP
  rw [if_pos hunc]
  by_cases hf : fitsP q (lowP q + n) = true
  · rw [if_pos hf, if_pos rfl]
    have hself := Ref.self hw hu.r
    by_cases h4 : q.v = 4
    · rw [if_pos h4]
      exact ⟨q, [q], _, rfl, hself, .inr (more_ref hself h4 hdf hms), .inl ⟨rfl, rfl⟩, fun h => by omega⟩
    · rw [if_neg h4]
      exact ⟨q, [q], [], rfl, hself, .inl rfl, .inl ⟨rfl, rfl⟩, fun _ => rfl⟩
  · have hd : ¬ (q.df = true) := by rw [hdf]; simp
    rw [if_neg hf, if_neg hd, if_pos rfl]
    have hc := cut_ref (id := 9) hu hw (by omega) (by omega) hm (by simpa using hf)
    obtain ⟨ca, cb, cr, -, -, ce, -⟩ := cut_two (id := 9) hu hw (by omega) (by omega) hm (by simpa using hf)
    have h2 : 2 ≤ (cutL q (lowP q + n) 9).length := by rw [ce]; simp
    by_cases h4 : q.v = 4
    · rw [if_pos h4]
      have hb := bas_four (p := q) (by omega) 9
      exact ⟨basP q 9, _, _, rfl, hc, .inr (more_ref hc (by rw [hb]; exact h4) (by rw [hb]; exact hdf) hms), .inr ⟨rfl, h2⟩, fun h => by omega⟩
    · rw [if_neg h4]
      exact ⟨basP q 9, _, [], rfl, hc, .inl rfl, .inr ⟨rfl, h2⟩, fun _ => rfl⟩
end R
#print axioms R.pcs_told
end Go.Proofs.YtbkeilboneaejaaGreatDoor
