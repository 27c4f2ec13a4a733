/-
  What EntryMemory's loop does to an entry; and lists side by side.
-/
import Derived.Test.YtbkeilboneaejaaGreatDoorJnA
import Derived.Test.YtbkeilboneaejaaGreatDoorMemA
import Derived.Test.YtbkeilboneaejaaGreatDoorLenA
import Derived.Test.YtbkeilboneaejaaGreatDoorMndA
namespace Go.Proofs.YtbkeilboneaejaaGreatDoor
open Go.ChangeShapes Go.WideShapes Go.ChangeAt Go.RowKit Num
open S6 (wp_region_cls quiet_val quiet_call quiet_ld ld3 ld4 ld5 ld25 ld26 load28_run load24m_run)
set_option linter.unusedVariables false
set_option linter.unusedSimpArgs false
set_option maxHeartbeats 8000000
set_option maxRecDepth 100000

namespace R
/-- What stands fast: pieces that are fragments of q, behind q itself perhaps. -/
structure Gd (q x : Pk) (pre c m : List Pk) (z : Pk) (L : List Pk) : Prop where
  eq : L = pre ++ (c ++ m)
  pr : pre = [] ∨ pre = [q]
  hd : L[0]? = some z
  jc : Jc q x c m z
  fr : ∀ y ∈ c ++ m, (decide (0 < y.off) || y.more) = true
theorem Gd.two {q x z : Pk} {pre c m L : List Pk} (h : Gd q x pre c m z L) : 2 ≤ L.length := by
  have := h.jc.c2
  rw [h.eq, List.length_append, List.length_append]; omega
theorem Gd.last {q x z : Pk} {pre c m L : List Pk} (h : Gd q x pre c m z L) {y : Pk} (hy : L[L.length - 1]? = some y) : (decide (0 < y.off) || y.more) = true := by
  apply h.fr
  have h2 := h.jc.c2
  have h3 : pre.length ≤ 1 := by rcases h.pr with e | e <;> rw [e] <;> simp
  have h4 : L.length = pre.length + (c ++ m).length := by rw [h.eq, List.length_append]
  have h5 : 2 ≤ (c ++ m).length := by rw [List.length_append]; omega
  rw [h.eq, List.getElem?_append_right (by rw [← h.eq]; omega)] at hy
  exact List.mem_of_getElem? hy
theorem gd_cut {q : Pk} {x : Pk} {c m : List Pk} (hu : Unc q) (hw : Wf q) (hv : q.v = 4 ∨ q.v = 6) (ho : q.o = []) (hd : q.d.length ≤ 3000) (hx : x = basP q 9) (hc : Ref x c) (hm : m = [] ∨ (Ref x m ∧ c.length ≤ m.length)) (h6 : q.v = 6 → m = []) (h2 : 2 ≤ c.length) : ∃ z, Gd q x [] c m z (c ++ m) := by
  cases hcc : c with
  | nil => rw [hcc] at h2; simp at h2
  | cons a r =>
    rw [← hcc]
    have hj : Jc q x c m a := ⟨hu, hw, hv, hx, ho, hd, hc.kin a (by rw [hcc]; simp), hc, hm, h6, h2⟩
    exact ⟨a, rfl, .inl rfl, by rw [hcc]; rfl, hj, hj.frag⟩
/-- Either so, or there are fewer than two, or the last is whole. -/
theorem gd_or {q : Pk} {n s : Int} (hu : Unc q) (hw : Wf q) (hv : q.v = 4 ∨ q.v = 6) (ho : q.o = []) (hd : q.d.length ≤ 3000) (hdf : q.df = false) (hn : 0 ≤ n ∧ n ≤ 1023) (hs : 0 ≤ s ∧ s ≤ 255) :
    (∃ x pre c m z, Gd q x pre c m z (pcsE q n s)) ∨ (1 ≤ (pcsE q n s).length ∧ ∀ y, (pcsE q n s)[(pcsE q n s).length - 1]? = some y → 2 ≤ (pcsE q n s).length → y.more = false ∧ y.off = 0) := by
  obtain ⟨x, c, m, e, hc, hm, hxc, h6⟩ := pcs_told2 hu hw hv hdf hn hs
  rw [e]
  rcases hxc with ⟨hx, rfl⟩ | ⟨hx, h2⟩
  · subst hx
    rcases hm with rfl | ⟨hm, -⟩
    · right
      exact ⟨by simp, fun y _ h => by simp at h⟩
    · by_cases h2 : 2 ≤ m.length
      · left
        have h4 : x.v = 4 := by
          rcases hv with h | h
          · exact h
          · have := h6 h; rw [this] at h2; simp at h2
        have hj : Jc x x m [] x := ⟨hu, hw, hv, (bas_four (by omega) 9).symm, ho, hd, Kin.refl hw hu.r, hm, .inl rfl, fun _ => rfl, h2⟩
        exact ⟨x, [x], m, [], x, by simp, .inr rfl, rfl, hj, hj.frag⟩
      · right
        obtain ⟨a, rfl⟩ : ∃ a, m = [a] := by
          cases hmm : m with
          | nil => exact absurd hmm hm.ne
          | cons a r => cases r with
            | nil => exact ⟨a, rfl⟩
            | cons b t => rw [hmm] at h2; simp at h2
        refine ⟨by simp, fun y hy _ => ?_⟩
        simp at hy
        subst hy
        have h1 : a.more = x.more := hm.mo
        exact ⟨h1.trans hu.more, (hm.hd a [] rfl).2.trans hu.off⟩
  · left
    obtain ⟨z, hz⟩ := gd_cut hu hw hv ho hd hx hc hm h6 h2
    exact ⟨x, [], c, m, z, hz⟩
/-- Of a packet of version 4 with 200 bytes so. -/
theorem gd_two {q : Pk} (hu : Unc q) (hw : Wf q) (h4 : q.v = 4) (ho : q.o = []) (hd : q.d.length = 200) (hdf : q.df = false) : ∃ x pre c m z, Gd q x pre c m z (pcsE q 0 0) := by
  have hm : mtuP (lowP q + 0) q.v = true := by
    rw [mtu_iff]; unfold lowP; split <;> omega
  have hunc : (uncutP q && mtuP (lowP q + 0) q.v) = true := by rw [hm, (uncut_iff q).2 hu]; rfl
  have hms : mtuP (68 + 0) 4 = true := by rw [mtu_iff]; simp
  have hf : fitsP q (lowP q + 0) = false := by
    rw [Bool.eq_false_iff]
    intro h
    have h1 := ((fits_iff q _).1 h).2
    have h2 : topP q = 20 := by unfold topP; rw [if_neg (by omega), ho]; rfl
    unfold lowP at h1
    rw [if_neg (by omega), h2, hd] at h1
    omega
  have hdd : ¬ (q.df = true) := by rw [hdf]; simp
  have hnf : ¬ (fitsP q (lowP q + 0) = true) := by rw [hf]; simp
  have hc := cut_ref (id := 9) hu hw (by omega) (by omega) hm hf
  obtain ⟨ca, cb, cr, -, -, ce, -⟩ := cut_two (id := 9) hu hw (by omega) (by omega) hm hf
  have h2 : 2 ≤ (cutL q (lowP q + 0) 9).length := by rw [ce]; simp
  have hb := bas_four (p := q) (by omega) 9
  have e : pcsE q 0 0 = cutL q (lowP q + 0) 9 ++ moreL (68 + 0) (cutL q (lowP q + 0) 9) := by
    unfold pcsE cutP
    rw [if_pos hunc, if_neg hnf, if_neg hdd, if_pos rfl, if_pos h4]
  rw [e]
  obtain ⟨z, hz⟩ := gd_cut hu hw (.inl h4) ho (by omega) rfl hc (.inr ⟨more_ref hc (by rw [hb]; exact h4) (by rw [hb]; exact hdf) hms, more_len hc (by rw [hb]; exact h4) (by rw [hb]; exact hdf) hms⟩) (fun h => by omega) h2
  exact ⟨_, _, _, _, z, hz⟩
/-- The loop, as far as k. -/
def Mj (x : Pk) (c m L : List Pk) (z : Pk) (k : Nat) (s : Es) : Prop :=
  ∃ T Y, Js x c z s T Y ∧ ∀ j : Nat, j < k → ∀ y, L[j]? = some y → y ∈ c ++ m → All T y ∧ (y.more = false → s.e ≠ -1)
section
variable {q x z : Pk} {pre c m L : List Pk} {k : Nat} {s : Es}
theorem mj_new (h : Gd q x pre c m z L) (t : Int) : Mj x c m L z 0 (newS z t) := ⟨_, fun _ => 0, js_new h.jc t _, fun j hj => by omega⟩
theorem Mj.step (h : Mj x c m L z k s) (hg : Gd q x pre c m z L) {y : Pk} (hy : L[k]? = some y) : Mj x c m L z (k + 1) (putS s y).2 := by
  obtain ⟨T, Y, hj, hd⟩ := h
  by_cases hm : y ∈ c ++ m
  · obtain ⟨fr, hfr⟩ : ∃ fr : Bool, fr = true ↔ ((y.more = false ∧ s.e = -1) ∨ ∃ i, i < y.d.length ∧ T (y.off + (i : Int)) = false) := by
      by_cases h : ((y.more = false ∧ s.e = -1) ∨ ∃ i, i < y.d.length ∧ T (y.off + (i : Int)) = false)
      · exact ⟨true, by simp [h]⟩
      · exact ⟨false, by simp only [Bool.false_eq_true, false_iff]; exact h⟩
    obtain ⟨-, h2, h3, -, -⟩ := hj.put hg.jc hm hfr
    refine ⟨_, _, h2, fun j hlt u hu hum => ?_⟩
    by_cases hjk : j < k
    · have h4 := hd j hjk u hu hum
      exact ⟨all_mono h4.1, fun e => h3.2 (.inl (h4.2 e))⟩
    · have : j = k := by omega
      subst this
      rw [hy] at hu
      obtain rfl : y = u := Option.some.inj hu
      exact ⟨all_self, fun e => h3.2 (.inr e)⟩
  · have hyq : y = q := by
      have h1 := List.mem_of_getElem? hy
      rw [hg.eq] at h1
      rcases List.mem_append.1 h1 with h2 | h2
      · rcases hg.pr with e | e
        · rw [e] at h2; simp at h2
        · rw [e] at h2; simpa using h2
      · exact absurd h2 hm
    have hp : putS s y = (1, s) := by
      unfold putS ownB
      rw [hyq, hg.jc.unc.off, hg.jc.unc.more]
      simp
    rw [hp]
    refine ⟨T, Y, hj, fun j hlt u hu hum => ?_⟩
    by_cases hjk : j < k
    · exact hd j hjk u hu hum
    · have : j = k := by omega
      subst this
      rw [hy] at hu
      obtain rfl : y = u := Option.some.inj hu
      exact absurd hum hm
/-- In the end. -/
theorem Mj.fin (h : Mj x c m L z L.length s) (hg : Gd q x pre c m z L) :
    s.bad = false ∧ (wholeP s) = (wholeQ q (firstP s).1, true) ∧ (wholeP s).1.d = q.d ∧ s.h = q.d.length ∧ (firstP s).2 = true ∧ (firstP s).1.off = 0 ∧ Wf (firstP s).1 ∧ Wf (wholeP s).1 ∧ (firstP s).1.o = [] ∧ (wholeP s).1.o = [] ∧ (firstP s).1.d.length ≤ 65535 := by
  obtain ⟨T, Y, hj, hd⟩ := h
  have hdn := hj.full hg.jc (fun y hy => by
    have hm : y ∈ L := by rw [hg.eq]; simp [hy]
    obtain ⟨j, hjl, hyj⟩ := List.getElem_of_mem hm
    exact hd j hjl y (by rw [List.getElem?_eq_getElem hjl, hyj]) (List.mem_append_left _ hy))
  obtain ⟨w1, w2⟩ := hj.whole hg.jc hdn
  obtain ⟨l1, l2⟩ := hj.last hg.jc hdn
  have hiv := hj.jx.jn.hd.iv
  have hdd := hj.jx.jn.done.1 hdn
  have hpos : 0 < x.d.length := by
    by_cases h0 : 0 < x.d.length
    · exact h0
    · exfalso
      have hcm := hg.jc.cr.mo
      have hcd := hg.jc.cr.da
      cases hcc : c with
      | nil => exact absurd hcc hg.jc.cr.ne
      | cons a r =>
        rw [hcc] at hcd hcm
        have hr : r ≠ [] := by rintro rfl; have := hg.jc.c2; rw [hcc] at this; simp at this
        obtain ⟨b, r2, rfl⟩ := List.exists_cons_of_ne_nil hr
        have h4 := more_pos (hg.jc.cr.kin a (by rw [hcc]; simp)).r hcm.1
        have h5 : (a.d ++ datas (b :: r2)).length = x.d.length := by rw [← hcd]; rfl
        rw [List.length_append] at h5
        omega
  have hfl := hj.ft.yes (hdd.2 0 hpos)
  obtain ⟨y, hk, hy0, hyo, hsf⟩ := hj.ft.is hfl
  have hf1 : firstP s = (filledP s s.fl, true) := by unfold firstP; rw [if_neg (by omega)]
  have hfo : s.f.off = 0 := by rw [hsf]; exact hy0
  have hfq : s.f.o = [] := by rw [hsf]; show y.o = []; rw [hyo, hg.jc.off.2.1]
  have hwf : Wf (filledP s s.fl) := by
    have h1 := hiv.fw
    have h2 := hiv.db
    have h3 := hiv.dl
    exact ⟨h1.v, h1.tos, h1.flow, h1.sv, h1.sl, h1.sb, h1.dv, h1.dl, h1.db, h1.proto, h1.ttl, h1.id0, h1.id1, h1.off, h1.o, h1.ol, h2.take _, by show (s.d.take _).length ≤ _; rw [List.length_take]; omega⟩
  refine ⟨hj.jx.jn.hd.ok, w1, w2, l2, by rw [hf1], by rw [hf1]; exact hfo, by rw [hf1]; exact hwf, ?_, by rw [hf1]; exact hfq, ?_, ?_⟩
  · rw [w1]
    exact wholeQ_wf hg.jc.wf (first_ttl hiv)
  · rw [w1]; exact hg.jc.oe
  · rw [hf1]
    show (s.d.take _).length ≤ _
    rw [List.length_take]
    have := hiv.dl
    omega
end
/-- A lent packet's lists, as its own. -/
theorem lent_mine {B : Nat} {w : World} {p : Pk} {ou du : Value} {m1 m2 : List Int} (h1 : U5.Lent B w ou p.o m1) (h2 : U5.Lent B w du p.d m2) (hap : ∀ k, ou.ownBlock = some k → du.ownBlock ≠ some k) : Mine w B p ou du := by
  obtain ⟨g1, c1, rfl, -, o1, b1⟩ := h1
  obtain ⟨g2, c2, rfl, -, o2, b2⟩ := h2
  have e1 := o1.head p.o.length (by simp)
  have e2 := o2.head p.d.length (by simp)
  rw [List.take_left'] at e1
  · rw [List.take_left'] at e2
    · exact ⟨e1, e2, fun k hk => by simp [Value.ownBlock] at hk; omega, fun k hk => by simp [Value.ownBlock] at hk; omega, hap⟩
    · rfl
  · rfl
/-- Two more, in two places. -/
theorem lots_addm {w w' : World} {P Q : Lot} {v u : Value} {l m : List Int} (h : Lots w (P ++ Q)) (hw : Away [] w w') (ho : Owns w' v l) (hp : Owns w' u m) (hn : New w.heap.size v) (hm : New w.heap.size u) (hap : ∀ k, v.ownBlock = some k → u.ownBlock ≠ some k) : Lots w' (P ++ (v, l) :: (Q ++ [(u, m)])) := by
  have h2 := h.add2 hw ho hp hn hm hap
  have hperm : (P ++ Q ++ [(v, l), (u, m)]).Perm (P ++ (v, l) :: (Q ++ [(u, m)])) := by
    rw [List.append_assoc]
    exact List.Perm.append_left P List.perm_middle
  refine ⟨fun p hp' => h2.con p (hperm.mem_iff.2 hp'), (hperm.pairwise_iff (fun {a b} hab k h1 h2 => hab k h2 h1)).1 h2.ap⟩
end R
#print axioms R.Mj.fin
#print axioms R.gd_or
#print axioms R.lots_addm
end Go.Proofs.YtbkeilboneaejaaGreatDoor
