/-
  IcmpMemory: what is told is memory of its own.
-/
import Derived.Test.YtbgpjhekohabiaaDoorMemZ
import Derived.Test.YtbgpjhekohabiaaDoorMend
import Derived.Test.YtbgpjhekohabiaaDoorSeenP
import Derived.Test.YtbgpjhekohabiaaDoorOwnP
import Derived.Test.YtbgpjhekohabiaaDoorKitM
import Derived.Test.YtbgpjhekohabiaaDoorCards
import Derived.Test.YtbgpjhekohabiaaDoorTie
import Derived.Deep.CondSized
import Derived.Deep.DeepHandedRow
namespace Go.Proofs.YtbgpjhekohabiaaDoor
open Go.ChangeShapes Go.WideShapes Go.ChangeAt Go.RowKit Go.Deep Num
set_option linter.unusedVariables false
set_option linter.unusedSimpArgs false
set_option maxHeartbeats 8000000
set_option maxRecDepth 100000

theorem open_ax {H : Type} {enc : TypeId × Value → H} {W : World} {base : Nat} {x : Value} {d : DataW H} {pl : List MemPlace} (hv : Value.okWide Tryd.prog W .any base 30 x)
    (h : DataW.Trod enc Tryd.prog W 0 (fun _ => true) true 30 x d pl) : ∃ s : Ax, x = .agg (csA s.v s.l) ∧ WfA s := by
  obtain ⟨cs, rfl, hsz⟩ := okWide_struct Tryd.underlying30 hv
  rw [show Tryd.prog.cellsOf 30 = 17 from by kernel_rfl] at hsz
  obtain ⟨fuel, hf⟩ := h
  simp only [Value.cells] at hf
  obtain ⟨v, l, e, h16, hb, hw⟩ := open_adr hf (by simpa using hsz)
  refine ⟨⟨v, l⟩, ?_, ⟨hw, h16, hb⟩⟩
  congr 1
  apply Array.ext'
  rw [e]; rfl
theorem AllAt.on {w w' : World} {v : Value} {z : Int} (h : AllAt w v z) (hw : Away [] w w') : AllAt w' v z := h.away hw (by simp)
theorem Still.on {w w' : World} {v : Value} {l : List Tk} (h : Still w v l) (hw : Away [] w w') : Still w' v l := by
  refine ⟨?_, h.2.1, fun t ht => ⟨(h.2.2 t ht).1.on hw, (h.2.2 t ht).2.on hw⟩⟩
  obtain ⟨h1, h2⟩ := h.1
  refine ⟨h1, ?_⟩
  rcases h2 with h2 | ⟨g, cap, cur, rfl, hg, hh, r⟩
  · exact .inl h2
  · exact .inr ⟨g, cap, cur, rfl, hg, hw.keep (by simp) hh, r⟩
theorem sl_lt {w : World} {a : Option Addr} {n c : Nat} {l : List Int} (h : Sl w (.slice a n c) l) (hne : l ≠ []) : ∀ k, (Value.slice a n c).ownBlock = some k → k < w.heap.size := fun k hk => by
  obtain ⟨qa', qc', e, -, -, hr⟩ := h
  simp only [Value.slice.injEq] at e
  obtain ⟨rfl, -, -⟩ := e
  obtain ⟨b', off', ha', hc'⟩ := hr.at 0 (List.length_pos_iff.2 hne)
  subst ha'
  have h1 : b' < w.heap.size := block_lt_of_cell hc'
  have h2 : b' = k := by simpa [Value.ownBlock] using hk
  omega
def smQ : Pk := ⟨4, 0, 0, 4, z16, 4, z16, 0, 0, 0, false, false, false, 0, [1, 1, 1, 1], [48, 49, 50, 51, 52, 53, 54, 55, 56, 57]⟩
theorem smq_bytes : Bytes smQ.d := by unfold Bytes smQ; decide
theorem smq_opts : Bytes smQ.o := by unfold Bytes smQ; decide
theorem smq_wf : Wf smQ := by
  have hz : Bytes z16 := by unfold Bytes z16; decide
  exact ⟨by simp [smQ, i64ok], by simp [smQ, i64ok], by simp [smQ, i64ok], by simp [smQ, i64ok], rfl, hz, by simp [smQ, i64ok], rfl, hz, by simp [smQ, i64ok], by simp [smQ, i64ok], by simp [smQ], by simp [smQ], by simp [smQ, i64ok], smq_opts, by simp [smQ], smq_bytes, by simp [smQ]⟩
theorem smq_right : rightP smQ = true := by decide +kernel
theorem Lots.sub {w : World} {P Q : Lot} (h : Lots w P) (hs : List.Sublist Q P) : Lots w Q := ⟨fun p hp => h.con p (hs.subset hp), h.ap.sublist hs⟩
theorem errs_bytes {b : List Int} (hb : Bytes b) (hn : b.length ≤ 65575) {p : Pk} {n : Nat} {t : Int} {k : Nat} {m : Mg} (h : Seen p b n t k m) (h0 : 0 ≤ t) (h1 : t ≤ 65535) (hp : i64ok p.v) (hk : k < 5) : WfM m := by
  have hm : m = (errsP b t k).1 := by rw [h.e]
  have hre := h.re
  refine ⟨by rw [h.v]; exact hp, ?_, ?_, ?_, ?_, by rw [h.d]; exact hb.take _, by have := h.dl; omega⟩
  · rw [hm]; unfold errsP bigP aboutP
    obtain rfl | rfl | rfl | rfl | rfl : k = 0 ∨ k = 1 ∨ k = 2 ∨ k = 3 ∨ k = 4 := by omega
    all_goals (simp only [ty4, ty6, zeroMg]; repeat' split)
    all_goals simp [i64ok]
  · rw [hm]; unfold errsP bigP aboutP
    obtain rfl | rfl | rfl | rfl | rfl : k = 0 ∨ k = 1 ∨ k = 2 ∨ k = 3 ∨ k = 4 := by omega
    all_goals (simp only [co4, co6, zeroMg]; repeat' split)
    all_goals simp [i64ok]
  · rw [hre]; split <;> omega
  · rw [hre]; split <;> omega
theorem pk_cut_wf {p : Pk} (h : Wf p) (n : Nat) : Wf { p with d := p.d.take n } := by
  obtain ⟨a1, a2, a3, a4, a5, a6, a7, a8, a9, a10, a11, a12, a13, a14, a15, a16, a17, a18⟩ := h
  exact ⟨a1, a2, a3, a4, a5, a6, a7, a8, a9, a10, a11, a12, a13, a14, a15, a16, a17.take n, by simp; omega⟩
structure Sz (B : Nat) (w : World) : Prop where
  h : B ≤ w.heap.size
theorem Sz.on {B : Nat} {w w' : World} (h : Sz B w) (hw : Away [] w w') : Sz B w' := ⟨Nat.le_trans h.h hw.size⟩
theorem Sz.away {S : List Nat} {B : Nat} {w w' : World} (h : Sz B w) (hw : Away S w w') : Sz B w' := ⟨Nat.le_trans h.h hw.size⟩
def Abv (B : Nat) (P : Lot) : Prop := ∀ r ∈ P, ∀ k, r.1.ownBlock = some k → B ≤ k
theorem Abv.add {B : Nat} {P : Lot} {w w' : World} {v : Value} {l : List Int} (h : Abv B P) (hs : Sz B w) (ho : Owns w' v l) (hn : New w.heap.size v) : Abv B (P ++ [(v, l)]) := fun r hr k hk => by
  rcases List.mem_append.1 hr with h1 | h1
  · exact h r h1 k hk
  · simp at h1; subst h1; exact Nat.le_trans hs.h (hn k hk)
theorem Abv.sub {B : Nat} {P Q : Lot} (h : Abv B P) (hs : List.Sublist Q P) : Abv B Q := fun r hr => h r (hs.subset hr)
theorem Lots.mid {w : World} {A C : Lot} {x : Value × List Int} (h : Lots w (A ++ x :: C)) : ∀ r ∈ A ++ C, ∀ k, x.1.ownBlock = some k → r.1.ownBlock ≠ some k := fun r hr k hk he => by
  obtain ⟨h1, h2, h3⟩ := List.pairwise_append.1 h.ap
  rcases List.mem_append.1 hr with h4 | h4
  · exact h3 r h4 x (by simp) k he hk
  · exact (List.pairwise_cons.1 h2).1 r h4 k hk he
theorem mem_bl {P : Lot} {k : Nat} (h : k ∈ bl P) : ∃ r ∈ P, r.1.ownBlock = some k := by
  obtain ⟨r, hr, he⟩ := List.mem_filterMap.1 h
  exact ⟨r, hr, he⟩
/-- What is known of a packet that is told of. -/
structure Tld (P : Pk) (b : List Int) : Prop where
  wf : Wf P
  by' : Bytes b
  n : b.length ≤ 65535
  s : ∀ k, k < 5 → ∃ m, Seen P b 8 7 k m
  v : P.v = 4
  ln : P.o.length + P.d.length ≤ 65535
theorem tld {P : Pk} (hw : Wf P) (hr : rightP P = true) : Tld P (lay4 P) := ⟨hw, (lay4_bd hw hr).1, (lay4_bd hw hr).2.1, fun k hk => seen4 hw hr (by omega) (by omega) hk, ((right_iff P).1 hr).1.v, by have h1 := (lay4_bd hw hr).2; omega⟩
namespace icmpMemory
theorem walk (a b : Ax) (m : Mg) (mv : Value) (p : Pk) (ov dv : Value) (W : World) (hG : Glob W) (ha : WfA a) (hb : WfA b) (hm : Dam W m mv) (hml : m.d.length ≤ 140737488351232) (hp : Pkt W p ov dv) (hpo : p.o.length ≤ 140737488351232) (hpd : p.d.length ≤ 140737488351232) :
    Calls Tryd.prog 4 #[.agg (csA a.v a.l), .agg (csA b.v b.l), .agg (csM m mv), .agg (csP p ov dv)] W fun e W' => e = .returned (.bool true) ∧ Below W.heap.size W W' := by
  have HG := Lib.hid hG
  have HWA := Lib.hid ha; have HWB := Lib.hid hb
  have HM := Lib.hid hm; have HP := Lib.hid hp
  have HA : Hid (Away [] W W) := Away.refl _ _
  have hk1 := hm.d.one
  clear hG ha hb hm hp
  go_enter Tryd.func4, Tryd.ntmps4
  go_wp2_with (refine wpList_boxX rfl _ rfl a rfl ?_; refine Hid.out ?_)
  refine Lib.hid ?_
  intro g4 w1 hg_g4 hb haw
  replace HA := Lib.hid (HA.out.on haw)
  clear haw
  have H4 := Lib.hid hb
  have hl_g4 := hb.lt
  clear hb
  go_wp2_with (refine wpList_boxX rfl _ rfl b rfl ?_; refine Hid.out ?_)
  refine Lib.hid ?_
  intro g5 w2 hg_g5 hb haw
  replace HA := Lib.hid (HA.out.on haw)
  replace H4 := Lib.hid (H4.out.on haw)
  clear haw
  have H5 := Lib.hid hb
  have hl_g5 := hb.lt
  clear hb
  go_wp2_with (refine wpList_boxM rfl _ rfl m mv rfl ?_; refine Hid.out ?_)
  refine Lib.hid ?_
  intro g6 w3 hg_g6 hb haw
  replace HA := Lib.hid (HA.out.on haw)
  replace H4 := Lib.hid (H4.out.on haw)
  replace H5 := Lib.hid (H5.out.on haw)
  clear haw
  have H6 := Lib.hid hb
  have hl_g6 := hb.lt
  clear hb
  go_wp2_with (refine wpList_box28 rfl _ rfl p ov dv rfl ?_; refine Hid.out ?_)
  refine Lib.hid ?_
  intro g7 w4 hg_g7 hb haw
  replace HA := Lib.hid (HA.out.on haw)
  replace H4 := Lib.hid (H4.out.on haw)
  replace H5 := Lib.hid (H5.out.on haw)
  replace H6 := Lib.hid (H6.out.on haw)
  clear haw
  have H7 := Lib.hid hb
  have hl_g7 := hb.lt
  clear hb
  go_wp2_with fail
  refine (alive_c _).mono ?_
  rintro E w5 ⟨rfl, haw⟩
  replace HA := Lib.hid (HA.out.on haw)
  replace H4 := Lib.hid (H4.out.on haw)
  replace H5 := Lib.hid (H5.out.on haw)
  replace H6 := Lib.hid (H6.out.on haw)
  replace H7 := Lib.hid (H7.out.on haw)
  clear haw
  go_wp2_with (first | (refine wpList_loadM rfl _ rfl g6 rfl m _ (by exact H6.out) ?_))
  refine (mended_c m _ _ (by exact HM.out.on HA.out)).mono ?_
  rintro E w6 ⟨q, qv, rfl, hfq, hsl, hnq, haw⟩
  replace HA := Lib.hid (HA.out.on haw)
  replace H4 := Lib.hid (H4.out.on haw)
  replace H5 := Lib.hid (H5.out.on haw)
  replace H6 := Lib.hid (H6.out.on haw)
  replace H7 := Lib.hid (H7.out.on haw)
  clear haw
  have HFQ := Lib.hid hfq
  have HSQ := Lib.hid hsl
  have hqn := hfq.n
  obtain ⟨qa, qc, hqv, hq1, hq2, -⟩ := hsl
  subst hqv
  clear hfq
  go_wp2_with (refine wpList_newM rfl rfl rfl _ _ rfl q (.slice qa q.d.length qc) (fun _ => rfl) (fun _ => rfl) rfl ?_; refine Hid.out ?_)
  refine Lib.hid ?_
  intro g9 w7 hg_g9 hb haw
  replace HA := Lib.hid (HA.out.on haw)
  replace H4 := Lib.hid (H4.out.on haw)
  replace H5 := Lib.hid (H5.out.on haw)
  replace H6 := Lib.hid (H6.out.on haw)
  replace H7 := Lib.hid (H7.out.on haw)
  replace HSQ := Lib.hid (HSQ.out.on haw)
  clear haw
  have H9 := Lib.hid hb
  have hl_g9 := hb.lt
  clear hb
  have c0 := H9.out.c0
  go_wp2_with (first | (refine wpList_loadX rfl _ rfl g4 rfl a (by exact H4.out) HWA.out ?_) | (refine wpList_loadX rfl _ rfl g5 rfl b (by exact H5.out) HWB.out ?_))
  obtain ⟨s, hs⟩ : ∃ s, s = adrX a (decide (q.v = 6)) := ⟨_, rfl⟩
  obtain ⟨t, ht⟩ : ∃ t, t = adrX b (decide (q.v = 6)) := ⟨_, rfl⟩
  have HS : Hid (WfA s) := by rw [hs]; exact adrX_wf HWA.out _
  have HT : Hid (WfA t) := by rw [ht]; exact adrX_wf HWB.out _
  have HPR : Hid (pairP s t = true) := by rw [hs, ht]; exact adrX_pair HWA.out HWB.out _
  have HFI : Hid (FitM s q) := by rw [hs]; exact HFQ.out.fit a
  have KP := lpair_c q.v a b w7 HWA.out HWB.out
  rw [← hs, ← ht] at KP
  refine KP.mono ?_
  rintro E w8 ⟨rfl, haw⟩
  replace HA := Lib.hid (HA.out.on haw)
  replace H4 := Lib.hid (H4.out.on haw)
  replace H5 := Lib.hid (H5.out.on haw)
  replace H6 := Lib.hid (H6.out.on haw)
  replace H7 := Lib.hid (H7.out.on haw)
  replace HSQ := Lib.hid (HSQ.out.on haw)
  replace H9 := Lib.hid (H9.out.on haw)
  clear haw
  clear KP c0 hs ht
  have hz4 := H4.out.lt; have hz5 := H5.out.lt; have hz6 := H6.out.lt; have hz7 := H7.out.lt; have hz9 := H9.out.lt; have hzA := HA.out.size
  have hlq : q.d ≠ [] → ∀ k, (Value.slice qa q.d.length qc).ownBlock = some k → k < w8.heap.size := fun hne k hk => by
    obtain ⟨qa', qc', e, -, -, hr⟩ := HSQ.out
    simp only [Value.slice.injEq] at e
    obtain ⟨rfl, -, -⟩ := e
    obtain ⟨b', off', ha', hc'⟩ := hr.at 0 (List.length_pos_iff.2 hne)
    subst ha'
    have h1 : b' < w8.heap.size := block_lt_of_cell hc'
    have h2 : b' = k := by simpa [Value.ownBlock] using hk
    omega
  go_wp2_with (refine wpList_allocX rfl rfl ?_; refine Hid.out ?_)
  refine Lib.hid ?_
  intro g10 w9 hg_g10 hb haw
  replace HA := Lib.hid (HA.out.on haw)
  replace H4 := Lib.hid (H4.out.on haw)
  replace H5 := Lib.hid (H5.out.on haw)
  replace H6 := Lib.hid (H6.out.on haw)
  replace H7 := Lib.hid (H7.out.on haw)
  replace HSQ := Lib.hid (HSQ.out.on haw)
  replace H9 := Lib.hid (H9.out.on haw)
  clear haw
  have H10 := Lib.hid hb
  have hl_g10 := hb.lt
  clear hb
  have hz10 := H10.out.lt
  go_wp2_with (refine wpList_allocX rfl rfl ?_; refine Hid.out ?_)
  refine Lib.hid ?_
  intro g11 w10 hg_g11 hb haw
  replace HA := Lib.hid (HA.out.on haw)
  replace H4 := Lib.hid (H4.out.on haw)
  replace H5 := Lib.hid (H5.out.on haw)
  replace H6 := Lib.hid (H6.out.on haw)
  replace H7 := Lib.hid (H7.out.on haw)
  replace HSQ := Lib.hid (HSQ.out.on haw)
  replace H9 := Lib.hid (H9.out.on haw)
  replace H10 := Lib.hid (H10.out.on haw)
  clear haw
  have H11 := Lib.hid hb
  have hl_g11 := hb.lt
  clear hb
  go_wp2_with (refine wpList_storeX rfl _ _ rfl g10 rfl s rfl zeroAx (by exact H10.out) HS.out.n rfl ?_; refine Hid.out ?_)
  refine Lib.hid ?_
  intro w11 hb haw
  replace HA := Lib.hid (HA.out.next haw (fun x hx => .inr (by simp at hx; omega)))
  replace H4 := Lib.hid (H4.out.away haw (by simp; omega))
  replace H5 := Lib.hid (H5.out.away haw (by simp; omega))
  replace H6 := Lib.hid (H6.out.away haw (by simp; omega))
  replace H7 := Lib.hid (H7.out.away haw (by simp; omega))
  replace HSQ := Lib.hid (HSQ.out.away haw (fun hl k hk => by have h1 := hlq hl k hk; simp; omega))
  replace H9 := Lib.hid (H9.out.away haw (by simp; omega))
  replace H11 := Lib.hid (H11.out.away haw (by simp; omega))
  replace H10 := Lib.hid hb
  clear hb haw
  go_wp2_with (refine wpList_storeX rfl _ _ rfl g11 rfl t rfl zeroAx (by exact H11.out) HT.out.n rfl ?_; refine Hid.out ?_)
  refine Lib.hid ?_
  intro w12 hb haw
  replace HA := Lib.hid (HA.out.next haw (fun x hx => .inr (by simp at hx; omega)))
  replace H4 := Lib.hid (H4.out.away haw (by simp; omega))
  replace H5 := Lib.hid (H5.out.away haw (by simp; omega))
  replace H6 := Lib.hid (H6.out.away haw (by simp; omega))
  replace H7 := Lib.hid (H7.out.away haw (by simp; omega))
  replace HSQ := Lib.hid (HSQ.out.away haw (fun hl k hk => by have h1 := hlq hl k hk; simp; omega))
  replace H9 := Lib.hid (H9.out.away haw (by simp; omega))
  replace H10 := Lib.hid (H10.out.away haw (by simp; omega))
  replace H11 := Lib.hid hb
  clear hb haw
  have hy4 := H4.out.lt; have hy5 := H5.out.lt; have hy6 := H6.out.lt; have hy7 := H7.out.lt; have hy9 := H9.out.lt; have hy10 := H10.out.lt; have hy11 := H11.out.lt; have hyA := HA.out.size
  have hlq2 : q.d ≠ [] → ∀ k, (Value.slice qa q.d.length qc).ownBlock = some k → k < w12.heap.size := fun hne k hk => by have h1 := hlq hne k hk; omega
  go_wp2_with (first | (refine wpList_loadM rfl _ rfl g9 rfl q (.slice qa q.d.length qc) (by exact H9.out) ?_) | (refine wpList_newM rfl rfl rfl _ _ rfl q (.slice qa q.d.length qc) (fun _ => rfl) (fun _ => rfl) rfl ?_; refine Hid.out ?_))
  refine Lib.hid ?_
  intro g12 w13 hg_g12 hb haw
  replace HA := Lib.hid (HA.out.on haw)
  replace H4 := Lib.hid (H4.out.on haw)
  replace H5 := Lib.hid (H5.out.on haw)
  replace H6 := Lib.hid (H6.out.on haw)
  replace H7 := Lib.hid (H7.out.on haw)
  replace HSQ := Lib.hid (HSQ.out.on haw)
  replace H9 := Lib.hid (H9.out.on haw)
  replace H10 := Lib.hid (H10.out.on haw)
  replace H11 := Lib.hid (H11.out.on haw)
  clear haw
  have H12 := Lib.hid hb
  have hl_g12 := hb.lt
  clear hb
  have c4 := H9.out.c4
  have HRQ : Hid (∀ W2, Sl W2 (.slice qa q.d.length qc) q.d → Row W2 qa q.d) := fun W2 h => by obtain ⟨qa2, qc2, e, -, -, hr⟩ := h; simp only [Value.slice.injEq] at e; rw [e.1]; exact hr
  go_wp2_with fail
  refine (own_any qa q.d _ qc _ rfl (by exact HRQ.out _ HSQ.out)).mono ?_
  rintro E w14 ⟨vo, rfl, hown, hnew, haw, -, -⟩
  replace HA := Lib.hid (HA.out.on haw)
  replace H4 := Lib.hid (H4.out.on haw)
  replace H5 := Lib.hid (H5.out.on haw)
  replace H6 := Lib.hid (H6.out.on haw)
  replace H7 := Lib.hid (H7.out.on haw)
  replace HSQ := Lib.hid (HSQ.out.on haw)
  replace H9 := Lib.hid (H9.out.on haw)
  replace H10 := Lib.hid (H10.out.on haw)
  replace H11 := Lib.hid (H11.out.on haw)
  replace H12 := Lib.hid (H12.out.on haw)
  clear haw
  obtain ⟨va, vc, hvo, hvn, hvc⟩ := hown.slc0
  subst hvo
  have HVO := Lib.hid hown
  have hnv := Lib.hid hnew
  have d4 := H12.out.c4
  have f4 := H12.out.free 4
  clear hown hnew
  have hl12 := H12.out.lt
  have hz12 : ∀ k, (Value.slice va q.d.length vc).ownBlock = some k → k ≠ g12 := fun k hk => by have h1 := hnv.out k hk; omega
  go_upto_region 7 with fail
  have haw := away_put (w := w14) (g := g12) 4 (.slice va q.d.length vc)
  have h8 := H12.out.put 4 (.slice va q.d.length vc) (g' := q) (dv' := (.slice va q.d.length vc)) rfl
  replace HA := Lib.hid (HA.out.next haw (fun x hx => .inr (by simp at hx; omega)))
  replace H4 := Lib.hid (H4.out.away haw (by simp; omega))
  replace H5 := Lib.hid (H5.out.away haw (by simp; omega))
  replace H6 := Lib.hid (H6.out.away haw (by simp; omega))
  replace H7 := Lib.hid (H7.out.away haw (by simp; omega))
  replace HSQ := Lib.hid (HSQ.out.away haw (fun hl k hk => by have h1 := hlq2 hl k hk; simp; omega))
  replace H9 := Lib.hid (H9.out.away haw (by simp; omega))
  replace H10 := Lib.hid (H10.out.away haw (by simp; omega))
  replace H11 := Lib.hid (H11.out.away haw (by simp; omega))
  replace HVO := Lib.hid (HVO.out.away haw (fun k hk => by simp; exact hz12 k hk))
  replace H12 := Lib.hid h8
  clear h8 haw c4 d4 f4
  generalize w14.setCell ⟨g12, 4, none⟩ (.slice va q.d.length vc) = w15 at *
  have HLT : Hid (Lots w15 []) := Lots.nil _
  obtain ⟨B, hB⟩ : ∃ B, B = w15.heap.size := ⟨_, rfl⟩
  have HSZ : Hid (Sz B w15) := ⟨by omega⟩
  have hB9 : g9 < B := by have h1 := H9.out.lt; omega
  have hB10 : g10 < B := by have h1 := H10.out.lt; omega
  have hB11 : g11 < B := by have h1 := H11.out.lt; omega
  have hBW : W.heap.size ≤ B := by have h1 := HA.out.size; omega
  have HBQ : Hid (q.d ≠ [] → ∀ k, (Value.slice qa q.d.length qc).ownBlock = some k → k < B) := fun hne k hk => by rw [hB]; exact sl_lt HSQ.out hne k hk
  clear hB
  have HAB : Hid (Abv B []) := fun r hr => by simp at hr
  obtain ⟨bs, hbs⟩ : ∃ x, x = mlayP s t q := ⟨_, rfl⟩
  have HBS := Lib.hid hbs
  have HBE : Hid (mbuildP s t q = (bs, 0)) := by rw [hbs]; exact mbuild_ok HPR.out HFI.out
  have HBB : Hid (Bytes bs) := by rw [hbs]; exact mlay_bytes HS.out HT.out HFI.out
  have hbl : bs.length ≤ 65535 := by rw [hbs, mlay_len]; omega
  have HPA : Hid (mparseP s t bs = (q, 0)) := by rw [hbs]; exact mparse_lay HPR.out HFI.out
  clear hbs
  go_wp2_with (first | (refine wpList_loadX rfl _ rfl g10 rfl s (by exact H10.out) HS.out ?_) | (refine wpList_loadX rfl _ rfl g11 rfl t (by exact H11.out) HT.out ?_) | (refine wpList_loadM rfl _ rfl g12 rfl q _ (by exact H12.out) ?_))
  have hszx := HVO.out.lt
  refine (mbuild_c s t q _ _ HS.out HT.out ⟨HFQ.out.wf, by exact HVO.out.sl HFQ.out.d (by omega)⟩).mono ?_
  rw [HBE.out]
  rintro E w16 ⟨x, rfl, hown, hnew, haw⟩
  have hlt2 := HLT.out.add haw hown hnew
  replace HAB := Lib.hid (HAB.out.add HSZ.out hown hnew)
  replace HA := Lib.hid (HA.out.on haw)
  replace H4 := Lib.hid (H4.out.on haw)
  replace H5 := Lib.hid (H5.out.on haw)
  replace H6 := Lib.hid (H6.out.on haw)
  replace H7 := Lib.hid (H7.out.on haw)
  replace HSQ := Lib.hid (HSQ.out.on haw)
  replace H9 := Lib.hid (H9.out.on haw)
  replace H10 := Lib.hid (H10.out.on haw)
  replace H11 := Lib.hid (H11.out.on haw)
  replace HVO := Lib.hid (HVO.out.on haw)
  replace H12 := Lib.hid (H12.out.on haw)
  replace HSZ := Lib.hid (HSZ.out.on haw)
  clear haw
  replace HLT := Lib.hid hlt2
  have HOx := Lib.hid hown
  have HNx := Lib.hid hnew
  clear hown hnew hlt2
  obtain ⟨xa, xc, hx, hxn, hxc⟩ := HOx.out.slc0
  simp only at hx hxc HOx HLT HAB
  subst hx
  go_wp2_with (first | (refine wpList_loadX rfl _ rfl g10 rfl s (by exact H10.out) HS.out ?_) | (refine wpList_loadX rfl _ rfl g11 rfl t (by exact H11.out) HT.out ?_) | (refine wpList_loadM rfl _ rfl g12 rfl q _ (by exact H12.out) ?_))
  have hszy := HVO.out.lt
  refine (mbuild_c s t q _ _ HS.out HT.out ⟨HFQ.out.wf, by exact HVO.out.sl HFQ.out.d (by omega)⟩).mono ?_
  rw [HBE.out]
  rintro E w17 ⟨y, rfl, hown, hnew, haw⟩
  have hlt2 := HLT.out.add haw hown hnew
  replace HAB := Lib.hid (HAB.out.add HSZ.out hown hnew)
  replace HA := Lib.hid (HA.out.on haw)
  replace H4 := Lib.hid (H4.out.on haw)
  replace H5 := Lib.hid (H5.out.on haw)
  replace H6 := Lib.hid (H6.out.on haw)
  replace H7 := Lib.hid (H7.out.on haw)
  replace HSQ := Lib.hid (HSQ.out.on haw)
  replace H9 := Lib.hid (H9.out.on haw)
  replace H10 := Lib.hid (H10.out.on haw)
  replace H11 := Lib.hid (H11.out.on haw)
  replace HVO := Lib.hid (HVO.out.on haw)
  replace H12 := Lib.hid (H12.out.on haw)
  replace HSZ := Lib.hid (HSZ.out.on haw)
  replace HOx := Lib.hid (HOx.out.on haw)
  clear haw
  replace HLT := Lib.hid hlt2
  have HOy := Lib.hid hown
  have HNy := Lib.hid hnew
  clear hown hnew hlt2
  obtain ⟨ya, yc, hy, hyn, hyc⟩ := HOy.out.slc0
  simp only at hy hyc HOy HLT HAB
  subst hy
  go_wp2_with fail
  have hvl := HVO.out.lt
  have hvx : ∀ k, (Value.slice va q.d.length vc).ownBlock = some k → ∀ r ∈ ([(.slice xa bs.length xc, bs), (.slice ya bs.length yc, bs)] : Lot), r.1.ownBlock ≠ some k := fun k hk r hr => by
    simp at hr
    rcases hr with rfl | rfl
    · intro he; have h1 := HNx.out k he; have h2 := hszx k hk; omega
    · intro he; have h1 := HNy.out k he; have h2 := hszx k hk; have h3 := hszy k hk; omega
  have HVX := Lib.hid hvx
  clear hvx
  have hv4 : ∀ k, (Value.slice va q.d.length vc).ownBlock = some k → k ≠ g4 := fun k hk => by have h1 := hnv.out k hk; omega
  have hv5 : ∀ k, (Value.slice va q.d.length vc).ownBlock = some k → k ≠ g5 := fun k hk => by have h1 := hnv.out k hk; omega
  have hv6 : ∀ k, (Value.slice va q.d.length vc).ownBlock = some k → k ≠ g6 := fun k hk => by have h1 := hnv.out k hk; omega
  have hv7 : ∀ k, (Value.slice va q.d.length vc).ownBlock = some k → k ≠ g7 := fun k hk => by have h1 := hnv.out k hk; omega
  have hv9 : ∀ k, (Value.slice va q.d.length vc).ownBlock = some k → k ≠ g9 := fun k hk => by have h1 := hnv.out k hk; omega
  have hv10 : ∀ k, (Value.slice va q.d.length vc).ownBlock = some k → k ≠ g10 := fun k hk => by have h1 := hnv.out k hk; omega
  have hv11 : ∀ k, (Value.slice va q.d.length vc).ownBlock = some k → k ≠ g11 := fun k hk => by have h1 := hnv.out k hk; omega
  have hv12 : ∀ k, (Value.slice va q.d.length vc).ownBlock = some k → k ≠ g12 := fun k hk => by have h1 := hnv.out k hk; omega
  go_loopw [17] (fun i wr => ∃ (k : Nat) (mm : List Int), i = .int .i64 (k : Int) ∧ k ≤ q.d.length ∧ mm.length = q.d.length ∧ Owns wr (.slice va q.d.length vc) mm ∧ Away (Value.slice va q.d.length vc).ownBlock.toList w17 wr) (fun i _ => q.d.length - (intOf i).toNat)
  case atStart => exact ⟨0, q.d, rfl, by omega, rfl, HVO.out, Away.refl _ _⟩
  case round =>
    obtain ⟨k, mm, rfl, hk, hmm, hmo, haw⟩ := hrel
    clear HVO
    replace HA := Lib.hid (HA.out.next haw (fun x hx => .inr (by have h1 := hnv.out x (by simpa using hx); omega)))
    replace H4 := Lib.hid (H4.out.away haw (fun hc => hv4 _ (by simpa using hc) rfl))
    replace H5 := Lib.hid (H5.out.away haw (fun hc => hv5 _ (by simpa using hc) rfl))
    replace H6 := Lib.hid (H6.out.away haw (fun hc => hv6 _ (by simpa using hc) rfl))
    replace H7 := Lib.hid (H7.out.away haw (fun hc => hv7 _ (by simpa using hc) rfl))
    replace HSQ := Lib.hid (HSQ.out.away haw (fun hl k hk hc => by have h1 := hlq2 hl k hk; have h2 := hnv.out k (by simpa using hc); omega))
    replace H9 := Lib.hid (H9.out.away haw (fun hc => hv9 _ (by simpa using hc) rfl))
    replace H10 := Lib.hid (H10.out.away haw (fun hc => hv10 _ (by simpa using hc) rfl))
    replace H11 := Lib.hid (H11.out.away haw (fun hc => hv11 _ (by simpa using hc) rfl))
    replace H12 := Lib.hid (H12.out.away haw (fun hc => hv12 _ (by simpa using hc) rfl))
    replace HSZ := Lib.hid (HSZ.out.away haw)
    replace HOx := Lib.hid (HOx.out.away haw (fun k hk hc => HVX.out k (by simpa using hc) (.slice xa bs.length xc, bs) (by simp) hk))
    replace HLT := Lib.hid (HLT.out.away haw (fun r hr k hk hc => HVX.out k (by simpa using hc) r hr hk))
    replace HOy := Lib.hid (HOy.out.away haw (fun k hk hc => HVX.out k (by simpa using hc) (.slice ya bs.length yc, bs) (by simp) hk))
    have HMO := Lib.hid hmo
    have HAWL := Lib.hid haw
    clear hmo haw
    have c12 := H12.out.c4
    by_cases hlt : k < q.d.length
    · have i1 : decide ((k : Int) < (q.d.length : Int)) = true := decide_eq_true (by omega)
      obtain ⟨gv, cv, hgv, hcv⟩ := HMO.out.block (fun e => by rw [e] at hmm; simp at hmm; omega)
      rw [hmm] at hgv hcv
      simp only [Value.slice.injEq] at hgv
      obtain ⟨rfl, -, rfl⟩ := hgv
      obtain ⟨ck, fk⟩ := HMO.out.cells k (by omega)
      have x1 : 0 ≤ (k : Int) := by omega
      have x2 : (k : Int) < (q.d.length : Int) := by omega
      have x3 : (k : Int).toNat = k := by omega
      go_wp2_with fail
      go_roundw
      case rel => exact ⟨k + 1, _, by go_num, by omega, by simp [hmm], Owns.set HMO.out hmm k 238, HAWL.out.trans ((Away.refl _ _).setCell (.inl (by simp [Value.ownBlock])) _)⟩
      case measure => simp [intOf]; omega
    · obtain rfl : k = q.d.length := by omega
      have i1 : decide ((q.d.length : Int) < (q.d.length : Int)) = false := by simp
      go_wp2_with fail
      clear c12 HMO HAWL hmm i1
      clear H12
      refine (same_sl _ _ bs _ (by exact HOx.out.sl HBB.out (by omega)) (by exact HOy.out.sl HBB.out (by omega))).mono ?_
      rintro E w90 ⟨rfl, hwe⟩
      replace hwe := hwe.symm
      subst hwe
      go_wp2_with fail
      refine (own_any xa bs _ xc _ rfl (by exact HOx.out.row' (by omega) HBB.out)).mono ?_
      rintro E w18 ⟨kp, rfl, hown, hnew, haw, -, -⟩
      have hlt2 := HLT.out.add haw hown hnew
      replace HAB := Lib.hid (HAB.out.add HSZ.out hown hnew)
      replace HA := Lib.hid (HA.out.on haw)
      replace H4 := Lib.hid (H4.out.on haw)
      replace H5 := Lib.hid (H5.out.on haw)
      replace H6 := Lib.hid (H6.out.on haw)
      replace H7 := Lib.hid (H7.out.on haw)
      replace HSQ := Lib.hid (HSQ.out.on haw)
      replace H9 := Lib.hid (H9.out.on haw)
      replace H10 := Lib.hid (H10.out.on haw)
      replace H11 := Lib.hid (H11.out.on haw)
      replace HSZ := Lib.hid (HSZ.out.on haw)
      replace HOx := Lib.hid (HOx.out.on haw)
      replace HOy := Lib.hid (HOy.out.on haw)
      clear haw
      replace HLT := Lib.hid hlt2
      clear hlt2
      have HOkp := Lib.hid hown
      have HNkp := Lib.hid hnew
      clear hown hnew
      obtain ⟨kpa, kpc, hkp, hkpn, hkpc⟩ := HOkp.out.slc0
      subst hkp
      go_wp2_with fail
      have hw4 := H4.out.lt; have hw5 := H5.out.lt; have hw6 := H6.out.lt; have hw7 := H7.out.lt; have hw9 := H9.out.lt; have hw10 := H10.out.lt; have hw11 := H11.out.lt; have hwA := HA.out.size
      have HLL := Lib.hid HLT.out.lt
      have hlq3 : q.d ≠ [] → ∀ k, (Value.slice qa q.d.length qc).ownBlock = some k → k < w18.heap.size := fun hne k hk => sl_lt HSQ.out hne k hk
      refine (own_any xa bs _ xc _ rfl (by exact HOx.out.row' (by omega) HBB.out)).mono ?_
      rintro E w19 ⟨fr, rfl, hown, hnew, haw, -, -⟩
      replace HA := Lib.hid (HA.out.on haw)
      replace H4 := Lib.hid (H4.out.on haw)
      replace H5 := Lib.hid (H5.out.on haw)
      replace H6 := Lib.hid (H6.out.on haw)
      replace H7 := Lib.hid (H7.out.on haw)
      replace HSQ := Lib.hid (HSQ.out.on haw)
      replace H9 := Lib.hid (H9.out.on haw)
      replace H10 := Lib.hid (H10.out.on haw)
      replace H11 := Lib.hid (H11.out.on haw)
      replace HSZ := Lib.hid (HSZ.out.on haw)
      replace HOx := Lib.hid (HOx.out.on haw)
      replace HOy := Lib.hid (HOy.out.on haw)
      replace HLT := Lib.hid (HLT.out.on haw)
      replace HOkp := Lib.hid (HOkp.out.on haw)
      clear haw
      have HOfr := Lib.hid hown
      have HNfr := Lib.hid hnew
      clear hown hnew
      obtain ⟨fra, frc, hfr, hfrn, hfrc⟩ := HOfr.out.slc0
      subst hfr
      go_wp2_with (first | (refine wpList_loadX rfl _ rfl g10 rfl s (by exact H10.out) HS.out ?_) | (refine wpList_loadX rfl _ rfl g11 rfl t (by exact H11.out) HT.out ?_))
      have hszob := HOfr.out.lt
      refine (mparse_c s t fra bs frc _ HS.out HT.out (by exact HOfr.out.row' (by omega) HBB.out) hfrn).mono ?_
      rw [HPA.out]
      rintro E w20 ⟨ob, rfl, hown, hnew, haw⟩
      dsimp only at hown ⊢
      have hlt2 := HLT.out.add haw hown hnew
      replace HAB := Lib.hid (HAB.out.add HSZ.out hown hnew)
      replace HA := Lib.hid (HA.out.on haw)
      replace H4 := Lib.hid (H4.out.on haw)
      replace H5 := Lib.hid (H5.out.on haw)
      replace H6 := Lib.hid (H6.out.on haw)
      replace H7 := Lib.hid (H7.out.on haw)
      replace HSQ := Lib.hid (HSQ.out.on haw)
      replace H9 := Lib.hid (H9.out.on haw)
      replace H10 := Lib.hid (H10.out.on haw)
      replace H11 := Lib.hid (H11.out.on haw)
      replace HSZ := Lib.hid (HSZ.out.on haw)
      replace HOx := Lib.hid (HOx.out.on haw)
      replace HOy := Lib.hid (HOy.out.on haw)
      replace HOkp := Lib.hid (HOkp.out.on haw)
      replace HOfr := Lib.hid (HOfr.out.on haw)
      clear haw
      replace HLT := Lib.hid hlt2
      clear hlt2
      have HOob := Lib.hid hown
      have HNob := Lib.hid hnew
      clear hown hnew
      obtain ⟨oba, obc, hob, hobn, hobc⟩ := HOob.out.slc0
      subst hob
      have hsnob := HOfr.out.lt
      go_wp2_with (refine wpList_newM rfl rfl rfl _ _ rfl q (.slice oba q.d.length obc) (fun _ => rfl) (fun _ => rfl) rfl ?_; refine Hid.out ?_)
      refine Lib.hid ?_
      intro g20 w21 hg_g20 hb haw
      replace HA := Lib.hid (HA.out.on haw)
      replace H4 := Lib.hid (H4.out.on haw)
      replace H5 := Lib.hid (H5.out.on haw)
      replace H6 := Lib.hid (H6.out.on haw)
      replace H7 := Lib.hid (H7.out.on haw)
      replace HSQ := Lib.hid (HSQ.out.on haw)
      replace H9 := Lib.hid (H9.out.on haw)
      replace H10 := Lib.hid (H10.out.on haw)
      replace H11 := Lib.hid (H11.out.on haw)
      replace HSZ := Lib.hid (HSZ.out.on haw)
      replace HOx := Lib.hid (HOx.out.on haw)
      replace HOy := Lib.hid (HOy.out.on haw)
      replace HOkp := Lib.hid (HOkp.out.on haw)
      replace HOfr := Lib.hid (HOfr.out.on haw)
      replace HLT := Lib.hid (HLT.out.on haw)
      replace HOob := Lib.hid (HOob.out.on haw)
      clear haw
      have H20 := Lib.hid hb
      have hl_g20 := hb.lt
      clear hb
      have hx20 := H20.out.lt
      go_wp2_with (first | (refine wpList_loadX rfl _ rfl g10 rfl s (by exact H10.out) HS.out ?_) | (refine wpList_loadX rfl _ rfl g11 rfl t (by exact H11.out) HT.out ?_))
      have hszqb := HOfr.out.lt
      refine (mparse_c s t fra bs frc _ HS.out HT.out (by exact HOfr.out.row' (by omega) HBB.out) hfrn).mono ?_
      rw [HPA.out]
      rintro E w22 ⟨qb, rfl, hown, hnew, haw⟩
      dsimp only at hown ⊢
      have hlt2 := HLT.out.add haw hown hnew
      replace HAB := Lib.hid (HAB.out.add HSZ.out hown hnew)
      replace HA := Lib.hid (HA.out.on haw)
      replace H4 := Lib.hid (H4.out.on haw)
      replace H5 := Lib.hid (H5.out.on haw)
      replace H6 := Lib.hid (H6.out.on haw)
      replace H7 := Lib.hid (H7.out.on haw)
      replace HSQ := Lib.hid (HSQ.out.on haw)
      replace H9 := Lib.hid (H9.out.on haw)
      replace H10 := Lib.hid (H10.out.on haw)
      replace H11 := Lib.hid (H11.out.on haw)
      replace HSZ := Lib.hid (HSZ.out.on haw)
      replace HOx := Lib.hid (HOx.out.on haw)
      replace HOy := Lib.hid (HOy.out.on haw)
      replace HOkp := Lib.hid (HOkp.out.on haw)
      replace HOfr := Lib.hid (HOfr.out.on haw)
      replace HOob := Lib.hid (HOob.out.on haw)
      replace H20 := Lib.hid (H20.out.on haw)
      clear haw
      replace HLT := Lib.hid hlt2
      clear hlt2
      have HOqb := Lib.hid hown
      have HNqb := Lib.hid hnew
      clear hown hnew
      obtain ⟨qba, qbc, hqb, hqbn, hqbc⟩ := HOqb.out.slc0
      subst hqb
      have hsnqb := HOfr.out.lt
      go_wp2_with (refine wpList_newM rfl rfl rfl _ _ rfl q (.slice qba q.d.length qbc) (fun _ => rfl) (fun _ => rfl) rfl ?_; refine Hid.out ?_)
      refine Lib.hid ?_
      intro g21 w23 hg_g21 hb haw
      replace HA := Lib.hid (HA.out.on haw)
      replace H4 := Lib.hid (H4.out.on haw)
      replace H5 := Lib.hid (H5.out.on haw)
      replace H6 := Lib.hid (H6.out.on haw)
      replace H7 := Lib.hid (H7.out.on haw)
      replace HSQ := Lib.hid (HSQ.out.on haw)
      replace H9 := Lib.hid (H9.out.on haw)
      replace H10 := Lib.hid (H10.out.on haw)
      replace H11 := Lib.hid (H11.out.on haw)
      replace HSZ := Lib.hid (HSZ.out.on haw)
      replace HOx := Lib.hid (HOx.out.on haw)
      replace HOy := Lib.hid (HOy.out.on haw)
      replace HOkp := Lib.hid (HOkp.out.on haw)
      replace HOfr := Lib.hid (HOfr.out.on haw)
      replace HOob := Lib.hid (HOob.out.on haw)
      replace H20 := Lib.hid (H20.out.on haw)
      replace HLT := Lib.hid (HLT.out.on haw)
      replace HOqb := Lib.hid (HOqb.out.on haw)
      clear haw
      have H21 := Lib.hid hb
      have hl_g21 := hb.lt
      clear hb
      go_wp2_with fail
      replace HLT : Hid (Lots w23 [(.slice xa bs.length xc, bs), (.slice ya bs.length yc, bs), (.slice kpa bs.length kpc, bs), (.slice oba q.d.length obc, q.d), (.slice qba q.d.length qbc, q.d)]) := by refine Lib.hid ?_; have h1 := HLT.out; simpa using h1
      have HFX : Hid (∀ k, (Value.slice fra bs.length frc).ownBlock = some k → ∀ r ∈ ([(.slice xa bs.length xc, bs), (.slice ya bs.length yc, bs), (.slice kpa bs.length kpc, bs), (.slice oba q.d.length obc, q.d), (.slice qba q.d.length qbc, q.d)] : Lot), r.1.ownBlock ≠ some k) := fun k hk r hr he => by
        have h0 := HNfr.out k hk
        simp only [List.mem_cons, List.not_mem_nil, or_false] at hr
        rcases hr with rfl | rfl | rfl | rfl | rfl
        · have h1 := HLL.out (.slice xa bs.length xc, bs) (by simp) k he; omega
        · have h1 := HLL.out (.slice ya bs.length yc, bs) (by simp) k he; omega
        · have h1 := HLL.out (.slice kpa bs.length kpc, bs) (by simp) k he; omega
        · have h1 := HNob.out k he; have h2 := hszob k hk; omega
        · have h1 := HNqb.out k he; have h2 := hszqb k hk; omega
      have hf4 : ∀ k, (Value.slice fra bs.length frc).ownBlock = some k → k ≠ g4 := fun k hk => by have h1 := HNfr.out k hk; omega
      have hf5 : ∀ k, (Value.slice fra bs.length frc).ownBlock = some k → k ≠ g5 := fun k hk => by have h1 := HNfr.out k hk; omega
      have hf6 : ∀ k, (Value.slice fra bs.length frc).ownBlock = some k → k ≠ g6 := fun k hk => by have h1 := HNfr.out k hk; omega
      have hf7 : ∀ k, (Value.slice fra bs.length frc).ownBlock = some k → k ≠ g7 := fun k hk => by have h1 := HNfr.out k hk; omega
      have hf9 : ∀ k, (Value.slice fra bs.length frc).ownBlock = some k → k ≠ g9 := fun k hk => by have h1 := HNfr.out k hk; omega
      have hf10 : ∀ k, (Value.slice fra bs.length frc).ownBlock = some k → k ≠ g10 := fun k hk => by have h1 := HNfr.out k hk; omega
      have hf11 : ∀ k, (Value.slice fra bs.length frc).ownBlock = some k → k ≠ g11 := fun k hk => by have h1 := HNfr.out k hk; omega
      have hf20 : ∀ k, (Value.slice fra bs.length frc).ownBlock = some k → k ≠ g20 := fun k hk => by have h1 := hsnob k hk; omega
      have hf21 : ∀ k, (Value.slice fra bs.length frc).ownBlock = some k → k ≠ g21 := fun k hk => by have h1 := hsnqb k hk; omega
      go_loopw [22] (fun i wr => ∃ (k : Nat) (mm : List Int), i = .int .i64 (k : Int) ∧ k ≤ bs.length ∧ mm.length = bs.length ∧ Owns wr (.slice fra bs.length frc) mm ∧ Away (Value.slice fra bs.length frc).ownBlock.toList w23 wr) (fun i _ => bs.length - (intOf i).toNat)
      case atStart => exact ⟨0, bs, rfl, by omega, rfl, HOfr.out, Away.refl _ _⟩
      case round =>
        obtain ⟨k, mm, rfl, hk, hmm, hmo, haw⟩ := hrel
        clear HOfr
        replace HA := Lib.hid (HA.out.next haw (fun x hx => .inr (by have h1 := HNfr.out x (by simpa using hx); omega)))
        replace H4 := Lib.hid (H4.out.away haw (fun hc => hf4 _ (by simpa using hc) rfl))
        replace H5 := Lib.hid (H5.out.away haw (fun hc => hf5 _ (by simpa using hc) rfl))
        replace H6 := Lib.hid (H6.out.away haw (fun hc => hf6 _ (by simpa using hc) rfl))
        replace H7 := Lib.hid (H7.out.away haw (fun hc => hf7 _ (by simpa using hc) rfl))
        replace HSQ := Lib.hid (HSQ.out.away haw (fun hl k hk hc => by have h1 := hlq3 hl k hk; have h2 := HNfr.out k (by simpa using hc); omega))
        replace H9 := Lib.hid (H9.out.away haw (fun hc => hf9 _ (by simpa using hc) rfl))
        replace H10 := Lib.hid (H10.out.away haw (fun hc => hf10 _ (by simpa using hc) rfl))
        replace H11 := Lib.hid (H11.out.away haw (fun hc => hf11 _ (by simpa using hc) rfl))
        replace HSZ := Lib.hid (HSZ.out.away haw)
        replace HOx := Lib.hid (HOx.out.away haw (fun k hk hc => HFX.out k (by simpa using hc) (.slice xa bs.length xc, bs) (by simp) hk))
        replace HOy := Lib.hid (HOy.out.away haw (fun k hk hc => HFX.out k (by simpa using hc) (.slice ya bs.length yc, bs) (by simp) hk))
        replace HOkp := Lib.hid (HOkp.out.away haw (fun k hk hc => HFX.out k (by simpa using hc) (.slice kpa bs.length kpc, bs) (by simp) hk))
        replace HOob := Lib.hid (HOob.out.away haw (fun k hk hc => HFX.out k (by simpa using hc) (.slice oba q.d.length obc, q.d) (by simp) hk))
        replace H20 := Lib.hid (H20.out.away haw (fun hc => hf20 _ (by simpa using hc) rfl))
        replace HLT := Lib.hid (HLT.out.away haw (fun r hr k hk hc => HFX.out k (by simpa using hc) r hr hk))
        replace HOqb := Lib.hid (HOqb.out.away haw (fun k hk hc => HFX.out k (by simpa using hc) (.slice qba q.d.length qbc, q.d) (by simp) hk))
        replace H21 := Lib.hid (H21.out.away haw (fun hc => hf21 _ (by simpa using hc) rfl))
        have HMO := Lib.hid hmo
        have HAWL := Lib.hid haw
        clear hmo haw
        by_cases hlt : k < bs.length
        · have i1 : decide ((k : Int) < (bs.length : Int)) = true := decide_eq_true (by omega)
          obtain ⟨gv, cv, hgv, hcv⟩ := HMO.out.block (fun e => by rw [e] at hmm; simp at hmm; omega)
          rw [hmm] at hgv hcv
          simp only [Value.slice.injEq] at hgv
          obtain ⟨rfl, -, rfl⟩ := hgv
          obtain ⟨ck, fk⟩ := HMO.out.cells k (by omega)
          have x1 : 0 ≤ (k : Int) := by omega
          have x2 : (k : Int) < (bs.length : Int) := by omega
          have x3 : (k : Int).toNat = k := by omega
          go_wp2_with fail
          go_roundw
          case rel => exact ⟨k + 1, _, by go_num, by omega, by simp [hmm], Owns.set HMO.out hmm k 238, HAWL.out.trans ((Away.refl _ _).setCell (.inl (by simp [Value.ownBlock])) _)⟩
          case measure => simp [intOf]; omega
        · obtain rfl : k = bs.length := by omega
          have i1 : decide ((bs.length : Int) < (bs.length : Int)) = false := by simp
          clear HMO HAWL hmm
          go_upto_region 23 with fail
          have haw := (Away.refl [] wr).alloc (.cells #[.int .u8 1, .int .u8 1, .int .u8 1, .int .u8 1] 5)
          have hs1 : (World.alloc wr (.cells #[.int .u8 1, .int .u8 1, .int .u8 1, .int .u8 1] 5)).heap.size = wr.heap.size + 1 := by simp
          replace HA := Lib.hid (HA.out.on haw)
          replace H4 := Lib.hid (H4.out.on haw)
          replace H5 := Lib.hid (H5.out.on haw)
          replace H6 := Lib.hid (H6.out.on haw)
          replace H7 := Lib.hid (H7.out.on haw)
          replace HSQ := Lib.hid (HSQ.out.on haw)
          replace H9 := Lib.hid (H9.out.on haw)
          replace H10 := Lib.hid (H10.out.on haw)
          replace H11 := Lib.hid (H11.out.on haw)
          replace HSZ := Lib.hid (HSZ.out.on haw)
          replace HOx := Lib.hid (HOx.out.on haw)
          replace HOy := Lib.hid (HOy.out.on haw)
          replace HOkp := Lib.hid (HOkp.out.on haw)
          replace HOob := Lib.hid (HOob.out.on haw)
          replace H20 := Lib.hid (H20.out.on haw)
          replace HLT := Lib.hid (HLT.out.on haw)
          replace HOqb := Lib.hid (HOqb.out.on haw)
          replace H21 := Lib.hid (H21.out.on haw)
          clear haw
          have HRO : Hid (Row (World.alloc wr (.cells #[.int .u8 1, .int .u8 1, .int .u8 1, .int .u8 1] 5)) (some ⟨wr.heap.size, 0, none⟩) smQ.o) := Row.lit wr smQ.o smq_opts (by decide)
          have haw := (Away.refl [] (World.alloc wr (.cells #[.int .u8 1, .int .u8 1, .int .u8 1, .int .u8 1] 5))).alloc (.cells #[.int .u8 48, .int .u8 49, .int .u8 50, .int .u8 51, .int .u8 52, .int .u8 53, .int .u8 54, .int .u8 55, .int .u8 56, .int .u8 57] 5 (10, 11))
          replace HA := Lib.hid (HA.out.on haw)
          replace H4 := Lib.hid (H4.out.on haw)
          replace H5 := Lib.hid (H5.out.on haw)
          replace H6 := Lib.hid (H6.out.on haw)
          replace H7 := Lib.hid (H7.out.on haw)
          replace HSQ := Lib.hid (HSQ.out.on haw)
          replace H9 := Lib.hid (H9.out.on haw)
          replace H10 := Lib.hid (H10.out.on haw)
          replace H11 := Lib.hid (H11.out.on haw)
          replace HSZ := Lib.hid (HSZ.out.on haw)
          replace HOx := Lib.hid (HOx.out.on haw)
          replace HOy := Lib.hid (HOy.out.on haw)
          replace HOkp := Lib.hid (HOkp.out.on haw)
          replace HOob := Lib.hid (HOob.out.on haw)
          replace H20 := Lib.hid (H20.out.on haw)
          replace HLT := Lib.hid (HLT.out.on haw)
          replace HOqb := Lib.hid (HOqb.out.on haw)
          replace H21 := Lib.hid (H21.out.on haw)
          replace HRO := Lib.hid (HRO.out.on haw)
          clear haw
          have HRL : Hid (Row ((World.alloc wr (.cells #[.int .u8 1, .int .u8 1, .int .u8 1, .int .u8 1] 5)).alloc (.cells #[.int .u8 48, .int .u8 49, .int .u8 50, .int .u8 51, .int .u8 52, .int .u8 53, .int .u8 54, .int .u8 55, .int .u8 56, .int .u8 57] 5 (10, 11))) (some ⟨(World.alloc wr (.cells #[.int .u8 1, .int .u8 1, .int .u8 1, .int .u8 1] 5)).heap.size, 0, none⟩) smQ.d) := Row.litM (World.alloc wr (.cells #[.int .u8 1, .int .u8 1, .int .u8 1, .int .u8 1] 5)) smQ.d (10, 11) smq_bytes (by decide)
          have kc := Lib.run_convert_bytes_const (P := Tryd.prog) (World.alloc wr (.cells #[.int .u8 1, .int .u8 1, .int .u8 1, .int .u8 1] 5)) 23 5 #[.int .u8 48, .int .u8 49, .int .u8 50, .int .u8 51, .int .u8 52, .int .u8 53, .int .u8 54, .int .u8 55, .int .u8 56, .int .u8 57] 10 10 Tryd.underlying23 under5
          rw [hs1] at kc HRL
          go_wp2_with (refine wpList_new28 rfl rfl rfl _ _ rfl smQ (.slice (some ⟨wr.heap.size, 0, none⟩) 4 4) (.slice (some ⟨wr.heap.size + 1, 0, none⟩) 10 10) (fun _ => rfl) (fun _ => rfl) ⟨rfl, rfl⟩ rfl rfl ?_; refine Hid.out ?_)
          refine Lib.hid ?_
          clear kc
          intro g23 w24 hg_g23 hb haw
          replace HA := Lib.hid (HA.out.on haw)
          replace H4 := Lib.hid (H4.out.on haw)
          replace H5 := Lib.hid (H5.out.on haw)
          replace H6 := Lib.hid (H6.out.on haw)
          replace H7 := Lib.hid (H7.out.on haw)
          replace HSQ := Lib.hid (HSQ.out.on haw)
          replace H9 := Lib.hid (H9.out.on haw)
          replace H10 := Lib.hid (H10.out.on haw)
          replace H11 := Lib.hid (H11.out.on haw)
          replace HSZ := Lib.hid (HSZ.out.on haw)
          replace HOx := Lib.hid (HOx.out.on haw)
          replace HOy := Lib.hid (HOy.out.on haw)
          replace HOkp := Lib.hid (HOkp.out.on haw)
          replace HOob := Lib.hid (HOob.out.on haw)
          replace H20 := Lib.hid (H20.out.on haw)
          replace HLT := Lib.hid (HLT.out.on haw)
          replace HOqb := Lib.hid (HOqb.out.on haw)
          replace H21 := Lib.hid (H21.out.on haw)
          replace HRO := Lib.hid (HRO.out.on haw)
          replace HRL := Lib.hid (HRL.out.on haw)
          clear haw
          have H23 := Lib.hid hb
          have hl_g23 := hb.lt
          clear hb
          clear hs1
          generalize wr.heap.size = s0 at *
          have HPS : Hid (Pkt w24 smQ (.slice (some ⟨s0, 0, none⟩) 4 4) (.slice (some ⟨s0 + 1, 0, none⟩) 10 10)) := ⟨smq_wf, ⟨_, _, rfl, by decide, by simp, HRO.out⟩, ⟨_, _, rfl, by decide, by simp, HRL.out⟩⟩
          clear HRO HRL
          go_wp2_with (first | (refine wpList_load28 rfl _ rfl g23 rfl smQ _ _ (by exact H23.out) ⟨rfl, rfl⟩ ?_))
          obtain ⟨sb, hsb⟩ : ∃ x, x = lay4 smQ := ⟨_, rfl⟩
          have HBS : Hid (build4 smQ = (sb, 0)) := by rw [hsb]; exact build_ok smq_right
          have HTS : Hid (Tld smQ sb) := by rw [hsb]; exact tld smq_wf smq_right
          clear hsb
          refine (build_c smQ (.slice (some ⟨s0, 0, none⟩) 4 4) (.slice (some ⟨s0 + 1, 0, none⟩) 10 10) _ (by exact HPS.out) (by exact HG.out.on HA.out)).mono ?_
          rintro E w25 ⟨sm, hE, hown, hnew, haw⟩
          rw [HBS.out] at hE hown
          subst hE
          have hlt2 := HLT.out.add haw hown hnew
          replace HAB := Lib.hid (HAB.out.add HSZ.out hown hnew)
          replace HA := Lib.hid (HA.out.on haw)
          replace H4 := Lib.hid (H4.out.on haw)
          replace H5 := Lib.hid (H5.out.on haw)
          replace H6 := Lib.hid (H6.out.on haw)
          replace H7 := Lib.hid (H7.out.on haw)
          replace HSQ := Lib.hid (HSQ.out.on haw)
          replace H9 := Lib.hid (H9.out.on haw)
          replace H10 := Lib.hid (H10.out.on haw)
          replace H11 := Lib.hid (H11.out.on haw)
          replace HSZ := Lib.hid (HSZ.out.on haw)
          replace HOx := Lib.hid (HOx.out.on haw)
          replace HOy := Lib.hid (HOy.out.on haw)
          replace HOkp := Lib.hid (HOkp.out.on haw)
          replace HOob := Lib.hid (HOob.out.on haw)
          replace H20 := Lib.hid (H20.out.on haw)
          replace HOqb := Lib.hid (HOqb.out.on haw)
          replace H21 := Lib.hid (H21.out.on haw)
          replace H23 := Lib.hid (H23.out.on haw)
          replace HPS := Lib.hid (HPS.out.on haw)
          clear haw
          replace HLT := Lib.hid hlt2
          clear hlt2
          have HOsm := Lib.hid hown
          have HNsm := Lib.hid hnew
          clear hown hnew
          obtain ⟨sma, smc, hsm, hsmn, hsmc⟩ := HOsm.out.slc0
          simp only at hsm hsmc HOsm HLT HAB
          subst hsm
          clear HPS H23
          go_wp2_with (first | (refine wpList_load28 rfl _ rfl g7 rfl p ov dv (by exact H7.out) HP.out.wf.ad ?_))
          refine (ownP_c p ov dv _ (by exact HP.out.on HA.out)).mono ?_
          rintro E w26 ⟨o2, d2, rfl, hmine, haw⟩
          replace HA := Lib.hid (HA.out.on haw)
          replace H4 := Lib.hid (H4.out.on haw)
          replace H5 := Lib.hid (H5.out.on haw)
          replace H6 := Lib.hid (H6.out.on haw)
          replace H7 := Lib.hid (H7.out.on haw)
          replace HSQ := Lib.hid (HSQ.out.on haw)
          replace H9 := Lib.hid (H9.out.on haw)
          replace H10 := Lib.hid (H10.out.on haw)
          replace H11 := Lib.hid (H11.out.on haw)
          replace HSZ := Lib.hid (HSZ.out.on haw)
          replace HOx := Lib.hid (HOx.out.on haw)
          replace HOy := Lib.hid (HOy.out.on haw)
          replace HOkp := Lib.hid (HOkp.out.on haw)
          replace HOob := Lib.hid (HOob.out.on haw)
          replace H20 := Lib.hid (H20.out.on haw)
          replace HOqb := Lib.hid (HOqb.out.on haw)
          replace H21 := Lib.hid (H21.out.on haw)
          replace HLT := Lib.hid (HLT.out.on haw)
          replace HOsm := Lib.hid (HOsm.out.on haw)
          clear haw
          have HM2 := Lib.hid hmine
          clear hmine
          go_wp2_with fail
          by_cases hr : rightP p = true
          · obtain ⟨db, hdb⟩ : ∃ x, x = lay4 p := ⟨_, rfl⟩
            have HBD : Hid (build4 p = (db, 0)) := by rw [hdb]; exact build_ok hr
            have HTP : Hid (Tld p db) := by rw [hdb]; exact tld HP.out.wf hr
            clear hdb
            refine (build_c p o2 d2 _ (by exact HM2.out.pkt HP.out.wf) (by exact HG.out.on HA.out)).mono ?_
            rintro E w27 ⟨dr, hE, hown, hnew, haw⟩
            rw [HBD.out] at hE hown
            subst hE
            have hlt2 := HLT.out.add haw hown hnew
            replace HAB := Lib.hid (HAB.out.add HSZ.out hown hnew)
            replace HA := Lib.hid (HA.out.on haw)
            replace H4 := Lib.hid (H4.out.on haw)
            replace H5 := Lib.hid (H5.out.on haw)
            replace H6 := Lib.hid (H6.out.on haw)
            replace H7 := Lib.hid (H7.out.on haw)
            replace HSQ := Lib.hid (HSQ.out.on haw)
            replace H9 := Lib.hid (H9.out.on haw)
            replace H10 := Lib.hid (H10.out.on haw)
            replace H11 := Lib.hid (H11.out.on haw)
            replace HSZ := Lib.hid (HSZ.out.on haw)
            replace HOx := Lib.hid (HOx.out.on haw)
            replace HOy := Lib.hid (HOy.out.on haw)
            replace HOkp := Lib.hid (HOkp.out.on haw)
            replace HOob := Lib.hid (HOob.out.on haw)
            replace H20 := Lib.hid (H20.out.on haw)
            replace HOqb := Lib.hid (HOqb.out.on haw)
            replace H21 := Lib.hid (H21.out.on haw)
            replace HOsm := Lib.hid (HOsm.out.on haw)
            replace HM2 := Lib.hid (HM2.out.on haw)
            clear haw
            replace HLT := Lib.hid hlt2
            clear hlt2
            have HOdr := Lib.hid hown
            have HNdr := Lib.hid hnew
            clear hown hnew
            obtain ⟨dra, drc, hdr, hdrn, hdrc⟩ := HOdr.out.slc0
            simp only at hdr hdrc HOdr HLT HAB
            subst hdr
            clear HM2
            clear HTS
            go_wp2_with (first | (refine wpList_loadM rfl _ rfl g20 rfl q _ (by exact H20.out) ?_) | (refine wpList_loadM rfl _ rfl g9 rfl q _ (by exact H9.out) ?_))
            refine (sameM_yes q _ _ _ (by exact HOob.out.sl HFQ.out.d (by omega)) (by exact HSQ.out)).mono ?_
            rintro E w28 ⟨rfl, haw⟩
            replace HA := Lib.hid (HA.out.on haw)
            replace H4 := Lib.hid (H4.out.on haw)
            replace H5 := Lib.hid (H5.out.on haw)
            replace H6 := Lib.hid (H6.out.on haw)
            replace H7 := Lib.hid (H7.out.on haw)
            replace HSQ := Lib.hid (HSQ.out.on haw)
            replace H9 := Lib.hid (H9.out.on haw)
            replace H10 := Lib.hid (H10.out.on haw)
            replace H11 := Lib.hid (H11.out.on haw)
            replace HSZ := Lib.hid (HSZ.out.on haw)
            replace HOx := Lib.hid (HOx.out.on haw)
            replace HOy := Lib.hid (HOy.out.on haw)
            replace HOkp := Lib.hid (HOkp.out.on haw)
            replace HOob := Lib.hid (HOob.out.on haw)
            replace H20 := Lib.hid (H20.out.on haw)
            replace HOqb := Lib.hid (HOqb.out.on haw)
            replace H21 := Lib.hid (H21.out.on haw)
            replace HOsm := Lib.hid (HOsm.out.on haw)
            replace HLT := Lib.hid (HLT.out.on haw)
            replace HOdr := Lib.hid (HOdr.out.on haw)
            clear haw
            go_wp2_with (first | (refine wpList_loadM rfl _ rfl g21 rfl q _ (by exact H21.out) ?_) | (refine wpList_loadM rfl _ rfl g9 rfl q _ (by exact H9.out) ?_))
            refine (sameM_yes q _ _ _ (by exact HOqb.out.sl HFQ.out.d (by omega)) (by exact HSQ.out)).mono ?_
            rintro E w29 ⟨rfl, haw⟩
            replace HA := Lib.hid (HA.out.on haw)
            replace H4 := Lib.hid (H4.out.on haw)
            replace H5 := Lib.hid (H5.out.on haw)
            replace H6 := Lib.hid (H6.out.on haw)
            replace H7 := Lib.hid (H7.out.on haw)
            replace HSQ := Lib.hid (HSQ.out.on haw)
            replace H9 := Lib.hid (H9.out.on haw)
            replace H10 := Lib.hid (H10.out.on haw)
            replace H11 := Lib.hid (H11.out.on haw)
            replace HSZ := Lib.hid (HSZ.out.on haw)
            replace HOx := Lib.hid (HOx.out.on haw)
            replace HOy := Lib.hid (HOy.out.on haw)
            replace HOkp := Lib.hid (HOkp.out.on haw)
            replace HOob := Lib.hid (HOob.out.on haw)
            replace H20 := Lib.hid (H20.out.on haw)
            replace HOqb := Lib.hid (HOqb.out.on haw)
            replace H21 := Lib.hid (H21.out.on haw)
            replace HOsm := Lib.hid (HOsm.out.on haw)
            replace HLT := Lib.hid (HLT.out.on haw)
            replace HOdr := Lib.hid (HOdr.out.on haw)
            clear haw
            obtain ⟨m0, hs0⟩ := HTP.out.s 0 (by omega)
            obtain ⟨m1, hs1⟩ := HTP.out.s 1 (by omega)
            have HS0 := Lib.hid hs0
            have HS1 := Lib.hid hs1
            clear hs0 hs1
            have HB0 : Hid (bigP db 7 = (m0, 0)) := by refine Lib.hid ?_; have h1 := HS0.out.e; simpa [errsP] using h1
            have HB1 : Hid (aboutP db 1 = (m1, 0)) := by refine Lib.hid ?_; have h1 := HS1.out.e; simpa [errsP] using h1
            have HW0 : Hid (WfM m0) := errs_bytes HTP.out.by' (by have h1 := HTP.out.n; omega) HS0.out (by omega) (by omega) HTP.out.wf.v (by omega)
            have HW1 : Hid (WfM m1) := errs_bytes HTP.out.by' (by have h1 := HTP.out.n; omega) HS1.out (by omega) (by omega) HTP.out.wf.v (by omega)
            have hbn := HTP.out.n
            obtain ⟨d8, hd8⟩ : ∃ x, x = p.d.take 8 := ⟨_, rfl⟩
            have HWC : Hid (Wf { p with d := d8 }) := by rw [hd8]; exact pk_cut_wf HTP.out.wf 8
            have HLK : Hid (lookP m0 = ({ p with d := d8 }, (db.length : Int), 0)) := by rw [hd8]; exact HS0.out.lk
            have hd8n : d8.length ≤ 8 := by rw [hd8]; simp; omega
            clear hd8
            go_wp2_with fail
            refine (tooBig_c dra db drc 7 _ (by exact HOdr.out.row' (by omega) HTP.out.by') hdrc hdrn (by exact HG.out.on HA.out)).mono ?_
            rw [HB0.out]
            rintro E w30 ⟨rb, rfl, hown, hnew, haw⟩
            dsimp only at hown ⊢
            have hlt2 := HLT.out.add haw hown hnew
            replace HAB := Lib.hid (HAB.out.add HSZ.out hown hnew)
            replace HA := Lib.hid (HA.out.on haw)
            replace H4 := Lib.hid (H4.out.on haw)
            replace H5 := Lib.hid (H5.out.on haw)
            replace H6 := Lib.hid (H6.out.on haw)
            replace H7 := Lib.hid (H7.out.on haw)
            replace HSQ := Lib.hid (HSQ.out.on haw)
            replace H9 := Lib.hid (H9.out.on haw)
            replace H10 := Lib.hid (H10.out.on haw)
            replace H11 := Lib.hid (H11.out.on haw)
            replace HSZ := Lib.hid (HSZ.out.on haw)
            replace HOx := Lib.hid (HOx.out.on haw)
            replace HOy := Lib.hid (HOy.out.on haw)
            replace HOkp := Lib.hid (HOkp.out.on haw)
            replace HOob := Lib.hid (HOob.out.on haw)
            replace H20 := Lib.hid (H20.out.on haw)
            replace HOqb := Lib.hid (HOqb.out.on haw)
            replace H21 := Lib.hid (H21.out.on haw)
            replace HOsm := Lib.hid (HOsm.out.on haw)
            replace HOdr := Lib.hid (HOdr.out.on haw)
            clear haw
            replace HLT := Lib.hid hlt2
            clear hlt2
            have HOrb := Lib.hid hown
            have HNrb := Lib.hid hnew
            clear hown hnew
            obtain ⟨rba, rbc, hrb, hrbn, hrbc⟩ := HOrb.out.slc0
            subst hrb
            go_wp2_with (refine wpList_newM rfl rfl rfl _ _ rfl m0 (.slice rba m0.d.length rbc) (fun _ => rfl) (fun _ => rfl) rfl ?_; refine Hid.out ?_)
            refine Lib.hid ?_
            intro g28 w31 hg_g28 hb haw
            replace HA := Lib.hid (HA.out.on haw)
            replace H4 := Lib.hid (H4.out.on haw)
            replace H5 := Lib.hid (H5.out.on haw)
            replace H6 := Lib.hid (H6.out.on haw)
            replace H7 := Lib.hid (H7.out.on haw)
            replace HSQ := Lib.hid (HSQ.out.on haw)
            replace H9 := Lib.hid (H9.out.on haw)
            replace H10 := Lib.hid (H10.out.on haw)
            replace H11 := Lib.hid (H11.out.on haw)
            replace HSZ := Lib.hid (HSZ.out.on haw)
            replace HOx := Lib.hid (HOx.out.on haw)
            replace HOy := Lib.hid (HOy.out.on haw)
            replace HOkp := Lib.hid (HOkp.out.on haw)
            replace HOob := Lib.hid (HOob.out.on haw)
            replace H20 := Lib.hid (H20.out.on haw)
            replace HOqb := Lib.hid (HOqb.out.on haw)
            replace H21 := Lib.hid (H21.out.on haw)
            replace HOsm := Lib.hid (HOsm.out.on haw)
            replace HOdr := Lib.hid (HOdr.out.on haw)
            replace HLT := Lib.hid (HLT.out.on haw)
            replace HOrb := Lib.hid (HOrb.out.on haw)
            clear haw
            have H28 := Lib.hid hb
            have hl_g28 := hb.lt
            clear hb
            go_wp2_with fail
            refine (noPort_c dra db drc _ (by exact HOdr.out.row' (by omega) HTP.out.by') hdrc hdrn (by exact HG.out.on HA.out)).mono ?_
            rw [HB1.out]
            rintro E w32 ⟨nb, rfl, hown, hnew, haw⟩
            dsimp only at hown ⊢
            have hlt2 := HLT.out.add haw hown hnew
            replace HAB := Lib.hid (HAB.out.add HSZ.out hown hnew)
            replace HA := Lib.hid (HA.out.on haw)
            replace H4 := Lib.hid (H4.out.on haw)
            replace H5 := Lib.hid (H5.out.on haw)
            replace H6 := Lib.hid (H6.out.on haw)
            replace H7 := Lib.hid (H7.out.on haw)
            replace HSQ := Lib.hid (HSQ.out.on haw)
            replace H9 := Lib.hid (H9.out.on haw)
            replace H10 := Lib.hid (H10.out.on haw)
            replace H11 := Lib.hid (H11.out.on haw)
            replace HSZ := Lib.hid (HSZ.out.on haw)
            replace HOx := Lib.hid (HOx.out.on haw)
            replace HOy := Lib.hid (HOy.out.on haw)
            replace HOkp := Lib.hid (HOkp.out.on haw)
            replace HOob := Lib.hid (HOob.out.on haw)
            replace H20 := Lib.hid (H20.out.on haw)
            replace HOqb := Lib.hid (HOqb.out.on haw)
            replace H21 := Lib.hid (H21.out.on haw)
            replace HOsm := Lib.hid (HOsm.out.on haw)
            replace HOdr := Lib.hid (HOdr.out.on haw)
            replace HOrb := Lib.hid (HOrb.out.on haw)
            replace H28 := Lib.hid (H28.out.on haw)
            clear haw
            replace HLT := Lib.hid hlt2
            clear hlt2
            have HOnb := Lib.hid hown
            have HNnb := Lib.hid hnew
            clear hown hnew
            obtain ⟨nba, nbc, hnb, hnbn, hnbc⟩ := HOnb.out.slc0
            subst hnb
            go_wp2_with (refine wpList_newM rfl rfl rfl _ _ rfl m1 (.slice nba m1.d.length nbc) (fun _ => rfl) (fun _ => rfl) rfl ?_; refine Hid.out ?_)
            refine Lib.hid ?_
            intro g29 w33 hg_g29 hb haw
            replace HA := Lib.hid (HA.out.on haw)
            replace H4 := Lib.hid (H4.out.on haw)
            replace H5 := Lib.hid (H5.out.on haw)
            replace H6 := Lib.hid (H6.out.on haw)
            replace H7 := Lib.hid (H7.out.on haw)
            replace HSQ := Lib.hid (HSQ.out.on haw)
            replace H9 := Lib.hid (H9.out.on haw)
            replace H10 := Lib.hid (H10.out.on haw)
            replace H11 := Lib.hid (H11.out.on haw)
            replace HSZ := Lib.hid (HSZ.out.on haw)
            replace HOx := Lib.hid (HOx.out.on haw)
            replace HOy := Lib.hid (HOy.out.on haw)
            replace HOkp := Lib.hid (HOkp.out.on haw)
            replace HOob := Lib.hid (HOob.out.on haw)
            replace H20 := Lib.hid (H20.out.on haw)
            replace HOqb := Lib.hid (HOqb.out.on haw)
            replace H21 := Lib.hid (H21.out.on haw)
            replace HOsm := Lib.hid (HOsm.out.on haw)
            replace HOdr := Lib.hid (HOdr.out.on haw)
            replace HOrb := Lib.hid (HOrb.out.on haw)
            replace H28 := Lib.hid (H28.out.on haw)
            replace HLT := Lib.hid (HLT.out.on haw)
            replace HOnb := Lib.hid (HOnb.out.on haw)
            clear haw
            have H29 := Lib.hid hb
            have hl_g29 := hb.lt
            clear hb
            have hm0 := HS0.out.d1
            go_wp2_with (first | (refine wpList_loadM rfl _ rfl g28 rfl m0 _ (by exact H28.out) ?_))
            refine (look_c m0 (.slice rba m0.d.length rbc) _ ⟨HW0.out, by exact HOrb.out.sl HW0.out.d (by omega)⟩ (by exact HG.out.on HA.out)).mono ?_
            rw [HLK.out]
            rintro E w34 ⟨tko, tkd, rfl, hown, hown2, hnew, hnew2, hap, haw⟩
            dsimp only at hown hown2 ⊢
            have hlt2 := HLT.out.add2 haw hown hown2 hnew hnew2 hap
            replace HAB := Lib.hid ((HAB.out.add HSZ.out hown hnew).add HSZ.out hown2 hnew2)
            replace HA := Lib.hid (HA.out.on haw)
            replace H4 := Lib.hid (H4.out.on haw)
            replace H5 := Lib.hid (H5.out.on haw)
            replace H6 := Lib.hid (H6.out.on haw)
            replace H7 := Lib.hid (H7.out.on haw)
            replace HSQ := Lib.hid (HSQ.out.on haw)
            replace H9 := Lib.hid (H9.out.on haw)
            replace H10 := Lib.hid (H10.out.on haw)
            replace H11 := Lib.hid (H11.out.on haw)
            replace HSZ := Lib.hid (HSZ.out.on haw)
            replace HOx := Lib.hid (HOx.out.on haw)
            replace HOy := Lib.hid (HOy.out.on haw)
            replace HOkp := Lib.hid (HOkp.out.on haw)
            replace HOob := Lib.hid (HOob.out.on haw)
            replace H20 := Lib.hid (H20.out.on haw)
            replace HOqb := Lib.hid (HOqb.out.on haw)
            replace H21 := Lib.hid (H21.out.on haw)
            replace HOsm := Lib.hid (HOsm.out.on haw)
            replace HOdr := Lib.hid (HOdr.out.on haw)
            replace HOrb := Lib.hid (HOrb.out.on haw)
            replace H28 := Lib.hid (H28.out.on haw)
            replace HOnb := Lib.hid (HOnb.out.on haw)
            replace H29 := Lib.hid (H29.out.on haw)
            clear haw
            replace HLT := Lib.hid hlt2
            clear hlt2
            have HOtko := Lib.hid hown
            have HOtkd := Lib.hid hown2
            have HNtko := Lib.hid hnew
            have HNtkd := Lib.hid hnew2
            have HXtk := Lib.hid hap
            clear hown hown2 hnew hnew2 hap
            obtain ⟨tkoa, tkoc, htko, htkon, htkoc⟩ := HOtko.out.slc0
            subst htko
            obtain ⟨tkda, tkdc, htkd, htkdn, htkdc⟩ := HOtkd.out.slc0
            subst htkd
            go_wp2_with (refine wpList_new28 rfl rfl rfl _ _ rfl { p with d := d8 } _ _ (fun _ => rfl) (fun _ => rfl) HWC.out.ad rfl rfl ?_; refine Hid.out ?_)
            refine Lib.hid ?_
            intro g30 w35 hg_g30 hb haw
            replace HA := Lib.hid (HA.out.on haw)
            replace H4 := Lib.hid (H4.out.on haw)
            replace H5 := Lib.hid (H5.out.on haw)
            replace H6 := Lib.hid (H6.out.on haw)
            replace H7 := Lib.hid (H7.out.on haw)
            replace HSQ := Lib.hid (HSQ.out.on haw)
            replace H9 := Lib.hid (H9.out.on haw)
            replace H10 := Lib.hid (H10.out.on haw)
            replace H11 := Lib.hid (H11.out.on haw)
            replace HSZ := Lib.hid (HSZ.out.on haw)
            replace HOx := Lib.hid (HOx.out.on haw)
            replace HOy := Lib.hid (HOy.out.on haw)
            replace HOkp := Lib.hid (HOkp.out.on haw)
            replace HOob := Lib.hid (HOob.out.on haw)
            replace H20 := Lib.hid (H20.out.on haw)
            replace HOqb := Lib.hid (HOqb.out.on haw)
            replace H21 := Lib.hid (H21.out.on haw)
            replace HOsm := Lib.hid (HOsm.out.on haw)
            replace HOdr := Lib.hid (HOdr.out.on haw)
            replace HOrb := Lib.hid (HOrb.out.on haw)
            replace H28 := Lib.hid (H28.out.on haw)
            replace HOnb := Lib.hid (HOnb.out.on haw)
            replace H29 := Lib.hid (H29.out.on haw)
            replace HLT := Lib.hid (HLT.out.on haw)
            replace HOtko := Lib.hid (HOtko.out.on haw)
            replace HOtkd := Lib.hid (HOtkd.out.on haw)
            clear haw
            have H30 := Lib.hid hb
            have hl_g30 := hb.lt
            clear hb
            go_wp2_with (first | (refine wpList_loadM rfl _ rfl g28 rfl m0 _ (by exact H28.out) ?_))
            refine (look_c m0 (.slice rba m0.d.length rbc) _ ⟨HW0.out, by exact HOrb.out.sl HW0.out.d (by omega)⟩ (by exact HG.out.on HA.out)).mono ?_
            rw [HLK.out]
            rintro E w36 ⟨uko, ukd, rfl, hown, hown2, hnew, hnew2, hap, haw⟩
            dsimp only at hown hown2 ⊢
            have hlt2 := HLT.out.add2 haw hown hown2 hnew hnew2 hap
            replace HAB := Lib.hid ((HAB.out.add HSZ.out hown hnew).add HSZ.out hown2 hnew2)
            replace HA := Lib.hid (HA.out.on haw)
            replace H4 := Lib.hid (H4.out.on haw)
            replace H5 := Lib.hid (H5.out.on haw)
            replace H6 := Lib.hid (H6.out.on haw)
            replace H7 := Lib.hid (H7.out.on haw)
            replace HSQ := Lib.hid (HSQ.out.on haw)
            replace H9 := Lib.hid (H9.out.on haw)
            replace H10 := Lib.hid (H10.out.on haw)
            replace H11 := Lib.hid (H11.out.on haw)
            replace HSZ := Lib.hid (HSZ.out.on haw)
            replace HOx := Lib.hid (HOx.out.on haw)
            replace HOy := Lib.hid (HOy.out.on haw)
            replace HOkp := Lib.hid (HOkp.out.on haw)
            replace HOob := Lib.hid (HOob.out.on haw)
            replace H20 := Lib.hid (H20.out.on haw)
            replace HOqb := Lib.hid (HOqb.out.on haw)
            replace H21 := Lib.hid (H21.out.on haw)
            replace HOsm := Lib.hid (HOsm.out.on haw)
            replace HOdr := Lib.hid (HOdr.out.on haw)
            replace HOrb := Lib.hid (HOrb.out.on haw)
            replace H28 := Lib.hid (H28.out.on haw)
            replace HOnb := Lib.hid (HOnb.out.on haw)
            replace H29 := Lib.hid (H29.out.on haw)
            replace HOtko := Lib.hid (HOtko.out.on haw)
            replace HOtkd := Lib.hid (HOtkd.out.on haw)
            replace H30 := Lib.hid (H30.out.on haw)
            clear haw
            replace HLT := Lib.hid hlt2
            clear hlt2
            have HOuko := Lib.hid hown
            have HOukd := Lib.hid hown2
            have HNuko := Lib.hid hnew
            have HNukd := Lib.hid hnew2
            have HXuk := Lib.hid hap
            clear hown hown2 hnew hnew2 hap
            obtain ⟨ukoa, ukoc, huko, hukon, hukoc⟩ := HOuko.out.slc0
            subst huko
            obtain ⟨ukda, ukdc, hukd, hukdn, hukdc⟩ := HOukd.out.slc0
            subst hukd
            go_wp2_with (refine wpList_new28 rfl rfl rfl _ _ rfl { p with d := d8 } _ _ (fun _ => rfl) (fun _ => rfl) HWC.out.ad rfl rfl ?_; refine Hid.out ?_)
            refine Lib.hid ?_
            intro g32 w37 hg_g32 hb haw
            replace HA := Lib.hid (HA.out.on haw)
            replace H4 := Lib.hid (H4.out.on haw)
            replace H5 := Lib.hid (H5.out.on haw)
            replace H6 := Lib.hid (H6.out.on haw)
            replace H7 := Lib.hid (H7.out.on haw)
            replace HSQ := Lib.hid (HSQ.out.on haw)
            replace H9 := Lib.hid (H9.out.on haw)
            replace H10 := Lib.hid (H10.out.on haw)
            replace H11 := Lib.hid (H11.out.on haw)
            replace HSZ := Lib.hid (HSZ.out.on haw)
            replace HOx := Lib.hid (HOx.out.on haw)
            replace HOy := Lib.hid (HOy.out.on haw)
            replace HOkp := Lib.hid (HOkp.out.on haw)
            replace HOob := Lib.hid (HOob.out.on haw)
            replace H20 := Lib.hid (H20.out.on haw)
            replace HOqb := Lib.hid (HOqb.out.on haw)
            replace H21 := Lib.hid (H21.out.on haw)
            replace HOsm := Lib.hid (HOsm.out.on haw)
            replace HOdr := Lib.hid (HOdr.out.on haw)
            replace HOrb := Lib.hid (HOrb.out.on haw)
            replace H28 := Lib.hid (H28.out.on haw)
            replace HOnb := Lib.hid (HOnb.out.on haw)
            replace H29 := Lib.hid (H29.out.on haw)
            replace HOtko := Lib.hid (HOtko.out.on haw)
            replace HOtkd := Lib.hid (HOtkd.out.on haw)
            replace H30 := Lib.hid (H30.out.on haw)
            replace HLT := Lib.hid (HLT.out.on haw)
            replace HOuko := Lib.hid (HOuko.out.on haw)
            replace HOukd := Lib.hid (HOukd.out.on haw)
            clear haw
            have H32 := Lib.hid hb
            have hl_g32 := hb.lt
            clear hb
            go_wp2_with (first | (refine wpList_load28 rfl _ rfl g30 rfl { p with d := d8 } _ _ (by exact H30.out) HWC.out.ad ?_) | (refine wpList_load28 rfl _ rfl g32 rfl { p with d := d8 } _ _ (by exact H32.out) HWC.out.ad ?_))
            refine (sameP_yes { p with d := d8 } { p with d := d8 } _ _ _ _ _ ⟨HWC.out, by exact HOtko.out.sl HWC.out.o HWC.out.ol, by exact HOtkd.out.sl HWC.out.d HWC.out.dn⟩ ⟨HWC.out, by exact HOuko.out.sl HWC.out.o HWC.out.ol, by exact HOukd.out.sl HWC.out.d HWC.out.dn⟩ rfl).mono ?_
            rintro E w38 ⟨rfl, haw⟩
            replace HA := Lib.hid (HA.out.on haw)
            replace H4 := Lib.hid (H4.out.on haw)
            replace H5 := Lib.hid (H5.out.on haw)
            replace H6 := Lib.hid (H6.out.on haw)
            replace H7 := Lib.hid (H7.out.on haw)
            replace HSQ := Lib.hid (HSQ.out.on haw)
            replace H9 := Lib.hid (H9.out.on haw)
            replace H10 := Lib.hid (H10.out.on haw)
            replace H11 := Lib.hid (H11.out.on haw)
            replace HSZ := Lib.hid (HSZ.out.on haw)
            replace HOx := Lib.hid (HOx.out.on haw)
            replace HOy := Lib.hid (HOy.out.on haw)
            replace HOkp := Lib.hid (HOkp.out.on haw)
            replace HOob := Lib.hid (HOob.out.on haw)
            replace H20 := Lib.hid (H20.out.on haw)
            replace HOqb := Lib.hid (HOqb.out.on haw)
            replace H21 := Lib.hid (H21.out.on haw)
            replace HOsm := Lib.hid (HOsm.out.on haw)
            replace HOdr := Lib.hid (HOdr.out.on haw)
            replace HOrb := Lib.hid (HOrb.out.on haw)
            replace H28 := Lib.hid (H28.out.on haw)
            replace HOnb := Lib.hid (HOnb.out.on haw)
            replace H29 := Lib.hid (H29.out.on haw)
            replace HOtko := Lib.hid (HOtko.out.on haw)
            replace HOtkd := Lib.hid (HOtkd.out.on haw)
            replace H30 := Lib.hid (H30.out.on haw)
            replace HLT := Lib.hid (HLT.out.on haw)
            replace HOuko := Lib.hid (HOuko.out.on haw)
            replace HOukd := Lib.hid (HOukd.out.on haw)
            replace H32 := Lib.hid (H32.out.on haw)
            clear haw
            have e28 := H28.out.c4
            have HLL2 := Lib.hid HLT.out.lt
            go_wp2_with fail
            refine (own_any rba m0.d _ rbc _ rfl (by exact HOrb.out.row' (by omega) HW0.out.d)).mono ?_
            rintro E w39 ⟨bd, rfl, hown, hnew, haw, -, -⟩
            clear e28
            have hsb1 := haw.size
            replace HA := Lib.hid (HA.out.on haw)
            replace H4 := Lib.hid (H4.out.on haw)
            replace H5 := Lib.hid (H5.out.on haw)
            replace H6 := Lib.hid (H6.out.on haw)
            replace H7 := Lib.hid (H7.out.on haw)
            replace HSQ := Lib.hid (HSQ.out.on haw)
            replace H9 := Lib.hid (H9.out.on haw)
            replace H10 := Lib.hid (H10.out.on haw)
            replace H11 := Lib.hid (H11.out.on haw)
            replace HSZ := Lib.hid (HSZ.out.on haw)
            replace HOx := Lib.hid (HOx.out.on haw)
            replace HOy := Lib.hid (HOy.out.on haw)
            replace HOkp := Lib.hid (HOkp.out.on haw)
            replace HOob := Lib.hid (HOob.out.on haw)
            replace H20 := Lib.hid (H20.out.on haw)
            replace HOqb := Lib.hid (HOqb.out.on haw)
            replace H21 := Lib.hid (H21.out.on haw)
            replace HOsm := Lib.hid (HOsm.out.on haw)
            replace HOdr := Lib.hid (HOdr.out.on haw)
            replace HOrb := Lib.hid (HOrb.out.on haw)
            replace H28 := Lib.hid (H28.out.on haw)
            replace HOnb := Lib.hid (HOnb.out.on haw)
            replace H29 := Lib.hid (H29.out.on haw)
            replace HOtko := Lib.hid (HOtko.out.on haw)
            replace HOtkd := Lib.hid (HOtkd.out.on haw)
            replace H30 := Lib.hid (H30.out.on haw)
            replace HLT := Lib.hid (HLT.out.on haw)
            replace HOuko := Lib.hid (HOuko.out.on haw)
            replace HOukd := Lib.hid (HOukd.out.on haw)
            replace H32 := Lib.hid (H32.out.on haw)
            clear haw
            have HObd := Lib.hid hown
            have HNbd := Lib.hid hnew
            clear hown hnew
            obtain ⟨bda, bdc, hbd, hbdn, hbdc⟩ := HObd.out.slc0
            subst hbd
            go_wp2_with (first | (refine wpList_load28 rfl _ rfl g30 rfl { p with d := d8 } _ _ (by exact H30.out) HWC.out.ad ?_))
            refine (ownP_c { p with d := d8 } _ _ _ ⟨HWC.out, by exact HOtko.out.sl HWC.out.o HWC.out.ol, by exact HOtkd.out.sl HWC.out.d HWC.out.dn⟩).mono ?_
            rintro E w40 ⟨so, sd, rfl, hmine, haw⟩
            have hsb2 := haw.size
            replace HA := Lib.hid (HA.out.on haw)
            replace H4 := Lib.hid (H4.out.on haw)
            replace H5 := Lib.hid (H5.out.on haw)
            replace H6 := Lib.hid (H6.out.on haw)
            replace H7 := Lib.hid (H7.out.on haw)
            replace HSQ := Lib.hid (HSQ.out.on haw)
            replace H9 := Lib.hid (H9.out.on haw)
            replace H10 := Lib.hid (H10.out.on haw)
            replace H11 := Lib.hid (H11.out.on haw)
            replace HSZ := Lib.hid (HSZ.out.on haw)
            replace HOx := Lib.hid (HOx.out.on haw)
            replace HOy := Lib.hid (HOy.out.on haw)
            replace HOkp := Lib.hid (HOkp.out.on haw)
            replace HOob := Lib.hid (HOob.out.on haw)
            replace H20 := Lib.hid (H20.out.on haw)
            replace HOqb := Lib.hid (HOqb.out.on haw)
            replace H21 := Lib.hid (H21.out.on haw)
            replace HOsm := Lib.hid (HOsm.out.on haw)
            replace HOdr := Lib.hid (HOdr.out.on haw)
            replace HOrb := Lib.hid (HOrb.out.on haw)
            replace H28 := Lib.hid (H28.out.on haw)
            replace HOnb := Lib.hid (HOnb.out.on haw)
            replace H29 := Lib.hid (H29.out.on haw)
            replace HOtko := Lib.hid (HOtko.out.on haw)
            replace HOtkd := Lib.hid (HOtkd.out.on haw)
            replace H30 := Lib.hid (H30.out.on haw)
            replace HLT := Lib.hid (HLT.out.on haw)
            replace HOuko := Lib.hid (HOuko.out.on haw)
            replace HOukd := Lib.hid (HOukd.out.on haw)
            replace H32 := Lib.hid (H32.out.on haw)
            replace HObd := Lib.hid (HObd.out.on haw)
            clear haw
            have HOseo := Lib.hid hmine.o
            have HOsed := Lib.hid hmine.d
            have HNseo := Lib.hid hmine.no
            have HNsed := Lib.hid hmine.nd
            clear hmine
            obtain ⟨soa, soc, hso, hson, hsoc⟩ := HOseo.out.slc0
            subst hso
            obtain ⟨sda, sdc, hsd, hsdn, hsdc⟩ := HOsed.out.slc0
            subst hsd
            go_wp2_with (refine wpList_new28 rfl rfl rfl _ _ rfl { p with d := d8 } _ _ (fun _ => rfl) (fun _ => rfl) HWC.out.ad rfl rfl ?_; refine Hid.out ?_)
            refine Lib.hid ?_
            intro g35 w41 hg_g35 hb haw
            replace HA := Lib.hid (HA.out.on haw)
            replace H4 := Lib.hid (H4.out.on haw)
            replace H5 := Lib.hid (H5.out.on haw)
            replace H6 := Lib.hid (H6.out.on haw)
            replace H7 := Lib.hid (H7.out.on haw)
            replace HSQ := Lib.hid (HSQ.out.on haw)
            replace H9 := Lib.hid (H9.out.on haw)
            replace H10 := Lib.hid (H10.out.on haw)
            replace H11 := Lib.hid (H11.out.on haw)
            replace HSZ := Lib.hid (HSZ.out.on haw)
            replace HOx := Lib.hid (HOx.out.on haw)
            replace HOy := Lib.hid (HOy.out.on haw)
            replace HOkp := Lib.hid (HOkp.out.on haw)
            replace HOob := Lib.hid (HOob.out.on haw)
            replace H20 := Lib.hid (H20.out.on haw)
            replace HOqb := Lib.hid (HOqb.out.on haw)
            replace H21 := Lib.hid (H21.out.on haw)
            replace HOsm := Lib.hid (HOsm.out.on haw)
            replace HOdr := Lib.hid (HOdr.out.on haw)
            replace HOrb := Lib.hid (HOrb.out.on haw)
            replace H28 := Lib.hid (H28.out.on haw)
            replace HOnb := Lib.hid (HOnb.out.on haw)
            replace H29 := Lib.hid (H29.out.on haw)
            replace HOtko := Lib.hid (HOtko.out.on haw)
            replace HOtkd := Lib.hid (HOtkd.out.on haw)
            replace H30 := Lib.hid (H30.out.on haw)
            replace HLT := Lib.hid (HLT.out.on haw)
            replace HOuko := Lib.hid (HOuko.out.on haw)
            replace HOukd := Lib.hid (HOukd.out.on haw)
            replace H32 := Lib.hid (H32.out.on haw)
            replace HObd := Lib.hid (HObd.out.on haw)
            replace HOseo := Lib.hid (HOseo.out.on haw)
            replace HOsed := Lib.hid (HOsed.out.on haw)
            clear haw
            have H35 := Lib.hid hb
            have hl_g35 := hb.lt
            clear hb
            obtain ⟨P11, hP11⟩ : ∃ x : Lot, x = [(.slice xa bs.length xc, bs), (.slice ya bs.length yc, bs), (.slice oba q.d.length obc, q.d), (.slice qba q.d.length qbc, q.d), (.slice dra db.length drc, db), (.slice rba m0.d.length rbc, m0.d), (.slice nba m1.d.length nbc, m1.d), (.slice tkoa p.o.length tkoc, p.o), (.slice tkda d8.length tkdc, d8), (.slice ukoa p.o.length ukoc, p.o), (.slice ukda d8.length ukdc, d8)] := ⟨_, rfl⟩
            have hq : Lots w41 P11 := by rw [hP11]; exact HLT.out.sub (by simp only [List.cons_append, List.nil_append, List.append_assoc]; repeat (first | exact List.nil_sublist _ | apply List.Sublist.cons_cons | apply List.Sublist.cons))
            have hbB : Abv B P11 := by rw [hP11]; exact HAB.out.sub (by simp only [List.cons_append, List.nil_append, List.append_assoc]; repeat (first | exact List.nil_sublist _ | apply List.Sublist.cons_cons | apply List.Sublist.cons))
            have haw0 := (Away.refl [] w41).alloc (.cells #[.slice xa bs.length xc, .slice ya bs.length yc, .slice oba q.d.length obc, .slice qba q.d.length qbc, .slice dra db.length drc, .slice rba m0.d.length rbc, .slice nba m1.d.length nbc, .slice tkoa p.o.length tkoc, .slice tkda d8.length tkdc, .slice ukoa p.o.length ukoc, .slice ukda d8.length ukdc] 23)
            have hby : ∀ r ∈ P11, Bytes r.2 ∧ r.2.length ≤ 65535 := fun r hr => by
              have h1 := HTP.out.ln
              rw [hP11] at hr
              simp only [List.mem_cons, List.not_mem_nil, or_false] at hr
              rcases hr with rfl | rfl | rfl | rfl | rfl | rfl | rfl | rfl | rfl | rfl | rfl
              · exact ⟨HBB.out, hbl⟩
              · exact ⟨HBB.out, hbl⟩
              · exact ⟨HFQ.out.d, by simp only; omega⟩
              · exact ⟨HFQ.out.d, by simp only; omega⟩
              · exact ⟨HTP.out.by', HTP.out.n⟩
              · exact ⟨HW0.out.d, by simp only; omega⟩
              · exact ⟨HW1.out.d, by have h2 := HS1.out.d1; simp only; omega⟩
              · exact ⟨HWC.out.o, by simp only; omega⟩
              · exact ⟨HWC.out.d, by simp only; omega⟩
              · exact ⟨HWC.out.o, by simp only; omega⟩
              · exact ⟨HWC.out.d, by simp only; omega⟩
            have hlw := hq.lt
            have HLot : Hid (LotAt (World.alloc w41 (.cells #[.slice xa bs.length xc, .slice ya bs.length yc, .slice oba q.d.length obc, .slice qba q.d.length qbc, .slice dra db.length drc, .slice rba m0.d.length rbc, .slice nba m1.d.length nbc, .slice tkoa p.o.length tkoc, .slice tkda d8.length tkdc, .slice ukoa p.o.length ukoc, .slice ukda d8.length ukdc] 23)) (.slice (some ⟨w41.heap.size, 0, none⟩) 11 11) P11) := (hq.on haw0).at (by rw [hP11]; exact World.ownsRow_lit (base := 0) (e := 23) (size := 1) w41 #[.slice xa bs.length xc, .slice ya bs.length yc, .slice oba q.d.length obc, .slice qba q.d.length qbc, .slice dra db.length drc, .slice rba m0.d.length rbc, .slice nba m1.d.length nbc, .slice tkoa p.o.length tkoc, .slice tkda d8.length tkdc, .slice ukoa p.o.length ukoc, .slice ukda d8.length ukdc] 11 (Nat.zero_le _) (by decide) rfl) hby (fun k hk r hr he => by have h1 := hlw r hr k he; simp [Value.ownBlock] at hk; omega) (by rw [hP11]; simp)
            have e20 := H20.out.c4
            have e21 := H21.out.c4
            have e28 := H28.out.c4
            have e29 := H29.out.c4
            have e30o := (H30.out.cells HWC.out.ad).o
            have e30d := (H30.out.cells HWC.out.ad).d
            have e32o := (H32.out.cells HWC.out.ad).o
            have e32d := (H32.out.cells HWC.out.ad).d
            go_wp2_with fail
            refine (marked_any _ _ P11 HLot.out).mono ?_
            rintro E w42 ⟨vl, tl, rfl, hst, hnst, hawm, -⟩
            have haw : Away (bl P11) w41 w42 := (((Away.refl [] w41).alloc _).mono (by simp)).next hawm (fun x hx => .inl hx)
            have hin : ∀ k, k ∈ bl P11 → B ≤ k ∧ k < w38.heap.size ∧ (Value.slice kpa bs.length kpc).ownBlock ≠ some k := fun k hk => by
              obtain ⟨r, hr, he⟩ := mem_bl hk
              refine ⟨hbB r hr k he, ?_, ?_⟩
              · refine HLL2.out r ?_ k he
                rw [hP11] at hr
                exact List.Sublist.subset (by simp only [List.cons_append, List.nil_append, List.append_assoc]; repeat (first | exact List.nil_sublist _ | apply List.Sublist.cons_cons | apply List.Sublist.cons)) hr
              · intro hc
                have h1 := Lots.mid (A := [(.slice xa bs.length xc, bs), (.slice ya bs.length yc, bs)]) (x := (.slice kpa bs.length kpc, bs)) (by exact HLT.out) r (by rw [hP11] at hr; exact List.Sublist.subset (by simp only [List.cons_append, List.nil_append, List.append_assoc]; repeat (first | exact List.nil_sublist _ | apply List.Sublist.cons_cons | apply List.Sublist.cons)) hr) k hc
                exact h1 he
            clear hawm HLot e20 e21 e28 e29 e30o e30d e32o e32d
            replace HA := Lib.hid (HA.out.next haw (fun x hx => .inr (by have h1 := hin x hx; omega)))
            replace H9 := Lib.hid (H9.out.away haw (fun hc => by have h1 := hin _ hc; omega))
            replace H10 := Lib.hid (H10.out.away haw (fun hc => by have h1 := hin _ hc; omega))
            replace H11 := Lib.hid (H11.out.away haw (fun hc => by have h1 := hin _ hc; omega))
            replace HSQ := Lib.hid (HSQ.out.away haw (fun hl k hk hc => by have h1 := HBQ.out hl k hk; have h2 := hin k hc; omega))
            replace HOkp := Lib.hid (HOkp.out.away haw (fun k hk hc => (hin k hc).2.2 hk))
            replace HObd := Lib.hid (HObd.out.away haw (fun k hk hc => by have h1 := HNbd.out k hk; have h2 := hin k hc; omega))
            replace HOseo := Lib.hid (HOseo.out.away haw (fun k hk hc => by have h1 := HNseo.out k hk; have h2 := hin k hc; omega))
            replace HOsed := Lib.hid (HOsed.out.away haw (fun k hk hc => by have h1 := HNsed.out k hk; have h2 := hin k hc; omega))
            replace H35 := Lib.hid (H35.out.away haw (fun hc => by have h1 := hin _ hc; omega))
            have HST := Lib.hid hst
            clear hst haw hnst hin HLT HAB
            have HLQ : Hid (lookP ⟨4, 0, 0, 0, m0.d⟩ = ({ p with d := d8 }, (db.length : Int), 0)) := by
              have h1 := HLK.out
              have h2 : m0.v = 4 := by rw [HS0.out.v]; exact HTP.out.v
              unfold lookP at h1 ⊢
              rw [if_pos h2] at h1
              rw [if_pos rfl]; exact Lib.hid h1
            have HWQ : Hid (WfM ⟨4, 0, 0, 0, m0.d⟩) := ⟨by simp [i64ok], by simp [i64ok], by simp [i64ok], by simp, by simp, HW0.out.d, by simp only; omega⟩
            go_wp2_with fail
            have KLQ := look_c ⟨4, 0, 0, 0, m0.d⟩ (.slice bda m0.d.length bdc) w42 ⟨HWQ.out, by exact HObd.out.sl HW0.out.d (by omega)⟩ (by exact HG.out.on HA.out)
            rw [HLQ.out] at KLQ
            have hcs : csM ⟨4, 0, 0, 0, m0.d⟩ (.slice bda m0.d.length bdc) = #[.int .i64 4, .int .i64 0, .int .i64 0, .int .u32 0, .slice bda m0.d.length bdc] := rfl
            rw [hcs] at KLQ
            clear hcs
            refine KLQ.mono ?_
            clear KLQ
            rintro E w43 ⟨zo, zd, rfl, hown, hown2, -, -, -, haw⟩
            dsimp only at hown hown2 ⊢
            replace HA := Lib.hid (HA.out.on haw)
            replace H9 := Lib.hid (H9.out.on haw)
            replace H10 := Lib.hid (H10.out.on haw)
            replace H11 := Lib.hid (H11.out.on haw)
            replace HSQ := Lib.hid (HSQ.out.on haw)
            replace HOkp := Lib.hid (HOkp.out.on haw)
            replace HObd := Lib.hid (HObd.out.on haw)
            replace HOseo := Lib.hid (HOseo.out.on haw)
            replace HOsed := Lib.hid (HOsed.out.on haw)
            replace H35 := Lib.hid (H35.out.on haw)
            replace HST := Lib.hid (HST.out.on haw)
            clear haw
            have HOzko := Lib.hid hown
            have HOzkd := Lib.hid hown2
            clear hown hown2
            obtain ⟨zoa, zoc, hzo, -, -⟩ := HOzko.out.slc0
            subst hzo
            obtain ⟨zda, zdc, hzd, -, -⟩ := HOzkd.out.slc0
            subst hzd
            go_wp2_with (refine wpList_new28 rfl rfl rfl _ _ rfl { p with d := d8 } _ _ (fun _ => rfl) (fun _ => rfl) HWC.out.ad rfl rfl ?_; refine Hid.out ?_)
            refine Lib.hid ?_
            intro g37 w44 hg_g37 hb haw
            replace HA := Lib.hid (HA.out.on haw)
            replace H9 := Lib.hid (H9.out.on haw)
            replace H10 := Lib.hid (H10.out.on haw)
            replace H11 := Lib.hid (H11.out.on haw)
            replace HSQ := Lib.hid (HSQ.out.on haw)
            replace HOkp := Lib.hid (HOkp.out.on haw)
            replace HObd := Lib.hid (HObd.out.on haw)
            replace HOseo := Lib.hid (HOseo.out.on haw)
            replace HOsed := Lib.hid (HOsed.out.on haw)
            replace H35 := Lib.hid (H35.out.on haw)
            replace HST := Lib.hid (HST.out.on haw)
            replace HOzko := Lib.hid (HOzko.out.on haw)
            replace HOzkd := Lib.hid (HOzkd.out.on haw)
            clear haw
            have H37 := Lib.hid hb
            have hl_g37 := hb.lt
            clear hb
            go_wp2_with (first | (refine wpList_loadX rfl _ rfl g10 rfl s (by exact H10.out) HS.out ?_) | (refine wpList_loadX rfl _ rfl g11 rfl t (by exact H11.out) HT.out ?_) | (refine wpList_loadM rfl _ rfl g9 rfl q _ (by exact H9.out) ?_))
            refine (mbuild_c s t q _ _ HS.out HT.out ⟨HFQ.out.wf, by exact HSQ.out⟩).mono ?_
            rw [HBE.out]
            rintro E w45 ⟨zv, rfl, hown, -, haw⟩
            dsimp only at hown ⊢
            replace HA := Lib.hid (HA.out.on haw)
            replace H9 := Lib.hid (H9.out.on haw)
            replace H10 := Lib.hid (H10.out.on haw)
            replace H11 := Lib.hid (H11.out.on haw)
            replace HSQ := Lib.hid (HSQ.out.on haw)
            replace HOkp := Lib.hid (HOkp.out.on haw)
            replace HObd := Lib.hid (HObd.out.on haw)
            replace HOseo := Lib.hid (HOseo.out.on haw)
            replace HOsed := Lib.hid (HOsed.out.on haw)
            replace H35 := Lib.hid (H35.out.on haw)
            replace HST := Lib.hid (HST.out.on haw)
            replace HOzko := Lib.hid (HOzko.out.on haw)
            replace HOzkd := Lib.hid (HOzkd.out.on haw)
            replace H37 := Lib.hid (H37.out.on haw)
            clear haw
            have HOzv := Lib.hid hown
            clear hown
            obtain ⟨zva, zvc, hzv, -, -⟩ := HOzv.out.slc0
            subst hzv
            go_wp2_with fail
            refine (still_any _ _ _ (by exact HST.out)).mono ?_
            rintro E w46 ⟨rfl, k, hk⟩
            have haw : Away [] w45 w46 := by rw [hk]; exact (Away.refl [] w45).drewN k
            clear hk
            replace HA := Lib.hid (HA.out.on haw)
            replace H9 := Lib.hid (H9.out.on haw)
            replace H10 := Lib.hid (H10.out.on haw)
            replace H11 := Lib.hid (H11.out.on haw)
            replace HSQ := Lib.hid (HSQ.out.on haw)
            replace HOkp := Lib.hid (HOkp.out.on haw)
            replace HObd := Lib.hid (HObd.out.on haw)
            replace HOseo := Lib.hid (HOseo.out.on haw)
            replace HOsed := Lib.hid (HOsed.out.on haw)
            replace H35 := Lib.hid (H35.out.on haw)
            replace HST := Lib.hid (HST.out.on haw)
            replace HOzko := Lib.hid (HOzko.out.on haw)
            replace HOzkd := Lib.hid (HOzkd.out.on haw)
            replace H37 := Lib.hid (H37.out.on haw)
            replace HOzv := Lib.hid (HOzv.out.on haw)
            clear haw
            go_wp2_with (first | (refine wpList_load28 rfl _ rfl g37 rfl { p with d := d8 } _ _ (by exact H37.out) HWC.out.ad ?_) | (refine wpList_load28 rfl _ rfl g35 rfl { p with d := d8 } _ _ (by exact H35.out) HWC.out.ad ?_))
            refine (sameP_yes { p with d := d8 } { p with d := d8 } _ _ _ _ _ ⟨HWC.out, by exact HOzko.out.sl HWC.out.o HWC.out.ol, by exact HOzkd.out.sl HWC.out.d HWC.out.dn⟩ ⟨HWC.out, by exact HOseo.out.sl HWC.out.o HWC.out.ol, by exact HOsed.out.sl HWC.out.d HWC.out.dn⟩ rfl).mono ?_
            rintro E w47 ⟨rfl, haw⟩
            replace HA := Lib.hid (HA.out.on haw)
            replace H9 := Lib.hid (H9.out.on haw)
            replace H10 := Lib.hid (H10.out.on haw)
            replace H11 := Lib.hid (H11.out.on haw)
            replace HSQ := Lib.hid (HSQ.out.on haw)
            replace HOkp := Lib.hid (HOkp.out.on haw)
            replace HObd := Lib.hid (HObd.out.on haw)
            replace HOseo := Lib.hid (HOseo.out.on haw)
            replace HOsed := Lib.hid (HOsed.out.on haw)
            replace H35 := Lib.hid (H35.out.on haw)
            replace HST := Lib.hid (HST.out.on haw)
            replace HOzko := Lib.hid (HOzko.out.on haw)
            replace HOzkd := Lib.hid (HOzkd.out.on haw)
            replace H37 := Lib.hid (H37.out.on haw)
            replace HOzv := Lib.hid (HOzv.out.on haw)
            clear haw
            go_wp2_with fail
            refine (same_sl _ _ bs _ (by exact HOzv.out.sl HBB.out (by omega)) (by exact HOkp.out.sl HBB.out (by omega))).mono ?_
            rintro E w90 ⟨rfl, hwe⟩
            replace hwe := hwe.symm
            subst hwe
            go_wp2_with fail
            go_ret
            exact ⟨rfl, HA.out.to_below⟩
          · have HBD : Hid (build4 p = ([], 1)) := build_no (by simpa using hr)
            refine (build_c p o2 d2 _ (by exact HM2.out.pkt HP.out.wf) (by exact HG.out.on HA.out)).mono ?_
            rintro E w27 ⟨dr, hE, hown, hnew, haw⟩
            rw [HBD.out] at hE hown
            subst hE
            have hlt2 := HLT.out.add haw hown hnew
            replace HAB := Lib.hid (HAB.out.add HSZ.out hown hnew)
            replace HA := Lib.hid (HA.out.on haw)
            replace H4 := Lib.hid (H4.out.on haw)
            replace H5 := Lib.hid (H5.out.on haw)
            replace H6 := Lib.hid (H6.out.on haw)
            replace H7 := Lib.hid (H7.out.on haw)
            replace HSQ := Lib.hid (HSQ.out.on haw)
            replace H9 := Lib.hid (H9.out.on haw)
            replace H10 := Lib.hid (H10.out.on haw)
            replace H11 := Lib.hid (H11.out.on haw)
            replace HSZ := Lib.hid (HSZ.out.on haw)
            replace HOx := Lib.hid (HOx.out.on haw)
            replace HOy := Lib.hid (HOy.out.on haw)
            replace HOkp := Lib.hid (HOkp.out.on haw)
            replace HOob := Lib.hid (HOob.out.on haw)
            replace H20 := Lib.hid (H20.out.on haw)
            replace HOqb := Lib.hid (HOqb.out.on haw)
            replace H21 := Lib.hid (H21.out.on haw)
            replace HOsm := Lib.hid (HOsm.out.on haw)
            replace HM2 := Lib.hid (HM2.out.on haw)
            clear haw
            replace HLT := Lib.hid hlt2
            clear hlt2
            have HOdr := Lib.hid hown
            have HNdr := Lib.hid hnew
            clear hown hnew
            obtain ⟨dra, drc, hdr, hdrn, hdrc⟩ := HOdr.out.slc0
            simp only at hdr hdrc HOdr HLT HAB
            subst hdr
            clear HM2
            have HTP := HTS
            clear HTS
            go_wp2_with (first | (refine wpList_loadM rfl _ rfl g20 rfl q _ (by exact H20.out) ?_) | (refine wpList_loadM rfl _ rfl g9 rfl q _ (by exact H9.out) ?_))
            refine (sameM_yes q _ _ _ (by exact HOob.out.sl HFQ.out.d (by omega)) (by exact HSQ.out)).mono ?_
            rintro E w28 ⟨rfl, haw⟩
            replace HA := Lib.hid (HA.out.on haw)
            replace H4 := Lib.hid (H4.out.on haw)
            replace H5 := Lib.hid (H5.out.on haw)
            replace H6 := Lib.hid (H6.out.on haw)
            replace H7 := Lib.hid (H7.out.on haw)
            replace HSQ := Lib.hid (HSQ.out.on haw)
            replace H9 := Lib.hid (H9.out.on haw)
            replace H10 := Lib.hid (H10.out.on haw)
            replace H11 := Lib.hid (H11.out.on haw)
            replace HSZ := Lib.hid (HSZ.out.on haw)
            replace HOx := Lib.hid (HOx.out.on haw)
            replace HOy := Lib.hid (HOy.out.on haw)
            replace HOkp := Lib.hid (HOkp.out.on haw)
            replace HOob := Lib.hid (HOob.out.on haw)
            replace H20 := Lib.hid (H20.out.on haw)
            replace HOqb := Lib.hid (HOqb.out.on haw)
            replace H21 := Lib.hid (H21.out.on haw)
            replace HOsm := Lib.hid (HOsm.out.on haw)
            replace HLT := Lib.hid (HLT.out.on haw)
            replace HOdr := Lib.hid (HOdr.out.on haw)
            clear haw
            go_wp2_with (first | (refine wpList_loadM rfl _ rfl g21 rfl q _ (by exact H21.out) ?_) | (refine wpList_loadM rfl _ rfl g9 rfl q _ (by exact H9.out) ?_))
            refine (sameM_yes q _ _ _ (by exact HOqb.out.sl HFQ.out.d (by omega)) (by exact HSQ.out)).mono ?_
            rintro E w29 ⟨rfl, haw⟩
            replace HA := Lib.hid (HA.out.on haw)
            replace H4 := Lib.hid (H4.out.on haw)
            replace H5 := Lib.hid (H5.out.on haw)
            replace H6 := Lib.hid (H6.out.on haw)
            replace H7 := Lib.hid (H7.out.on haw)
            replace HSQ := Lib.hid (HSQ.out.on haw)
            replace H9 := Lib.hid (H9.out.on haw)
            replace H10 := Lib.hid (H10.out.on haw)
            replace H11 := Lib.hid (H11.out.on haw)
            replace HSZ := Lib.hid (HSZ.out.on haw)
            replace HOx := Lib.hid (HOx.out.on haw)
            replace HOy := Lib.hid (HOy.out.on haw)
            replace HOkp := Lib.hid (HOkp.out.on haw)
            replace HOob := Lib.hid (HOob.out.on haw)
            replace H20 := Lib.hid (H20.out.on haw)
            replace HOqb := Lib.hid (HOqb.out.on haw)
            replace H21 := Lib.hid (H21.out.on haw)
            replace HOsm := Lib.hid (HOsm.out.on haw)
            replace HLT := Lib.hid (HLT.out.on haw)
            replace HOdr := Lib.hid (HOdr.out.on haw)
            clear haw
            obtain ⟨m0, hs0⟩ := HTP.out.s 0 (by omega)
            obtain ⟨m1, hs1⟩ := HTP.out.s 1 (by omega)
            have HS0 := Lib.hid hs0
            have HS1 := Lib.hid hs1
            clear hs0 hs1
            have HB0 : Hid (bigP sb 7 = (m0, 0)) := by refine Lib.hid ?_; have h1 := HS0.out.e; simpa [errsP] using h1
            have HB1 : Hid (aboutP sb 1 = (m1, 0)) := by refine Lib.hid ?_; have h1 := HS1.out.e; simpa [errsP] using h1
            have HW0 : Hid (WfM m0) := errs_bytes HTP.out.by' (by have h1 := HTP.out.n; omega) HS0.out (by omega) (by omega) HTP.out.wf.v (by omega)
            have HW1 : Hid (WfM m1) := errs_bytes HTP.out.by' (by have h1 := HTP.out.n; omega) HS1.out (by omega) (by omega) HTP.out.wf.v (by omega)
            have hbn := HTP.out.n
            obtain ⟨d8, hd8⟩ : ∃ x, x = smQ.d.take 8 := ⟨_, rfl⟩
            have HWC : Hid (Wf { smQ with d := d8 }) := by rw [hd8]; exact pk_cut_wf HTP.out.wf 8
            have HLK : Hid (lookP m0 = ({ smQ with d := d8 }, (sb.length : Int), 0)) := by rw [hd8]; exact HS0.out.lk
            have hd8n : d8.length ≤ 8 := by rw [hd8]; simp; omega
            clear hd8
            go_wp2_with fail
            refine (tooBig_c sma sb smc 7 _ (by exact HOsm.out.row' (by omega) HTP.out.by') hsmc hsmn (by exact HG.out.on HA.out)).mono ?_
            rw [HB0.out]
            rintro E w30 ⟨rb, rfl, hown, hnew, haw⟩
            dsimp only at hown ⊢
            have hlt2 := HLT.out.add haw hown hnew
            replace HAB := Lib.hid (HAB.out.add HSZ.out hown hnew)
            replace HA := Lib.hid (HA.out.on haw)
            replace H4 := Lib.hid (H4.out.on haw)
            replace H5 := Lib.hid (H5.out.on haw)
            replace H6 := Lib.hid (H6.out.on haw)
            replace H7 := Lib.hid (H7.out.on haw)
            replace HSQ := Lib.hid (HSQ.out.on haw)
            replace H9 := Lib.hid (H9.out.on haw)
            replace H10 := Lib.hid (H10.out.on haw)
            replace H11 := Lib.hid (H11.out.on haw)
            replace HSZ := Lib.hid (HSZ.out.on haw)
            replace HOx := Lib.hid (HOx.out.on haw)
            replace HOy := Lib.hid (HOy.out.on haw)
            replace HOkp := Lib.hid (HOkp.out.on haw)
            replace HOob := Lib.hid (HOob.out.on haw)
            replace H20 := Lib.hid (H20.out.on haw)
            replace HOqb := Lib.hid (HOqb.out.on haw)
            replace H21 := Lib.hid (H21.out.on haw)
            replace HOsm := Lib.hid (HOsm.out.on haw)
            replace HOdr := Lib.hid (HOdr.out.on haw)
            clear haw
            replace HLT := Lib.hid hlt2
            clear hlt2
            have HOrb := Lib.hid hown
            have HNrb := Lib.hid hnew
            clear hown hnew
            obtain ⟨rba, rbc, hrb, hrbn, hrbc⟩ := HOrb.out.slc0
            subst hrb
            go_wp2_with (refine wpList_newM rfl rfl rfl _ _ rfl m0 (.slice rba m0.d.length rbc) (fun _ => rfl) (fun _ => rfl) rfl ?_; refine Hid.out ?_)
            refine Lib.hid ?_
            intro g28 w31 hg_g28 hb haw
            replace HA := Lib.hid (HA.out.on haw)
            replace H4 := Lib.hid (H4.out.on haw)
            replace H5 := Lib.hid (H5.out.on haw)
            replace H6 := Lib.hid (H6.out.on haw)
            replace H7 := Lib.hid (H7.out.on haw)
            replace HSQ := Lib.hid (HSQ.out.on haw)
            replace H9 := Lib.hid (H9.out.on haw)
            replace H10 := Lib.hid (H10.out.on haw)
            replace H11 := Lib.hid (H11.out.on haw)
            replace HSZ := Lib.hid (HSZ.out.on haw)
            replace HOx := Lib.hid (HOx.out.on haw)
            replace HOy := Lib.hid (HOy.out.on haw)
            replace HOkp := Lib.hid (HOkp.out.on haw)
            replace HOob := Lib.hid (HOob.out.on haw)
            replace H20 := Lib.hid (H20.out.on haw)
            replace HOqb := Lib.hid (HOqb.out.on haw)
            replace H21 := Lib.hid (H21.out.on haw)
            replace HOsm := Lib.hid (HOsm.out.on haw)
            replace HOdr := Lib.hid (HOdr.out.on haw)
            replace HLT := Lib.hid (HLT.out.on haw)
            replace HOrb := Lib.hid (HOrb.out.on haw)
            clear haw
            have H28 := Lib.hid hb
            have hl_g28 := hb.lt
            clear hb
            go_wp2_with fail
            refine (noPort_c sma sb smc _ (by exact HOsm.out.row' (by omega) HTP.out.by') hsmc hsmn (by exact HG.out.on HA.out)).mono ?_
            rw [HB1.out]
            rintro E w32 ⟨nb, rfl, hown, hnew, haw⟩
            dsimp only at hown ⊢
            have hlt2 := HLT.out.add haw hown hnew
            replace HAB := Lib.hid (HAB.out.add HSZ.out hown hnew)
            replace HA := Lib.hid (HA.out.on haw)
            replace H4 := Lib.hid (H4.out.on haw)
            replace H5 := Lib.hid (H5.out.on haw)
            replace H6 := Lib.hid (H6.out.on haw)
            replace H7 := Lib.hid (H7.out.on haw)
            replace HSQ := Lib.hid (HSQ.out.on haw)
            replace H9 := Lib.hid (H9.out.on haw)
            replace H10 := Lib.hid (H10.out.on haw)
            replace H11 := Lib.hid (H11.out.on haw)
            replace HSZ := Lib.hid (HSZ.out.on haw)
            replace HOx := Lib.hid (HOx.out.on haw)
            replace HOy := Lib.hid (HOy.out.on haw)
            replace HOkp := Lib.hid (HOkp.out.on haw)
            replace HOob := Lib.hid (HOob.out.on haw)
            replace H20 := Lib.hid (H20.out.on haw)
            replace HOqb := Lib.hid (HOqb.out.on haw)
            replace H21 := Lib.hid (H21.out.on haw)
            replace HOsm := Lib.hid (HOsm.out.on haw)
            replace HOdr := Lib.hid (HOdr.out.on haw)
            replace HOrb := Lib.hid (HOrb.out.on haw)
            replace H28 := Lib.hid (H28.out.on haw)
            clear haw
            replace HLT := Lib.hid hlt2
            clear hlt2
            have HOnb := Lib.hid hown
            have HNnb := Lib.hid hnew
            clear hown hnew
            obtain ⟨nba, nbc, hnb, hnbn, hnbc⟩ := HOnb.out.slc0
            subst hnb
            go_wp2_with (refine wpList_newM rfl rfl rfl _ _ rfl m1 (.slice nba m1.d.length nbc) (fun _ => rfl) (fun _ => rfl) rfl ?_; refine Hid.out ?_)
            refine Lib.hid ?_
            intro g29 w33 hg_g29 hb haw
            replace HA := Lib.hid (HA.out.on haw)
            replace H4 := Lib.hid (H4.out.on haw)
            replace H5 := Lib.hid (H5.out.on haw)
            replace H6 := Lib.hid (H6.out.on haw)
            replace H7 := Lib.hid (H7.out.on haw)
            replace HSQ := Lib.hid (HSQ.out.on haw)
            replace H9 := Lib.hid (H9.out.on haw)
            replace H10 := Lib.hid (H10.out.on haw)
            replace H11 := Lib.hid (H11.out.on haw)
            replace HSZ := Lib.hid (HSZ.out.on haw)
            replace HOx := Lib.hid (HOx.out.on haw)
            replace HOy := Lib.hid (HOy.out.on haw)
            replace HOkp := Lib.hid (HOkp.out.on haw)
            replace HOob := Lib.hid (HOob.out.on haw)
            replace H20 := Lib.hid (H20.out.on haw)
            replace HOqb := Lib.hid (HOqb.out.on haw)
            replace H21 := Lib.hid (H21.out.on haw)
            replace HOsm := Lib.hid (HOsm.out.on haw)
            replace HOdr := Lib.hid (HOdr.out.on haw)
            replace HOrb := Lib.hid (HOrb.out.on haw)
            replace H28 := Lib.hid (H28.out.on haw)
            replace HLT := Lib.hid (HLT.out.on haw)
            replace HOnb := Lib.hid (HOnb.out.on haw)
            clear haw
            have H29 := Lib.hid hb
            have hl_g29 := hb.lt
            clear hb
            have hm0 := HS0.out.d1
            go_wp2_with (first | (refine wpList_loadM rfl _ rfl g28 rfl m0 _ (by exact H28.out) ?_))
            refine (look_c m0 (.slice rba m0.d.length rbc) _ ⟨HW0.out, by exact HOrb.out.sl HW0.out.d (by omega)⟩ (by exact HG.out.on HA.out)).mono ?_
            rw [HLK.out]
            rintro E w34 ⟨tko, tkd, rfl, hown, hown2, hnew, hnew2, hap, haw⟩
            dsimp only at hown hown2 ⊢
            have hlt2 := HLT.out.add2 haw hown hown2 hnew hnew2 hap
            replace HAB := Lib.hid ((HAB.out.add HSZ.out hown hnew).add HSZ.out hown2 hnew2)
            replace HA := Lib.hid (HA.out.on haw)
            replace H4 := Lib.hid (H4.out.on haw)
            replace H5 := Lib.hid (H5.out.on haw)
            replace H6 := Lib.hid (H6.out.on haw)
            replace H7 := Lib.hid (H7.out.on haw)
            replace HSQ := Lib.hid (HSQ.out.on haw)
            replace H9 := Lib.hid (H9.out.on haw)
            replace H10 := Lib.hid (H10.out.on haw)
            replace H11 := Lib.hid (H11.out.on haw)
            replace HSZ := Lib.hid (HSZ.out.on haw)
            replace HOx := Lib.hid (HOx.out.on haw)
            replace HOy := Lib.hid (HOy.out.on haw)
            replace HOkp := Lib.hid (HOkp.out.on haw)
            replace HOob := Lib.hid (HOob.out.on haw)
            replace H20 := Lib.hid (H20.out.on haw)
            replace HOqb := Lib.hid (HOqb.out.on haw)
            replace H21 := Lib.hid (H21.out.on haw)
            replace HOsm := Lib.hid (HOsm.out.on haw)
            replace HOdr := Lib.hid (HOdr.out.on haw)
            replace HOrb := Lib.hid (HOrb.out.on haw)
            replace H28 := Lib.hid (H28.out.on haw)
            replace HOnb := Lib.hid (HOnb.out.on haw)
            replace H29 := Lib.hid (H29.out.on haw)
            clear haw
            replace HLT := Lib.hid hlt2
            clear hlt2
            have HOtko := Lib.hid hown
            have HOtkd := Lib.hid hown2
            have HNtko := Lib.hid hnew
            have HNtkd := Lib.hid hnew2
            have HXtk := Lib.hid hap
            clear hown hown2 hnew hnew2 hap
            obtain ⟨tkoa, tkoc, htko, htkon, htkoc⟩ := HOtko.out.slc0
            subst htko
            obtain ⟨tkda, tkdc, htkd, htkdn, htkdc⟩ := HOtkd.out.slc0
            subst htkd
            go_wp2_with (refine wpList_new28 rfl rfl rfl _ _ rfl { smQ with d := d8 } _ _ (fun _ => rfl) (fun _ => rfl) HWC.out.ad rfl rfl ?_; refine Hid.out ?_)
            refine Lib.hid ?_
            intro g30 w35 hg_g30 hb haw
            replace HA := Lib.hid (HA.out.on haw)
            replace H4 := Lib.hid (H4.out.on haw)
            replace H5 := Lib.hid (H5.out.on haw)
            replace H6 := Lib.hid (H6.out.on haw)
            replace H7 := Lib.hid (H7.out.on haw)
            replace HSQ := Lib.hid (HSQ.out.on haw)
            replace H9 := Lib.hid (H9.out.on haw)
            replace H10 := Lib.hid (H10.out.on haw)
            replace H11 := Lib.hid (H11.out.on haw)
            replace HSZ := Lib.hid (HSZ.out.on haw)
            replace HOx := Lib.hid (HOx.out.on haw)
            replace HOy := Lib.hid (HOy.out.on haw)
            replace HOkp := Lib.hid (HOkp.out.on haw)
            replace HOob := Lib.hid (HOob.out.on haw)
            replace H20 := Lib.hid (H20.out.on haw)
            replace HOqb := Lib.hid (HOqb.out.on haw)
            replace H21 := Lib.hid (H21.out.on haw)
            replace HOsm := Lib.hid (HOsm.out.on haw)
            replace HOdr := Lib.hid (HOdr.out.on haw)
            replace HOrb := Lib.hid (HOrb.out.on haw)
            replace H28 := Lib.hid (H28.out.on haw)
            replace HOnb := Lib.hid (HOnb.out.on haw)
            replace H29 := Lib.hid (H29.out.on haw)
            replace HLT := Lib.hid (HLT.out.on haw)
            replace HOtko := Lib.hid (HOtko.out.on haw)
            replace HOtkd := Lib.hid (HOtkd.out.on haw)
            clear haw
            have H30 := Lib.hid hb
            have hl_g30 := hb.lt
            clear hb
            go_wp2_with (first | (refine wpList_loadM rfl _ rfl g28 rfl m0 _ (by exact H28.out) ?_))
            refine (look_c m0 (.slice rba m0.d.length rbc) _ ⟨HW0.out, by exact HOrb.out.sl HW0.out.d (by omega)⟩ (by exact HG.out.on HA.out)).mono ?_
            rw [HLK.out]
            rintro E w36 ⟨uko, ukd, rfl, hown, hown2, hnew, hnew2, hap, haw⟩
            dsimp only at hown hown2 ⊢
            have hlt2 := HLT.out.add2 haw hown hown2 hnew hnew2 hap
            replace HAB := Lib.hid ((HAB.out.add HSZ.out hown hnew).add HSZ.out hown2 hnew2)
            replace HA := Lib.hid (HA.out.on haw)
            replace H4 := Lib.hid (H4.out.on haw)
            replace H5 := Lib.hid (H5.out.on haw)
            replace H6 := Lib.hid (H6.out.on haw)
            replace H7 := Lib.hid (H7.out.on haw)
            replace HSQ := Lib.hid (HSQ.out.on haw)
            replace H9 := Lib.hid (H9.out.on haw)
            replace H10 := Lib.hid (H10.out.on haw)
            replace H11 := Lib.hid (H11.out.on haw)
            replace HSZ := Lib.hid (HSZ.out.on haw)
            replace HOx := Lib.hid (HOx.out.on haw)
            replace HOy := Lib.hid (HOy.out.on haw)
            replace HOkp := Lib.hid (HOkp.out.on haw)
            replace HOob := Lib.hid (HOob.out.on haw)
            replace H20 := Lib.hid (H20.out.on haw)
            replace HOqb := Lib.hid (HOqb.out.on haw)
            replace H21 := Lib.hid (H21.out.on haw)
            replace HOsm := Lib.hid (HOsm.out.on haw)
            replace HOdr := Lib.hid (HOdr.out.on haw)
            replace HOrb := Lib.hid (HOrb.out.on haw)
            replace H28 := Lib.hid (H28.out.on haw)
            replace HOnb := Lib.hid (HOnb.out.on haw)
            replace H29 := Lib.hid (H29.out.on haw)
            replace HOtko := Lib.hid (HOtko.out.on haw)
            replace HOtkd := Lib.hid (HOtkd.out.on haw)
            replace H30 := Lib.hid (H30.out.on haw)
            clear haw
            replace HLT := Lib.hid hlt2
            clear hlt2
            have HOuko := Lib.hid hown
            have HOukd := Lib.hid hown2
            have HNuko := Lib.hid hnew
            have HNukd := Lib.hid hnew2
            have HXuk := Lib.hid hap
            clear hown hown2 hnew hnew2 hap
            obtain ⟨ukoa, ukoc, huko, hukon, hukoc⟩ := HOuko.out.slc0
            subst huko
            obtain ⟨ukda, ukdc, hukd, hukdn, hukdc⟩ := HOukd.out.slc0
            subst hukd
            go_wp2_with (refine wpList_new28 rfl rfl rfl _ _ rfl { smQ with d := d8 } _ _ (fun _ => rfl) (fun _ => rfl) HWC.out.ad rfl rfl ?_; refine Hid.out ?_)
            refine Lib.hid ?_
            intro g32 w37 hg_g32 hb haw
            replace HA := Lib.hid (HA.out.on haw)
            replace H4 := Lib.hid (H4.out.on haw)
            replace H5 := Lib.hid (H5.out.on haw)
            replace H6 := Lib.hid (H6.out.on haw)
            replace H7 := Lib.hid (H7.out.on haw)
            replace HSQ := Lib.hid (HSQ.out.on haw)
            replace H9 := Lib.hid (H9.out.on haw)
            replace H10 := Lib.hid (H10.out.on haw)
            replace H11 := Lib.hid (H11.out.on haw)
            replace HSZ := Lib.hid (HSZ.out.on haw)
            replace HOx := Lib.hid (HOx.out.on haw)
            replace HOy := Lib.hid (HOy.out.on haw)
            replace HOkp := Lib.hid (HOkp.out.on haw)
            replace HOob := Lib.hid (HOob.out.on haw)
            replace H20 := Lib.hid (H20.out.on haw)
            replace HOqb := Lib.hid (HOqb.out.on haw)
            replace H21 := Lib.hid (H21.out.on haw)
            replace HOsm := Lib.hid (HOsm.out.on haw)
            replace HOdr := Lib.hid (HOdr.out.on haw)
            replace HOrb := Lib.hid (HOrb.out.on haw)
            replace H28 := Lib.hid (H28.out.on haw)
            replace HOnb := Lib.hid (HOnb.out.on haw)
            replace H29 := Lib.hid (H29.out.on haw)
            replace HOtko := Lib.hid (HOtko.out.on haw)
            replace HOtkd := Lib.hid (HOtkd.out.on haw)
            replace H30 := Lib.hid (H30.out.on haw)
            replace HLT := Lib.hid (HLT.out.on haw)
            replace HOuko := Lib.hid (HOuko.out.on haw)
            replace HOukd := Lib.hid (HOukd.out.on haw)
            clear haw
            have H32 := Lib.hid hb
            have hl_g32 := hb.lt
            clear hb
            go_wp2_with (first | (refine wpList_load28 rfl _ rfl g30 rfl { smQ with d := d8 } _ _ (by exact H30.out) HWC.out.ad ?_) | (refine wpList_load28 rfl _ rfl g32 rfl { smQ with d := d8 } _ _ (by exact H32.out) HWC.out.ad ?_))
            refine (sameP_yes { smQ with d := d8 } { smQ with d := d8 } _ _ _ _ _ ⟨HWC.out, by exact HOtko.out.sl HWC.out.o HWC.out.ol, by exact HOtkd.out.sl HWC.out.d HWC.out.dn⟩ ⟨HWC.out, by exact HOuko.out.sl HWC.out.o HWC.out.ol, by exact HOukd.out.sl HWC.out.d HWC.out.dn⟩ rfl).mono ?_
            rintro E w38 ⟨rfl, haw⟩
            replace HA := Lib.hid (HA.out.on haw)
            replace H4 := Lib.hid (H4.out.on haw)
            replace H5 := Lib.hid (H5.out.on haw)
            replace H6 := Lib.hid (H6.out.on haw)
            replace H7 := Lib.hid (H7.out.on haw)
            replace HSQ := Lib.hid (HSQ.out.on haw)
            replace H9 := Lib.hid (H9.out.on haw)
            replace H10 := Lib.hid (H10.out.on haw)
            replace H11 := Lib.hid (H11.out.on haw)
            replace HSZ := Lib.hid (HSZ.out.on haw)
            replace HOx := Lib.hid (HOx.out.on haw)
            replace HOy := Lib.hid (HOy.out.on haw)
            replace HOkp := Lib.hid (HOkp.out.on haw)
            replace HOob := Lib.hid (HOob.out.on haw)
            replace H20 := Lib.hid (H20.out.on haw)
            replace HOqb := Lib.hid (HOqb.out.on haw)
            replace H21 := Lib.hid (H21.out.on haw)
            replace HOsm := Lib.hid (HOsm.out.on haw)
            replace HOdr := Lib.hid (HOdr.out.on haw)
            replace HOrb := Lib.hid (HOrb.out.on haw)
            replace H28 := Lib.hid (H28.out.on haw)
            replace HOnb := Lib.hid (HOnb.out.on haw)
            replace H29 := Lib.hid (H29.out.on haw)
            replace HOtko := Lib.hid (HOtko.out.on haw)
            replace HOtkd := Lib.hid (HOtkd.out.on haw)
            replace H30 := Lib.hid (H30.out.on haw)
            replace HLT := Lib.hid (HLT.out.on haw)
            replace HOuko := Lib.hid (HOuko.out.on haw)
            replace HOukd := Lib.hid (HOukd.out.on haw)
            replace H32 := Lib.hid (H32.out.on haw)
            clear haw
            have e28 := H28.out.c4
            have HLL2 := Lib.hid HLT.out.lt
            go_wp2_with fail
            refine (own_any rba m0.d _ rbc _ rfl (by exact HOrb.out.row' (by omega) HW0.out.d)).mono ?_
            rintro E w39 ⟨bd, rfl, hown, hnew, haw, -, -⟩
            clear e28
            have hsb1 := haw.size
            replace HA := Lib.hid (HA.out.on haw)
            replace H4 := Lib.hid (H4.out.on haw)
            replace H5 := Lib.hid (H5.out.on haw)
            replace H6 := Lib.hid (H6.out.on haw)
            replace H7 := Lib.hid (H7.out.on haw)
            replace HSQ := Lib.hid (HSQ.out.on haw)
            replace H9 := Lib.hid (H9.out.on haw)
            replace H10 := Lib.hid (H10.out.on haw)
            replace H11 := Lib.hid (H11.out.on haw)
            replace HSZ := Lib.hid (HSZ.out.on haw)
            replace HOx := Lib.hid (HOx.out.on haw)
            replace HOy := Lib.hid (HOy.out.on haw)
            replace HOkp := Lib.hid (HOkp.out.on haw)
            replace HOob := Lib.hid (HOob.out.on haw)
            replace H20 := Lib.hid (H20.out.on haw)
            replace HOqb := Lib.hid (HOqb.out.on haw)
            replace H21 := Lib.hid (H21.out.on haw)
            replace HOsm := Lib.hid (HOsm.out.on haw)
            replace HOdr := Lib.hid (HOdr.out.on haw)
            replace HOrb := Lib.hid (HOrb.out.on haw)
            replace H28 := Lib.hid (H28.out.on haw)
            replace HOnb := Lib.hid (HOnb.out.on haw)
            replace H29 := Lib.hid (H29.out.on haw)
            replace HOtko := Lib.hid (HOtko.out.on haw)
            replace HOtkd := Lib.hid (HOtkd.out.on haw)
            replace H30 := Lib.hid (H30.out.on haw)
            replace HLT := Lib.hid (HLT.out.on haw)
            replace HOuko := Lib.hid (HOuko.out.on haw)
            replace HOukd := Lib.hid (HOukd.out.on haw)
            replace H32 := Lib.hid (H32.out.on haw)
            clear haw
            have HObd := Lib.hid hown
            have HNbd := Lib.hid hnew
            clear hown hnew
            obtain ⟨bda, bdc, hbd, hbdn, hbdc⟩ := HObd.out.slc0
            subst hbd
            go_wp2_with (first | (refine wpList_load28 rfl _ rfl g30 rfl { smQ with d := d8 } _ _ (by exact H30.out) HWC.out.ad ?_))
            refine (ownP_c { smQ with d := d8 } _ _ _ ⟨HWC.out, by exact HOtko.out.sl HWC.out.o HWC.out.ol, by exact HOtkd.out.sl HWC.out.d HWC.out.dn⟩).mono ?_
            rintro E w40 ⟨so, sd, rfl, hmine, haw⟩
            have hsb2 := haw.size
            replace HA := Lib.hid (HA.out.on haw)
            replace H4 := Lib.hid (H4.out.on haw)
            replace H5 := Lib.hid (H5.out.on haw)
            replace H6 := Lib.hid (H6.out.on haw)
            replace H7 := Lib.hid (H7.out.on haw)
            replace HSQ := Lib.hid (HSQ.out.on haw)
            replace H9 := Lib.hid (H9.out.on haw)
            replace H10 := Lib.hid (H10.out.on haw)
            replace H11 := Lib.hid (H11.out.on haw)
            replace HSZ := Lib.hid (HSZ.out.on haw)
            replace HOx := Lib.hid (HOx.out.on haw)
            replace HOy := Lib.hid (HOy.out.on haw)
            replace HOkp := Lib.hid (HOkp.out.on haw)
            replace HOob := Lib.hid (HOob.out.on haw)
            replace H20 := Lib.hid (H20.out.on haw)
            replace HOqb := Lib.hid (HOqb.out.on haw)
            replace H21 := Lib.hid (H21.out.on haw)
            replace HOsm := Lib.hid (HOsm.out.on haw)
            replace HOdr := Lib.hid (HOdr.out.on haw)
            replace HOrb := Lib.hid (HOrb.out.on haw)
            replace H28 := Lib.hid (H28.out.on haw)
            replace HOnb := Lib.hid (HOnb.out.on haw)
            replace H29 := Lib.hid (H29.out.on haw)
            replace HOtko := Lib.hid (HOtko.out.on haw)
            replace HOtkd := Lib.hid (HOtkd.out.on haw)
            replace H30 := Lib.hid (H30.out.on haw)
            replace HLT := Lib.hid (HLT.out.on haw)
            replace HOuko := Lib.hid (HOuko.out.on haw)
            replace HOukd := Lib.hid (HOukd.out.on haw)
            replace H32 := Lib.hid (H32.out.on haw)
            replace HObd := Lib.hid (HObd.out.on haw)
            clear haw
            have HOseo := Lib.hid hmine.o
            have HOsed := Lib.hid hmine.d
            have HNseo := Lib.hid hmine.no
            have HNsed := Lib.hid hmine.nd
            clear hmine
            obtain ⟨soa, soc, hso, hson, hsoc⟩ := HOseo.out.slc0
            subst hso
            obtain ⟨sda, sdc, hsd, hsdn, hsdc⟩ := HOsed.out.slc0
            subst hsd
            go_wp2_with (refine wpList_new28 rfl rfl rfl _ _ rfl { smQ with d := d8 } _ _ (fun _ => rfl) (fun _ => rfl) HWC.out.ad rfl rfl ?_; refine Hid.out ?_)
            refine Lib.hid ?_
            intro g35 w41 hg_g35 hb haw
            replace HA := Lib.hid (HA.out.on haw)
            replace H4 := Lib.hid (H4.out.on haw)
            replace H5 := Lib.hid (H5.out.on haw)
            replace H6 := Lib.hid (H6.out.on haw)
            replace H7 := Lib.hid (H7.out.on haw)
            replace HSQ := Lib.hid (HSQ.out.on haw)
            replace H9 := Lib.hid (H9.out.on haw)
            replace H10 := Lib.hid (H10.out.on haw)
            replace H11 := Lib.hid (H11.out.on haw)
            replace HSZ := Lib.hid (HSZ.out.on haw)
            replace HOx := Lib.hid (HOx.out.on haw)
            replace HOy := Lib.hid (HOy.out.on haw)
            replace HOkp := Lib.hid (HOkp.out.on haw)
            replace HOob := Lib.hid (HOob.out.on haw)
            replace H20 := Lib.hid (H20.out.on haw)
            replace HOqb := Lib.hid (HOqb.out.on haw)
            replace H21 := Lib.hid (H21.out.on haw)
            replace HOsm := Lib.hid (HOsm.out.on haw)
            replace HOdr := Lib.hid (HOdr.out.on haw)
            replace HOrb := Lib.hid (HOrb.out.on haw)
            replace H28 := Lib.hid (H28.out.on haw)
            replace HOnb := Lib.hid (HOnb.out.on haw)
            replace H29 := Lib.hid (H29.out.on haw)
            replace HOtko := Lib.hid (HOtko.out.on haw)
            replace HOtkd := Lib.hid (HOtkd.out.on haw)
            replace H30 := Lib.hid (H30.out.on haw)
            replace HLT := Lib.hid (HLT.out.on haw)
            replace HOuko := Lib.hid (HOuko.out.on haw)
            replace HOukd := Lib.hid (HOukd.out.on haw)
            replace H32 := Lib.hid (H32.out.on haw)
            replace HObd := Lib.hid (HObd.out.on haw)
            replace HOseo := Lib.hid (HOseo.out.on haw)
            replace HOsed := Lib.hid (HOsed.out.on haw)
            clear haw
            have H35 := Lib.hid hb
            have hl_g35 := hb.lt
            clear hb
            obtain ⟨P11, hP11⟩ : ∃ x : Lot, x = [(.slice xa bs.length xc, bs), (.slice ya bs.length yc, bs), (.slice oba q.d.length obc, q.d), (.slice qba q.d.length qbc, q.d), (.slice sma sb.length smc, sb), (.slice rba m0.d.length rbc, m0.d), (.slice nba m1.d.length nbc, m1.d), (.slice tkoa smQ.o.length tkoc, smQ.o), (.slice tkda d8.length tkdc, d8), (.slice ukoa smQ.o.length ukoc, smQ.o), (.slice ukda d8.length ukdc, d8)] := ⟨_, rfl⟩
            have hq : Lots w41 P11 := by rw [hP11]; exact HLT.out.sub (by simp only [List.cons_append, List.nil_append, List.append_assoc]; repeat (first | exact List.nil_sublist _ | apply List.Sublist.cons_cons | apply List.Sublist.cons))
            have hbB : Abv B P11 := by rw [hP11]; exact HAB.out.sub (by simp only [List.cons_append, List.nil_append, List.append_assoc]; repeat (first | exact List.nil_sublist _ | apply List.Sublist.cons_cons | apply List.Sublist.cons))
            have haw0 := (Away.refl [] w41).alloc (.cells #[.slice xa bs.length xc, .slice ya bs.length yc, .slice oba q.d.length obc, .slice qba q.d.length qbc, .slice sma sb.length smc, .slice rba m0.d.length rbc, .slice nba m1.d.length nbc, .slice tkoa smQ.o.length tkoc, .slice tkda d8.length tkdc, .slice ukoa smQ.o.length ukoc, .slice ukda d8.length ukdc] 23)
            have hby : ∀ r ∈ P11, Bytes r.2 ∧ r.2.length ≤ 65535 := fun r hr => by
              have h1 := HTP.out.ln
              rw [hP11] at hr
              simp only [List.mem_cons, List.not_mem_nil, or_false] at hr
              rcases hr with rfl | rfl | rfl | rfl | rfl | rfl | rfl | rfl | rfl | rfl | rfl
              · exact ⟨HBB.out, hbl⟩
              · exact ⟨HBB.out, hbl⟩
              · exact ⟨HFQ.out.d, by simp only; omega⟩
              · exact ⟨HFQ.out.d, by simp only; omega⟩
              · exact ⟨HTP.out.by', HTP.out.n⟩
              · exact ⟨HW0.out.d, by simp only; omega⟩
              · exact ⟨HW1.out.d, by have h2 := HS1.out.d1; simp only; omega⟩
              · exact ⟨HWC.out.o, by simp only; omega⟩
              · exact ⟨HWC.out.d, by simp only; omega⟩
              · exact ⟨HWC.out.o, by simp only; omega⟩
              · exact ⟨HWC.out.d, by simp only; omega⟩
            have hlw := hq.lt
            have HLot : Hid (LotAt (World.alloc w41 (.cells #[.slice xa bs.length xc, .slice ya bs.length yc, .slice oba q.d.length obc, .slice qba q.d.length qbc, .slice sma sb.length smc, .slice rba m0.d.length rbc, .slice nba m1.d.length nbc, .slice tkoa smQ.o.length tkoc, .slice tkda d8.length tkdc, .slice ukoa smQ.o.length ukoc, .slice ukda d8.length ukdc] 23)) (.slice (some ⟨w41.heap.size, 0, none⟩) 11 11) P11) := (hq.on haw0).at (by rw [hP11]; exact World.ownsRow_lit (base := 0) (e := 23) (size := 1) w41 #[.slice xa bs.length xc, .slice ya bs.length yc, .slice oba q.d.length obc, .slice qba q.d.length qbc, .slice sma sb.length smc, .slice rba m0.d.length rbc, .slice nba m1.d.length nbc, .slice tkoa smQ.o.length tkoc, .slice tkda d8.length tkdc, .slice ukoa smQ.o.length ukoc, .slice ukda d8.length ukdc] 11 (Nat.zero_le _) (by decide) rfl) hby (fun k hk r hr he => by have h1 := hlw r hr k he; simp [Value.ownBlock] at hk; omega) (by rw [hP11]; simp)
            have e20 := H20.out.c4
            have e21 := H21.out.c4
            have e28 := H28.out.c4
            have e29 := H29.out.c4
            have e30o := (H30.out.cells HWC.out.ad).o
            have e30d := (H30.out.cells HWC.out.ad).d
            have e32o := (H32.out.cells HWC.out.ad).o
            have e32d := (H32.out.cells HWC.out.ad).d
            go_wp2_with fail
            refine (marked_any _ _ P11 HLot.out).mono ?_
            rintro E w42 ⟨vl, tl, rfl, hst, hnst, hawm, -⟩
            have haw : Away (bl P11) w41 w42 := (((Away.refl [] w41).alloc _).mono (by simp)).next hawm (fun x hx => .inl hx)
            have hin : ∀ k, k ∈ bl P11 → B ≤ k ∧ k < w38.heap.size ∧ (Value.slice kpa bs.length kpc).ownBlock ≠ some k := fun k hk => by
              obtain ⟨r, hr, he⟩ := mem_bl hk
              refine ⟨hbB r hr k he, ?_, ?_⟩
              · refine HLL2.out r ?_ k he
                rw [hP11] at hr
                exact List.Sublist.subset (by simp only [List.cons_append, List.nil_append, List.append_assoc]; repeat (first | exact List.nil_sublist _ | apply List.Sublist.cons_cons | apply List.Sublist.cons)) hr
              · intro hc
                have h1 := Lots.mid (A := [(.slice xa bs.length xc, bs), (.slice ya bs.length yc, bs)]) (x := (.slice kpa bs.length kpc, bs)) (by exact HLT.out) r (by rw [hP11] at hr; exact List.Sublist.subset (by simp only [List.cons_append, List.nil_append, List.append_assoc]; repeat (first | exact List.nil_sublist _ | apply List.Sublist.cons_cons | apply List.Sublist.cons)) hr) k hc
                exact h1 he
            clear hawm HLot e20 e21 e28 e29 e30o e30d e32o e32d
            replace HA := Lib.hid (HA.out.next haw (fun x hx => .inr (by have h1 := hin x hx; omega)))
            replace H9 := Lib.hid (H9.out.away haw (fun hc => by have h1 := hin _ hc; omega))
            replace H10 := Lib.hid (H10.out.away haw (fun hc => by have h1 := hin _ hc; omega))
            replace H11 := Lib.hid (H11.out.away haw (fun hc => by have h1 := hin _ hc; omega))
            replace HSQ := Lib.hid (HSQ.out.away haw (fun hl k hk hc => by have h1 := HBQ.out hl k hk; have h2 := hin k hc; omega))
            replace HOkp := Lib.hid (HOkp.out.away haw (fun k hk hc => (hin k hc).2.2 hk))
            replace HObd := Lib.hid (HObd.out.away haw (fun k hk hc => by have h1 := HNbd.out k hk; have h2 := hin k hc; omega))
            replace HOseo := Lib.hid (HOseo.out.away haw (fun k hk hc => by have h1 := HNseo.out k hk; have h2 := hin k hc; omega))
            replace HOsed := Lib.hid (HOsed.out.away haw (fun k hk hc => by have h1 := HNsed.out k hk; have h2 := hin k hc; omega))
            replace H35 := Lib.hid (H35.out.away haw (fun hc => by have h1 := hin _ hc; omega))
            have HST := Lib.hid hst
            clear hst haw hnst hin HLT HAB
            have HLQ : Hid (lookP ⟨4, 0, 0, 0, m0.d⟩ = ({ smQ with d := d8 }, (sb.length : Int), 0)) := by
              have h1 := HLK.out
              have h2 : m0.v = 4 := by rw [HS0.out.v]; exact HTP.out.v
              unfold lookP at h1 ⊢
              rw [if_pos h2] at h1
              rw [if_pos rfl]; exact Lib.hid h1
            have HWQ : Hid (WfM ⟨4, 0, 0, 0, m0.d⟩) := ⟨by simp [i64ok], by simp [i64ok], by simp [i64ok], by simp, by simp, HW0.out.d, by simp only; omega⟩
            go_wp2_with fail
            have KLQ := look_c ⟨4, 0, 0, 0, m0.d⟩ (.slice bda m0.d.length bdc) w42 ⟨HWQ.out, by exact HObd.out.sl HW0.out.d (by omega)⟩ (by exact HG.out.on HA.out)
            rw [HLQ.out] at KLQ
            have hcs : csM ⟨4, 0, 0, 0, m0.d⟩ (.slice bda m0.d.length bdc) = #[.int .i64 4, .int .i64 0, .int .i64 0, .int .u32 0, .slice bda m0.d.length bdc] := rfl
            rw [hcs] at KLQ
            clear hcs
            refine KLQ.mono ?_
            clear KLQ
            rintro E w43 ⟨zo, zd, rfl, hown, hown2, -, -, -, haw⟩
            dsimp only at hown hown2 ⊢
            replace HA := Lib.hid (HA.out.on haw)
            replace H9 := Lib.hid (H9.out.on haw)
            replace H10 := Lib.hid (H10.out.on haw)
            replace H11 := Lib.hid (H11.out.on haw)
            replace HSQ := Lib.hid (HSQ.out.on haw)
            replace HOkp := Lib.hid (HOkp.out.on haw)
            replace HObd := Lib.hid (HObd.out.on haw)
            replace HOseo := Lib.hid (HOseo.out.on haw)
            replace HOsed := Lib.hid (HOsed.out.on haw)
            replace H35 := Lib.hid (H35.out.on haw)
            replace HST := Lib.hid (HST.out.on haw)
            clear haw
            have HOzko := Lib.hid hown
            have HOzkd := Lib.hid hown2
            clear hown hown2
            obtain ⟨zoa, zoc, hzo, -, -⟩ := HOzko.out.slc0
            subst hzo
            obtain ⟨zda, zdc, hzd, -, -⟩ := HOzkd.out.slc0
            subst hzd
            go_wp2_with (refine wpList_new28 rfl rfl rfl _ _ rfl { smQ with d := d8 } _ _ (fun _ => rfl) (fun _ => rfl) HWC.out.ad rfl rfl ?_; refine Hid.out ?_)
            refine Lib.hid ?_
            intro g37 w44 hg_g37 hb haw
            replace HA := Lib.hid (HA.out.on haw)
            replace H9 := Lib.hid (H9.out.on haw)
            replace H10 := Lib.hid (H10.out.on haw)
            replace H11 := Lib.hid (H11.out.on haw)
            replace HSQ := Lib.hid (HSQ.out.on haw)
            replace HOkp := Lib.hid (HOkp.out.on haw)
            replace HObd := Lib.hid (HObd.out.on haw)
            replace HOseo := Lib.hid (HOseo.out.on haw)
            replace HOsed := Lib.hid (HOsed.out.on haw)
            replace H35 := Lib.hid (H35.out.on haw)
            replace HST := Lib.hid (HST.out.on haw)
            replace HOzko := Lib.hid (HOzko.out.on haw)
            replace HOzkd := Lib.hid (HOzkd.out.on haw)
            clear haw
            have H37 := Lib.hid hb
            have hl_g37 := hb.lt
            clear hb
            go_wp2_with (first | (refine wpList_loadX rfl _ rfl g10 rfl s (by exact H10.out) HS.out ?_) | (refine wpList_loadX rfl _ rfl g11 rfl t (by exact H11.out) HT.out ?_) | (refine wpList_loadM rfl _ rfl g9 rfl q _ (by exact H9.out) ?_))
            refine (mbuild_c s t q _ _ HS.out HT.out ⟨HFQ.out.wf, by exact HSQ.out⟩).mono ?_
            rw [HBE.out]
            rintro E w45 ⟨zv, rfl, hown, -, haw⟩
            dsimp only at hown ⊢
            replace HA := Lib.hid (HA.out.on haw)
            replace H9 := Lib.hid (H9.out.on haw)
            replace H10 := Lib.hid (H10.out.on haw)
            replace H11 := Lib.hid (H11.out.on haw)
            replace HSQ := Lib.hid (HSQ.out.on haw)
            replace HOkp := Lib.hid (HOkp.out.on haw)
            replace HObd := Lib.hid (HObd.out.on haw)
            replace HOseo := Lib.hid (HOseo.out.on haw)
            replace HOsed := Lib.hid (HOsed.out.on haw)
            replace H35 := Lib.hid (H35.out.on haw)
            replace HST := Lib.hid (HST.out.on haw)
            replace HOzko := Lib.hid (HOzko.out.on haw)
            replace HOzkd := Lib.hid (HOzkd.out.on haw)
            replace H37 := Lib.hid (H37.out.on haw)
            clear haw
            have HOzv := Lib.hid hown
            clear hown
            obtain ⟨zva, zvc, hzv, -, -⟩ := HOzv.out.slc0
            subst hzv
            go_wp2_with fail
            refine (still_any _ _ _ (by exact HST.out)).mono ?_
            rintro E w46 ⟨rfl, k, hk⟩
            have haw : Away [] w45 w46 := by rw [hk]; exact (Away.refl [] w45).drewN k
            clear hk
            replace HA := Lib.hid (HA.out.on haw)
            replace H9 := Lib.hid (H9.out.on haw)
            replace H10 := Lib.hid (H10.out.on haw)
            replace H11 := Lib.hid (H11.out.on haw)
            replace HSQ := Lib.hid (HSQ.out.on haw)
            replace HOkp := Lib.hid (HOkp.out.on haw)
            replace HObd := Lib.hid (HObd.out.on haw)
            replace HOseo := Lib.hid (HOseo.out.on haw)
            replace HOsed := Lib.hid (HOsed.out.on haw)
            replace H35 := Lib.hid (H35.out.on haw)
            replace HST := Lib.hid (HST.out.on haw)
            replace HOzko := Lib.hid (HOzko.out.on haw)
            replace HOzkd := Lib.hid (HOzkd.out.on haw)
            replace H37 := Lib.hid (H37.out.on haw)
            replace HOzv := Lib.hid (HOzv.out.on haw)
            clear haw
            go_wp2_with (first | (refine wpList_load28 rfl _ rfl g37 rfl { smQ with d := d8 } _ _ (by exact H37.out) HWC.out.ad ?_) | (refine wpList_load28 rfl _ rfl g35 rfl { smQ with d := d8 } _ _ (by exact H35.out) HWC.out.ad ?_))
            refine (sameP_yes { smQ with d := d8 } { smQ with d := d8 } _ _ _ _ _ ⟨HWC.out, by exact HOzko.out.sl HWC.out.o HWC.out.ol, by exact HOzkd.out.sl HWC.out.d HWC.out.dn⟩ ⟨HWC.out, by exact HOseo.out.sl HWC.out.o HWC.out.ol, by exact HOsed.out.sl HWC.out.d HWC.out.dn⟩ rfl).mono ?_
            rintro E w47 ⟨rfl, haw⟩
            replace HA := Lib.hid (HA.out.on haw)
            replace H9 := Lib.hid (H9.out.on haw)
            replace H10 := Lib.hid (H10.out.on haw)
            replace H11 := Lib.hid (H11.out.on haw)
            replace HSQ := Lib.hid (HSQ.out.on haw)
            replace HOkp := Lib.hid (HOkp.out.on haw)
            replace HObd := Lib.hid (HObd.out.on haw)
            replace HOseo := Lib.hid (HOseo.out.on haw)
            replace HOsed := Lib.hid (HOsed.out.on haw)
            replace H35 := Lib.hid (H35.out.on haw)
            replace HST := Lib.hid (HST.out.on haw)
            replace HOzko := Lib.hid (HOzko.out.on haw)
            replace HOzkd := Lib.hid (HOzkd.out.on haw)
            replace H37 := Lib.hid (H37.out.on haw)
            replace HOzv := Lib.hid (HOzv.out.on haw)
            clear haw
            go_wp2_with fail
            refine (same_sl _ _ bs _ (by exact HOzv.out.sl HBB.out (by omega)) (by exact HOkp.out.sl HBB.out (by omega))).mono ?_
            rintro E w90 ⟨rfl, hwe⟩
            replace hwe := hwe.symm
            subst hwe
            go_wp2_with fail
            go_ret
            exact ⟨rfl, HA.out.to_below⟩
end icmpMemory
namespace icmpMemory
theorem contract (H : Type) (enc : TypeId × Value → H) (W : World) (base : Nat) (args : Array Value) (ds gs : List (DataW H)) (before : List MemPlace)
    (hval0 : ∀ (j : Nat) t v, Tryd.f4.params[j]? = some t → args[j]? = some v → Value.okWide Tryd.prog W .any base t v)
    (hW : DataW.Whole enc Tryd.prog Tryd.f4.params.toList Rows.icmpMemorySpec.vars false W args.toList ds gs before)
    (hsz0 : (DataW.weightsEach Tryd.prog (Tryd.f4.params.toList ++ Rows.icmpMemorySpec.plain.varTypes Tryd.prog) (ds ++ gs)).all (· ≤ reachBytes) = true)
    (hL : laidMetH Tryd.prog Rows.icmpMemoryRow.laid W) :
    Calls Tryd.prog 4 args W fun e W' => ∃ v, e = .returned v ∧ Rows.icmpMemorySpec.post enc Tryd.prog Tryd.f4 false true false false W args v W' := by
  have hval := hval0
  have hsz := hsz0
  have hW' := hW
  obtain ⟨p, q, hA0, hV, rfl, hfz, hnd⟩ := hW
  have hA : DataW.TrodAll enc Tryd.prog W 0 (fun _ => true) true Tryd.f4.params.toList args.toList ds p := hA0
  rw [Tryd.params4] at hA hval hsz
  obtain ⟨v0, vs0, d0, ds0, p0, q0, hargs, rfl, rfl, h0, r0⟩ := trodAll_cons hA
  obtain ⟨v1, vs1, d1, ds1, p1, q1, rfl, rfl, rfl, h1, r1⟩ := trodAll_cons r0
  obtain ⟨v2, vs2, d2, ds2, p2, q2, rfl, rfl, rfl, h2, r2⟩ := trodAll_cons r1
  obtain ⟨v3, vs3, d3, ds3, p3, q3, rfl, rfl, rfl, h3, r3⟩ := trodAll_cons r2
  obtain ⟨rfl, rfl, rfl⟩ := trodAll_nil r3
  obtain rfl : args = #[v0, v1, v2, v3] := by cases args; simp_all
  obtain ⟨rfl, rfl⟩ := trodVars_none hV
  have k0 := h0
  have lt0 : ∀ x ∈ p0, x.block < W.heap.size := by obtain ⟨m, hm⟩ := k0; exact DataW.trod_lt m _ _ _ hm
  have z0 : ∀ m ∈ d0.weights Tryd.prog 30, m ≤ reachBytes := fun m hm => by
    have := List.all_eq_true.1 hsz m (DataW.weights_mem_each (j := 0) (t := 30) rfl rfl m hm)
    simpa using this
  obtain ⟨x0, rfl, w0⟩ := open_ax (hval 0 30 v0 rfl rfl) h0
  have k1 := h1
  have lt1 : ∀ x ∈ p1, x.block < W.heap.size := by obtain ⟨m, hm⟩ := k1; exact DataW.trod_lt m _ _ _ hm
  have z1 : ∀ m ∈ d1.weights Tryd.prog 30, m ≤ reachBytes := fun m hm => by
    have := List.all_eq_true.1 hsz m (DataW.weights_mem_each (j := 1) (t := 30) rfl rfl m hm)
    simpa using this
  obtain ⟨x1, rfl, w1⟩ := open_ax (hval 1 30 v1 rfl rfl) h1
  have k2 := h2
  have lt2 : ∀ x ∈ p2, x.block < W.heap.size := by obtain ⟨m, hm⟩ := k2; exact DataW.trod_lt m _ _ _ hm
  have z2 : ∀ m ∈ d2.weights Tryd.prog 25, m ≤ reachBytes := fun m hm => by
    have := List.all_eq_true.1 hsz m (DataW.weights_mem_each (j := 2) (t := 25) rfl rfl m hm)
    simpa using this
  obtain ⟨x2, dv2, rfl, w2, dl2⟩ := open_mg (hval 2 25 v2 rfl rfl) h2 z2
  have k3 := h3
  have lt3 : ∀ x ∈ p3, x.block < W.heap.size := by obtain ⟨m, hm⟩ := k3; exact DataW.trod_lt m _ _ _ hm
  have z3 : ∀ m ∈ d3.weights Tryd.prog 32, m ≤ reachBytes := fun m hm => by
    have := List.all_eq_true.1 hsz m (DataW.weights_mem_each (j := 3) (t := 32) rfl rfl m hm)
    simpa using this
  obtain ⟨x3, ov3, dv3, rfl, w3, ol3, dl3⟩ := open_pkt (hval 3 32 v3 rfl rfl) h3 z3
  clear hA0 hval0
  refine (walk x0 x1 x2 dv2 x3 ov3 dv3 W (glob_of hL) w0 w1 w2 dl2 w3 ol3 dl3).mono fun e W' ⟨he, bel⟩ => ?_
  subst he
  exact ⟨_, rfl, _, _, _, [], _, [], hW', trodAll_mk1 (shut_bool Tryd.underlying4 _), (trodAll_cons_mk (Below.trod laidOut (by kernel_rfl) (of_decide_eq_true (by kernel_rfl)) k0 bel lt0) (trodAll_cons_mk (Below.trod laidOut (by kernel_rfl) (of_decide_eq_true (by kernel_rfl)) k1 bel lt1) (trodAll_cons_mk (Below.trod laidOut (by kernel_rfl) (of_decide_eq_true (by kernel_rfl)) k2 bel lt2) (trodAll_cons_mk (Below.trod laidOut (by kernel_rfl) (of_decide_eq_true (by kernel_rfl)) k3 bel lt3) trodAll_mk0)))), rfl, bel.frame _, fun h => by cases h⟩
theorem laid_met (os : Os) : laidMet Tryd.prog Rows.icmpMemoryRow.laid ((laidWorld Tryd.prog os).forCall (fun _ _ => 0) ⟨#[], #[.agg (csA 0 z16), .agg (csA 0 z16), .agg (csM zeroMg (.slice none 0 0)), .agg (csP zeroPk (.slice none 0 0) (.slice none 0 0))], []⟩).memory :=
  laidMet_of_run' 8 (by kernel_rfl) (by kernel_rfl)
theorem reads (os : Os) {H : Type} (enc : TypeId × Value → H) : ∃ places, DataW.whole enc Tryd.prog ((laidWorld Tryd.prog os).forCall (fun _ _ => 0) ⟨#[], #[.agg (csA 0 z16), .agg (csA 0 z16), .agg (csM zeroMg (.slice none 0 0)), .agg (csP zeroPk (.slice none 0 0) (.slice none 0 0))], []⟩).memory Tryd.f4.params.toList Rows.icmpMemorySpec.vars false #[.agg (csA 0 z16), .agg (csA 0 z16), .agg (csM zeroMg (.slice none 0 0)), .agg (csP zeroPk (.slice none 0 0) (.slice none 0 0))].toList 8 = some ([.agg [.lit (.int .i64 0), .agg [.lit (.int .u8 0), .lit (.int .u8 0), .lit (.int .u8 0), .lit (.int .u8 0), .lit (.int .u8 0), .lit (.int .u8 0), .lit (.int .u8 0), .lit (.int .u8 0), .lit (.int .u8 0), .lit (.int .u8 0), .lit (.int .u8 0), .lit (.int .u8 0), .lit (.int .u8 0), .lit (.int .u8 0), .lit (.int .u8 0), .lit (.int .u8 0)]], .agg [.lit (.int .i64 0), .agg [.lit (.int .u8 0), .lit (.int .u8 0), .lit (.int .u8 0), .lit (.int .u8 0), .lit (.int .u8 0), .lit (.int .u8 0), .lit (.int .u8 0), .lit (.int .u8 0), .lit (.int .u8 0), .lit (.int .u8 0), .lit (.int .u8 0), .lit (.int .u8 0), .lit (.int .u8 0), .lit (.int .u8 0), .lit (.int .u8 0), .lit (.int .u8 0)]], .agg [.lit (.int .i64 0), .lit (.int .i64 0), .lit (.int .i64 0), .lit (.int .u32 0), .nil], .agg [.lit (.int .i64 0), .lit (.int .i64 0), .lit (.int .i64 0), .agg [.lit (.int .i64 0), .agg [.lit (.int .u8 0), .lit (.int .u8 0), .lit (.int .u8 0), .lit (.int .u8 0), .lit (.int .u8 0), .lit (.int .u8 0), .lit (.int .u8 0), .lit (.int .u8 0), .lit (.int .u8 0), .lit (.int .u8 0), .lit (.int .u8 0), .lit (.int .u8 0), .lit (.int .u8 0), .lit (.int .u8 0), .lit (.int .u8 0), .lit (.int .u8 0)]], .agg [.lit (.int .i64 0), .agg [.lit (.int .u8 0), .lit (.int .u8 0), .lit (.int .u8 0), .lit (.int .u8 0), .lit (.int .u8 0), .lit (.int .u8 0), .lit (.int .u8 0), .lit (.int .u8 0), .lit (.int .u8 0), .lit (.int .u8 0), .lit (.int .u8 0), .lit (.int .u8 0), .lit (.int .u8 0), .lit (.int .u8 0), .lit (.int .u8 0), .lit (.int .u8 0)]], .lit (.int .i64 0), .lit (.int .i64 0), .lit (.int .u32 0), .lit (.bool false), .lit (.bool false), .lit (.bool false), .lit (.int .i64 0), .nil, .nil]], [], places) :=
  ⟨[], by kernel_rfl⟩
theorem lifted (os : Os) (started : os.Started) (H : Type) (enc : TypeId × Value → H) (F : Stop.Interp) :
    ReturnsInHanded {} Tryd.checked os 4 .any ((OpenSpec.ofChange Rows.icmpMemorySpec).preRow enc Tryd.prog Tryd.f4 Rows.icmpMemoryRow.domain false Rows.icmpMemoryRow.laid) (((OpenSpec.ofChange Rows.icmpMemorySpec).at F).post enc Tryd.prog Tryd.f4 false true false false) := by
  obtain ⟨places, hx⟩ := reads os enc
  refine returnsInHanded_of_row (C := Tryd.checked) (s := OpenSpec.ofChange Rows.icmpMemorySpec) ownKn started (by kernel_rfl) Tryd.func4
    (witness_row_at (enc := enc) (C := Tryd.checked) false (laidWorld Tryd.prog os) #[.agg (csA 0 z16), .agg (csA 0 z16), .agg (csM zeroMg (.slice none 0 0)), .agg (csP zeroPk (.slice none 0 0) (.slice none 0 0))] rfl (by kernel_rfl) (by kernel_rfl) (by kernel_rfl)
      (OpenSpec.preRow_of_cond 8 hx (by kernel_rfl) (fun k hk => by cases hk) (by kernel_rfl) (laid_met os))) ?_
  intro W base args ds gs before hval hW _ hcond hsz hL hS _
  exact contract H enc W base args ds gs before hval hW hsz hL
theorem said : Rows.IcmpMemorySaid :=
  OpenClaim.holds_of_cond 4 Tryd.f4 rfl rfl rfl rfl rfl rfl rfl ⟨rfl, rfl, rfl, rfl, rfl⟩ rfl rfl rfl rfl rfl (by kernel_rfl) Tryd.func4 (by kernel_rfl)
    (of_decide_eq_true (by kernel_rfl)) (by unfold Func.isWrapper; first | (rw [if_pos (by decide +kernel)]; kernel_rfl) | (rw [if_neg (by decide +kernel)]; exact ⟨rfl, rfl⟩))
    (fun os started H enc _ F => by rw [OpenClaim.pre_eq_preRow]; exact lifted os started H enc F)
theorem plain (f : FuncId) (fn : Func) (hf : Tryd.pinned.checked.prog.funcNamed "mosaic/mosaiclaw08.IcmpMemory" = some f) (hfn : Tryd.pinned.checked.prog.funcs[f]? = some fn) :
    false = Tryd.pinned.checked.prog.looks [] ∧ ∀ (j : Nat) t, fn.params[j]? = some t → Tryd.pinned.checked.prog.wantsStandIn t = false := by
  obtain rfl : f = 4 := Option.some.inj ((show Tryd.prog.funcNamed "mosaic/mosaiclaw08.IcmpMemory" = some 4 by kernel_rfl).symm.trans hf) |>.symm
  obtain rfl : fn = Tryd.f4 := (Option.some.inj (Tryd.func4.symm.trans hfn)).symm
  refine ⟨by kernel_rfl, fun j t ht => ?_⟩
  rw [Tryd.params4] at ht
  have hm := Array.mem_of_getElem? ht
  simp only [List.mem_toArray, List.mem_cons, List.not_mem_nil, or_false] at hm
  have h25 : Tryd.prog.wantsStandIn 25 = false := by kernel_rfl
  have h23 : Tryd.prog.wantsStandIn 23 = false := by kernel_rfl
  have h3 : Tryd.prog.wantsStandIn 3 = false := by kernel_rfl
  have h30 : Tryd.prog.wantsStandIn 30 = false := by kernel_rfl
  have h32 : Tryd.prog.wantsStandIn 32 = false := by kernel_rfl
  rcases hm with rfl | rfl | rfl | rfl
  all_goals first | exact h25 | exact h23 | exact h3 | exact h30 | exact h32
theorem card : Rows.IcmpMemoryCardSaid :=
  Claim7.holds_tied_plain_at .later [] _ _ _ _ said (fun _ h => by cases h) (by kernel_rfl) (fun _ h => by cases h) icmpMemory_row_tie rfl ⟨rfl, rfl⟩ (by kernel_rfl) rfl plain (by kernel_rfl)
end icmpMemory
theorem icmpMemory_holds : Rows.IcmpMemoryCardSaid := icmpMemory.card
#print axioms icmpMemory_holds
end Go.Proofs.YtbgpjhekohabiaaDoor
