/-
  UdpBack: every datagram that may be is laid, read as it was, and laid again as it stood.
-/
import Derived.Test.YtbfpphoiapggnaaLw
import Derived.Test.YtbfpphoiapggnaaAdm
import Derived.Test.YtbfpphoiapggnaaKit
import Derived.Deep.CondSized
namespace Go.Proofs.Ytbfpphoiapggnaa
open Go.ChangeShapes Go.WideShapes Go.ChangeAt Go.RowKit Go.Deep Num
set_option linter.unusedVariables false
set_option maxHeartbeats 8000000
set_option maxRecDepth 100000

theorem out_get {s t : Ax} (hs : WfA s) (ht : WfA t) {g : Dg} (h : Fit s.v g) : 256 * (outP s t g)[4]?.getD 0 + (outP s t g)[5]?.getD 0 = 8 + (g.d.length : Int) ∧
    (g.ns = true → (outP s t g)[6]?.getD 0 = 0 ∧ (outP s t g)[7]?.getD 0 = 0) ∧ (g.ns = false → ((outP s t g)[6]?.getD 0 ≠ 0 ∨ (outP s t g)[7]?.getD 0 ≠ 0) ∧ ckP s t (outP s t g) = 65535) := by
  have hr := room_bd s.v
  have hn := h.n
  have hrb := raw_bytes h
  have hrl := raw_len g
  have hsm := sm_bd hs ht hrb (by omega)
  by_cases hns : g.ns = true
  · have e : outP s t g = rawP g := by unfold outP; rw [if_pos hns]
    rw [e]
    obtain ⟨g0, g1, g2, g3, g4, g5, g6, g7⟩ := raw_get g
    exact ⟨wd_sum _ _ _ g4 g5, fun _ => ⟨g6, g7⟩, fun h => by rw [hns] at h; simp at h⟩
  · have e : outP s t g = layP s t g := by unfold outP; rw [if_neg hns]
    rw [e]
    obtain ⟨g0, g1, g2, g3, g4, g5, g6, g7⟩ := lay_get s t g
    refine ⟨wd_sum _ _ _ g4 g5, fun h => absurd h hns, fun _ => ⟨?_, ?_⟩⟩
    · rw [g6, g7]; omega
    · have hll := lay_len s t g
      exact (ck_iff hs ht (lay_bytes hs ht h) hrb (by omega) (by omega) _ (ws_lay g) (by omega) (by omega)).2 rfl
namespace udpBack
theorem walk (s0 t0 : Ax) (g0 : Dg) (dv : Value) (six : Bool) (W : World) (hs0 : WfA s0) (ht0 : WfA t0) (hg : Dat W g0 dv) (hgl : g0.d.length ≤ 140737488351232) :
    Calls Try.prog 5 #[.agg (csA s0.v s0.l), .agg (csA t0.v t0.l), .agg (csD g0 dv), .bool six] W fun e W' => e = .returned (.bool true) ∧ Below W.heap.size W W' := by
  have HS0 := Lib.hid hs0; have HT0 := Lib.hid ht0
  have HG := Lib.hid hg
  have HA : Hid (Away [] W W) := Away.refl _ _
  obtain ⟨s, hs⟩ : ∃ s, s = adrP s0 six := ⟨_, rfl⟩
  obtain ⟨t, ht⟩ : ∃ t, t = adrP t0 six := ⟨_, rfl⟩
  obtain ⟨g, hq⟩ : ∃ g, g = fitD g0 six := ⟨_, rfl⟩
  have HS : Hid (WfA s) := by rw [hs]; exact adrP_wf hs0 six
  have HT : Hid (WfA t) := by rw [ht]; exact adrP_wf ht0 six
  have HPR : Hid (pairP s t = true) := by rw [hs, ht]; exact adrP_pair hs0 ht0 six
  have HF : Hid (Fit s.v g) := by rw [hs, hq]; exact fitD_fit hg.wf.d six _ (adrP_v s0 six)
  have KS : Hid (∀ w, Calls Try.prog 17 #[.agg (csA s0.v s0.l), .bool six] w fun e w' => e = .returned (.agg (csA s.v s.l)) ∧ Away [] w w') := fun w => by rw [hs]; exact address_c s0 six w hs0
  have KT : Hid (∀ w, Calls Try.prog 17 #[.agg (csA t0.v t0.l), .bool six] w fun e w' => e = .returned (.agg (csA t.v t.l)) ∧ Away [] w w') := fun w => by rw [ht]; exact address_c t0 six w ht0
  have KG : Hid (∀ w, Dat w g0 dv → Calls Try.prog 18 #[.agg (csD g0 dv), .bool six] w fun E w' => DgOut w g E w') := fun w h => by rw [hq]; exact dgram_c g0 dv six w h
  have HW := Lib.hid (fit_wfd HF.out)
  have HBE : Hid (buildP s t g = (outP s t g, 0)) := build_ok HPR.out HF.out
  have HPE : Hid (parseP s t (outP s t g) = (g, 0)) := parse_out HS.out HT.out HPR.out HF.out
  obtain ⟨k45, kns, kck⟩ := out_get HS.out HT.out HF.out
  have HOB := Lib.hid (out_bytes HS.out HT.out HF.out)
  have HOL := Lib.hid (out_len s t g)
  have hrm := room_bd s.v
  have hdl := HF.out.n
  have hol : (outP s t g).length ≤ 65535 := by have := HOL.out; omega
  have hol8 : 8 ≤ (outP s t g).length := by have := HOL.out; omega
  have hgd : g.d.length ≤ 65535 := by omega
  have HPS : Hid (psP s t 17 (outP s t g).length = (pt (psb s t 17 (outP s t g).length), 0)) := psP_ok HPR.out (by omega) (by omega)
  have hpb := pt_bd (wlen HS.out HT.out hol)
  have hqb := pt_bd HOB.out
  obtain ⟨p0, p1⟩ := hpb
  obtain ⟨q0, q1⟩ := hqb
  have HCK : Hid (g.ns = false → add (pt (psb s t 17 (outP s t g).length)) (pt (outP s t g)) = 65535) := fun h => (kck h).2
  have HNZ : Hid (g.ns = false → ((outP s t g)[6]?.getD 0 ≠ 0 ∨ (outP s t g)[7]?.getD 0 ≠ 0)) := fun h => (kck h).1
  have HZE := Lib.hid kns
  have H45 := Lib.hid k45
  have B4 := HOB.out.getD 4; have B5 := HOB.out.getD 5; have B6 := HOB.out.getD 6; have B7 := HOB.out.getD 7
  clear hs ht hq hs0 ht0 hg k45 kns kck hrm hdl
  generalize outP s t g = b at *
  generalize pt (psb s t 17 b.length) = x at *
  go_enter Try.func5, Try.ntmps5
  go_wp2_with (refine wpList_box24 rfl _ rfl s0 rfl ?_; refine Hid.out ?_)
  refine Lib.hid ?_
  intro g4 w1 hg_g4 hb haw
  replace HA := Lib.hid (HA.out.on haw)
  clear haw
  have H4 := Lib.hid hb
  have hl_g4 := hb.lt
  clear hb
  go_wp2_with (refine wpList_box24 rfl _ rfl t0 rfl ?_; refine Hid.out ?_)
  refine Lib.hid ?_
  intro g5 w2 hg_g5 hb haw
  replace HA := Lib.hid (HA.out.on haw)
  replace H4 := Lib.hid (H4.out.on haw)
  clear haw
  have H5 := Lib.hid hb
  have hl_g5 := hb.lt
  clear hb
  go_wp2_with (refine wpList_boxD rfl _ rfl g0 dv rfl ?_; refine Hid.out ?_)
  refine Lib.hid ?_
  intro g6 w3 hg_g6 hb haw
  replace HA := Lib.hid (HA.out.on haw)
  replace H4 := Lib.hid (H4.out.on haw)
  replace H5 := Lib.hid (H5.out.on haw)
  clear haw
  have H6 := Lib.hid hb
  have hl_g6 := hb.lt
  clear hb
  have hsz := HA.out.size
  go_wp2_with (first | (refine wpList_loadX rfl _ rfl g4 rfl s0 (by exact H4.out) HS0.out ?_))
  refine (KS.out _).mono ?_
  rintro E w4 ⟨rfl, haw⟩
  replace HA := Lib.hid (HA.out.on haw)
  replace H4 := Lib.hid (H4.out.on haw)
  replace H5 := Lib.hid (H5.out.on haw)
  replace H6 := Lib.hid (H6.out.on haw)
  clear haw
  go_wp2_with (refine wpList_storeX rfl _ _ rfl g4 rfl s rfl s0 (by exact H4.out) HS.out.n HS0.out.n ?_; refine Hid.out ?_)
  refine Lib.hid ?_
  intro w5 hb haw
  replace H5 := Lib.hid (H5.out.away haw (by simp; omega))
  replace H6 := Lib.hid (H6.out.away haw (by simp; omega))
  replace HA := Lib.hid (HA.out.next haw (fun x hx => .inr (by simp at hx; omega)))
  replace H4 := Lib.hid hb
  clear hb haw
  go_wp2_with (first | (refine wpList_loadX rfl _ rfl g5 rfl t0 (by exact H5.out) HT0.out ?_))
  refine (KT.out _).mono ?_
  rintro E w6 ⟨rfl, haw⟩
  replace HA := Lib.hid (HA.out.on haw)
  replace H4 := Lib.hid (H4.out.on haw)
  replace H5 := Lib.hid (H5.out.on haw)
  replace H6 := Lib.hid (H6.out.on haw)
  clear haw
  go_wp2_with (refine wpList_storeX rfl _ _ rfl g5 rfl t rfl t0 (by exact H5.out) HT.out.n HT0.out.n ?_; refine Hid.out ?_)
  refine Lib.hid ?_
  intro w7 hb haw
  replace H4 := Lib.hid (H4.out.away haw (by simp; omega))
  replace H6 := Lib.hid (H6.out.away haw (by simp; omega))
  replace HA := Lib.hid (HA.out.next haw (fun x hx => .inr (by simp at hx; omega)))
  replace H5 := Lib.hid hb
  clear hb haw
  go_wp2_with (first | (refine wpList_loadD rfl _ rfl g6 rfl g0 _ (by exact H6.out) ?_))
  refine (KG.out _ (by exact HG.out.on HA.out)).mono ?_
  rintro E w8 ⟨gv, rfl, hsl, haw⟩
  have HD := Lib.hid (hsl.on haw)
  have hg1 := hsl.one
  replace HA := Lib.hid (HA.out.on haw)
  replace H4 := Lib.hid (H4.out.on haw)
  replace H5 := Lib.hid (H5.out.on haw)
  replace H6 := Lib.hid (H6.out.on haw)
  clear haw
  clear hsl
  clear H6
  obtain ⟨ga, gc, hgv, hg2, hg3, -⟩ := HD.out
  subst hgv
  go_wp2_with (refine wpList_newD rfl rfl rfl _ _ rfl g (.slice ga g.d.length gc) (fun _ => rfl) (fun _ => rfl) rfl ?_; refine Hid.out ?_)
  refine Lib.hid ?_
  intro g9 w9 hg_g9 hb haw
  replace HA := Lib.hid (HA.out.on haw)
  replace H4 := Lib.hid (H4.out.on haw)
  replace H5 := Lib.hid (H5.out.on haw)
  replace HD := Lib.hid (HD.out.on haw)
  clear haw
  have H9 := Lib.hid hb
  have hl_g9 := hb.lt
  clear hb
  go_wp2_with (first | (refine wpList_loadX rfl _ rfl g4 rfl s (by exact H4.out) HS.out ?_) | (refine wpList_loadX rfl _ rfl g5 rfl t (by exact H5.out) HT.out ?_) | (refine wpList_loadD rfl _ rfl g9 rfl g _ (by exact H9.out) ?_))
  refine (build_c s t g _ _ HS.out HT.out ⟨HW.out, by exact HD.out⟩).mono ?_
  rw [HBE.out]
  rintro E w10 ⟨bv, rfl, hown, hnew, haw⟩
  have hs_bv := haw.size
  replace HA := Lib.hid (HA.out.on haw)
  replace H4 := Lib.hid (H4.out.on haw)
  replace H5 := Lib.hid (H5.out.on haw)
  replace HD := Lib.hid (HD.out.on haw)
  replace H9 := Lib.hid (H9.out.on haw)
  clear haw
  have HO := Lib.hid hown
  have hn_bv := Lib.hid hnew
  clear hown hnew
  obtain ⟨gb, bc, hbv, hbc⟩ := HO.out.block (fun e => by have e2 := HOL.out; rw [show b = [] from e] at e2; simp at e2; omega)
  rw [show ((b, (0 : Int)).1) = b from rfl] at hbv hbc HO
  subst hbv
  go_wp2_with (first | (refine wpList_loadX rfl _ rfl g4 rfl s (by exact H4.out) HS.out ?_) | (refine wpList_loadX rfl _ rfl g5 rfl t (by exact H5.out) HT.out ?_) | (refine wpList_loadD rfl _ rfl g9 rfl g _ (by exact H9.out) ?_))
  refine (parse_c s t (some ⟨gb, 0, none⟩) b bc _ HS.out HT.out (by exact HO.out.row' (by omega) HOB.out) hbc (by simp)).mono ?_
  rw [HPE.out]
  rintro E w11 ⟨cv, rfl, hown, hnew, haw⟩
  have hs_cv := haw.size
  replace HA := Lib.hid (HA.out.on haw)
  replace H4 := Lib.hid (H4.out.on haw)
  replace H5 := Lib.hid (H5.out.on haw)
  replace HD := Lib.hid (HD.out.on haw)
  replace H9 := Lib.hid (H9.out.on haw)
  replace HO := Lib.hid (HO.out.on haw)
  clear haw
  have HC := Lib.hid hown
  have hn_cv := Lib.hid hnew
  clear hown hnew
  obtain ⟨ca, cc, hcv, hcn, hcc⟩ := HC.out.slc
  subst hcv
  go_wp2_with (refine wpList_newD rfl rfl rfl _ _ rfl g (.slice ca g.d.length cc) (fun _ => rfl) (fun _ => rfl) rfl ?_; refine Hid.out ?_)
  refine Lib.hid ?_
  intro g12 w12 hg_g12 hb haw
  replace HA := Lib.hid (HA.out.on haw)
  replace H4 := Lib.hid (H4.out.on haw)
  replace H5 := Lib.hid (H5.out.on haw)
  replace HD := Lib.hid (HD.out.on haw)
  replace H9 := Lib.hid (H9.out.on haw)
  replace HO := Lib.hid (HO.out.on haw)
  replace HC := Lib.hid (HC.out.on haw)
  clear haw
  have H12 := Lib.hid hb
  have hl_g12 := hb.lt
  clear hb
  go_wp2_with (first | (refine wpList_loadX rfl _ rfl g4 rfl s (by exact H4.out) HS.out ?_) | (refine wpList_loadX rfl _ rfl g5 rfl t (by exact H5.out) HT.out ?_) | (refine wpList_loadD rfl _ rfl g9 rfl g _ (by exact H9.out) ?_) | (refine wpList_loadD rfl _ rfl g12 rfl g _ (by exact H12.out) ?_))
  refine (build_c s t g _ _ HS.out HT.out ⟨HW.out, by exact HC.out.sl HW.out.d HW.out.dn⟩).mono ?_
  rw [HBE.out]
  rintro E w13 ⟨av, rfl, hown, hnew, haw⟩
  have hs_av := haw.size
  replace HA := Lib.hid (HA.out.on haw)
  replace H4 := Lib.hid (H4.out.on haw)
  replace H5 := Lib.hid (H5.out.on haw)
  replace HD := Lib.hid (HD.out.on haw)
  replace H9 := Lib.hid (H9.out.on haw)
  replace HO := Lib.hid (HO.out.on haw)
  replace HC := Lib.hid (HC.out.on haw)
  replace H12 := Lib.hid (H12.out.on haw)
  clear haw
  have HN := Lib.hid hown
  have hn_av := Lib.hid hnew
  clear hown hnew
  obtain ⟨aa, ac, hav, han, hac⟩ := HN.out.slc
  subst hav
  go_wp2_with fail
  refine (known_c _).mono ?_
  rintro E w14 ⟨rfl, haw⟩
  replace HA := Lib.hid (HA.out.on haw)
  replace H4 := Lib.hid (H4.out.on haw)
  replace H5 := Lib.hid (H5.out.on haw)
  replace HD := Lib.hid (HD.out.on haw)
  replace H9 := Lib.hid (H9.out.on haw)
  replace HO := Lib.hid (HO.out.on haw)
  replace HC := Lib.hid (HC.out.on haw)
  replace H12 := Lib.hid (H12.out.on haw)
  replace HN := Lib.hid (HN.out.on haw)
  clear haw
  go_wp2_with (first | (refine wpList_loadX rfl _ rfl g4 rfl s (by exact H4.out) HS.out ?_) | (refine wpList_loadX rfl _ rfl g5 rfl t (by exact H5.out) HT.out ?_) | (refine wpList_loadD rfl _ rfl g9 rfl g _ (by exact H9.out) ?_) | (refine wpList_loadD rfl _ rfl g12 rfl g _ (by exact H12.out) ?_))
  refine (sameD_yes g _ _ _ (by exact HC.out.sl HW.out.d HW.out.dn) (by exact HD.out)).mono ?_
  rintro E w15 ⟨rfl, haw⟩
  replace HA := Lib.hid (HA.out.on haw)
  replace H4 := Lib.hid (H4.out.on haw)
  replace H5 := Lib.hid (H5.out.on haw)
  replace HD := Lib.hid (HD.out.on haw)
  replace H9 := Lib.hid (H9.out.on haw)
  replace HO := Lib.hid (HO.out.on haw)
  replace HC := Lib.hid (HC.out.on haw)
  replace H12 := Lib.hid (H12.out.on haw)
  replace HN := Lib.hid (HN.out.on haw)
  clear haw
  go_wp2_with fail
  refine (same_yes aa (some ⟨gb, 0, none⟩) b _ _ ac bc _ rfl rfl (by exact HN.out.row' (by omega) HOB.out) (by exact HO.out.row' (by omega) HOB.out)).mono ?_
  rintro E w16 ⟨rfl, haw⟩
  replace HA := Lib.hid (HA.out.on haw)
  replace H4 := Lib.hid (H4.out.on haw)
  replace H5 := Lib.hid (H5.out.on haw)
  replace HD := Lib.hid (HD.out.on haw)
  replace H9 := Lib.hid (H9.out.on haw)
  replace HO := Lib.hid (HO.out.on haw)
  replace HC := Lib.hid (HC.out.on haw)
  replace H12 := Lib.hid (H12.out.on haw)
  replace HN := Lib.hid (HN.out.on haw)
  clear haw
  have c3 := H9.out.c3
  have hlen : (b.length : Int) = 8 + (g.d.length : Int) := by have := HOL.out; omega
  have hq8 : ((b.length : Int) != 8 + (g.d.length : Int)) = false := by simpa using hlen
  have HLEN := Lib.hid hlen
  clear hlen
  go_wp2_with (first | (refine wpList_loadX rfl _ rfl g4 rfl s (by exact H4.out) HS.out ?_) | (refine wpList_loadX rfl _ rfl g5 rfl t (by exact H5.out) HT.out ?_) | (refine wpList_loadD rfl _ rfl g9 rfl g _ (by exact H9.out) ?_))
  refine (pseudo_c s t 17 b.length _ HS.out HT.out).mono ?_
  rw [HPS.out]
  rintro E w17 ⟨rfl, haw⟩
  replace HA := Lib.hid (HA.out.on haw)
  replace H4 := Lib.hid (H4.out.on haw)
  replace H5 := Lib.hid (H5.out.on haw)
  replace HD := Lib.hid (HD.out.on haw)
  replace H9 := Lib.hid (H9.out.on haw)
  replace HO := Lib.hid (HO.out.on haw)
  replace HC := Lib.hid (HC.out.on haw)
  replace H12 := Lib.hid (H12.out.on haw)
  replace HN := Lib.hid (HN.out.on haw)
  clear haw
  clear c3
  obtain ⟨c4, -⟩ := HO.out.cells 4 (by omega)
  obtain ⟨c5, -⟩ := HO.out.cells 5 (by omega)
  have i4 : (4 : Int) < (b.length : Int) := by omega
  have i5 : (5 : Int) < (b.length : Int) := by omega
  have i6 : (6 : Int) < (b.length : Int) := by omega
  have i7 : (7 : Int) < (b.length : Int) := by omega
  have e45 := H45.out
  obtain ⟨b4, hb4⟩ : ∃ x, x = b[4]?.getD 0 := ⟨_, rfl⟩
  obtain ⟨b5, hb5⟩ : ∃ x, x = b[5]?.getD 0 := ⟨_, rfl⟩
  rw [← hb4] at c4 B4 e45
  rw [← hb5] at c5 B5 e45
  have hne : (b4 * 256 + b5 != (b.length : Int)) = false := by have := HLEN.out; simp; omega
  have HE45 := Lib.hid e45
  obtain ⟨b40, b41⟩ := B4
  obtain ⟨b50, b51⟩ := B5
  clear hb4 hb5 e45
  go_upto_region 10 with fail
  go_quiet (fail)
  clear c4 c5
  generalize hwq : World.drewN w17 _ = w18
  have haw : Away [] w17 w18 := by rw [← hwq]; exact (Away.refl [] w17).drewN _
  clear hwq
  replace HA := Lib.hid (HA.out.on haw)
  replace H4 := Lib.hid (H4.out.on haw)
  replace H5 := Lib.hid (H5.out.on haw)
  replace HD := Lib.hid (HD.out.on haw)
  replace H9 := Lib.hid (H9.out.on haw)
  replace HO := Lib.hid (HO.out.on haw)
  replace HC := Lib.hid (HC.out.on haw)
  replace H12 := Lib.hid (H12.out.on haw)
  replace HN := Lib.hid (HN.out.on haw)
  clear haw
  have c2 := H9.out.c2
  obtain ⟨c6, -⟩ := HO.out.cells 6 (by omega)
  obtain ⟨c7, -⟩ := HO.out.cells 7 (by omega)
  have HNZ2 := HNZ; have HZE2 := HZE
  generalize b[6]?.getD 0 = b6 at *
  generalize b[7]?.getD 0 = b7 at *
  obtain ⟨b60, b61⟩ := B6
  obtain ⟨b70, b71⟩ := B7
  generalize hns : g.ns = ns at *
  cases ns
  · have hnz := HNZ.out rfl
    by_cases h6 : b6 = 0
    · have h7 : b7 ≠ 0 := by rcases hnz with h | h; exact absurd h6 h; exact h
      subst h6
      have n7 : (b7 != 0) = true := by simpa using h7
      clear hnz
      go_wp2_with fail
      refine (part_any (some ⟨gb, 0, none⟩) b bc hbc _ (by exact HO.out.row' (by omega) HOB.out)).mono ?_
      rintro E w19 ⟨rfl, k, hk⟩
      have haw : Away [] w18 w19 := by rw [hk]; exact (Away.refl [] w18).drewN k
      clear hk
      replace HA := Lib.hid (HA.out.on haw)
      replace H4 := Lib.hid (H4.out.on haw)
      replace H5 := Lib.hid (H5.out.on haw)
      replace HD := Lib.hid (HD.out.on haw)
      replace H9 := Lib.hid (H9.out.on haw)
      replace HO := Lib.hid (HO.out.on haw)
      replace HC := Lib.hid (HC.out.on haw)
      replace H12 := Lib.hid (H12.out.on haw)
      replace HN := Lib.hid (HN.out.on haw)
      clear haw
      go_wp2_with fail
      refine (add_any x (pt b) p0 p1 q0 q1 _).mono ?_
      rintro E w19 ⟨rfl, rfl⟩
      rw [HCK.out (by first | trivial | rfl)]
      go_wp2_with fail
      go_ret
      exact ⟨rfl, HA.out.to_below⟩
    · have n6 : (b6 != 0) = true := by simpa using h6
      clear hnz
      go_wp2_with fail
      refine (part_any (some ⟨gb, 0, none⟩) b bc hbc _ (by exact HO.out.row' (by omega) HOB.out)).mono ?_
      rintro E w19 ⟨rfl, k, hk⟩
      have haw : Away [] w18 w19 := by rw [hk]; exact (Away.refl [] w18).drewN k
      clear hk
      replace HA := Lib.hid (HA.out.on haw)
      replace H4 := Lib.hid (H4.out.on haw)
      replace H5 := Lib.hid (H5.out.on haw)
      replace HD := Lib.hid (HD.out.on haw)
      replace H9 := Lib.hid (H9.out.on haw)
      replace HO := Lib.hid (HO.out.on haw)
      replace HC := Lib.hid (HC.out.on haw)
      replace H12 := Lib.hid (H12.out.on haw)
      replace HN := Lib.hid (HN.out.on haw)
      clear haw
      go_wp2_with fail
      refine (add_any x (pt b) p0 p1 q0 q1 _).mono ?_
      rintro E w19 ⟨rfl, rfl⟩
      rw [HCK.out (by first | trivial | rfl)]
      go_wp2_with fail
      go_ret
      exact ⟨rfl, HA.out.to_below⟩
  · obtain ⟨h6, h7⟩ := HZE.out rfl
    subst h6
    subst h7
    go_wp2_with fail
    go_ret
    exact ⟨rfl, HA.out.to_below⟩
end udpBack
namespace udpBack
theorem lifted (os : Os) (started : os.Started) (H : Type) (enc : TypeId × Value → H) :
    ReturnsInHanded {} Try.checked os 5 .any (Rows.udpBackSpec.pre6 enc Try.prog Try.f5 Rows.udpBackRow.domain false) (Rows.udpBackSpec.post enc Try.prog Try.f5 false true false false) := by
  refine returnsInHanded_of_change_sized (C := Try.checked) ownKn started (by kernel_rfl) Try.func5
    (ChangeSpec.witness6 (enc := enc) (C := Try.checked) false ⟨#[], #[.agg (csA 0 z16), .agg (csA 0 z16), .agg (csD zeroDg (.slice none 0 0)), .bool false], []⟩ 8 (by kernel_rfl) (by kernel_rfl) (by kernel_rfl) (by kernel_rfl)) ?_
  intro W base args ds gs before hval0 hW _ hsz0 _
  have hsz : (DataW.weightsEach Try.prog (Try.f5.params.toList ++ Rows.udpBackSpec.plain.varTypes Try.prog) (ds ++ gs)).all (· ≤ reachBytes) = true := hsz0
  clear hsz0
  have hval : ∀ (j : Nat) t v, Try.f5.params[j]? = some t → args[j]? = some v → Value.okWide Try.prog W .any base t v := hval0
  have hW' := hW
  obtain ⟨p, q, hA0, hV, rfl, hfz, hnd⟩ := hW
  have hA : DataW.TrodAll enc Try.prog W 0 (fun _ => true) true Try.f5.params.toList args.toList ds p := hA0
  rw [Try.params5] at hA hval hsz
  obtain ⟨v0, vs0, d0, ds0, p0, q0, hargs, rfl, rfl, h0, r0⟩ := trodAll_cons hA
  obtain ⟨v1, vs1, d1, ds1, p1, q1, rfl, rfl, rfl, h1, r1⟩ := trodAll_cons r0
  obtain ⟨v2, vs2, d2, ds2, p2, q2, rfl, rfl, rfl, h2, r2⟩ := trodAll_cons r1
  obtain ⟨v3, vs3, d3, ds3, p3, q3, rfl, rfl, rfl, h3, r3⟩ := trodAll_cons r2
  obtain ⟨rfl, rfl, rfl⟩ := trodAll_nil r3
  obtain rfl : args = #[v0, v1, v2, v3] := by cases args; simp_all
  have hV2 : DataW.TrodVars enc Try.prog W (fun _ => true) Rows.udpBackSpec.vars gs q := hV
  obtain ⟨rfl, rfl⟩ := trodVars_none hV2
  have k0 := h0
  have lt0 : ∀ x ∈ p0, x.block < W.heap.size := by obtain ⟨m, hm⟩ := k0; exact DataW.trod_lt m _ _ _ hm
  have z0 : ∀ m ∈ d0.weights Try.prog 24, m ≤ reachBytes := fun m hm => by
    have := List.all_eq_true.1 hsz m (DataW.weights_mem_each (j := 0) (t := 24) rfl rfl m hm)
    simpa using this
  obtain ⟨x0, rfl, w0⟩ := open_ax (hval 0 24 v0 rfl rfl) h0
  have k1 := h1
  have lt1 : ∀ x ∈ p1, x.block < W.heap.size := by obtain ⟨m, hm⟩ := k1; exact DataW.trod_lt m _ _ _ hm
  have z1 : ∀ m ∈ d1.weights Try.prog 24, m ≤ reachBytes := fun m hm => by
    have := List.all_eq_true.1 hsz m (DataW.weights_mem_each (j := 1) (t := 24) rfl rfl m hm)
    simpa using this
  obtain ⟨x1, rfl, w1⟩ := open_ax (hval 1 24 v1 rfl rfl) h1
  have k2 := h2
  have lt2 : ∀ x ∈ p2, x.block < W.heap.size := by obtain ⟨m, hm⟩ := k2; exact DataW.trod_lt m _ _ _ hm
  have z2 : ∀ m ∈ d2.weights Try.prog 27, m ≤ reachBytes := fun m hm => by
    have := List.all_eq_true.1 hsz m (DataW.weights_mem_each (j := 2) (t := 27) rfl rfl m hm)
    simpa using this
  obtain ⟨x2, dv2, rfl, w2, dl2⟩ := open_dg (hval 2 27 v2 rfl rfl) h2 z2
  obtain ⟨a3, rfl, rfl, rfl⟩ := open_bool Try.underlying4 (hval 3 4 v3 rfl rfl) h3
  clear hA0 hval0
  refine (walk x0 x1 x2 dv2 a3 W w0 w1 w2 dl2).mono fun e W' ⟨he, bel⟩ => ?_
  subst he
  exact ⟨_, rfl, _, _, _, [], _, [], hW', trodAll_mk1 (shut_bool Try.underlying4 _), (trodAll_cons_mk (Below.trod laidOut (by kernel_rfl) (of_decide_eq_true (by kernel_rfl)) k0 bel lt0) (trodAll_cons_mk (Below.trod laidOut (by kernel_rfl) (of_decide_eq_true (by kernel_rfl)) k1 bel lt1) (trodAll_cons_mk (Below.trod laidOut (by kernel_rfl) (of_decide_eq_true (by kernel_rfl)) k2 bel lt2) (trodAll_cons_mk (shut_bool Try.underlying4 _) trodAll_mk0)))), rfl, bel.frame _, fun h => by cases h⟩
theorem over : Rows.udpBackRow.holds Try.pinned (OpenSpec.ofChange Rows.udpBackSpec) :=
  OpenClaim.holds_of_wide 5 Try.f5 rfl rfl rfl rfl rfl rfl rfl ⟨rfl, rfl, rfl, rfl, rfl⟩ rfl rfl rfl rfl rfl (by kernel_rfl) Try.func5 (by kernel_rfl)
    (of_decide_eq_true (by kernel_rfl)) (by unfold Func.isWrapper; first | (rw [if_pos (by decide +kernel)]; kernel_rfl) | (rw [if_neg (by decide +kernel)]; exact ⟨rfl, rfl⟩))
    (fun os started H enc _ => lifted os started H enc)
end udpBack
theorem udpBack_holds : Rows.UdpBackSaid := udpBack.over
#print axioms udpBack_holds
end Go.Proofs.Ytbfpphoiapggnaa
