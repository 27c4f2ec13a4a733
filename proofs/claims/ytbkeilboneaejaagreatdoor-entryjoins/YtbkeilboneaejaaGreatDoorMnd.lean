/-
  mended of the laws.
-/
import Derived.Test.YtbkeilboneaejaaGreatDoorMndB
import Derived.Deep.CutBlock
import Derived.Deep.DeepCutAuto
namespace Go.Proofs.YtbkeilboneaejaaGreatDoor
open Go.ChangeShapes Go.WideShapes Go.ChangeAt Go.RowKit Num
set_option linter.unusedVariables false
set_option maxHeartbeats 4000000
set_option maxRecDepth 100000

theorem mended_c (p : Pk) (ov dv : Value) (w : World) (hp : Pkt w p ov dv) :
    Calls Tryz.prog 7 #[.agg (csP p ov dv)] w fun E w' => MendE w E w' := by
  have HAD := Lib.hid hp.wf.ad
  have HW := Lib.hid hp.wf
  have HP := Lib.hid hp
  have hol := hp.wf.ol
  have hdl := hp.wf.dn
  obtain ⟨T, hT⟩ : ∃ T, bits .and .i64 p.tos 255 = T := ⟨_, rfl⟩
  obtain ⟨R, hR⟩ : ∃ T, bits .and .i64 p.proto 255 = T := ⟨_, rfl⟩
  obtain ⟨L, hL⟩ : ∃ T, bits .and .i64 p.ttl 255 = T := ⟨_, rfl⟩
  obtain ⟨I, hI⟩ : ∃ T, bits .and .u32 p.id 65535 = T := ⟨_, rfl⟩
  obtain ⟨F, hF⟩ : ∃ T, bits .and .i64 p.flow 1048575 = T := ⟨_, rfl⟩
  obtain ⟨V, hV⟩ : ∃ T, bits .and .i64 p.v 1 = T := ⟨_, rfl⟩
  have BT := and255 p.tos; have BR := and255 p.proto; have BL := and255 p.ttl; have BI := andid p.id hp.wf.id0 hp.wf.id1; have BF := andF p.flow
  rw [hT] at BT; rw [hR] at BR; rw [hL] at BL; rw [hI] at BI; rw [hF] at BF
  obtain ⟨-, ⟨o1, o2, rfl, -⟩, ⟨o3, o4, rfl, -⟩⟩ := hp
  go_enter Tryz.func7, Tryz.ntmps7
  go_wp2_with (refine wpList_box28 rfl _ rfl p _ _ rfl ?_; refine Hid.out ?_)
  refine Lib.hid ?_
  intro g1 w1 hg1 hb1 haw1
  have HB1 := Lib.hid hb1; have HA1 := Lib.hid haw1
  have hl1 := hb1.lt
  clear hb1 haw1
  go_wp2_with (refine wpList_alloc28 rfl rfl ?_; refine Hid.out ?_)
  refine Lib.hid ?_
  intro g2 w2 hg2 hb2 haw2
  have HB2 := Lib.hid hb2
  have HB12 := Lib.hid (HB1.out.on haw2)
  have HA2 := Lib.hid (HA1.out.next haw2 (by simp))
  have hl2 := hb2.lt
  have hs1 := HA1.out.size; have hs2 := haw2.size
  clear hb2 haw2 HB1 HA1
  have cc := HB12.out.cells HAD.out
  have c1 := cc.tos; have c2 := cc.proto; have c3 := cc.ttl; have c4 := cc.id
  clear cc
  go_wp2_with (first | (refine wpList_alloc28 rfl rfl ?_; refine Hid.out ?_))
  refine Lib.hid ?_
  intro g3 w3 hg3 hb3 haw3
  have HB3 := Lib.hid hb3
  have hl3 := hb3.lt
  have hs3 := haw3.size
  have HB13 := Lib.hid (HB12.out.on haw3)
  have HB23 := Lib.hid (HB2.out.on haw3)
  have HA3 := Lib.hid (HA2.out.next haw3 (by simp))
  clear hb3 haw3 HB12 HB2 HA2 c1 c2 c3 c4
  go_wp2_with (first | (refine wpList_store28 rfl _ _ rfl _ rfl ⟨4, T, 0, 0, z16, 0, z16, R, L, I, false, false, false, 0, [], []⟩ (.slice none 0 0) (.slice none 0 0) rfl zeroPk (.slice none 0 0) (.slice none 0 0) (by exact HB3.out) ⟨rfl, rfl⟩ ⟨rfl, rfl⟩ rfl rfl ?_; refine Hid.out ?_))
  refine Lib.hid ?_
  intro w4 hb4 haw4
  have HM : Hid (MS w w4 g1 g2 g3 p ⟨4, T, 0, 0, z16, 0, z16, R, L, I, false, false, false, 0, [], []⟩ (.slice o1 p.o.length o2) (.slice o3 p.d.length o4) (.slice none 0 0)) :=
    ⟨HB13.out.away haw4 (by simp; omega), HB23.out.away haw4 (by simp; omega), hb4, HA3.out.next haw4 (fun x hx => .inr (by simp at hx; omega)), ⟨rfl, rfl⟩, by omega, by omega, by omega, by omega, by omega, Owns.nil _, New.nil _, by simp [Value.ownBlock]⟩
  clear hb4 haw4 HB13 HB23 HA3 HB3 hg1 hg2 hg3 hl1 hl2 hl3 hs1 hs2 hs3
  have cv := (HM.out.b1.cells HAD.out).v
  have HV := Lib.hid hV
  obtain ⟨b27, hb27⟩ : ∃ b, b = decide (V = 0 ∧ p.v ≠ 4) := ⟨_, rfl⟩
  go_upto_region 2 with fail
  go_cut [27] (fun v wc => v = .bool b27 ∧ wc = w4)
  case first =>
    by_cases h1 : V = 0
    · subst h1
      by_cases h2 : p.v = 4
      · have hbb : b27 = false := by rw [hb27]; simp [h2]
        clear hb27
        subst hbb
        rw [h2] at cv hV
        go_wp2_with fail
        go_meet
        exact ⟨rfl, rfl⟩
      · have hbb : b27 = true := by rw [hb27]; simp [h2]
        clear hb27
        subst hbb
        have hbv : decide (p.v = 4) = false := by simp [h2]
        go_wp2_with fail
        go_meet
        exact ⟨by simp [h2], rfl⟩
    · have hbb : b27 = false := by rw [hb27]; simp [h1]
      clear hb27
      subst hbb
      have hbv : decide (V = 0) = false := by simp [h1]
      go_wp2_with fail
      go_meet
      exact ⟨rfl, rfl⟩
  case rest =>
  obtain ⟨rfl, rfl⟩ := hcut
  clear hb27
  go_upto_if 27 with fail
  go_cut [] (fun wc => ∃ q ou, Half q 3000 ∧ q.d = [] ∧ (q.o = [] ∧ q.df = false) ∧ MS w wc g1 g2 g3 p q (.slice o1 p.o.length o2) (.slice o3 p.d.length o4) ou)
  case first =>
    cases b27
    rotate_left
    · have cc := HM.out.b1.cells HAD.out
      have c1 := cc.tos; have c2 := cc.proto; have c3 := cc.ttl; have c4 := cc.flow
      clear cc
      go_wp2_with (refine wpList_store28 rfl _ _ rfl g3 rfl ⟨6, T, F, 0, z16, 0, z16, R, L, 0, false, false, false, 0, [], []⟩ (.slice none 0 0) (.slice none 0 0) rfl ⟨4, T, 0, 0, z16, 0, z16, R, L, I, false, false, false, 0, [], []⟩ (.slice none 0 0) (.slice none 0 0) (by exact HM.out.b3) ⟨rfl, rfl⟩ ⟨rfl, rfl⟩ rfl rfl ?_; refine Hid.out ?_)
      refine Lib.hid ?_
      intro w5 hb5 haw5
      have HM5 : Hid (MS w w5 g1 g2 g3 p ⟨6, T, F, 0, z16, 0, z16, R, L, 0, false, false, false, 0, [], []⟩ (.slice o1 p.o.length o2) (.slice o3 p.d.length o4) (.slice none 0 0)) :=
        ⟨HM.out.b1.away haw5 (by simp; exact HM.out.e2), HM.out.b2.away haw5 (by simp; exact HM.out.e3), hb5, HM.out.aw.next haw5 (fun x hx => .inr (by simp at hx; have := HM.out.n3; omega)), ⟨rfl, rfl⟩, HM.out.n2, HM.out.n3, HM.out.e1, HM.out.e2, HM.out.e3, Owns.nil _, New.nil _, by simp [Value.ownBlock]⟩
      clear hb5 haw5 HM c1 c2 c3 c4 cv
      have s37 := (HM5.out.b3.cells HM5.out.ad).proto
      have t37 := HM5.out.b3.free 37
      go_upto_if 43 with fail
      go_cut [] (fun wc => ∃ R', R' ≠ 44 ∧ 0 ≤ R' ∧ R' ≤ 255 ∧ MS w wc g1 g2 g3 p ⟨6, T, F, 0, z16, 0, z16, R', L, 0, false, false, false, 0, [], []⟩ (.slice o1 p.o.length o2) (.slice o3 p.d.length o4) (.slice none 0 0))
      case first =>
        by_cases h44 : R = 44
        · subst h44
          have HM6 := Lib.hid (HM5.out.put 37 (.int .i64 45) ((csP_set HM5.out.ad _ _).2.2.2.2.2.1 45) ⟨rfl, rfl⟩ rfl)
          go_wp2_with fail
          go_meet
          exact ⟨45, by omega, by omega, by omega, HM6.out⟩
        · have hb44 : decide (R = 44) = false := by simp [h44]
          go_wp2_with fail
          go_meet
          exact ⟨R, h44, BR.1, BR.2, HM5.out⟩
      case rest =>
      obtain ⟨R', h44, r0, r1, hm6⟩ := hcut
      have HM6 := Lib.hid hm6
      clear hm6 HM5 s37 t37
      have hls : (p.sb.map (Value.int .u8)).length = 16 := by rw [List.length_map]; exact HAD.out.1
      have hld : (p.db.map (Value.int .u8)).length = 16 := by rw [List.length_map]; exact HAD.out.2
      have HLS := Lib.hid hls; have HLD := Lib.hid hld
      clear hls hld
      have HONE : Hid (∀ l : List Int, ((l.map (Value.int .u8)).toArray).all (·.oneCell') = true) := fun l => all_oneCell_toArray (fun v hv => by obtain ⟨n, _, rfl⟩ := List.mem_map.1 hv; rfl)
      go_wp2_with (first
        | (refine wpList_load_mid rfl 22 _ rfl g1 4 rfl (p.sb.map (Value.int .u8)) _ HM6.out.b1.sb22 Tryz.underlying22 rfl (by rw [HLS.out]; exact info22s) ?_)
        | (refine wpList_store_mid rfl 22 _ _ rfl g3 4 (p.sb.map (Value.int .u8)).toArray rfl rfl (by rw [List.size_toArray, HLS.out]; exact HM6.out.b3.there HM6.out.ad 4 (by omega)) (by rw [List.size_toArray, HLS.out]; exact info22s) (HONE.out _) ?_; refine Hid.out ?_))
      refine Lib.hid ?_
      have HM7 := Lib.hid (HM6.out.sball p.sb HAD.out.1)
      generalize wc.setCells g3 4 (p.sb.map (Value.int .u8)) = w7 at *
      clear HM6
      go_wp2_with (first
        | (refine wpList_load_mid rfl 22 _ rfl g1 21 rfl (p.db.map (Value.int .u8)) _ (HM7.out.b1.db22 HAD.out) Tryz.underlying22 rfl (by rw [HLD.out]; exact info22s) ?_)
        | (refine wpList_store_mid rfl 22 _ _ rfl g3 21 (p.db.map (Value.int .u8)).toArray rfl rfl (by rw [List.size_toArray, HLD.out]; exact HM7.out.b3.there HM7.out.ad 21 (by omega)) (by rw [List.size_toArray, HLD.out]; exact info22s) (HONE.out _) ?_; refine Hid.out ?_))
      refine Lib.hid ?_
      have HM8 := Lib.hid (HM7.out.dball p.db HAD.out.2)
      generalize w7.setCells g3 21 (p.db.map (Value.int .u8)) = w8 at *
      clear HM7
      go_wp2_with fail
      go_meet
      exact ⟨_, _, (half6 HW.out BT BF ⟨r0, r1⟩ h44 BL).le (by omega) (by omega), rfl, ⟨rfl, rfl⟩, HM8.out⟩
    · clear cv
      go_wp2_with fail
      go_loopw [4] (fun i wr => ∃ k : Nat, k ≤ 4 ∧ i = .int .i64 k ∧ MS w wr g1 g2 g3 p ⟨4, T, 0, 0, stB p.sb k, 0, stB p.db k, R, L, I, false, false, false, 0, [], []⟩ (.slice o1 p.o.length o2) (.slice o3 p.d.length o4) (.slice none 0 0)) (fun i _ => 4 - (intOf i).toNat)
      case atStart => exact ⟨0, by omega, rfl, HM.out⟩
      case round =>
        obtain ⟨k, hk, rfl, hm⟩ := hrel
        have HM := Lib.hid hm
        clear hm
        obtain rfl | rfl | rfl | rfl | rfl : k = 0 ∨ k = 1 ∨ k = 2 ∨ k = 3 ∨ k = 4 := by omega
        · obtain ⟨x, a1, a2, a3, hm'⟩ := HM.out.sby HAD.out 0 (by omega) rfl
          simp only [Nat.reduceAdd] at a1 a2 a3 hm'
          have HM' := Lib.hid hm'
          clear hm' HM
          go_upto_region 12 with fail
          clear a1 a2 a3
          generalize wr.setCell ⟨g3, 4, none⟩ (.int .u8 x) = wy at *
          obtain ⟨y, a1, a2, a3, hm'⟩ := HM'.out.dby HAD.out 0 (by omega) rfl
          simp only [Nat.reduceAdd] at a1 a2 a3 hm'
          have HM := Lib.hid hm'
          clear hm' HM'
          go_wp2_with fail
          go_roundw
          case rel => exact ⟨1, by omega, by rfl, HM.out⟩
          case measure => simp [intOf]
        · obtain ⟨x, a1, a2, a3, hm'⟩ := HM.out.sby HAD.out 1 (by omega) rfl
          simp only [Nat.reduceAdd] at a1 a2 a3 hm'
          have HM' := Lib.hid hm'
          clear hm' HM
          go_upto_region 12 with fail
          clear a1 a2 a3
          generalize wr.setCell ⟨g3, 5, none⟩ (.int .u8 x) = wy at *
          obtain ⟨y, a1, a2, a3, hm'⟩ := HM'.out.dby HAD.out 1 (by omega) rfl
          simp only [Nat.reduceAdd] at a1 a2 a3 hm'
          have HM := Lib.hid hm'
          clear hm' HM'
          go_wp2_with fail
          go_roundw
          case rel => exact ⟨2, by omega, by rfl, HM.out⟩
          case measure => simp [intOf]
        · obtain ⟨x, a1, a2, a3, hm'⟩ := HM.out.sby HAD.out 2 (by omega) rfl
          simp only [Nat.reduceAdd] at a1 a2 a3 hm'
          have HM' := Lib.hid hm'
          clear hm' HM
          go_upto_region 12 with fail
          clear a1 a2 a3
          generalize wr.setCell ⟨g3, 6, none⟩ (.int .u8 x) = wy at *
          obtain ⟨y, a1, a2, a3, hm'⟩ := HM'.out.dby HAD.out 2 (by omega) rfl
          simp only [Nat.reduceAdd] at a1 a2 a3 hm'
          have HM := Lib.hid hm'
          clear hm' HM'
          go_wp2_with fail
          go_roundw
          case rel => exact ⟨3, by omega, by rfl, HM.out⟩
          case measure => simp [intOf]
        · obtain ⟨x, a1, a2, a3, hm'⟩ := HM.out.sby HAD.out 3 (by omega) rfl
          simp only [Nat.reduceAdd] at a1 a2 a3 hm'
          have HM' := Lib.hid hm'
          clear hm' HM
          go_upto_region 12 with fail
          clear a1 a2 a3
          generalize wr.setCell ⟨g3, 7, none⟩ (.int .u8 x) = wy at *
          obtain ⟨y, a1, a2, a3, hm'⟩ := HM'.out.dby HAD.out 3 (by omega) rfl
          simp only [Nat.reduceAdd] at a1 a2 a3 hm'
          have HM := Lib.hid hm'
          clear hm' HM'
          go_wp2_with fail
          go_roundw
          case rel => exact ⟨4, by omega, by rfl, HM.out⟩
          case measure => simp [intOf]
        · go_wp2_with fail
          go_meet
          exact ⟨_, _, (half4 HW.out BT BR BL BI false [] Bytes.nil (by unfold validP; rw [parseP_nil]; rfl)).le (by omega) (by simp), rfl, ⟨rfl, rfl⟩, HM.out⟩
  case rest =>
    obtain ⟨q, ou, hhalf, hqd, hqo, hm⟩ := hcut
    obtain ⟨M, hMM⟩ : ∃ M : Int, M = 3000 := ⟨_, rfl⟩
    rw [← hMM] at hhalf
    have HQO := Lib.hid hqo
    clear hqo
    have HM := Lib.hid hm
    have HH := Lib.hid hhalf
    have hM := hhalf.1; have hM2 := hhalf.2.1
    clear hm hhalf
    have cs := HM.out.b3.cells HM.out.ad
    have s0 := cs.v; have s3 := cs.sv; have s20 := cs.dv'
    have t3 := HM.out.b3.free 3
    have t20 := HM.out.b3.free 20
    have HM2 := Lib.hid ((HM.out.put 3 (.int .i64 q.v) ((csP_set HM.out.ad _ _).2.2.2.1 q.v) (by exact HM.out.ad) rfl).put 20 (.int .i64 q.v) ((csP_set (by exact HM.out.ad) _ _).2.2.2.2.1 q.v) (by exact HM.out.ad) rfl)
    clear cs
    go_upto_region 15 with fail
    clear s0 s3 s20 t3 t20 HM
    generalize (wc.setCell ⟨g3, 3, none⟩ (.int .i64 q.v)).setCell ⟨g3, 20, none⟩ (.int .i64 q.v) = w5 at *
    have c45 := (HM2.out.b1.cells HAD.out).d
    obtain ⟨N, hN⟩ : ∃ N : Nat, N = if M < (p.d.length : Int) then M.toNat else p.d.length := ⟨_, rfl⟩
    have hN1 : N ≤ p.d.length ∧ (N : Int) ≤ M := by rw [hN]; split <;> omega
    go_upto_if 89 with fail
    go_cut [5] (fun v wx => v = .int .i64 (N : Int) ∧ wx = w5)
    case first =>
      by_cases h1 : M < (p.d.length : Int)
      · rw [if_pos h1] at hN
        have hN3 : (N : Int) = M := by omega
        subst hMM
        go_wp2_with fail
        go_meet
        exact ⟨by rw [hN3], rfl⟩
      · rw [if_neg h1] at hN
        subst hN
        subst hMM
        go_wp2_with fail
        go_meet
        exact ⟨rfl, rfl⟩
    case rest =>
    obtain ⟨rfl, rfl⟩ := hcut
    clear hN
    have hdd := HP.out.d.of
    have hsl := slice_h o3 p.d.length o4 N (N : Int) rfl (by omega)
    go_wp2_with fail
    refine (own_any o3 (p.d.take N) N o4 _ (by simp; omega) (by exact (hdd.2.2.2.away HM2.out.aw (by simp)).head _)).mono ?_
    rintro E w7 ⟨v7, rfl, hown7, hnew7, haw7, hby7, hln7⟩
    have hs6 := HM2.out.aw.size
    have hlt6 := HM2.out.oo.lt
    have hb1l := HM2.out.b1.lt; have hb2l := HM2.out.b2.lt; have hb3l := HM2.out.b3.lt
    have HV7 : Hid (∀ k, v7.ownBlock = some k → k ≠ g1 ∧ k ≠ g2 ∧ k ≠ g3 ∧ ou.ownBlock ≠ some k) := fun k hk => by
      have h1 := hnew7 k hk
      refine ⟨by omega, by omega, by omega, fun e => ?_⟩
      have := hlt6 k e
      omega
    have HN7 : Hid (New w.heap.size v7) := hnew7.mono hs6
    have HO7 := Lib.hid hown7
    have HM7 := Lib.hid (HM2.out.on haw7)
    have HB7 := Lib.hid hby7
    clear HM2 c45 haw7 hown7 hlt6 hnew7 hsl hdd hby7 hs6 hb1l hb2l hb3l
    obtain ⟨x1, x2, x3, rfl⟩ := HO7.out.shp
    have s45 := (HM7.out.b3.cells HM7.out.ad).d
    have t45 := HM7.out.b3.free 45
    have hA8 := away_put (w := w7) (g := g3) 45 (.slice x1 x2 x3)
    have HBQ := Lib.hid (HM7.out.b3.put 45 (.slice x1 x2 x3) ((csP_set HM7.out.ad _ _).2.2.2.2.2.2.2.2.2.2.2.2.2 (p.d.take N) (.slice x1 x2 x3)))
    have HB2 := Lib.hid (HM7.out.b2.away hA8 (by simp; exact HM7.out.e3))
    have HA8 := Lib.hid (HM7.out.aw.next hA8 (fun x hx => .inr (by simp at hx; have := HM7.out.n3; omega)))
    have HOU := Lib.hid (HM7.out.oo.away hA8 (fun k hk => by simpa using (HM7.out.o1 k hk).2.2))
    have HOD := Lib.hid (HO7.out.away hA8 (fun k hk => by simpa using (HV7.out k hk).2.2.1))
    have HX := Lib.hid (show New w.heap.size ou ∧ w.heap.size ≤ g2 ∧ (∀ k, ou.ownBlock = some k → k ≠ g2) ∧ Ad q from ⟨HM7.out.no, HM7.out.n2, fun k hk => (HM7.out.o1 k hk).2.1, HM7.out.ad⟩)
    clear hA8 HM7 HO7
    go_upto_region 19 with fail
    clear s45 t45
    generalize w7.setCell ⟨g3, 45, none⟩ (.slice x1 x2 x3) = w8 at *
    obtain ⟨hu, hwf⟩ := HH.out.2.2.2 (p.d.take N) (HW.out.d.take N) (by simp; omega)
    obtain ⟨Q, hQ⟩ : ∃ Q : Pk, Q = { q with sv := q.v, dv := q.v, d := p.d.take N } := ⟨_, rfl⟩
    have HQ := Lib.hid (show Unc Q ∧ Wf Q ∧ (Q.v = 4 ∨ Q.v = 6) ∧ (Q.o = q.o ∧ Q.d = p.d.take N) ∧ (Q.o = [] ∧ Q.df = false ∧ Q.d.length ≤ 3000) from ⟨by rw [hQ]; exact hu, by rw [hQ]; exact hwf, by rw [hQ]; exact HH.out.2.2.1, ⟨by rw [hQ], by rw [hQ]⟩, by rw [hQ]; exact ⟨HQO.out.1, HQO.out.2, by have := hN1.2; show (p.d.take N).length ≤ 3000; rw [List.length_take]; omega⟩⟩)
    replace HBQ : Hid (BoxP w8 g3 Q ou (.slice x1 x2 x3)) := by show BoxP _ _ _ _ _; rw [hQ]; exact HBQ.out
    have HQA := Lib.hid HQ.out.2.1.ad
    have HOU1 := Lib.hid HOU.out.one
    clear hQ hu hwf HH
    go_wp2_with (first
      | (refine wpList_load28 rfl _ rfl g3 rfl Q _ _ (by exact HBQ.out) HQA.out ?_)
      | (refine wpList_store28 rfl _ _ rfl g2 rfl Q ou (.slice x1 x2 x3) rfl zeroPk (.slice none 0 0) (.slice none 0 0) (by exact HB2.out) HQA.out ⟨rfl, rfl⟩ HOU1.out rfl ?_; refine Hid.out ?_))
    refine Lib.hid ?_
    intro w9 hb9 haw9
    have hx := HX.out
    have HB9 := Lib.hid hb9
    have HA9 : Hid (Away [] w w9) := HA8.out.next haw9 (fun x hx' => .inr (by simp at hx'; omega))
    have HMI : Hid (Mine w9 w.heap.size Q ou (.slice x1 x2 x3)) := ⟨by rw [HQ.out.2.2.2.1.1]; exact HOU.out.away haw9 (fun k hk => by simpa using hx.2.2.1 k hk), by rw [HQ.out.2.2.2.1.2]; exact HOD.out.away haw9 (fun k hk => by simpa using (HV7.out k hk).2.1), hx.1, HN7.out, fun k hk e => (HV7.out k e).2.2.2 hk⟩
    clear hb9 haw9
    go_wp2_with fail
    exact bodyPost_ret (result28 rfl _ _ _ _ _ _ rfl HB9.out HQA.out) rfl ⟨Q, _, _, rfl, HQ.out.1, HQ.out.2.1, HQ.out.2.2.1, HQ.out.2.2.2.2, HMI.out, HA9.out⟩
#print axioms mended_c
end Go.Proofs.YtbkeilboneaejaaGreatDoor
