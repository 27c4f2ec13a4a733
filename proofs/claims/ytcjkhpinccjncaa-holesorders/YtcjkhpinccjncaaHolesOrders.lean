/-
  HolesOrders.
-/
import Derived.Test.YtcjkhpinccjncaaPcS
namespace Go.Proofs.Ytcjkhpinccjncaa
open Go.ChangeShapes Go.WideShapes Go.ChangeAt Go.RowKit Go.Deep
set_option linter.unusedVariables false
set_option linter.unusedSimpArgs false
set_option maxRecDepth 100000

/-- What the first loop holds. -/
structure Ord1 (w wr : World) (ga gb : Nat) (va vb u : Value) (m : List Sp) (e : Int) (L : List Pc) : Prop where
  ha : Hl wr ga va m e
  pa : Put L m e
  hb : Hl wr gb vb [(0, 65535)] (-1)
  lc : LstC wr u L
  ok : ∀ p ∈ L, OkP p
  s1 : Sep (fpH ga va) (fpH gb vb)
  s2 : Sep (fpH ga va) u.ownBlock.toList
  s3 : Sep u.ownBlock.toList (fpH gb vb)
  n1 : ∀ x ∈ fpH ga va, w.heap.size ≤ x
  n2 : ∀ x ∈ fpH gb vb, w.heap.size ≤ x
  n3 : New w.heap.size u
  aw : Away [] w wr
def OrdE (w wr : World) (ga gb : Nat) (u : Value) (k : Nat) : Prop := ∃ va vb m e L, Ord1 w wr ga gb va vb u m e L ∧ L.length ≤ k
/-- What the second loop holds. -/
structure Ord2 (w wr : World) (ga gb : Nat) (va vb u : Value) (m mb : List Sp) (e eb : Int) (L M R : List Pc) : Prop where
  ha : Hl wr ga va m e
  pa : Put L m e
  hb : Hl wr gb vb mb eb
  pb : Put M mb eb
  lc : LstC wr u R
  ok : ∀ p ∈ L, OkP p
  pm : (M ++ R).Perm L
  s1 : Sep (fpH ga va) (fpH gb vb)
  s3 : Sep (fpH gb vb) u.ownBlock.toList
  n2 : ∀ x ∈ fpH gb vb, w.heap.size ≤ x
  n3 : New w.heap.size u
  aw : Away [] w wr
def OrdF (w wr : World) (ga gb : Nat) (va : Value) (m : List Sp) (e : Int) (L : List Pc) (u : Value) (j : Nat) : Prop := ∃ vb mb eb M R, Ord2 w wr ga gb va vb u m mb e eb L M R ∧ j + R.length = L.length
theorem Ord1.on {w wr w' : World} {ga gb : Nat} {va vb u : Value} {m : List Sp} {e : Int} {L : List Pc} (h : Ord1 w wr ga gb va vb u m e L) (hw : Away [] wr w') : Ord1 w w' ga gb va vb u m e L :=
  ⟨h.ha.on hw, h.pa, h.hb.on hw, h.lc.on hw, h.ok, h.s1, h.s2, h.s3, h.n1, h.n2, h.n3, h.aw.trans hw⟩
/-- A piece was taken by the first. -/
theorem Ord1.put {w wr w' : World} {ga gb : Nat} {va vb u r va' : Value} {m f : List Sp} {e : Int} {L : List Pc} {p : Pc} (h : Ord1 w wr ga gb va vb u m e L) (hok : putOk m e p.o p.n p.m = true)
    (t : Took wr w' ga va r va' f (putM m p.o p.n p.m) (putE e p.o p.n p.m)) :
    Hl w' ga va' (putM m p.o p.n p.m) (putE e p.o p.n p.m) ∧ Put (L ++ [p]) (putM m p.o p.n p.m) (putE e p.o p.n p.m) ∧ Hl w' gb vb [(0, 65535)] (-1) ∧ LstC w' u L ∧
    Sep (fpH ga va') (fpH gb vb) ∧ Sep (fpH ga va') u.ownBlock.toList ∧ (∀ x ∈ fpH ga va', w.heap.size ≤ x) ∧ Away [] w w' := by
  have taw : Away (fpH ga va) wr w' := t.aw
  refine ⟨t.hl, h.pa.step hok, h.hb.off taw h.s1.symm, h.lc.off taw h.s2.symm, h.s1.move t.moved h.hb.fp_lt, h.s2.move t.moved h.lc.fp_lt, fun x hx => ?_, h.aw.next taw (fun z hz => .inr (h.n1 z hz))⟩
  simp only [fpH, List.mem_cons, Option.mem_toList] at hx
  rcases hx with rfl | hx
  · exact h.n1 x (by simp [fpH])
  · rcases t.moved x hx with h1 | h1
    · exact h.n1 x (by simp [fpH, h1])
    · have := h.aw.size; omega
/-- .. and kept. -/
theorem ord1_mk {w w2 w3 : World} {ga gb : Nat} {va vb u u' : Value} {m : List Sp} {e : Int} {L : List Pc} {p : Pc} (h1 : Hl w2 ga va m e) (h2 : Put (L ++ [p]) m e) (h3 : Hl w2 gb vb [(0, 65535)] (-1)) (hl : LstC w3 u' (L ++ [p])) (hok : ∀ q ∈ L, OkP q) (hp : OkP p)
    (s1 : Sep (fpH ga va) (fpH gb vb)) (s2 : Sep (fpH ga va) u.ownBlock.toList) (s3 : Sep u.ownBlock.toList (fpH gb vb)) (n1 : ∀ x ∈ fpH ga va, w.heap.size ≤ x) (n2 : ∀ x ∈ fpH gb vb, w.heap.size ≤ x) (n3 : New w.heap.size u) (aw : Away [] w w2)
    (hg : w2.grownBy w3 u.ownBlock) (hm : Moved w2 u u') : Ord1 w w3 ga gb va vb u' m e (L ++ [p]) := by
  have a3 : Away u.ownBlock.toList w2 w3 := (Away.refl _ _).grown hg (fun z hz => .inl (by simp [hz]))
  refine ⟨h1.off a3 s2, h2, h3.off a3 s3.symm, hl, fun q hq => ?_, s1, (s2.symm.movev hm h1.fp_lt).symm, s3.movev hm h3.fp_lt, n1, n2, n3.moved hm aw.size, aw.next a3 (fun z hz => .inr (n3 z (by simpa using hz)))⟩
  rw [List.mem_append, List.mem_singleton] at hq
  rcases hq with hq | rfl
  · exact hok q hq
  · exact hp
namespace holesOrders
set_option maxHeartbeats 16000000 in
theorem walk (wa : Option Addr) (ws : List Pc) (cap : Nat) (oa : Option Addr) (os : List Int) (ocap : Nat) (w : World) (hr : RowC w wa ws) (hlen : ws.length ≤ 5864062014634) (hro : RowI w oa os) (holen : os.length ≤ 17592186043904) :
    Calls Try.prog 3 #[.slice wa ws.length cap, .slice oa os.length ocap] w fun E w' => E = .returned (.bool true) ∧ Below w.heap.size w w' := by
  have HR := hidI hr
  have HRO := hidI hro
  clear hr hro
  obtain ⟨n, hn⟩ : ∃ n, n = ws.length := ⟨_, rfl⟩
  rw [← hn] at hlen ⊢
  have HN := hidI hn
  obtain ⟨no, hno⟩ : ∃ no, no = os.length := ⟨_, rfl⟩
  rw [← hno] at holen ⊢
  have HNO := hidI hno
  clear hn hno
  go_enter Try.func3, Try.ntmps3
  go_wp2_with fail
  refine (new_c w).mono ?_
  rintro E w0 ⟨ga, va0, rfl, h0, hg, hv0, haw0⟩
  have H0 := hidI h0
  have HG0 := hidI hg
  have HV0 := hidI hv0
  have HA0 := hidI haw0
  clear h0 hg hv0 haw0
  go_wp2_with fail
  refine (new_c w0).mono ?_
  rintro E w1 ⟨gb, vb0, rfl, h1, hg1, hv1, haw1⟩
  have HST0 : Hid (Ord1 w w1 ga gb va0 vb0 (.slice none 0 0) [(0, 65535)] (-1) []) := by
    have l0 := H0.out.fp_lt
    have z0 := HA0.out.size
    refine ⟨H0.out.on haw1, Put.new, h1, LstC.nil _, by simp, fun x hx hc => ?_, by simp [Value.ownBlock, Sep], by simp [Value.ownBlock, Sep], fun x hx => ?_, fun x hx => ?_, New.nil _, HA0.out.trans haw1⟩
    · have a1 := l0 x hx
      simp only [fpH, List.mem_cons, Option.mem_toList] at hc
      rcases hc with rfl | hc
      · omega
      · have := hv1 x hc; omega
    · simp only [fpH, List.mem_cons, Option.mem_toList] at hx
      rcases hx with rfl | hx
      · exact HG0.out
      · exact HV0.out x hx
    · simp only [fpH, List.mem_cons, Option.mem_toList] at hx
      rcases hx with rfl | hx
      · omega
      · have := hv1 x hx; omega
  clear h1 hg1 hv1 haw1 H0 HG0 HV0 HA0
  have KK := hidI (known_c w1)
  go_wp2_with fail
  refine KK.out.mono ?_
  rintro E w9 ⟨rfl, haw9⟩
  have HST : Hid (OrdE w w9 ga gb (.slice none 0 0) 0) := ⟨va0, vb0, _, _, [], HST0.out.on haw9, by simp⟩
  clear haw9 HST0 KK
  go_wp2_with fail
  go_loopw [7, 8] (fun u i wr => ∃ (k : Nat), i = .int .i64 (k : Int) ∧ k ≤ 200 ∧ OrdE w wr ga gb u k) (fun _ i _ => 200 - (intOf i).toNat)
  case atStart => exact ⟨0, rfl, by omega, HST.out⟩
  case round =>
    clear HST
    obtain ⟨k, rfl, hk, va, vb, m, e, L, hst, hLk⟩ := hrel
    have HT := hidI hst
    clear hst
    by_cases hlt : k < n ∧ k < 200
    · obtain ⟨hlt, hk2⟩ := hlt
      obtain ⟨x, hx⟩ : ∃ x, ws[k]? = some x := ⟨ws[k]'(by have := HN.out; omega), by simp⟩
      obtain ⟨b, off, rfl, ⟨c0, c1, c2⟩, hok⟩ := (HR.out.on HT.out.aw).at hx
      obtain ⟨po, pn, pm⟩ := x
      simp only at c0 c1 c2
      have HOKP := hidI hok
      obtain ⟨i1, i2⟩ := hok
      simp only at i1 i2
      have KP : Hid (∀ q, Calls Try.prog 10 #[.pointer (some ⟨ga, 0, none⟩), .int .i64 po, .int .i64 pn, .bool pm] (wr.drewN q) fun E w' => ∃ r ev, E = .returned (.tuple #[r, .int .i64 ev]) ∧ PutQ (wr.drewN q) ga va m e po pn pm r ev w') := fun q => putQ_c po pn pm (HT.out.ha.on ((Away.refl _ _).drewN q)) i1 i2
      have j2 : 0 ≤ (k : Int) := by omega
      have j3 : (k : Int) < (n : Int) := by omega
      have j4 : ((k : Int)).toNat = k := by omega
      have HX := hidI hx
      clear hx i1 i2
      go_wp2_with fail
      have hbn : b ∉ fpH ga va := fun hc => by
        have h1 := HT.out.n1 b hc
        obtain ⟨b', off', he, ⟨d0, -, -⟩, -⟩ := HR.out.at HX.out
        simp only [Option.some.injEq, Addr.mk.injEq] at he
        have e1 := he.1
        have e2 : b' < w.heap.size := block_lt_of_cell d0
        omega
      go_region_held3 (fun w' => w'.cell? ⟨b, off + k * 3, none⟩ = some (.int .i64 po) ∧ w'.cell? ⟨b, off + k * 3 + 1, none⟩ = some (.int .i64 pn) ∧ w'.cell? ⟨b, off + k * 3 + 2, none⟩ = some (.bool pm)) (go_keep)
        (first | (go_at_call 10; refine (KP.out 1).mono ?_; rintro E w2 ⟨r, ev, rfl, hq⟩; have z0 := hq.aw.cell hbn c0; have z1 := hq.aw.cell hbn c1; have z2 := hq.aw.cell hbn c2))
      all_goals
        clear z0 z1 z2
        have HQ := hidI hq
        clear hq
        rcases HQ.out with ⟨hok, rfl, va2, t⟩ | ⟨hno, rfl, rfl, haw2⟩
        · obtain ⟨g1, g2, g3, g4, g5, g6, g7, g8⟩ := (HT.out.on ((Away.refl [] wr).drewN 1)).put (p := ⟨po, pn, pm⟩) hok t
          have G1 := hidI g1
          have G2 := hidI g2
          have G3 := hidI g3
          have G4 := hidI g4
          have G5 := hidI g5
          have G6 := hidI g6
          have G7 := hidI g7
          have G8 := hidI g8
          obtain ⟨b', off', he, ⟨d0, d1, d2⟩, -⟩ := (HR.out.on g8).at HX.out
          simp only [Option.some.injEq, Addr.mk.injEq] at he
          obtain ⟨rfl, rfl, -⟩ := he
          simp only at d0 d1 d2
          clear t g1 g2 g3 g4 g5 g6 g7 g8 hok c0 c1 c2 KP HQ
          obtain ⟨W, hW⟩ : ∃ W, W = w2.alloc (.cells #[.int .i64 po, .int .i64 pn, .bool pm] 32) := ⟨_, rfl⟩
          have AB : Hid (Away [] w2 W) := by show Away _ _ _; rw [hW]; exact (Away.refl _ _).alloc _
          have HRW : Hid (RowC W (some ⟨w2.heap.size, 0, none⟩) [⟨po, pn, pm⟩]) := by
            refine ⟨fun q hq => by simp at hq; subst hq; exact HOKP.out, .inr ⟨w2.heap.size, 0, rfl, fun i q hq => ?_⟩⟩
            rcases i with _ | i
            · simp at hq; subst hq; rw [hW]; simp
            · simp at hq
          have HLC := hidI (G4.out.on AB.out)
          go_wp2_with (at_builtin; refine wpList_appC rfl _ _ rfl _ L [⟨po, pn, pm⟩] rfl (by rw [← hW]; exact HLC.out) (some ⟨_, 0, none⟩) 1 1 rfl rfl (by simp) (by rw [← hW]; exact HRW.out) (by omega) ?_)
          intro v9 w10 hown hgr hmov
          rw [← hW] at hgr hmov
          have HN9 : Hid (Ord1 w w10 ga gb va2 vb v9 (putM m po pn pm) (putE e po pn pm) (L ++ [⟨po, pn, pm⟩])) :=
            ord1_mk (G1.out.on AB.out) G2.out (G3.out.on AB.out) hown HT.out.ok HOKP.out G5.out G6.out HT.out.s3 G7.out HT.out.n2 HT.out.n3 (G8.out.trans AB.out) hgr hmov
          clear hown hgr hmov hW
          go_wp2_with fail
          go_roundw
          case rel => exact ⟨k + 1, by go_num, by omega, va2, vb, _, _, _, HN9.out, by simp; omega⟩
          case measure => simp [intOf]; omega
        · have HT2 := hidI (HT.out.on (((Away.refl [] wr).drewN 1).trans haw2))
          clear haw2 hno
          go_wp2_with fail
          go_roundw
          case rel => exact ⟨k + 1, by go_num, by omega, va, vb, m, e, L, HT2.out, by omega⟩
          case measure => simp [intOf]; omega
    · have HST2 : Hid (OrdF w wr ga gb va m e L u7 0) := by
        have h := HT.out
        exact ⟨vb, _, _, [], L, ⟨h.ha, h.pa, h.hb, Put.new, h.lc, h.ok, by simp, h.s1, h.s3.symm, h.n2, h.n3, h.aw⟩, by omega⟩
      have hL : L.length ≤ 200 := by omega
      by_cases hkn : k < n
      · have hk2 : ¬ ((k : Int) < 200) := by omega
        go_wp2_with fail
        go_loopw [7, 11] (fun u i wr => ∃ (j : Nat), i = .int .i64 (j : Int) ∧ j ≤ L.length ∧ OrdF w wr ga gb va m e L u j) (fun u _ _ => lenV u)
        case atStart => exact ⟨0, rfl, by omega, HST2.out⟩
        case round =>
          clear HST2
          obtain ⟨j, rfl, hjL, vb, mb, eb, M, R, hst, hjR⟩ := hrel
          have HT := hidI hst
          obtain ⟨ua, uc, hu⟩ := hst.lc.shape
          obtain ⟨nr, hnr⟩ : ∃ nr, nr = R.length := ⟨_, rfl⟩
          rw [← hnr] at hu hjR
          subst hu
          have HNR := hidI hnr
          clear hst hnr
          by_cases hne : 0 < nr
          · have hRok : Hid (∀ p ∈ R, OkP p) := fun p hp => HT.out.ok p (HT.out.pm.mem_iff.1 (by simp [hp]))
            have t1 : (0 : Int) < (nr : Int) := by omega
            have HB : Hid (∀ (kk : Nat), kk < nr → True) := fun _ _ => trivial
            clear HB
            by_cases hjo : j < no
            · obtain ⟨ov, hov⟩ : ∃ ov, os[j]? = some ov := ⟨os[j]'(by have := HNO.out; omega), by simp⟩
              obtain ⟨ob, ooff, rfl, oc, oi⟩ := (HRO.out.on HT.out.aw).at hov
              have KRT := hidI (rest_c ov ((nr : Int) - 1) wr oi (by omega) (by omega))
              have hri := rest_in (n := ov) (hi := (nr : Int) - 1) (by omega)
              obtain ⟨kk, hkk⟩ : ∃ kk : Nat, restP ov ((nr : Int) - 1) = (kk : Int) := ⟨(restP ov ((nr : Int) - 1)).toNat, by omega⟩
              rw [hkk] at KRT hri
              have hne2 : kk < nr := by omega
              have o2 : 0 ≤ (j : Int) := by omega
              have o3 : (j : Int) < (no : Int) := by omega
              have o4 : ((j : Int)).toNat = j := by omega
              clear hkk hri hov oi
              go_wp2_with fail
              refine KRT.out.mono ?_
              rintro E wr ⟨rfl, rfl⟩
              obtain ⟨p, hp, hpm⟩ := getP_of (show kk < R.length by have := HNR.out; omega)
              obtain ⟨a', cap', he, hcapR, -, hrow, habR⟩ := HT.out.lc.row hRok.out
              simp only [Value.slice.injEq] at he
              obtain ⟨rfl, -, rfl⟩ := he
              obtain ⟨b, off, rfl, ⟨c0, c1, c2⟩, hokp⟩ := hrow.at hp
              have HBN : Hid (b ∉ fpH gb vb) := fun hc => HT.out.s3 b hc (by have := habR _ rfl; simpa using this)
              have hcapN : nr ≤ uc := by rw [HNR.out]; exact hcapR
              clear habR hcapR
              have HPR := hidI hp
              have HPM := hidI hpm
              obtain ⟨i1, i2⟩ := hokp
              obtain ⟨po, pn, pm⟩ := p
              simp only at c0 c1 c2 i1 i2
              have HTK : Hid (putOk mb eb po pn pm = true) := HT.out.pb.takes (p := ⟨po, pn, pm⟩) (e := e) (fun q hq => HT.out.pa.fit q (HT.out.pm.mem_iff.1 (by simp [hq]))) (HT.out.pa.fit _ (HT.out.pm.mem_iff.1 (by simp [hpm])))
              have KP : Hid (∀ q, Calls Try.prog 10 #[.pointer (some ⟨gb, 0, none⟩), .int .i64 po, .int .i64 pn, .bool pm] (wr.drewN q) fun E w' => ∃ r v', E = .returned (.tuple #[r, .int .i64 0]) ∧ Took wr w' gb vb r v' (freshP mb (po, po + pn)) (putM mb po pn pm) (putE eb po pn pm)) := fun q => by
                refine (put_c' po pn pm (HT.out.hb.on ((Away.refl _ _).drewN q)) i1 i2).mono ?_
                intro E w' h
                rcases h with ⟨-, r, v', h1, h2⟩ | ⟨h1, -⟩
                · exact ⟨r, v', h1, h2.base ((Away.refl [] _).drewN q)⟩
                · rw [HTK.out] at h1; simp at h1
              have j2 : 0 ≤ (kk : Int) := by omega
              have j3 : (kk : Int) < (nr : Int) := by omega
              have j4 : ((kk : Int)).toNat = kk := by omega
              clear hp hpm i1 i2 hrow
              go_wp2_with fail
              have hbn : b ∉ fpH gb vb := HBN.out
              go_region_held3 (fun w' => w'.cell? ⟨b, off + kk * 3, none⟩ = some (.int .i64 po) ∧ w'.cell? ⟨b, off + kk * 3 + 1, none⟩ = some (.int .i64 pn) ∧ w'.cell? ⟨b, off + kk * 3 + 2, none⟩ = some (.bool pm)) (go_keep)
                (first | (go_at_call 10; refine (KP.out 1).mono ?_; rintro E w2 ⟨r, vb2, rfl, ht⟩; have z0 := Away.cell ht.aw hbn c0; have z1 := Away.cell ht.aw hbn c1; have z2 := Away.cell ht.aw hbn c2))
              all_goals
                clear z0 z1 z2
                have HTK2 := hidI ht
                have taw : Away (fpH gb vb) wr w2 := ht.aw
                have HL2 := hidI (HT.out.lc.off taw HT.out.s3.symm)
                have hs := sliceC_h (some ⟨b, off, none⟩) nr uc kk (kk : Int) rfl (by omega)
                obtain ⟨A, v1, w3, v2, w4, hA, r1, r2, l2, nw2, aw4⟩ := run_drop w2.drew 22 (some ⟨b, off, none⟩) nr uc kk R HL2.out hRok.out hne2 (by omega)
                have hw1 : IntKind.i64.wrap ((kk : Int) + 1) = (kk : Int) + 1 := by rw [IntKind.wrap_i64]; omega
                have hw2 : ((kk : Int) + 1).toNat = kk + 1 := by omega
                have hw3 : 0 ≤ (kk : Int) + 1 := by omega
                have hw4 : (kk : Int) + 1 ≤ (nr : Int) := by omega
                have hs2 := sliceC_l (some ⟨b, off, none⟩) A nr uc (kk + 1) ((kk : Int) + 1) hA (by omega) (by omega)
                have aw4' : Away [] w2 w4 := ⟨aw4.os, aw4.tape, aw4.output, aw4.size, aw4.block⟩
                have nw2' : New w2.heap.size v2 := nw2
                have HFIN : Hid (Ord2 w w4 ga gb va vb2 v2 m (putM mb po pn pm) e (putE eb po pn pm) L (M ++ [⟨po, pn, pm⟩]) (dropK R kk)) := by
                  have h := HT.out
                  refine ⟨(h.ha.off taw h.s1).on aw4', h.pa, ht.hl.on aw4', h.pb.step HTK.out, l2, h.ok, ?_, (h.s1.symm.move ht.moved h.ha.fp_lt).symm, (sep_new nw2' ht.hl.fp_lt).symm, fun x hx => ?_, nw2'.mono (by have := h.aw.size; have := taw.size; omega), (h.aw.next taw (fun z hz => .inr (h.n2 z hz))).trans aw4'⟩
                  · refine List.Perm.trans ?_ h.pm
                    rw [List.append_assoc]
                    exact List.Perm.append_left M (dropK_perm HPR.out)
                  · simp only [fpH, List.mem_cons, Option.mem_toList] at hx
                    rcases hx with rfl | hx
                    · exact h.n2 x (by simp [fpH])
                    · rcases ht.moved x hx with h1 | h1
                      · exact h.n2 x (by simp [fpH, h1])
                      · have := h.aw.size; omega
                have HDL : Hid ((dropK R kk).length = nr - 1) := by show _ = _; rw [dropK_len (by rw [← HNR.out]; exact hne2), HNR.out]
                obtain ⟨xa, xc, hxe⟩ := l2.shape
                rw [HDL.out] at hxe
                subst hxe
                clear l2 nw2 nw2' aw4 aw4' hA ht taw KP c0 c1 c2
                go_wp2_with fail
                refine wp_region_held_drew (S := (fun _ => True)) (by kernel_rfl) trivial (fun hHeld => ?_)
                refine wpAnyH_take (i := 0) (v := ?_) (by simp only [List.getElem?_toArray, List.getElem?_cons_zero]; rfl) (by kernel_rfl) (by kernel_rfl) (by kernel_rfl) (by exact fun _ _ _ h => h) (Or.inl ⟨by rfl, ?_⟩) (by assumption) ?_
                rotate_left
                · intro wq hSw
                  (try dsimp only at hSw)
                  go_simp
                  all_goals (with_reducible rfl)
                try simp only [Act.put, List.setIfInBounds_toArray, List.set_cons_zero, List.set_cons_succ]
                refine wpAnyH_take (i := 1) (v := ?_) (by simp only [List.getElem?_toArray, List.getElem?_cons_succ, List.getElem?_cons_zero]; rfl) (by kernel_rfl) (by kernel_rfl) (by kernel_rfl) (by exact fun _ _ _ h => h) (Or.inl ⟨by rfl, ?_⟩) (by assumption) ?_
                rotate_left
                · intro wq hSw
                  (try dsimp only at hSw)
                  go_simp
                  all_goals (with_reducible rfl)
                try simp only [Act.put, List.setIfInBounds_toArray, List.set_cons_zero, List.set_cons_succ]
                refine wpAnyH_take (i := 2) (v := ?_) (by simp only [List.getElem?_toArray, List.getElem?_cons_succ, List.getElem?_cons_zero]; rfl) (by kernel_rfl) (by kernel_rfl) (by kernel_rfl) (by exact fun _ _ _ h => h) (Or.inl ⟨by rfl, ?_⟩) (by assumption) ?_
                rotate_left
                · intro wq hSw
                  (try dsimp only at hSw)
                  go_simp
                  all_goals (with_reducible rfl)
                try simp only [Act.put, List.setIfInBounds_toArray, List.set_cons_zero, List.set_cons_succ]
                refine wpAnyH_take (i := 4) (v := ?_) (by simp only [List.getElem?_toArray, List.getElem?_cons_succ, List.getElem?_cons_zero]; rfl) (by kernel_rfl) (by kernel_rfl) (by kernel_rfl) (by exact fun _ _ _ h => h) (Or.inl ⟨by rfl, ?_⟩) (by assumption) ?_
                rotate_left
                · intro wq hSw
                  (try dsimp only at hSw)
                  go_simp
                  all_goals (with_reducible rfl)
                try simp only [Act.put, List.setIfInBounds_toArray, List.set_cons_zero, List.set_cons_succ]
                refine wpAnyH_take (i := 5) (v := ?_) (by simp only [List.getElem?_toArray, List.getElem?_cons_succ, List.getElem?_cons_zero]; rfl) (by kernel_rfl) (by kernel_rfl) (by kernel_rfl) (by exact fun _ _ _ h => h) (Or.inl ⟨by rfl, ?_⟩) (by assumption) ?_
                rotate_left
                · intro wq hSw
                  (try dsimp only at hSw)
                  go_simp
                  all_goals (with_reducible rfl)
                try simp only [Act.put, List.setIfInBounds_toArray, List.set_cons_zero, List.set_cons_succ]
                refine wpAnyH_take (i := 6) (v := ?_) (by simp only [List.getElem?_toArray, List.getElem?_cons_succ, List.getElem?_cons_zero]; rfl) (by kernel_rfl) (by kernel_rfl) (by kernel_rfl) (by exact fun _ _ _ h => h) (Or.inl ⟨by rfl, ?_⟩) (by assumption) ?_
                rotate_left
                · intro wq hSw
                  (try dsimp only at hSw)
                  go_simp
                  all_goals (with_reducible rfl)
                try simp only [Act.put, List.setIfInBounds_toArray, List.set_cons_zero, List.set_cons_succ]
                refine wpAnyH_take (i := 7) (v := ?_) (by simp only [List.getElem?_toArray, List.getElem?_cons_succ, List.getElem?_cons_zero]; rfl) (by kernel_rfl) (by kernel_rfl) (by kernel_rfl) (by exact fun _ _ _ h => h) (Or.inl ⟨by rfl, ?_⟩) (by assumption) ?_
                rotate_left
                · intro wq hSw
                  (try dsimp only at hSw)
                  go_simp
                  all_goals (with_reducible rfl)
                try simp only [Act.put, List.setIfInBounds_toArray, List.set_cons_zero, List.set_cons_succ]
                refine wpAnyH_ready (rs := [3]) (by kernel_rfl) (by simp) ?_
                refine AllReadyH.cons (by simp only [List.getElem?_toArray, List.getElem?_cons_succ, List.getElem?_cons_zero]; rfl) (fun K hK => ?_) AllReadyH.nil
                refine step_append_run rfl (.const (.slice none 0 0)) (.tmp 110) rfl (.slice none 0 0) (.slice (some ⟨b, off, none⟩) kk uc) rfl rfl r1 ?_
                refine hK.out _ _ trivial (fun hHeld => ?_)
                clear hK K
                try simp only [Act.put, List.setIfInBounds_toArray, List.set_cons_zero, List.set_cons_succ]
                refine wpAnyH_ready (rs := [8]) (by kernel_rfl) (by simp) ?_
                refine AllReadyH.cons (by simp only [List.getElem?_toArray, List.getElem?_cons_succ, List.getElem?_cons_zero]; rfl) (fun K hK => ?_) AllReadyH.nil
                refine step_append_run rfl (.tmp 111) (.tmp 115) rfl v1 (.slice A (nr - (kk + 1)) (uc - (kk + 1))) rfl rfl r2 ?_
                refine hK.out _ _ trivial (fun hHeld => ?_)
                clear hK K
                try simp only [Act.put, List.setIfInBounds_toArray, List.set_cons_zero, List.set_cons_succ]
                refine wpAnyH_take (i := 9) (v := ?_) (by simp only [List.getElem?_toArray, List.getElem?_cons_succ, List.getElem?_cons_zero]; rfl) (by kernel_rfl) (by kernel_rfl) (by kernel_rfl) (by exact fun _ _ _ h => h) (Or.inl ⟨by rfl, ?_⟩) (by assumption) ?_
                rotate_left
                · intro wq hSw
                  (try dsimp only at hSw)
                  go_simp
                  all_goals (with_reducible rfl)
                try simp only [Act.put, List.setIfInBounds_toArray, List.set_cons_zero, List.set_cons_succ]
                refine wpAnyH_done (by kernel_rfl) ?_ _
                go_wp2_with fail
                go_roundw
                case rel => exact ⟨j + 1, by go_num, by omega, vb2, _, _, _, _, HFIN.out, by rw [HDL.out]; omega⟩
                case measure => simp [lenV]; omega
            · obtain ⟨kk, hkk⟩ : ∃ kk : Nat, (nr : Int) - 1 = (kk : Int) := ⟨nr - 1, by omega⟩
              have hne2 : kk < nr := by omega
              have hkx : (nr : Int) - 1 = (kk : Int) := hkk
              have o3 : ¬ ((j : Int) < (no : Int)) := by omega
              clear hkk
              obtain ⟨p, hp, hpm⟩ := getP_of (show kk < R.length by have := HNR.out; omega)
              obtain ⟨a', cap', he, hcapR, -, hrow, habR⟩ := HT.out.lc.row hRok.out
              simp only [Value.slice.injEq] at he
              obtain ⟨rfl, -, rfl⟩ := he
              obtain ⟨b, off, rfl, ⟨c0, c1, c2⟩, hokp⟩ := hrow.at hp
              have HBN : Hid (b ∉ fpH gb vb) := fun hc => HT.out.s3 b hc (by have := habR _ rfl; simpa using this)
              have hcapN : nr ≤ uc := by rw [HNR.out]; exact hcapR
              clear habR hcapR
              have HPR := hidI hp
              have HPM := hidI hpm
              obtain ⟨i1, i2⟩ := hokp
              obtain ⟨po, pn, pm⟩ := p
              simp only at c0 c1 c2 i1 i2
              have HTK : Hid (putOk mb eb po pn pm = true) := HT.out.pb.takes (p := ⟨po, pn, pm⟩) (e := e) (fun q hq => HT.out.pa.fit q (HT.out.pm.mem_iff.1 (by simp [hq]))) (HT.out.pa.fit _ (HT.out.pm.mem_iff.1 (by simp [hpm])))
              have KP : Hid (∀ q, Calls Try.prog 10 #[.pointer (some ⟨gb, 0, none⟩), .int .i64 po, .int .i64 pn, .bool pm] (wr.drewN q) fun E w' => ∃ r v', E = .returned (.tuple #[r, .int .i64 0]) ∧ Took wr w' gb vb r v' (freshP mb (po, po + pn)) (putM mb po pn pm) (putE eb po pn pm)) := fun q => by
                refine (put_c' po pn pm (HT.out.hb.on ((Away.refl _ _).drewN q)) i1 i2).mono ?_
                intro E w' h
                rcases h with ⟨-, r, v', h1, h2⟩ | ⟨h1, -⟩
                · exact ⟨r, v', h1, h2.base ((Away.refl [] _).drewN q)⟩
                · rw [HTK.out] at h1; simp at h1
              have j2 : 0 ≤ (kk : Int) := by omega
              have j3 : (kk : Int) < (nr : Int) := by omega
              have j4 : ((kk : Int)).toNat = kk := by omega
              clear hp hpm i1 i2 hrow
              go_wp2_with fail
              have hbn : b ∉ fpH gb vb := HBN.out
              go_region_held3 (fun w' => w'.cell? ⟨b, off + kk * 3, none⟩ = some (.int .i64 po) ∧ w'.cell? ⟨b, off + kk * 3 + 1, none⟩ = some (.int .i64 pn) ∧ w'.cell? ⟨b, off + kk * 3 + 2, none⟩ = some (.bool pm)) (go_keep)
                (first | (go_at_call 10; refine (KP.out 1).mono ?_; rintro E w2 ⟨r, vb2, rfl, ht⟩; have z0 := Away.cell ht.aw hbn c0; have z1 := Away.cell ht.aw hbn c1; have z2 := Away.cell ht.aw hbn c2))
              all_goals
                clear z0 z1 z2
                have HTK2 := hidI ht
                have taw : Away (fpH gb vb) wr w2 := ht.aw
                have HL2 := hidI (HT.out.lc.off taw HT.out.s3.symm)
                have hs := sliceC_h (some ⟨b, off, none⟩) nr uc kk (kk : Int) rfl (by omega)
                obtain ⟨A, v1, w3, v2, w4, hA, r1, r2, l2, nw2, aw4⟩ := run_drop w2.drew 22 (some ⟨b, off, none⟩) nr uc kk R HL2.out hRok.out hne2 (by omega)
                have hw1 : IntKind.i64.wrap ((kk : Int) + 1) = (kk : Int) + 1 := by rw [IntKind.wrap_i64]; omega
                have hw2 : ((kk : Int) + 1).toNat = kk + 1 := by omega
                have hw3 : 0 ≤ (kk : Int) + 1 := by omega
                have hw4 : (kk : Int) + 1 ≤ (nr : Int) := by omega
                have hs2 := sliceC_l (some ⟨b, off, none⟩) A nr uc (kk + 1) ((kk : Int) + 1) hA (by omega) (by omega)
                have aw4' : Away [] w2 w4 := ⟨aw4.os, aw4.tape, aw4.output, aw4.size, aw4.block⟩
                have nw2' : New w2.heap.size v2 := nw2
                have HFIN : Hid (Ord2 w w4 ga gb va vb2 v2 m (putM mb po pn pm) e (putE eb po pn pm) L (M ++ [⟨po, pn, pm⟩]) (dropK R kk)) := by
                  have h := HT.out
                  refine ⟨(h.ha.off taw h.s1).on aw4', h.pa, ht.hl.on aw4', h.pb.step HTK.out, l2, h.ok, ?_, (h.s1.symm.move ht.moved h.ha.fp_lt).symm, (sep_new nw2' ht.hl.fp_lt).symm, fun x hx => ?_, nw2'.mono (by have := h.aw.size; have := taw.size; omega), (h.aw.next taw (fun z hz => .inr (h.n2 z hz))).trans aw4'⟩
                  · refine List.Perm.trans ?_ h.pm
                    rw [List.append_assoc]
                    exact List.Perm.append_left M (dropK_perm HPR.out)
                  · simp only [fpH, List.mem_cons, Option.mem_toList] at hx
                    rcases hx with rfl | hx
                    · exact h.n2 x (by simp [fpH])
                    · rcases ht.moved x hx with h1 | h1
                      · exact h.n2 x (by simp [fpH, h1])
                      · have := h.aw.size; omega
                have HDL : Hid ((dropK R kk).length = nr - 1) := by show _ = _; rw [dropK_len (by rw [← HNR.out]; exact hne2), HNR.out]
                obtain ⟨xa, xc, hxe⟩ := l2.shape
                rw [HDL.out] at hxe
                subst hxe
                clear l2 nw2 nw2' aw4 aw4' hA ht taw KP c0 c1 c2
                go_wp2_with fail
                refine wp_region_held_drew (S := (fun _ => True)) (by kernel_rfl) trivial (fun hHeld => ?_)
                refine wpAnyH_take (i := 0) (v := ?_) (by simp only [List.getElem?_toArray, List.getElem?_cons_zero]; rfl) (by kernel_rfl) (by kernel_rfl) (by kernel_rfl) (by exact fun _ _ _ h => h) (Or.inl ⟨by rfl, ?_⟩) (by assumption) ?_
                rotate_left
                · intro wq hSw
                  (try dsimp only at hSw)
                  go_simp
                  all_goals (with_reducible rfl)
                try simp only [Act.put, List.setIfInBounds_toArray, List.set_cons_zero, List.set_cons_succ]
                refine wpAnyH_take (i := 1) (v := ?_) (by simp only [List.getElem?_toArray, List.getElem?_cons_succ, List.getElem?_cons_zero]; rfl) (by kernel_rfl) (by kernel_rfl) (by kernel_rfl) (by exact fun _ _ _ h => h) (Or.inl ⟨by rfl, ?_⟩) (by assumption) ?_
                rotate_left
                · intro wq hSw
                  (try dsimp only at hSw)
                  go_simp
                  all_goals (with_reducible rfl)
                try simp only [Act.put, List.setIfInBounds_toArray, List.set_cons_zero, List.set_cons_succ]
                refine wpAnyH_take (i := 2) (v := ?_) (by simp only [List.getElem?_toArray, List.getElem?_cons_succ, List.getElem?_cons_zero]; rfl) (by kernel_rfl) (by kernel_rfl) (by kernel_rfl) (by exact fun _ _ _ h => h) (Or.inl ⟨by rfl, ?_⟩) (by assumption) ?_
                rotate_left
                · intro wq hSw
                  (try dsimp only at hSw)
                  go_simp
                  all_goals (with_reducible rfl)
                try simp only [Act.put, List.setIfInBounds_toArray, List.set_cons_zero, List.set_cons_succ]
                refine wpAnyH_take (i := 4) (v := ?_) (by simp only [List.getElem?_toArray, List.getElem?_cons_succ, List.getElem?_cons_zero]; rfl) (by kernel_rfl) (by kernel_rfl) (by kernel_rfl) (by exact fun _ _ _ h => h) (Or.inl ⟨by rfl, ?_⟩) (by assumption) ?_
                rotate_left
                · intro wq hSw
                  (try dsimp only at hSw)
                  go_simp
                  all_goals (with_reducible rfl)
                try simp only [Act.put, List.setIfInBounds_toArray, List.set_cons_zero, List.set_cons_succ]
                refine wpAnyH_take (i := 5) (v := ?_) (by simp only [List.getElem?_toArray, List.getElem?_cons_succ, List.getElem?_cons_zero]; rfl) (by kernel_rfl) (by kernel_rfl) (by kernel_rfl) (by exact fun _ _ _ h => h) (Or.inl ⟨by rfl, ?_⟩) (by assumption) ?_
                rotate_left
                · intro wq hSw
                  (try dsimp only at hSw)
                  go_simp
                  all_goals (with_reducible rfl)
                try simp only [Act.put, List.setIfInBounds_toArray, List.set_cons_zero, List.set_cons_succ]
                refine wpAnyH_take (i := 6) (v := ?_) (by simp only [List.getElem?_toArray, List.getElem?_cons_succ, List.getElem?_cons_zero]; rfl) (by kernel_rfl) (by kernel_rfl) (by kernel_rfl) (by exact fun _ _ _ h => h) (Or.inl ⟨by rfl, ?_⟩) (by assumption) ?_
                rotate_left
                · intro wq hSw
                  (try dsimp only at hSw)
                  go_simp
                  all_goals (with_reducible rfl)
                try simp only [Act.put, List.setIfInBounds_toArray, List.set_cons_zero, List.set_cons_succ]
                refine wpAnyH_take (i := 7) (v := ?_) (by simp only [List.getElem?_toArray, List.getElem?_cons_succ, List.getElem?_cons_zero]; rfl) (by kernel_rfl) (by kernel_rfl) (by kernel_rfl) (by exact fun _ _ _ h => h) (Or.inl ⟨by rfl, ?_⟩) (by assumption) ?_
                rotate_left
                · intro wq hSw
                  (try dsimp only at hSw)
                  go_simp
                  all_goals (with_reducible rfl)
                try simp only [Act.put, List.setIfInBounds_toArray, List.set_cons_zero, List.set_cons_succ]
                refine wpAnyH_ready (rs := [3]) (by kernel_rfl) (by simp) ?_
                refine AllReadyH.cons (by simp only [List.getElem?_toArray, List.getElem?_cons_succ, List.getElem?_cons_zero]; rfl) (fun K hK => ?_) AllReadyH.nil
                refine step_append_run rfl (.const (.slice none 0 0)) (.tmp 110) rfl (.slice none 0 0) (.slice (some ⟨b, off, none⟩) kk uc) rfl rfl r1 ?_
                refine hK.out _ _ trivial (fun hHeld => ?_)
                clear hK K
                try simp only [Act.put, List.setIfInBounds_toArray, List.set_cons_zero, List.set_cons_succ]
                refine wpAnyH_ready (rs := [8]) (by kernel_rfl) (by simp) ?_
                refine AllReadyH.cons (by simp only [List.getElem?_toArray, List.getElem?_cons_succ, List.getElem?_cons_zero]; rfl) (fun K hK => ?_) AllReadyH.nil
                refine step_append_run rfl (.tmp 111) (.tmp 115) rfl v1 (.slice A (nr - (kk + 1)) (uc - (kk + 1))) rfl rfl r2 ?_
                refine hK.out _ _ trivial (fun hHeld => ?_)
                clear hK K
                try simp only [Act.put, List.setIfInBounds_toArray, List.set_cons_zero, List.set_cons_succ]
                refine wpAnyH_take (i := 9) (v := ?_) (by simp only [List.getElem?_toArray, List.getElem?_cons_succ, List.getElem?_cons_zero]; rfl) (by kernel_rfl) (by kernel_rfl) (by kernel_rfl) (by exact fun _ _ _ h => h) (Or.inl ⟨by rfl, ?_⟩) (by assumption) ?_
                rotate_left
                · intro wq hSw
                  (try dsimp only at hSw)
                  go_simp
                  all_goals (with_reducible rfl)
                try simp only [Act.put, List.setIfInBounds_toArray, List.set_cons_zero, List.set_cons_succ]
                refine wpAnyH_done (by kernel_rfl) ?_ _
                go_wp2_with fail
                go_roundw
                case rel => exact ⟨j + 1, by go_num, by omega, vb2, _, _, _, _, HFIN.out, by rw [HDL.out]; omega⟩
                case measure => simp [lenV]; omega
          · obtain rfl : nr = 0 := by omega
            have hR : R = [] := List.eq_nil_of_length_eq_zero HNR.out.symm
            have HPM : Hid (M.Perm L) := by show M.Perm L; have := HT.out.pm; rw [hR] at this; simpa using this
            obtain ⟨heq, hee⟩ := HT.out.pa.uniq HT.out.pb HPM.out.symm
            have HHa := hidI HT.out.ha
            have HHb := hidI HT.out.hb
            rw [← heq, ← hee] at HHb
            have HAW := hidI HT.out.aw
            clear heq hee hR
            have K1 := hidI (holes_c HHa.out)
            go_wp2_with fail
            refine K1.out.mono ?_
            rintro E w2 ⟨x, rfl, hmk⟩
            have A2 := hidI hmk.2.2
            have LX := hidI hmk.1
            clear hmk
            have K2 := hidI (holes_c (HHb.out.on A2.out))
            go_wp2_with fail
            refine K2.out.mono ?_
            rintro E w3 ⟨y, rfl, hmk⟩
            have A3 := hidI hmk.2.2
            have LY := hidI hmk.1
            clear hmk
            have K3 := hidI (same_yes (LX.out.on A3.out) LY.out (fun s hs => is_ok (right_is HHa.out.right s hs)) (by have := right_short HHa.out.right; omega))
            go_wp2_with fail
            refine K3.out.mono ?_
            rintro E w4 ⟨rfl, q4, h4⟩
            have A4 : Hid (Away [] w3 w4) := by show Away _ _ _; rw [h4]; exact (Away.refl _ _).drewN _
            clear h4
            have K4 := hidI (end_c (HHa.out.on ((A2.out.trans A3.out).trans A4.out)))
            have K5 := hidI (end_c (HHb.out.on ((A2.out.trans A3.out).trans A4.out)))
            have K6 := hidI (done_c (HHa.out.on ((A2.out.trans A3.out).trans A4.out)))
            have K7 := hidI (done_c (HHb.out.on ((A2.out.trans A3.out).trans A4.out)))
            have AWF : Hid (Below w.heap.size w w4) := (((HAW.out.trans A2.out).trans A3.out).trans A4.out).to_below
            generalize doneP m e = dd at *
            go_wp2_with fail
            refine K4.out.mono ?_
            rintro E w4 ⟨rfl, rfl⟩
            go_wp2_with fail
            refine K5.out.mono ?_
            rintro E w4 ⟨rfl, rfl⟩
            go_wp2_with fail
            refine K6.out.mono ?_
            rintro E w4 ⟨rfl, rfl⟩
            go_wp2_with fail
            refine K7.out.mono ?_
            rintro E w4 ⟨rfl, rfl⟩
            go_wp2_with fail
            go_ret
            exact ⟨by first | rfl | simp, AWF.out⟩
      · have hk3 : ¬ ((k : Int) < (n : Int)) := by omega
        go_wp2_with fail
        go_loopw [7, 11] (fun u i wr => ∃ (j : Nat), i = .int .i64 (j : Int) ∧ j ≤ L.length ∧ OrdF w wr ga gb va m e L u j) (fun u _ _ => lenV u)
        case atStart => exact ⟨0, rfl, by omega, HST2.out⟩
        case round =>
          clear HST2
          obtain ⟨j, rfl, hjL, vb, mb, eb, M, R, hst, hjR⟩ := hrel
          have HT := hidI hst
          obtain ⟨ua, uc, hu⟩ := hst.lc.shape
          obtain ⟨nr, hnr⟩ : ∃ nr, nr = R.length := ⟨_, rfl⟩
          rw [← hnr] at hu hjR
          subst hu
          have HNR := hidI hnr
          clear hst hnr
          by_cases hne : 0 < nr
          · have hRok : Hid (∀ p ∈ R, OkP p) := fun p hp => HT.out.ok p (HT.out.pm.mem_iff.1 (by simp [hp]))
            have t1 : (0 : Int) < (nr : Int) := by omega
            have HB : Hid (∀ (kk : Nat), kk < nr → True) := fun _ _ => trivial
            clear HB
            by_cases hjo : j < no
            · obtain ⟨ov, hov⟩ : ∃ ov, os[j]? = some ov := ⟨os[j]'(by have := HNO.out; omega), by simp⟩
              obtain ⟨ob, ooff, rfl, oc, oi⟩ := (HRO.out.on HT.out.aw).at hov
              have KRT := hidI (rest_c ov ((nr : Int) - 1) wr oi (by omega) (by omega))
              have hri := rest_in (n := ov) (hi := (nr : Int) - 1) (by omega)
              obtain ⟨kk, hkk⟩ : ∃ kk : Nat, restP ov ((nr : Int) - 1) = (kk : Int) := ⟨(restP ov ((nr : Int) - 1)).toNat, by omega⟩
              rw [hkk] at KRT hri
              have hne2 : kk < nr := by omega
              have o2 : 0 ≤ (j : Int) := by omega
              have o3 : (j : Int) < (no : Int) := by omega
              have o4 : ((j : Int)).toNat = j := by omega
              clear hkk hri hov oi
              go_wp2_with fail
              refine KRT.out.mono ?_
              rintro E wr ⟨rfl, rfl⟩
              obtain ⟨p, hp, hpm⟩ := getP_of (show kk < R.length by have := HNR.out; omega)
              obtain ⟨a', cap', he, hcapR, -, hrow, habR⟩ := HT.out.lc.row hRok.out
              simp only [Value.slice.injEq] at he
              obtain ⟨rfl, -, rfl⟩ := he
              obtain ⟨b, off, rfl, ⟨c0, c1, c2⟩, hokp⟩ := hrow.at hp
              have HBN : Hid (b ∉ fpH gb vb) := fun hc => HT.out.s3 b hc (by have := habR _ rfl; simpa using this)
              have hcapN : nr ≤ uc := by rw [HNR.out]; exact hcapR
              clear habR hcapR
              have HPR := hidI hp
              have HPM := hidI hpm
              obtain ⟨i1, i2⟩ := hokp
              obtain ⟨po, pn, pm⟩ := p
              simp only at c0 c1 c2 i1 i2
              have HTK : Hid (putOk mb eb po pn pm = true) := HT.out.pb.takes (p := ⟨po, pn, pm⟩) (e := e) (fun q hq => HT.out.pa.fit q (HT.out.pm.mem_iff.1 (by simp [hq]))) (HT.out.pa.fit _ (HT.out.pm.mem_iff.1 (by simp [hpm])))
              have KP : Hid (∀ q, Calls Try.prog 10 #[.pointer (some ⟨gb, 0, none⟩), .int .i64 po, .int .i64 pn, .bool pm] (wr.drewN q) fun E w' => ∃ r v', E = .returned (.tuple #[r, .int .i64 0]) ∧ Took wr w' gb vb r v' (freshP mb (po, po + pn)) (putM mb po pn pm) (putE eb po pn pm)) := fun q => by
                refine (put_c' po pn pm (HT.out.hb.on ((Away.refl _ _).drewN q)) i1 i2).mono ?_
                intro E w' h
                rcases h with ⟨-, r, v', h1, h2⟩ | ⟨h1, -⟩
                · exact ⟨r, v', h1, h2.base ((Away.refl [] _).drewN q)⟩
                · rw [HTK.out] at h1; simp at h1
              have j2 : 0 ≤ (kk : Int) := by omega
              have j3 : (kk : Int) < (nr : Int) := by omega
              have j4 : ((kk : Int)).toNat = kk := by omega
              clear hp hpm i1 i2 hrow
              go_wp2_with fail
              have hbn : b ∉ fpH gb vb := HBN.out
              go_region_held3 (fun w' => w'.cell? ⟨b, off + kk * 3, none⟩ = some (.int .i64 po) ∧ w'.cell? ⟨b, off + kk * 3 + 1, none⟩ = some (.int .i64 pn) ∧ w'.cell? ⟨b, off + kk * 3 + 2, none⟩ = some (.bool pm)) (go_keep)
                (first | (go_at_call 10; refine (KP.out 1).mono ?_; rintro E w2 ⟨r, vb2, rfl, ht⟩; have z0 := Away.cell ht.aw hbn c0; have z1 := Away.cell ht.aw hbn c1; have z2 := Away.cell ht.aw hbn c2))
              all_goals
                clear z0 z1 z2
                have HTK2 := hidI ht
                have taw : Away (fpH gb vb) wr w2 := ht.aw
                have HL2 := hidI (HT.out.lc.off taw HT.out.s3.symm)
                have hs := sliceC_h (some ⟨b, off, none⟩) nr uc kk (kk : Int) rfl (by omega)
                obtain ⟨A, v1, w3, v2, w4, hA, r1, r2, l2, nw2, aw4⟩ := run_drop w2.drew 22 (some ⟨b, off, none⟩) nr uc kk R HL2.out hRok.out hne2 (by omega)
                have hw1 : IntKind.i64.wrap ((kk : Int) + 1) = (kk : Int) + 1 := by rw [IntKind.wrap_i64]; omega
                have hw2 : ((kk : Int) + 1).toNat = kk + 1 := by omega
                have hw3 : 0 ≤ (kk : Int) + 1 := by omega
                have hw4 : (kk : Int) + 1 ≤ (nr : Int) := by omega
                have hs2 := sliceC_l (some ⟨b, off, none⟩) A nr uc (kk + 1) ((kk : Int) + 1) hA (by omega) (by omega)
                have aw4' : Away [] w2 w4 := ⟨aw4.os, aw4.tape, aw4.output, aw4.size, aw4.block⟩
                have nw2' : New w2.heap.size v2 := nw2
                have HFIN : Hid (Ord2 w w4 ga gb va vb2 v2 m (putM mb po pn pm) e (putE eb po pn pm) L (M ++ [⟨po, pn, pm⟩]) (dropK R kk)) := by
                  have h := HT.out
                  refine ⟨(h.ha.off taw h.s1).on aw4', h.pa, ht.hl.on aw4', h.pb.step HTK.out, l2, h.ok, ?_, (h.s1.symm.move ht.moved h.ha.fp_lt).symm, (sep_new nw2' ht.hl.fp_lt).symm, fun x hx => ?_, nw2'.mono (by have := h.aw.size; have := taw.size; omega), (h.aw.next taw (fun z hz => .inr (h.n2 z hz))).trans aw4'⟩
                  · refine List.Perm.trans ?_ h.pm
                    rw [List.append_assoc]
                    exact List.Perm.append_left M (dropK_perm HPR.out)
                  · simp only [fpH, List.mem_cons, Option.mem_toList] at hx
                    rcases hx with rfl | hx
                    · exact h.n2 x (by simp [fpH])
                    · rcases ht.moved x hx with h1 | h1
                      · exact h.n2 x (by simp [fpH, h1])
                      · have := h.aw.size; omega
                have HDL : Hid ((dropK R kk).length = nr - 1) := by show _ = _; rw [dropK_len (by rw [← HNR.out]; exact hne2), HNR.out]
                obtain ⟨xa, xc, hxe⟩ := l2.shape
                rw [HDL.out] at hxe
                subst hxe
                clear l2 nw2 nw2' aw4 aw4' hA ht taw KP c0 c1 c2
                go_wp2_with fail
                refine wp_region_held_drew (S := (fun _ => True)) (by kernel_rfl) trivial (fun hHeld => ?_)
                refine wpAnyH_take (i := 0) (v := ?_) (by simp only [List.getElem?_toArray, List.getElem?_cons_zero]; rfl) (by kernel_rfl) (by kernel_rfl) (by kernel_rfl) (by exact fun _ _ _ h => h) (Or.inl ⟨by rfl, ?_⟩) (by assumption) ?_
                rotate_left
                · intro wq hSw
                  (try dsimp only at hSw)
                  go_simp
                  all_goals (with_reducible rfl)
                try simp only [Act.put, List.setIfInBounds_toArray, List.set_cons_zero, List.set_cons_succ]
                refine wpAnyH_take (i := 1) (v := ?_) (by simp only [List.getElem?_toArray, List.getElem?_cons_succ, List.getElem?_cons_zero]; rfl) (by kernel_rfl) (by kernel_rfl) (by kernel_rfl) (by exact fun _ _ _ h => h) (Or.inl ⟨by rfl, ?_⟩) (by assumption) ?_
                rotate_left
                · intro wq hSw
                  (try dsimp only at hSw)
                  go_simp
                  all_goals (with_reducible rfl)
                try simp only [Act.put, List.setIfInBounds_toArray, List.set_cons_zero, List.set_cons_succ]
                refine wpAnyH_take (i := 2) (v := ?_) (by simp only [List.getElem?_toArray, List.getElem?_cons_succ, List.getElem?_cons_zero]; rfl) (by kernel_rfl) (by kernel_rfl) (by kernel_rfl) (by exact fun _ _ _ h => h) (Or.inl ⟨by rfl, ?_⟩) (by assumption) ?_
                rotate_left
                · intro wq hSw
                  (try dsimp only at hSw)
                  go_simp
                  all_goals (with_reducible rfl)
                try simp only [Act.put, List.setIfInBounds_toArray, List.set_cons_zero, List.set_cons_succ]
                refine wpAnyH_take (i := 4) (v := ?_) (by simp only [List.getElem?_toArray, List.getElem?_cons_succ, List.getElem?_cons_zero]; rfl) (by kernel_rfl) (by kernel_rfl) (by kernel_rfl) (by exact fun _ _ _ h => h) (Or.inl ⟨by rfl, ?_⟩) (by assumption) ?_
                rotate_left
                · intro wq hSw
                  (try dsimp only at hSw)
                  go_simp
                  all_goals (with_reducible rfl)
                try simp only [Act.put, List.setIfInBounds_toArray, List.set_cons_zero, List.set_cons_succ]
                refine wpAnyH_take (i := 5) (v := ?_) (by simp only [List.getElem?_toArray, List.getElem?_cons_succ, List.getElem?_cons_zero]; rfl) (by kernel_rfl) (by kernel_rfl) (by kernel_rfl) (by exact fun _ _ _ h => h) (Or.inl ⟨by rfl, ?_⟩) (by assumption) ?_
                rotate_left
                · intro wq hSw
                  (try dsimp only at hSw)
                  go_simp
                  all_goals (with_reducible rfl)
                try simp only [Act.put, List.setIfInBounds_toArray, List.set_cons_zero, List.set_cons_succ]
                refine wpAnyH_take (i := 6) (v := ?_) (by simp only [List.getElem?_toArray, List.getElem?_cons_succ, List.getElem?_cons_zero]; rfl) (by kernel_rfl) (by kernel_rfl) (by kernel_rfl) (by exact fun _ _ _ h => h) (Or.inl ⟨by rfl, ?_⟩) (by assumption) ?_
                rotate_left
                · intro wq hSw
                  (try dsimp only at hSw)
                  go_simp
                  all_goals (with_reducible rfl)
                try simp only [Act.put, List.setIfInBounds_toArray, List.set_cons_zero, List.set_cons_succ]
                refine wpAnyH_take (i := 7) (v := ?_) (by simp only [List.getElem?_toArray, List.getElem?_cons_succ, List.getElem?_cons_zero]; rfl) (by kernel_rfl) (by kernel_rfl) (by kernel_rfl) (by exact fun _ _ _ h => h) (Or.inl ⟨by rfl, ?_⟩) (by assumption) ?_
                rotate_left
                · intro wq hSw
                  (try dsimp only at hSw)
                  go_simp
                  all_goals (with_reducible rfl)
                try simp only [Act.put, List.setIfInBounds_toArray, List.set_cons_zero, List.set_cons_succ]
                refine wpAnyH_ready (rs := [3]) (by kernel_rfl) (by simp) ?_
                refine AllReadyH.cons (by simp only [List.getElem?_toArray, List.getElem?_cons_succ, List.getElem?_cons_zero]; rfl) (fun K hK => ?_) AllReadyH.nil
                refine step_append_run rfl (.const (.slice none 0 0)) (.tmp 110) rfl (.slice none 0 0) (.slice (some ⟨b, off, none⟩) kk uc) rfl rfl r1 ?_
                refine hK.out _ _ trivial (fun hHeld => ?_)
                clear hK K
                try simp only [Act.put, List.setIfInBounds_toArray, List.set_cons_zero, List.set_cons_succ]
                refine wpAnyH_ready (rs := [8]) (by kernel_rfl) (by simp) ?_
                refine AllReadyH.cons (by simp only [List.getElem?_toArray, List.getElem?_cons_succ, List.getElem?_cons_zero]; rfl) (fun K hK => ?_) AllReadyH.nil
                refine step_append_run rfl (.tmp 111) (.tmp 115) rfl v1 (.slice A (nr - (kk + 1)) (uc - (kk + 1))) rfl rfl r2 ?_
                refine hK.out _ _ trivial (fun hHeld => ?_)
                clear hK K
                try simp only [Act.put, List.setIfInBounds_toArray, List.set_cons_zero, List.set_cons_succ]
                refine wpAnyH_take (i := 9) (v := ?_) (by simp only [List.getElem?_toArray, List.getElem?_cons_succ, List.getElem?_cons_zero]; rfl) (by kernel_rfl) (by kernel_rfl) (by kernel_rfl) (by exact fun _ _ _ h => h) (Or.inl ⟨by rfl, ?_⟩) (by assumption) ?_
                rotate_left
                · intro wq hSw
                  (try dsimp only at hSw)
                  go_simp
                  all_goals (with_reducible rfl)
                try simp only [Act.put, List.setIfInBounds_toArray, List.set_cons_zero, List.set_cons_succ]
                refine wpAnyH_done (by kernel_rfl) ?_ _
                go_wp2_with fail
                go_roundw
                case rel => exact ⟨j + 1, by go_num, by omega, vb2, _, _, _, _, HFIN.out, by rw [HDL.out]; omega⟩
                case measure => simp [lenV]; omega
            · obtain ⟨kk, hkk⟩ : ∃ kk : Nat, (nr : Int) - 1 = (kk : Int) := ⟨nr - 1, by omega⟩
              have hne2 : kk < nr := by omega
              have hkx : (nr : Int) - 1 = (kk : Int) := hkk
              have o3 : ¬ ((j : Int) < (no : Int)) := by omega
              clear hkk
              obtain ⟨p, hp, hpm⟩ := getP_of (show kk < R.length by have := HNR.out; omega)
              obtain ⟨a', cap', he, hcapR, -, hrow, habR⟩ := HT.out.lc.row hRok.out
              simp only [Value.slice.injEq] at he
              obtain ⟨rfl, -, rfl⟩ := he
              obtain ⟨b, off, rfl, ⟨c0, c1, c2⟩, hokp⟩ := hrow.at hp
              have HBN : Hid (b ∉ fpH gb vb) := fun hc => HT.out.s3 b hc (by have := habR _ rfl; simpa using this)
              have hcapN : nr ≤ uc := by rw [HNR.out]; exact hcapR
              clear habR hcapR
              have HPR := hidI hp
              have HPM := hidI hpm
              obtain ⟨i1, i2⟩ := hokp
              obtain ⟨po, pn, pm⟩ := p
              simp only at c0 c1 c2 i1 i2
              have HTK : Hid (putOk mb eb po pn pm = true) := HT.out.pb.takes (p := ⟨po, pn, pm⟩) (e := e) (fun q hq => HT.out.pa.fit q (HT.out.pm.mem_iff.1 (by simp [hq]))) (HT.out.pa.fit _ (HT.out.pm.mem_iff.1 (by simp [hpm])))
              have KP : Hid (∀ q, Calls Try.prog 10 #[.pointer (some ⟨gb, 0, none⟩), .int .i64 po, .int .i64 pn, .bool pm] (wr.drewN q) fun E w' => ∃ r v', E = .returned (.tuple #[r, .int .i64 0]) ∧ Took wr w' gb vb r v' (freshP mb (po, po + pn)) (putM mb po pn pm) (putE eb po pn pm)) := fun q => by
                refine (put_c' po pn pm (HT.out.hb.on ((Away.refl _ _).drewN q)) i1 i2).mono ?_
                intro E w' h
                rcases h with ⟨-, r, v', h1, h2⟩ | ⟨h1, -⟩
                · exact ⟨r, v', h1, h2.base ((Away.refl [] _).drewN q)⟩
                · rw [HTK.out] at h1; simp at h1
              have j2 : 0 ≤ (kk : Int) := by omega
              have j3 : (kk : Int) < (nr : Int) := by omega
              have j4 : ((kk : Int)).toNat = kk := by omega
              clear hp hpm i1 i2 hrow
              go_wp2_with fail
              have hbn : b ∉ fpH gb vb := HBN.out
              go_region_held3 (fun w' => w'.cell? ⟨b, off + kk * 3, none⟩ = some (.int .i64 po) ∧ w'.cell? ⟨b, off + kk * 3 + 1, none⟩ = some (.int .i64 pn) ∧ w'.cell? ⟨b, off + kk * 3 + 2, none⟩ = some (.bool pm)) (go_keep)
                (first | (go_at_call 10; refine (KP.out 1).mono ?_; rintro E w2 ⟨r, vb2, rfl, ht⟩; have z0 := Away.cell ht.aw hbn c0; have z1 := Away.cell ht.aw hbn c1; have z2 := Away.cell ht.aw hbn c2))
              all_goals
                clear z0 z1 z2
                have HTK2 := hidI ht
                have taw : Away (fpH gb vb) wr w2 := ht.aw
                have HL2 := hidI (HT.out.lc.off taw HT.out.s3.symm)
                have hs := sliceC_h (some ⟨b, off, none⟩) nr uc kk (kk : Int) rfl (by omega)
                obtain ⟨A, v1, w3, v2, w4, hA, r1, r2, l2, nw2, aw4⟩ := run_drop w2.drew 22 (some ⟨b, off, none⟩) nr uc kk R HL2.out hRok.out hne2 (by omega)
                have hw1 : IntKind.i64.wrap ((kk : Int) + 1) = (kk : Int) + 1 := by rw [IntKind.wrap_i64]; omega
                have hw2 : ((kk : Int) + 1).toNat = kk + 1 := by omega
                have hw3 : 0 ≤ (kk : Int) + 1 := by omega
                have hw4 : (kk : Int) + 1 ≤ (nr : Int) := by omega
                have hs2 := sliceC_l (some ⟨b, off, none⟩) A nr uc (kk + 1) ((kk : Int) + 1) hA (by omega) (by omega)
                have aw4' : Away [] w2 w4 := ⟨aw4.os, aw4.tape, aw4.output, aw4.size, aw4.block⟩
                have nw2' : New w2.heap.size v2 := nw2
                have HFIN : Hid (Ord2 w w4 ga gb va vb2 v2 m (putM mb po pn pm) e (putE eb po pn pm) L (M ++ [⟨po, pn, pm⟩]) (dropK R kk)) := by
                  have h := HT.out
                  refine ⟨(h.ha.off taw h.s1).on aw4', h.pa, ht.hl.on aw4', h.pb.step HTK.out, l2, h.ok, ?_, (h.s1.symm.move ht.moved h.ha.fp_lt).symm, (sep_new nw2' ht.hl.fp_lt).symm, fun x hx => ?_, nw2'.mono (by have := h.aw.size; have := taw.size; omega), (h.aw.next taw (fun z hz => .inr (h.n2 z hz))).trans aw4'⟩
                  · refine List.Perm.trans ?_ h.pm
                    rw [List.append_assoc]
                    exact List.Perm.append_left M (dropK_perm HPR.out)
                  · simp only [fpH, List.mem_cons, Option.mem_toList] at hx
                    rcases hx with rfl | hx
                    · exact h.n2 x (by simp [fpH])
                    · rcases ht.moved x hx with h1 | h1
                      · exact h.n2 x (by simp [fpH, h1])
                      · have := h.aw.size; omega
                have HDL : Hid ((dropK R kk).length = nr - 1) := by show _ = _; rw [dropK_len (by rw [← HNR.out]; exact hne2), HNR.out]
                obtain ⟨xa, xc, hxe⟩ := l2.shape
                rw [HDL.out] at hxe
                subst hxe
                clear l2 nw2 nw2' aw4 aw4' hA ht taw KP c0 c1 c2
                go_wp2_with fail
                refine wp_region_held_drew (S := (fun _ => True)) (by kernel_rfl) trivial (fun hHeld => ?_)
                refine wpAnyH_take (i := 0) (v := ?_) (by simp only [List.getElem?_toArray, List.getElem?_cons_zero]; rfl) (by kernel_rfl) (by kernel_rfl) (by kernel_rfl) (by exact fun _ _ _ h => h) (Or.inl ⟨by rfl, ?_⟩) (by assumption) ?_
                rotate_left
                · intro wq hSw
                  (try dsimp only at hSw)
                  go_simp
                  all_goals (with_reducible rfl)
                try simp only [Act.put, List.setIfInBounds_toArray, List.set_cons_zero, List.set_cons_succ]
                refine wpAnyH_take (i := 1) (v := ?_) (by simp only [List.getElem?_toArray, List.getElem?_cons_succ, List.getElem?_cons_zero]; rfl) (by kernel_rfl) (by kernel_rfl) (by kernel_rfl) (by exact fun _ _ _ h => h) (Or.inl ⟨by rfl, ?_⟩) (by assumption) ?_
                rotate_left
                · intro wq hSw
                  (try dsimp only at hSw)
                  go_simp
                  all_goals (with_reducible rfl)
                try simp only [Act.put, List.setIfInBounds_toArray, List.set_cons_zero, List.set_cons_succ]
                refine wpAnyH_take (i := 2) (v := ?_) (by simp only [List.getElem?_toArray, List.getElem?_cons_succ, List.getElem?_cons_zero]; rfl) (by kernel_rfl) (by kernel_rfl) (by kernel_rfl) (by exact fun _ _ _ h => h) (Or.inl ⟨by rfl, ?_⟩) (by assumption) ?_
                rotate_left
                · intro wq hSw
                  (try dsimp only at hSw)
                  go_simp
                  all_goals (with_reducible rfl)
                try simp only [Act.put, List.setIfInBounds_toArray, List.set_cons_zero, List.set_cons_succ]
                refine wpAnyH_take (i := 4) (v := ?_) (by simp only [List.getElem?_toArray, List.getElem?_cons_succ, List.getElem?_cons_zero]; rfl) (by kernel_rfl) (by kernel_rfl) (by kernel_rfl) (by exact fun _ _ _ h => h) (Or.inl ⟨by rfl, ?_⟩) (by assumption) ?_
                rotate_left
                · intro wq hSw
                  (try dsimp only at hSw)
                  go_simp
                  all_goals (with_reducible rfl)
                try simp only [Act.put, List.setIfInBounds_toArray, List.set_cons_zero, List.set_cons_succ]
                refine wpAnyH_take (i := 5) (v := ?_) (by simp only [List.getElem?_toArray, List.getElem?_cons_succ, List.getElem?_cons_zero]; rfl) (by kernel_rfl) (by kernel_rfl) (by kernel_rfl) (by exact fun _ _ _ h => h) (Or.inl ⟨by rfl, ?_⟩) (by assumption) ?_
                rotate_left
                · intro wq hSw
                  (try dsimp only at hSw)
                  go_simp
                  all_goals (with_reducible rfl)
                try simp only [Act.put, List.setIfInBounds_toArray, List.set_cons_zero, List.set_cons_succ]
                refine wpAnyH_take (i := 6) (v := ?_) (by simp only [List.getElem?_toArray, List.getElem?_cons_succ, List.getElem?_cons_zero]; rfl) (by kernel_rfl) (by kernel_rfl) (by kernel_rfl) (by exact fun _ _ _ h => h) (Or.inl ⟨by rfl, ?_⟩) (by assumption) ?_
                rotate_left
                · intro wq hSw
                  (try dsimp only at hSw)
                  go_simp
                  all_goals (with_reducible rfl)
                try simp only [Act.put, List.setIfInBounds_toArray, List.set_cons_zero, List.set_cons_succ]
                refine wpAnyH_take (i := 7) (v := ?_) (by simp only [List.getElem?_toArray, List.getElem?_cons_succ, List.getElem?_cons_zero]; rfl) (by kernel_rfl) (by kernel_rfl) (by kernel_rfl) (by exact fun _ _ _ h => h) (Or.inl ⟨by rfl, ?_⟩) (by assumption) ?_
                rotate_left
                · intro wq hSw
                  (try dsimp only at hSw)
                  go_simp
                  all_goals (with_reducible rfl)
                try simp only [Act.put, List.setIfInBounds_toArray, List.set_cons_zero, List.set_cons_succ]
                refine wpAnyH_ready (rs := [3]) (by kernel_rfl) (by simp) ?_
                refine AllReadyH.cons (by simp only [List.getElem?_toArray, List.getElem?_cons_succ, List.getElem?_cons_zero]; rfl) (fun K hK => ?_) AllReadyH.nil
                refine step_append_run rfl (.const (.slice none 0 0)) (.tmp 110) rfl (.slice none 0 0) (.slice (some ⟨b, off, none⟩) kk uc) rfl rfl r1 ?_
                refine hK.out _ _ trivial (fun hHeld => ?_)
                clear hK K
                try simp only [Act.put, List.setIfInBounds_toArray, List.set_cons_zero, List.set_cons_succ]
                refine wpAnyH_ready (rs := [8]) (by kernel_rfl) (by simp) ?_
                refine AllReadyH.cons (by simp only [List.getElem?_toArray, List.getElem?_cons_succ, List.getElem?_cons_zero]; rfl) (fun K hK => ?_) AllReadyH.nil
                refine step_append_run rfl (.tmp 111) (.tmp 115) rfl v1 (.slice A (nr - (kk + 1)) (uc - (kk + 1))) rfl rfl r2 ?_
                refine hK.out _ _ trivial (fun hHeld => ?_)
                clear hK K
                try simp only [Act.put, List.setIfInBounds_toArray, List.set_cons_zero, List.set_cons_succ]
                refine wpAnyH_take (i := 9) (v := ?_) (by simp only [List.getElem?_toArray, List.getElem?_cons_succ, List.getElem?_cons_zero]; rfl) (by kernel_rfl) (by kernel_rfl) (by kernel_rfl) (by exact fun _ _ _ h => h) (Or.inl ⟨by rfl, ?_⟩) (by assumption) ?_
                rotate_left
                · intro wq hSw
                  (try dsimp only at hSw)
                  go_simp
                  all_goals (with_reducible rfl)
                try simp only [Act.put, List.setIfInBounds_toArray, List.set_cons_zero, List.set_cons_succ]
                refine wpAnyH_done (by kernel_rfl) ?_ _
                go_wp2_with fail
                go_roundw
                case rel => exact ⟨j + 1, by go_num, by omega, vb2, _, _, _, _, HFIN.out, by rw [HDL.out]; omega⟩
                case measure => simp [lenV]; omega
          · obtain rfl : nr = 0 := by omega
            have hR : R = [] := List.eq_nil_of_length_eq_zero HNR.out.symm
            have HPM : Hid (M.Perm L) := by show M.Perm L; have := HT.out.pm; rw [hR] at this; simpa using this
            obtain ⟨heq, hee⟩ := HT.out.pa.uniq HT.out.pb HPM.out.symm
            have HHa := hidI HT.out.ha
            have HHb := hidI HT.out.hb
            rw [← heq, ← hee] at HHb
            have HAW := hidI HT.out.aw
            clear heq hee hR
            have K1 := hidI (holes_c HHa.out)
            go_wp2_with fail
            refine K1.out.mono ?_
            rintro E w2 ⟨x, rfl, hmk⟩
            have A2 := hidI hmk.2.2
            have LX := hidI hmk.1
            clear hmk
            have K2 := hidI (holes_c (HHb.out.on A2.out))
            go_wp2_with fail
            refine K2.out.mono ?_
            rintro E w3 ⟨y, rfl, hmk⟩
            have A3 := hidI hmk.2.2
            have LY := hidI hmk.1
            clear hmk
            have K3 := hidI (same_yes (LX.out.on A3.out) LY.out (fun s hs => is_ok (right_is HHa.out.right s hs)) (by have := right_short HHa.out.right; omega))
            go_wp2_with fail
            refine K3.out.mono ?_
            rintro E w4 ⟨rfl, q4, h4⟩
            have A4 : Hid (Away [] w3 w4) := by show Away _ _ _; rw [h4]; exact (Away.refl _ _).drewN _
            clear h4
            have K4 := hidI (end_c (HHa.out.on ((A2.out.trans A3.out).trans A4.out)))
            have K5 := hidI (end_c (HHb.out.on ((A2.out.trans A3.out).trans A4.out)))
            have K6 := hidI (done_c (HHa.out.on ((A2.out.trans A3.out).trans A4.out)))
            have K7 := hidI (done_c (HHb.out.on ((A2.out.trans A3.out).trans A4.out)))
            have AWF : Hid (Below w.heap.size w w4) := (((HAW.out.trans A2.out).trans A3.out).trans A4.out).to_below
            generalize doneP m e = dd at *
            go_wp2_with fail
            refine K4.out.mono ?_
            rintro E w4 ⟨rfl, rfl⟩
            go_wp2_with fail
            refine K5.out.mono ?_
            rintro E w4 ⟨rfl, rfl⟩
            go_wp2_with fail
            refine K6.out.mono ?_
            rintro E w4 ⟨rfl, rfl⟩
            go_wp2_with fail
            refine K7.out.mono ?_
            rintro E w4 ⟨rfl, rfl⟩
            go_wp2_with fail
            go_ret
            exact ⟨by first | rfl | simp, AWF.out⟩
theorem lifted (os : Os) (started : os.Started) (H : Type) (enc : TypeId × Value → H) :
    ReturnsInHanded {} Try.checked os 3 .any (Rows.holesOrdersSpec.pre6 enc Try.prog Try.f3 Rows.holesOrdersRow.domain false) (Rows.holesOrdersSpec.post enc Try.prog Try.f3 false true false false) := by
  refine returnsInHanded_of_change_sized (C := Try.checked) ownKn started (by kernel_rfl) Try.func3
    (ChangeSpec.witness6 (enc := enc) (C := Try.checked) false ⟨#[], #[.slice none 0 0, .slice none 0 0], []⟩ 8 (by kernel_rfl) (by kernel_rfl) (by kernel_rfl) (by kernel_rfl)) ?_
  intro W base args ds gs before hval0 hW _ hsz0 _
  have hsz : (DataW.weightsEach Try.prog (Try.f3.params.toList ++ Rows.holesOrdersSpec.plain.varTypes Try.prog) (ds ++ gs)).all (· ≤ reachBytes) = true := hsz0
  clear hsz0
  have hval : ∀ (j : Nat) t v, Try.f3.params[j]? = some t → args[j]? = some v → Value.okWide Try.prog W .any base t v := hval0
  have hW' := hW
  obtain ⟨p, q, hA0, hV, rfl, hfz, hnd⟩ := hW
  have hA : DataW.TrodAll enc Try.prog W 0 (fun _ => true) true Try.f3.params.toList args.toList ds p := hA0
  rw [Try.params3] at hA hval hsz
  obtain ⟨v0, vs0, d0, ds0, p0, q0, hargs, rfl, rfl, h0, r0⟩ := trodAll_cons hA
  obtain ⟨v1, vs1, d1, ds1, p1, q1, rfl, rfl, rfl, h1, r1⟩ := trodAll_cons r0
  obtain ⟨rfl, rfl, rfl⟩ := trodAll_nil r1
  obtain rfl : args = #[v0, v1] := by cases args; simp_all
  have hV2 : DataW.TrodVars enc Try.prog W (fun _ => true) Rows.holesOrdersSpec.vars gs q := hV
  obtain ⟨rfl, rfl⟩ := trodVars_none hV2
  have k0 := h0
  have lt0 : ∀ x ∈ p0, x.block < W.heap.size := by obtain ⟨m, hm⟩ := k0; exact DataW.trod_lt m _ _ _ hm
  have z0 : ∀ m ∈ d0.weights Try.prog 22, m ≤ reachBytes := fun m hm => by
    have := List.all_eq_true.1 hsz m (DataW.weights_mem_each (j := 0) (t := 22) rfl rfl m hm)
    simpa using this
  obtain ⟨a0, len0, cap0, rfl⟩ := okWide_slice Try.underlying22 (hval 0 22 v0 rfl rfl)
  obtain ⟨l0, rfl, w0, u0, b0⟩ := open_script h0 z0 lt0
  have k1 := h1
  have lt1 : ∀ x ∈ p1, x.block < W.heap.size := by obtain ⟨m, hm⟩ := k1; exact DataW.trod_lt m _ _ _ hm
  have z1 : ∀ m ∈ d1.weights Try.prog 23, m ≤ reachBytes := fun m hm => by
    have := List.all_eq_true.1 hsz m (DataW.weights_mem_each (j := 1) (t := 23) rfl rfl m hm)
    simpa using this
  obtain ⟨a1, len1, cap1, rfl⟩ := okWide_slice Try.underlying23 (hval 1 23 v1 rfl rfl)
  obtain ⟨l1, rfl, w1, u1, b1⟩ := open_nums h1 z1 lt1
  clear hA0 hval0
  refine (walk a0 l0 cap0 a1 l1 cap1 W w0 b0 w1 b1).mono fun e W' ⟨he, bel⟩ => ?_
  subst he
  exact ⟨_, rfl, _, _, _, [], _, [], hW', trodAll_mk1 (shut_bool Try.underlying4 _), (trodAll_cons_mk (Below.trod laidOut (by kernel_rfl) (of_decide_eq_true (by kernel_rfl)) k0 bel lt0) (trodAll_cons_mk (Below.trod laidOut (by kernel_rfl) (of_decide_eq_true (by kernel_rfl)) k1 bel lt1) trodAll_mk0)), rfl, bel.frame _, fun h => by cases h⟩
theorem over : Rows.holesOrdersRow.holds Try.pinned (OpenSpec.ofChange Rows.holesOrdersSpec) :=
  OpenClaim.holds_of_wide 3 Try.f3 rfl rfl rfl rfl rfl rfl rfl ⟨rfl, rfl, rfl, rfl, rfl⟩ rfl rfl rfl rfl rfl (by kernel_rfl) Try.func3 (by kernel_rfl)
    (of_decide_eq_true (by kernel_rfl)) (by unfold Func.isWrapper; first | (rw [if_pos (by decide +kernel)]; kernel_rfl) | (rw [if_neg (by decide +kernel)]; exact ⟨rfl, rfl⟩))
    (fun os started H enc _ => lifted os started H enc)
end holesOrders
theorem holesOrders_holds : Rows.HolesOrdersSaid := holesOrders.over
#print axioms holesOrders_holds
end Go.Proofs.Ytcjkhpinccjncaa
