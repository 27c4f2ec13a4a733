/-
  HolesCuts.
-/
import Derived.Test.YtcjkhpinccjncaaCutN
namespace Go.Proofs.Ytcjkhpinccjncaa
open Go.ChangeShapes Go.WideShapes Go.ChangeAt Go.RowKit Go.Deep
set_option linter.unusedVariables false
set_option linter.unusedSimpArgs false
set_option maxRecDepth 100000

/-- A hole list, what is left of the one cut and the other cut, side by side. -/
structure CutS (N : Int) (w wr : World) (g : Nat) (v : Value) (m : List Sp) (e : Int) (M : List Pc) (u : Value) (R : List Pc) (uo : Value) (O : List Pc) : Prop where
  h : Hl wr g v m e
  p : Put M m e
  lr : LstC wr u R
  lo : LstC wr uo O
  s1 : Sep (fpH g v) u.ownBlock.toList
  s2 : Sep (fpH g v) uo.ownBlock.toList
  n1 : ∀ x ∈ fpH g v, w.heap.size ≤ x
  n2 : New w.heap.size u
  aw : Away [] w wr
  fm : ∀ p ∈ M, Fit N p
  fr : ∀ p ∈ R, Fit N p
  okr : ∀ p ∈ R, OkP p
theorem CutS.on {N : Int} {w wr w' : World} {g : Nat} {v u uo : Value} {m : List Sp} {e : Int} {M R O : List Pc} (h : CutS N w wr g v m e M u R uo O) (hw : Away [] wr w') : CutS N w w' g v m e M u R uo O :=
  ⟨h.h.on hw, h.p, h.lr.on hw, h.lo.on hw, h.s1, h.s2, h.n1, h.n2, h.aw.trans hw, h.fm, h.fr, h.okr⟩
theorem CutS.put {N : Int} {w wr w' : World} {g : Nat} {v u uo r v' : Value} {m f : List Sp} {e : Int} {M R O : List Pc} {p : Pc} (h : CutS N w wr g v m e M u R uo O) (hp : Fit N p) (hok : putOk m e p.o p.n p.m = true)
    (t : Took wr w' g v r v' f (putM m p.o p.n p.m) (putE e p.o p.n p.m)) : CutS N w w' g v' (putM m p.o p.n p.m) (putE e p.o p.n p.m) (M ++ [p]) u R uo O := by
  have taw : Away (fpH g v) wr w' := t.aw
  refine ⟨t.hl, h.p.step hok, h.lr.off taw h.s1.symm, h.lo.off taw h.s2.symm, h.s1.move t.moved h.lr.fp_lt, h.s2.move t.moved h.lo.fp_lt, fun x hx => ?_, h.n2, h.aw.next taw (fun z hz => .inr (h.n1 z hz)), fun q hq => ?_, h.fr, h.okr⟩
  · simp only [fpH, List.mem_cons, Option.mem_toList] at hx
    rcases hx with rfl | hx
    · exact h.n1 x (by simp [fpH])
    · rcases t.moved x hx with h1 | h1
      · exact h.n1 x (by simp [fpH, h1])
      · have := h.aw.size; omega
  · rw [List.mem_append, List.mem_singleton] at hq
    rcases hq with hq | rfl
    · exact h.fm q hq
    · exact hp
theorem CutS.drop {N : Int} {w wr w' : World} {g : Nat} {v u uo u' : Value} {m : List Sp} {e : Int} {M R O : List Pc} {k : Nat} (h : CutS N w wr g v m e M u R uo O) (hl : LstC w' u' (dropK R k)) (hn : New wr.heap.size u') (hw : Away [] wr w') : CutS N w w' g v m e M u' (dropK R k) uo O := by
  have hsub : ∀ q ∈ dropK R k, q ∈ R := fun q hq => by
    unfold dropK at hq
    rw [List.mem_append] at hq
    rcases hq with hq | hq
    · exact List.mem_of_mem_take hq
    · exact List.mem_of_mem_drop hq
  exact ⟨h.h.on hw, h.p, hl, h.lo.on hw, (sep_new hn h.h.fp_lt).symm, h.s2, h.n1, hn.mono h.aw.size, h.aw.trans hw, h.fm, fun q hq => h.fr q (hsub q hq), fun q hq => h.okr q (hsub q hq)⟩
/-- What the loop holds. -/
def CutI (N : Int) (w wr : World) (g : Nat) (u uo : Value) (O L : List Pc) (t : Int) (d : Bool) (j : Nat) : Prop :=
  ∃ v m e M R, CutS N w wr g v m e M u R uo O ∧ (∀ p ∈ L, p ∈ M ∨ p ∈ R) ∧ t = cnt (TL M) 65535 ∧ d = decide (e ≠ -1) ∧ j + R.length ≤ 65535
theorem cnt_le {M : List Pc} {m : List Sp} {e : Int} (h : Put M m e) : 0 ≤ cnt (TL M) 65535 ∧ cnt (TL M) 65535 ≤ 65535 := by
  have h1 := cnt_holes h.ho
  have h2 := (len_bound m (right_is h.ho.of.right)).1
  have h3 := cnt_ge (TL M) 65535
  have h4 : topOf e ≤ 65535 := by have := h.ho.en; unfold topOf; split <;> omega
  omega
/-- Put of a piece that fits: what it tells, by letters. -/
theorem putF {N : Int} {w wr : World} {g : Nat} {v u uo : Value} {m : List Sp} {e : Int} {M R O : List Pc} {p : Pc} (h : CutS N w wr g v m e M u R uo O) (hp : Fit N p) (ho : OkP p) (h1 : 1 ≤ N) :
    Calls Try.prog 10 #[.pointer (some ⟨g, 0, none⟩), .int .i64 p.o, .int .i64 p.n, .bool p.m] wr fun E w' => ∃ r, E = .returned (.tuple #[r, .int .i64 0]) ∧ ∃ v' m' e' f, CutS N w w' g v' m' e' (M ++ [p]) u R uo O ∧ Away (fpH g v) wr w' ∧
      Lst w' r f ∧ rightP f = true ∧ cnt (TL M) 65535 + lenP f = cnt (TL (M ++ [p])) 65535 ∧ decide (e' ≠ -1) = (decide (e ≠ -1) || !p.m) := by
  have hok := h.p.takes h.fm hp
  refine (put_c' p.o p.n p.m h.h ho.1 ho.2).mono ?_
  intro E w' hq
  rcases hq with ⟨-, r, v', rfl, t⟩ | ⟨hno, -⟩
  · have hf := cnt_fresh h.p.ho hok
    rw [TL_fun M p] at hf
    have ha := hp.arg
    have hok' := hok
    unfold putOk at hok'
    rw [Bool.and_eq_true] at hok'
    refine ⟨r, rfl, v', _, _, _, h.put hp hok t, t.aw, t.fresh, (fresh_ho h.p.ho hok'.1 hok'.2).right, hf, ?_⟩
    rw [arg_iff] at ha
    unfold putE
    cases hm : p.m
    · rw [if_neg (by simp), decide_eq_true (show p.o + p.n ≠ -1 by omega)]; simp
    · rw [if_pos rfl]; simp
  · rw [hok] at hno; simp at hno
theorem ex_eq (a : Int) : ∃ t, t = a := ⟨a, rfl⟩
theorem quo7 (n : Int) (h : I64 n) : I64 (n.tdiv 7) := by
  unfold I64 at h ⊢
  have h1 := Int.mul_tdiv_add_tmod n 7
  have h2 := Int.tmod_lt_of_pos n (show (0 : Int) < 7 by omega)
  have h3 := Int.lt_tmod_of_pos n (show (0 : Int) < 7 by omega)
  omega
namespace holesCuts
set_option maxHeartbeats 32000000 in
theorem walk (n : Int) (ca : Option Addr) (cs : List Int) (ccap : Nat) (ma : Option Addr) (ms : List Int) (mcap : Nat) (oa : Option Addr) (os : List Int) (ocap : Nat) (w : World) (hn : (Lit.int .i64 n).wf = true)
    (hc : RowI w ca cs) (hcl : cs.length ≤ 17592186043904) (hm : RowI w ma ms) (hml : ms.length ≤ 17592186043904) (ho : RowI w oa os) (hol : os.length ≤ 17592186043904) :
    Calls Try.prog 5 #[.int .i64 n, .slice ca cs.length ccap, .slice ma ms.length mcap, .slice oa os.length ocap] w fun E w' => E = .returned (.bool true) ∧ Below w.heap.size w w' := by
  have HC := hidI hc
  have HMS := hidI hm
  have HRO := hidI ho
  have hnb := bounds_i64 hn
  clear hc hm ho hn
  obtain ⟨nc, hnc⟩ : ∃ nc, nc = cs.length := ⟨_, rfl⟩
  rw [← hnc] at hcl ⊢
  have HNC := hidI hnc.symm
  obtain ⟨nm, hnm⟩ : ∃ nm, nm = ms.length := ⟨_, rfl⟩
  rw [← hnm] at hml ⊢
  have HNM := hidI hnm.symm
  obtain ⟨no, hno⟩ : ∃ no, no = os.length := ⟨_, rfl⟩
  rw [← hno] at hol ⊢
  have HNO := hidI hno
  clear hnc hnm hno
  have K0 := hidI (fun W => rest_c n 65534 W hnb (by omega) (by omega))
  have hri := rest_in (n := n) (hi := 65534) (by omega)
  generalize restP n 65534 = rr at *
  obtain ⟨N, hN⟩ : ∃ N, 1 + rr = N := ⟨_, rfl⟩
  have h1 : 1 ≤ N := by omega
  have h2 : N ≤ 65535 := by omega
  clear hri hnb
  go_enter Try.func5, Try.ntmps5
  go_wp2_with fail
  refine (K0.out _).mono ?_
  rintro E w ⟨rfl, rfl⟩
  go_wp2_with fail
  refine (new_c w).mono ?_
  rintro E w0 ⟨g, v0, rfl, h0, hg, hv0, haw0⟩
  have H0 := hidI h0
  have HG0 := hidI hg
  have HV0 := hidI hv0
  have HA0 := hidI haw0
  clear h0 hg hv0 haw0 hN K0
  have KK := hidI (known_c w0)
  go_wp2_with fail
  refine KK.out.mono ?_
  rintro E w9 ⟨rfl, haw9⟩
  have HA9 := hidI (HA0.out.trans haw9)
  have H9 := hidI (H0.out.on haw9)
  clear haw9 H0 HA0 KK
  have KC1 := hidI (cut_l N ca cs nc ccap w9 HNC.out (HC.out.on HA9.out) h1 h2 hcl)
  go_wp2_with fail
  refine KC1.out.mono ?_
  rintro E wa ⟨u0, rfl, L, hl, hco, hnw, hawa⟩
  have HLL := hidI hl
  have HCO := hidI hco
  have HNU := hidI hnw
  have HAA := hidI hawa
  clear hl hco hnw hawa KC1
  have KC2 := hidI (cut_l N ma ms nm mcap wa HNM.out (HMS.out.on (HA9.out.trans HAA.out)) h1 h2 hml)
  go_wp2_with fail
  refine KC2.out.mono ?_
  rintro E wb ⟨uo, rfl, O, hl, hco, hnw, hawb⟩
  have HLO := hidI hl
  have HCOO := hidI hco
  have HST : Hid (CutI N w wb g u0 uo O L 0 false 0) := by
    have z9 := HA9.out.size
    have za := HAA.out.size
    have l9 := H9.out.fp_lt
    refine ⟨v0, _, _, [], L, ⟨(H9.out.on HAA.out).on hawb, Put.new, HLL.out.on hawb, hl, (sep_new HNU.out H9.out.fp_lt).symm, (sep_new hnw (H9.out.on HAA.out).fp_lt).symm, fun x hx => ?_, HNU.out.mono z9, (HA9.out.trans HAA.out).trans hawb, by simp, HCO.out.fit, HCO.out.ok⟩, fun p hp => .inr hp, ?_, by simp, by have := HCO.out.len; omega⟩
    · simp only [fpH, List.mem_cons, Option.mem_toList] at hx
      rcases hx with rfl | hx
      · exact HG0.out
      · exact HV0.out x hx
    · exact (cnt_none 65535).symm
  obtain ⟨oo, oc, huo⟩ := hl.shape
  obtain ⟨nO, hnO⟩ : ∃ nO, nO = O.length := ⟨_, rfl⟩
  rw [← hnO] at huo
  subst huo
  have HNOO := hidI hnO
  have hOb : nO ≤ 65535 := by rw [hnO]; exact hco.len
  have hO1 : 0 < nO := by
    rw [hnO]
    obtain ⟨p, hp, -⟩ := hco.last
    exact List.length_pos_of_mem hp
  clear hl hco hnw hawb hnO HLL HNU HAA HA9 H9 HG0 HV0 KC2 HLO
  go_wp2_with fail
  go_loopw [10, 12, 13, 14] (fun u t d i wr => ∃ (j : Nat) (tv : Int) (dv : Bool), i = .int .i64 (j : Int) ∧ t = .int .i64 tv ∧ d = .bool dv ∧ CutI N w wr g u (.slice oo nO oc) O L tv dv j) (fun u _ _ _ _ => lenV u)
  case atStart => exact ⟨0, 0, false, rfl, rfl, rfl, HST.out⟩
  case round =>
    clear HST
    obtain ⟨j, tv, dv, rfl, rfl, rfl, v, m, e, M, R, hst, hmem, htv, hdv, hjR⟩ := hrel
    have HT := hidI hst
    have HMEM := hidI hmem
    have HTV := hidI htv
    have HDV := hidI hdv
    have htb := cnt_le hst.p
    rw [← htv] at htb
    obtain ⟨ua, uc, hu⟩ := hst.lr.shape
    obtain ⟨nr, hnr⟩ : ∃ nr, nr = R.length := ⟨_, rfl⟩
    rw [← hnr] at hu hjR
    subst hu
    have HNR := hidI hnr
    clear hst hnr hmem htv hdv
    by_cases hne : 0 < nr
    · have t1 : (0 : Int) < (nr : Int) := by omega
      by_cases hjo : j < no
      · obtain ⟨ov, hov⟩ : ∃ ov, os[j]? = some ov := ⟨os[j]'(by have := HNO.out; omega), by simp⟩
        have HOC := HRO
        have HOV := hidI hov
        obtain ⟨ob, ooff, rfl, ocell, oi⟩ := (HRO.out.on HT.out.aw).at hov
        have KRT := hidI (rest_c ov ((nr : Int) - 1) wr oi (by omega) (by omega))
        have hri := rest_in (n := ov) (hi := (nr : Int) - 1) (by omega)
        obtain ⟨kk, hkk⟩ : ∃ kk : Nat, restP ov ((nr : Int) - 1) = (kk : Int) := ⟨(restP ov ((nr : Int) - 1)).toNat, by omega⟩
        rw [hkk] at KRT hri
        have hne2 : kk < nr := by omega
        have o2 : 0 ≤ (j : Int) := by omega
        have o3 : (j : Int) < (no : Int) := by omega
        have o4 : ((j : Int)).toNat = j := by omega
        clear hkk hri hov
        go_wp2_with fail
        refine KRT.out.mono ?_
        rintro E wr ⟨rfl, rfl⟩
        obtain ⟨p, hp, hpm⟩ := getP_of (show kk < R.length by have := HNR.out; omega)
        obtain ⟨a', cap', he, hcapR, -, hrow, -⟩ := HT.out.lr.row HT.out.okr
        simp only [Value.slice.injEq] at he
        obtain ⟨rfl, -, rfl⟩ := he
        obtain ⟨b, off, rfl, ⟨c0, c1, c2⟩, hokp⟩ := hrow.at hp
        have hcapN : nr ≤ uc := by rw [HNR.out]; exact hcapR
        have HPR := hidI hp
        have HFP := hidI (HT.out.fr p hpm)
        obtain ⟨poA, pnA, pmA⟩ := p
        simp only at c0 c1 c2
        have HOKP := hidI hokp
        have j2 : 0 ≤ (kk : Int) := by omega
        have j3 : (kk : Int) < (nr : Int) := by omega
        have j4 : ((kk : Int)).toNat = kk := by omega
        obtain ⟨W, hW⟩ : ∃ W, W = wr.alloc (.cells #[.int .i64 poA, .int .i64 pnA, .bool pmA] 32) := ⟨_, rfl⟩
        have AB : Hid (Away [] wr W) := by show Away _ _ _; rw [hW]; exact (Away.refl _ _).alloc _
        have HBXA : Hid (wr.heap.size ∉ fpH g v) := fun hc => by have := HT.out.h.fp_lt _ hc; omega
        have HOKR := hidI HT.out.okr
        replace HT := hidI (HT.out.on AB.out)
        have hs := sliceC_h (some ⟨b, off, none⟩) nr uc kk (kk : Int) rfl (by omega)
        obtain ⟨A, v1, w3, v2, w4, hA, r1, r2, l2, nw2, aw4⟩ := run_drop W.drew 22 (some ⟨b, off, none⟩) nr uc kk R HT.out.lr HOKR.out hne2 (by omega)
        have hw1 : IntKind.i64.wrap ((kk : Int) + 1) = (kk : Int) + 1 := by rw [IntKind.wrap_i64]; omega
        have hw2 : ((kk : Int) + 1).toNat = kk + 1 := by omega
        have hw3 : 0 ≤ (kk : Int) + 1 := by omega
        have hw4 : (kk : Int) + 1 ≤ (nr : Int) := by omega
        have hs2 := sliceC_l (some ⟨b, off, none⟩) A nr uc (kk + 1) ((kk : Int) + 1) hA (by omega) (by omega)
        have aw4' : Away [] W w4 := ⟨aw4.os, aw4.tape, aw4.output, aw4.size, aw4.block⟩
        have HDL : Hid ((dropK R kk).length = nr - 1) := by show _ = _; rw [dropK_len (by rw [← HNR.out]; exact hne2), HNR.out]
        obtain ⟨xa, xc, hxe⟩ := l2.shape
        rw [HDL.out] at hxe
        subst hxe
        have HT4 := hidI (HT.out.drop l2 nw2 aw4')
        have b0 : w4.cell? ⟨wr.heap.size, 0, none⟩ = some (.int .i64 poA) := aw4'.cell (by simp) (by rw [hW]; simp)
        have b1 : w4.cell? ⟨wr.heap.size, 1, none⟩ = some (.int .i64 pnA) := aw4'.cell (by simp) (by rw [hW]; simp)
        have b2 : w4.cell? ⟨wr.heap.size, 2, none⟩ = some (.bool pmA) := aw4'.cell (by simp) (by rw [hW]; simp)
        replace HMEM : Hid (∀ p ∈ L, p ∈ M ++ [⟨poA, pnA, pmA⟩] ∨ p ∈ dropK R kk) := fun p hp => by
          rcases HMEM.out p hp with h | h
          · exact .inl (by simp [h])
          · have := (dropK_perm HPR.out).mem_iff.2 h
            rw [List.mem_cons] at this
            rcases this with h | h
            · exact .inl (by simp [h])
            · exact .inr h
        replace HT := HT4
        clear hp hpm hokp hrow l2 nw2 aw4 aw4' hA hcapR HT4
        go_wp2_with fail
        rw [← hW]
        clear hW c0 c1 c2
        refine wp_region_held_drew (S := (fun _ => True)) (by kernel_rfl) trivial (fun hHeld => ?_)
        refine wpAnyH_take (i := 0) (v := ?_) (by simp only [List.getElem?_toArray, List.getElem?_cons_zero]; rfl) (by kernel_rfl) (by kernel_rfl) (by kernel_rfl) (by exact fun _ _ _ h => h) (Or.inl ⟨by rfl, ?_⟩) (by assumption) ?_
        rotate_left
        · intro wq hSw
          (try dsimp only at hSw)
          go_simp
          all_goals (with_reducible rfl)
        try simp only [Act.put, List.setIfInBounds_toArray, List.set_cons_zero, List.set_cons_succ]
        refine wpAnyH_take (i := 1) (v := ?_) (by simp only [List.getElem?_toArray, List.getElem?_cons_succ, List.getElem?_cons_zero]; rfl) (by kernel_rfl) (by kernel_rfl) (by kernel_rfl) (by exact fun _ _ _ h => h) (Or.inl ⟨by rfl, ?_⟩) (by assumption) ?_
        rotate_left
        · intro wq hSw
          (try dsimp only at hSw)
          go_simp
          all_goals (with_reducible rfl)
        try simp only [Act.put, List.setIfInBounds_toArray, List.set_cons_zero, List.set_cons_succ]
        refine wpAnyH_take (i := 2) (v := ?_) (by simp only [List.getElem?_toArray, List.getElem?_cons_succ, List.getElem?_cons_zero]; rfl) (by kernel_rfl) (by kernel_rfl) (by kernel_rfl) (by exact fun _ _ _ h => h) (Or.inl ⟨by rfl, ?_⟩) (by assumption) ?_
        rotate_left
        · intro wq hSw
          (try dsimp only at hSw)
          go_simp
          all_goals (with_reducible rfl)
        try simp only [Act.put, List.setIfInBounds_toArray, List.set_cons_zero, List.set_cons_succ]
        refine wpAnyH_take (i := 4) (v := ?_) (by simp only [List.getElem?_toArray, List.getElem?_cons_succ, List.getElem?_cons_zero]; rfl) (by kernel_rfl) (by kernel_rfl) (by kernel_rfl) (by exact fun _ _ _ h => h) (Or.inl ⟨by rfl, ?_⟩) (by assumption) ?_
        rotate_left
        · intro wq hSw
          (try dsimp only at hSw)
          go_simp
          all_goals (with_reducible rfl)
        try simp only [Act.put, List.setIfInBounds_toArray, List.set_cons_zero, List.set_cons_succ]
        refine wpAnyH_take (i := 5) (v := ?_) (by simp only [List.getElem?_toArray, List.getElem?_cons_succ, List.getElem?_cons_zero]; rfl) (by kernel_rfl) (by kernel_rfl) (by kernel_rfl) (by exact fun _ _ _ h => h) (Or.inl ⟨by rfl, ?_⟩) (by assumption) ?_
        rotate_left
        · intro wq hSw
          (try dsimp only at hSw)
          go_simp
          all_goals (with_reducible rfl)
        try simp only [Act.put, List.setIfInBounds_toArray, List.set_cons_zero, List.set_cons_succ]
        refine wpAnyH_take (i := 6) (v := ?_) (by simp only [List.getElem?_toArray, List.getElem?_cons_succ, List.getElem?_cons_zero]; rfl) (by kernel_rfl) (by kernel_rfl) (by kernel_rfl) (by exact fun _ _ _ h => h) (Or.inl ⟨by rfl, ?_⟩) (by assumption) ?_
        rotate_left
        · intro wq hSw
          (try dsimp only at hSw)
          go_simp
          all_goals (with_reducible rfl)
        try simp only [Act.put, List.setIfInBounds_toArray, List.set_cons_zero, List.set_cons_succ]
        refine wpAnyH_take (i := 7) (v := ?_) (by simp only [List.getElem?_toArray, List.getElem?_cons_succ, List.getElem?_cons_zero]; rfl) (by kernel_rfl) (by kernel_rfl) (by kernel_rfl) (by exact fun _ _ _ h => h) (Or.inl ⟨by rfl, ?_⟩) (by assumption) ?_
        rotate_left
        · intro wq hSw
          (try dsimp only at hSw)
          go_simp
          all_goals (with_reducible rfl)
        try simp only [Act.put, List.setIfInBounds_toArray, List.set_cons_zero, List.set_cons_succ]
        refine wpAnyH_ready (rs := [3]) (by kernel_rfl) (by simp) ?_
        refine AllReadyH.cons (by simp only [List.getElem?_toArray, List.getElem?_cons_succ, List.getElem?_cons_zero]; rfl) (fun K hK => ?_) AllReadyH.nil
        refine step_append_run rfl (.const (.slice none 0 0)) (.tmp 64) rfl (.slice none 0 0) (.slice (some ⟨b, off, none⟩) kk uc) rfl rfl r1 ?_
        refine hK.out _ _ trivial (fun hHeld => ?_)
        clear hK K
        try simp only [Act.put, List.setIfInBounds_toArray, List.set_cons_zero, List.set_cons_succ]
        refine wpAnyH_ready (rs := [8]) (by kernel_rfl) (by simp) ?_
        refine AllReadyH.cons (by simp only [List.getElem?_toArray, List.getElem?_cons_succ, List.getElem?_cons_zero]; rfl) (fun K hK => ?_) AllReadyH.nil
        refine step_append_run rfl (.tmp 65) (.tmp 69) rfl v1 (.slice A (nr - (kk + 1)) (uc - (kk + 1))) rfl rfl r2 ?_
        refine hK.out _ _ trivial (fun hHeld => ?_)
        clear hK K
        try simp only [Act.put, List.setIfInBounds_toArray, List.set_cons_zero, List.set_cons_succ]
        refine wpAnyH_take (i := 9) (v := ?_) (by simp only [List.getElem?_toArray, List.getElem?_cons_succ, List.getElem?_cons_zero]; rfl) (by kernel_rfl) (by kernel_rfl) (by kernel_rfl) (by exact fun _ _ _ h => h) (Or.inl ⟨by rfl, ?_⟩) (by assumption) ?_
        rotate_left
        · intro wq hSw
          (try dsimp only at hSw)
          go_simp
          all_goals (with_reducible rfl)
        try simp only [Act.put, List.setIfInBounds_toArray, List.set_cons_zero, List.set_cons_succ]
        refine wpAnyH_done (by kernel_rfl) ?_ _
        have KPA := hidI (putF HT.out HFP.out HOKP.out h1)
        go_wp2_with fail
        refine KPA.out.mono ?_
        rintro E w2A ⟨rA, rfl, vA, mA, eA, fA, hcs, haw2, hlf, hrf, hcf, hdf⟩
        have hbx : wr.heap.size ∉ fpH g v := HBXA.out
        replace b2 := haw2.cell hbx b2
        have hcn := cnt_le hcs.p
        obtain ⟨hee, hdn⟩ := done_cut hcs.p hcs.fm h1
        have HDA := hidI hdn
        obtain ⟨raA, rcA, hre, -, -, hrr, -⟩ := hlf.row (by have := right_short hrf; omega) (fun s hs => is_ok (right_is hrf s hs))
        have hsf := right_short hrf
        obtain ⟨nfA, hnf⟩ : ∃ nf, nf = fA.length := ⟨_, rfl⟩
        rw [← hnf] at hre hsf
        subst hre
        have KSA := hidI (size_c raA fA nfA rcA w2A hnf.symm hrr (right_is hrf) (by omega))
        obtain ⟨ttA, htt⟩ := ex_eq (cnt (TL (M ++ [⟨poA, pnA, pmA⟩])) 65535)
        rw [← htt] at hcf hcn HDA
        rw [← HTV.out] at hcf
        have HTTA := hidI htt
        clear htt
        replace HT := hidI hcs
        have hlp := (len_bound fA (right_is hrf)).1
        clear hcs haw2 hlf hrf hrr hnf hbx KPA
        go_wp2_with fail
        refine KSA.out.mono ?_
        rintro E w3A ⟨rfl, qA, hq⟩
        have A3A : Hid (Away [] w2A w3A) := by show Away _ _ _; rw [hq]; exact (Away.refl _ _).drewN _
        clear hq KSA
        replace HT := hidI (HT.out.on A3A.out)
        replace b2 := A3A.out.cell (by simp) b2
        have KDA := hidI (done_c HT.out.h)
        rw [HDA.out] at KDA
        have HDFA := hidI hdf
        by_cases hde : dv = true
        · subst hde
          have HDN : Hid (true = decide (eA ≠ -1)) := by show _ = _; rw [HDFA.out, ← HDV.out]; rfl
          have hdt : decide (eA ≠ -1) = true := HDN.out.symm
          rw [hdt, Bool.true_and] at KDA
          clear hdt
          go_wp2_with fail
          refine KDA.out.mono ?_
          rintro E w3A ⟨rfl, rfl⟩
          by_cases hj3 : j % 3 = 1
          · have hj4 : ((j : Int)).tmod 3 = 1 := by rw [Int.tmod_eq_emod_of_nonneg (by omega)]; omega
            have KRB := hidI (rest_c (ov.tdiv 7) ((nO : Int) - 1) w3A (quo7 ov oi) (by omega) (by omega))
            have hrb := rest_in (n := ov.tdiv 7) (hi := (nO : Int) - 1) (by omega)
            obtain ⟨kb, hkb⟩ : ∃ kb : Nat, restP (ov.tdiv 7) ((nO : Int) - 1) = (kb : Int) := ⟨(restP (ov.tdiv 7) ((nO : Int) - 1)).toNat, by omega⟩
            rw [hkb] at KRB hrb
            have hkb2 : kb < nO := by omega
            clear hkb hrb
            have ocB := (HOC.out.on HT.out.aw)
            obtain ⟨ob2, ooff2, hoe, ocB, -⟩ := ocB.at HOV.out
            simp only [Option.some.injEq, Addr.mk.injEq] at hoe
            obtain ⟨rfl, rfl, -⟩ := hoe
            have hq7 : IntKind.i64.wrap (ov.tdiv 7) = ov.tdiv 7 := by have := quo7 ov oi; unfold I64 at this; rw [IntKind.wrap_i64]; omega
            go_wp2_with fail
            refine KRB.out.mono ?_
            rintro E w3A ⟨rfl, rfl⟩
            obtain ⟨q, hq, hqm⟩ := getP_of (show kb < O.length by have := HNOO.out; omega)
            obtain ⟨a', cap', he, -, -, hrow, -⟩ := HT.out.lo.row HCOO.out.ok
            simp only [Value.slice.injEq] at he
            obtain ⟨rfl, -, rfl⟩ := he
            obtain ⟨b3, off3, rfl, ⟨d0, d1, d2⟩, hokq⟩ := hrow.at hq
            obtain ⟨poB, pnB, pmB⟩ := q
            simp only at d0 d1 d2
            have HPMB := hidI hqm
            replace HOKP := hidI hokq
            have l2 : 0 ≤ (kb : Int) := by omega
            have l3 : (kb : Int) < (nO : Int) := by omega
            have l4 : ((kb : Int)).toNat = kb := by omega
            obtain ⟨wB, hWB⟩ : ∃ wB, wB = w3A.alloc (.cells #[.int .i64 poB, .int .i64 pnB, .bool pmB] 32) := ⟨_, rfl⟩
            have ABB : Hid (Away [] w3A wB) := by show Away _ _ _; rw [hWB]; exact (Away.refl _ _).alloc _
            have HBXB : Hid (w3A.heap.size ∉ fpH g vA) := fun hc => by have := HT.out.h.fp_lt _ hc; omega
            replace HT := hidI (HT.out.on ABB.out)
            have c0 : wB.cell? ⟨w3A.heap.size, 0, none⟩ = some (.int .i64 poB) := by rw [hWB]; simp
            have c1 : wB.cell? ⟨w3A.heap.size, 1, none⟩ = some (.int .i64 pnB) := by rw [hWB]; simp
            replace b2 : wB.cell? ⟨w3A.heap.size, 2, none⟩ = some (.bool pmB) := by rw [hWB]; simp
            have HDNA := HDN
            clear hq hqm hokq hrow HDN
            have KPB := hidI (putF HT.out (HCOO.out.fit _ HPMB.out) HOKP.out h1)
            go_wp2_with fail
            rw [← hWB]
            clear hWB d0 d1 d2
            refine KPB.out.mono ?_
            rintro E w2B ⟨rB, rfl, vB, mB, eB, fB, hcs, haw2, hlf, hrf, hcf, hdf⟩
            have hbx : w3A.heap.size ∉ fpH g vA := HBXB.out
            replace b2 := haw2.cell hbx b2
            have hcn := cnt_le hcs.p
            obtain ⟨hee, hdn⟩ := done_cut hcs.p hcs.fm h1
            have HDB := hidI hdn
            obtain ⟨raB, rcB, hre, -, -, hrr, -⟩ := hlf.row (by have := right_short hrf; omega) (fun s hs => is_ok (right_is hrf s hs))
            have hsf := right_short hrf
            obtain ⟨nfB, hnf⟩ : ∃ nf, nf = fB.length := ⟨_, rfl⟩
            rw [← hnf] at hre hsf
            subst hre
            have KSB := hidI (size_c raB fB nfB rcB w2B hnf.symm hrr (right_is hrf) (by omega))
            obtain ⟨ttB, htt⟩ := ex_eq (cnt (TL ((M ++ [⟨poA, pnA, pmA⟩]) ++ [⟨poB, pnB, pmB⟩])) 65535)
            rw [← htt] at hcf hcn HDB
            rw [← HTTA.out] at hcf
            have HTTB := hidI htt
            clear htt
            replace HMEM : Hid (∀ p ∈ L, p ∈ (M ++ [⟨poA, pnA, pmA⟩]) ++ [⟨poB, pnB, pmB⟩] ∨ p ∈ dropK R kk) := fun p hp => by
              rcases HMEM.out p hp with h | h
              · exact .inl (List.mem_append_left _ h)
              · exact .inr h
            replace HT := hidI hcs
            have hlp := (len_bound fB (right_is hrf)).1
            clear hcs haw2 hlf hrf hrr hnf hbx KPB
            go_wp2_with fail
            refine KSB.out.mono ?_
            rintro E w3B ⟨rfl, qB, hq⟩
            have A3B : Hid (Away [] w2B w3B) := by show Away _ _ _; rw [hq]; exact (Away.refl _ _).drewN _
            clear hq KSB
            replace HT := hidI (HT.out.on A3B.out)
            replace b2 := A3B.out.cell (by simp) b2
            have KDB := hidI (done_c HT.out.h)
            rw [HDB.out] at KDB
            have HDFB := hidI hdf
            have HDN : Hid (true = decide (eB ≠ -1)) := by show _ = _; rw [HDFB.out, ← HDNA.out]; rfl
            have hdt : decide (eB ≠ -1) = true := HDN.out.symm
            rw [hdt, Bool.true_and] at KDB
            clear hdt
            go_wp2_with fail
            refine KDB.out.mono ?_
            rintro E w3B ⟨rfl, rfl⟩
            go_wp2_with fail
            go_roundw
            case rel => exact ⟨j + 1, ttB, true, by go_num, rfl, rfl, vB, mB, eB, _, _, HT.out, HMEM.out, HTTB.out, HDN.out, by rw [HDL.out]; omega⟩
            case measure => simp [lenV]; omega
          · have hj4 : ¬ (((j : Int)).tmod 3 = 1) := by rw [Int.tmod_eq_emod_of_nonneg (by omega)]; omega
            clear oi
            go_wp2_with fail
            go_roundw
            case rel => exact ⟨j + 1, ttA, true, by go_num, rfl, rfl, vA, mA, eA, _, _, HT.out, HMEM.out, HTTA.out, HDN.out, by rw [HDL.out]; omega⟩
            case measure => simp [lenV]; omega
        · obtain rfl : dv = false := by simpa using hde
          clear hde
          cases pmA
          · have HDN : Hid (true = decide (eA ≠ -1)) := by show _ = _; rw [HDFA.out, ← HDV.out]; rfl
            have hdt : decide (eA ≠ -1) = true := HDN.out.symm
            rw [hdt, Bool.true_and] at KDA
            clear hdt
            go_wp2_with fail
            refine KDA.out.mono ?_
            rintro E w3A ⟨rfl, rfl⟩
            by_cases hj3 : j % 3 = 1
            · have hj4 : ((j : Int)).tmod 3 = 1 := by rw [Int.tmod_eq_emod_of_nonneg (by omega)]; omega
              have KRB := hidI (rest_c (ov.tdiv 7) ((nO : Int) - 1) w3A (quo7 ov oi) (by omega) (by omega))
              have hrb := rest_in (n := ov.tdiv 7) (hi := (nO : Int) - 1) (by omega)
              obtain ⟨kb, hkb⟩ : ∃ kb : Nat, restP (ov.tdiv 7) ((nO : Int) - 1) = (kb : Int) := ⟨(restP (ov.tdiv 7) ((nO : Int) - 1)).toNat, by omega⟩
              rw [hkb] at KRB hrb
              have hkb2 : kb < nO := by omega
              clear hkb hrb
              have ocB := (HOC.out.on HT.out.aw)
              obtain ⟨ob2, ooff2, hoe, ocB, -⟩ := ocB.at HOV.out
              simp only [Option.some.injEq, Addr.mk.injEq] at hoe
              obtain ⟨rfl, rfl, -⟩ := hoe
              have hq7 : IntKind.i64.wrap (ov.tdiv 7) = ov.tdiv 7 := by have := quo7 ov oi; unfold I64 at this; rw [IntKind.wrap_i64]; omega
              go_wp2_with fail
              refine KRB.out.mono ?_
              rintro E w3A ⟨rfl, rfl⟩
              obtain ⟨q, hq, hqm⟩ := getP_of (show kb < O.length by have := HNOO.out; omega)
              obtain ⟨a', cap', he, -, -, hrow, -⟩ := HT.out.lo.row HCOO.out.ok
              simp only [Value.slice.injEq] at he
              obtain ⟨rfl, -, rfl⟩ := he
              obtain ⟨b3, off3, rfl, ⟨d0, d1, d2⟩, hokq⟩ := hrow.at hq
              obtain ⟨poB, pnB, pmB⟩ := q
              simp only at d0 d1 d2
              have HPMB := hidI hqm
              replace HOKP := hidI hokq
              have l2 : 0 ≤ (kb : Int) := by omega
              have l3 : (kb : Int) < (nO : Int) := by omega
              have l4 : ((kb : Int)).toNat = kb := by omega
              obtain ⟨wB, hWB⟩ : ∃ wB, wB = w3A.alloc (.cells #[.int .i64 poB, .int .i64 pnB, .bool pmB] 32) := ⟨_, rfl⟩
              have ABB : Hid (Away [] w3A wB) := by show Away _ _ _; rw [hWB]; exact (Away.refl _ _).alloc _
              have HBXB : Hid (w3A.heap.size ∉ fpH g vA) := fun hc => by have := HT.out.h.fp_lt _ hc; omega
              replace HT := hidI (HT.out.on ABB.out)
              have c0 : wB.cell? ⟨w3A.heap.size, 0, none⟩ = some (.int .i64 poB) := by rw [hWB]; simp
              have c1 : wB.cell? ⟨w3A.heap.size, 1, none⟩ = some (.int .i64 pnB) := by rw [hWB]; simp
              replace b2 : wB.cell? ⟨w3A.heap.size, 2, none⟩ = some (.bool pmB) := by rw [hWB]; simp
              have HDNA := HDN
              clear hq hqm hokq hrow HDN
              have KPB := hidI (putF HT.out (HCOO.out.fit _ HPMB.out) HOKP.out h1)
              go_wp2_with fail
              rw [← hWB]
              clear hWB d0 d1 d2
              refine KPB.out.mono ?_
              rintro E w2B ⟨rB, rfl, vB, mB, eB, fB, hcs, haw2, hlf, hrf, hcf, hdf⟩
              have hbx : w3A.heap.size ∉ fpH g vA := HBXB.out
              replace b2 := haw2.cell hbx b2
              have hcn := cnt_le hcs.p
              obtain ⟨hee, hdn⟩ := done_cut hcs.p hcs.fm h1
              have HDB := hidI hdn
              obtain ⟨raB, rcB, hre, -, -, hrr, -⟩ := hlf.row (by have := right_short hrf; omega) (fun s hs => is_ok (right_is hrf s hs))
              have hsf := right_short hrf
              obtain ⟨nfB, hnf⟩ : ∃ nf, nf = fB.length := ⟨_, rfl⟩
              rw [← hnf] at hre hsf
              subst hre
              have KSB := hidI (size_c raB fB nfB rcB w2B hnf.symm hrr (right_is hrf) (by omega))
              obtain ⟨ttB, htt⟩ := ex_eq (cnt (TL ((M ++ [⟨poA, pnA, false⟩]) ++ [⟨poB, pnB, pmB⟩])) 65535)
              rw [← htt] at hcf hcn HDB
              rw [← HTTA.out] at hcf
              have HTTB := hidI htt
              clear htt
              replace HMEM : Hid (∀ p ∈ L, p ∈ (M ++ [⟨poA, pnA, false⟩]) ++ [⟨poB, pnB, pmB⟩] ∨ p ∈ dropK R kk) := fun p hp => by
                rcases HMEM.out p hp with h | h
                · exact .inl (List.mem_append_left _ h)
                · exact .inr h
              replace HT := hidI hcs
              have hlp := (len_bound fB (right_is hrf)).1
              clear hcs haw2 hlf hrf hrr hnf hbx KPB
              go_wp2_with fail
              refine KSB.out.mono ?_
              rintro E w3B ⟨rfl, qB, hq⟩
              have A3B : Hid (Away [] w2B w3B) := by show Away _ _ _; rw [hq]; exact (Away.refl _ _).drewN _
              clear hq KSB
              replace HT := hidI (HT.out.on A3B.out)
              replace b2 := A3B.out.cell (by simp) b2
              have KDB := hidI (done_c HT.out.h)
              rw [HDB.out] at KDB
              have HDFB := hidI hdf
              have HDN : Hid (true = decide (eB ≠ -1)) := by show _ = _; rw [HDFB.out, ← HDNA.out]; rfl
              have hdt : decide (eB ≠ -1) = true := HDN.out.symm
              rw [hdt, Bool.true_and] at KDB
              clear hdt
              go_wp2_with fail
              refine KDB.out.mono ?_
              rintro E w3B ⟨rfl, rfl⟩
              go_wp2_with fail
              go_roundw
              case rel => exact ⟨j + 1, ttB, true, by go_num, rfl, rfl, vB, mB, eB, _, _, HT.out, HMEM.out, HTTB.out, HDN.out, by rw [HDL.out]; omega⟩
              case measure => simp [lenV]; omega
            · have hj4 : ¬ (((j : Int)).tmod 3 = 1) := by rw [Int.tmod_eq_emod_of_nonneg (by omega)]; omega
              clear oi
              go_wp2_with fail
              go_roundw
              case rel => exact ⟨j + 1, ttA, true, by go_num, rfl, rfl, vA, mA, eA, _, _, HT.out, HMEM.out, HTTA.out, HDN.out, by rw [HDL.out]; omega⟩
              case measure => simp [lenV]; omega
          · have HDN : Hid (false = decide (eA ≠ -1)) := by show _ = _; rw [HDFA.out, ← HDV.out]; rfl
            have hdt : decide (eA ≠ -1) = false := HDN.out.symm
            rw [hdt, Bool.false_and] at KDA
            clear hdt
            go_wp2_with fail
            refine KDA.out.mono ?_
            rintro E w3A ⟨rfl, rfl⟩
            by_cases hj3 : j % 3 = 1
            · have hj4 : ((j : Int)).tmod 3 = 1 := by rw [Int.tmod_eq_emod_of_nonneg (by omega)]; omega
              have KRB := hidI (rest_c (ov.tdiv 7) ((nO : Int) - 1) w3A (quo7 ov oi) (by omega) (by omega))
              have hrb := rest_in (n := ov.tdiv 7) (hi := (nO : Int) - 1) (by omega)
              obtain ⟨kb, hkb⟩ : ∃ kb : Nat, restP (ov.tdiv 7) ((nO : Int) - 1) = (kb : Int) := ⟨(restP (ov.tdiv 7) ((nO : Int) - 1)).toNat, by omega⟩
              rw [hkb] at KRB hrb
              have hkb2 : kb < nO := by omega
              clear hkb hrb
              have ocB := (HOC.out.on HT.out.aw)
              obtain ⟨ob2, ooff2, hoe, ocB, -⟩ := ocB.at HOV.out
              simp only [Option.some.injEq, Addr.mk.injEq] at hoe
              obtain ⟨rfl, rfl, -⟩ := hoe
              have hq7 : IntKind.i64.wrap (ov.tdiv 7) = ov.tdiv 7 := by have := quo7 ov oi; unfold I64 at this; rw [IntKind.wrap_i64]; omega
              go_wp2_with fail
              refine KRB.out.mono ?_
              rintro E w3A ⟨rfl, rfl⟩
              obtain ⟨q, hq, hqm⟩ := getP_of (show kb < O.length by have := HNOO.out; omega)
              obtain ⟨a', cap', he, -, -, hrow, -⟩ := HT.out.lo.row HCOO.out.ok
              simp only [Value.slice.injEq] at he
              obtain ⟨rfl, -, rfl⟩ := he
              obtain ⟨b3, off3, rfl, ⟨d0, d1, d2⟩, hokq⟩ := hrow.at hq
              obtain ⟨poB, pnB, pmB⟩ := q
              simp only at d0 d1 d2
              have HPMB := hidI hqm
              replace HOKP := hidI hokq
              have l2 : 0 ≤ (kb : Int) := by omega
              have l3 : (kb : Int) < (nO : Int) := by omega
              have l4 : ((kb : Int)).toNat = kb := by omega
              obtain ⟨wB, hWB⟩ : ∃ wB, wB = w3A.alloc (.cells #[.int .i64 poB, .int .i64 pnB, .bool pmB] 32) := ⟨_, rfl⟩
              have ABB : Hid (Away [] w3A wB) := by show Away _ _ _; rw [hWB]; exact (Away.refl _ _).alloc _
              have HBXB : Hid (w3A.heap.size ∉ fpH g vA) := fun hc => by have := HT.out.h.fp_lt _ hc; omega
              replace HT := hidI (HT.out.on ABB.out)
              have c0 : wB.cell? ⟨w3A.heap.size, 0, none⟩ = some (.int .i64 poB) := by rw [hWB]; simp
              have c1 : wB.cell? ⟨w3A.heap.size, 1, none⟩ = some (.int .i64 pnB) := by rw [hWB]; simp
              replace b2 : wB.cell? ⟨w3A.heap.size, 2, none⟩ = some (.bool pmB) := by rw [hWB]; simp
              have HDNA := HDN
              clear hq hqm hokq hrow HDN
              have KPB := hidI (putF HT.out (HCOO.out.fit _ HPMB.out) HOKP.out h1)
              go_wp2_with fail
              rw [← hWB]
              clear hWB d0 d1 d2
              refine KPB.out.mono ?_
              rintro E w2B ⟨rB, rfl, vB, mB, eB, fB, hcs, haw2, hlf, hrf, hcf, hdf⟩
              have hbx : w3A.heap.size ∉ fpH g vA := HBXB.out
              replace b2 := haw2.cell hbx b2
              have hcn := cnt_le hcs.p
              obtain ⟨hee, hdn⟩ := done_cut hcs.p hcs.fm h1
              have HDB := hidI hdn
              obtain ⟨raB, rcB, hre, -, -, hrr, -⟩ := hlf.row (by have := right_short hrf; omega) (fun s hs => is_ok (right_is hrf s hs))
              have hsf := right_short hrf
              obtain ⟨nfB, hnf⟩ : ∃ nf, nf = fB.length := ⟨_, rfl⟩
              rw [← hnf] at hre hsf
              subst hre
              have KSB := hidI (size_c raB fB nfB rcB w2B hnf.symm hrr (right_is hrf) (by omega))
              obtain ⟨ttB, htt⟩ := ex_eq (cnt (TL ((M ++ [⟨poA, pnA, true⟩]) ++ [⟨poB, pnB, pmB⟩])) 65535)
              rw [← htt] at hcf hcn HDB
              rw [← HTTA.out] at hcf
              have HTTB := hidI htt
              clear htt
              replace HMEM : Hid (∀ p ∈ L, p ∈ (M ++ [⟨poA, pnA, true⟩]) ++ [⟨poB, pnB, pmB⟩] ∨ p ∈ dropK R kk) := fun p hp => by
                rcases HMEM.out p hp with h | h
                · exact .inl (List.mem_append_left _ h)
                · exact .inr h
              replace HT := hidI hcs
              have hlp := (len_bound fB (right_is hrf)).1
              clear hcs haw2 hlf hrf hrr hnf hbx KPB
              go_wp2_with fail
              refine KSB.out.mono ?_
              rintro E w3B ⟨rfl, qB, hq⟩
              have A3B : Hid (Away [] w2B w3B) := by show Away _ _ _; rw [hq]; exact (Away.refl _ _).drewN _
              clear hq KSB
              replace HT := hidI (HT.out.on A3B.out)
              replace b2 := A3B.out.cell (by simp) b2
              have KDB := hidI (done_c HT.out.h)
              rw [HDB.out] at KDB
              have HDFB := hidI hdf
              cases pmB
              · have HDN : Hid (true = decide (eB ≠ -1)) := by show _ = _; rw [HDFB.out, ← HDNA.out]; rfl
                have hdt : decide (eB ≠ -1) = true := HDN.out.symm
                rw [hdt, Bool.true_and] at KDB
                clear hdt
                go_wp2_with fail
                refine KDB.out.mono ?_
                rintro E w3B ⟨rfl, rfl⟩
                go_wp2_with fail
                go_roundw
                case rel => exact ⟨j + 1, ttB, true, by go_num, rfl, rfl, vB, mB, eB, _, _, HT.out, HMEM.out, HTTB.out, HDN.out, by rw [HDL.out]; omega⟩
                case measure => simp [lenV]; omega
              · have HDN : Hid (false = decide (eB ≠ -1)) := by show _ = _; rw [HDFB.out, ← HDNA.out]; rfl
                have hdt : decide (eB ≠ -1) = false := HDN.out.symm
                rw [hdt, Bool.false_and] at KDB
                clear hdt
                go_wp2_with fail
                refine KDB.out.mono ?_
                rintro E w3B ⟨rfl, rfl⟩
                go_wp2_with fail
                go_roundw
                case rel => exact ⟨j + 1, ttB, false, by go_num, rfl, rfl, vB, mB, eB, _, _, HT.out, HMEM.out, HTTB.out, HDN.out, by rw [HDL.out]; omega⟩
                case measure => simp [lenV]; omega
            · have hj4 : ¬ (((j : Int)).tmod 3 = 1) := by rw [Int.tmod_eq_emod_of_nonneg (by omega)]; omega
              clear oi
              go_wp2_with fail
              go_roundw
              case rel => exact ⟨j + 1, ttA, false, by go_num, rfl, rfl, vA, mA, eA, _, _, HT.out, HMEM.out, HTTA.out, HDN.out, by rw [HDL.out]; omega⟩
              case measure => simp [lenV]; omega
      · obtain ⟨kk, hkk⟩ : ∃ kk : Nat, (nr : Int) - 1 = (kk : Int) := ⟨nr - 1, by omega⟩
        have hne2 : kk < nr := by omega
        have o3 : ¬ ((j : Int) < (no : Int)) := by omega
        obtain ⟨p, hp, hpm⟩ := getP_of (show kk < R.length by have := HNR.out; omega)
        obtain ⟨a', cap', he, hcapR, -, hrow, -⟩ := HT.out.lr.row HT.out.okr
        simp only [Value.slice.injEq] at he
        obtain ⟨rfl, -, rfl⟩ := he
        obtain ⟨b, off, rfl, ⟨c0, c1, c2⟩, hokp⟩ := hrow.at hp
        have hcapN : nr ≤ uc := by rw [HNR.out]; exact hcapR
        have HPR := hidI hp
        have HFP := hidI (HT.out.fr p hpm)
        obtain ⟨poA, pnA, pmA⟩ := p
        simp only at c0 c1 c2
        have HOKP := hidI hokp
        have j2 : 0 ≤ (kk : Int) := by omega
        have j3 : (kk : Int) < (nr : Int) := by omega
        have j4 : ((kk : Int)).toNat = kk := by omega
        obtain ⟨W, hW⟩ : ∃ W, W = wr.alloc (.cells #[.int .i64 poA, .int .i64 pnA, .bool pmA] 32) := ⟨_, rfl⟩
        have AB : Hid (Away [] wr W) := by show Away _ _ _; rw [hW]; exact (Away.refl _ _).alloc _
        have HBXA : Hid (wr.heap.size ∉ fpH g v) := fun hc => by have := HT.out.h.fp_lt _ hc; omega
        have HOKR := hidI HT.out.okr
        replace HT := hidI (HT.out.on AB.out)
        have hs := sliceC_h (some ⟨b, off, none⟩) nr uc kk (kk : Int) rfl (by omega)
        obtain ⟨A, v1, w3, v2, w4, hA, r1, r2, l2, nw2, aw4⟩ := run_drop W.drew 22 (some ⟨b, off, none⟩) nr uc kk R HT.out.lr HOKR.out hne2 (by omega)
        have hw1 : IntKind.i64.wrap ((kk : Int) + 1) = (kk : Int) + 1 := by rw [IntKind.wrap_i64]; omega
        have hw2 : ((kk : Int) + 1).toNat = kk + 1 := by omega
        have hw3 : 0 ≤ (kk : Int) + 1 := by omega
        have hw4 : (kk : Int) + 1 ≤ (nr : Int) := by omega
        have hs2 := sliceC_l (some ⟨b, off, none⟩) A nr uc (kk + 1) ((kk : Int) + 1) hA (by omega) (by omega)
        have aw4' : Away [] W w4 := ⟨aw4.os, aw4.tape, aw4.output, aw4.size, aw4.block⟩
        have HDL : Hid ((dropK R kk).length = nr - 1) := by show _ = _; rw [dropK_len (by rw [← HNR.out]; exact hne2), HNR.out]
        obtain ⟨xa, xc, hxe⟩ := l2.shape
        rw [HDL.out] at hxe
        subst hxe
        have HT4 := hidI (HT.out.drop l2 nw2 aw4')
        have b0 : w4.cell? ⟨wr.heap.size, 0, none⟩ = some (.int .i64 poA) := aw4'.cell (by simp) (by rw [hW]; simp)
        have b1 : w4.cell? ⟨wr.heap.size, 1, none⟩ = some (.int .i64 pnA) := aw4'.cell (by simp) (by rw [hW]; simp)
        have b2 : w4.cell? ⟨wr.heap.size, 2, none⟩ = some (.bool pmA) := aw4'.cell (by simp) (by rw [hW]; simp)
        replace HMEM : Hid (∀ p ∈ L, p ∈ M ++ [⟨poA, pnA, pmA⟩] ∨ p ∈ dropK R kk) := fun p hp => by
          rcases HMEM.out p hp with h | h
          · exact .inl (by simp [h])
          · have := (dropK_perm HPR.out).mem_iff.2 h
            rw [List.mem_cons] at this
            rcases this with h | h
            · exact .inl (by simp [h])
            · exact .inr h
        replace HT := HT4
        clear hp hpm hokp hrow l2 nw2 aw4 aw4' hA hcapR HT4
        go_wp2_with fail
        rw [← hW]
        clear hW c0 c1 c2
        refine wp_region_held_drew (S := (fun _ => True)) (by kernel_rfl) trivial (fun hHeld => ?_)
        refine wpAnyH_take (i := 0) (v := ?_) (by simp only [List.getElem?_toArray, List.getElem?_cons_zero]; rfl) (by kernel_rfl) (by kernel_rfl) (by kernel_rfl) (by exact fun _ _ _ h => h) (Or.inl ⟨by rfl, ?_⟩) (by assumption) ?_
        rotate_left
        · intro wq hSw
          (try dsimp only at hSw)
          go_simp
          all_goals (with_reducible rfl)
        try simp only [Act.put, List.setIfInBounds_toArray, List.set_cons_zero, List.set_cons_succ]
        refine wpAnyH_take (i := 1) (v := ?_) (by simp only [List.getElem?_toArray, List.getElem?_cons_succ, List.getElem?_cons_zero]; rfl) (by kernel_rfl) (by kernel_rfl) (by kernel_rfl) (by exact fun _ _ _ h => h) (Or.inl ⟨by rfl, ?_⟩) (by assumption) ?_
        rotate_left
        · intro wq hSw
          (try dsimp only at hSw)
          go_simp
          all_goals (with_reducible rfl)
        try simp only [Act.put, List.setIfInBounds_toArray, List.set_cons_zero, List.set_cons_succ]
        refine wpAnyH_take (i := 2) (v := ?_) (by simp only [List.getElem?_toArray, List.getElem?_cons_succ, List.getElem?_cons_zero]; rfl) (by kernel_rfl) (by kernel_rfl) (by kernel_rfl) (by exact fun _ _ _ h => h) (Or.inl ⟨by rfl, ?_⟩) (by assumption) ?_
        rotate_left
        · intro wq hSw
          (try dsimp only at hSw)
          go_simp
          all_goals (with_reducible rfl)
        try simp only [Act.put, List.setIfInBounds_toArray, List.set_cons_zero, List.set_cons_succ]
        refine wpAnyH_take (i := 4) (v := ?_) (by simp only [List.getElem?_toArray, List.getElem?_cons_succ, List.getElem?_cons_zero]; rfl) (by kernel_rfl) (by kernel_rfl) (by kernel_rfl) (by exact fun _ _ _ h => h) (Or.inl ⟨by rfl, ?_⟩) (by assumption) ?_
        rotate_left
        · intro wq hSw
          (try dsimp only at hSw)
          go_simp
          all_goals (with_reducible rfl)
        try simp only [Act.put, List.setIfInBounds_toArray, List.set_cons_zero, List.set_cons_succ]
        refine wpAnyH_take (i := 5) (v := ?_) (by simp only [List.getElem?_toArray, List.getElem?_cons_succ, List.getElem?_cons_zero]; rfl) (by kernel_rfl) (by kernel_rfl) (by kernel_rfl) (by exact fun _ _ _ h => h) (Or.inl ⟨by rfl, ?_⟩) (by assumption) ?_
        rotate_left
        · intro wq hSw
          (try dsimp only at hSw)
          go_simp
          all_goals (with_reducible rfl)
        try simp only [Act.put, List.setIfInBounds_toArray, List.set_cons_zero, List.set_cons_succ]
        refine wpAnyH_take (i := 6) (v := ?_) (by simp only [List.getElem?_toArray, List.getElem?_cons_succ, List.getElem?_cons_zero]; rfl) (by kernel_rfl) (by kernel_rfl) (by kernel_rfl) (by exact fun _ _ _ h => h) (Or.inl ⟨by rfl, ?_⟩) (by assumption) ?_
        rotate_left
        · intro wq hSw
          (try dsimp only at hSw)
          go_simp
          all_goals (with_reducible rfl)
        try simp only [Act.put, List.setIfInBounds_toArray, List.set_cons_zero, List.set_cons_succ]
        refine wpAnyH_take (i := 7) (v := ?_) (by simp only [List.getElem?_toArray, List.getElem?_cons_succ, List.getElem?_cons_zero]; rfl) (by kernel_rfl) (by kernel_rfl) (by kernel_rfl) (by exact fun _ _ _ h => h) (Or.inl ⟨by rfl, ?_⟩) (by assumption) ?_
        rotate_left
        · intro wq hSw
          (try dsimp only at hSw)
          go_simp
          all_goals (with_reducible rfl)
        try simp only [Act.put, List.setIfInBounds_toArray, List.set_cons_zero, List.set_cons_succ]
        refine wpAnyH_ready (rs := [3]) (by kernel_rfl) (by simp) ?_
        refine AllReadyH.cons (by simp only [List.getElem?_toArray, List.getElem?_cons_succ, List.getElem?_cons_zero]; rfl) (fun K hK => ?_) AllReadyH.nil
        refine step_append_run rfl (.const (.slice none 0 0)) (.tmp 64) rfl (.slice none 0 0) (.slice (some ⟨b, off, none⟩) kk uc) rfl rfl r1 ?_
        refine hK.out _ _ trivial (fun hHeld => ?_)
        clear hK K
        try simp only [Act.put, List.setIfInBounds_toArray, List.set_cons_zero, List.set_cons_succ]
        refine wpAnyH_ready (rs := [8]) (by kernel_rfl) (by simp) ?_
        refine AllReadyH.cons (by simp only [List.getElem?_toArray, List.getElem?_cons_succ, List.getElem?_cons_zero]; rfl) (fun K hK => ?_) AllReadyH.nil
        refine step_append_run rfl (.tmp 65) (.tmp 69) rfl v1 (.slice A (nr - (kk + 1)) (uc - (kk + 1))) rfl rfl r2 ?_
        refine hK.out _ _ trivial (fun hHeld => ?_)
        clear hK K
        try simp only [Act.put, List.setIfInBounds_toArray, List.set_cons_zero, List.set_cons_succ]
        refine wpAnyH_take (i := 9) (v := ?_) (by simp only [List.getElem?_toArray, List.getElem?_cons_succ, List.getElem?_cons_zero]; rfl) (by kernel_rfl) (by kernel_rfl) (by kernel_rfl) (by exact fun _ _ _ h => h) (Or.inl ⟨by rfl, ?_⟩) (by assumption) ?_
        rotate_left
        · intro wq hSw
          (try dsimp only at hSw)
          go_simp
          all_goals (with_reducible rfl)
        try simp only [Act.put, List.setIfInBounds_toArray, List.set_cons_zero, List.set_cons_succ]
        refine wpAnyH_done (by kernel_rfl) ?_ _
        have KPA := hidI (putF HT.out HFP.out HOKP.out h1)
        go_wp2_with fail
        refine KPA.out.mono ?_
        rintro E w2A ⟨rA, rfl, vA, mA, eA, fA, hcs, haw2, hlf, hrf, hcf, hdf⟩
        have hbx : wr.heap.size ∉ fpH g v := HBXA.out
        replace b2 := haw2.cell hbx b2
        have hcn := cnt_le hcs.p
        obtain ⟨hee, hdn⟩ := done_cut hcs.p hcs.fm h1
        have HDA := hidI hdn
        obtain ⟨raA, rcA, hre, -, -, hrr, -⟩ := hlf.row (by have := right_short hrf; omega) (fun s hs => is_ok (right_is hrf s hs))
        have hsf := right_short hrf
        obtain ⟨nfA, hnf⟩ : ∃ nf, nf = fA.length := ⟨_, rfl⟩
        rw [← hnf] at hre hsf
        subst hre
        have KSA := hidI (size_c raA fA nfA rcA w2A hnf.symm hrr (right_is hrf) (by omega))
        obtain ⟨ttA, htt⟩ := ex_eq (cnt (TL (M ++ [⟨poA, pnA, pmA⟩])) 65535)
        rw [← htt] at hcf hcn HDA
        rw [← HTV.out] at hcf
        have HTTA := hidI htt
        clear htt
        replace HT := hidI hcs
        have hlp := (len_bound fA (right_is hrf)).1
        clear hcs haw2 hlf hrf hrr hnf hbx KPA
        go_wp2_with fail
        refine KSA.out.mono ?_
        rintro E w3A ⟨rfl, qA, hq⟩
        have A3A : Hid (Away [] w2A w3A) := by show Away _ _ _; rw [hq]; exact (Away.refl _ _).drewN _
        clear hq KSA
        replace HT := hidI (HT.out.on A3A.out)
        replace b2 := A3A.out.cell (by simp) b2
        have KDA := hidI (done_c HT.out.h)
        rw [HDA.out] at KDA
        have HDFA := hidI hdf
        by_cases hde : dv = true
        · subst hde
          have HDN : Hid (true = decide (eA ≠ -1)) := by show _ = _; rw [HDFA.out, ← HDV.out]; rfl
          have hdt : decide (eA ≠ -1) = true := HDN.out.symm
          rw [hdt, Bool.true_and] at KDA
          clear hdt
          go_wp2_with fail
          refine KDA.out.mono ?_
          rintro E w3A ⟨rfl, rfl⟩
          by_cases hj3 : j % 3 = 1
          · have hj4 : ((j : Int)).tmod 3 = 1 := by rw [Int.tmod_eq_emod_of_nonneg (by omega)]; omega
            go_wp2_with fail
            go_roundw
            case rel => exact ⟨j + 1, ttA, true, by go_num, rfl, rfl, vA, mA, eA, _, _, HT.out, HMEM.out, HTTA.out, HDN.out, by rw [HDL.out]; omega⟩
            case measure => simp [lenV]; omega
          · have hj4 : ¬ (((j : Int)).tmod 3 = 1) := by rw [Int.tmod_eq_emod_of_nonneg (by omega)]; omega
            go_wp2_with fail
            go_roundw
            case rel => exact ⟨j + 1, ttA, true, by go_num, rfl, rfl, vA, mA, eA, _, _, HT.out, HMEM.out, HTTA.out, HDN.out, by rw [HDL.out]; omega⟩
            case measure => simp [lenV]; omega
        · obtain rfl : dv = false := by simpa using hde
          clear hde
          cases pmA
          · have HDN : Hid (true = decide (eA ≠ -1)) := by show _ = _; rw [HDFA.out, ← HDV.out]; rfl
            have hdt : decide (eA ≠ -1) = true := HDN.out.symm
            rw [hdt, Bool.true_and] at KDA
            clear hdt
            go_wp2_with fail
            refine KDA.out.mono ?_
            rintro E w3A ⟨rfl, rfl⟩
            by_cases hj3 : j % 3 = 1
            · have hj4 : ((j : Int)).tmod 3 = 1 := by rw [Int.tmod_eq_emod_of_nonneg (by omega)]; omega
              go_wp2_with fail
              go_roundw
              case rel => exact ⟨j + 1, ttA, true, by go_num, rfl, rfl, vA, mA, eA, _, _, HT.out, HMEM.out, HTTA.out, HDN.out, by rw [HDL.out]; omega⟩
              case measure => simp [lenV]; omega
            · have hj4 : ¬ (((j : Int)).tmod 3 = 1) := by rw [Int.tmod_eq_emod_of_nonneg (by omega)]; omega
              go_wp2_with fail
              go_roundw
              case rel => exact ⟨j + 1, ttA, true, by go_num, rfl, rfl, vA, mA, eA, _, _, HT.out, HMEM.out, HTTA.out, HDN.out, by rw [HDL.out]; omega⟩
              case measure => simp [lenV]; omega
          · have HDN : Hid (false = decide (eA ≠ -1)) := by show _ = _; rw [HDFA.out, ← HDV.out]; rfl
            have hdt : decide (eA ≠ -1) = false := HDN.out.symm
            rw [hdt, Bool.false_and] at KDA
            clear hdt
            go_wp2_with fail
            refine KDA.out.mono ?_
            rintro E w3A ⟨rfl, rfl⟩
            by_cases hj3 : j % 3 = 1
            · have hj4 : ((j : Int)).tmod 3 = 1 := by rw [Int.tmod_eq_emod_of_nonneg (by omega)]; omega
              go_wp2_with fail
              go_roundw
              case rel => exact ⟨j + 1, ttA, false, by go_num, rfl, rfl, vA, mA, eA, _, _, HT.out, HMEM.out, HTTA.out, HDN.out, by rw [HDL.out]; omega⟩
              case measure => simp [lenV]; omega
            · have hj4 : ¬ (((j : Int)).tmod 3 = 1) := by rw [Int.tmod_eq_emod_of_nonneg (by omega)]; omega
              go_wp2_with fail
              go_roundw
              case rel => exact ⟨j + 1, ttA, false, by go_num, rfl, rfl, vA, mA, eA, _, _, HT.out, HMEM.out, HTTA.out, HDN.out, by rw [HDL.out]; omega⟩
              case measure => simp [lenV]; omega
    · obtain rfl : nr = 0 := by omega
      have hR : R = [] := List.eq_nil_of_length_eq_zero HNR.out.symm
      have HIN : Hid (∀ p ∈ L, p ∈ M) := fun p hp => by
        rcases HMEM.out p hp with h | h
        · exact h
        · rw [hR] at h; simp at h
      obtain ⟨he, hmm, hcc⟩ := cut_end HT.out.p HT.out.fm HCO.out HIN.out h1 h2
      have hh := HT.out.h
      rw [he, hmm] at hh
      have htN : tv = N := by rw [HTV.out]; exact hcc
      have HH := hidI hh
      have HAW := hidI HT.out.aw
      have K1 := hidI (done_c hh)
      have K2 := hidI (end_c hh)
      have K3 := hidI (holes_c hh)
      have hdN : doneP [] N = true := by unfold doneP; rw [decide_eq_true (show N ≠ -1 by omega)]; rfl
      rw [hdN] at K1
      clear he hmm hcc hh hR hdN htb
      subst htN
      go_wp2_with fail
      refine K1.out.mono ?_
      rintro E wr ⟨rfl, rfl⟩
      go_wp2_with fail
      refine K2.out.mono ?_
      rintro E wr ⟨rfl, rfl⟩
      go_wp2_with fail
      refine K3.out.mono ?_
      rintro E wz ⟨y, rfl, hmk⟩
      obtain ⟨ya, yc, rfl, -⟩ := hmk.1.row (by simp) (by simp)
      have AZ := hidI hmk.2.2
      clear hmk
      go_wp2_with fail
      go_ret
      exact ⟨by first | rfl | simp, (HAW.out.trans AZ.out).to_below⟩
theorem lifted (os : Os) (started : os.Started) (H : Type) (enc : TypeId × Value → H) :
    ReturnsInHanded {} Try.checked os 5 .any (Rows.holesCutsSpec.pre6 enc Try.prog Try.f5 Rows.holesCutsRow.domain false) (Rows.holesCutsSpec.post enc Try.prog Try.f5 false true false false) := by
  refine returnsInHanded_of_change_sized (C := Try.checked) ownKn started (by kernel_rfl) Try.func5
    (ChangeSpec.witness6 (enc := enc) (C := Try.checked) false ⟨#[], #[.int .i64 0, .slice none 0 0, .slice none 0 0, .slice none 0 0], []⟩ 8 (by kernel_rfl) (by kernel_rfl) (by kernel_rfl) (by kernel_rfl)) ?_
  intro W base args ds gs before hval0 hW _ hsz0 _
  have hsz : (DataW.weightsEach Try.prog (Try.f5.params.toList ++ Rows.holesCutsSpec.plain.varTypes Try.prog) (ds ++ gs)).all (· ≤ reachBytes) = true := hsz0
  clear hsz0
  have hval : ∀ (j : Nat) t v, Try.f5.params[j]? = some t → args[j]? = some v → Value.okWide Try.prog W .any base t v := hval0
  have hW' := hW
  obtain ⟨p, q, hA0, hV, rfl, hfz, hnd⟩ := hW
  have hA : DataW.TrodAll enc Try.prog W 0 (fun _ => true) true Try.f5.params.toList args.toList ds p := hA0
  rw [Try.params5] at hA hval hsz
  obtain ⟨v0, vs0, d0, ds0, p0, q0, hargs, rfl, rfl, h0, r0⟩ := trodAll_cons hA
  obtain ⟨v1, vs1, d1, ds1, p1, q1, rfl, rfl, rfl, h1, r1⟩ := trodAll_cons r0
  obtain ⟨v2, vs2, d2, ds2, p2, q2, rfl, rfl, rfl, h2, r2⟩ := trodAll_cons r1
  obtain ⟨v3, vs3, d3, ds3, p3, q3, rfl, rfl, rfl, h3, r3⟩ := trodAll_cons r2
  obtain ⟨rfl, rfl, rfl⟩ := trodAll_nil r3
  obtain rfl : args = #[v0, v1, v2, v3] := by cases args; simp_all
  have hV2 : DataW.TrodVars enc Try.prog W (fun _ => true) Rows.holesCutsSpec.vars gs q := hV
  obtain ⟨rfl, rfl⟩ := trodVars_none hV2
  obtain ⟨a0, rfl, rfl, rfl, w0⟩ := open_int Try.underlying3 (hval 0 3 v0 rfl rfl) h0
  have k1 := h1
  have lt1 : ∀ x ∈ p1, x.block < W.heap.size := by obtain ⟨m, hm⟩ := k1; exact DataW.trod_lt m _ _ _ hm
  have z1 : ∀ m ∈ d1.weights Try.prog 23, m ≤ reachBytes := fun m hm => by
    have := List.all_eq_true.1 hsz m (DataW.weights_mem_each (j := 1) (t := 23) rfl rfl m hm)
    simpa using this
  obtain ⟨a1, len1, cap1, rfl⟩ := okWide_slice Try.underlying23 (hval 1 23 v1 rfl rfl)
  obtain ⟨l1, rfl, w1, u1, b1⟩ := open_nums h1 z1 lt1
  have k2 := h2
  have lt2 : ∀ x ∈ p2, x.block < W.heap.size := by obtain ⟨m, hm⟩ := k2; exact DataW.trod_lt m _ _ _ hm
  have z2 : ∀ m ∈ d2.weights Try.prog 23, m ≤ reachBytes := fun m hm => by
    have := List.all_eq_true.1 hsz m (DataW.weights_mem_each (j := 2) (t := 23) rfl rfl m hm)
    simpa using this
  obtain ⟨a2, len2, cap2, rfl⟩ := okWide_slice Try.underlying23 (hval 2 23 v2 rfl rfl)
  obtain ⟨l2, rfl, w2, u2, b2⟩ := open_nums h2 z2 lt2
  have k3 := h3
  have lt3 : ∀ x ∈ p3, x.block < W.heap.size := by obtain ⟨m, hm⟩ := k3; exact DataW.trod_lt m _ _ _ hm
  have z3 : ∀ m ∈ d3.weights Try.prog 23, m ≤ reachBytes := fun m hm => by
    have := List.all_eq_true.1 hsz m (DataW.weights_mem_each (j := 3) (t := 23) rfl rfl m hm)
    simpa using this
  obtain ⟨a3, len3, cap3, rfl⟩ := okWide_slice Try.underlying23 (hval 3 23 v3 rfl rfl)
  obtain ⟨l3, rfl, w3, u3, b3⟩ := open_nums h3 z3 lt3
  clear hA0 hval0
  refine (walk a0 a1 l1 cap1 a2 l2 cap2 a3 l3 cap3 W w0 w1 b1 w2 b2 w3 b3).mono fun e W' ⟨he, bel⟩ => ?_
  subst he
  exact ⟨_, rfl, _, _, _, [], _, [], hW', trodAll_mk1 (shut_bool Try.underlying4 _), (trodAll_cons_mk (shut_int Try.underlying3 w0) (trodAll_cons_mk (Below.trod laidOut (by kernel_rfl) (of_decide_eq_true (by kernel_rfl)) k1 bel lt1) (trodAll_cons_mk (Below.trod laidOut (by kernel_rfl) (of_decide_eq_true (by kernel_rfl)) k2 bel lt2) (trodAll_cons_mk (Below.trod laidOut (by kernel_rfl) (of_decide_eq_true (by kernel_rfl)) k3 bel lt3) trodAll_mk0)))), rfl, bel.frame _, fun h => by cases h⟩
theorem over : Rows.holesCutsRow.holds Try.pinned (OpenSpec.ofChange Rows.holesCutsSpec) :=
  OpenClaim.holds_of_wide 5 Try.f5 rfl rfl rfl rfl rfl rfl rfl ⟨rfl, rfl, rfl, rfl, rfl⟩ rfl rfl rfl rfl rfl (by kernel_rfl) Try.func5 (by kernel_rfl)
    (of_decide_eq_true (by kernel_rfl)) (by unfold Func.isWrapper; first | (rw [if_pos (by decide +kernel)]; kernel_rfl) | (rw [if_neg (by decide +kernel)]; exact ⟨rfl, rfl⟩))
    (fun os started H enc _ => lifted os started H enc)
end holesCuts
theorem holesCuts_holds : Rows.HolesCutsSaid := holesCuts.over
#print axioms holesCuts_holds
end Go.Proofs.Ytcjkhpinccjncaa
