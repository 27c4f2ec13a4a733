/-
  IcmpBack: there and back; what is taken of any bytes has just these bytes.
-/
import Derived.Test.YtbgpjhekohabiaaLm
import Derived.Test.YtbgpjhekohabiaaMend
import Derived.Test.YtbgpjhekohabiaaKit
import Derived.Deep.CondSized
namespace Go.Proofs.Ytbgpjhekohabiaa
open Go.ChangeShapes Go.WideShapes Go.ChangeAt Go.RowKit Go.Deep Num
set_option linter.unusedVariables false
set_option maxHeartbeats 8000000
set_option maxRecDepth 100000

theorem yields_ix {ops : Array Oper} {S : World → Prop} {op : Oper} {a : Act} {gb off n cap : Nat} (hw : Region.wanted op (yielded ops a.tmps) = true) (x ix : Operand) (ho : op.op = .indexAddr 26 x ix) (i : Nat) (hx : a.eval x = .slice (some ⟨gb, off, none⟩) n cap) (hix : a.eval ix = .int .i64 (i : Int)) (hi : i < n) :
    YieldsIf Try.prog ops S op (.pointer (some ⟨gb, off + i, none⟩)) a := by
  refine .inl ⟨hw, fun w _ => ?_⟩
  have he : Try.prog.elem 26 = 5 := by kernel_rfl
  have hsz : (sizeOf 5).run Try.prog w = .ok 1 w := by kernel_rfl
  unfold execOp
  simp only [ho, hx, hix, Sem.run_bind]
  rw [run_indexAt_slice w 26 ⟨gb, off, none⟩ n cap .i64 (i : Int) under22, he, if_pos ⟨by omega, by omega⟩, hsz]
  simp only [Result.andThen, add_plain, Int.toNat_natCast, Nat.mul_one, Sem.run_pure]
theorem yields_ix0 {ops : Array Oper} {S : World → Prop} {op : Oper} {a : Act} {gb n cap : Nat} (hw : Region.wanted op (yielded ops a.tmps) = true) (x ix : Operand) (ho : op.op = .indexAddr 26 x ix) (i : Nat) (hx : a.eval x = .slice (some ⟨gb, 0, none⟩) n cap) (hix : a.eval ix = .int .i64 (i : Int)) (hi : i < n) :
    YieldsIf Try.prog ops S op (.pointer (some ⟨gb, i, none⟩)) a := by
  have := yields_ix (S := S) hw x ix ho i hx hix hi
  rwa [Nat.zero_add] at this
namespace icmpBack
theorem walk (s0 t0 : Ax) (m0 : Mg) (mv : Value) (a : Option Addr) (bs : List Int) (cap : Nat) (W : World) (hs0 : WfA s0) (ht0 : WfA t0) (hm : Dam W m0 mv) (hml : m0.d.length ≤ 140737488351232) (hbl : bs.length ≤ cap) (hbr : Row W a bs) (hbn : a = none → cap = 0) (hbc : cap ≤ 140737488351232) :
    Calls Try.prog 3 #[.agg (csA s0.v s0.l), .agg (csA t0.v t0.l), .agg (csM m0 mv), .slice a bs.length cap] W fun e W' => e = .returned (.bool true) ∧ Below W.heap.size W W' := by
  have HS0 := Lib.hid hs0; have HT0 := Lib.hid ht0
  have HM := Lib.hid hm
  have HR := Lib.hid hbr
  have HA : Hid (Away [] W W) := Away.refl _ _
  clear hs0 ht0 hm hbr
  go_enter Try.func3, Try.ntmps3
  go_wp2_with (refine wpList_box24 rfl _ rfl s0 rfl ?_; refine Hid.out ?_)
  refine Lib.hid ?_
  intro g4 w1 hg_g4 hb haw
  replace HA := Lib.hid (HA.out.on haw)
  clear haw
  have H4 := Lib.hid hb
  have hl_g4 := hb.lt
  clear hb
  go_wp2_with (refine wpList_box24 rfl _ rfl t0 rfl ?_; refine Hid.out ?_)
  refine Lib.hid ?_
  intro g5 w2 hg_g5 hb haw
  replace HA := Lib.hid (HA.out.on haw)
  replace H4 := Lib.hid (H4.out.on haw)
  clear haw
  have H5 := Lib.hid hb
  have hl_g5 := hb.lt
  clear hb
  go_wp2_with (refine wpList_boxM rfl _ rfl m0 mv rfl ?_; refine Hid.out ?_)
  refine Lib.hid ?_
  intro g6 w3 hg_g6 hb haw
  replace HA := Lib.hid (HA.out.on haw)
  replace H4 := Lib.hid (H4.out.on haw)
  replace H5 := Lib.hid (H5.out.on haw)
  clear haw
  have H6 := Lib.hid hb
  have hl_g6 := hb.lt
  clear hb
  go_wp2_with fail
  refine (alive_c _).mono ?_
  rintro E w4 ⟨rfl, haw⟩
  replace HA := Lib.hid (HA.out.on haw)
  replace H4 := Lib.hid (H4.out.on haw)
  replace H5 := Lib.hid (H5.out.on haw)
  replace H6 := Lib.hid (H6.out.on haw)
  clear haw
  go_wp2_with (first | (refine wpList_loadM rfl _ rfl g6 rfl m0 mv (by exact H6.out) ?_))
  refine (mended_c m0 mv _ (by exact HM.out.on HA.out)).mono ?_
  rintro E w5 ⟨q, qv, rfl, hfq, hsl, hnq, haw⟩
  replace HA := Lib.hid (HA.out.on haw)
  replace H4 := Lib.hid (H4.out.on haw)
  replace H5 := Lib.hid (H5.out.on haw)
  replace H6 := Lib.hid (H6.out.on haw)
  clear haw
  have HQ := Lib.hid hfq; have HD := Lib.hid hsl; have HNQ := Lib.hid hnq
  clear hfq hsl hnq
  clear H6
  obtain ⟨qa, qc, hqv, hq2, hq3, -⟩ := HD.out
  subst hqv
  go_wp2_with (refine wpList_newM rfl rfl rfl _ _ rfl q (.slice qa q.d.length qc) (fun _ => rfl) (fun _ => rfl) rfl ?_; refine Hid.out ?_)
  refine Lib.hid ?_
  intro g9 w6 hg_g9 hb haw
  replace HA := Lib.hid (HA.out.on haw)
  replace H4 := Lib.hid (H4.out.on haw)
  replace H5 := Lib.hid (H5.out.on haw)
  replace HD := Lib.hid (HD.out.on haw)
  clear haw
  have H9 := Lib.hid hb
  have hl_g9 := hb.lt
  clear hb
  obtain ⟨s, hs⟩ : ∃ s, s = adrP s0 (decide (q.v = 6)) := ⟨_, rfl⟩
  obtain ⟨t, ht⟩ : ∃ t, t = adrP t0 (decide (q.v = 6)) := ⟨_, rfl⟩
  have KP : Hid (∀ w, Calls Try.prog 9 #[.int .i64 q.v, .agg (csA s0.v s0.l), .agg (csA t0.v t0.l)] w fun E w' => PairOut w s t E w') := fun w => by rw [hs, ht]; exact lpair_c q.v s0 t0 w HS0.out HT0.out
  have HS : Hid (WfA s) := by rw [hs]; exact adrP_wf HS0.out _
  have HT : Hid (WfA t) := by rw [ht]; exact adrP_wf HT0.out _
  have HPR : Hid (pairP s t = true) := by rw [hs, ht]; exact adrP_pair HS0.out HT0.out _
  have HF : Hid (FitM s q) := by rw [hs]; exact HQ.out.fit s0
  have HWF := Lib.hid HQ.out.wf
  clear hs ht
  have cv := H9.out.c0
  go_wp2_with (first | (refine wpList_loadX rfl _ rfl g4 rfl s0 (by exact H4.out) HS0.out ?_) | (refine wpList_loadX rfl _ rfl g5 rfl t0 (by exact H5.out) HT0.out ?_))
  clear cv
  refine (KP.out _).mono ?_
  rintro E w7 ⟨rfl, haw⟩
  replace HA := Lib.hid (HA.out.on haw)
  replace H4 := Lib.hid (H4.out.on haw)
  replace H5 := Lib.hid (H5.out.on haw)
  replace HD := Lib.hid (HD.out.on haw)
  replace H9 := Lib.hid (H9.out.on haw)
  clear haw
  clear H4 H5
  have hl9b := H9.out.lt
  have hszb := HA.out.size
  have HDO := Lib.hid HD.out.old
  go_wp2_with (refine wpList_allocX rfl rfl ?_; refine Hid.out ?_)
  refine Lib.hid ?_
  intro g10 w8 hg_g10 hb haw
  replace HA := Lib.hid (HA.out.on haw)
  replace HD := Lib.hid (HD.out.on haw)
  replace H9 := Lib.hid (H9.out.on haw)
  clear haw
  have H10 := Lib.hid hb
  have hl_g10 := hb.lt
  clear hb
  go_wp2_with (refine wpList_allocX rfl rfl ?_; refine Hid.out ?_)
  refine Lib.hid ?_
  intro g11 w9 hg_g11 hb haw
  replace HA := Lib.hid (HA.out.on haw)
  replace HD := Lib.hid (HD.out.on haw)
  replace H9 := Lib.hid (H9.out.on haw)
  replace H10 := Lib.hid (H10.out.on haw)
  clear haw
  have H11 := Lib.hid hb
  have hl_g11 := hb.lt
  clear hb
  have hlt9 : g9 < g10 := by omega
  have hlt10 : g10 < g11 := by omega
  have hsz0 := HA.out.size
  go_wp2_with (refine wpList_storeX rfl _ _ rfl g10 rfl s rfl zeroAx (by exact H10.out) HS.out.n rfl ?_; refine Hid.out ?_)
  refine Lib.hid ?_
  intro w10 hb haw
  replace HA := Lib.hid (HA.out.next haw (fun x hx => .inr (by simp at hx; omega)))
  replace HD := Lib.hid (HD.out.away haw (fun hl k hk => by have := HDO.out hl k hk; simp; omega))
  replace H9 := Lib.hid (H9.out.away haw (by simp; omega))
  replace H11 := Lib.hid (H11.out.away haw (by simp; omega))
  replace H10 := Lib.hid hb
  clear hb haw
  go_wp2_with (refine wpList_storeX rfl _ _ rfl g11 rfl t rfl zeroAx (by exact H11.out) HT.out.n rfl ?_; refine Hid.out ?_)
  refine Lib.hid ?_
  intro w11 hb haw
  replace HA := Lib.hid (HA.out.next haw (fun x hx => .inr (by simp at hx; omega)))
  replace HD := Lib.hid (HD.out.away haw (fun hl k hk => by have := HDO.out hl k hk; simp; omega))
  replace H9 := Lib.hid (H9.out.away haw (by simp; omega))
  replace H10 := Lib.hid (H10.out.away haw (by simp; omega))
  replace H11 := Lib.hid hb
  clear hb haw
  obtain ⟨b, hb⟩ : ∃ b, b = mlayP s t q := ⟨_, rfl⟩
  have HBE : Hid (mbuildP s t q = (b, 0)) := by show _ = _; rw [hb]; exact mbuild_ok HPR.out HF.out
  have HPE : Hid (mparseP s t b = (q, 0)) := by show _ = _; rw [hb]; exact mparse_lay HPR.out HF.out
  have HBB : Hid (Bytes b) := by rw [hb]; exact mlay_bytes HS.out HT.out HF.out
  have HBN : Hid (b.length = 8 + q.d.length) := by show _ = _; rw [hb]; exact mlay_len s t q
  have HB0 : Hid (b[0]?.getD 0 = q.ty ∧ b[1]?.getD 0 = q.co) := by
    have := mlay_get s t q
    rw [← hb] at this
    exact ⟨this.1, this.2.1⟩
  clear hb
  have hq65 := HQ.out.n
  have hb65 : b.length ≤ 65515 := by have := HBN.out; omega
  have hb8 : 8 ≤ b.length := by have := HBN.out; omega
  go_upto_region 5 with fail
  refine wp_region_held_drew (S := (fun w' => Away [] w11 w')) (by kernel_rfl) ((Away.refl [] w11).drew) (fun hHeld => ?_)
  refine wpAnyH_take (i := 0) (by simp only [List.getElem?_toArray, List.getElem?_cons_zero]; rfl) (by kernel_rfl) (by kernel_rfl) (by kernel_rfl) (by exact fun _ _ _ h => h) (yields_ld (ad := ⟨g10, 0, none⟩) (by rfl) _ rfl rfl (fun w' h => load24_run (H10.out.on h) HS.out)) (by assumption) ?_
  try simp only [Act.put, List.setIfInBounds_toArray, List.set_cons_zero, List.set_cons_succ]
  refine wpAnyH_take (i := 1) (by simp only [List.getElem?_toArray, List.getElem?_cons_succ, List.getElem?_cons_zero]; rfl) (by kernel_rfl) (by kernel_rfl) (by kernel_rfl) (by exact fun _ _ _ h => h) (yields_ld (ad := ⟨g11, 0, none⟩) (by rfl) _ rfl rfl (fun w' h => load24_run (H11.out.on h) HT.out)) (by assumption) ?_
  try simp only [Act.put, List.setIfInBounds_toArray, List.set_cons_zero, List.set_cons_succ]
  refine wpAnyH_take (i := 2) (v := ?_) (by simp only [List.getElem?_toArray, List.getElem?_cons_succ, List.getElem?_cons_zero]; rfl) (by kernel_rfl) (by kernel_rfl) (by kernel_rfl) (by exact fun _ _ _ h => h) (Or.inl ⟨by rfl, ?_⟩) (by assumption) ?_
  rotate_left
  · intro wq hSw
    (try dsimp only at hSw)
    go_simp
    all_goals (with_reducible rfl)
  try simp only [Act.put, List.setIfInBounds_toArray, List.set_cons_zero, List.set_cons_succ]
  refine wpAnyH_take (i := 3) (by simp only [List.getElem?_toArray, List.getElem?_cons_succ, List.getElem?_cons_zero]; rfl) (by kernel_rfl) (by kernel_rfl) (by kernel_rfl) (by exact fun _ _ _ h => h) (yields_ld (ad := ⟨g9, 0, none⟩) (by rfl) _ rfl rfl (fun w' h => ld3 (H9.out.on h).c0)) (by assumption) ?_
  try simp only [Act.put, List.setIfInBounds_toArray, List.set_cons_zero, List.set_cons_succ]
  refine wpAnyH_take (i := 4) (v := ?_) (by simp only [List.getElem?_toArray, List.getElem?_cons_succ, List.getElem?_cons_zero]; rfl) (by kernel_rfl) (by kernel_rfl) (by kernel_rfl) (by exact fun _ _ _ h => h) (Or.inl ⟨by rfl, ?_⟩) (by assumption) ?_
  rotate_left
  · intro wq hSw
    (try dsimp only at hSw)
    go_simp
    all_goals (with_reducible rfl)
  try simp only [Act.put, List.setIfInBounds_toArray, List.set_cons_zero, List.set_cons_succ]
  refine wpAnyH_take (i := 5) (by simp only [List.getElem?_toArray, List.getElem?_cons_succ, List.getElem?_cons_zero]; rfl) (by kernel_rfl) (by kernel_rfl) (by kernel_rfl) (by exact fun _ _ _ h => h) (yields_ld (ad := ⟨g9, 1, none⟩) (by rfl) _ rfl rfl (fun w' h => ld3 (H9.out.on h).c1)) (by assumption) ?_
  try simp only [Act.put, List.setIfInBounds_toArray, List.set_cons_zero, List.set_cons_succ]
  refine wpAnyH_take (i := 6) (v := ?_) (by simp only [List.getElem?_toArray, List.getElem?_cons_succ, List.getElem?_cons_zero]; rfl) (by kernel_rfl) (by kernel_rfl) (by kernel_rfl) (by exact fun _ _ _ h => h) (Or.inl ⟨by rfl, ?_⟩) (by assumption) ?_
  rotate_left
  · intro wq hSw
    (try dsimp only at hSw)
    go_simp
    all_goals (with_reducible rfl)
  try simp only [Act.put, List.setIfInBounds_toArray, List.set_cons_zero, List.set_cons_succ]
  refine wpAnyH_take (i := 7) (by simp only [List.getElem?_toArray, List.getElem?_cons_succ, List.getElem?_cons_zero]; rfl) (by kernel_rfl) (by kernel_rfl) (by kernel_rfl) (by exact fun _ _ _ h => h) (yields_ld (ad := ⟨g9, 2, none⟩) (by rfl) _ rfl rfl (fun w' h => ld3 (H9.out.on h).c2)) (by assumption) ?_
  try simp only [Act.put, List.setIfInBounds_toArray, List.set_cons_zero, List.set_cons_succ]
  refine wpAnyH_take (i := 8) (v := ?_) (by simp only [List.getElem?_toArray, List.getElem?_cons_succ, List.getElem?_cons_zero]; rfl) (by kernel_rfl) (by kernel_rfl) (by kernel_rfl) (by exact fun _ _ _ h => h) (Or.inl ⟨by rfl, ?_⟩) (by assumption) ?_
  rotate_left
  · intro wq hSw
    (try dsimp only at hSw)
    go_simp
    all_goals (with_reducible rfl)
  try simp only [Act.put, List.setIfInBounds_toArray, List.set_cons_zero, List.set_cons_succ]
  refine wpAnyH_take (i := 9) (by simp only [List.getElem?_toArray, List.getElem?_cons_succ, List.getElem?_cons_zero]; rfl) (by kernel_rfl) (by kernel_rfl) (by kernel_rfl) (by exact fun _ _ _ h => h) (yields_ld (ad := ⟨g9, 3, none⟩) (by rfl) _ rfl rfl (fun w' h => ldU (H9.out.on h).c3)) (by assumption) ?_
  try simp only [Act.put, List.setIfInBounds_toArray, List.set_cons_zero, List.set_cons_succ]
  refine wpAnyH_take (i := 10) (v := ?_) (by simp only [List.getElem?_toArray, List.getElem?_cons_succ, List.getElem?_cons_zero]; rfl) (by kernel_rfl) (by kernel_rfl) (by kernel_rfl) (by exact fun _ _ _ h => h) (Or.inl ⟨by rfl, ?_⟩) (by assumption) ?_
  rotate_left
  · intro wq hSw
    (try dsimp only at hSw)
    go_simp
    all_goals (with_reducible rfl)
  try simp only [Act.put, List.setIfInBounds_toArray, List.set_cons_zero, List.set_cons_succ]
  refine wpAnyH_take (i := 11) (by simp only [List.getElem?_toArray, List.getElem?_cons_succ, List.getElem?_cons_zero]; rfl) (by kernel_rfl) (by kernel_rfl) (by kernel_rfl) (by exact fun _ _ _ h => h) (yields_ld (ad := ⟨g9, 4, none⟩) (by rfl) _ rfl rfl (fun w' h => ldB (H9.out.on h).c4)) (by assumption) ?_
  try simp only [Act.put, List.setIfInBounds_toArray, List.set_cons_zero, List.set_cons_succ]
  refine wpAnyH_ready (rs := [12]) (by kernel_rfl) (by simp) ?_
  refine AllReadyH.cons (by simp only [List.getElem?_toArray, List.getElem?_cons_succ, List.getElem?_cons_zero]; rfl) (fun K hK => ?_) AllReadyH.nil
  go_simp
  refine (own_any qa q.d _ qc _ rfl (by exact (HD.out.on hHeld).of.2.2.2)).mono ?_
  rintro E y1 ⟨vo, rfl, hown, hnwo, haw, -, -⟩
  have hS := hHeld.on haw
  clear haw
  obtain ⟨oa, oc, rfl, ho1, ho2⟩ := hown.slc
  go_wp2_with fail
  refine hK.out _ _ hS (fun hHeld => ?_)
  clear hK K
  try simp only [Act.put, List.setIfInBounds_toArray, List.set_cons_zero, List.set_cons_succ]
  refine wpAnyH_take (i := 13) (v := ?_) (by simp only [List.getElem?_toArray, List.getElem?_cons_succ, List.getElem?_cons_zero]; rfl) (by kernel_rfl) (by kernel_rfl) (by kernel_rfl) (by exact fun _ _ _ h => h) (Or.inl ⟨by rfl, ?_⟩) (by assumption) ?_
  rotate_left
  · intro wq hSw
    (try dsimp only at hSw)
    go_simp
    all_goals (with_reducible rfl)
  try simp only [Act.put, List.setIfInBounds_toArray, List.set_cons_zero, List.set_cons_succ]
  refine wpAnyH_ready (rs := [14]) (by kernel_rfl) (by simp) ?_
  refine AllReadyH.cons (by simp only [List.getElem?_toArray, List.getElem?_cons_succ, List.getElem?_cons_zero]; rfl) (fun K hK => ?_) AllReadyH.nil
  go_simp
  refine (build_c s t q (.slice oa q.d.length oc) _ HS.out HT.out ⟨HWF.out, by exact hown.sl HWF.out.d HWF.out.dn⟩).mono ?_
  rw [HBE.out]
  rintro E y2 ⟨v, rfl, hob, hnb, haw⟩
  have hS := hHeld.on haw
  have hzb := hHeld.size
  clear haw
  replace hob : Owns _ v b := hob
  obtain ⟨gb, cb, rfl, hcb⟩ := hob.block (by intro h; rw [h] at hb8; simp at hb8)
  have hgb := hnb gb rfl
  go_wp2_with fail
  refine hK.out _ _ hS (fun hHeld => ?_)
  clear hK K
  try simp only [Act.put, List.setIfInBounds_toArray, List.set_cons_zero, List.set_cons_succ]
  refine wpAnyH_take (i := 15) (v := ?_) (by simp only [List.getElem?_toArray, List.getElem?_cons_succ, List.getElem?_cons_zero]; rfl) (by kernel_rfl) (by kernel_rfl) (by kernel_rfl) (by exact fun _ _ _ h => h) (Or.inl ⟨by rfl, ?_⟩) (by assumption) ?_
  rotate_left
  · intro wq hSw
    (try dsimp only at hSw)
    go_simp
    all_goals (with_reducible rfl)
  try simp only [Act.put, List.setIfInBounds_toArray, List.set_cons_zero, List.set_cons_succ]
  refine wpAnyH_take (i := 16) (v := ?_) (by simp only [List.getElem?_toArray, List.getElem?_cons_succ, List.getElem?_cons_zero]; rfl) (by kernel_rfl) (by kernel_rfl) (by kernel_rfl) (by exact fun _ _ _ h => h) (Or.inl ⟨by rfl, ?_⟩) (by assumption) ?_
  rotate_left
  · intro wq hSw
    (try dsimp only at hSw)
    go_simp
    all_goals (with_reducible rfl)
  try simp only [Act.put, List.setIfInBounds_toArray, List.set_cons_zero, List.set_cons_succ]
  refine wpAnyH_take (i := 17) (v := ?_) (by simp only [List.getElem?_toArray, List.getElem?_cons_succ, List.getElem?_cons_zero]; rfl) (by kernel_rfl) (by kernel_rfl) (by kernel_rfl) (by exact fun _ _ _ h => h) (Or.inl ⟨by rfl, ?_⟩) (by assumption) ?_
  rotate_left
  · intro wq hSw
    (try dsimp only at hSw)
    go_simp
    all_goals (with_reducible rfl)
  try simp only [Act.put, List.setIfInBounds_toArray, List.set_cons_zero, List.set_cons_succ]
  refine wpAnyH_take (i := 18) (v := ?_) (by simp only [List.getElem?_toArray, List.getElem?_cons_succ, List.getElem?_cons_zero]; rfl) (by kernel_rfl) (by kernel_rfl) (by kernel_rfl) (by exact fun _ _ _ h => h) (Or.inl ⟨by rfl, ?_⟩) (by assumption) ?_
  rotate_left
  · intro wq hSw
    (try dsimp only at hSw)
    go_simp
    all_goals (with_reducible rfl)
  try simp only [Act.put, List.setIfInBounds_toArray, List.set_cons_zero, List.set_cons_succ]
  refine wpAnyH_take (i := 19) (v := ?_) (by simp only [List.getElem?_toArray, List.getElem?_cons_succ, List.getElem?_cons_zero]; rfl) (by kernel_rfl) (by kernel_rfl) (by kernel_rfl) (by exact fun _ _ _ h => h) (Or.inl ⟨by rfl, ?_⟩) (by assumption) ?_
  rotate_left
  · intro wq hSw
    (try dsimp only at hSw)
    go_simp
    all_goals (with_reducible rfl)
  try simp only [Act.put, List.setIfInBounds_toArray, List.set_cons_zero, List.set_cons_succ]
  refine wpAnyH_done (by kernel_rfl) ?_ _
  have haw := hHeld
  have HO := Lib.hid hob
  clear hHeld hob hown hS hnb hnwo
  generalize y2 = w12 at *
  replace HA := Lib.hid (HA.out.on haw)
  replace HD := Lib.hid (HD.out.on haw)
  replace H9 := Lib.hid (H9.out.on haw)
  replace H10 := Lib.hid (H10.out.on haw)
  replace H11 := Lib.hid (H11.out.on haw)
  clear haw
  have hgl := HO.out.lt gb rfl
  go_upto_region 6 with fail
  go_cut [14, 15] (fun v er wc => ∃ g14 vp, v = .pointer (some ⟨g14, 0, none⟩) ∧ er = .int .i64 0 ∧ BoxM wc g14 q vp ∧ Owns wc vp q.d ∧ Away [] w12 wc ∧ w12.heap.size ≤ g14)
  case first =>
    refine wp_region_held_drew (S := (fun w' => Away [] w12 w')) (by kernel_rfl) ((Away.refl [] w12).drew) (fun hHeld => ?_)
    refine wpAnyH_take (i := 0) (by simp only [List.getElem?_toArray, List.getElem?_cons_zero]; rfl) (by kernel_rfl) (by kernel_rfl) (by kernel_rfl) (by exact fun _ _ _ h => h) (yields_ld (ad := ⟨g10, 0, none⟩) (by rfl) _ rfl rfl (fun w' h => load24_run (H10.out.on h) HS.out)) (by assumption) ?_
    try simp only [Act.put, List.setIfInBounds_toArray, List.set_cons_zero, List.set_cons_succ]
    refine wpAnyH_take (i := 1) (by simp only [List.getElem?_toArray, List.getElem?_cons_succ, List.getElem?_cons_zero]; rfl) (by kernel_rfl) (by kernel_rfl) (by kernel_rfl) (by exact fun _ _ _ h => h) (yields_ld (ad := ⟨g11, 0, none⟩) (by rfl) _ rfl rfl (fun w' h => load24_run (H11.out.on h) HT.out)) (by assumption) ?_
    try simp only [Act.put, List.setIfInBounds_toArray, List.set_cons_zero, List.set_cons_succ]
    refine wpAnyH_take (i := 2) (v := ?_) (by simp only [List.getElem?_toArray, List.getElem?_cons_succ, List.getElem?_cons_zero]; rfl) (by kernel_rfl) (by kernel_rfl) (by kernel_rfl) (by exact fun _ _ _ h => h) (Or.inl ⟨by rfl, ?_⟩) (by assumption) ?_
    rotate_left
    · intro wq hSw
      (try dsimp only at hSw)
      go_simp
      all_goals (with_reducible rfl)
    try simp only [Act.put, List.setIfInBounds_toArray, List.set_cons_zero, List.set_cons_succ]
    refine wpAnyH_ready (rs := [3, 8]) (by kernel_rfl) (by simp) ?_
    refine AllReadyH.cons (by simp only [List.getElem?_toArray, List.getElem?_cons_succ, List.getElem?_cons_zero]; rfl) (fun K hK => ?_) (AllReadyH.cons (by simp only [List.getElem?_toArray, List.getElem?_cons_succ, List.getElem?_cons_zero]; rfl) (fun K hK => ?_) AllReadyH.nil)
    · go_simp
      refine (own_any (some ⟨gb, 0, none⟩) b _ cb _ rfl (by exact (HO.out.row' (by omega) HBB.out).on hHeld)).mono ?_
      rintro E y1 ⟨vo, rfl, hown, hnwo, haw, -, -⟩
      have hS := hHeld.on haw
      clear haw
      obtain ⟨oa, oc, rfl, ho1, ho2⟩ := hown.slc
      go_wp2_with fail
      refine hK.out _ _ hS (fun hHeld => ?_)
      clear hK K
      try simp only [Act.put, List.setIfInBounds_toArray, List.set_cons_zero, List.set_cons_succ]
      refine wpAnyH_ready (rs := [4, 8]) (by kernel_rfl) (by simp) ?_
      refine AllReadyH.cons (by simp only [List.getElem?_toArray, List.getElem?_cons_succ, List.getElem?_cons_zero]; rfl) (fun K hK => ?_) (AllReadyH.cons (by simp only [List.getElem?_toArray, List.getElem?_cons_succ, List.getElem?_cons_zero]; rfl) (fun K hK => ?_) AllReadyH.nil)
      · go_simp
        refine (parse_c s t oa b oc _ HS.out HT.out (by exact hown.row' (by omega) HBB.out) ho1).mono ?_
        rw [HPE.out]
        rintro E y2 ⟨vp, rfl, hpo, hnwp, haw⟩
        have hS := hHeld.on haw
        have hzp := hHeld.size
        replace hown := hown.on haw
        clear haw
        obtain ⟨pa, pc, rfl, -, -⟩ := hpo.slc
        go_wp2_with fail
        refine hK.out _ _ hS (fun hHeld => ?_)
        clear hK K
        try simp only [Act.put, List.setIfInBounds_toArray, List.set_cons_zero, List.set_cons_succ]
        refine wpAnyH_take (i := 5) (v := ?_) (by simp only [List.getElem?_toArray, List.getElem?_cons_succ, List.getElem?_cons_zero]; rfl) (by kernel_rfl) (by kernel_rfl) (by kernel_rfl) (by exact fun _ _ _ h => h) (Or.inl ⟨by rfl, ?_⟩) (by assumption) ?_
        rotate_left
        · intro wq hSw
          (try dsimp only at hSw)
          go_simp
          all_goals (with_reducible rfl)
        try simp only [Act.put, List.setIfInBounds_toArray, List.set_cons_zero, List.set_cons_succ]
        refine wpAnyH_take (i := 6) (v := ?_) (by simp only [List.getElem?_toArray, List.getElem?_cons_succ, List.getElem?_cons_zero]; rfl) (by kernel_rfl) (by kernel_rfl) (by kernel_rfl) (by exact fun _ _ _ h => h) (Or.inl ⟨by rfl, ?_⟩) (by assumption) ?_
        rotate_left
        · intro wq hSw
          (try dsimp only at hSw)
          go_simp
          all_goals (with_reducible rfl)
        try simp only [Act.put, List.setIfInBounds_toArray, List.set_cons_zero, List.set_cons_succ]
        refine wpAnyH_take (i := 7) (v := ?_) (by simp only [List.getElem?_toArray, List.getElem?_cons_succ, List.getElem?_cons_zero]; rfl) (by kernel_rfl) (by kernel_rfl) (by kernel_rfl) (by exact fun _ _ _ h => h) (Or.inl ⟨by rfl, ?_⟩) (by assumption) ?_
        rotate_left
        · intro wq hSw
          (try dsimp only at hSw)
          go_simp
          all_goals (with_reducible rfl)
        try simp only [Act.put, List.setIfInBounds_toArray, List.set_cons_zero, List.set_cons_succ]
        refine wpAnyH_ready (rs := [8]) (by kernel_rfl) (by simp) ?_
        refine AllReadyH.cons (by simp only [List.getElem?_toArray, List.getElem?_cons_succ, List.getElem?_cons_zero]; rfl) (fun K hK => ?_) AllReadyH.nil
        rw [if_pos (by rfl)]
        refine wp_allocM rfl ?_
        intro g14 y3 hg14 hbx haw
        have hS := hHeld.on haw
        have hza := hHeld.size
        have hl14 := hbx.lt
        have hlp := hpo.lt
        have hne : ∀ k, (Value.slice pa _ pc).ownBlock = some k → k ≠ g14 := fun k hk => by have := hlp k hk; omega
        replace hown := hown.on haw
        replace hpo := hpo.on haw
        clear haw
        refine hK.out _ _ hS (fun hHeld => ?_)
        clear hK K
        try simp only [Act.put, List.setIfInBounds_toArray, List.set_cons_zero, List.set_cons_succ]
        refine wpAnyH_ready (rs := [9]) (by kernel_rfl) (by simp) ?_
        refine AllReadyH.cons (by simp only [List.getElem?_toArray, List.getElem?_cons_succ, List.getElem?_cons_zero]; rfl) (fun K hK => ?_) AllReadyH.nil
        rw [if_pos (by rfl)]
        refine wp_storeM (.tmp 14) (.tmp 56) rfl g14 rfl q (.slice pa _ pc) rfl zeroMg (.slice none 0 0) (by exact hbx) rfl ?_
        intro y4 hb2 haw
        have hS : Away [] w12 y4 := hHeld.next haw (fun x hx => .inr (by simp at hx; omega))
        have hpo2 := hpo.away haw (fun k hk => by have := hne k hk; simpa using this)
        clear haw
        refine hK.out _ _ hS (fun hHeld => ?_)
        clear hK K
        try simp only [Act.put]
        refine wpAnyH_take (i := 10) (v := ?_) (by simp only [List.getElem?_toArray, List.getElem?_cons_succ, List.getElem?_cons_zero]; rfl) (by kernel_rfl) (by kernel_rfl) (by kernel_rfl) (by exact fun _ _ _ h => h) (Or.inl ⟨by rfl, ?_⟩) (by assumption) ?_
        rotate_left
        · intro wq hSw
          (try dsimp only at hSw)
          go_simp
          all_goals (with_reducible rfl)
        try simp only [Act.put, List.setIfInBounds_toArray, List.set_cons_zero, List.set_cons_succ]
        refine wpAnyH_done (by kernel_rfl) ?_ _
        go_wp2_with fail
        go_meet
        exact ⟨g14, _, rfl, rfl, hb2, hpo2, hHeld, by omega⟩
      · rw [if_pos (by rfl)]
        refine wp_allocM rfl ?_
        intro g14 y2 hg14 hbx haw
        have hS := hHeld.on haw
        have hza := hHeld.size
        have hl14 := hbx.lt
        replace hown := hown.on haw
        clear haw
        refine hK.out _ _ hS (fun hHeld => ?_)
        clear hK K
        try simp only [Act.put, List.setIfInBounds_toArray, List.set_cons_zero, List.set_cons_succ]
        refine wpAnyH_ready (rs := [4]) (by kernel_rfl) (by simp) ?_
        refine AllReadyH.cons (by simp only [List.getElem?_toArray, List.getElem?_cons_succ, List.getElem?_cons_zero]; rfl) (fun K hK => ?_) AllReadyH.nil
        go_simp
        refine (parse_c s t oa b oc _ HS.out HT.out (by exact hown.row' (by omega) HBB.out) ho1).mono ?_
        rw [HPE.out]
        rintro E y3 ⟨vp, rfl, hpo, hnwp, haw⟩
        have hS := hHeld.on haw
        have hzp := hHeld.size
        have hlx := hbx.lt
        replace hown := hown.on haw
        replace hbx := hbx.on haw
        have hne : ∀ k, vp.ownBlock = some k → k ≠ g14 := fun k hk => by have := hnwp k hk; omega
        clear haw
        obtain ⟨pa, pc, rfl, -, -⟩ := hpo.slc
        go_wp2_with fail
        refine hK.out _ _ hS (fun hHeld => ?_)
        clear hK K
        try simp only [Act.put, List.setIfInBounds_toArray, List.set_cons_zero, List.set_cons_succ]
        refine wpAnyH_take (i := 5) (v := ?_) (by simp only [List.getElem?_toArray, List.getElem?_cons_succ, List.getElem?_cons_zero]; rfl) (by kernel_rfl) (by kernel_rfl) (by kernel_rfl) (by exact fun _ _ _ h => h) (Or.inl ⟨by rfl, ?_⟩) (by assumption) ?_
        rotate_left
        · intro wq hSw
          (try dsimp only at hSw)
          go_simp
          all_goals (with_reducible rfl)
        try simp only [Act.put, List.setIfInBounds_toArray, List.set_cons_zero, List.set_cons_succ]
        refine wpAnyH_take (i := 6) (v := ?_) (by simp only [List.getElem?_toArray, List.getElem?_cons_succ, List.getElem?_cons_zero]; rfl) (by kernel_rfl) (by kernel_rfl) (by kernel_rfl) (by exact fun _ _ _ h => h) (Or.inl ⟨by rfl, ?_⟩) (by assumption) ?_
        rotate_left
        · intro wq hSw
          (try dsimp only at hSw)
          go_simp
          all_goals (with_reducible rfl)
        try simp only [Act.put, List.setIfInBounds_toArray, List.set_cons_zero, List.set_cons_succ]
        refine wpAnyH_take (i := 7) (v := ?_) (by simp only [List.getElem?_toArray, List.getElem?_cons_succ, List.getElem?_cons_zero]; rfl) (by kernel_rfl) (by kernel_rfl) (by kernel_rfl) (by exact fun _ _ _ h => h) (Or.inl ⟨by rfl, ?_⟩) (by assumption) ?_
        rotate_left
        · intro wq hSw
          (try dsimp only at hSw)
          go_simp
          all_goals (with_reducible rfl)
        try simp only [Act.put, List.setIfInBounds_toArray, List.set_cons_zero, List.set_cons_succ]
        refine wpAnyH_ready (rs := [9]) (by kernel_rfl) (by simp) ?_
        refine AllReadyH.cons (by simp only [List.getElem?_toArray, List.getElem?_cons_succ, List.getElem?_cons_zero]; rfl) (fun K hK => ?_) AllReadyH.nil
        rw [if_pos (by rfl)]
        refine wp_storeM (.tmp 14) (.tmp 56) rfl g14 rfl q (.slice pa _ pc) rfl zeroMg (.slice none 0 0) (by exact hbx) rfl ?_
        intro y4 hb2 haw
        have hS : Away [] w12 y4 := hHeld.next haw (fun x hx => .inr (by simp at hx; omega))
        have hpo2 := hpo.away haw (fun k hk => by have := hne k hk; simpa using this)
        clear haw
        refine hK.out _ _ hS (fun hHeld => ?_)
        clear hK K
        try simp only [Act.put]
        refine wpAnyH_take (i := 10) (v := ?_) (by simp only [List.getElem?_toArray, List.getElem?_cons_succ, List.getElem?_cons_zero]; rfl) (by kernel_rfl) (by kernel_rfl) (by kernel_rfl) (by exact fun _ _ _ h => h) (Or.inl ⟨by rfl, ?_⟩) (by assumption) ?_
        rotate_left
        · intro wq hSw
          (try dsimp only at hSw)
          go_simp
          all_goals (with_reducible rfl)
        try simp only [Act.put, List.setIfInBounds_toArray, List.set_cons_zero, List.set_cons_succ]
        refine wpAnyH_done (by kernel_rfl) ?_ _
        go_wp2_with fail
        go_meet
        exact ⟨g14, _, rfl, rfl, hb2, hpo2, hHeld, by omega⟩
    · rw [if_pos (by rfl)]
      refine wp_allocM rfl ?_
      intro g14 y1 hg14 hbx haw
      have hS := hHeld.on haw
      have hza := hHeld.size
      have hl14 := hbx.lt
      clear haw
      refine hK.out _ _ hS (fun hHeld => ?_)
      clear hK K
      try simp only [Act.put, List.setIfInBounds_toArray, List.set_cons_zero, List.set_cons_succ]
      refine wpAnyH_ready (rs := [3]) (by kernel_rfl) (by simp) ?_
      refine AllReadyH.cons (by simp only [List.getElem?_toArray, List.getElem?_cons_succ, List.getElem?_cons_zero]; rfl) (fun K hK => ?_) AllReadyH.nil
      go_simp
      refine (own_any (some ⟨gb, 0, none⟩) b _ cb _ rfl (by exact (HO.out.row' (by omega) HBB.out).on hHeld)).mono ?_
      rintro E y2 ⟨vo, rfl, hown, hnwo, haw, -, -⟩
      have hS := hHeld.on haw
      replace hbx := hbx.on haw
      clear haw
      obtain ⟨oa, oc, rfl, ho1, ho2⟩ := hown.slc
      go_wp2_with fail
      refine hK.out _ _ hS (fun hHeld => ?_)
      clear hK K
      try simp only [Act.put, List.setIfInBounds_toArray, List.set_cons_zero, List.set_cons_succ]
      refine wpAnyH_ready (rs := [4]) (by kernel_rfl) (by simp) ?_
      refine AllReadyH.cons (by simp only [List.getElem?_toArray, List.getElem?_cons_succ, List.getElem?_cons_zero]; rfl) (fun K hK => ?_) AllReadyH.nil
      go_simp
      refine (parse_c s t oa b oc _ HS.out HT.out (by exact hown.row' (by omega) HBB.out) ho1).mono ?_
      rw [HPE.out]
      rintro E y3 ⟨vp, rfl, hpo, hnwp, haw⟩
      have hS := hHeld.on haw
      have hzp := hHeld.size
      have hlx := hbx.lt
      replace hbx := hbx.on haw
      replace hown := hown.on haw
      have hne : ∀ k, vp.ownBlock = some k → k ≠ g14 := fun k hk => by have := hnwp k hk; omega
      clear haw
      obtain ⟨pa, pc, rfl, -, -⟩ := hpo.slc
      go_wp2_with fail
      refine hK.out _ _ hS (fun hHeld => ?_)
      clear hK K
      try simp only [Act.put, List.setIfInBounds_toArray, List.set_cons_zero, List.set_cons_succ]
      refine wpAnyH_take (i := 5) (v := ?_) (by simp only [List.getElem?_toArray, List.getElem?_cons_succ, List.getElem?_cons_zero]; rfl) (by kernel_rfl) (by kernel_rfl) (by kernel_rfl) (by exact fun _ _ _ h => h) (Or.inl ⟨by rfl, ?_⟩) (by assumption) ?_
      rotate_left
      · intro wq hSw
        (try dsimp only at hSw)
        go_simp
        all_goals (with_reducible rfl)
      try simp only [Act.put, List.setIfInBounds_toArray, List.set_cons_zero, List.set_cons_succ]
      refine wpAnyH_take (i := 6) (v := ?_) (by simp only [List.getElem?_toArray, List.getElem?_cons_succ, List.getElem?_cons_zero]; rfl) (by kernel_rfl) (by kernel_rfl) (by kernel_rfl) (by exact fun _ _ _ h => h) (Or.inl ⟨by rfl, ?_⟩) (by assumption) ?_
      rotate_left
      · intro wq hSw
        (try dsimp only at hSw)
        go_simp
        all_goals (with_reducible rfl)
      try simp only [Act.put, List.setIfInBounds_toArray, List.set_cons_zero, List.set_cons_succ]
      refine wpAnyH_take (i := 7) (v := ?_) (by simp only [List.getElem?_toArray, List.getElem?_cons_succ, List.getElem?_cons_zero]; rfl) (by kernel_rfl) (by kernel_rfl) (by kernel_rfl) (by exact fun _ _ _ h => h) (Or.inl ⟨by rfl, ?_⟩) (by assumption) ?_
      rotate_left
      · intro wq hSw
        (try dsimp only at hSw)
        go_simp
        all_goals (with_reducible rfl)
      try simp only [Act.put, List.setIfInBounds_toArray, List.set_cons_zero, List.set_cons_succ]
      refine wpAnyH_ready (rs := [9]) (by kernel_rfl) (by simp) ?_
      refine AllReadyH.cons (by simp only [List.getElem?_toArray, List.getElem?_cons_succ, List.getElem?_cons_zero]; rfl) (fun K hK => ?_) AllReadyH.nil
      rw [if_pos (by rfl)]
      refine wp_storeM (.tmp 14) (.tmp 56) rfl g14 rfl q (.slice pa _ pc) rfl zeroMg (.slice none 0 0) (by exact hbx) rfl ?_
      intro y4 hb2 haw
      have hS : Away [] w12 y4 := hHeld.next haw (fun x hx => .inr (by simp at hx; omega))
      have hpo2 := hpo.away haw (fun k hk => by have := hne k hk; simpa using this)
      clear haw
      refine hK.out _ _ hS (fun hHeld => ?_)
      clear hK K
      try simp only [Act.put]
      refine wpAnyH_take (i := 10) (v := ?_) (by simp only [List.getElem?_toArray, List.getElem?_cons_succ, List.getElem?_cons_zero]; rfl) (by kernel_rfl) (by kernel_rfl) (by kernel_rfl) (by exact fun _ _ _ h => h) (Or.inl ⟨by rfl, ?_⟩) (by assumption) ?_
      rotate_left
      · intro wq hSw
        (try dsimp only at hSw)
        go_simp
        all_goals (with_reducible rfl)
      try simp only [Act.put, List.setIfInBounds_toArray, List.set_cons_zero, List.set_cons_succ]
      refine wpAnyH_done (by kernel_rfl) ?_ _
      go_wp2_with fail
      go_meet
      exact ⟨g14, _, rfl, rfl, hb2, hpo2, hHeld, by omega⟩
  case rest =>
  obtain ⟨g14, g14v, rfl, rfl, hb, hpo, haw, hg_g14⟩ := hcut
  generalize wc = w13 at *
  replace HA := Lib.hid (HA.out.on haw)
  replace HD := Lib.hid (HD.out.on haw)
  replace H9 := Lib.hid (H9.out.on haw)
  replace H10 := Lib.hid (H10.out.on haw)
  replace H11 := Lib.hid (H11.out.on haw)
  replace HO := Lib.hid (HO.out.on haw)
  clear haw
  have Hg14 := Lib.hid hb; have HOg14 := Lib.hid hpo
  have hl_g14 := hb.lt
  clear hb hpo
  have hqt0 := HQ.out.ty0; have hqt1 := HQ.out.ty1; have hqc0 := HQ.out.co0; have hqc1 := HQ.out.co1
  obtain ⟨pa, pc, hpv, -, -⟩ := HOg14.out.slc
  subst hpv
  obtain ⟨c0, -⟩ := HO.out.cells 0 (by omega)
  obtain ⟨c1, -⟩ := HO.out.cells 1 (by omega)
  rw [HB0.out.1] at c0
  rw [HB0.out.2] at c1
  have HC0 := Lib.hid c0; have HC1 := Lib.hid c1
  clear c0 c1
  have r1 : IntKind.i64.wrap (8 + (q.d.length : Int)) = (b.length : Int) := by rw [IntKind.wrap_i64]; have := HBN.out; omega
  have r2 : IntKind.i64.wrap q.ty = q.ty := IntWalk.i64_in _ ⟨by omega, by omega⟩
  have r3 : IntKind.i64.wrap q.co = q.co := IntWalk.i64_in _ ⟨by omega, by omega⟩
  have r4 : ((b.length : Int) != (b.length : Int)) = false := by simp
  have r5 : (q.ty != q.ty) = false := by simp
  have r6 : (q.co != q.co) = false := by simp
  go_upto_region 7 with fail
  refine wp_region_held_drew (S := (fun w' => Away [] w13 w')) (by kernel_rfl) ((Away.refl [] w13).drew) (fun hHeld => ?_)
  refine wpAnyH_take (i := 0) (v := ?_) (by simp only [List.getElem?_toArray, List.getElem?_cons_zero]; rfl) (by kernel_rfl) (by kernel_rfl) (by kernel_rfl) (by exact fun _ _ _ h => h) (Or.inl ⟨by rfl, ?_⟩) (by assumption) ?_
  rotate_left
  · intro wq hSw
    (try dsimp only at hSw)
    go_simp
    all_goals (with_reducible rfl)
  try simp only [Act.put, List.setIfInBounds_toArray, List.set_cons_zero, List.set_cons_succ]
  refine wpAnyH_take (i := 1) (v := ?_) (by simp only [List.getElem?_toArray, List.getElem?_cons_succ, List.getElem?_cons_zero]; rfl) (by kernel_rfl) (by kernel_rfl) (by kernel_rfl) (by exact fun _ _ _ h => h) (Or.inl ⟨by rfl, ?_⟩) (by assumption) ?_
  rotate_left
  · intro wq hSw
    (try dsimp only at hSw)
    go_simp
    all_goals (with_reducible rfl)
  try simp only [Act.put, List.setIfInBounds_toArray, List.set_cons_zero, List.set_cons_succ]
  refine wpAnyH_take (i := 2) (v := ?_) (by simp only [List.getElem?_toArray, List.getElem?_cons_succ, List.getElem?_cons_zero]; rfl) (by kernel_rfl) (by kernel_rfl) (by kernel_rfl) (by exact fun _ _ _ h => h) (Or.inl ⟨by rfl, ?_⟩) (by assumption) ?_
  rotate_left
  · intro wq hSw
    (try dsimp only at hSw)
    go_simp
    all_goals (with_reducible rfl)
  try simp only [Act.put, List.setIfInBounds_toArray, List.set_cons_zero, List.set_cons_succ]
  refine wpAnyH_take (i := 3) (v := ?_) (by simp only [List.getElem?_toArray, List.getElem?_cons_succ, List.getElem?_cons_zero]; rfl) (by kernel_rfl) (by kernel_rfl) (by kernel_rfl) (by exact fun _ _ _ h => h) (Or.inl ⟨by rfl, ?_⟩) (by assumption) ?_
  rotate_left
  · intro wq hSw
    (try dsimp only at hSw)
    go_simp
    all_goals (with_reducible rfl)
  try simp only [Act.put, List.setIfInBounds_toArray, List.set_cons_zero, List.set_cons_succ]
  refine wpAnyH_take (i := 4) (v := ?_) (by simp only [List.getElem?_toArray, List.getElem?_cons_succ, List.getElem?_cons_zero]; rfl) (by kernel_rfl) (by kernel_rfl) (by kernel_rfl) (by exact fun _ _ _ h => h) (Or.inl ⟨by rfl, ?_⟩) (by assumption) ?_
  rotate_left
  · intro wq hSw
    (try dsimp only at hSw)
    go_simp
    all_goals (with_reducible rfl)
  try simp only [Act.put, List.setIfInBounds_toArray, List.set_cons_zero, List.set_cons_succ]
  refine wpAnyH_take (i := 5) (v := ?_) (by simp only [List.getElem?_toArray, List.getElem?_cons_succ, List.getElem?_cons_zero]; rfl) (by kernel_rfl) (by kernel_rfl) (by kernel_rfl) (by exact fun _ _ _ h => h) (Or.inl ⟨by rfl, ?_⟩) (by assumption) ?_
  rotate_left
  · intro wq hSw
    (try dsimp only at hSw)
    go_simp
    all_goals (with_reducible rfl)
  try simp only [Act.put, List.setIfInBounds_toArray, List.set_cons_zero, List.set_cons_succ]
  refine wpAnyH_take (i := 6) (v := ?_) (by simp only [List.getElem?_toArray, List.getElem?_cons_succ, List.getElem?_cons_zero]; rfl) (by kernel_rfl) (by kernel_rfl) (by kernel_rfl) (by exact fun _ _ _ h => h) (Or.inl ⟨by rfl, ?_⟩) (by assumption) ?_
  rotate_left
  · intro wq hSw
    (try dsimp only at hSw)
    go_simp
    all_goals (with_reducible rfl)
  try simp only [Act.put, List.setIfInBounds_toArray, List.set_cons_zero, List.set_cons_succ]
  refine wpAnyH_take (i := 7) (by simp only [List.getElem?_toArray, List.getElem?_cons_succ, List.getElem?_cons_zero]; rfl) (by kernel_rfl) (by kernel_rfl) (by kernel_rfl) (by exact fun _ _ _ h => h) (yields_ld (ad := ⟨g14, 0, none⟩) (by rfl) _ rfl rfl (fun w' h => loadM_run (Hg14.out.on h))) (by assumption) ?_
  try simp only [Act.put, List.setIfInBounds_toArray, List.set_cons_zero, List.set_cons_succ]
  refine wpAnyH_take (i := 8) (by simp only [List.getElem?_toArray, List.getElem?_cons_succ, List.getElem?_cons_zero]; rfl) (by kernel_rfl) (by kernel_rfl) (by kernel_rfl) (by exact fun _ _ _ h => h) (yields_ld (ad := ⟨g9, 0, none⟩) (by rfl) _ rfl rfl (fun w' h => loadM_run (H9.out.on h))) (by assumption) ?_
  try simp only [Act.put, List.setIfInBounds_toArray, List.set_cons_zero, List.set_cons_succ]
  refine wpAnyH_ready (rs := [9]) (by kernel_rfl) (by simp) ?_
  refine AllReadyH.cons (by simp only [List.getElem?_toArray, List.getElem?_cons_succ, List.getElem?_cons_zero]; rfl) (fun K hK => ?_) AllReadyH.nil
  go_simp
  refine (sameM_yes q _ _ _ (by exact (HOg14.out.on hHeld).sl HWF.out.d HWF.out.dn) (by exact HD.out.on hHeld)).mono ?_
  rintro E y1 ⟨rfl, haw⟩
  have hS := hHeld.on haw
  clear haw
  go_wp2_with fail
  refine hK.out _ _ hS (fun hHeld => ?_)
  clear hK K
  try simp only [Act.put, List.setIfInBounds_toArray, List.set_cons_zero, List.set_cons_succ]
  refine wpAnyH_take (i := 10) (v := ?_) (by simp only [List.getElem?_toArray, List.getElem?_cons_succ, List.getElem?_cons_zero]; rfl) (by kernel_rfl) (by kernel_rfl) (by kernel_rfl) (by exact fun _ _ _ h => h) (Or.inl ⟨by rfl, ?_⟩) (by assumption) ?_
  rotate_left
  · intro wq hSw
    (try dsimp only at hSw)
    go_simp
    all_goals (with_reducible rfl)
  try simp only [Act.put, List.setIfInBounds_toArray, List.set_cons_zero, List.set_cons_succ]
  refine wpAnyH_take (i := 11) (v := ?_) (by simp only [List.getElem?_toArray, List.getElem?_cons_succ, List.getElem?_cons_zero]; rfl) (by kernel_rfl) (by kernel_rfl) (by kernel_rfl) (by exact fun _ _ _ h => h) (Or.inl ⟨by rfl, ?_⟩) (by assumption) ?_
  rotate_left
  · intro wq hSw
    (try dsimp only at hSw)
    go_simp
    all_goals (with_reducible rfl)
  try simp only [Act.put, List.setIfInBounds_toArray, List.set_cons_zero, List.set_cons_succ]
  refine wpAnyH_take (i := 12) (v := ?_) (by simp only [List.getElem?_toArray, List.getElem?_cons_succ, List.getElem?_cons_zero]; rfl) (by kernel_rfl) (by kernel_rfl) (by kernel_rfl) (by exact fun _ _ _ h => h) (Or.inl ⟨by rfl, ?_⟩) (by assumption) ?_
  rotate_left
  · intro wq hSw
    (try dsimp only at hSw)
    go_simp
    all_goals (with_reducible rfl)
  try simp only [Act.put, List.setIfInBounds_toArray, List.set_cons_zero, List.set_cons_succ]
  refine wpAnyH_take (i := 13) (v := ?_) (by simp only [List.getElem?_toArray, List.getElem?_cons_succ, List.getElem?_cons_zero]; rfl) (by kernel_rfl) (by kernel_rfl) (by kernel_rfl) (by exact fun _ _ _ h => h) (Or.inl ⟨by rfl, ?_⟩) (by assumption) ?_
  rotate_left
  · intro wq hSw
    (try dsimp only at hSw)
    go_simp
    all_goals (with_reducible rfl)
  try simp only [Act.put, List.setIfInBounds_toArray, List.set_cons_zero, List.set_cons_succ]
  refine wpAnyH_take (i := 14) (v := ?_) (by simp only [List.getElem?_toArray, List.getElem?_cons_succ, List.getElem?_cons_zero]; rfl) (by kernel_rfl) (by kernel_rfl) (by kernel_rfl) (by exact fun _ _ _ h => h) (Or.inl ⟨by rfl, ?_⟩) (by assumption) ?_
  rotate_left
  · intro wq hSw
    (try dsimp only at hSw)
    go_simp
    all_goals (with_reducible rfl)
  try simp only [Act.put, List.setIfInBounds_toArray, List.set_cons_zero, List.set_cons_succ]
  refine wpAnyH_take (i := 15) (v := ?_) (by simp only [List.getElem?_toArray, List.getElem?_cons_succ, List.getElem?_cons_zero]; rfl) (by kernel_rfl) (by kernel_rfl) (by kernel_rfl) (by exact fun _ _ _ h => h) (Or.inl ⟨by rfl, ?_⟩) (by assumption) ?_
  rotate_left
  · intro wq hSw
    (try dsimp only at hSw)
    go_simp
    all_goals (with_reducible rfl)
  try simp only [Act.put, List.setIfInBounds_toArray, List.set_cons_zero, List.set_cons_succ]
  refine wpAnyH_take (i := 16) (by simp only [List.getElem?_toArray, List.getElem?_cons_succ, List.getElem?_cons_zero]; rfl) (by kernel_rfl) (by kernel_rfl) (by kernel_rfl) (by exact fun _ _ _ h => h) (yields_ld (ad := ⟨g9, 4, none⟩) (by rfl) _ rfl rfl (fun w' h => ldB (H9.out.on h).c4)) (by assumption) ?_
  try simp only [Act.put, List.setIfInBounds_toArray, List.set_cons_zero, List.set_cons_succ]
  refine wpAnyH_take (i := 17) (v := ?_) (by simp only [List.getElem?_toArray, List.getElem?_cons_succ, List.getElem?_cons_zero]; rfl) (by kernel_rfl) (by kernel_rfl) (by kernel_rfl) (by exact fun _ _ _ h => h) (Or.inl ⟨by rfl, ?_⟩) (by assumption) ?_
  rotate_left
  · intro wq hSw
    (try dsimp only at hSw)
    go_simp
    all_goals (with_reducible rfl)
  try simp only [Act.put, List.setIfInBounds_toArray, List.set_cons_zero, List.set_cons_succ]
  refine wpAnyH_take (i := 18) (v := ?_) (by simp only [List.getElem?_toArray, List.getElem?_cons_succ, List.getElem?_cons_zero]; rfl) (by kernel_rfl) (by kernel_rfl) (by kernel_rfl) (by exact fun _ _ _ h => h) (Or.inl ⟨by rfl, ?_⟩) (by assumption) ?_
  rotate_left
  · intro wq hSw
    (try dsimp only at hSw)
    go_simp
    all_goals (with_reducible rfl)
  try simp only [Act.put, List.setIfInBounds_toArray, List.set_cons_zero, List.set_cons_succ]
  refine wpAnyH_take (i := 19) (v := ?_) (by simp only [List.getElem?_toArray, List.getElem?_cons_succ, List.getElem?_cons_zero]; rfl) (by kernel_rfl) (by kernel_rfl) (by kernel_rfl) (by exact fun _ _ _ h => h) (Or.inl ⟨by rfl, ?_⟩) (by assumption) ?_
  rotate_left
  · intro wq hSw
    (try dsimp only at hSw)
    go_simp
    all_goals (with_reducible rfl)
  try simp only [Act.put, List.setIfInBounds_toArray, List.set_cons_zero, List.set_cons_succ]
  refine wpAnyH_take (i := 20) (v := ?_) (by simp only [List.getElem?_toArray, List.getElem?_cons_succ, List.getElem?_cons_zero]; rfl) (by kernel_rfl) (by kernel_rfl) (by kernel_rfl) (by exact fun _ _ _ h => h) (Or.inl ⟨by rfl, ?_⟩) (by assumption) ?_
  rotate_left
  · intro wq hSw
    (try dsimp only at hSw)
    go_simp
    all_goals (with_reducible rfl)
  try simp only [Act.put, List.setIfInBounds_toArray, List.set_cons_zero, List.set_cons_succ]
  refine wpAnyH_take (i := 21) (v := ?_) (by simp only [List.getElem?_toArray, List.getElem?_cons_succ, List.getElem?_cons_zero]; rfl) (by kernel_rfl) (by kernel_rfl) (by kernel_rfl) (by exact fun _ _ _ h => h) (Or.inl ⟨by rfl, ?_⟩) (by assumption) ?_
  rotate_left
  · intro wq hSw
    (try dsimp only at hSw)
    go_simp
    all_goals (with_reducible rfl)
  try simp only [Act.put, List.setIfInBounds_toArray, List.set_cons_zero, List.set_cons_succ]
  refine wpAnyH_take (i := 22) (v := ?_) (by simp only [List.getElem?_toArray, List.getElem?_cons_succ, List.getElem?_cons_zero]; rfl) (by kernel_rfl) (by kernel_rfl) (by kernel_rfl) (by exact fun _ _ _ h => h) (Or.inl ⟨by rfl, ?_⟩) (by assumption) ?_
  rotate_left
  · intro wq hSw
    (try dsimp only at hSw)
    go_simp
    all_goals (with_reducible rfl)
  try simp only [Act.put, List.setIfInBounds_toArray, List.set_cons_zero, List.set_cons_succ]
  refine wpAnyH_take (i := 23) (by simp only [List.getElem?_toArray, List.getElem?_cons_succ, List.getElem?_cons_zero]; rfl) (by kernel_rfl) (by kernel_rfl) (by kernel_rfl) (by exact fun _ _ _ h => h) (yields_ix0 (by rfl) _ _ rfl (0) rfl (by rfl) (by omega)) (by assumption) ?_
  try simp only [Act.put, List.setIfInBounds_toArray, List.set_cons_zero, List.set_cons_succ]
  refine wpAnyH_take (i := 24) (by simp only [List.getElem?_toArray, List.getElem?_cons_succ, List.getElem?_cons_zero]; rfl) (by kernel_rfl) (by kernel_rfl) (by kernel_rfl) (by exact fun _ _ _ h => h) (yields_ld (ad := ⟨gb, 0, none⟩) (by rfl) _ rfl rfl (fun w' h => ld5 (by have := ((HO.out.on h).cells 0 (by omega)).1; rwa [HB0.out.1] at this))) (by assumption) ?_
  try simp only [Act.put, List.setIfInBounds_toArray, List.set_cons_zero, List.set_cons_succ]
  refine wpAnyH_take (i := 25) (v := ?_) (by simp only [List.getElem?_toArray, List.getElem?_cons_succ, List.getElem?_cons_zero]; rfl) (by kernel_rfl) (by kernel_rfl) (by kernel_rfl) (by exact fun _ _ _ h => h) (Or.inl ⟨by rfl, ?_⟩) (by assumption) ?_
  rotate_left
  · intro wq hSw
    (try dsimp only at hSw)
    go_simp
    all_goals (with_reducible rfl)
  try simp only [Act.put, List.setIfInBounds_toArray, List.set_cons_zero, List.set_cons_succ]
  refine wpAnyH_take (i := 26) (v := ?_) (by simp only [List.getElem?_toArray, List.getElem?_cons_succ, List.getElem?_cons_zero]; rfl) (by kernel_rfl) (by kernel_rfl) (by kernel_rfl) (by exact fun _ _ _ h => h) (Or.inl ⟨by rfl, ?_⟩) (by assumption) ?_
  rotate_left
  · intro wq hSw
    (try dsimp only at hSw)
    go_simp
    all_goals (with_reducible rfl)
  try simp only [Act.put, List.setIfInBounds_toArray, List.set_cons_zero, List.set_cons_succ]
  refine wpAnyH_take (i := 27) (by simp only [List.getElem?_toArray, List.getElem?_cons_succ, List.getElem?_cons_zero]; rfl) (by kernel_rfl) (by kernel_rfl) (by kernel_rfl) (by exact fun _ _ _ h => h) (yields_ld (ad := ⟨g9, 1, none⟩) (by rfl) _ rfl rfl (fun w' h => ld3 (H9.out.on h).c1)) (by assumption) ?_
  try simp only [Act.put, List.setIfInBounds_toArray, List.set_cons_zero, List.set_cons_succ]
  refine wpAnyH_take (i := 28) (v := ?_) (by simp only [List.getElem?_toArray, List.getElem?_cons_succ, List.getElem?_cons_zero]; rfl) (by kernel_rfl) (by kernel_rfl) (by kernel_rfl) (by exact fun _ _ _ h => h) (Or.inl ⟨by rfl, ?_⟩) (by assumption) ?_
  rotate_left
  · intro wq hSw
    (try dsimp only at hSw)
    go_simp
    all_goals (with_reducible rfl)
  try simp only [Act.put, List.setIfInBounds_toArray, List.set_cons_zero, List.set_cons_succ]
  refine wpAnyH_take (i := 29) (v := ?_) (by simp only [List.getElem?_toArray, List.getElem?_cons_succ, List.getElem?_cons_zero]; rfl) (by kernel_rfl) (by kernel_rfl) (by kernel_rfl) (by exact fun _ _ _ h => h) (Or.inl ⟨by rfl, ?_⟩) (by assumption) ?_
  rotate_left
  · intro wq hSw
    (try dsimp only at hSw)
    go_simp
    all_goals (with_reducible rfl)
  try simp only [Act.put, List.setIfInBounds_toArray, List.set_cons_zero, List.set_cons_succ]
  refine wpAnyH_take (i := 30) (v := ?_) (by simp only [List.getElem?_toArray, List.getElem?_cons_succ, List.getElem?_cons_zero]; rfl) (by kernel_rfl) (by kernel_rfl) (by kernel_rfl) (by exact fun _ _ _ h => h) (Or.inl ⟨by rfl, ?_⟩) (by assumption) ?_
  rotate_left
  · intro wq hSw
    (try dsimp only at hSw)
    go_simp
    all_goals (with_reducible rfl)
  try simp only [Act.put, List.setIfInBounds_toArray, List.set_cons_zero, List.set_cons_succ]
  refine wpAnyH_take (i := 31) (v := ?_) (by simp only [List.getElem?_toArray, List.getElem?_cons_succ, List.getElem?_cons_zero]; rfl) (by kernel_rfl) (by kernel_rfl) (by kernel_rfl) (by exact fun _ _ _ h => h) (Or.inl ⟨by rfl, ?_⟩) (by assumption) ?_
  rotate_left
  · intro wq hSw
    (try dsimp only at hSw)
    go_simp
    all_goals (with_reducible rfl)
  try simp only [Act.put, List.setIfInBounds_toArray, List.set_cons_zero, List.set_cons_succ]
  refine wpAnyH_take (i := 32) (by simp only [List.getElem?_toArray, List.getElem?_cons_succ, List.getElem?_cons_zero]; rfl) (by kernel_rfl) (by kernel_rfl) (by kernel_rfl) (by exact fun _ _ _ h => h) (yields_ix0 (by rfl) _ _ rfl (1) rfl (by rfl) (by omega)) (by assumption) ?_
  try simp only [Act.put, List.setIfInBounds_toArray, List.set_cons_zero, List.set_cons_succ]
  refine wpAnyH_take (i := 33) (by simp only [List.getElem?_toArray, List.getElem?_cons_succ, List.getElem?_cons_zero]; rfl) (by kernel_rfl) (by kernel_rfl) (by kernel_rfl) (by exact fun _ _ _ h => h) (yields_ld (ad := ⟨gb, 1, none⟩) (by rfl) _ rfl rfl (fun w' h => ld5 (by have := ((HO.out.on h).cells 1 (by omega)).1; rwa [HB0.out.2] at this))) (by assumption) ?_
  try simp only [Act.put, List.setIfInBounds_toArray, List.set_cons_zero, List.set_cons_succ]
  refine wpAnyH_take (i := 34) (v := ?_) (by simp only [List.getElem?_toArray, List.getElem?_cons_succ, List.getElem?_cons_zero]; rfl) (by kernel_rfl) (by kernel_rfl) (by kernel_rfl) (by exact fun _ _ _ h => h) (Or.inl ⟨by rfl, ?_⟩) (by assumption) ?_
  rotate_left
  · intro wq hSw
    (try dsimp only at hSw)
    go_simp
    all_goals (with_reducible rfl)
  try simp only [Act.put, List.setIfInBounds_toArray, List.set_cons_zero, List.set_cons_succ]
  refine wpAnyH_take (i := 35) (v := ?_) (by simp only [List.getElem?_toArray, List.getElem?_cons_succ, List.getElem?_cons_zero]; rfl) (by kernel_rfl) (by kernel_rfl) (by kernel_rfl) (by exact fun _ _ _ h => h) (Or.inl ⟨by rfl, ?_⟩) (by assumption) ?_
  rotate_left
  · intro wq hSw
    (try dsimp only at hSw)
    go_simp
    all_goals (with_reducible rfl)
  try simp only [Act.put, List.setIfInBounds_toArray, List.set_cons_zero, List.set_cons_succ]
  refine wpAnyH_take (i := 36) (by simp only [List.getElem?_toArray, List.getElem?_cons_succ, List.getElem?_cons_zero]; rfl) (by kernel_rfl) (by kernel_rfl) (by kernel_rfl) (by exact fun _ _ _ h => h) (yields_ld (ad := ⟨g9, 2, none⟩) (by rfl) _ rfl rfl (fun w' h => ld3 (H9.out.on h).c2)) (by assumption) ?_
  try simp only [Act.put, List.setIfInBounds_toArray, List.set_cons_zero, List.set_cons_succ]
  refine wpAnyH_take (i := 37) (v := ?_) (by simp only [List.getElem?_toArray, List.getElem?_cons_succ, List.getElem?_cons_zero]; rfl) (by kernel_rfl) (by kernel_rfl) (by kernel_rfl) (by exact fun _ _ _ h => h) (Or.inl ⟨by rfl, ?_⟩) (by assumption) ?_
  rotate_left
  · intro wq hSw
    (try dsimp only at hSw)
    go_simp
    all_goals (with_reducible rfl)
  try simp only [Act.put, List.setIfInBounds_toArray, List.set_cons_zero, List.set_cons_succ]
  refine wpAnyH_take (i := 38) (v := ?_) (by simp only [List.getElem?_toArray, List.getElem?_cons_succ, List.getElem?_cons_zero]; rfl) (by kernel_rfl) (by kernel_rfl) (by kernel_rfl) (by exact fun _ _ _ h => h) (Or.inl ⟨by rfl, ?_⟩) (by assumption) ?_
  rotate_left
  · intro wq hSw
    (try dsimp only at hSw)
    go_simp
    all_goals (with_reducible rfl)
  try simp only [Act.put, List.setIfInBounds_toArray, List.set_cons_zero, List.set_cons_succ]
  refine wpAnyH_done (by kernel_rfl) ?_ _
  have haw := hHeld
  clear hHeld hS r1 r2 r3 r4 r5 r6 HC0 HC1
  generalize y1 = w14 at *
  replace HA := Lib.hid (HA.out.on haw)
  replace HD := Lib.hid (HD.out.on haw)
  replace H9 := Lib.hid (H9.out.on haw)
  replace H10 := Lib.hid (H10.out.on haw)
  replace H11 := Lib.hid (H11.out.on haw)
  replace HO := Lib.hid (HO.out.on haw)
  replace Hg14 := Lib.hid (Hg14.out.on haw)
  replace HOg14 := Lib.hid (HOg14.out.on haw)
  clear haw
  clear HO Hg14 HOg14 H9 HD
  obtain ⟨p, hp⟩ : ∃ p, p = (mparseP s t bs).1 := ⟨_, rfl⟩
  obtain ⟨e, he⟩ : ∃ e, e = (mparseP s t bs).2 := ⟨_, rfl⟩
  have HPB : Hid (mparseP s t bs = (p, e)) := by rw [hp, he]; rfl
  have HCS := Lib.hid (mparse_cases HPR.out bs)
  rw [HPB.out] at HCS
  have HBY := Lib.hid HR.out.2.1
  have hbs := HR.out.1
  have HNO : Hid (e ≠ 0 → p = zeroMg) := fun h => by rw [hp]; exact mparse_no (by rw [← he]; exact h)
  have HYES : Hid (e = 0 → FitM s p ∧ mlayP s t p = bs) := fun h => by
    have ht := (mtaken_iff (s := s) (t := t) (b := bs)).1 (by rw [← he]; exact h)
    have := mparse_taken ht
    rw [HPB.out] at this
    have e2 : p = mgP s.v bs := (Prod.mk.inj this).1
    rw [e2]
    exact ⟨mtaken_fit HR.out.2.1 ht, mlay_mg HR.out.2.1 ht⟩
  clear hp he
  go_upto_region 9 with fail
  go_cut [16, 17] (fun v er wc => ∃ g16 vp, v = .pointer (some ⟨g16, 0, none⟩) ∧ er = .int .i64 e ∧ BoxM wc g16 p vp ∧ Owns wc vp p.d ∧ Away [] w14 wc ∧ w14.heap.size ≤ g16)
  case first =>
    refine wp_region_held_drew (S := (fun w' => Away [] w14 w')) (by kernel_rfl) ((Away.refl [] w14).drew) (fun hHeld => ?_)
    refine wpAnyH_take (i := 0) (by simp only [List.getElem?_toArray, List.getElem?_cons_zero]; rfl) (by kernel_rfl) (by kernel_rfl) (by kernel_rfl) (by exact fun _ _ _ h => h) (yields_ld (ad := ⟨g10, 0, none⟩) (by rfl) _ rfl rfl (fun w' h => load24_run (H10.out.on h) HS.out)) (by assumption) ?_
    try simp only [Act.put, List.setIfInBounds_toArray, List.set_cons_zero, List.set_cons_succ]
    refine wpAnyH_take (i := 1) (by simp only [List.getElem?_toArray, List.getElem?_cons_succ, List.getElem?_cons_zero]; rfl) (by kernel_rfl) (by kernel_rfl) (by kernel_rfl) (by exact fun _ _ _ h => h) (yields_ld (ad := ⟨g11, 0, none⟩) (by rfl) _ rfl rfl (fun w' h => load24_run (H11.out.on h) HT.out)) (by assumption) ?_
    try simp only [Act.put, List.setIfInBounds_toArray, List.set_cons_zero, List.set_cons_succ]
    refine wpAnyH_take (i := 2) (v := ?_) (by simp only [List.getElem?_toArray, List.getElem?_cons_succ, List.getElem?_cons_zero]; rfl) (by kernel_rfl) (by kernel_rfl) (by kernel_rfl) (by exact fun _ _ _ h => h) (Or.inl ⟨by rfl, ?_⟩) (by assumption) ?_
    rotate_left
    · intro wq hSw
      (try dsimp only at hSw)
      go_simp
      all_goals (with_reducible rfl)
    try simp only [Act.put, List.setIfInBounds_toArray, List.set_cons_zero, List.set_cons_succ]
    refine wpAnyH_ready (rs := [3, 8]) (by kernel_rfl) (by simp) ?_
    refine AllReadyH.cons (by simp only [List.getElem?_toArray, List.getElem?_cons_succ, List.getElem?_cons_zero]; rfl) (fun K hK => ?_) (AllReadyH.cons (by simp only [List.getElem?_toArray, List.getElem?_cons_succ, List.getElem?_cons_zero]; rfl) (fun K hK => ?_) AllReadyH.nil)
    · go_simp
      refine (own_any a bs _ cap _ rfl (by exact (HR.out.on HA.out).on hHeld)).mono ?_
      rintro E y1 ⟨vo, rfl, hown, hnwo, haw, -, -⟩
      have hS := hHeld.on haw
      clear haw
      obtain ⟨oa, oc, rfl, ho1, ho2⟩ := hown.slc
      go_wp2_with fail
      refine hK.out _ _ hS (fun hHeld => ?_)
      clear hK K
      try simp only [Act.put, List.setIfInBounds_toArray, List.set_cons_zero, List.set_cons_succ]
      refine wpAnyH_ready (rs := [4, 8]) (by kernel_rfl) (by simp) ?_
      refine AllReadyH.cons (by simp only [List.getElem?_toArray, List.getElem?_cons_succ, List.getElem?_cons_zero]; rfl) (fun K hK => ?_) (AllReadyH.cons (by simp only [List.getElem?_toArray, List.getElem?_cons_succ, List.getElem?_cons_zero]; rfl) (fun K hK => ?_) AllReadyH.nil)
      · go_simp
        refine (parse_c s t oa bs oc _ HS.out HT.out (by exact hown.row' (by omega) HBY.out) ho1).mono ?_
        rw [HPB.out]
        rintro E y2 ⟨vp, rfl, hpo, hnwp, haw⟩
        have hS := hHeld.on haw
        have hzp := hHeld.size
        replace hown := hown.on haw
        clear haw
        obtain ⟨pa, pc, rfl, -, -⟩ := hpo.slc
        go_wp2_with fail
        refine hK.out _ _ hS (fun hHeld => ?_)
        clear hK K
        try simp only [Act.put, List.setIfInBounds_toArray, List.set_cons_zero, List.set_cons_succ]
        refine wpAnyH_take (i := 5) (v := ?_) (by simp only [List.getElem?_toArray, List.getElem?_cons_succ, List.getElem?_cons_zero]; rfl) (by kernel_rfl) (by kernel_rfl) (by kernel_rfl) (by exact fun _ _ _ h => h) (Or.inl ⟨by rfl, ?_⟩) (by assumption) ?_
        rotate_left
        · intro wq hSw
          (try dsimp only at hSw)
          go_simp
          all_goals (with_reducible rfl)
        try simp only [Act.put, List.setIfInBounds_toArray, List.set_cons_zero, List.set_cons_succ]
        refine wpAnyH_take (i := 6) (v := ?_) (by simp only [List.getElem?_toArray, List.getElem?_cons_succ, List.getElem?_cons_zero]; rfl) (by kernel_rfl) (by kernel_rfl) (by kernel_rfl) (by exact fun _ _ _ h => h) (Or.inl ⟨by rfl, ?_⟩) (by assumption) ?_
        rotate_left
        · intro wq hSw
          (try dsimp only at hSw)
          go_simp
          all_goals (with_reducible rfl)
        try simp only [Act.put, List.setIfInBounds_toArray, List.set_cons_zero, List.set_cons_succ]
        refine wpAnyH_take (i := 7) (v := ?_) (by simp only [List.getElem?_toArray, List.getElem?_cons_succ, List.getElem?_cons_zero]; rfl) (by kernel_rfl) (by kernel_rfl) (by kernel_rfl) (by exact fun _ _ _ h => h) (Or.inl ⟨by rfl, ?_⟩) (by assumption) ?_
        rotate_left
        · intro wq hSw
          (try dsimp only at hSw)
          go_simp
          all_goals (with_reducible rfl)
        try simp only [Act.put, List.setIfInBounds_toArray, List.set_cons_zero, List.set_cons_succ]
        refine wpAnyH_ready (rs := [8]) (by kernel_rfl) (by simp) ?_
        refine AllReadyH.cons (by simp only [List.getElem?_toArray, List.getElem?_cons_succ, List.getElem?_cons_zero]; rfl) (fun K hK => ?_) AllReadyH.nil
        rw [if_pos (by rfl)]
        refine wp_allocM rfl ?_
        intro g14 y3 hg14 hbx haw
        have hS := hHeld.on haw
        have hza := hHeld.size
        have hl14 := hbx.lt
        have hlp := hpo.lt
        have hne : ∀ k, (Value.slice pa _ pc).ownBlock = some k → k ≠ g14 := fun k hk => by have := hlp k hk; omega
        replace hown := hown.on haw
        replace hpo := hpo.on haw
        clear haw
        refine hK.out _ _ hS (fun hHeld => ?_)
        clear hK K
        try simp only [Act.put, List.setIfInBounds_toArray, List.set_cons_zero, List.set_cons_succ]
        refine wpAnyH_ready (rs := [9]) (by kernel_rfl) (by simp) ?_
        refine AllReadyH.cons (by simp only [List.getElem?_toArray, List.getElem?_cons_succ, List.getElem?_cons_zero]; rfl) (fun K hK => ?_) AllReadyH.nil
        rw [if_pos (by rfl)]
        refine wp_storeM (.tmp 16) (.tmp 103) rfl g14 rfl p (.slice pa _ pc) rfl zeroMg (.slice none 0 0) (by exact hbx) rfl ?_
        intro y4 hb2 haw
        have hS : Away [] w14 y4 := hHeld.next haw (fun x hx => .inr (by simp at hx; omega))
        have hpo2 := hpo.away haw (fun k hk => by have := hne k hk; simpa using this)
        clear haw
        refine hK.out _ _ hS (fun hHeld => ?_)
        clear hK K
        try simp only [Act.put]
        refine wpAnyH_take (i := 10) (v := ?_) (by simp only [List.getElem?_toArray, List.getElem?_cons_succ, List.getElem?_cons_zero]; rfl) (by kernel_rfl) (by kernel_rfl) (by kernel_rfl) (by exact fun _ _ _ h => h) (Or.inl ⟨by rfl, ?_⟩) (by assumption) ?_
        rotate_left
        · intro wq hSw
          (try dsimp only at hSw)
          go_simp
          all_goals (with_reducible rfl)
        try simp only [Act.put, List.setIfInBounds_toArray, List.set_cons_zero, List.set_cons_succ]
        refine wpAnyH_done (by kernel_rfl) ?_ _
        go_wp2_with fail
        go_meet
        exact ⟨g14, _, rfl, rfl, hb2, hpo2, hHeld, by omega⟩
      · rw [if_pos (by rfl)]
        refine wp_allocM rfl ?_
        intro g14 y2 hg14 hbx haw
        have hS := hHeld.on haw
        have hza := hHeld.size
        have hl14 := hbx.lt
        replace hown := hown.on haw
        clear haw
        refine hK.out _ _ hS (fun hHeld => ?_)
        clear hK K
        try simp only [Act.put, List.setIfInBounds_toArray, List.set_cons_zero, List.set_cons_succ]
        refine wpAnyH_ready (rs := [4]) (by kernel_rfl) (by simp) ?_
        refine AllReadyH.cons (by simp only [List.getElem?_toArray, List.getElem?_cons_succ, List.getElem?_cons_zero]; rfl) (fun K hK => ?_) AllReadyH.nil
        go_simp
        refine (parse_c s t oa bs oc _ HS.out HT.out (by exact hown.row' (by omega) HBY.out) ho1).mono ?_
        rw [HPB.out]
        rintro E y3 ⟨vp, rfl, hpo, hnwp, haw⟩
        have hS := hHeld.on haw
        have hzp := hHeld.size
        have hlx := hbx.lt
        replace hown := hown.on haw
        replace hbx := hbx.on haw
        have hne : ∀ k, vp.ownBlock = some k → k ≠ g14 := fun k hk => by have := hnwp k hk; omega
        clear haw
        obtain ⟨pa, pc, rfl, -, -⟩ := hpo.slc
        go_wp2_with fail
        refine hK.out _ _ hS (fun hHeld => ?_)
        clear hK K
        try simp only [Act.put, List.setIfInBounds_toArray, List.set_cons_zero, List.set_cons_succ]
        refine wpAnyH_take (i := 5) (v := ?_) (by simp only [List.getElem?_toArray, List.getElem?_cons_succ, List.getElem?_cons_zero]; rfl) (by kernel_rfl) (by kernel_rfl) (by kernel_rfl) (by exact fun _ _ _ h => h) (Or.inl ⟨by rfl, ?_⟩) (by assumption) ?_
        rotate_left
        · intro wq hSw
          (try dsimp only at hSw)
          go_simp
          all_goals (with_reducible rfl)
        try simp only [Act.put, List.setIfInBounds_toArray, List.set_cons_zero, List.set_cons_succ]
        refine wpAnyH_take (i := 6) (v := ?_) (by simp only [List.getElem?_toArray, List.getElem?_cons_succ, List.getElem?_cons_zero]; rfl) (by kernel_rfl) (by kernel_rfl) (by kernel_rfl) (by exact fun _ _ _ h => h) (Or.inl ⟨by rfl, ?_⟩) (by assumption) ?_
        rotate_left
        · intro wq hSw
          (try dsimp only at hSw)
          go_simp
          all_goals (with_reducible rfl)
        try simp only [Act.put, List.setIfInBounds_toArray, List.set_cons_zero, List.set_cons_succ]
        refine wpAnyH_take (i := 7) (v := ?_) (by simp only [List.getElem?_toArray, List.getElem?_cons_succ, List.getElem?_cons_zero]; rfl) (by kernel_rfl) (by kernel_rfl) (by kernel_rfl) (by exact fun _ _ _ h => h) (Or.inl ⟨by rfl, ?_⟩) (by assumption) ?_
        rotate_left
        · intro wq hSw
          (try dsimp only at hSw)
          go_simp
          all_goals (with_reducible rfl)
        try simp only [Act.put, List.setIfInBounds_toArray, List.set_cons_zero, List.set_cons_succ]
        refine wpAnyH_ready (rs := [9]) (by kernel_rfl) (by simp) ?_
        refine AllReadyH.cons (by simp only [List.getElem?_toArray, List.getElem?_cons_succ, List.getElem?_cons_zero]; rfl) (fun K hK => ?_) AllReadyH.nil
        rw [if_pos (by rfl)]
        refine wp_storeM (.tmp 16) (.tmp 103) rfl g14 rfl p (.slice pa _ pc) rfl zeroMg (.slice none 0 0) (by exact hbx) rfl ?_
        intro y4 hb2 haw
        have hS : Away [] w14 y4 := hHeld.next haw (fun x hx => .inr (by simp at hx; omega))
        have hpo2 := hpo.away haw (fun k hk => by have := hne k hk; simpa using this)
        clear haw
        refine hK.out _ _ hS (fun hHeld => ?_)
        clear hK K
        try simp only [Act.put]
        refine wpAnyH_take (i := 10) (v := ?_) (by simp only [List.getElem?_toArray, List.getElem?_cons_succ, List.getElem?_cons_zero]; rfl) (by kernel_rfl) (by kernel_rfl) (by kernel_rfl) (by exact fun _ _ _ h => h) (Or.inl ⟨by rfl, ?_⟩) (by assumption) ?_
        rotate_left
        · intro wq hSw
          (try dsimp only at hSw)
          go_simp
          all_goals (with_reducible rfl)
        try simp only [Act.put, List.setIfInBounds_toArray, List.set_cons_zero, List.set_cons_succ]
        refine wpAnyH_done (by kernel_rfl) ?_ _
        go_wp2_with fail
        go_meet
        exact ⟨g14, _, rfl, rfl, hb2, hpo2, hHeld, by omega⟩
    · rw [if_pos (by rfl)]
      refine wp_allocM rfl ?_
      intro g14 y1 hg14 hbx haw
      have hS := hHeld.on haw
      have hza := hHeld.size
      have hl14 := hbx.lt
      clear haw
      refine hK.out _ _ hS (fun hHeld => ?_)
      clear hK K
      try simp only [Act.put, List.setIfInBounds_toArray, List.set_cons_zero, List.set_cons_succ]
      refine wpAnyH_ready (rs := [3]) (by kernel_rfl) (by simp) ?_
      refine AllReadyH.cons (by simp only [List.getElem?_toArray, List.getElem?_cons_succ, List.getElem?_cons_zero]; rfl) (fun K hK => ?_) AllReadyH.nil
      go_simp
      refine (own_any a bs _ cap _ rfl (by exact (HR.out.on HA.out).on hHeld)).mono ?_
      rintro E y2 ⟨vo, rfl, hown, hnwo, haw, -, -⟩
      have hS := hHeld.on haw
      replace hbx := hbx.on haw
      clear haw
      obtain ⟨oa, oc, rfl, ho1, ho2⟩ := hown.slc
      go_wp2_with fail
      refine hK.out _ _ hS (fun hHeld => ?_)
      clear hK K
      try simp only [Act.put, List.setIfInBounds_toArray, List.set_cons_zero, List.set_cons_succ]
      refine wpAnyH_ready (rs := [4]) (by kernel_rfl) (by simp) ?_
      refine AllReadyH.cons (by simp only [List.getElem?_toArray, List.getElem?_cons_succ, List.getElem?_cons_zero]; rfl) (fun K hK => ?_) AllReadyH.nil
      go_simp
      refine (parse_c s t oa bs oc _ HS.out HT.out (by exact hown.row' (by omega) HBY.out) ho1).mono ?_
      rw [HPB.out]
      rintro E y3 ⟨vp, rfl, hpo, hnwp, haw⟩
      have hS := hHeld.on haw
      have hzp := hHeld.size
      have hlx := hbx.lt
      replace hbx := hbx.on haw
      replace hown := hown.on haw
      have hne : ∀ k, vp.ownBlock = some k → k ≠ g14 := fun k hk => by have := hnwp k hk; omega
      clear haw
      obtain ⟨pa, pc, rfl, -, -⟩ := hpo.slc
      go_wp2_with fail
      refine hK.out _ _ hS (fun hHeld => ?_)
      clear hK K
      try simp only [Act.put, List.setIfInBounds_toArray, List.set_cons_zero, List.set_cons_succ]
      refine wpAnyH_take (i := 5) (v := ?_) (by simp only [List.getElem?_toArray, List.getElem?_cons_succ, List.getElem?_cons_zero]; rfl) (by kernel_rfl) (by kernel_rfl) (by kernel_rfl) (by exact fun _ _ _ h => h) (Or.inl ⟨by rfl, ?_⟩) (by assumption) ?_
      rotate_left
      · intro wq hSw
        (try dsimp only at hSw)
        go_simp
        all_goals (with_reducible rfl)
      try simp only [Act.put, List.setIfInBounds_toArray, List.set_cons_zero, List.set_cons_succ]
      refine wpAnyH_take (i := 6) (v := ?_) (by simp only [List.getElem?_toArray, List.getElem?_cons_succ, List.getElem?_cons_zero]; rfl) (by kernel_rfl) (by kernel_rfl) (by kernel_rfl) (by exact fun _ _ _ h => h) (Or.inl ⟨by rfl, ?_⟩) (by assumption) ?_
      rotate_left
      · intro wq hSw
        (try dsimp only at hSw)
        go_simp
        all_goals (with_reducible rfl)
      try simp only [Act.put, List.setIfInBounds_toArray, List.set_cons_zero, List.set_cons_succ]
      refine wpAnyH_take (i := 7) (v := ?_) (by simp only [List.getElem?_toArray, List.getElem?_cons_succ, List.getElem?_cons_zero]; rfl) (by kernel_rfl) (by kernel_rfl) (by kernel_rfl) (by exact fun _ _ _ h => h) (Or.inl ⟨by rfl, ?_⟩) (by assumption) ?_
      rotate_left
      · intro wq hSw
        (try dsimp only at hSw)
        go_simp
        all_goals (with_reducible rfl)
      try simp only [Act.put, List.setIfInBounds_toArray, List.set_cons_zero, List.set_cons_succ]
      refine wpAnyH_ready (rs := [9]) (by kernel_rfl) (by simp) ?_
      refine AllReadyH.cons (by simp only [List.getElem?_toArray, List.getElem?_cons_succ, List.getElem?_cons_zero]; rfl) (fun K hK => ?_) AllReadyH.nil
      rw [if_pos (by rfl)]
      refine wp_storeM (.tmp 16) (.tmp 103) rfl g14 rfl p (.slice pa _ pc) rfl zeroMg (.slice none 0 0) (by exact hbx) rfl ?_
      intro y4 hb2 haw
      have hS : Away [] w14 y4 := hHeld.next haw (fun x hx => .inr (by simp at hx; omega))
      have hpo2 := hpo.away haw (fun k hk => by have := hne k hk; simpa using this)
      clear haw
      refine hK.out _ _ hS (fun hHeld => ?_)
      clear hK K
      try simp only [Act.put]
      refine wpAnyH_take (i := 10) (v := ?_) (by simp only [List.getElem?_toArray, List.getElem?_cons_succ, List.getElem?_cons_zero]; rfl) (by kernel_rfl) (by kernel_rfl) (by kernel_rfl) (by exact fun _ _ _ h => h) (Or.inl ⟨by rfl, ?_⟩) (by assumption) ?_
      rotate_left
      · intro wq hSw
        (try dsimp only at hSw)
        go_simp
        all_goals (with_reducible rfl)
      try simp only [Act.put, List.setIfInBounds_toArray, List.set_cons_zero, List.set_cons_succ]
      refine wpAnyH_done (by kernel_rfl) ?_ _
      go_wp2_with fail
      go_meet
      exact ⟨g14, _, rfl, rfl, hb2, hpo2, hHeld, by omega⟩
  case rest =>
  obtain ⟨g16, g16v, rfl, rfl, hb, hpo, haw, hg_g16⟩ := hcut
  generalize wc = w15 at *
  replace HA := Lib.hid (HA.out.on haw)
  replace H10 := Lib.hid (H10.out.on haw)
  replace H11 := Lib.hid (H11.out.on haw)
  clear haw
  have Hg16 := Lib.hid hb; have HOg16 := Lib.hid hpo
  have hl_g16 := hb.lt
  clear hb hpo
  by_cases he : e = 0
  · subst he
    obtain ⟨hfp, hlay⟩ := HYES.out rfl
    have HFP := Lib.hid hfp; have HLAY := Lib.hid hlay
    clear hfp hlay
    obtain ⟨da, dc, hdv, -, -⟩ := HOg16.out.slc
    subst hdv
    have HWP : Hid (WfM p) := by
      have h1 := HFP.out.ty0; have h2 := HFP.out.ty1; have h3 := HFP.out.co0; have h4 := HFP.out.co1; have h5 := HFP.out.n; have h6 := most_bd s.v
      exact ⟨by rw [HFP.out.v]; exact HS.out.v, ⟨by omega, by omega⟩, ⟨by omega, by omega⟩, HFP.out.re0, HFP.out.re1, HFP.out.d, by omega⟩
    have HBE2 : Hid (mbuildP s t p = (bs, 0)) := by show _ = _; rw [← HLAY.out]; exact mbuild_ok HPR.out HFP.out
    go_wp2_with (first | (refine wpList_loadX rfl _ rfl g10 rfl s (by exact H10.out) HS.out ?_) | (refine wpList_loadX rfl _ rfl g11 rfl t (by exact H11.out) HT.out ?_) | (refine wpList_loadM rfl _ rfl g16 rfl p _ (by exact Hg16.out) ?_))
    refine (build_c s t p _ _ HS.out HT.out ⟨HWP.out, by exact HOg16.out.sl HWP.out.d HWP.out.dn⟩).mono ?_
    rw [HBE2.out]
    rintro E w16 ⟨dv, rfl, hown, hnew, haw⟩
    have hs_dv := haw.size
    replace HA := Lib.hid (HA.out.on haw)
    replace H10 := Lib.hid (H10.out.on haw)
    replace H11 := Lib.hid (H11.out.on haw)
    replace Hg16 := Lib.hid (Hg16.out.on haw)
    replace HOg16 := Lib.hid (HOg16.out.on haw)
    clear haw
    have HDV := Lib.hid hown
    have hn_dv := Lib.hid hnew
    clear hown hnew
    obtain ⟨va, vc, hvv, -, -⟩ := HDV.out.slc
    rw [show ((bs, (0 : Int)).1) = bs from rfl] at hvv HDV
    subst hvv
    go_wp2_with fail
    refine (same_sl _ _ bs _ (by exact HDV.out.sl HBY.out hbs) (by exact ⟨a, cap, rfl, hbl, hbn, HR.out.on HA.out⟩)).mono ?_
    rintro E w16 ⟨rfl, rfl⟩
    go_wp2_with fail
    go_ret
    exact ⟨rfl, HA.out.to_below⟩
  · obtain rfl := HNO.out he
    have he' : (e != 0) = true := by simpa using he
    have he2 : ((e == 20) == decide ((bs.length : Int) < 8)) = true := by
      rcases HCS.out with ⟨h1, h2⟩ | ⟨h1, h2⟩
      · rw [show e = 20 from h2, decide_eq_true (show ((bs.length : Int) < 8) by omega)]; rfl
      · rw [decide_eq_false (show ¬ ((bs.length : Int) < 8) by omega)]
        rcases h2 with h | h | h
        · exact absurd h he
        · rw [show e = 3 from h]; rfl
        · rw [show e = 52 from h]; rfl
    have HE := Lib.hid he
    clear he
    obtain ⟨da, dc, hdv, -, -⟩ := HOg16.out.slc
    subst hdv
    go_wp2_with (first | (refine wpList_loadM rfl _ rfl g16 rfl zeroMg _ (by exact Hg16.out) ?_))
    refine (sameM_yes zeroMg _ _ _ (by exact HOg16.out.sl Bytes.nil (by decide)) (by exact Sl.nil _)).mono ?_
    rintro E w16 ⟨rfl, haw⟩
    replace HA := Lib.hid (HA.out.on haw)
    replace H10 := Lib.hid (H10.out.on haw)
    replace H11 := Lib.hid (H11.out.on haw)
    replace Hg16 := Lib.hid (Hg16.out.on haw)
    replace HOg16 := Lib.hid (HOg16.out.on haw)
    clear haw
    go_wp2_with fail
    go_ret
    exact ⟨rfl, HA.out.to_below⟩
end icmpBack
namespace icmpBack
theorem lifted (os : Os) (started : os.Started) (H : Type) (enc : TypeId × Value → H) :
    ReturnsInHanded {} Try.checked os 3 .any (Rows.icmpBackSpec.pre6 enc Try.prog Try.f3 Rows.icmpBackRow.domain false) (Rows.icmpBackSpec.post enc Try.prog Try.f3 false true false false) := by
  refine returnsInHanded_of_change_sized (C := Try.checked) ownKn started (by kernel_rfl) Try.func3
    (ChangeSpec.witness6 (enc := enc) (C := Try.checked) false ⟨#[], #[.agg (csA 0 z16), .agg (csA 0 z16), .agg (csM zeroMg (.slice none 0 0)), .slice none 0 0], []⟩ 8 (by kernel_rfl) (by kernel_rfl) (by kernel_rfl) (by kernel_rfl)) ?_
  intro W base args ds gs before hval0 hW _ hsz0 _
  have hsz : (DataW.weightsEach Try.prog (Try.f3.params.toList ++ Rows.icmpBackSpec.plain.varTypes Try.prog) (ds ++ gs)).all (· ≤ reachBytes) = true := hsz0
  clear hsz0
  have hval : ∀ (j : Nat) t v, Try.f3.params[j]? = some t → args[j]? = some v → Value.okWide Try.prog W .any base t v := hval0
  have hW' := hW
  obtain ⟨p, q, hA0, hV, rfl, hfz, hnd⟩ := hW
  have hA : DataW.TrodAll enc Try.prog W 0 (fun _ => true) true Try.f3.params.toList args.toList ds p := hA0
  rw [Try.params3] at hA hval hsz
  obtain ⟨v0, vs0, d0, ds0, p0, q0, hargs, rfl, rfl, h0, r0⟩ := trodAll_cons hA
  obtain ⟨v1, vs1, d1, ds1, p1, q1, rfl, rfl, rfl, h1, r1⟩ := trodAll_cons r0
  obtain ⟨v2, vs2, d2, ds2, p2, q2, rfl, rfl, rfl, h2, r2⟩ := trodAll_cons r1
  obtain ⟨v3, vs3, d3, ds3, p3, q3, rfl, rfl, rfl, h3, r3⟩ := trodAll_cons r2
  obtain ⟨rfl, rfl, rfl⟩ := trodAll_nil r3
  obtain rfl : args = #[v0, v1, v2, v3] := by cases args; simp_all
  have hV2 : DataW.TrodVars enc Try.prog W (fun _ => true) Rows.icmpBackSpec.vars gs q := hV
  obtain ⟨rfl, rfl⟩ := trodVars_none hV2
  have k0 := h0
  have lt0 : ∀ x ∈ p0, x.block < W.heap.size := by obtain ⟨m, hm⟩ := k0; exact DataW.trod_lt m _ _ _ hm
  have z0 : ∀ m ∈ d0.weights Try.prog 24, m ≤ reachBytes := fun m hm => by
    have := List.all_eq_true.1 hsz m (DataW.weights_mem_each (j := 0) (t := 24) rfl rfl m hm)
    simpa using this
  obtain ⟨x0, rfl, w0⟩ := open_ax (hval 0 24 v0 rfl rfl) h0
  have k1 := h1
  have lt1 : ∀ x ∈ p1, x.block < W.heap.size := by obtain ⟨m, hm⟩ := k1; exact DataW.trod_lt m _ _ _ hm
  have z1 : ∀ m ∈ d1.weights Try.prog 24, m ≤ reachBytes := fun m hm => by
    have := List.all_eq_true.1 hsz m (DataW.weights_mem_each (j := 1) (t := 24) rfl rfl m hm)
    simpa using this
  obtain ⟨x1, rfl, w1⟩ := open_ax (hval 1 24 v1 rfl rfl) h1
  have k2 := h2
  have lt2 : ∀ x ∈ p2, x.block < W.heap.size := by obtain ⟨m, hm⟩ := k2; exact DataW.trod_lt m _ _ _ hm
  have z2 : ∀ m ∈ d2.weights Try.prog 28, m ≤ reachBytes := fun m hm => by
    have := List.all_eq_true.1 hsz m (DataW.weights_mem_each (j := 2) (t := 28) rfl rfl m hm)
    simpa using this
  obtain ⟨x2, dv2, rfl, w2, dl2⟩ := open_mg (hval 2 28 v2 rfl rfl) h2 z2
  have k3 := h3
  have lt3 : ∀ x ∈ p3, x.block < W.heap.size := by obtain ⟨m, hm⟩ := k3; exact DataW.trod_lt m _ _ _ hm
  have z3 : ∀ m ∈ d3.weights Try.prog 26, m ≤ reachBytes := fun m hm => by
    have := List.all_eq_true.1 hsz m (DataW.weights_mem_each (j := 3) (t := 26) rfl rfl m hm)
    simpa using this
  obtain ⟨a3, len3, cap3, rfl⟩ := okWide_slice Try.underlying26 (hval 3 26 v3 rfl rfl)
  obtain ⟨l3, rfl, c3, cc3, w3, n3, u3⟩ := open_bytes h3 z3
  clear hA0 hval0
  refine (walk x0 x1 x2 dv2 a3 l3 cap3 W w0 w1 w2 dl2 c3 w3 n3 cc3).mono fun e W' ⟨he, bel⟩ => ?_
  subst he
  exact ⟨_, rfl, _, _, _, [], _, [], hW', trodAll_mk1 (shut_bool Try.underlying4 _), (trodAll_cons_mk (Below.trod laidOut (by kernel_rfl) (of_decide_eq_true (by kernel_rfl)) k0 bel lt0) (trodAll_cons_mk (Below.trod laidOut (by kernel_rfl) (of_decide_eq_true (by kernel_rfl)) k1 bel lt1) (trodAll_cons_mk (Below.trod laidOut (by kernel_rfl) (of_decide_eq_true (by kernel_rfl)) k2 bel lt2) (trodAll_cons_mk (Below.trod laidOut (by kernel_rfl) (of_decide_eq_true (by kernel_rfl)) k3 bel lt3) trodAll_mk0)))), rfl, bel.frame _, fun h => by cases h⟩
theorem over : Rows.icmpBackRow.holds Try.pinned (OpenSpec.ofChange Rows.icmpBackSpec) :=
  OpenClaim.holds_of_wide 3 Try.f3 rfl rfl rfl rfl rfl rfl rfl ⟨rfl, rfl, rfl, rfl, rfl⟩ rfl rfl rfl rfl rfl (by kernel_rfl) Try.func3 (by kernel_rfl)
    (of_decide_eq_true (by kernel_rfl)) (by unfold Func.isWrapper; first | (rw [if_pos (by decide +kernel)]; kernel_rfl) | (rw [if_neg (by decide +kernel)]; exact ⟨rfl, rfl⟩))
    (fun os started H enc _ => lifted os started H enc)
end icmpBack
theorem icmpBack_holds : Rows.IcmpBackSaid := icmpBack.over
#print axioms icmpBack_holds
end Go.Proofs.Ytbgpjhekohabiaa
