/-
  Ip6Fields: each field of a right packet stands in its place.
-/
import Derived.Test.YtbmppdihceaacaaAlive
namespace Go.Proofs.Ytbmppdihceaacaa
open Go.ChangeShapes Go.WideShapes Go.ChangeAt Go.RowKit Go.Deep Num
set_option linter.unusedVariables false
set_option maxHeartbeats 8000000
set_option maxRecDepth 100000

theorem num32 (a b c d : Int) (ha : 0 ≤ a ∧ a ≤ 255) (hb : 0 ≤ b ∧ b ≤ 255) (hc : 0 ≤ c ∧ c ≤ 255) (hd : 0 ≤ d ∧ d ≤ 255) :
    IntKind.u32.wrap (IntKind.u32.wrap (IntKind.u32.wrap (a * 16777216 + b * 65536) + c * 256) + d) = 16777216 * a + 65536 * b + 256 * c + d := by
  simp only [IntKind.wrap_u32]; omega
theorem quiet_ix {o : Oper} {a : Act} {C : World → Prop} {K : Act → Prop} {gb off n cap : Nat} (x ix : Operand) (ho : o.op = .indexAddr 26 x ix) (i : Nat) (hx : a.eval x = .slice (some ⟨gb, off, none⟩) n cap) (hix : a.eval ix = .int .i64 (i : Int)) (hi : i < n) (hk : K (a.put o.dst (.pointer (some ⟨gb, off + i, none⟩)))) : o.quiet Try.prog a C K := by
  refine ⟨.pointer (some ⟨gb, off + i, none⟩), fun w hw => ?_, hk⟩
  have he : Try.prog.elem 26 = 5 := by kernel_rfl
  have hsz : (sizeOf 5).run Try.prog w = .ok 1 w := by kernel_rfl
  unfold Oper.quietAt execOp
  simp only [ho, hx, hix, Sem.run_bind]
  rw [run_indexAt_slice w 26 ⟨gb, off, none⟩ n cap .i64 (i : Int) under22, he, if_pos ⟨by omega, by omega⟩, hsz]
  simp only [Result.andThen, add_plain, Int.toNat_natCast, Nat.mul_one]
  exact ⟨rfl, rfl⟩
namespace ip6Fields
theorem walk (p : Pk) (ov dv : Value) (W : World) (hp : Pkt W p ov dv) (hol : p.o.length ≤ 140737488351232) (hdl : p.d.length ≤ 140737488351232) :
    Calls Try.prog 4 #[.agg (csP p ov dv)] W fun e W' => e = .returned (.bool true) ∧ Below W.heap.size W W' := by
  have HAD := Lib.hid hp.wf.ad
  have HP := Lib.hid hp
  have HA : Hid (Away [] W W) := Away.refl _ _
  obtain ⟨q, hq⟩ : ∃ q, q = fitP p := ⟨_, rfl⟩
  have HQW : Hid (Wf q) := by rw [hq]; exact fit_wf hp.wf
  have HQR : Hid (Rgt q) := by rw [hq]; exact (right_iff _).1 (right_fit p)
  have HBQ : Hid (build6 q = (lay6 q, 0)) := build_ok ((right_iff q).2 HQR.out)
  have hcb := lay6_bd HQW.out HQR.out
  have HCB := Lib.hid hcb.1
  have hc1 := hcb.2.1
  have hc2 := hcb.2.2
  have HFIT : Hid (∀ w, Pkt w p ov dv → Calls Try.prog 10 #[.agg (csP p ov dv)] w fun E w' => OwnOut w q E w') := fun w h => by rw [hq]; exact fit_c p ov dv w h
  have HX := Lib.hid (bs_at (word q / 16777216) (word q / 65536 % 256) (word q / 256 % 256) (word q % 256) (lenP q / 256) (lenP q % 256) (nextP q) q.ttl q.sb q.db ((if q.frag = true then fragP q else []) ++ q.d) HQW.out.sl HQW.out.dl)
  rw [← lay6_bs HQW.out] at HX
  have HLN := Lib.hid (lay6_len HQW.out)
  clear hp hcb hq
  generalize hc : lay6 q = c at HCB hc1 hc2 HBQ HX HLN
  clear hc
  go_enter Try.func4, Try.ntmps4
  go_wp2_with (refine wpList_box28 rfl _ rfl p ov dv rfl ?_; refine Hid.out ?_)
  refine Lib.hid ?_
  intro g1 w1 hg_g1 hb haw
  replace HP := Lib.hid (HP.out.on haw)
  replace HA := Lib.hid (HA.out.on haw)
  clear haw
  have HB := Lib.hid hb
  have hl_g1 := hb.lt
  clear hb
  go_wp2_with fail
  refine (alive_c w1).mono ?_
  rintro E w2 ⟨rfl, haw⟩
  replace HP := Lib.hid (HP.out.on haw)
  replace HA := Lib.hid (HA.out.on haw)
  replace HB := Lib.hid (HB.out.on haw)
  clear haw
  go_wp2_with (first | (refine wpList_load28 rfl _ rfl g1 rfl p _ _ (by exact HB.out) HAD.out ?_))
  have hwB := HA.out.size
  have hgB := HB.out.lt
  refine (HFIT.out _ (by exact HP.out)).mono ?_
  rintro E w3 ⟨oq, dq, rfl, hm, haw⟩
  have hs_oq := haw.size
  replace HP := Lib.hid (HP.out.on haw)
  replace HA := Lib.hid (HA.out.on haw)
  replace HB := Lib.hid (HB.out.on haw)
  clear haw
  have HM := Lib.hid hm
  clear hm
  have kq1 := HM.out.ov; have kq2 := HM.out.dv
  clear HP
  go_wp2_with (first | (refine wpList_store28 rfl _ _ rfl _ rfl q oq dq rfl p ov dv (by exact HB.out) HQW.out.ad HAD.out kq1 kq2 ?_; refine Hid.out ?_))
  refine Lib.hid ?_
  intro v9 hb9 haw9
  have hs9 := haw9.size
  have HM9 : Hid (Mine v9 w2.heap.size q oq dq) := ⟨HM.out.o.away haw9 (fun k hk => by have := HM.out.no k hk; simp; omega), HM.out.d.away haw9 (fun k hk => by have := HM.out.nd k hk; simp; omega), HM.out.no, HM.out.nd, HM.out.ap⟩
  have HA9 : Hid (Away [] W v9) := HA.out.next haw9 (fun x hx => .inr (by simp at hx; omega))
  have HB9 := Lib.hid hb9
  clear hb9 haw9 HB HM HA
  have HB := HB9; have HM := HM9; have HA := HA9
  clear HB9 HM9 HA9
  go_wp2_with (first | (refine wpList_load28 rfl _ rfl g1 rfl q _ _ (by exact HB.out) HQW.out.ad ?_))
  refine (ownP_c q oq dq _ (by exact HM.out.pkt HQW.out)).mono ?_
  rintro E w4 ⟨o2, d2, rfl, hm, haw⟩
  have hs_o2 := haw.size
  replace HB := Lib.hid (HB.out.on haw)
  replace HM := Lib.hid (HM.out.on haw)
  replace HA := Lib.hid (HA.out.on haw)
  clear haw
  have HM2 := Lib.hid hm
  clear hm
  go_wp2_with fail
  refine (build_c q o2 d2 _ (by exact HM2.out.pkt HQW.out)).mono ?_
  rintro E w5 ⟨bv, rfl, hown, hnew, haw⟩
  rw [HBQ.out] at hown ⊢
  have hs_bv := haw.size
  replace HB := Lib.hid (HB.out.on haw)
  replace HM := Lib.hid (HM.out.on haw)
  replace HA := Lib.hid (HA.out.on haw)
  replace HM2 := Lib.hid (HM2.out.on haw)
  clear haw
  have HO := Lib.hid hown
  have hn_bv := Lib.hid hnew
  clear hown hnew
  clear HM2
  rw [show ((c, (0 : Int)).1) = c from rfl] at HO
  obtain ⟨gb, bc, hbv, hbc⟩ := HO.out.block (by intro e; rw [e] at hc2; simp at hc2)
  subst hbv
  have e0 : w5.cell? ⟨gb, 0, none⟩ = some (.int .u8 (gt c 0)) := (HO.out.cells 0 (by omega)).1
  have g0 := gt_bd HCB.out 0
  have e1 : w5.cell? ⟨gb, 1, none⟩ = some (.int .u8 (gt c 1)) := (HO.out.cells 1 (by omega)).1
  have gg1 := gt_bd HCB.out 1
  have e2 : w5.cell? ⟨gb, 2, none⟩ = some (.int .u8 (gt c 2)) := (HO.out.cells 2 (by omega)).1
  have g2 := gt_bd HCB.out 2
  have e3 : w5.cell? ⟨gb, 3, none⟩ = some (.int .u8 (gt c 3)) := (HO.out.cells 3 (by omega)).1
  have g3 := gt_bd HCB.out 3
  have e4 : w5.cell? ⟨gb, 4, none⟩ = some (.int .u8 (gt c 4)) := (HO.out.cells 4 (by omega)).1
  have g4 := gt_bd HCB.out 4
  have e5 : w5.cell? ⟨gb, 5, none⟩ = some (.int .u8 (gt c 5)) := (HO.out.cells 5 (by omega)).1
  have g5 := gt_bd HCB.out 5
  have e6 : w5.cell? ⟨gb, 6, none⟩ = some (.int .u8 (gt c 6)) := (HO.out.cells 6 (by omega)).1
  have g6 := gt_bd HCB.out 6
  have e7 : w5.cell? ⟨gb, 7, none⟩ = some (.int .u8 (gt c 7)) := (HO.out.cells 7 (by omega)).1
  have g7 := gt_bd HCB.out 7
  have HW : Hid (16777216 * gt c 0 + 65536 * gt c 1 + 256 * gt c 2 + gt c 3 = word q) := by
    show _ = _
    rw [HX.out.g0, HX.out.g1, HX.out.g2, HX.out.g3]; have := word_bd HQR.out; omega
  have HL45 : Hid (256 * gt c 4 + gt c 5 = (c.length : Int) - 40) := by
    show _ = _
    rw [HX.out.g4, HX.out.g5, HLN.out]; have := lenP_bd HQR.out; unfold lenP at *; omega
  have H6 : Hid (gt c 6 = nextP q) := HX.out.g6
  have H7 : Hid (gt c 7 = q.ttl) := HX.out.g7
  have HCEL : Hid (∀ w', Away [] w5 w' → ∀ i : Nat, i < c.length → w'.cell? ⟨gb, 0 + i, none⟩ = some (.int .u8 (gt c i))) := fun w' h i hi => by rw [Nat.zero_add]; exact ((HO.out.on h).cells i hi).1
  have HBX : Hid (∀ w', Away [] w5 w' → BoxP w' g1 q oq dq) := fun w' h => HB.out.on h
  obtain ⟨da, dc, hdq, hdc⟩ := HM.out.d.slc
  have HSD : Hid (∀ w', Away [] w5 w' → w'.cell? ⟨g1, 45, none⟩ = some (.slice da q.d.length dc)) := fun w' h => by have := ((HB.out.on h).cells HQW.out.ad).d; rwa [hdq] at this
  have HDQ := Lib.hid hdq
  clear e0 e1 e2 e3 e4 e5 e6 e7 hdq
  have q0 := HQR.out.t0; have q1 := HQR.out.t1; have q2 := HQR.out.f0; have q3 := HQR.out.f1
  have wb := word_bd HQR.out
  have k1 : (word q != IntKind.u32.wrap (IntKind.u32.wrap (1610612736 + IntKind.u32.wrap (IntKind.u32.wrap q.tos * 1048576)) + IntKind.u32.wrap q.flow)) = false := by
    have e : IntKind.u32.wrap (IntKind.u32.wrap (1610612736 + IntKind.u32.wrap (IntKind.u32.wrap q.tos * 1048576)) + IntKind.u32.wrap q.flow) = word q := by
      simp only [IntKind.wrap_u32]; unfold word at *; omega
    rw [e]; simp
  have k2 : (IntKind.i64.wrap (IntKind.i64.wrap (IntKind.i64.wrap (gt c 4) * 256) + IntKind.i64.wrap (gt c 5)) != IntKind.i64.wrap ((c.length : Int) - 40)) = false := by
    have := HL45.out
    simp only [IntKind.wrap_i64, bne_eq_false_iff_eq]; omega
  have k3 : (IntKind.i64.wrap (gt c 7) != q.ttl) = false := by rw [show IntKind.i64.wrap (gt c 7) = gt c 7 from by rw [IntKind.wrap_i64]; omega, H7.out]; simp
  obtain ⟨A1, hA1⟩ : ∃ A, A = if bc = 8 then some (⟨gb, 0, none⟩ : Addr) else (some (⟨gb, 0, none⟩ : Addr)).map (·.add 8) := ⟨_, rfl⟩
  have sl1 := slice_lh (some ⟨gb, 0, none⟩) A1 c.length bc 8 16 8 24 hA1 rfl rfl (by omega)
  obtain ⟨A2, hA2⟩ : ∃ A, A = if bc = 24 then some (⟨gb, 0, none⟩ : Addr) else (some (⟨gb, 0, none⟩ : Addr)).map (·.add 24) := ⟨_, rfl⟩
  have sl2 := slice_lh (some ⟨gb, 0, none⟩) A2 c.length bc 24 16 24 40 hA2 rfl rfl (by omega)
  obtain ⟨A3, hA3⟩ : ∃ A, A = if bc = 40 then some (⟨gb, 0, none⟩ : Addr) else (some (⟨gb, 0, none⟩ : Addr)).map (·.add 40) := ⟨_, rfl⟩
  have sl3 := slice_l (some ⟨gb, 0, none⟩) A3 c.length bc 40 40 hA3 rfl (by omega)
  have as1 := arr_slice
  have hrow := HO.out.row' (by omega) HCB.out
  have R1 : Row w5 A1 q.sb := by have := hrow.sub 8 16 bc hbc (by omega); rw [← hA1, HX.out.es] at this; exact this
  have R2 : Row w5 A2 q.db := by have := hrow.sub 24 16 bc hbc (by omega); rw [← hA2, HX.out.ed] at this; exact this
  have R3 : Row w5 A3 (c.drop 40) := by have := hrow.tail 40 bc hbc (by omega); rw [← hA3] at this; exact this
  have hn1 : A1 ≠ none := by rw [hA1]; split <;> simp
  have hn2 : A2 ≠ none := by rw [hA2]; split <;> simp
  have hn3 : A3 ≠ none := by rw [hA3]; split <;> simp
  have SAME : ∀ (a b : Option Addr) (l m : List Int) (n k cap cap' : Nat), l.length = n → m.length = k → (a = none → cap = 0) → (b = none → cap' = 0) → Row w5 a l → Row w5 b m → l = m → ∀ X, Away [] w5 X → Calls Try.prog 16 #[.slice a n cap, .slice b k cap'] X fun E w' => E = .returned (.bool true) ∧ Away [] w5 w' :=
    fun a b l m n k cap cap' h1 h2 h3 h4 h5 h6 h7 X hX => (same_yes a b l m n k cap cap' X h1 h2 h3 h4 (h5.away hX (by simp)) (h6.away hX (by simp)) h7).mono fun E w' hk => ⟨hk.1, by rw [hk.2]; exact hX⟩
  have K1 := Lib.hid (SAME A1 (some ⟨g1, 3 + 1, none⟩) q.sb q.sb 16 16 (bc - 8) 16 HQW.out.sl HQW.out.sl (fun e => absurd e hn1) (by simp) R1 (range_row HB.out.srow HQW.out.sb HQW.out.sl) rfl)
  have K2 := Lib.hid (SAME A2 (some ⟨g1, 20 + 1, none⟩) q.db q.db 16 16 (bc - 24) 16 HQW.out.dl HQW.out.dl (fun e => absurd e hn2) (by simp) R2 (range_row (HB.out.drow HQW.out.ad) HQW.out.db HQW.out.dl) rfl)
  have HSAME := Lib.hid SAME
  have HR3 := Lib.hid R3
  have HN3 := Lib.hid hn3
  clear hA1 hA2 hA3 R1 R2 R3 hn1 hn2 hn3 SAME hrow
  go_upto_region 8 with fail
  refine wp_region_cls (C := fun w' => Away [] w5 w') (by kernel_rfl) (by kernel_rfl) ((Away.refl [] w5).drew) ?_
  go_big_quiet_want; (refine quiet_val ?_ ?_ ?_; rotate_left; (intro w; go_simp; rfl); go_simp; go_big_quiet_on)
  go_big_quiet_want; refine quiet_ix _ _ rfl 0 rfl rfl (by omega) ?_; go_simp; go_big_quiet_on
  go_big_quiet_want; refine quiet_ld _ rfl (ad := ⟨gb, 0 + 0, none⟩) rfl (fun w' h => ld5 (HCEL.out _ h 0 (by omega))) ?_; go_simp; go_big_quiet_on
  go_big_quiet_want; (refine quiet_val ?_ ?_ ?_; rotate_left; (intro w; go_simp; rfl); go_simp; go_big_quiet_on)
  go_big_quiet_want; (refine quiet_val ?_ ?_ ?_; rotate_left; (intro w; go_simp; rfl); go_simp; go_big_quiet_on)
  go_big_quiet_want; (refine quiet_val ?_ ?_ ?_; rotate_left; (intro w; go_simp; rfl); go_simp; go_big_quiet_on)
  go_big_quiet_want; refine quiet_ix _ _ rfl 1 rfl rfl (by omega) ?_; go_simp; go_big_quiet_on
  go_big_quiet_want; refine quiet_ld _ rfl (ad := ⟨gb, 0 + 1, none⟩) rfl (fun w' h => ld5 (HCEL.out _ h 1 (by omega))) ?_; go_simp; go_big_quiet_on
  go_big_quiet_want; (refine quiet_val ?_ ?_ ?_; rotate_left; (intro w; go_simp; rfl); go_simp; go_big_quiet_on)
  go_big_quiet_want; (refine quiet_val ?_ ?_ ?_; rotate_left; (intro w; go_simp; rfl); go_simp; go_big_quiet_on)
  go_big_quiet_want; (refine quiet_val ?_ ?_ ?_; rotate_left; (intro w; go_simp; rfl); go_simp; go_big_quiet_on)
  go_big_quiet_want; (refine quiet_val ?_ ?_ ?_; rotate_left; (intro w; go_simp; rfl); go_simp; go_big_quiet_on)
  go_big_quiet_want; refine quiet_ix _ _ rfl 2 rfl rfl (by omega) ?_; go_simp; go_big_quiet_on
  go_big_quiet_want; refine quiet_ld _ rfl (ad := ⟨gb, 0 + 2, none⟩) rfl (fun w' h => ld5 (HCEL.out _ h 2 (by omega))) ?_; go_simp; go_big_quiet_on
  go_big_quiet_want; (refine quiet_val ?_ ?_ ?_; rotate_left; (intro w; go_simp; rfl); go_simp; go_big_quiet_on)
  go_big_quiet_want; (refine quiet_val ?_ ?_ ?_; rotate_left; (intro w; go_simp; rfl); go_simp; go_big_quiet_on)
  go_big_quiet_want; (refine quiet_val ?_ ?_ ?_; rotate_left; (intro w; go_simp; rfl); go_simp; go_big_quiet_on)
  go_big_quiet_want; (refine quiet_val ?_ ?_ ?_; rotate_left; (intro w; go_simp; rfl); go_simp; go_big_quiet_on)
  go_big_quiet_want; refine quiet_ix _ _ rfl 3 rfl rfl (by omega) ?_; go_simp; go_big_quiet_on
  go_big_quiet_want; refine quiet_ld _ rfl (ad := ⟨gb, 0 + 3, none⟩) rfl (fun w' h => ld5 (HCEL.out _ h 3 (by omega))) ?_; go_simp; go_big_quiet_on
  go_big_quiet_want; (refine quiet_val ?_ ?_ ?_; rotate_left; (intro w; go_simp; rfl); go_simp; go_big_quiet_on)
  go_big_quiet_want; (refine quiet_val ?_ ?_ ?_; rotate_left; (intro w; go_simp; rfl); go_simp; go_big_quiet_on)
  go_big_quiet_want; (refine quiet_val ?_ ?_ ?_; rotate_left; (intro w; go_simp; rfl); go_simp; go_big_quiet_on)
  refine wpQuiet_nil ?_
  intro V hV
  have HV8 := Lib.hid hV
  clear hV
  have hx8 : IntKind.u32.wrap (IntKind.u32.wrap (IntKind.u32.wrap (IntKind.u32.wrap (IntKind.u32.wrap (gt c 0) * 16777216) + IntKind.u32.wrap (IntKind.u32.wrap (gt c 1) * 65536)) + IntKind.u32.wrap (IntKind.u32.wrap (gt c 2) * 256)) + IntKind.u32.wrap (gt c 3)) = word q := by
    have := HW.out
    simp only [IntKind.wrap_u32]; omega
  have HC9 : Hid (Away [] w5 V.drew) := HV8.out.drew
  go_upto_region 9 with fail
  simp only [hx8]
  refine wp_region_cls (C := fun w' => Away [] w5 w') (by kernel_rfl) (by kernel_rfl) HC9.out ?_
  go_big_quiet_want; (refine quiet_val ?_ ?_ ?_; rotate_left; (intro w; go_simp; rfl); go_simp; go_big_quiet_on)
  go_big_quiet_want; (refine quiet_val ?_ ?_ ?_; rotate_left; (intro w; go_simp; rfl); go_simp; go_big_quiet_on)
  go_big_quiet_want; refine quiet_ld _ rfl (ad := ⟨g1, 1, none⟩) rfl (fun w' h => ld3 ((HBX.out _ h).cells HQW.out.ad).tos) ?_; go_simp; go_big_quiet_on
  go_big_quiet_want; (refine quiet_val ?_ ?_ ?_; rotate_left; (intro w; go_simp; rfl); go_simp; go_big_quiet_on)
  go_big_quiet_want; (refine quiet_val ?_ ?_ ?_; rotate_left; (intro w; go_simp; rfl); go_simp; go_big_quiet_on)
  go_big_quiet_want; (refine quiet_val ?_ ?_ ?_; rotate_left; (intro w; go_simp; rfl); go_simp; go_big_quiet_on)
  go_big_quiet_want; (refine quiet_val ?_ ?_ ?_; rotate_left; (intro w; go_simp; rfl); go_simp; go_big_quiet_on)
  go_big_quiet_want; refine quiet_ld _ rfl (ad := ⟨g1, 2, none⟩) rfl (fun w' h => ld3 ((HBX.out _ h).cells HQW.out.ad).flow) ?_; go_simp; go_big_quiet_on
  go_big_quiet_want; (refine quiet_val ?_ ?_ ?_; rotate_left; (intro w; go_simp; rfl); go_simp; go_big_quiet_on)
  go_big_quiet_want; (refine quiet_val ?_ ?_ ?_; rotate_left; (intro w; go_simp; rfl); go_simp; go_big_quiet_on)
  go_big_quiet_want; (refine quiet_val ?_ ?_ ?_; rotate_left; (intro w; go_simp; rfl); go_simp; go_big_quiet_on)
  try simp only [k1]
  go_big_quiet_want; (refine quiet_val ?_ ?_ ?_; rotate_left; (intro w; go_simp; rfl); go_simp; go_big_quiet_on)
  go_big_quiet_want; (refine quiet_val ?_ ?_ ?_; rotate_left; (intro w; go_simp; rfl); go_simp; go_big_quiet_on)
  go_big_quiet_want; refine quiet_ix _ _ rfl 4 rfl rfl (by omega) ?_; go_simp; go_big_quiet_on
  go_big_quiet_want; refine quiet_ld _ rfl (ad := ⟨gb, 0 + 4, none⟩) rfl (fun w' h => ld5 (HCEL.out _ h 4 (by omega))) ?_; go_simp; go_big_quiet_on
  go_big_quiet_want; (refine quiet_val ?_ ?_ ?_; rotate_left; (intro w; go_simp; rfl); go_simp; go_big_quiet_on)
  go_big_quiet_want; (refine quiet_val ?_ ?_ ?_; rotate_left; (intro w; go_simp; rfl); go_simp; go_big_quiet_on)
  go_big_quiet_want; (refine quiet_val ?_ ?_ ?_; rotate_left; (intro w; go_simp; rfl); go_simp; go_big_quiet_on)
  go_big_quiet_want; refine quiet_ix _ _ rfl 5 rfl rfl (by omega) ?_; go_simp; go_big_quiet_on
  go_big_quiet_want; refine quiet_ld _ rfl (ad := ⟨gb, 0 + 5, none⟩) rfl (fun w' h => ld5 (HCEL.out _ h 5 (by omega))) ?_; go_simp; go_big_quiet_on
  go_big_quiet_want; (refine quiet_val ?_ ?_ ?_; rotate_left; (intro w; go_simp; rfl); go_simp; go_big_quiet_on)
  go_big_quiet_want; (refine quiet_val ?_ ?_ ?_; rotate_left; (intro w; go_simp; rfl); go_simp; go_big_quiet_on)
  go_big_quiet_want; (refine quiet_val ?_ ?_ ?_; rotate_left; (intro w; go_simp; rfl); go_simp; go_big_quiet_on)
  go_big_quiet_want; (refine quiet_val ?_ ?_ ?_; rotate_left; (intro w; go_simp; rfl); go_simp; go_big_quiet_on)
  go_big_quiet_want; (refine quiet_val ?_ ?_ ?_; rotate_left; (intro w; go_simp; rfl); go_simp; go_big_quiet_on)
  go_big_quiet_want; (refine quiet_val ?_ ?_ ?_; rotate_left; (intro w; go_simp; rfl); go_simp; go_big_quiet_on)
  try simp only [k2]
  go_big_quiet_want; (refine quiet_val ?_ ?_ ?_; rotate_left; (intro w; go_simp; rfl); go_simp; go_big_quiet_on)
  go_big_quiet_want; (refine quiet_val ?_ ?_ ?_; rotate_left; (intro w; go_simp; rfl); go_simp; go_big_quiet_on)
  go_big_quiet_want; (refine quiet_val ?_ ?_ ?_; rotate_left; (intro w; go_simp; rfl); go_simp; go_big_quiet_on)
  go_big_quiet_want; refine quiet_ix _ _ rfl 7 rfl rfl (by omega) ?_; go_simp; go_big_quiet_on
  go_big_quiet_want; refine quiet_ld _ rfl (ad := ⟨gb, 0 + 7, none⟩) rfl (fun w' h => ld5 (HCEL.out _ h 7 (by omega))) ?_; go_simp; go_big_quiet_on
  go_big_quiet_want; (refine quiet_val ?_ ?_ ?_; rotate_left; (intro w; go_simp; rfl); go_simp; go_big_quiet_on)
  go_big_quiet_want; (refine quiet_val ?_ ?_ ?_; rotate_left; (intro w; go_simp; rfl); go_simp; go_big_quiet_on)
  go_big_quiet_want; refine quiet_ld _ rfl (ad := ⟨g1, 38, none⟩) rfl (fun w' h => ld3 ((HBX.out _ h).cells HQW.out.ad).ttl) ?_; go_simp; go_big_quiet_on
  go_big_quiet_want; (refine quiet_val ?_ ?_ ?_; rotate_left; (intro w; go_simp; rfl); go_simp; go_big_quiet_on)
  try simp only [k3]
  go_big_quiet_want; (refine quiet_val ?_ ?_ ?_; rotate_left; (intro w; go_simp; rfl); go_simp; go_big_quiet_on)
  go_big_quiet_want; (refine quiet_val ?_ ?_ ?_; rotate_left; (intro w; go_simp; rfl); go_simp; go_big_quiet_on)
  go_big_quiet_want; (refine quiet_val ?_ ?_ ?_; rotate_left; (intro w; go_simp; rfl); go_simp; go_big_quiet_on)
  go_big_quiet_want; (refine quiet_val ?_ ?_ ?_; rotate_left; (intro w; go_simp; rfl); go_simp; go_big_quiet_on)
  go_big_quiet_want; (refine quiet_val ?_ ?_ ?_; rotate_left; (intro w; go_simp; rfl); go_simp; go_big_quiet_on)
  go_big_quiet_want; (refine quiet_val ?_ ?_ ?_; rotate_left; (intro w; go_simp; rfl); go_simp; go_big_quiet_on)
  go_big_quiet_want; (refine quiet_val ?_ ?_ ?_; rotate_left; (intro w; go_simp; rfl); go_simp; go_big_quiet_on)
  go_big_quiet_want; refine quiet_call 16 #[.slice A1 16 (bc - 8), .slice (some ⟨g1, 4, none⟩) 16 16] (.bool true) ?_ K1.out ?_
  · intro w; go_simp; done
  go_simp; go_big_quiet_on
  go_big_quiet_want; (refine quiet_val ?_ ?_ ?_; rotate_left; (intro w; go_simp; rfl); go_simp; go_big_quiet_on)
  go_big_quiet_want; (refine quiet_val ?_ ?_ ?_; rotate_left; (intro w; go_simp; rfl); go_simp; go_big_quiet_on)
  go_big_quiet_want; (refine quiet_val ?_ ?_ ?_; rotate_left; (intro w; go_simp; rfl); go_simp; go_big_quiet_on)
  go_big_quiet_want; (refine quiet_val ?_ ?_ ?_; rotate_left; (intro w; go_simp; rfl); go_simp; go_big_quiet_on)
  go_big_quiet_want; (refine quiet_val ?_ ?_ ?_; rotate_left; (intro w; go_simp; rfl); go_simp; go_big_quiet_on)
  go_big_quiet_want; (refine quiet_val ?_ ?_ ?_; rotate_left; (intro w; go_simp; rfl); go_simp; go_big_quiet_on)
  go_big_quiet_want; (refine quiet_val ?_ ?_ ?_; rotate_left; (intro w; go_simp; rfl); go_simp; go_big_quiet_on)
  go_big_quiet_want; (refine quiet_val ?_ ?_ ?_; rotate_left; (intro w; go_simp; rfl); go_simp; go_big_quiet_on)
  go_big_quiet_want; refine quiet_call 16 #[.slice A2 16 (bc - 24), .slice (some ⟨g1, 21, none⟩) 16 16] (.bool true) ?_ K2.out ?_
  · intro w; go_simp; done
  go_simp; go_big_quiet_on
  go_big_quiet_want; (refine quiet_val ?_ ?_ ?_; rotate_left; (intro w; go_simp; rfl); go_simp; go_big_quiet_on)
  go_big_quiet_want; (refine quiet_val ?_ ?_ ?_; rotate_left; (intro w; go_simp; rfl); go_simp; go_big_quiet_on)
  refine wpQuiet_nil ?_
  intro V9 hV
  have HV9 := Lib.hid hV
  clear hV
  have s42 := ((HBX.out _ HV9.out).cells HQW.out.ad).frag
  have hdl2 := HQW.out.dn
  have hh : hofP q = if q.frag = true then 48 else 40 := rfl
  have HH := Lib.hid hh
  clear hh
  have HDS := Lib.hid (HM.out.d.sl HQW.out.d HQW.out.dn)
  rw [HDQ.out] at HDS
  obtain ⟨-, hd1, hd2, hd3⟩ := HDS.out.of
  have HD3 := Lib.hid hd3
  clear hd3
  go_upto_if 105 with fail
  generalize hfr : q.frag = fr at s42
  cases fr
  · have hk40 : c.drop 40 = q.d := by have := HX.out.er; rw [hfr] at this; simpa using this
    have k4 : (IntKind.i64.wrap (gt c 6) == q.proto) = true := by
      rw [show IntKind.i64.wrap (gt c 6) = gt c 6 from by rw [IntKind.wrap_i64]; omega, H6.out]
      unfold nextP; rw [hfr]; simp
    have K3 := Lib.hid (HSAME.out A3 da (c.drop 40) q.d (c.length - 40) q.d.length (bc - 40) dc (by simp) rfl (fun e => absurd e HN3.out) hd2 HR3.out HD3.out hk40)
    go_upto_region 12 with fail
    have HC12 : Hid (Away [] w5 V9.drew) := HV9.out.drew
    refine wp_region_cls (C := fun w' => Away [] w5 w') (by kernel_rfl) (by kernel_rfl) HC12.out ?_
    go_big_quiet_want; (refine quiet_val ?_ ?_ ?_; rotate_left; (intro w; go_simp; rfl); go_simp; go_big_quiet_on)
    go_big_quiet_want; refine quiet_ix _ _ rfl 6 rfl rfl (by omega) ?_; go_simp; go_big_quiet_on
    go_big_quiet_want; refine quiet_ld _ rfl (ad := ⟨gb, 0 + 6, none⟩) rfl (fun w' h => ld5 (HCEL.out _ h 6 (by omega))) ?_; go_simp; go_big_quiet_on
    go_big_quiet_want; (refine quiet_val ?_ ?_ ?_; rotate_left; (intro w; go_simp; rfl); go_simp; go_big_quiet_on)
    go_big_quiet_want; (refine quiet_val ?_ ?_ ?_; rotate_left; (intro w; go_simp; rfl); go_simp; go_big_quiet_on)
    go_big_quiet_want; refine quiet_ld _ rfl (ad := ⟨g1, 37, none⟩) rfl (fun w' h => ld3 ((HBX.out _ h).cells HQW.out.ad).proto) ?_; go_simp; go_big_quiet_on
    go_big_quiet_want; (refine quiet_val ?_ ?_ ?_; rotate_left; (intro w; go_simp; rfl); go_simp; go_big_quiet_on)
    try simp only [k4]
    go_big_quiet_want; (refine quiet_val ?_ ?_ ?_; rotate_left; (intro w; go_simp; rfl); go_simp; go_big_quiet_on)
    go_big_quiet_want; (refine quiet_val ?_ ?_ ?_; rotate_left; (intro w; go_simp; rfl); go_simp; go_big_quiet_on)
    go_big_quiet_want; (refine quiet_val ?_ ?_ ?_; rotate_left; (intro w; go_simp; rfl); go_simp; go_big_quiet_on)
    go_big_quiet_want; (refine quiet_val ?_ ?_ ?_; rotate_left; (intro w; go_simp; rfl); go_simp; go_big_quiet_on)
    go_big_quiet_want; refine quiet_ld _ rfl (ad := ⟨g1, 45, none⟩) rfl (fun w' h => ld26 (HSD.out _ h)) ?_; go_simp; go_big_quiet_on
    go_big_quiet_want; refine quiet_call 16 #[.slice A3 (c.length - 40) (bc - 40), .slice da q.d.length dc] (.bool true) ?_ K3.out ?_
    · intro w; go_simp; done
    go_simp; go_big_quiet_on
    go_big_quiet_want; (refine quiet_val ?_ ?_ ?_; rotate_left; (intro w; go_simp; rfl); go_simp; go_big_quiet_on)
    go_big_quiet_want; (refine quiet_val ?_ ?_ ?_; rotate_left; (intro w; go_simp; rfl); go_simp; go_big_quiet_on)
    refine wpQuiet_nil ?_
    intro V12 hV
    have HV12 := Lib.hid hV
    clear hV
    go_wp2_with fail
    go_ret
    exact ⟨rfl, (HA.out.next HV12.out (by simp)).to_below⟩
  · have hc48 : 48 ≤ c.length := by have hlen : c.length = 48 + q.d.length := by rw [HLN.out, HH.out, hfr]; rfl
                                    omega
    obtain ⟨f0, f1, f2, f3, f4, f5, f6, f7, f8⟩ := frag_at q q.d
    have hkk := HX.out.k
    rw [hfr] at hkk
    simp only [if_true] at hkk
    have x40 : gt c 40 = q.proto := (hkk 0).trans f0
    have x41 : gt c 41 = 0 := (hkk 1).trans f1
    have x42 : gt c 42 = placeP q / 256 := (hkk 2).trans f2
    have x43 : gt c 43 = placeP q % 256 := (hkk 3).trans f3
    have x44 : gt c 44 = q.id / 16777216 := (hkk 4).trans f4
    have x45 : gt c 45 = q.id / 65536 % 256 := (hkk 5).trans f5
    have x46 : gt c 46 = q.id / 256 % 256 := (hkk 6).trans f6
    have x47 : gt c 47 = q.id % 256 := (hkk 7).trans f7
    have hk48 : c.drop 48 = q.d := by
      have := HX.out.er; rw [hfr] at this; simp only [if_true] at this
      rw [show 48 = 40 + 8 from rfl, ← List.drop_drop, this]; exact f8
    have pb := placeP_bd HQR.out
    have i0 := HQW.out.id0; have i1 := HQW.out.id1
    have q6 := HQR.out.r0; have q7 := HQR.out.r1
    have HPL : Hid (placeP q = q.off + (if q.more = true then 1 else 0)) := rfl
    have k5 : decide ((c.length : Int) < 48) = false := decide_eq_false (by omega)
    have k6 : (IntKind.i64.wrap (gt c 6) != 44) = false := by
      rw [show IntKind.i64.wrap (gt c 6) = gt c 6 from by rw [IntKind.wrap_i64]; omega, H6.out]
      unfold nextP; rw [hfr]; simp
    have k7 : (IntKind.i64.wrap (gt c 40) != q.proto) = false := by
      rw [x40, show IntKind.i64.wrap q.proto = q.proto from by rw [IntKind.wrap_i64]; omega]; simp
    have k8 : (gt c 41 != 0) = false := by rw [x41]; simp
    have k9 : IntKind.i64.wrap (IntKind.i64.wrap (IntKind.i64.wrap (gt c 42) * 256) + IntKind.i64.wrap (gt c 43)) = placeP q := by
      rw [x42, x43]; simp only [IntKind.wrap_i64]; omega
    have k10 : IntKind.u32.wrap (IntKind.u32.wrap (IntKind.u32.wrap (IntKind.u32.wrap (IntKind.u32.wrap (gt c 44) * 16777216) + IntKind.u32.wrap (IntKind.u32.wrap (gt c 45) * 65536)) + IntKind.u32.wrap (IntKind.u32.wrap (gt c 46) * 256)) + IntKind.u32.wrap (gt c 47)) = q.id := by
      rw [x44, x45, x46, x47]; simp only [IntKind.wrap_u32]; omega
    obtain ⟨A4, hA4⟩ : ∃ A, A = if bc = 48 then some (⟨gb, 0, none⟩ : Addr) else (some (⟨gb, 0, none⟩ : Addr)).map (·.add 48) := ⟨_, rfl⟩
    have sl4 := slice_l (some ⟨gb, 0, none⟩) A4 c.length bc 48 48 hA4 rfl (by omega)
    have R4 : Row w5 A4 (c.drop 48) := by have := (HO.out.row' (by omega) HCB.out).tail 48 bc hbc (by omega); rw [← hA4] at this; exact this
    have hn4 : A4 ≠ none := by rw [hA4]; split <;> simp
    have K4 := Lib.hid (HSAME.out A4 da (c.drop 48) q.d (c.length - 48) q.d.length (bc - 48) dc (by simp) rfl (fun e => absurd e hn4) hd2 R4 HD3.out hk48)
    clear hA4 R4 hn4 hk48 hkk x40 x41 x42 x43 x44 x45 x46 x47 f0 f1 f2 f3 f4 f5 f6 f7 f8
    go_upto_region 13 with fail
    have HC13 : Hid (Away [] w5 V9.drew) := HV9.out.drew
    refine wp_region_cls (C := fun w' => Away [] w5 w') (by kernel_rfl) (by kernel_rfl) HC13.out ?_
    go_big_quiet_want; (refine quiet_val ?_ ?_ ?_; rotate_left; (intro w; go_simp; rfl); go_simp; go_big_quiet_on)
    go_big_quiet_want; (refine quiet_val ?_ ?_ ?_; rotate_left; (intro w; go_simp; rfl); go_simp; go_big_quiet_on)
    go_big_quiet_want; (refine quiet_val ?_ ?_ ?_; rotate_left; (intro w; go_simp; rfl); go_simp; go_big_quiet_on)
    try simp only [k5]
    go_big_quiet_want; (refine quiet_val ?_ ?_ ?_; rotate_left; (intro w; go_simp; rfl); go_simp; go_big_quiet_on)
    go_big_quiet_want; (refine quiet_val ?_ ?_ ?_; rotate_left; (intro w; go_simp; rfl); go_simp; go_big_quiet_on)
    go_big_quiet_want; refine quiet_ix _ _ rfl 6 rfl rfl (by omega) ?_; go_simp; go_big_quiet_on
    go_big_quiet_want; refine quiet_ld _ rfl (ad := ⟨gb, 0 + 6, none⟩) rfl (fun w' h => ld5 (HCEL.out _ h 6 (by omega))) ?_; go_simp; go_big_quiet_on
    go_big_quiet_want; (refine quiet_val ?_ ?_ ?_; rotate_left; (intro w; go_simp; rfl); go_simp; go_big_quiet_on)
    go_big_quiet_want; (refine quiet_val ?_ ?_ ?_; rotate_left; (intro w; go_simp; rfl); go_simp; go_big_quiet_on)
    try simp only [k6]
    go_big_quiet_want; (refine quiet_val ?_ ?_ ?_; rotate_left; (intro w; go_simp; rfl); go_simp; go_big_quiet_on)
    go_big_quiet_want; (refine quiet_val ?_ ?_ ?_; rotate_left; (intro w; go_simp; rfl); go_simp; go_big_quiet_on)
    go_big_quiet_want; (refine quiet_val ?_ ?_ ?_; rotate_left; (intro w; go_simp; rfl); go_simp; go_big_quiet_on)
    go_big_quiet_want; refine quiet_ix _ _ rfl 40 rfl rfl (by omega) ?_; go_simp; go_big_quiet_on
    go_big_quiet_want; refine quiet_ld _ rfl (ad := ⟨gb, 0 + 40, none⟩) rfl (fun w' h => ld5 (HCEL.out _ h 40 (by omega))) ?_; go_simp; go_big_quiet_on
    go_big_quiet_want; (refine quiet_val ?_ ?_ ?_; rotate_left; (intro w; go_simp; rfl); go_simp; go_big_quiet_on)
    go_big_quiet_want; (refine quiet_val ?_ ?_ ?_; rotate_left; (intro w; go_simp; rfl); go_simp; go_big_quiet_on)
    go_big_quiet_want; refine quiet_ld _ rfl (ad := ⟨g1, 37, none⟩) rfl (fun w' h => ld3 ((HBX.out _ h).cells HQW.out.ad).proto) ?_; go_simp; go_big_quiet_on
    go_big_quiet_want; (refine quiet_val ?_ ?_ ?_; rotate_left; (intro w; go_simp; rfl); go_simp; go_big_quiet_on)
    try simp only [k7]
    go_big_quiet_want; (refine quiet_val ?_ ?_ ?_; rotate_left; (intro w; go_simp; rfl); go_simp; go_big_quiet_on)
    go_big_quiet_want; (refine quiet_val ?_ ?_ ?_; rotate_left; (intro w; go_simp; rfl); go_simp; go_big_quiet_on)
    go_big_quiet_want; (refine quiet_val ?_ ?_ ?_; rotate_left; (intro w; go_simp; rfl); go_simp; go_big_quiet_on)
    go_big_quiet_want; refine quiet_ix _ _ rfl 41 rfl rfl (by omega) ?_; go_simp; go_big_quiet_on
    go_big_quiet_want; refine quiet_ld _ rfl (ad := ⟨gb, 0 + 41, none⟩) rfl (fun w' h => ld5 (HCEL.out _ h 41 (by omega))) ?_; go_simp; go_big_quiet_on
    go_big_quiet_want; (refine quiet_val ?_ ?_ ?_; rotate_left; (intro w; go_simp; rfl); go_simp; go_big_quiet_on)
    try simp only [k8]
    go_big_quiet_want; (refine quiet_val ?_ ?_ ?_; rotate_left; (intro w; go_simp; rfl); go_simp; go_big_quiet_on)
    go_big_quiet_want; (refine quiet_val ?_ ?_ ?_; rotate_left; (intro w; go_simp; rfl); go_simp; go_big_quiet_on)
    go_big_quiet_want; (refine quiet_val ?_ ?_ ?_; rotate_left; (intro w; go_simp; rfl); go_simp; go_big_quiet_on)
    go_big_quiet_want; (refine quiet_val ?_ ?_ ?_; rotate_left; (intro w; go_simp; rfl); go_simp; go_big_quiet_on)
    go_big_quiet_want; (refine quiet_val ?_ ?_ ?_; rotate_left; (intro w; go_simp; rfl); go_simp; go_big_quiet_on)
    go_big_quiet_want; refine quiet_ld _ rfl (ad := ⟨g1, 45, none⟩) rfl (fun w' h => ld26 (HSD.out _ h)) ?_; go_simp; go_big_quiet_on
    go_big_quiet_want; refine quiet_call 16 #[.slice A4 (c.length - 48) (bc - 48), .slice da q.d.length dc] (.bool true) ?_ K4.out ?_
    · intro w; go_simp; done
    go_simp; go_big_quiet_on
    go_big_quiet_want; (refine quiet_val ?_ ?_ ?_; rotate_left; (intro w; go_simp; rfl); go_simp; go_big_quiet_on)
    go_big_quiet_want; (refine quiet_val ?_ ?_ ?_; rotate_left; (intro w; go_simp; rfl); go_simp; go_big_quiet_on)
    refine wpQuiet_nil ?_
    intro V13 hV
    have HV13 := Lib.hid hV
    clear hV
    go_upto_region 15 with fail
    have HC15 : Hid (Away [] w5 V13.drew) := HV13.out.drew
    refine wp_region_cls (C := fun w' => Away [] w5 w') (by kernel_rfl) (by kernel_rfl) HC15.out ?_
    go_big_quiet_want; (refine quiet_val ?_ ?_ ?_; rotate_left; (intro w; go_simp; rfl); go_simp; go_big_quiet_on)
    go_big_quiet_want; refine quiet_ix _ _ rfl 42 rfl rfl (by omega) ?_; go_simp; go_big_quiet_on
    go_big_quiet_want; refine quiet_ld _ rfl (ad := ⟨gb, 0 + 42, none⟩) rfl (fun w' h => ld5 (HCEL.out _ h 42 (by omega))) ?_; go_simp; go_big_quiet_on
    go_big_quiet_want; (refine quiet_val ?_ ?_ ?_; rotate_left; (intro w; go_simp; rfl); go_simp; go_big_quiet_on)
    go_big_quiet_want; (refine quiet_val ?_ ?_ ?_; rotate_left; (intro w; go_simp; rfl); go_simp; go_big_quiet_on)
    go_big_quiet_want; (refine quiet_val ?_ ?_ ?_; rotate_left; (intro w; go_simp; rfl); go_simp; go_big_quiet_on)
    go_big_quiet_want; refine quiet_ix _ _ rfl 43 rfl rfl (by omega) ?_; go_simp; go_big_quiet_on
    go_big_quiet_want; refine quiet_ld _ rfl (ad := ⟨gb, 0 + 43, none⟩) rfl (fun w' h => ld5 (HCEL.out _ h 43 (by omega))) ?_; go_simp; go_big_quiet_on
    go_big_quiet_want; (refine quiet_val ?_ ?_ ?_; rotate_left; (intro w; go_simp; rfl); go_simp; go_big_quiet_on)
    go_big_quiet_want; (refine quiet_val ?_ ?_ ?_; rotate_left; (intro w; go_simp; rfl); go_simp; go_big_quiet_on)
    try simp only [k9]
    go_big_quiet_want; (refine quiet_val ?_ ?_ ?_; rotate_left; (intro w; go_simp; rfl); go_simp; go_big_quiet_on)
    refine wpQuiet_nil ?_
    intro V15 hV
    have HV15 := Lib.hid hV
    clear hV
    go_upto_region 16 with fail
    have HC16 : Hid (Away [] w5 V15.drew) := HV15.out.drew
    refine wp_region_cls (C := fun w' => Away [] w5 w') (by kernel_rfl) (by kernel_rfl) HC16.out ?_
    go_big_quiet_want; (refine quiet_val ?_ ?_ ?_; rotate_left; (intro w; go_simp; rfl); go_simp; go_big_quiet_on)
    go_big_quiet_want; refine quiet_ix _ _ rfl 44 rfl rfl (by omega) ?_; go_simp; go_big_quiet_on
    go_big_quiet_want; refine quiet_ld _ rfl (ad := ⟨gb, 0 + 44, none⟩) rfl (fun w' h => ld5 (HCEL.out _ h 44 (by omega))) ?_; go_simp; go_big_quiet_on
    go_big_quiet_want; (refine quiet_val ?_ ?_ ?_; rotate_left; (intro w; go_simp; rfl); go_simp; go_big_quiet_on)
    go_big_quiet_want; (refine quiet_val ?_ ?_ ?_; rotate_left; (intro w; go_simp; rfl); go_simp; go_big_quiet_on)
    go_big_quiet_want; (refine quiet_val ?_ ?_ ?_; rotate_left; (intro w; go_simp; rfl); go_simp; go_big_quiet_on)
    go_big_quiet_want; refine quiet_ix _ _ rfl 45 rfl rfl (by omega) ?_; go_simp; go_big_quiet_on
    go_big_quiet_want; refine quiet_ld _ rfl (ad := ⟨gb, 0 + 45, none⟩) rfl (fun w' h => ld5 (HCEL.out _ h 45 (by omega))) ?_; go_simp; go_big_quiet_on
    go_big_quiet_want; (refine quiet_val ?_ ?_ ?_; rotate_left; (intro w; go_simp; rfl); go_simp; go_big_quiet_on)
    go_big_quiet_want; (refine quiet_val ?_ ?_ ?_; rotate_left; (intro w; go_simp; rfl); go_simp; go_big_quiet_on)
    go_big_quiet_want; (refine quiet_val ?_ ?_ ?_; rotate_left; (intro w; go_simp; rfl); go_simp; go_big_quiet_on)
    go_big_quiet_want; (refine quiet_val ?_ ?_ ?_; rotate_left; (intro w; go_simp; rfl); go_simp; go_big_quiet_on)
    go_big_quiet_want; refine quiet_ix _ _ rfl 46 rfl rfl (by omega) ?_; go_simp; go_big_quiet_on
    go_big_quiet_want; refine quiet_ld _ rfl (ad := ⟨gb, 0 + 46, none⟩) rfl (fun w' h => ld5 (HCEL.out _ h 46 (by omega))) ?_; go_simp; go_big_quiet_on
    go_big_quiet_want; (refine quiet_val ?_ ?_ ?_; rotate_left; (intro w; go_simp; rfl); go_simp; go_big_quiet_on)
    go_big_quiet_want; (refine quiet_val ?_ ?_ ?_; rotate_left; (intro w; go_simp; rfl); go_simp; go_big_quiet_on)
    go_big_quiet_want; (refine quiet_val ?_ ?_ ?_; rotate_left; (intro w; go_simp; rfl); go_simp; go_big_quiet_on)
    go_big_quiet_want; (refine quiet_val ?_ ?_ ?_; rotate_left; (intro w; go_simp; rfl); go_simp; go_big_quiet_on)
    go_big_quiet_want; refine quiet_ix _ _ rfl 47 rfl rfl (by omega) ?_; go_simp; go_big_quiet_on
    go_big_quiet_want; refine quiet_ld _ rfl (ad := ⟨gb, 0 + 47, none⟩) rfl (fun w' h => ld5 (HCEL.out _ h 47 (by omega))) ?_; go_simp; go_big_quiet_on
    go_big_quiet_want; (refine quiet_val ?_ ?_ ?_; rotate_left; (intro w; go_simp; rfl); go_simp; go_big_quiet_on)
    go_big_quiet_want; (refine quiet_val ?_ ?_ ?_; rotate_left; (intro w; go_simp; rfl); go_simp; go_big_quiet_on)
    try simp only [k10]
    go_big_quiet_want; (refine quiet_val ?_ ?_ ?_; rotate_left; (intro w; go_simp; rfl); go_simp; go_big_quiet_on)
    refine wpQuiet_nil ?_
    intro V16 hV
    have HV16 := Lib.hid hV
    clear hV
    have s43 := ((HBX.out _ HV16.out).cells HQW.out.ad).off
    have s41 := ((HBX.out _ HV16.out).cells HQW.out.ad).more
    have s39 := ((HBX.out _ HV16.out).cells HQW.out.ad).id
    have o0 := HQR.out.o0; have o1 := HQR.out.o1; have o8 := HQR.out.o8
    generalize hmr : q.more = mr at s41
    have hpl := HPL.out
    rw [hmr] at hpl
    cases mr
    · simp only [Bool.false_eq_true, if_false] at hpl
      have m1 : (placeP q / 8 * 8 == q.off) = true := by simp; omega
      have m2 : decide (placeP q % 8 ≤ 1) = true := decide_eq_true (by omega)
      have m3 : (placeP q % 8 == 1) = false := by simp; omega
      have m4 : placeP q / 8 * 8 = q.off := by omega
      clear hpl HPL
      go_wp2_with fail
      go_ret
      exact ⟨rfl, (HA.out.next HV16.out (by simp)).to_below⟩
    · simp only [if_true] at hpl
      have m1 : (placeP q / 8 * 8 == q.off) = true := by simp; omega
      have m2 : decide (placeP q % 8 ≤ 1) = true := decide_eq_true (by omega)
      have m3 : (placeP q % 8 == 1) = true := by simp; omega
      have m4 : placeP q / 8 * 8 = q.off := by omega
      clear hpl HPL
      go_wp2_with fail
      go_ret
      exact ⟨rfl, (HA.out.next HV16.out (by simp)).to_below⟩
end ip6Fields
namespace ip6Fields
theorem lifted (os : Os) (started : os.Started) (H : Type) (enc : TypeId × Value → H) :
    ReturnsInHanded {} Try.checked os 4 .any (Rows.ip6FieldsSpec.pre6 enc Try.prog Try.f4 Rows.ip6FieldsRow.domain false) (Rows.ip6FieldsSpec.post enc Try.prog Try.f4 false true false false) := by
  refine returnsInHanded_of_change_sized (C := Try.checked) ownKn started (by kernel_rfl) Try.func4
    (ChangeSpec.witness6 (enc := enc) (C := Try.checked) false ⟨#[], #[.agg (csP zeroPk (.slice none 0 0) (.slice none 0 0))], []⟩ 8 (by kernel_rfl) (by kernel_rfl) (by kernel_rfl) (by kernel_rfl)) ?_
  intro W base args ds gs before hval0 hW _ hsz0 _
  have hsz : (DataW.weightsEach Try.prog (Try.f4.params.toList ++ Rows.ip6FieldsSpec.plain.varTypes Try.prog) (ds ++ gs)).all (· ≤ reachBytes) = true := hsz0
  clear hsz0
  have hval : ∀ (j : Nat) t v, Try.f4.params[j]? = some t → args[j]? = some v → Value.okWide Try.prog W .any base t v := hval0
  have hW' := hW
  obtain ⟨p, q, hA0, hV, rfl, hfz, hnd⟩ := hW
  have hA : DataW.TrodAll enc Try.prog W 0 (fun _ => true) true Try.f4.params.toList args.toList ds p := hA0
  rw [Try.params4] at hA hval hsz
  obtain ⟨v0, vs0, d0, ds0, p0, q0, hargs, rfl, rfl, h0, r0⟩ := trodAll_cons hA
  obtain ⟨rfl, rfl, rfl⟩ := trodAll_nil r0
  obtain rfl : args = #[v0] := by cases args; simp_all
  have hV2 : DataW.TrodVars enc Try.prog W (fun _ => true) Rows.ip6FieldsSpec.vars gs q := hV
  obtain ⟨rfl, rfl⟩ := trodVars_none hV2
  have k0 := h0
  have lt0 : ∀ x ∈ p0, x.block < W.heap.size := by obtain ⟨m, hm⟩ := k0; exact DataW.trod_lt m _ _ _ hm
  have z0 : ∀ m ∈ d0.weights Try.prog 28, m ≤ reachBytes := fun m hm => by
    have := List.all_eq_true.1 hsz m (DataW.weights_mem_each (j := 0) (t := 28) rfl rfl m hm)
    simpa using this
  obtain ⟨x0, ov0, dv0, rfl, w0, ol0, dl0⟩ := open_pkt (hval 0 28 v0 rfl rfl) h0 z0
  clear hA0 hval0
  refine (walk x0 ov0 dv0 W w0 ol0 dl0).mono fun e W' ⟨he, bel⟩ => ?_
  subst he
  exact ⟨_, rfl, _, _, _, [], _, [], hW', trodAll_mk1 (shut_bool Try.underlying4 _), (trodAll_cons_mk (Below.trod laidOut (by kernel_rfl) (of_decide_eq_true (by kernel_rfl)) k0 bel lt0) trodAll_mk0), rfl, bel.frame _, fun h => by cases h⟩
theorem over : Rows.ip6FieldsRow.holds Try.pinned (OpenSpec.ofChange Rows.ip6FieldsSpec) :=
  OpenClaim.holds_of_wide 4 Try.f4 rfl rfl rfl rfl rfl rfl rfl ⟨rfl, rfl, rfl, rfl, rfl⟩ rfl rfl rfl rfl rfl (by kernel_rfl) Try.func4 (by kernel_rfl)
    (of_decide_eq_true (by kernel_rfl)) (by unfold Func.isWrapper; first | (rw [if_pos (by decide +kernel)]; kernel_rfl) | (rw [if_neg (by decide +kernel)]; exact ⟨rfl, rfl⟩))
    (fun os started H enc _ => lifted os started H enc)
end ip6Fields
theorem ip6Fields_holds : Rows.Ip6FieldsSaid := ip6Fields.over
#print axioms ip6Fields_holds
end Go.Proofs.Ytbmppdihceaacaa
