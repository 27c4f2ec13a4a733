/-
  Ip6Spoils: a right packet with one thing made wrong is refused.
-/
import Derived.Test.YtbmppdihceaacaaAlive
import Derived.WalkMore
namespace Go.Proofs.Ytbmppdihceaacaa
open Go.ChangeShapes Go.WideShapes Go.ChangeAt Go.RowKit Go.Deep Num
set_option linter.unusedVariables false
set_option maxHeartbeats 8000000
set_option maxRecDepth 100000

theorem no_right {z : Pk} (h : Rgt z → False) : rightP z = false := by
  cases hz : rightP z
  · rfl
  · exact (h ((right_iff z).1 hz)).elim
theorem and15 (n : Int) : 0 ≤ bits .and .i64 n 15 ∧ bits .and .i64 n 15 ≤ 15 := by
  have h : (BitVec.ofInt 64 15).toNat = 15 := by decide
  have key : (BitVec.ofInt 64 n &&& BitVec.ofInt 64 15).toNat ≤ 15 := by rw [BitVec.toNat_and, h]; exact Nat.and_le_right
  have e : bits .and .i64 n 15 = IntKind.i64.wrap ((BitVec.ofInt 64 n &&& BitVec.ofInt 64 15).toNat : Nat) := rfl
  rw [e, IntKind.wrap_i64]
  generalize (BitVec.ofInt 64 n &&& BitVec.ofInt 64 15).toNat = m at *
  omega
theorem u64mod7 (n : Int) : ∃ k : Nat, k < 7 ∧ wrap64 ((IntKind.u64.wrap n).tmod 7) = (k : Int) := by
  have h0 : 0 ≤ IntKind.u64.wrap n := by rw [IntKind.wrap_u64]; omega
  rw [Int.tmod_eq_emod_of_nonneg h0]
  refine ⟨(IntKind.u64.wrap n % 7).toNat, by omega, ?_⟩
  unfold wrap64
  omega
theorem Sl.any {w w' : World} {v : Value} (h : Sl w v []) : Sl w' v [] := by
  obtain ⟨a, c, e, h1, h2, _⟩ := h
  exact ⟨a, c, e, h1, h2, Row.nil _ _⟩
def lenAt (w : World) (g : Nat) : Nat := match w.cell? ⟨g, 45, none⟩ with
  | some (.slice _ n _) => if n % 8 = 0 then 1 else 0
  | _ => 0
theorem lenAt_eq {w : World} {g : Nat} {a : Option Addr} {n c : Nat} (h : w.cell? ⟨g, 45, none⟩ = some (.slice a n c)) : lenAt w g = if n % 8 = 0 then 1 else 0 := by unfold lenAt; rw [h]
namespace ip6Spoils
theorem walk (p : Pk) (ov dv : Value) (how bb : Int) (W : World) (hp : Pkt W p ov dv) (hol : p.o.length ≤ 140737488351232) (hdl : p.d.length ≤ 140737488351232) (hn : (Lit.int .i64 how).wf = true) (hn2 : (Lit.int .i64 bb).wf = true) :
    Calls Try.prog 5 #[.agg (csP p ov dv), .int .i64 how, .int .i64 bb] W fun e W' => e = .returned (.bool true) ∧ Below W.heap.size W W' := by
  have HAD := Lib.hid hp.wf.ad
  have HP := Lib.hid hp
  have HA : Hid (Away [] W W) := Away.refl _ _
  obtain ⟨q, hq⟩ : ∃ q, q = fitP p := ⟨_, rfl⟩
  have HQW : Hid (Wf q) := by rw [hq]; exact fit_wf hp.wf
  have HQR : Hid (Rgt q) := by rw [hq]; exact (right_iff _).1 (right_fit p)
  have HFIT : Hid (∀ w, Pkt w p ov dv → Calls Try.prog 10 #[.agg (csP p ov dv)] w fun E w' => OwnOut w q E w') := fun w h => by rw [hq]; exact fit_c p ov dv w h
  have hbb := bounds_i64 hn2
  have hk := and15 how
  obtain ⟨k, hke⟩ : ∃ k, bits .and .i64 how 15 = k := ⟨_, rfl⟩
  rw [hke] at hk
  obtain ⟨F, hF⟩ : ∃ F : Int, F = if 0 ≤ bb ∧ bb ≤ 1048575 then bb + 1048576 else bb := ⟨_, rfl⟩
  have hF1 : F < 0 ∨ 1048575 < F := by rw [hF]; split <;> omega
  have hF2 : -9223372036854775808 ≤ F ∧ F ≤ 9223372036854775807 := by rw [hF]; split <;> omega
  have HF := Lib.hid hF
  clear hp hq hF hn hn2
  go_enter Try.func5, Try.ntmps5
  go_wp2_with (refine wpList_box28 rfl _ rfl p ov dv rfl ?_; refine Hid.out ?_)
  refine Lib.hid ?_
  intro g1 w1 hg_g1 hb haw
  replace HP := Lib.hid (HP.out.on haw)
  replace HA := Lib.hid (HA.out.on haw)
  clear haw
  have HB := Lib.hid hb
  have hl_g1 := hb.lt
  clear hb
  go_wp2_with fail
  refine (alive_c w1).mono ?_
  rintro E w2 ⟨rfl, haw⟩
  replace HP := Lib.hid (HP.out.on haw)
  replace HA := Lib.hid (HA.out.on haw)
  replace HB := Lib.hid (HB.out.on haw)
  clear haw
  go_wp2_with (first | (refine wpList_load28 rfl _ rfl g1 rfl p _ _ (by exact HB.out) HAD.out ?_))
  have hwB := HA.out.size
  have hgB := HB.out.lt
  refine (HFIT.out _ (by exact HP.out)).mono ?_
  rintro E w3 ⟨oq, dq, rfl, hm, haw⟩
  have hs_oq := haw.size
  replace HP := Lib.hid (HP.out.on haw)
  replace HA := Lib.hid (HA.out.on haw)
  replace HB := Lib.hid (HB.out.on haw)
  clear haw
  have HM := Lib.hid hm
  clear hm
  have kq1 := HM.out.ov; have kq2 := HM.out.dv
  clear HP
  go_wp2_with (first | (refine wpList_store28 rfl _ _ rfl _ rfl q oq dq rfl p ov dv (by exact HB.out) HQW.out.ad HAD.out kq1 kq2 ?_; refine Hid.out ?_))
  refine Lib.hid ?_
  intro w9 hb9 haw9
  have hs9 := haw9.size
  have hWB9 : w2.heap.size ≤ w9.heap.size := by omega
  have HM9 : Hid (Mine w9 w2.heap.size q oq dq) := ⟨HM.out.o.away haw9 (fun k hk => by have := HM.out.no k hk; simp; omega), HM.out.d.away haw9 (fun k hk => by have := HM.out.nd k hk; simp; omega), HM.out.no, HM.out.nd, HM.out.ap⟩
  have HA9 : Hid (Away [] W w9) := HA.out.next haw9 (fun x hx => .inr (by simp at hx; omega))
  have HB9 := Lib.hid hb9
  clear hb9 haw9 HB HM HA
  have hg1 : g1 < w2.heap.size := hgB
  have hsz9 := HA9.out.size
  go_upto_region 6 with fail
  go_cut [22] (fun v wc => v = .bool (decide (0 ≤ bb ∧ bb ≤ 1048575)) ∧ wc = w9)
  case first =>
    by_cases h1 : 0 ≤ bb
    · by_cases h2 : bb ≤ 1048575
      · go_wp2_with fail
        go_meet
        exact ⟨by rw [decide_eq_true (show 0 ≤ bb ∧ bb ≤ 1048575 from ⟨h1, h2⟩)], rfl⟩
      · go_wp2_with fail
        go_meet
        exact ⟨by rw [decide_eq_false (show ¬ (0 ≤ bb ∧ bb ≤ 1048575) by omega)], rfl⟩
    · go_wp2_with fail
      go_meet
      exact ⟨by rw [decide_eq_false (show ¬ (0 ≤ bb ∧ bb ≤ 1048575) by omega)], rfl⟩
  case rest =>
  obtain ⟨hv22, rfl⟩ := hcut
  rename Value => v22
  subst hv22
  go_upto_if 22 with fail
  go_cut [8] (fun v wc' => v = .int .i64 F ∧ wc' = wc)
  case first =>
    by_cases h12 : 0 ≤ bb ∧ bb ≤ 1048575
    · obtain rfl : F = bb + 1048576 := by rw [HF.out, if_pos h12]
      have e12 := decide_eq_true h12
      have h1 := h12.1; have h2 := h12.2
      go_wp2_with fail
      go_meet
      exact ⟨by go_num, rfl⟩
    · obtain rfl : F = bb := by rw [HF.out, if_neg h12]
      have e12 := decide_eq_false h12
      clear h12
      go_wp2_with fail
      go_meet
      exact ⟨rfl, rfl⟩
  case rest =>
  obtain ⟨hv8, hwc⟩ := hcut
  subst hwc
  rename Value => v8
  subst hv8
  have hFo := hF1
  obtain ⟨oa, oc, hoq, -⟩ := HM9.out.o.slc
  obtain ⟨da, dc, hdq, -⟩ := HM9.out.d.slc
  have HPK := Lib.hid (HM9.out.pkt HQW.out)
  have KW : Hid (∀ w', Away [g1] wc w' → Away [] W w' ∧ Sl w' oq q.o ∧ Sl w' dq q.d) := fun w' h => ⟨HA9.out.next h (fun x hx => .inr (by simp at hx; omega)), HPK.out.o.away h (fun _ k hk => by have := HM9.out.no k hk; simp; omega), HPK.out.d.away h (fun _ k hk => by have := HM9.out.nd k hk; simp; omega)⟩
  go_upto_block 0 with fail
  go_cut [] (fun wd => ∃ z ou du, rightP z = false ∧ Away [] W wd ∧ BoxP wd g1 z ou du ∧ Pkt wd z ou du)
  case first =>
    obtain rfl | rfl | rfl | rfl | rfl | rfl | rfl | rfl | rfl | rfl | rfl | rfl | rfl | rfl | rfl | rfl : k = 0 ∨ k = 1 ∨ k = 2 ∨ k = 3 ∨ k = 4 ∨ k = 5 ∨ k = 6 ∨ k = 7 ∨ k = 8 ∨ k = 9 ∨ k = 10 ∨ k = 11 ∨ k = 12 ∨ k = 13 ∨ k = 14 ∨ k = 15 := by omega
    · have s0 := (HB9.out.cells HQW.out.ad).v
      have t0 := HB9.out.free 0
      go_wp2_with fail
      go_meet
      obtain ⟨x1, x2, x3⟩ := KW.out _ ((Away.refl [g1] wc).setCell (p := ⟨g1, 0, none⟩) (.inl (by simp)) (.int .i64 (4)))
      exact ⟨{ q with v := 4 }, oq, dq, no_right (fun h => by have := h.v; simp at this), x1, (HB9.out).put 0 (.int .i64 (4)) ((csP_set (by exact HQW.out.ad) _ _).1 (4)), ⟨{ HQW.out with v := by simp [i64ok] }, x2, x3⟩⟩
    · have s1 := (HB9.out.cells HQW.out.ad).tos
      have t1 := HB9.out.free 1
      go_wp2_with fail
      go_meet
      obtain ⟨x1, x2, x3⟩ := KW.out _ ((Away.refl [g1] wc).setCell (p := ⟨g1, 1, none⟩) (.inl (by simp)) (.int .i64 (F)))
      exact ⟨{ q with tos := F }, oq, dq, no_right (fun h => by have h1 := h.t0; have h2 := h.t1; simp only at h1 h2; omega), x1, (HB9.out).put 1 (.int .i64 (F)) ((csP_set (by exact HQW.out.ad) _ _).2.1 (F)), ⟨{ HQW.out with tos := by simp only [i64ok]; omega }, x2, x3⟩⟩
    · have s2 := (HB9.out.cells HQW.out.ad).flow
      have t2 := HB9.out.free 2
      go_wp2_with fail
      go_meet
      obtain ⟨x1, x2, x3⟩ := KW.out _ ((Away.refl [g1] wc).setCell (p := ⟨g1, 2, none⟩) (.inl (by simp)) (.int .i64 (F)))
      exact ⟨{ q with flow := F }, oq, dq, no_right (fun h => by have h1 := h.f0; have h2 := h.f1; simp only at h1 h2; omega), x1, (HB9.out).put 2 (.int .i64 (F)) ((csP_set (by exact HQW.out.ad) _ _).2.2.1 (F)), ⟨{ HQW.out with flow := by simp only [i64ok]; omega }, x2, x3⟩⟩
    · have s37 := (HB9.out.cells HQW.out.ad).proto
      have t37 := HB9.out.free 37
      go_wp2_with fail
      go_meet
      obtain ⟨x1, x2, x3⟩ := KW.out _ ((Away.refl [g1] wc).setCell (p := ⟨g1, 37, none⟩) (.inl (by simp)) (.int .i64 (44)))
      exact ⟨{ q with proto := 44 }, oq, dq, no_right (fun h => h.r44 rfl), x1, (HB9.out).put 37 (.int .i64 (44)) ((csP_set (by exact HQW.out.ad) _ _).2.2.2.2.2.1 (44)), ⟨{ HQW.out with proto := by simp [i64ok] }, x2, x3⟩⟩
    · have s38 := (HB9.out.cells HQW.out.ad).ttl
      have t38 := HB9.out.free 38
      go_wp2_with fail
      go_meet
      obtain ⟨x1, x2, x3⟩ := KW.out _ ((Away.refl [g1] wc).setCell (p := ⟨g1, 38, none⟩) (.inl (by simp)) (.int .i64 (F)))
      exact ⟨{ q with ttl := F }, oq, dq, no_right (fun h => by have h1 := h.l0; have h2 := h.l1; simp only at h1 h2; omega), x1, (HB9.out).put 38 (.int .i64 (F)) ((csP_set (by exact HQW.out.ad) _ _).2.2.2.2.2.2.1 (F)), ⟨{ HQW.out with ttl := by simp only [i64ok]; omega }, x2, x3⟩⟩
    · have s3 := (HB9.out.cells HQW.out.ad).sv
      have t3 := HB9.out.free 3
      go_wp2_with fail
      go_meet
      obtain ⟨x1, x2, x3⟩ := KW.out _ ((Away.refl [g1] wc).setCell (p := ⟨g1, 3, none⟩) (.inl (by simp)) (.int .i64 (4)))
      exact ⟨{ q with sv := 4 }, oq, dq, no_right (fun h => by have := h.sv; simp at this), x1, (HB9.out).put 3 (.int .i64 (4)) ((csP_set (by exact HQW.out.ad) _ _).2.2.2.1 (4)), ⟨{ HQW.out with sv := by simp [i64ok] }, x2, x3⟩⟩
    · go_wp2_with (first | (refine wpList_store24m rfl _ _ rfl _ 20 rfl 0 z16 rfl _ _ _ _ (by exact HB9.out) HQW.out.ad rfl (by omega) (csP_dst HQW.out.ad _ _ _ _) ?_; refine Hid.out ?_))
      refine Lib.hid ?_
      intro wz hbz hawz
      go_wp2_with fail
      go_meet
      obtain ⟨x1, x2, x3⟩ := KW.out _ hawz
      have hz : Bytes z16 := by unfold Bytes z16; decide
      exact ⟨{ q with dv := 0, db := z16 }, oq, dq, no_right (fun h => by have := h.dv; simp at this), x1, by rw [hoq, hdq]; exact hbz, ⟨{ HQW.out with dv := by simp [i64ok], dl := rfl, db := hz }, x2, x3⟩⟩
    · have s40 := (HB9.out.cells HQW.out.ad).df
      have t40 := HB9.out.free 40
      go_wp2_with fail
      go_meet
      obtain ⟨x1, x2, x3⟩ := KW.out _ ((Away.refl [g1] wc).setCell (p := ⟨g1, 40, none⟩) (.inl (by simp)) (.bool (true)))
      exact ⟨{ q with df := true }, oq, dq, no_right (fun h => by have := h.df; simp at this), x1, (HB9.out).put 40 (.bool (true)) ((csP_set (by exact HQW.out.ad) _ _).2.2.2.2.2.2.2.2.1 (true)), ⟨{ HQW.out with  }, x2, x3⟩⟩
    · have hA0 := (Away.refl [] wc).alloc (.cells #[.int .u8 1, .int .u8 1, .int .u8 1, .int .u8 1] 5)
      have s44 := ((HB9.out.on hA0).cells HQW.out.ad).o
      rw [hoq] at s44
      have t44 := (HB9.out.on hA0).free 44
      have hR := Row.lit wc [1, 1, 1, 1] (by unfold Bytes; decide) (by simp)
      go_wp2_with fail
      go_meet
      have hA1 := hA0.mono (T := [g1]) (by simp) |>.trans (away_put (w := wc.alloc (.cells #[.int .u8 1, .int .u8 1, .int .u8 1, .int .u8 1] 5)) (g := g1) 44 (.slice (some ⟨wc.heap.size, 0, none⟩) 4 4))
      obtain ⟨x1, x2, x3⟩ := KW.out _ hA1
      have hl9 := HB9.out.lt
      have hone : Bytes ([1, 1, 1, 1] : List Int) := by unfold Bytes; decide
      exact ⟨{ q with o := [1, 1, 1, 1] }, _, dq, no_right (fun h => by have := h.o; simp at this), x1, (HB9.out.on hA0).put 44 _ ((csP_set (by exact HQW.out.ad) _ _).2.2.2.2.2.2.2.2.2.2.2.2.1 [1, 1, 1, 1] _), ⟨{ HQW.out with o := hone, ol := by simp }, ⟨_, _, rfl, by simp, by simp, hR.away (away_put (g := g1) 44 _) (fun x hx => by simp at hx; subst hx; simp; omega)⟩, x3⟩⟩
    · obtain ⟨m, hm7, hme⟩ := u64mod7 bb
      have o0 := HQR.out.o0; have o1 := HQR.out.o1; have o8 := HQR.out.o8
      have s43 := (HB9.out.cells HQW.out.ad).off
      have t43 := HB9.out.free 43
      have hadd : wrap64 (wrap64 (q.off + 1) + wrap64 ((IntKind.u64.wrap bb).tmod 7)) = q.off + 1 + m := by rw [hme]; unfold wrap64; omega
      go_wp2_with fail
      go_meet
      obtain ⟨x1, x2, x3⟩ := KW.out _ (away_put (w := wc) (g := g1) 43 (.int .i64 (q.off + 1 + m)))
      have e1 : (q.off + 1 + wrap64 ((IntKind.u64.wrap bb).tmod 7)) = q.off + 1 + m := by rw [hme]
      first
        | exact ⟨{ q with off := q.off + 1 + m }, oq, dq, no_right (fun h => by have h8 := h.o8; simp only at h8; omega), x1, HB9.out.put 43 (.int .i64 (q.off + 1 + m)) ((csP_set (by exact HQW.out.ad) _ _).2.2.2.2.2.2.2.2.2.2.2.1 (q.off + 1 + m)), ⟨{ HQW.out with off := by simp only [i64ok]; omega }, x2, x3⟩⟩
        | (rw [e1]; exact ⟨{ q with off := q.off + 1 + m }, oq, dq, no_right (fun h => by have h8 := h.o8; simp only at h8; omega), x1, HB9.out.put 43 (.int .i64 (q.off + 1 + m)) ((csP_set (by exact HQW.out.ad) _ _).2.2.2.2.2.2.2.2.2.2.2.1 (q.off + 1 + m)), ⟨{ HQW.out with off := by simp only [i64ok]; omega }, x2, x3⟩⟩)
    · have s43 := (HB9.out.cells HQW.out.ad).off
      have t43 := HB9.out.free 43
      go_wp2_with fail
      go_meet
      obtain ⟨x1, x2, x3⟩ := KW.out _ ((Away.refl [g1] wc).setCell (p := ⟨g1, 43, none⟩) (.inl (by simp)) (.int .i64 (F)))
      exact ⟨{ q with off := F }, oq, dq, no_right (fun h => by have h1 := h.o0; have h2 := h.o1; simp only at h1 h2; omega), x1, (HB9.out).put 43 (.int .i64 (F)) ((csP_set (by exact HQW.out.ad) _ _).2.2.2.2.2.2.2.2.2.2.2.1 (F)), ⟨{ HQW.out with off := by simp only [i64ok]; omega }, x2, x3⟩⟩
    · have s42 := (HB9.out.cells HQW.out.ad).frag
      have t42 := HB9.out.free 42
      have s39 := (HB9.out.cells HQW.out.ad).id
      have t39 := HB9.out.free 39
      go_wp2_with fail
      go_meet
      obtain ⟨x1, x2, x3⟩ := KW.out _ (((Away.refl [g1] wc).setCell (p := ⟨g1, 42, none⟩) (.inl (by simp)) (.bool (false))).setCell (p := ⟨g1, 39, none⟩) (.inl (by simp)) (.int .u32 (1)))
      exact ⟨{ q with frag := false, id := 1 }, oq, dq, no_right (fun h => by have := (h.bare rfl).1; simp at this), x1, ((HB9.out).put 42 (.bool (false)) ((csP_set (by exact HQW.out.ad) _ _).2.2.2.2.2.2.2.2.2.2.1 (false))).put 39 (.int .u32 (1)) ((csP_set (by exact HQW.out.ad) _ _).2.2.2.2.2.2.2.1 (1)), ⟨{ HQW.out with id0 := by simp, id1 := by simp }, x2, x3⟩⟩
    · have s42 := (HB9.out.cells HQW.out.ad).frag
      have t42 := HB9.out.free 42
      have s43 := (HB9.out.cells HQW.out.ad).off
      have t43 := HB9.out.free 43
      go_wp2_with fail
      go_meet
      obtain ⟨x1, x2, x3⟩ := KW.out _ (((Away.refl [g1] wc).setCell (p := ⟨g1, 42, none⟩) (.inl (by simp)) (.bool (false))).setCell (p := ⟨g1, 43, none⟩) (.inl (by simp)) (.int .i64 (8)))
      exact ⟨{ q with frag := false, off := 8 }, oq, dq, no_right (fun h => by have := (h.bare rfl).2.1; simp at this), x1, ((HB9.out).put 42 (.bool (false)) ((csP_set (by exact HQW.out.ad) _ _).2.2.2.2.2.2.2.2.2.2.1 (false))).put 43 (.int .i64 (8)) ((csP_set (by exact HQW.out.ad) _ _).2.2.2.2.2.2.2.2.2.2.2.1 (8)), ⟨{ HQW.out with off := by simp [i64ok] }, x2, x3⟩⟩
    · have hl9 := HB9.out.lt
      have s41 := (HB9.out.cells HQW.out.ad).more
      have t41 := HB9.out.free 41
      have hB1 := HB9.out.put 41 (.bool true) ((csP_set HQW.out.ad _ _).2.2.2.2.2.2.2.2.2.1 true)
      have hA1 := away_put (w := wc) (g := g1) 41 (.bool true)
      have hO1 := HM9.out.d.away hA1 (fun k hk => by have := HM9.out.nd k hk; simp; omega)
      have hdn := HQR.out.reach
      have ho0 := HQR.out.o0
      have HBY := Lib.hid HQW.out.d
      have hS1 : Sl (wc.setCell ⟨g1, 41, none⟩ (.bool true)) oq q.o := (KW.out _ hA1).2.1
      go_upto_region 40 with fail
      clear s41 t41
      have hAW := (KW.out _ hA1).1
      have HQ1 : Hid (BoxP (wc.setCell ⟨g1, 41, none⟩ (.bool true)) g1 { q with more := true } oq dq ∧ Owns (wc.setCell ⟨g1, 41, none⟩ (.bool true)) dq q.d ∧ Away [] W (wc.setCell ⟨g1, 41, none⟩ (.bool true)) ∧ Sl (wc.setCell ⟨g1, 41, none⟩ (.bool true)) oq q.o) := ⟨hB1, hO1, hAW, hS1⟩
      have HMV : Hid (∀ k, oq.ownBlock = some k → k < wc.heap.size) := HM9.out.o.lt
      have HWC1 : Hid ((wc.setCell ⟨g1, 41, none⟩ (.bool true)).heap.size = wc.heap.size) := by show _ = _; simp
      have HQO : Hid (q.o = []) := HQR.out.o
      clear hB1 hA1 hO1 hAW hS1
      generalize (wc.setCell ⟨g1, 41, none⟩ (.bool true)) = y1 at *
      have APP : Hid (∀ (y y2 : World) (d : List Int) (e v' : Value), w2.heap.size ≤ y.heap.size → BoxP y g1 { q with more := true, d := d } oq e → Owns y e d → New w2.heap.size e → Away [] W y → Owns y2 v' (d ++ [1]) → (y.alloc (.cells #[.int .u8 1] 5)).grownBy y2 e.ownBlock → Moved (y.alloc (.cells #[.int .u8 1] 5)) e v' →
          BoxP y2 g1 { q with more := true, d := d } oq e ∧ (BoxP (y2.setCell ⟨g1, 45, none⟩ v') g1 { q with more := true, d := d ++ [1] } oq v' ∧ Owns (y2.setCell ⟨g1, 45, none⟩ v') v' (d ++ [1]) ∧ New w2.heap.size v' ∧ Away [] W (y2.setCell ⟨g1, 45, none⟩ v'))) := by
        intro y y2 d e v' hgy hb ho hn ha ho2 hgr hmv
        have hA0 := (Away.refl [] y).alloc (.cells #[.int .u8 1] 5)
        have hA2 := (Away.refl e.ownBlock.toList (y.alloc (.cells #[.int .u8 1] 5))).grown hgr (fun k hk => .inl (by simp [hk]))
        have hb2 := (hb.on hA0).away hA2 (by simp; intro e'; have := hn _ e'; omega)
        have hws := ha.size
        have hn2 : New w2.heap.size v' := fun k hk => by
          rcases hmv k hk with e' | e'
          · exact hn k e'
          · have : y.heap.size + 1 ≤ k := by simpa using e'
            omega
        refine ⟨hb2, hb2.put 45 v' ((csP_set (by exact HQW.out.ad) _ _).2.2.2.2.2.2.2.2.2.2.2.2.2 _ _), ho2.away (away_put (g := g1) 45 v') (fun k hk => by have := hn2 k hk; simp; omega), hn2, ((ha.next hA0 (by simp)).next hA2 (fun x hx => .inr (by simp at hx; have := hn x hx; omega))).setCell (.inr (by omega)) _⟩
      have hny : New w2.heap.size dq := HM9.out.nd
      have hsy : w2.heap.size ≤ y1.heap.size := by have := HWC1.out; omega
      have HSO : Hid (∀ w', Sl w' oq q.o) := fun w' => by rw [HQO.out]; have := HQ1.out.2.2.2; rw [HQO.out] at this; exact this.any
      have HB1 := Lib.hid HQ1.out.1; have HO1 := Lib.hid HQ1.out.2.1; have HA1 := Lib.hid HQ1.out.2.2.1
      clear HQ1 KW HPK HB9 HA9 HMV
      have c45 := (HB1.out.cells HQW.out.ad).d
      rw [hdq] at c45
      have HO1a : Hid (Owns (y1.alloc (.cells #[.int .u8 1] 5)) (.slice da q.d.length dc) q.d) := by rw [← hdq]; exact HO1.out.away ((Away.refl [] y1).alloc (.cells #[.int .u8 1] 5)) (by simp)
      have HNY := Lib.hid hny
      have HDQ := Lib.hid hdq
      go_wp2_with (at_builtin; refine wpList_app rfl _ _ rfl _ q.d [1] rfl (by exact HO1a.out) ⟨y1.heap.size, 0, none⟩ 1 1 rfl rfl (lit_cells _ [1] _ rfl) (by omega) ?_; refine Hid.out ?_)
      refine Lib.hid ?_
      intro v2 y2 hown2 hgr hmv
      rw [← HDQ.out] at hgr hmv
      obtain ⟨hb2, hb3, ho3, hn3, ha3⟩ := APP.out y1 y2 q.d dq v2 hsy HB1.out HO1.out HNY.out HA1.out hown2 hgr hmv
      have hsy2 : w2.heap.size ≤ (y2.setCell ⟨g1, 45, none⟩ v2).heap.size := by have h1 := hgr.size; simp at h1 ⊢; omega
      have s45 := (hb2.cells HQW.out.ad).d
      have t45 := hb2.free 45
      rw [hdq] at s45
      have HB3 := Lib.hid hb3; have HO3 := Lib.hid ho3; have HN3 := Lib.hid hn3; have HA3 := Lib.hid ha3
      obtain ⟨a2, c2, hv2, -⟩ := ho3.slc
      have hl2 : (q.d ++ [(1 : Int)]).length = q.d.length + 1 := by simp
      rw [hl2] at hv2
      subst hv2
      clear hb2 hb3 ho3 hn3 ha3 hown2 hgr hmv c45 HO1a HB1 HO1 HA1
      have hby2 : Bytes (q.d ++ [1]) := HBY.out.app (Bytes.nil.cons (by omega) (by omega))
      go_wp2_with fail
      go_loopw [] (fun wr => ∃ (d : List Int) (e : Value), w2.heap.size ≤ wr.heap.size ∧ BoxP wr g1 { q with more := true, d := d } oq e ∧ Owns wr e d ∧ New w2.heap.size e ∧ Away [] W wr ∧ Bytes d ∧ d.length ≤ 65537 ∧ (d.length % 8 = 0 → d.length ≤ 65536)) (fun wr => lenAt wr g1)
      case atStart => exact ⟨_, _, hsy2, HB3.out, HO3.out, HN3.out, HA3.out, hby2, by simp; omega, by simp; omega⟩
      case round =>
        obtain ⟨d, e, r1, r2, r3, r4, r5, r6, r7, r8⟩ := hrel
        clear HB3 HO3 HN3 HA3 hby2 s45 t45
        have R2 := Lib.hid r2; have R3 := Lib.hid r3; have R4 := Lib.hid r4; have R5 := Lib.hid r5; have R6 := Lib.hid r6
        clear r2 r3 r4 r5 r6
        obtain ⟨ea, ec, he, hec⟩ := R3.out.slc
        have HE := Lib.hid he
        have c45 := (R2.out.cells HQW.out.ad).d
        rw [he] at c45
        by_cases h8 : d.length % 8 = 0
        · have k8 : ((d.length : Int) % 8 == 0) = true := by simp; omega
          have HO1a : Hid (Owns (wr.alloc (.cells #[.int .u8 1] 5)) (.slice ea d.length ec) d) := by rw [← he]; exact R3.out.away ((Away.refl [] wr).alloc (.cells #[.int .u8 1] 5)) (by simp)
          have h65 := r8 h8
          have hlA := lenAt_eq c45
          rw [if_pos h8] at hlA
          have HLA := Lib.hid hlA
          have H8 := Lib.hid h8
          clear h8 hlA
          go_wp2_with (at_builtin; refine wpList_app rfl _ _ rfl _ d [1] rfl (by exact HO1a.out) ⟨wr.heap.size, 0, none⟩ 1 1 rfl rfl (lit_cells _ [1] _ rfl) (by omega) ?_; refine Hid.out ?_)
          refine Lib.hid ?_
          intro v3 y3 hown3 hgr hmv
          rw [← HE.out] at hgr hmv
          obtain ⟨hb2, hb3, ho3, hn3, ha3⟩ := APP.out wr y3 d e v3 r1 R2.out R3.out R4.out R5.out hown3 hgr hmv
          have hsy3 : w2.heap.size ≤ (y3.setCell ⟨g1, 45, none⟩ v3).heap.size := by have h1 := hgr.size; simp at h1 ⊢; omega
          have s45 := (hb2.cells HQW.out.ad).d
          have t45 := hb2.free 45
          rw [he] at s45
          have HB3 := Lib.hid hb3; have HO3 := Lib.hid ho3; have HN3 := Lib.hid hn3; have HA3 := Lib.hid ha3
          obtain ⟨a3, c3, hv3, -⟩ := ho3.slc
          have hl3 : (d ++ [1]).length = d.length + 1 := by simp
          rw [hl3] at hv3
          subst hv3
          clear hb2 hb3 ho3 hn3 ha3 hown3 hgr hmv c45 HO1a
          go_wp2_with fail
          go_roundw
          case rel =>
            repeat apply Exists.intro
            first
              | exact ⟨hsy3, HB3.out, HO3.out, HN3.out, HA3.out, R6.out.app (Bytes.nil.cons (by omega) (by omega)), by rw [hl3]; omega, by rw [hl3]; have := H8.out; omega⟩
              | exact ⟨⟨hsy3, HB3.out, HO3.out, HN3.out, HA3.out, R6.out.app (Bytes.nil.cons (by omega) (by omega)), by rw [hl3]; omega, by rw [hl3]; have := H8.out; omega⟩, rfl⟩
            all_goals exact undef
          case measure =>
            rw [HLA.out, lenAt_eq (HB3.out.cells HQW.out.ad).d, if_neg (by have := H8.out; omega)]
            omega
        · have k8 : ((d.length : Int) % 8 == 0) = false := by simp; omega
          have H8 := Lib.hid h8
          clear h8
          go_wp2_with fail
          go_meet
          exact ⟨{ q with more := true, d := d }, oq, e, no_right (fun h => H8.out (h.m8 rfl)), R5.out, R2.out, ⟨{ HQW.out with d := R6.out, dn := by show d.length ≤ _; omega }, HSO.out _, R3.out.sl R6.out (by omega)⟩⟩
    · have s42 := (HB9.out.cells HQW.out.ad).frag
      have t42 := HB9.out.free 42
      have s43 := (HB9.out.cells HQW.out.ad).off
      have t43 := HB9.out.free 43
      have s45 := (HB9.out.cells HQW.out.ad).d
      rw [hdq] at s45
      have t45 := HB9.out.free 45
      go_wp2_with fail
      go_meet
      obtain ⟨x1, x2, x3⟩ := KW.out _ ((((Away.refl [g1] wc).setCell (p := ⟨g1, 42, none⟩) (.inl (by simp)) (.bool true)).setCell (p := ⟨g1, 43, none⟩) (.inl (by simp)) (.int .i64 8)).setCell (p := ⟨g1, 45, none⟩) (.inl (by simp)) (.slice none 0 0))
      exact ⟨{ q with frag := true, off := 8, d := [] }, oq, _, no_right (fun h => (h.mn (.inr (by simp))) rfl), x1, ((HB9.out.put 42 (.bool true) ((csP_set (by exact HQW.out.ad) _ _).2.2.2.2.2.2.2.2.2.2.1 true)).put 43 (.int .i64 8) ((csP_set (by exact HQW.out.ad) _ _).2.2.2.2.2.2.2.2.2.2.2.1 8)).put 45 (.slice none 0 0) ((csP_set (by exact HQW.out.ad) _ _).2.2.2.2.2.2.2.2.2.2.2.2.2 [] _), ⟨{ HQW.out with off := by simp [i64ok], d := Bytes.nil, dn := by simp }, x2, Sl.nil _⟩⟩
    · have s37 := (HB9.out.cells HQW.out.ad).proto
      have t37 := HB9.out.free 37
      go_wp2_with fail
      go_meet
      obtain ⟨x1, x2, x3⟩ := KW.out _ ((Away.refl [g1] wc).setCell (p := ⟨g1, 37, none⟩) (.inl (by simp)) (.int .i64 (F)))
      exact ⟨{ q with proto := F }, oq, dq, no_right (fun h => by have h1 := h.r0; have h2 := h.r1; simp only at h1 h2; omega), x1, (HB9.out).put 37 (.int .i64 (F)) ((csP_set (by exact HQW.out.ad) _ _).2.2.2.2.2.1 (F)), ⟨{ HQW.out with proto := by simp only [i64ok]; omega }, x2, x3⟩⟩
  case rest =>
  obtain ⟨z, oz, dz, hz, k1, k2, k3⟩ := hcut
  clear KW HPK HM9 HA9 HB9 hoq hdq HQR HQW
  have HA := Lib.hid k1; have HB := Lib.hid k2; have HPZ := Lib.hid k3; have HZW := Lib.hid k3.wf
  have HBZ : Hid (build6 z = ([], 1)) := build_no hz
  have HRZ : Hid (∀ w o d, Pkt w z o d → Calls Try.prog 15 #[.agg (csP z o d)] w fun E w' => E = .returned (.bool false) ∧ Away [] w w') := fun w o d h => by have := right_c z o d w h; rwa [hz] at this
  have HHZ : Hid (∀ w o d, Pkt w z o d → Calls Try.prog 17 #[.agg (csP z o d)] w fun E w' => E = .returned (.int .i64 0) ∧ Away [] w w') := fun w o d h => by have := head_c z o d w h; rwa [show headP z = 0 from by unfold headP; rw [if_neg (by simp [hz])]] at this
  clear k1 k2 k3 hz
  go_wp2_with (first | (refine wpList_load28 rfl _ rfl g1 rfl z _ _ (by exact HB.out) HZW.out.ad ?_))
  refine (ownP_c z oz dz _ (by exact HPZ.out)).mono ?_
  rintro E w21 ⟨o2, d2, rfl, hm, haw⟩
  have hs_o2 := haw.size
  replace HA := Lib.hid (HA.out.on haw)
  replace HB := Lib.hid (HB.out.on haw)
  replace HPZ := Lib.hid (HPZ.out.on haw)
  clear haw
  have HM2 := Lib.hid hm
  clear hm
  go_wp2_with fail
  refine (build_c z o2 d2 _ (by exact HM2.out.pkt HZW.out)).mono ?_
  rintro E w22 ⟨bv, rfl, hown, hnew, haw⟩
  rw [HBZ.out] at hown ⊢
  have hs_bv := haw.size
  replace HA := Lib.hid (HA.out.on haw)
  replace HB := Lib.hid (HB.out.on haw)
  replace HPZ := Lib.hid (HPZ.out.on haw)
  replace HM2 := Lib.hid (HM2.out.on haw)
  clear haw
  have HO := Lib.hid hown
  have hn_bv := Lib.hid hnew
  clear hown hnew
  rw [show ((([] : List Int), (1 : Int)).1) = [] from rfl] at HO
  obtain ⟨ba, bc, hbv, hbc⟩ := HO.out.slc
  subst hbv
  clear HM2 HO
  go_wp2_with (first | (refine wpList_load28 rfl _ rfl g1 rfl z _ _ (by exact HB.out) HZW.out.ad ?_))
  refine (ownP_c z oz dz _ (by exact HPZ.out)).mono ?_
  rintro E w23 ⟨o3, d3, rfl, hm, haw⟩
  have hs_o3 := haw.size
  replace HA := Lib.hid (HA.out.on haw)
  replace HB := Lib.hid (HB.out.on haw)
  replace HPZ := Lib.hid (HPZ.out.on haw)
  clear haw
  have HM3 := Lib.hid hm
  clear hm
  go_wp2_with fail
  refine (HRZ.out _ o3 d3 (by exact HM3.out.pkt HZW.out)).mono ?_
  rintro E w24 ⟨rfl, haw⟩
  replace HA := Lib.hid (HA.out.on haw)
  replace HB := Lib.hid (HB.out.on haw)
  replace HPZ := Lib.hid (HPZ.out.on haw)
  replace HM3 := Lib.hid (HM3.out.on haw)
  clear haw
  clear HM3
  go_wp2_with (first | (refine wpList_load28 rfl _ rfl g1 rfl z _ _ (by exact HB.out) HZW.out.ad ?_))
  refine (ownP_c z oz dz _ (by exact HPZ.out)).mono ?_
  rintro E w25 ⟨o4, d4, rfl, hm, haw⟩
  have hs_o4 := haw.size
  replace HA := Lib.hid (HA.out.on haw)
  replace HB := Lib.hid (HB.out.on haw)
  replace HPZ := Lib.hid (HPZ.out.on haw)
  clear haw
  have HM4 := Lib.hid hm
  clear hm
  go_wp2_with fail
  refine (HHZ.out _ o4 d4 (by exact HM4.out.pkt HZW.out)).mono ?_
  rintro E w26 ⟨rfl, haw⟩
  replace HA := Lib.hid (HA.out.on haw)
  replace HB := Lib.hid (HB.out.on haw)
  replace HPZ := Lib.hid (HPZ.out.on haw)
  replace HM4 := Lib.hid (HM4.out.on haw)
  clear haw
  go_wp2_with fail
  go_ret
  exact ⟨rfl, HA.out.to_below⟩
end ip6Spoils
namespace ip6Spoils
theorem lifted (os : Os) (started : os.Started) (H : Type) (enc : TypeId × Value → H) :
    ReturnsInHanded {} Try.checked os 5 .any (Rows.ip6SpoilsSpec.pre6 enc Try.prog Try.f5 Rows.ip6SpoilsRow.domain false) (Rows.ip6SpoilsSpec.post enc Try.prog Try.f5 false true false false) := by
  refine returnsInHanded_of_change_sized (C := Try.checked) ownKn started (by kernel_rfl) Try.func5
    (ChangeSpec.witness6 (enc := enc) (C := Try.checked) false ⟨#[], #[.agg (csP zeroPk (.slice none 0 0) (.slice none 0 0)), .int .i64 0, .int .i64 0], []⟩ 8 (by kernel_rfl) (by kernel_rfl) (by kernel_rfl) (by kernel_rfl)) ?_
  intro W base args ds gs before hval0 hW _ hsz0 _
  have hsz : (DataW.weightsEach Try.prog (Try.f5.params.toList ++ Rows.ip6SpoilsSpec.plain.varTypes Try.prog) (ds ++ gs)).all (· ≤ reachBytes) = true := hsz0
  clear hsz0
  have hval : ∀ (j : Nat) t v, Try.f5.params[j]? = some t → args[j]? = some v → Value.okWide Try.prog W .any base t v := hval0
  have hW' := hW
  obtain ⟨p, q, hA0, hV, rfl, hfz, hnd⟩ := hW
  have hA : DataW.TrodAll enc Try.prog W 0 (fun _ => true) true Try.f5.params.toList args.toList ds p := hA0
  rw [Try.params5] at hA hval hsz
  obtain ⟨v0, vs0, d0, ds0, p0, q0, hargs, rfl, rfl, h0, r0⟩ := trodAll_cons hA
  obtain ⟨v1, vs1, d1, ds1, p1, q1, rfl, rfl, rfl, h1, r1⟩ := trodAll_cons r0
  obtain ⟨v2, vs2, d2, ds2, p2, q2, rfl, rfl, rfl, h2, r2⟩ := trodAll_cons r1
  obtain ⟨rfl, rfl, rfl⟩ := trodAll_nil r2
  obtain rfl : args = #[v0, v1, v2] := by cases args; simp_all
  have hV2 : DataW.TrodVars enc Try.prog W (fun _ => true) Rows.ip6SpoilsSpec.vars gs q := hV
  obtain ⟨rfl, rfl⟩ := trodVars_none hV2
  have k0 := h0
  have lt0 : ∀ x ∈ p0, x.block < W.heap.size := by obtain ⟨m, hm⟩ := k0; exact DataW.trod_lt m _ _ _ hm
  have z0 : ∀ m ∈ d0.weights Try.prog 28, m ≤ reachBytes := fun m hm => by
    have := List.all_eq_true.1 hsz m (DataW.weights_mem_each (j := 0) (t := 28) rfl rfl m hm)
    simpa using this
  obtain ⟨x0, ov0, dv0, rfl, w0, ol0, dl0⟩ := open_pkt (hval 0 28 v0 rfl rfl) h0 z0
  obtain ⟨a1, rfl, rfl, rfl, w1⟩ := open_int Try.underlying3 (hval 1 3 v1 rfl rfl) h1
  obtain ⟨a2, rfl, rfl, rfl, w2⟩ := open_int Try.underlying3 (hval 2 3 v2 rfl rfl) h2
  clear hA0 hval0
  refine (walk x0 ov0 dv0 a1 a2 W w0 ol0 dl0 w1 w2).mono fun e W' ⟨he, bel⟩ => ?_
  subst he
  exact ⟨_, rfl, _, _, _, [], _, [], hW', trodAll_mk1 (shut_bool Try.underlying4 _), (trodAll_cons_mk (Below.trod laidOut (by kernel_rfl) (of_decide_eq_true (by kernel_rfl)) k0 bel lt0) (trodAll_cons_mk (shut_int Try.underlying3 w1) (trodAll_cons_mk (shut_int Try.underlying3 w2) trodAll_mk0))), rfl, bel.frame _, fun h => by cases h⟩
theorem over : Rows.ip6SpoilsRow.holds Try.pinned (OpenSpec.ofChange Rows.ip6SpoilsSpec) :=
  OpenClaim.holds_of_wide 5 Try.f5 rfl rfl rfl rfl rfl rfl rfl ⟨rfl, rfl, rfl, rfl, rfl⟩ rfl rfl rfl rfl rfl (by kernel_rfl) Try.func5 (by kernel_rfl)
    (of_decide_eq_true (by kernel_rfl)) (by unfold Func.isWrapper; first | (rw [if_pos (by decide +kernel)]; kernel_rfl) | (rw [if_neg (by decide +kernel)]; exact ⟨rfl, rfl⟩))
    (fun os started H enc _ => lifted os started H enc)
end ip6Spoils
theorem ip6Spoils_holds : Rows.Ip6SpoilsSaid := ip6Spoils.over
#print axioms ip6Spoils_holds
end Go.Proofs.Ytbmppdihceaacaa
