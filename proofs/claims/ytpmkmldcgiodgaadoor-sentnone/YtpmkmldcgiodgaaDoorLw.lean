/-
  first, long, alive of the laws.
-/
import Derived.Test.YtpmkmldcgiodgaaDoorMnd
import Derived.Lib.SlBytesConst
namespace Go.Proofs.YtpmkmldcgiodgaaDoor
open Go.ChangeShapes Go.WideShapes Go.ChangeAt Go.RowKit
open S6 (wp_region_cls quiet_val quiet_call quiet_ld ld3 ld4 ld5 ld25 ld26 load28_run load24m_run)
set_option linter.unusedVariables false
set_option linter.unusedSimpArgs false
set_option maxRecDepth 100000

open W
set_option maxHeartbeats 4000000
def exP : Pk := ⟨4, 0, 0, 4, [10, 0, 0, 1] ++ z12, 4, [10, 0, 0, 2] ++ z12, 17, 64, 7, false, false, false, 0, [], [97, 98, 99]⟩
theorem ex_wf : Wf exP := by
  refine ⟨by simp [exP, i64ok], by simp [exP, i64ok], by simp [exP, i64ok], by simp [exP, i64ok], rfl, ?_, by simp [exP, i64ok], rfl, ?_, by simp [exP, i64ok], by simp [exP, i64ok], by simp [exP], by simp [exP], by simp [exP, i64ok], Bytes.nil, by simp [exP], ?_, by simp [exP]⟩
  · unfold Bytes exP z12; decide
  · unfold Bytes exP z12; decide
  · unfold Bytes exP; decide
theorem Row.lit' (w : World) (m : List Int) (fr : Nat × Nat) (hm : Bytes m) (hl : m.length ≤ 140737488355328) : Row (w.alloc (.cells (m.map (Value.int .u8)).toArray 5 fr)) (some ⟨w.heap.size, 0, none⟩) m := by
  refine ⟨hl, hm, .inr ⟨w.heap.size, 0, rfl, fun i hi => ?_⟩⟩
  have hb : (w.alloc (.cells (m.map (Value.int .u8)).toArray 5 fr)).heap[w.heap.size]? = some (.cells (m.map (Value.int .u8)).toArray 5 fr) := heap_alloc_new w _
  simp only [World.cell?, hb]
  simp [hi]
theorem first_c (w : World) :
    Calls Tryd.prog 13 #[] w fun E w' => ∃ b, E = .returned (.agg (csP exP (.slice none 0 0) (.slice (some ⟨b, 0, none⟩) 3 3))) ∧ w.heap.size ≤ b ∧ b < w'.heap.size ∧ Sl w' (.slice (some ⟨b, 0, none⟩) 3 3) [97, 98, 99] ∧ Away [] w w' := by
  go_enter Tryd.func13, Tryd.ntmps13
  go_wp2_with (refine wpList_alloc28 rfl rfl ?_; refine Hid.out ?_)
  refine Lib.hid ?_
  intro g0 w1 hg0 hb0 haw1
  have HB0 := Lib.hid hb0; have HA1 := Lib.hid haw1
  have hl0 := hb0.lt
  clear hb0 haw1
  have hcv := fun (w : World) (C : Array Value) (n c : Nat) => Lib.run_convert_bytes_const (P := Tryd.prog) w 26 5 C n c Tryd.underlying26 Tryd.underlying5
  have hA := (Away.refl [] w1).alloc (.cells #[.int .u8 97, .int .u8 98, .int .u8 99] 5 (3, 4))
  have HR : Hid (Row (w1.alloc (.cells #[.int .u8 97, .int .u8 98, .int .u8 99] 5 (3, 4))) (some ⟨w1.heap.size, 0, none⟩) [97, 98, 99]) := Row.lit' w1 [97, 98, 99] (3, 4) (by unfold Bytes; decide) (by simp)
  have HB03 := Lib.hid (HB0.out.on hA)
  have HA3 := Lib.hid (HA1.out.next hA (by simp))
  have hs1 := HA1.out.size; have hs3 : w1.heap.size < (w1.alloc (.cells #[.int .u8 97, .int .u8 98, .int .u8 99] 5 (3, 4))).heap.size := by simp
  have HS3 := Lib.hid hs3
  clear hA HB0 HA1 hs3
  go_wp2_with (first | (refine wpList_store28 rfl _ _ rfl _ rfl exP (.slice none 0 0) (.slice (some ⟨w1.heap.size, 0, none⟩) 3 3) rfl zeroPk (.slice none 0 0) (.slice none 0 0) (by exact HB03.out) ⟨rfl, rfl⟩ ⟨rfl, rfl⟩ rfl rfl ?_; refine Hid.out ?_))
  refine Lib.hid ?_
  intro w4 hb4 haw4
  have HB24 := Lib.hid hb4
  have HA4 := Lib.hid (HA3.out.next haw4 (fun x hx => .inr (by simp at hx; omega)))
  have HR4 := Lib.hid (HR.out.away haw4 (fun x hx => by simp at hx; subst hx; simp; omega))
  have hs4 := haw4.size
  have HS4 : Hid (w1.heap.size < w4.heap.size) := Nat.lt_of_lt_of_le HS3.out hs4
  clear hb4 haw4 HA3 HR HB03 hcv HS3 hs4
  generalize w1.heap.size = n1 at *
  go_wp2_with fail
  exact bodyPost_ret (result28 rfl _ _ _ _ _ _ rfl HB24.out ⟨rfl, rfl⟩) rfl ⟨n1, rfl, by omega, HS4.out, ⟨_, _, rfl, by simp, by simp, HR4.out⟩, HA4.out⟩
def longQ (p : Pk) : Int := (if p.v = 4 then 20 else 40) + p.d.length
theorem long_c (p : Pk) (ov dv : Value) (w : World) (hp : Pkt w p ov dv) :
    Calls Tryd.prog 14 #[.agg (csP p ov dv)] w fun E w' => E = .returned (.int .i64 (longQ p)) ∧ Away [] w w' := by
  have HAD := Lib.hid hp.wf.ad
  have hdn := hp.wf.dn
  obtain ⟨-, -, da, dc, rfl, -⟩ := hp
  obtain ⟨z, hz⟩ : ∃ z, z = longQ p := ⟨_, rfl⟩
  rw [← hz]
  unfold longQ at hz
  have HZ := Lib.hid hz
  clear hz
  generalize p.d.length = n at *
  have ew : IntKind.i64.wrap (20 + (n : Int)) = 20 + (n : Int) := by rw [IntKind.wrap_i64]; omega
  have ew2 : IntKind.i64.wrap (40 + (n : Int)) = 40 + (n : Int) := by rw [IntKind.wrap_i64]; omega
  go_enter Tryd.func14, Tryd.ntmps14
  go_wp2_with (refine wpList_box28 rfl _ rfl p _ _ rfl ?_; refine Hid.out ?_)
  refine Lib.hid ?_
  intro g w1 hg hb haw
  have HA := Lib.hid haw
  have cc := hb.cells HAD.out
  have c0 := cc.v; have c45 := cc.d
  clear hb haw hg cc
  by_cases h4 : p.v = 4
  · rw [h4] at c0
    have HR : Hid (z = 20 + (n : Int)) := by show _ = _; rw [HZ.out, if_pos h4]
    clear h4 HZ
    go_wp2_with fail
    go_ret
    exact ⟨ret_int HR.out.symm, HA.out⟩
  · have HR : Hid (z = 40 + (n : Int)) := by show _ = _; rw [HZ.out, if_neg h4]
    have e4 : decide (p.v = 4) = false := by simpa using h4
    have e4b : (p.v == 4) = false := by simpa using h4
    clear h4 HZ
    go_wp2_with fail
    go_ret
    exact ⟨ret_int HR.out.symm, HA.out⟩
def exN : Nt := mkN exP false 0
def exQ1 : Pk := { exP with ttl := 1 }
def exQ2 : Pk := { exP with ttl := 1, id := 8 }
theorem ex_ok : okN exP false = true := by kernel_rfl
theorem ex_add : addN 2 [] exN = [exN] := by kernel_rfl
theorem ex_m1 : matchN [exN] exQ1 = some 23 := by kernel_rfl
theorem ex_m2 : matchN [exN] exQ2 = none := by kernel_rfl
theorem exQ1_wf : Wf exQ1 := ⟨ex_wf.v, ex_wf.tos, ex_wf.flow, ex_wf.sv, ex_wf.sl, ex_wf.sb, ex_wf.dv, ex_wf.dl, ex_wf.db, ex_wf.proto, by simp [exQ1, i64ok], ex_wf.id0, ex_wf.id1, ex_wf.off, ex_wf.o, ex_wf.ol, ex_wf.d, ex_wf.dn⟩
theorem exQ2_wf : Wf exQ2 := ⟨ex_wf.v, ex_wf.tos, ex_wf.flow, ex_wf.sv, ex_wf.sl, ex_wf.sb, ex_wf.dv, ex_wf.dl, ex_wf.db, ex_wf.proto, by simp [exQ2, i64ok], by simp [exQ2], by simp [exQ2], ex_wf.off, ex_wf.o, ex_wf.ol, ex_wf.d, ex_wf.dn⟩
set_option maxHeartbeats 8000000 in
theorem alive_c (w : World) (hg : Glob w) : Calls Tryd.prog 6 #[] w fun E w' => E = .returned (.bool true) ∧ Away [] w w' := by
  have HG := Lib.hid hg
  clear hg
  go_enter Tryd.func6, Tryd.ntmps6
  go_wp2_with fail
  refine (wnew_c 2 w).mono ?_
  rintro E w1 (⟨h, -⟩ | ⟨-, g, rfl, hgn, hwin, haw⟩)
  · omega
  have HW := Lib.hid hwin
  have HA := Lib.hid haw
  have HGN : Hid (w.heap.size ≤ g) := hgn
  clear hwin haw hgn
  go_wp2_with fail
  refine (first_c w1).mono ?_
  rintro E w2 ⟨b, rfl, hb1, hb2, hsl, haw⟩
  have HP : Hid (Pkt w2 exP (.slice none 0 0) (.slice (some ⟨b, 0, none⟩) 3 3)) := ⟨ex_wf, Sl.nil _, hsl⟩
  replace HW := Lib.hid (HW.out.on haw)
  replace HA := Lib.hid (HA.out.trans haw)
  have HS2 : Hid (w.heap.size ≤ w2.heap.size) := HA.out.size
  clear hsl haw hb1 hb2
  have K9 : Hid (Calls Tryd.prog 9 #[.pointer (some ⟨g, 0, none⟩), .agg (csP exP (.slice none 0 0) (.slice (some ⟨b, 0, none⟩) 3 3)), .bool false, .int .u32 0] w2 (NoteOut w2 g (.slice none 0 0) 2 [] exP false 0)) := note_c HW.out exP _ _ HP.out (HG.out.on HA.out) false 0
  go_wp2_with fail
  refine K9.out.mono ?_
  rintro E w3 (⟨h, -⟩ | ⟨-, lv, ds, rfl, hwin, hds, hfp, haw⟩)
  · rw [ex_ok] at h; simp at h
  replace HW := Lib.hid hwin
  have HDS : Hid (ds.map (·.t) = [exN]) := hds.trans ex_add
  replace HA : Hid (Away [] w w3) := HA.out.next haw (fun x hx => .inr (by simp [Value.ownBlock] at hx; rw [hx]; exact HGN.out))
  have HFP : Hid (∀ k, fpW g lv ds k → w.heap.size ≤ k) := fun k hk => by
    rcases hfp k hk with (h1 | h1 | ⟨x, hx, -⟩) | h1
    · rw [h1]; exact HGN.out
    · simp [Value.ownBlock] at h1
    · simp at hx
    · have h2 := HS2.out; omega
  clear hwin hds hfp haw K9 HP
  go_wp2_with fail
  refine (first_c w3).mono ?_
  rintro E w4 ⟨b2, rfl, hb1, hb2, hsl, haw⟩
  have HSL := Lib.hid hsl
  replace HW := Lib.hid (HW.out.on haw)
  replace HA := Lib.hid (HA.out.trans haw)
  clear hsl haw
  go_wp2_with (first | (refine wpList_alloc28 rfl rfl ?_; refine Hid.out ?_))
  refine Lib.hid ?_
  intro g3 w5 hg3 hb3 haw
  have HB := Lib.hid hb3
  replace HSL := Lib.hid (HSL.out.on haw)
  have hlw : ∀ k, fpW g lv ds k → k < w4.heap.size := HW.out.lt
  have HLW := Lib.hid hlw
  replace HW := Lib.hid (HW.out.on haw)
  have hs4 := HA.out.size
  replace HA := Lib.hid (HA.out.trans haw)
  have hs5 := haw.size
  clear hb3 haw hlw
  go_wp2_with (first | (refine wpList_store28 rfl _ _ rfl _ rfl exP (.slice none 0 0) (.slice (some ⟨b2, 0, none⟩) 3 3) rfl zeroPk (.slice none 0 0) (.slice none 0 0) (by exact HB.out) ⟨rfl, rfl⟩ ⟨rfl, rfl⟩ rfl rfl ?_; refine Hid.out ?_))
  refine Lib.hid ?_
  intro w6 hb6 haw
  have HNF : Hid (∀ k ∈ [g3], ¬ fpW g lv ds k) := fun k hk h => by
    simp only [List.mem_cons, List.not_mem_nil, or_false] at hk
    have := HLW.out k h
    omega
  replace HB := Lib.hid hb6
  replace HSL := Lib.hid (HSL.out.away haw (fun _ k hk hm => by simp [Value.ownBlock] at hk hm; omega))
  replace HW := Lib.hid (HW.out.away haw HNF.out)
  replace HA := Lib.hid (HA.out.next haw (fun x hx => .inr (by simp at hx; omega)))
  clear hb6 haw
  have f38 := (HB.out.cells ⟨rfl, rfl⟩).ttl
  have t38 := HB.out.free 38
  have HB7 : Hid (BoxP (w6.setCell ⟨g3, 38, none⟩ (.int .i64 1)) g3 exQ1 (.slice none 0 0) (.slice (some ⟨b2, 0, none⟩) 3 3)) := HB.out.put 38 _ ((csP_set (p := exP) ⟨rfl, rfl⟩ _ _).2.2.2.2.2.2.1 1)
  have hA7 := away_put (w := w6) (g := g3) 38 (.int .i64 1)
  have HSL7 := Lib.hid (HSL.out.away hA7 (fun _ k hk hm => by simp [Value.ownBlock] at hk hm; omega))
  have HW7 := Lib.hid (HW.out.away hA7 HNF.out)
  have HA7 := Lib.hid (HA.out.next hA7 (fun x hx => .inr (by simp at hx; omega)))
  clear hA7
  go_upto_region 6 with fail
  clear f38 t38 HB HSL HW HA
  generalize w6.setCell ⟨g3, 38, none⟩ (.int .i64 1) = w7 at *
  have K12 : Hid (Calls Tryd.prog 12 #[.pointer (some ⟨g, 0, none⟩), .agg (csP exQ1 (.slice none 0 0) (.slice (some ⟨b2, 0, none⟩) 3 3))] w7 fun E w' => E = .returned (.tuple #[.int .i64 23, .bool true]) ∧ Away [] w7 w') := by
    have h1 := match_c HW7.out exQ1 (.slice none 0 0) (.slice (some ⟨b2, 0, none⟩) 3 3) ⟨exQ1_wf, Sl.nil _, HSL7.out⟩
    rw [HDS.out, ex_m1] at h1
    exact h1
  go_wp2_with (refine wpList_load28 rfl _ rfl _ rfl exQ1 _ _ (by exact HB7.out) ⟨rfl, rfl⟩ ?_)
  refine K12.out.mono ?_
  rintro E w8 ⟨rfl, haw⟩
  have HB := Lib.hid (HB7.out.on haw)
  have HSL := Lib.hid (HSL7.out.on haw)
  have HW := Lib.hid (HW7.out.on haw)
  have HA := Lib.hid (HA7.out.trans haw)
  clear haw K12 HB7 HSL7 HW7 HA7
  have f39 := (HB.out.cells ⟨rfl, rfl⟩).id
  have t39 := HB.out.free 39
  have HB7 : Hid (BoxP (w8.setCell ⟨g3, 39, none⟩ (.int .u32 8)) g3 exQ2 (.slice none 0 0) (.slice (some ⟨b2, 0, none⟩) 3 3)) := HB.out.put 39 _ ((csP_set (p := exQ1) ⟨rfl, rfl⟩ _ _).2.2.2.2.2.2.2.1 8)
  have hA7 := away_put (w := w8) (g := g3) 39 (.int .u32 8)
  have HSL7 := Lib.hid (HSL.out.away hA7 (fun _ k hk hm => by simp [Value.ownBlock] at hk hm; omega))
  have HW7 := Lib.hid (HW.out.away hA7 HNF.out)
  have HA7 := Lib.hid (HA.out.next hA7 (fun x hx => .inr (by simp at hx; omega)))
  clear hA7
  go_upto_region 8 with fail
  clear f39 t39 HB HSL HW HA
  generalize w8.setCell ⟨g3, 39, none⟩ (.int .u32 8) = w9 at *
  have K12 : Hid (Calls Tryd.prog 12 #[.pointer (some ⟨g, 0, none⟩), .agg (csP exQ2 (.slice none 0 0) (.slice (some ⟨b2, 0, none⟩) 3 3))] w9 fun E w' => E = .returned (.tuple #[.int .i64 0, .bool false]) ∧ Away [] w9 w') := by
    have h1 := match_c HW7.out exQ2 (.slice none 0 0) (.slice (some ⟨b2, 0, none⟩) 3 3) ⟨exQ2_wf, Sl.nil _, HSL7.out⟩
    rw [HDS.out, ex_m2] at h1
    exact h1
  go_wp2_with (refine wpList_load28 rfl _ rfl _ rfl exQ2 _ _ (by exact HB7.out) ⟨rfl, rfl⟩ ?_)
  refine K12.out.mono ?_
  rintro E w10 ⟨rfl, haw⟩
  have HW := Lib.hid (HW7.out.on haw)
  have HA := Lib.hid (HA7.out.trans haw)
  clear haw K12 HB7 HSL7 HW7 HA7
  have K11 : Hid (Calls Tryd.prog 11 #[.pointer (some ⟨g, 0, none⟩)] w10 fun E w' => E = .returned (.int .i64 1) ∧ w' = w10) := by
    have h1 := wlen_c HW.out
    have h2 : ds.length = 1 := by have := congrArg List.length HDS.out; simpa using this
    rw [h2] at h1
    exact h1
  go_wp2_with fail
  refine K11.out.mono ?_
  rintro E w11 ⟨rfl, rfl⟩
  go_wp2_with fail
  go_ret
  exact ⟨rfl, HA.out⟩
end Go.Proofs.YtpmkmldcgiodgaaDoor
