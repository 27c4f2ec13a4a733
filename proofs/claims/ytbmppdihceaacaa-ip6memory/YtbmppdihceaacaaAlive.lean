/-
  alive.
-/
import Derived.Test.YtbmppdihceaacaaStp
namespace Go.Proofs.Ytbmppdihceaacaa
open Go.ChangeShapes Go.WideShapes Go.ChangeAt Go.RowKit Go.Deep Num
set_option linter.unusedVariables false
set_option maxHeartbeats 4000000
set_option maxRecDepth 100000

theorem Owns.block {w : World} {v : Value} {l : List Int} (h : Owns w v l) (hl : l ≠ []) : ∃ g c, v = .slice (some ⟨g, 0, none⟩) l.length c ∧ l.length ≤ c := by
  obtain ⟨h1, h2⟩ := h
  rcases h2 with ⟨rfl, h3⟩ | ⟨g, cap, cur, rfl, _, _, h4, _⟩
  · exact absurd (by simpa using h3) hl
  · exact ⟨g, cap, by simp, by simpa using h4⟩
theorem alive_c (w : World) : Calls Try.prog 9 #[] w fun E w' => E = .returned (.bool true) ∧ Away [] w w' := by
  have HAE : Hid (Ad exP) := ⟨rfl, rfl⟩
  go_enter Try.func9, Try.ntmps9
  go_wp2_with fail
  refine (piece_c w).mono ?_
  rintro E w1 ⟨ov, dv, rfl, hm, haw1⟩
  have HM := Lib.hid hm; have HA := Lib.hid haw1
  have k1 := hm.ov; have k2 := hm.dv
  clear hm haw1
  go_wp2_with (first | (refine wpList_new28 rfl rfl rfl _ _ rfl exP ov dv (fun _ => rfl) (fun _ => rfl) HAE.out k1 k2 ?_; refine Hid.out ?_))
  refine Lib.hid ?_
  intro g1 w2 hg1 hb haw
  replace HM := Lib.hid (HM.out.on haw); replace HA := Lib.hid (HA.out.on haw)
  have HB := Lib.hid hb
  have hw2 := HA.out.size
  clear hb haw
  go_wp2_with (first | (refine wpList_load28 rfl _ rfl _ rfl exP _ _ (by exact HB.out) HAE.out ?_))
  refine (build_c exP ov dv w2 (by exact HM.out.pkt ex_wf)).mono ?_
  rintro E w4 ⟨bv, rfl, hown, hnew, haw⟩
  rw [ex_build] at hown ⊢
  have hbt := HB.out.lt
  have hs4 := haw.size
  have HDL : Hid (∀ k, (ov.ownBlock = some k ∨ dv.ownBlock = some k) → k < w2.heap.size) := fun k hk => by rcases hk with h | h; exact HM.out.o.lt k h; exact HM.out.d.lt k h
  replace HM := Lib.hid (HM.out.on haw); replace HA := Lib.hid (HA.out.on haw); replace HB := Lib.hid (HB.out.on haw)
  rw [show ((exB, (0 : Int)).1) = exB from rfl] at hown
  obtain ⟨gb, cb, hbv, hcb⟩ := hown.block (by decide)
  rw [show exB.length = 64 from rfl] at hbv hcb
  subst hbv
  have HO4 := Lib.hid hown
  have hgb : w2.heap.size ≤ gb := hnew gb rfl
  have hgbl : gb < w4.heap.size := hown.lt gb rfl
  clear haw hown hnew
  have d0 : w4.cell? ⟨gb, 0, none⟩ = some (.int .u8 96) := (HO4.out.cells 0 (by decide)).1
  have d5 : w4.cell? ⟨gb, 5, none⟩ = some (.int .u8 24) := (HO4.out.cells 5 (by decide)).1
  have d6 : w4.cell? ⟨gb, 6, none⟩ = some (.int .u8 44) := (HO4.out.cells 6 (by decide)).1
  have d40 : w4.cell? ⟨gb, 40, none⟩ = some (.int .u8 17) := (HO4.out.cells 40 (by decide)).1
  have d43 : w4.cell? ⟨gb, 43, none⟩ = some (.int .u8 9) := (HO4.out.cells 43 (by decide)).1
  have d47 : w4.cell? ⟨gb, 47, none⟩ = some (.int .u8 7) := (HO4.out.cells 47 (by decide)).1
  have d63 : w4.cell? ⟨gb, 63, none⟩ = some (.int .u8 15) := (HO4.out.cells 63 (by decide)).1
  have d39 : w4.cell? ⟨gb, 39, none⟩ = some (.int .u8 2) := (HO4.out.cells 39 (by decide)).1
  go_wp2_with fail
  refine (parse_c (some ⟨gb, 0, none⟩) exB 64 cb _ rfl hcb (by simp) (by exact HO4.out.row' (by decide) ex_bytes)).mono ?_
  rintro E w5 ⟨ou, du, rfl, hou, hdu, hno, hnd, hap, haw⟩
  rw [ex_parse] at hou hdu ⊢
  have HN : Hid (Mine w5 w4.heap.size exP ou du) := ⟨hou, hdu, hno, hnd, hap⟩
  have hs5 := haw.size
  replace HM := Lib.hid (HM.out.on haw); replace HA := Lib.hid (HA.out.on haw); replace HB := Lib.hid (HB.out.on haw); replace HO4 := Lib.hid (HO4.out.on haw)
  have k3 := HN.out.ov; have k4 := HN.out.dv
  clear haw hou hdu hno hnd hap d0 d5 d6 d40 d43 d47 d63 d39
  go_wp2_with (first | (refine wpList_new28 rfl rfl rfl _ _ rfl exP ou du (fun _ => rfl) (fun _ => rfl) HAE.out k3 k4 ?_; refine Hid.out ?_))
  refine Lib.hid ?_
  intro g2 w6 hg2 hb haw
  have hs6 := haw.size
  replace HM := Lib.hid (HM.out.on haw); replace HA := Lib.hid (HA.out.on haw); replace HB := Lib.hid (HB.out.on haw); replace HO4 := Lib.hid (HO4.out.on haw); replace HN := Lib.hid (HN.out.on haw)
  have HB2 := Lib.hid hb
  clear hb haw
  have d41 := (HO4.out.cells 41 (by decide)).1
  have f41 := (HO4.out.cells 41 (by decide)).2
  go_upto_region 7 with fail
  have hA : Away [gb] w6 (w6.setCell ⟨gb, 41, none⟩ (.int .u8 1)) := away_put 41 _
  have hO := HO4.out.set rfl 41 1
  have hdl := HDL.out
  have hwl := HA.out.size
  have HAw : Hid (Away [] w (w6.setCell ⟨gb, 41, none⟩ (.int .u8 1))) := HA.out.next hA (fun x hx => .inr (by simp at hx; omega))
  have HM7 : Hid (Pkt (w6.setCell ⟨gb, 41, none⟩ (.int .u8 1)) exP ov dv) := ⟨ex_wf, ((HM.out.pkt ex_wf).o).away hA (fun _ k hk => by have := hdl k (.inl hk); simp; omega), ((HM.out.pkt ex_wf).d).away hA (fun _ k hk => by have := hdl k (.inr hk); simp; omega)⟩
  have HN7 : Hid (Pkt (w6.setCell ⟨gb, 41, none⟩ (.int .u8 1)) exP ou du) := ⟨ex_wf, ((HN.out.pkt ex_wf).o).away hA (fun _ k hk => by have := HN.out.no k hk; simp; omega), ((HN.out.pkt ex_wf).d).away hA (fun _ k hk => by have := HN.out.nd k hk; simp; omega)⟩
  have HB7 := Lib.hid (HB.out.away hA (by simp; omega))
  have HB27 := Lib.hid (HB2.out.away hA (by simp; omega))
  have HO7 := Lib.hid hO
  clear hA hO HA HM HN HB HB2 HO4 d41 f41 hdl
  generalize w6.setCell ⟨gb, 41, none⟩ (.int .u8 1) = w7 at *
  have hbb : Bytes (exB.set 41 1) := ex_bytes.set 41 (by omega) (by omega)
  go_wp2_with fail
  refine (parse_c (some ⟨gb, 0, none⟩) (exB.set 41 1) 64 cb _ (by decide) hcb (by simp) (by exact HO7.out.row' (by decide) hbb)).mono ?_
  rintro E w8 ⟨oz, dz, rfl, hou, hdu, hno, hnd, hap, haw⟩
  rw [ex_bad] at hou hdu ⊢
  have HZ : Hid (Mine w8 w7.heap.size zeroPk oz dz) := ⟨hou, hdu, hno, hnd, hap⟩
  replace HM7 := Lib.hid (HM7.out.on haw); replace HAw := Lib.hid (HAw.out.on haw); replace HB7 := Lib.hid (HB7.out.on haw); replace HB27 := Lib.hid (HB27.out.on haw); replace HN7 := Lib.hid (HN7.out.on haw)
  have k5 := HZ.out.ov; have k6 := HZ.out.dv
  clear haw hou hdu hno hnd hap HO7 hbb
  go_wp2_with (first | (refine wpList_new28 rfl rfl rfl _ _ rfl zeroPk oz dz (fun _ => rfl) (fun _ => rfl) ⟨rfl, rfl⟩ k5 k6 ?_; refine Hid.out ?_))
  refine Lib.hid ?_
  intro g3 w9 hg3 hb haw
  replace HM7 := Lib.hid (HM7.out.on haw); replace HAw := Lib.hid (HAw.out.on haw); replace HB7 := Lib.hid (HB7.out.on haw); replace HB27 := Lib.hid (HB27.out.on haw); replace HN7 := Lib.hid (HN7.out.on haw)
  clear hb haw HZ
  go_wp2_with (first | (refine wpList_load28 rfl _ rfl g1 rfl exP _ _ (by exact HB7.out) HAE.out ?_) | (refine wpList_load28 rfl _ rfl g2 rfl exP _ _ (by exact HB27.out) HAE.out ?_))
  refine (sameP_yes exP exP ov dv ou du w9 HM7.out HN7.out rfl).mono ?_
  rintro E wa ⟨rfl, haw⟩
  replace HM7 := Lib.hid (HM7.out.on haw); replace HAw := Lib.hid (HAw.out.on haw); replace HB7 := Lib.hid (HB7.out.on haw)
  clear haw
  have HRI : Hid (∀ W, Pkt W exP ov dv → Calls Try.prog 15 #[.agg (csP exP ov dv)] W fun E w' => E = .returned (.bool true) ∧ Away [] W w') := fun W h => by have := right_c exP ov dv W h; rwa [ex_right] at this
  have HHE : Hid (∀ W, Pkt W exP ov dv → Calls Try.prog 17 #[.agg (csP exP ov dv)] W fun E w' => E = .returned (.int .i64 48) ∧ Away [] W w') := fun W h => by have := head_c exP ov dv W h; rwa [ex_head] at this
  go_wp2_with (first | (refine wpList_load28 rfl _ rfl g1 rfl exP _ _ (by exact HB7.out) HAE.out ?_))
  refine (HRI.out _ HM7.out).mono ?_
  rintro E wb ⟨rfl, haw⟩
  replace HM7 := Lib.hid (HM7.out.on haw); replace HAw := Lib.hid (HAw.out.on haw); replace HB7 := Lib.hid (HB7.out.on haw)
  clear haw
  go_wp2_with (first | (refine wpList_load28 rfl _ rfl g1 rfl exP _ _ (by exact HB7.out) HAE.out ?_))
  refine (HHE.out _ HM7.out).mono ?_
  rintro E wc ⟨rfl, haw⟩
  replace HAw := Lib.hid (HAw.out.on haw)
  clear haw
  go_wp2_with fail
  go_ret
  exact ⟨rfl, HAw.out⟩
#print axioms alive_c
end Go.Proofs.Ytbmppdihceaacaa
