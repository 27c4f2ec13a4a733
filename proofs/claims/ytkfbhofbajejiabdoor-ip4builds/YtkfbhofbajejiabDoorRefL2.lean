/-
  The document's own: lay.
-/
import Derived.Test.YtkfbhofbajejiabDoorRefL1
namespace Go.Proofs.YtkfbhofbajejiabDoor
open Go.ChangeShapes Go.WideShapes Go.ChangeAt Go.RowKit Go.Deep Num
set_option linter.unusedVariables false
set_option maxHeartbeats 4000000
set_option maxRecDepth 100000

/-- An append of what can be read, to a slice of its own. -/
theorem wpList_bag {W0 w : World} {ops : Array Oper} {rest : List Oper} {o : Oper} {a : Act} {Q : Exit → Act → World → Prop} (hgd : o.guard = none) (s x : Operand)
    (ho : o.op = .call { callee := .builtin .append, args := #[s, x], argTypes := #[26, 26] }) (v : Value) (l m : List Int) (hs : a.eval s = v) (hown : Bag W0 w v l)
    (u : Value) (hx : a.eval x = u) (hu : Sl w u m) (hlen : l.length + m.length ≤ 140737488355328)
    (h : ∀ v' w', Bag W0 w' v' (l ++ m) → wpList Tryd.prog ops Q rest (a.put o.dst v') w') : wpList Tryd.prog ops Q (o :: rest) a w := by
  obtain ⟨ad, cap, rfl, h1, h2, h3⟩ := hu
  rcases ad with _ | ad
  · have h0 : m = [] := by rcases h3.2.2 with h | ⟨_, _, h, _⟩ <;> simp_all
    subst h0
    obtain rfl := h2 rfl
    refine wpList_app_none hgd s x ho v l hs hown.o hx (h v w ?_)
    rw [List.append_nil]; exact hown
  · exact wpList_app hgd s x ho v l m hs hown.o ad m.length cap hx rfl h3.src hlen (fun v' w' r1 r2 r3 => h v' w' (hown.app r1 r2 r3))
theorem Sl.lit (w : World) (m : List Int) (hm : Bytes m) (hl : m.length ≤ 140737488355328) : Sl (w.alloc (.cells (m.map (Value.int .u8)).toArray 5)) (.slice (some ⟨w.heap.size, 0, none⟩) m.length m.length) m :=
  ⟨_, _, rfl, Nat.le_refl _, by simp, Row.lit w m hm hl⟩
theorem Bag.set {W0 w : World} {g n cap : Nat} {l : List Int} (h : Bag W0 w (.slice (some ⟨g, 0, none⟩) n cap) l) (hn : l.length = n) (j : Nat) (u : Int) : Bag W0 (w.setCell ⟨g, j, none⟩ (.int .u8 u)) (.slice (some ⟨g, 0, none⟩) n cap) (l.set j u) :=
  ⟨h.o.set hn j u, h.n, h.a.setCell (p := ⟨g, j, none⟩) (.inr (h.n g rfl)) _⟩
theorem bytes2 {x y : Int} (hx : 0 ≤ x ∧ x ≤ 255) (hy : 0 ≤ y ∧ y ≤ 255) : Bytes [x, y] := by
  intro b hb; simp at hb; rcases hb with rfl | rfl <;> omega
theorem bytes4 {x y : Int} (hx : 0 ≤ x ∧ x ≤ 255) (hy : 0 ≤ y ∧ y ≤ 255) : Bytes [x, y, 0, 0] := by
  intro b hb; simp at hb; rcases hb with rfl | rfl | rfl <;> omega

def LayOut (w : World) (p : Pk) (E : Ending) (w' : World) : Prop := ∃ v, E = .returned v ∧ Owns w' v (lay4 p) ∧ New w.heap.size v ∧ Away [] w w'
theorem rlay_c (p : Pk) (ov dv : Value) (w : World) (hp : Pkt w p ov dv) (hr : rightP p = true) :
    Calls Tryd.prog 26 #[.agg (csP p ov dv)] w fun E w' => LayOut w p E w' := by
  have ha := hp.wf.ad
  obtain ⟨hf, hv⟩ := (right_iff p).1 hr
  obtain ⟨hvl, hv4⟩ := valid_len hv
  obtain ⟨hwf, ho, hd0⟩ := hp
  have hall := hf.all
  have q0 := hf.t0; have q1 := hf.t1; have q2 := hf.l0; have q3 := hf.l1; have q4 := hf.r0; have q5 := hf.r1; have q6 := hwf.id0; have q7 := hf.id
  have o0 := hf.o0; have o1 := hf.o1
  obtain ⟨f0, f1⟩ := flag_bd hf
  obtain ⟨k0, k1⟩ := ck_bd hwf hf hvl
  have HHD : Hid (Bytes (hd p 0 0) ∧ (hd p 0 0).length = 20 + p.o.length) := ⟨hd_bytes hwf hf hvl (by omega) (by omega), hd_len hwf.sl hwf.dl 0 0⟩
  have HSL : Hid (p.sb.length = 16) := hwf.sl
  have HSB : Hid (Bytes p.sb) := hwf.sb
  have HDL : Hid (p.db.length = 16) := hwf.dl
  have HDB : Hid (Bytes p.db) := hwf.db
  have HO : Hid (Sl w ov p.o) := ho
  have HD : Hid (Sl w dv p.d) := hd0
  obtain ⟨ao, capo, rfl, -⟩ := ho
  obtain ⟨ad, capd, rfl, -⟩ := hd0
  have HAD : Hid (Ad p) := ha
  have td1 : p.off.tdiv 8 = p.off / 8 := Int.tdiv_eq_ediv_of_nonneg o0
  have td2 : (20 + (p.o.length : Int)).tdiv 4 = (20 + (p.o.length : Int)) / 4 := Int.tdiv_eq_ediv_of_nonneg (by omega)
  have HFL : Hid (flagP p = p.off / 8 + (if p.df = true then 16384 else 0) + (if p.more = true then 8192 else 0)) := rfl
  have HM1 : Hid (Bytes [64 + (20 + (p.o.length : Int)) / 4, p.tos]) := bytes2 (by omega) (by omega)
  have HM2 : Hid (Bytes [p.ttl, p.proto, 0, 0]) := bytes4 (by omega) (by omega)
  obtain ⟨F, hF⟩ : ∃ F, F = flagP p := ⟨_, rfl⟩
  have HF := Lib.hid hF
  rw [← hF] at f0 f1 HFL
  clear hF hf hwf ha hr hv
  go_enter Tryd.func26, Tryd.ntmps26
  go_wp2_with (refine wpList_box28 rfl _ rfl p _ _ rfl ?_; refine Hid.out ?_)
  refine Lib.hid ?_
  intro g w1 hg hb haw
  have HB : Hid (BoxP w1 g p (.slice ao p.o.length capo) (.slice ad p.d.length capd)) := hb
  have HA : Hid (Away [] w w1) := haw
  have hs1 := haw.size
  replace HO := Lib.hid (HO.out.on haw)
  replace HD := Lib.hid (HD.out.on haw)
  have hc := hb.cells HAD.out
  have c1 := hc.off; have c2 := hc.df; have c3 := hc.more
  clear hb haw hc hg
  have HG : Hid (Bag w1 (w1.alloc (.cells #[.int .u8 (64 + (20 + (p.o.length : Int)) / 4), .int .u8 p.tos] 5)) (.slice (some ⟨w1.heap.size, 0, none⟩) 2 2) [64 + (20 + (p.o.length : Int)) / 4, p.tos]) :=
    ⟨World.ownsRow_lit (base := 0) (e := 5) (size := 1) w1 #[.int .u8 (64 + (20 + (p.o.length : Int)) / 4), .int .u8 p.tos] 2 (Nat.zero_le _) (by unfold maxLen; omega) rfl, fun k hk => by simp [Value.ownBlock] at hk; omega, (Away.refl [] w1).alloc _⟩
  have hcc := HB.out.cells HAD.out
  have c4 := hcc.o; have c5 := hcc.tos
  have hc2 := (HB.out.on HG.out.a).cells HAD.out
  have d1 := hc2.o; have d2 := hc2.d
  clear hcc hc2
  cases hdf : p.df <;> cases hmo : p.more <;> rw [hdf] at c2 <;> rw [hmo] at c3 <;> rw [hdf, hmo] at HFL
  all_goals
    go_upto_region 6 with fail
    clear c1 c2 c3 td1
    first
      | (have e : p.off / 8 + 16384 + 8192 = F := by (have h := HFL.out; simp at h; omega)); rw [e]; clear e
      | (have e : p.off / 8 + 16384 = F := by (have h := HFL.out; simp at h; omega)); rw [e]; clear e
      | (have e : p.off / 8 + 8192 = F := by (have h := HFL.out; simp at h; omega)); rw [e]; clear e
      | (have e : p.off / 8 = F := by (have h := HFL.out; simp at h; omega)); rw [e]; clear e
    clear HFL
    go_wp2_with fail
    refine (rtwo_c w1 _ _ [64 + (20 + (p.o.length : Int)) / 4, p.tos] _ (by exact HG.out) (by omega) (by omega) (by simp)).mono ?_
    rintro E w2 ⟨v2, rfl, hG⟩
    replace HG := Lib.hid hG
    clear hG c4 c5 d1 d2
    have c1 := ((HB.out.on HG.out.a).cells HAD.out).id
    go_wp2_with fail
    refine (rtwo_c w1 _ _ _ _ (by exact HG.out) (by omega) (by omega) (by simp)).mono ?_
    rintro E w3 ⟨v3, rfl, hG⟩
    replace HG := Lib.hid hG
    clear hG c1
    go_wp2_with fail
    refine (rtwo_c w1 _ _ _ F (by exact HG.out) (by omega) (by omega) (by simp)).mono ?_
    rintro E w4 ⟨v4, rfl, hG⟩
    replace HG := Lib.hid hG
    clear hG
    have c1 := ((HB.out.on HG.out.a).cells HAD.out).ttl
    have c2 := ((HB.out.on HG.out.a).cells HAD.out).proto
    have HR := Lib.hid (Sl.lit w4 [p.ttl, p.proto, 0, 0] HM2.out (by simp))
    have HG5 := Lib.hid (HG.out.on ((Away.refl [] w4).alloc (.cells ([p.ttl, p.proto, 0, 0].map (Value.int .u8)).toArray 5)))
    go_upto_region 11 with (at_builtin; refine wpList_bag rfl _ _ rfl _ _ [p.ttl, p.proto, 0, 0] rfl (by exact HG5.out) _ rfl (by exact HR.out) (by simp) ?_; refine Hid.out ?_)
    refine Lib.hid ?_
    intro v5 w5 hG
    replace HG := Lib.hid hG
    clear hG c1 c2 HR HG5
    have HS : Hid (Sl w5 (.slice (some ⟨g, 4, none⟩) 4 16) (p.sb.take 4)) := ⟨_, 16, by simp [HSL.out], by simp [HSL.out], by simp, (range_row (HB.out.on HG.out.a).srow HSB.out HSL.out).head 4⟩
    go_wp2_with (at_builtin; refine wpList_bag rfl _ _ rfl _ _ (p.sb.take 4) rfl (by exact HG.out) _ rfl (by exact HS.out) (by simp; omega) ?_; refine Hid.out ?_)
    refine Lib.hid ?_
    intro v6 w6 hG
    replace HG := Lib.hid hG
    clear hG HS
    have HS : Hid (Sl w6 (.slice (some ⟨g, 21, none⟩) 4 16) (p.db.take 4)) := ⟨_, 16, by simp [HDL.out], by simp [HDL.out], by simp, (range_row ((HB.out.on HG.out.a).drow HAD.out) HDB.out HDL.out).head 4⟩
    go_wp2_with (at_builtin; refine wpList_bag rfl _ _ rfl _ _ (p.db.take 4) rfl (by exact HG.out) _ rfl (by exact HS.out) (by simp; omega) ?_; refine Hid.out ?_)
    refine Lib.hid ?_
    intro v7 w7 hG
    replace HG := Lib.hid hG
    clear hG HS
    have c1 := ((HB.out.on HG.out.a).cells HAD.out).o
    have HS := Lib.hid (HO.out.on HG.out.a)
    go_wp2_with (at_builtin; refine wpList_bag rfl _ _ rfl _ _ p.o rfl (by exact HG.out) _ rfl (by exact HS.out) (by simp; omega) ?_; refine Hid.out ?_)
    refine Lib.hid ?_
    intro v8 w8 hG
    replace hG : Bag w1 w8 v8 (hd p 0 0) := by
      rw [HF.out] at hG
      exact hG
    obtain ⟨g8, cp8, rfl, hcp⟩ := hG.o.some' (by intro h; have := HHD.out.2; rw [h, List.length_nil] at this; omega)
    replace HG := Lib.hid hG
    clear hG HS c1
    have HRW := Lib.hid (HG.out.o.row' (by rw [HHD.out.2]; omega) HHD.out.1)
    have hlen := HHD.out.2
    have HS : Hid (sumH (hd p 0 0) = ckP p) := rfl
    rw [hlen] at hcp HG
    go_wp2_with fail
    refine (rsum_c _ (hd p 0 0) _ cp8 _ hlen (by exact HRW.out) (by omega) (by omega) (by omega)).mono ?_
    rintro E w9 ⟨rfl, haw⟩
    rw [HS.out]
    replace HG := Lib.hid (HG.out.on haw)
    clear haw HRW HS
    have td3 : (ckP p).tdiv 256 = ckP p / 256 := Int.tdiv_eq_ediv_of_nonneg k0
    have tm3 : (ckP p).tmod 256 = ckP p % 256 := Int.tmod_eq_emod_of_nonneg k0
    have n0 : 0 ≤ ckP p / 256 ∧ ckP p / 256 ≤ 255 := by omega
    have n1 : 0 ≤ ckP p % 256 ∧ ckP p % 256 ≤ 255 := by omega
    have HG3 := Lib.hid (HG.out.set hlen 10 (ckP p / 256))
    have HG4 := Lib.hid (HG3.out.set (by simp [hlen]) 11 (ckP p % 256))
    have HE : Hid (((hd p 0 0).set 10 (ckP p / 256)).set 11 (ckP p % 256) = layH p) := rfl
    rw [HE.out] at HG4
    obtain ⟨d0, d1⟩ := HG.out.o.cells 10 (by omega)
    obtain ⟨d2, d3⟩ := HG3.out.o.cells 11 (by rw [List.length_set]; omega)
    clear HE
    generalize ckP p / 256 = y at *
    generalize ckP p % 256 = z at *
    go_upto_region 16 with fail
    clear d0 d1 HG
    generalize w9.setCell ⟨g8, 10, none⟩ (.int .u8 y) = w10 at *
    go_upto_region 17 with fail
    clear d2 d3 HG3
    generalize w10.setCell ⟨g8, 11, none⟩ (.int .u8 z) = w11 at *
    have c1 := ((HB.out.on HG4.out.a).cells HAD.out).d
    have HS := Lib.hid (HD.out.on HG4.out.a)
    have hl2 : (layH p).length = 20 + p.o.length := hd_len HSL.out HDL.out _ _
    go_wp2_with (at_builtin; refine wpList_bag rfl _ _ rfl _ (layH p) p.d rfl (by exact HG4.out) _ rfl (by exact HS.out) (by omega) ?_; refine Hid.out ?_)
    refine Lib.hid ?_
    intro v12 w12 hG
    have HGZ := Lib.hid hG
    clear hG HG4 HS c1
    go_wp2_with fail
    go_ret
    exact ⟨_, rfl, HGZ.out.o, HGZ.out.n.mono hs1, HA.out.on HGZ.out.a⟩
#print axioms rlay_c
end Go.Proofs.YtkfbhofbajejiabDoor
