/-
  kept: a packet's lists, with their spare room, are as they were.
-/
import Derived.Test.YtbnnfbfmomafnaaDoorLent
import Derived.Test.YtbnnfbfmomafnaaDoorSameP
import Derived.Test.YtbnnfbfmomafnaaDoorStp
namespace Go.Proofs.YtbnnfbfmomafnaaDoor.U5
open Go.ChangeShapes Go.WideShapes Go.ChangeAt Go.RowKit Go.Deep Num
set_option linter.unusedVariables false
set_option maxHeartbeats 4000000
set_option maxRecDepth 100000

theorem load28_run {w : World} {g : Nat} {p : Pk} {ov dv : Value} (hb : BoxP w g p ov dv) (ha : Ad p) : (Instr.loadAt 28 (.pointer (some ⟨g, 0, none⟩))).run Tryd.prog w = .ok (.agg (csP p ov dv)) w := by
  simp only [Instr.loadAt, Instr.sureAddr, Sem.run_bind, Sem.run_pure, Result.andThen]
  rw [run_loadVar_row w g 28 28 (csP p ov dv) (0, 0) _ hb Tryd.underlying28 rfl (by rw [csP_size ha]; exact info28)]
theorem ld26 {w : World} {ad : Addr} {a : Option Addr} {n c : Nat} (h : w.cell? ad = some (.slice a n c)) : (Instr.loadAt 26 (.pointer (some ad))).run Tryd.prog w = .ok (.slice a n c) w := by
  simp [go_sem, Instr.loadAt, Instr.sureAddr, h]
theorem yields_ld {ops : Array Oper} {S : World → Prop} {op : Oper} {a : Act} {t : TypeId} {v : Value} {ad : Addr} (hw : Region.wanted op (yielded ops a.tmps) = true) (x : Operand) (ho : op.op = .load t x) (hx : a.eval x = .pointer (some ad))
    (hS : ∀ w, S w → (Instr.loadAt t (.pointer (some ad))).run Tryd.prog w = .ok v w) : YieldsIf Tryd.prog ops S op v a :=
  .inl ⟨hw, fun w hw' => by
    unfold execOp
    simp only [ho, hx, Sem.run_bind, hS w hw', Result.andThen_ok, Sem.run_pure]⟩
theorem step_appW {ops : Array Oper} {o : Oper} {a : Act} {w : World} {K : Act → World → Prop} {Q : Exit → Act → World → Prop} {E : Prop} (hw : Region.wanted o (yielded ops a.tmps) = true) (s x : Operand)
    (hop : o.op = .call { callee := .builtin .append, args := #[s, x], argTypes := #[26, 26] }) (v : Value) (l m : List Int) (hs : a.eval s = v) (hown : Owns w v l)
    (ad : Addr) (n c : Nat) (hx : a.eval x = .slice (some ad) n c) (hn : m.length = n) (hm : ∀ j u, (m.map (Value.int .u8))[j]? = some u → w.cell? (ad.add j) = some u) (hlen : l.length + n ≤ 140737488355328)
    (hK : ∀ v' w', Owns w' v' (l ++ m) → w.grownBy w' v.ownBlock → Moved w v v' → K (a.put o.dst v') w') :
    if Region.wanted o (yielded ops a.tmps) = true then Oper.wp Tryd.prog o a w K Q else E := by
  rw [if_pos hw]
  obtain ⟨v', w', hrun, r1, r2, r3⟩ := run_appB o.type w v l m hown ad n c hn hm hlen
  unfold Oper.wp
  simp [execOp, hop, resolve, invoke, builtin, hs, hx, hrun, Result.andThen]
  exact hK v' w' r1 r2 r3
theorem Lent.parts {B : Nat} {w : World} {v : Value} {l m : List Int} (h : Lent B w v l m) (hl : Bytes l) (hm : Bytes m) (hn : l.length + m.length ≤ 140737488355328) : ∃ g cap, v = .slice (some ⟨g, 0, none⟩) l.length cap ∧ l.length + m.length ≤ cap ∧ Row w (some ⟨g, 0, none⟩) (l ++ m) ∧ Sl w v l := by
  obtain ⟨g, cap, rfl, h1, h2, h3⟩ := h
  have hb : Bytes (l ++ m) := fun x hx => by
    rcases List.mem_append.mp hx with h | h
    · exact hl x h
    · exact hm x h
  have hr := h2.row' (by simp; omega) hb
  have hr' := hr.head l.length
  rw [List.take_left] at hr'
  exact ⟨g, cap, rfl, h1, hr, ⟨_, _, rfl, by omega, by simp, hr'⟩⟩
theorem kept_c (p : Pk) (B : Nat) (ov dv ou du : Value) (w : World) (hp : Pkt w p ov dv) (hol : p.o.length ≤ 140737488355326) (hdl : p.d.length ≤ 140737488355326)
    (hL1 : Lent B w ou p.o [165, 166]) (hL2 : Lent B w du p.d [167, 168]) :
    Calls Tryd.prog 27 #[.agg (csP p ou du), .agg (csP p ov dv)] w fun E w' => E = .returned (.bool true) ∧ Away [] w w' := by
  have ha := hp.wf.ad
  have HAD : Hid (Ad p) := ha
  have HM1 : Hid (Bytes [165, 166]) := bytes2 (by omega) (by omega)
  have HM2 : Hid (Bytes [167, 168]) := bytes2 (by omega) (by omega)
  obtain ⟨hwf, ho, hd0⟩ := hp
  obtain ⟨go, cao, rfl, hco, hro, hso⟩ := hL1.parts ho.bytes.1 HM1.out (by simp; omega)
  obtain ⟨gd, cad, rfl, hcd, hrd, hsd⟩ := hL2.parts hd0.bytes.1 HM2.out (by simp; omega)
  simp only [List.length_cons, List.length_nil] at hco hcd
  have HP : Hid (Pkt w p ov dv) := ⟨hwf, ho, hd0⟩
  have HQ : Hid (Pkt w p (.slice (some ⟨go, 0, none⟩) p.o.length cao) (.slice (some ⟨gd, 0, none⟩) p.d.length cad)) := ⟨hwf, hso, hsd⟩
  have HRO := Lib.hid hro
  have HRD := Lib.hid hrd
  have HO : Hid (Sl w ov p.o) := ho
  have HD : Hid (Sl w dv p.d) := hd0
  obtain ⟨ao, capo, rfl, -⟩ := ho
  obtain ⟨ad, capd, rfl, -⟩ := hd0
  have wo : IntKind.i64.wrap ((p.o.length : Int) + 2) = (p.o.length : Int) + 2 := by rw [IntKind.wrap_i64]; omega
  have wd : IntKind.i64.wrap ((p.d.length : Int) + 2) = (p.d.length : Int) + 2 := by rw [IntKind.wrap_i64]; omega
  have slo := slice_h (some ⟨go, 0, none⟩) p.o.length cao (p.o.length + 2) ((p.o.length : Int) + 2) (by simp) (by omega)
  have sld := slice_h (some ⟨gd, 0, none⟩) p.d.length cad (p.d.length + 2) ((p.d.length : Int) + 2) (by simp) (by omega)
  clear hwf ha hL1 hL2 hro hrd hso hsd
  go_enter Tryd.func27, Tryd.ntmps27
  go_wp2_with (first | (refine wpList_box28 rfl _ rfl p _ _ rfl ?_; refine Hid.out ?_))
  refine Lib.hid ?_
  intro g1 w1 hg1 hb1 haw1
  have HB := Lib.hid hb1; have HA := Lib.hid haw1
  clear hb1 haw1
  go_wp2_with (first | (refine wpList_box28 rfl _ rfl p _ _ rfl ?_; refine Hid.out ?_))
  refine Lib.hid ?_
  intro g2 w2 hg2 hb2 haw2
  have HB2 := Lib.hid hb2
  replace HB := Lib.hid (HB.out.on haw2); replace HA := Lib.hid (HA.out.on haw2)
  clear hb2 haw2 hg1 hg2
  have co2 := (HB2.out.cells HAD.out).o
  have cd2 := (HB2.out.cells HAD.out).d
  go_wp2_with fail
  clear co2 cd2
  have hS0 : (fun w' => BoxP w' g1 p (.slice (some ⟨go, 0, none⟩) p.o.length cao) (.slice (some ⟨gd, 0, none⟩) p.d.length cad) ∧ BoxP w' g2 p (.slice ao p.o.length capo) (.slice ad p.d.length capd)) w2 := ⟨HB.out, HB2.out⟩
  refine wp_region_held_drew (S := (fun w' => BoxP w' g1 p (.slice (some ⟨go, 0, none⟩) p.o.length cao) (.slice (some ⟨gd, 0, none⟩) p.d.length cad) ∧ BoxP w' g2 p (.slice ao p.o.length capo) (.slice ad p.d.length capd))) (by kernel_rfl) hS0 (fun hHeld => ?_)
  refine wpAnyH_take (i := 0) (by simp only [List.getElem?_toArray, List.getElem?_cons_zero]; rfl) (by kernel_rfl) (by kernel_rfl) (by kernel_rfl) (by exact fun _ _ _ h => h) (yields_ld (ad := ⟨g1, 0, none⟩) (by rfl) _ rfl rfl (fun w' h => load28_run h.1 HAD.out)) (by assumption) ?_
  try simp only [Act.put, List.setIfInBounds_toArray, List.set_cons_zero, List.set_cons_succ]
  refine wpAnyH_take (i := 1) (by simp only [List.getElem?_toArray, List.getElem?_cons_succ, List.getElem?_cons_zero]; rfl) (by kernel_rfl) (by kernel_rfl) (by kernel_rfl) (by exact fun _ _ _ h => h) (yields_ld (ad := ⟨g2, 0, none⟩) (by rfl) _ rfl rfl (fun w' h => load28_run h.2 HAD.out)) (by assumption) ?_
  try simp only [Act.put, List.setIfInBounds_toArray, List.set_cons_zero, List.set_cons_succ]
  refine wpAnyH_ready (rs := [2]) (by kernel_rfl) (by simp) ?_
  refine AllReadyH.cons (by simp only [List.getElem?_toArray, List.getElem?_cons_succ, List.getElem?_cons_zero]; rfl) (fun K hK => ?_) AllReadyH.nil
  go_simp
  have HDR : Hid (Away [] w2 w2.drew) := (Away.refl [] w2).drew
  replace HB := Lib.hid (HB.out.on HDR.out)
  replace HB2 := Lib.hid (HB2.out.on HDR.out)
  replace HA := Lib.hid (HA.out.on HDR.out)
  clear HDR hS0
  refine (sameP_yes p p _ _ _ _ _ (HQ.out.on HA.out) (HP.out.on HA.out) rfl).mono ?_
  rintro E w3 ⟨rfl, haw⟩
  replace HB := Lib.hid (HB.out.on haw)
  replace HB2 := Lib.hid (HB2.out.on haw)
  replace HA := Lib.hid (HA.out.on haw)
  clear haw
  replace HRO := Lib.hid (HRO.out.on HA.out)
  replace HRD := Lib.hid (HRD.out.on HA.out)
  go_wp2_with fail
  refine hK.out _ _ ⟨HB.out, HB2.out⟩ (fun hHeld => ?_)
  clear hK K
  try simp only [Act.put, List.setIfInBounds_toArray, List.set_cons_zero, List.set_cons_succ]
  refine wpAnyH_take (i := 3) (v := ?_) (by simp only [List.getElem?_toArray, List.getElem?_cons_succ, List.getElem?_cons_zero]; rfl) (by kernel_rfl) (by kernel_rfl) (by kernel_rfl) (by exact fun _ _ _ h => h) (Or.inl ⟨by rfl, ?_⟩) (by assumption) ?_
  rotate_left
  · intro wq hSw
    (try dsimp only at hSw)
    go_simp
    all_goals (with_reducible rfl)
  try simp only [Act.put, List.setIfInBounds_toArray, List.set_cons_zero, List.set_cons_succ]
  refine wpAnyH_take (i := 4) (v := ?_) (by simp only [List.getElem?_toArray, List.getElem?_cons_succ, List.getElem?_cons_zero]; rfl) (by kernel_rfl) (by kernel_rfl) (by kernel_rfl) (by exact fun _ _ _ h => h) (Or.inl ⟨by rfl, ?_⟩) (by assumption) ?_
  rotate_left
  · intro wq hSw
    (try dsimp only at hSw)
    go_simp
    all_goals (with_reducible rfl)
  try simp only [Act.put, List.setIfInBounds_toArray, List.set_cons_zero, List.set_cons_succ]
  refine wpAnyH_take (i := 5) (by simp only [List.getElem?_toArray, List.getElem?_cons_succ, List.getElem?_cons_zero]; rfl) (by kernel_rfl) (by kernel_rfl) (by kernel_rfl) (by exact fun _ _ _ h => h) (yields_ld (ad := ⟨g1, 44, none⟩) (by rfl) _ rfl rfl (fun w' h => ld26 (h.1.cells HAD.out).o)) (by assumption) ?_
  try simp only [Act.put, List.setIfInBounds_toArray, List.set_cons_zero, List.set_cons_succ]
  refine wpAnyH_take (i := 6) (v := ?_) (by simp only [List.getElem?_toArray, List.getElem?_cons_succ, List.getElem?_cons_zero]; rfl) (by kernel_rfl) (by kernel_rfl) (by kernel_rfl) (by exact fun _ _ _ h => h) (Or.inl ⟨by rfl, ?_⟩) (by assumption) ?_
  rotate_left
  · intro wq hSw
    (try dsimp only at hSw)
    go_simp
    all_goals (with_reducible rfl)
  try simp only [Act.put, List.setIfInBounds_toArray, List.set_cons_zero, List.set_cons_succ]
  refine wpAnyH_take (i := 7) (v := ?_) (by simp only [List.getElem?_toArray, List.getElem?_cons_succ, List.getElem?_cons_zero]; rfl) (by kernel_rfl) (by kernel_rfl) (by kernel_rfl) (by exact fun _ _ _ h => h) (Or.inl ⟨by rfl, ?_⟩) (by assumption) ?_
  rotate_left
  · intro wq hSw
    (try dsimp only at hSw)
    go_simp
    all_goals (with_reducible rfl)
  try simp only [Act.put, List.setIfInBounds_toArray, List.set_cons_zero, List.set_cons_succ]
  refine wpAnyH_take (i := 8) (v := ?_) (by simp only [List.getElem?_toArray, List.getElem?_cons_succ, List.getElem?_cons_zero]; rfl) (by kernel_rfl) (by kernel_rfl) (by kernel_rfl) (by exact fun _ _ _ h => h) (Or.inl ⟨by rfl, ?_⟩) (by assumption) ?_
  rotate_left
  · intro wq hSw
    (try dsimp only at hSw)
    go_simp
    all_goals (with_reducible rfl)
  try simp only [Act.put, List.setIfInBounds_toArray, List.set_cons_zero, List.set_cons_succ]
  refine wpAnyH_take (i := 9) (v := ?_) (by simp only [List.getElem?_toArray, List.getElem?_cons_succ, List.getElem?_cons_zero]; rfl) (by kernel_rfl) (by kernel_rfl) (by kernel_rfl) (by exact fun _ _ _ h => h) (Or.inl ⟨by rfl, ?_⟩) (by assumption) ?_
  rotate_left
  · intro wq hSw
    (try dsimp only at hSw)
    go_simp
    all_goals (with_reducible rfl)
  try simp only [Act.put, List.setIfInBounds_toArray, List.set_cons_zero, List.set_cons_succ]
  refine wpAnyH_take (i := 10) (by simp only [List.getElem?_toArray, List.getElem?_cons_succ, List.getElem?_cons_zero]; rfl) (by kernel_rfl) (by kernel_rfl) (by kernel_rfl) (by exact fun _ _ _ h => h) (yields_ld (ad := ⟨g2, 44, none⟩) (by rfl) _ rfl rfl (fun w' h => ld26 (h.2.cells HAD.out).o)) (by assumption) ?_
  try simp only [Act.put, List.setIfInBounds_toArray, List.set_cons_zero, List.set_cons_succ]
  refine wpAnyH_ready (rs := [11, 12]) (by kernel_rfl) (by simp) ?_
  refine AllReadyH.cons (by simp only [List.getElem?_toArray, List.getElem?_cons_succ, List.getElem?_cons_zero]; rfl) (fun K hK => ?_) (AllReadyH.cons (by simp only [List.getElem?_toArray, List.getElem?_cons_succ, List.getElem?_cons_zero]; rfl) (fun K hK => ?_) AllReadyH.nil)
  · go_simp
    refine (own_any ao p.o _ capo _ rfl (by exact (HO.out.on HA.out).of.2.2.2)).mono ?_
    rintro E wa ⟨v3, rfl, ho3, hn3, haw3, hb3, hl3⟩
    have HG3 : Hid (Bag w3 wa v3 p.o) := ⟨ho3, hn3, haw3⟩
    clear ho3 hn3 haw3 hb3 hl3
    go_wp2_with fail
    refine hK.out _ _ ⟨HB.out.on HG3.out.a, HB2.out.on HG3.out.a⟩ (fun hHeld => ?_)
    clear hK K
    try simp only [Act.put, List.setIfInBounds_toArray, List.set_cons_zero, List.set_cons_succ]
    refine wpAnyH_ready (rs := [12]) (by kernel_rfl) (by simp) ?_
    refine AllReadyH.cons (by simp only [List.getElem?_toArray, List.getElem?_cons_succ, List.getElem?_cons_zero]; rfl) (fun K hK => ?_) AllReadyH.nil
    have HG4 : Hid (Bag w3 (wa.alloc (.cells ([165, 166].map (Value.int .u8)).toArray 5)) v3 p.o) := HG3.out.on ((Away.refl [] wa).alloc _)
    have HRL : Hid (Row (wa.alloc (.cells ([165, 166].map (Value.int .u8)).toArray 5)) (some ⟨wa.heap.size, 0, none⟩) [165, 166]) := Row.lit wa _ HM1.out (by simp)
    obtain ⟨gl, hgl⟩ : ∃ gl, gl = wa.heap.size := ⟨_, rfl⟩
    obtain ⟨wb, hwb⟩ : ∃ wb, wb = wa.alloc (.cells ([165, 166].map (Value.int .u8)).toArray 5) := ⟨_, rfl⟩
    go_simp
    refine hK.out _ _ ⟨HB.out.on HG4.out.a, HB2.out.on HG4.out.a⟩ (fun hHeld => ?_)
    clear hK K
    try simp only [Act.put, List.setIfInBounds_toArray, List.set_cons_zero, List.set_cons_succ]
    rw [← hgl] at HRL ⊢
    rw [← hwb] at HG4 HRL
    simp only [List.map_cons, List.map_nil] at hwb
    rw [← hwb]
    clear hwb hgl HG3
    refine wpAnyH_ready (rs := [13]) (by kernel_rfl) (by simp) ?_
    refine AllReadyH.cons (by simp only [List.getElem?_toArray, List.getElem?_cons_succ, List.getElem?_cons_zero]; rfl) (fun K hK => ?_) AllReadyH.nil
    refine step_appW rfl (.tmp 24) (.tmp 25) rfl v3 p.o [165, 166] rfl (by exact HG4.out.o) ⟨gl, 0, none⟩ 2 2 rfl rfl (by exact HRL.out.src) (by omega) (fun v5 wy r1 r2 r3 => ?_)
    have HG5 := Lib.hid (HG4.out.app r1 r2 r3)
    clear r1 r2 r3 HG4 HRL
    obtain ⟨g5, cap5, rfl, hc5⟩ := HG5.out.o.some' (by simp)
    refine hK.out _ _ ⟨HB.out.on HG5.out.a, HB2.out.on HG5.out.a⟩ (fun hHeld => ?_)
    clear hK K
    try simp only [Act.put, List.setIfInBounds_toArray, List.set_cons_zero, List.set_cons_succ]
    have hln : (p.o ++ [165, 166]).length = p.o.length + 2 := by simp
    rw [hln] at HG5 ⊢
    clear hln hc5
    refine wpAnyH_ready (rs := [14]) (by kernel_rfl) (by simp) ?_
    refine AllReadyH.cons (by simp only [List.getElem?_toArray, List.getElem?_cons_succ, List.getElem?_cons_zero]; rfl) (fun K hK => ?_) AllReadyH.nil
    have HRV : Hid (Row wy (some ⟨g5, 0, none⟩) (p.o ++ [165, 166])) := HG5.out.o.row' (by simp; omega) HRO.out.2.1
    replace HRO := Lib.hid (HRO.out.on HG5.out.a)
    replace HB := Lib.hid (HB.out.on HG5.out.a)
    replace HB2 := Lib.hid (HB2.out.on HG5.out.a)
    replace HA := Lib.hid (HA.out.on HG5.out.a)
    replace HRD := Lib.hid (HRD.out.on HG5.out.a)
    clear HG5
    go_simp
    refine (same_yes (some ⟨go, 0, none⟩) (some ⟨g5, 0, none⟩) (p.o ++ [165, 166]) (p.o ++ [165, 166]) (p.o.length + 2) (p.o.length + 2) cao cap5 _ (by simp) (by simp) (by simp) (by simp) (by exact HRO.out) (by exact HRV.out) rfl).mono ?_
    rintro E w4 ⟨rfl, rfl⟩
    go_wp2_with fail
    refine hK.out _ _ ⟨HB.out, HB2.out⟩ (fun hHeld => ?_)
    clear hK K
    try simp only [Act.put, List.setIfInBounds_toArray, List.set_cons_zero, List.set_cons_succ]
    clear HRV
    refine wpAnyH_take (i := 15) (v := ?_) (by simp only [List.getElem?_toArray, List.getElem?_cons_succ, List.getElem?_cons_zero]; rfl) (by kernel_rfl) (by kernel_rfl) (by kernel_rfl) (by exact fun _ _ _ h => h) (Or.inl ⟨by rfl, ?_⟩) (by assumption) ?_
    rotate_left
    · intro wq hSw
      (try dsimp only at hSw)
      go_simp
      all_goals (with_reducible rfl)
    try simp only [Act.put, List.setIfInBounds_toArray, List.set_cons_zero, List.set_cons_succ]
    refine wpAnyH_take (i := 16) (v := ?_) (by simp only [List.getElem?_toArray, List.getElem?_cons_succ, List.getElem?_cons_zero]; rfl) (by kernel_rfl) (by kernel_rfl) (by kernel_rfl) (by exact fun _ _ _ h => h) (Or.inl ⟨by rfl, ?_⟩) (by assumption) ?_
    rotate_left
    · intro wq hSw
      (try dsimp only at hSw)
      go_simp
      all_goals (with_reducible rfl)
    try simp only [Act.put, List.setIfInBounds_toArray, List.set_cons_zero, List.set_cons_succ]
    refine wpAnyH_take (i := 17) (v := ?_) (by simp only [List.getElem?_toArray, List.getElem?_cons_succ, List.getElem?_cons_zero]; rfl) (by kernel_rfl) (by kernel_rfl) (by kernel_rfl) (by exact fun _ _ _ h => h) (Or.inl ⟨by rfl, ?_⟩) (by assumption) ?_
    rotate_left
    · intro wq hSw
      (try dsimp only at hSw)
      go_simp
      all_goals (with_reducible rfl)
    try simp only [Act.put, List.setIfInBounds_toArray, List.set_cons_zero, List.set_cons_succ]
    refine wpAnyH_take (i := 18) (by simp only [List.getElem?_toArray, List.getElem?_cons_succ, List.getElem?_cons_zero]; rfl) (by kernel_rfl) (by kernel_rfl) (by kernel_rfl) (by exact fun _ _ _ h => h) (yields_ld (ad := ⟨g1, 45, none⟩) (by rfl) _ rfl rfl (fun w' h => ld26 (h.1.cells HAD.out).d)) (by assumption) ?_
    try simp only [Act.put, List.setIfInBounds_toArray, List.set_cons_zero, List.set_cons_succ]
    refine wpAnyH_take (i := 19) (v := ?_) (by simp only [List.getElem?_toArray, List.getElem?_cons_succ, List.getElem?_cons_zero]; rfl) (by kernel_rfl) (by kernel_rfl) (by kernel_rfl) (by exact fun _ _ _ h => h) (Or.inl ⟨by rfl, ?_⟩) (by assumption) ?_
    rotate_left
    · intro wq hSw
      (try dsimp only at hSw)
      go_simp
      all_goals (with_reducible rfl)
    try simp only [Act.put, List.setIfInBounds_toArray, List.set_cons_zero, List.set_cons_succ]
    refine wpAnyH_take (i := 20) (v := ?_) (by simp only [List.getElem?_toArray, List.getElem?_cons_succ, List.getElem?_cons_zero]; rfl) (by kernel_rfl) (by kernel_rfl) (by kernel_rfl) (by exact fun _ _ _ h => h) (Or.inl ⟨by rfl, ?_⟩) (by assumption) ?_
    rotate_left
    · intro wq hSw
      (try dsimp only at hSw)
      go_simp
      all_goals (with_reducible rfl)
    try simp only [Act.put, List.setIfInBounds_toArray, List.set_cons_zero, List.set_cons_succ]
    refine wpAnyH_take (i := 21) (v := ?_) (by simp only [List.getElem?_toArray, List.getElem?_cons_succ, List.getElem?_cons_zero]; rfl) (by kernel_rfl) (by kernel_rfl) (by kernel_rfl) (by exact fun _ _ _ h => h) (Or.inl ⟨by rfl, ?_⟩) (by assumption) ?_
    rotate_left
    · intro wq hSw
      (try dsimp only at hSw)
      go_simp
      all_goals (with_reducible rfl)
    try simp only [Act.put, List.setIfInBounds_toArray, List.set_cons_zero, List.set_cons_succ]
    refine wpAnyH_take (i := 22) (v := ?_) (by simp only [List.getElem?_toArray, List.getElem?_cons_succ, List.getElem?_cons_zero]; rfl) (by kernel_rfl) (by kernel_rfl) (by kernel_rfl) (by exact fun _ _ _ h => h) (Or.inl ⟨by rfl, ?_⟩) (by assumption) ?_
    rotate_left
    · intro wq hSw
      (try dsimp only at hSw)
      go_simp
      all_goals (with_reducible rfl)
    try simp only [Act.put, List.setIfInBounds_toArray, List.set_cons_zero, List.set_cons_succ]
    refine wpAnyH_take (i := 23) (by simp only [List.getElem?_toArray, List.getElem?_cons_succ, List.getElem?_cons_zero]; rfl) (by kernel_rfl) (by kernel_rfl) (by kernel_rfl) (by exact fun _ _ _ h => h) (yields_ld (ad := ⟨g2, 45, none⟩) (by rfl) _ rfl rfl (fun w' h => ld26 (h.2.cells HAD.out).d)) (by assumption) ?_
    try simp only [Act.put, List.setIfInBounds_toArray, List.set_cons_zero, List.set_cons_succ]
    refine wpAnyH_ready (rs := [24, 25]) (by kernel_rfl) (by simp) ?_
    refine AllReadyH.cons (by simp only [List.getElem?_toArray, List.getElem?_cons_succ, List.getElem?_cons_zero]; rfl) (fun K hK => ?_) (AllReadyH.cons (by simp only [List.getElem?_toArray, List.getElem?_cons_succ, List.getElem?_cons_zero]; rfl) (fun K hK => ?_) AllReadyH.nil)
    · go_simp
      refine (own_any ad p.d _ capd _ rfl (by exact (HD.out.on HA.out).of.2.2.2)).mono ?_
      rintro E wa ⟨v3, rfl, ho3, hn3, haw3, hb3, hl3⟩
      have HG3 : Hid (Bag w4 wa v3 p.d) := ⟨ho3, hn3, haw3⟩
      clear ho3 hn3 haw3 hb3 hl3
      go_wp2_with fail
      refine hK.out _ _ ⟨HB.out.on HG3.out.a, HB2.out.on HG3.out.a⟩ (fun hHeld => ?_)
      clear hK K
      try simp only [Act.put, List.setIfInBounds_toArray, List.set_cons_zero, List.set_cons_succ]
      refine wpAnyH_ready (rs := [25]) (by kernel_rfl) (by simp) ?_
      refine AllReadyH.cons (by simp only [List.getElem?_toArray, List.getElem?_cons_succ, List.getElem?_cons_zero]; rfl) (fun K hK => ?_) AllReadyH.nil
      have HG4 : Hid (Bag w4 (wa.alloc (.cells ([167, 168].map (Value.int .u8)).toArray 5)) v3 p.d) := HG3.out.on ((Away.refl [] wa).alloc _)
      have HRL : Hid (Row (wa.alloc (.cells ([167, 168].map (Value.int .u8)).toArray 5)) (some ⟨wa.heap.size, 0, none⟩) [167, 168]) := Row.lit wa _ HM2.out (by simp)
      obtain ⟨gl, hgl⟩ : ∃ gl, gl = wa.heap.size := ⟨_, rfl⟩
      obtain ⟨wb, hwb⟩ : ∃ wb, wb = wa.alloc (.cells ([167, 168].map (Value.int .u8)).toArray 5) := ⟨_, rfl⟩
      go_simp
      refine hK.out _ _ ⟨HB.out.on HG4.out.a, HB2.out.on HG4.out.a⟩ (fun hHeld => ?_)
      clear hK K
      try simp only [Act.put, List.setIfInBounds_toArray, List.set_cons_zero, List.set_cons_succ]
      rw [← hgl] at HRL ⊢
      rw [← hwb] at HG4 HRL
      simp only [List.map_cons, List.map_nil] at hwb
      rw [← hwb]
      clear hwb hgl HG3
      refine wpAnyH_ready (rs := [26]) (by kernel_rfl) (by simp) ?_
      refine AllReadyH.cons (by simp only [List.getElem?_toArray, List.getElem?_cons_succ, List.getElem?_cons_zero]; rfl) (fun K hK => ?_) AllReadyH.nil
      refine step_appW rfl (.tmp 37) (.tmp 38) rfl v3 p.d [167, 168] rfl (by exact HG4.out.o) ⟨gl, 0, none⟩ 2 2 rfl rfl (by exact HRL.out.src) (by omega) (fun v5 wy r1 r2 r3 => ?_)
      have HG5 := Lib.hid (HG4.out.app r1 r2 r3)
      clear r1 r2 r3 HG4 HRL
      obtain ⟨g5, cap5, rfl, hc5⟩ := HG5.out.o.some' (by simp)
      refine hK.out _ _ ⟨HB.out.on HG5.out.a, HB2.out.on HG5.out.a⟩ (fun hHeld => ?_)
      clear hK K
      try simp only [Act.put, List.setIfInBounds_toArray, List.set_cons_zero, List.set_cons_succ]
      have hln : (p.d ++ [167, 168]).length = p.d.length + 2 := by simp
      rw [hln] at HG5 ⊢
      clear hln hc5
      refine wpAnyH_ready (rs := [27]) (by kernel_rfl) (by simp) ?_
      refine AllReadyH.cons (by simp only [List.getElem?_toArray, List.getElem?_cons_succ, List.getElem?_cons_zero]; rfl) (fun K hK => ?_) AllReadyH.nil
      have HRV : Hid (Row wy (some ⟨g5, 0, none⟩) (p.d ++ [167, 168])) := HG5.out.o.row' (by simp; omega) HRD.out.2.1
      replace HRD := Lib.hid (HRD.out.on HG5.out.a)
      replace HB := Lib.hid (HB.out.on HG5.out.a)
      replace HB2 := Lib.hid (HB2.out.on HG5.out.a)
      replace HA := Lib.hid (HA.out.on HG5.out.a)

      clear HG5
      go_simp
      refine (same_yes (some ⟨gd, 0, none⟩) (some ⟨g5, 0, none⟩) (p.d ++ [167, 168]) (p.d ++ [167, 168]) (p.d.length + 2) (p.d.length + 2) cad cap5 _ (by simp) (by simp) (by simp) (by simp) (by exact HRD.out) (by exact HRV.out) rfl).mono ?_
      rintro E w5 ⟨rfl, rfl⟩
      go_wp2_with fail
      refine hK.out _ _ ⟨HB.out, HB2.out⟩ (fun hHeld => ?_)
      clear hK K
      try simp only [Act.put, List.setIfInBounds_toArray, List.set_cons_zero, List.set_cons_succ]
      clear HRV
      refine wpAnyH_take (i := 28) (v := ?_) (by simp only [List.getElem?_toArray, List.getElem?_cons_succ, List.getElem?_cons_zero]; rfl) (by kernel_rfl) (by kernel_rfl) (by kernel_rfl) (by exact fun _ _ _ h => h) (Or.inl ⟨by rfl, ?_⟩) (by assumption) ?_
      rotate_left
      · intro wq hSw
        (try dsimp only at hSw)
        go_simp
        all_goals (with_reducible rfl)
      try simp only [Act.put, List.setIfInBounds_toArray, List.set_cons_zero, List.set_cons_succ]
      refine wpAnyH_take (i := 29) (v := ?_) (by simp only [List.getElem?_toArray, List.getElem?_cons_succ, List.getElem?_cons_zero]; rfl) (by kernel_rfl) (by kernel_rfl) (by kernel_rfl) (by exact fun _ _ _ h => h) (Or.inl ⟨by rfl, ?_⟩) (by assumption) ?_
      rotate_left
      · intro wq hSw
        (try dsimp only at hSw)
        go_simp
        all_goals (with_reducible rfl)
      try simp only [Act.put, List.setIfInBounds_toArray, List.set_cons_zero, List.set_cons_succ]
      refine wpAnyH_done (by kernel_rfl) ?_ _
      go_wp2_with fail
      go_ret
      exact ⟨rfl, HA.out⟩
    · have HG2 : Hid (Away [] w4 (w4.alloc (.cells ([167, 168].map (Value.int .u8)).toArray 5))) := (Away.refl [] w4).alloc _
      have HRL0 : Hid (Row (w4.alloc (.cells ([167, 168].map (Value.int .u8)).toArray 5)) (some ⟨w4.heap.size, 0, none⟩) [167, 168]) := Row.lit w4 _ HM2.out (by simp)
      obtain ⟨gl, hgl⟩ : ∃ gl, gl = w4.heap.size := ⟨_, rfl⟩
      obtain ⟨wa, hwa⟩ : ∃ wa, wa = w4.alloc (.cells ([167, 168].map (Value.int .u8)).toArray 5) := ⟨_, rfl⟩
      go_simp
      refine hK.out _ _ ⟨HB.out.on HG2.out, HB2.out.on HG2.out⟩ (fun hHeld => ?_)
      clear hK K
      try simp only [Act.put, List.setIfInBounds_toArray, List.set_cons_zero, List.set_cons_succ]
      rw [← hgl] at HRL0
      rw [← hwa] at HG2 HRL0
      simp only [List.map_cons, List.map_nil] at hwa
      rw [← hwa]
      rw [← hgl]
      clear hwa hgl
      refine wpAnyH_ready (rs := [24]) (by kernel_rfl) (by simp) ?_
      refine AllReadyH.cons (by simp only [List.getElem?_toArray, List.getElem?_cons_succ, List.getElem?_cons_zero]; rfl) (fun K hK => ?_) AllReadyH.nil
      go_simp
      refine (own_any ad p.d _ capd _ rfl (by exact ((HD.out.on HA.out).on HG2.out).of.2.2.2)).mono ?_
      rintro E wb ⟨v3, rfl, ho3, hn3, haw3, hb3, hl3⟩
      have HG4 : Hid (Bag w4 wb v3 p.d) := ⟨ho3, hn3.mono HG2.out.size, HG2.out.on haw3⟩
      have HRL := Lib.hid (HRL0.out.on haw3)
      clear ho3 hn3 haw3 hb3 hl3 HRL0 HG2
      go_wp2_with fail
      refine hK.out _ _ ⟨HB.out.on HG4.out.a, HB2.out.on HG4.out.a⟩ (fun hHeld => ?_)
      clear hK K
      try simp only [Act.put, List.setIfInBounds_toArray, List.set_cons_zero, List.set_cons_succ]
      refine wpAnyH_ready (rs := [26]) (by kernel_rfl) (by simp) ?_
      refine AllReadyH.cons (by simp only [List.getElem?_toArray, List.getElem?_cons_succ, List.getElem?_cons_zero]; rfl) (fun K hK => ?_) AllReadyH.nil
      refine step_appW rfl (.tmp 37) (.tmp 38) rfl v3 p.d [167, 168] rfl (by exact HG4.out.o) ⟨gl, 0, none⟩ 2 2 rfl rfl (by exact HRL.out.src) (by omega) (fun v5 wy r1 r2 r3 => ?_)
      have HG5 := Lib.hid (HG4.out.app r1 r2 r3)
      clear r1 r2 r3 HG4 HRL
      obtain ⟨g5, cap5, rfl, hc5⟩ := HG5.out.o.some' (by simp)
      refine hK.out _ _ ⟨HB.out.on HG5.out.a, HB2.out.on HG5.out.a⟩ (fun hHeld => ?_)
      clear hK K
      try simp only [Act.put, List.setIfInBounds_toArray, List.set_cons_zero, List.set_cons_succ]
      have hln : (p.d ++ [167, 168]).length = p.d.length + 2 := by simp
      rw [hln] at HG5 ⊢
      clear hln hc5
      refine wpAnyH_ready (rs := [27]) (by kernel_rfl) (by simp) ?_
      refine AllReadyH.cons (by simp only [List.getElem?_toArray, List.getElem?_cons_succ, List.getElem?_cons_zero]; rfl) (fun K hK => ?_) AllReadyH.nil
      have HRV : Hid (Row wy (some ⟨g5, 0, none⟩) (p.d ++ [167, 168])) := HG5.out.o.row' (by simp; omega) HRD.out.2.1
      replace HRD := Lib.hid (HRD.out.on HG5.out.a)
      replace HB := Lib.hid (HB.out.on HG5.out.a)
      replace HB2 := Lib.hid (HB2.out.on HG5.out.a)
      replace HA := Lib.hid (HA.out.on HG5.out.a)

      clear HG5
      go_simp
      refine (same_yes (some ⟨gd, 0, none⟩) (some ⟨g5, 0, none⟩) (p.d ++ [167, 168]) (p.d ++ [167, 168]) (p.d.length + 2) (p.d.length + 2) cad cap5 _ (by simp) (by simp) (by simp) (by simp) (by exact HRD.out) (by exact HRV.out) rfl).mono ?_
      rintro E w5 ⟨rfl, rfl⟩
      go_wp2_with fail
      refine hK.out _ _ ⟨HB.out, HB2.out⟩ (fun hHeld => ?_)
      clear hK K
      try simp only [Act.put, List.setIfInBounds_toArray, List.set_cons_zero, List.set_cons_succ]
      clear HRV
      refine wpAnyH_take (i := 28) (v := ?_) (by simp only [List.getElem?_toArray, List.getElem?_cons_succ, List.getElem?_cons_zero]; rfl) (by kernel_rfl) (by kernel_rfl) (by kernel_rfl) (by exact fun _ _ _ h => h) (Or.inl ⟨by rfl, ?_⟩) (by assumption) ?_
      rotate_left
      · intro wq hSw
        (try dsimp only at hSw)
        go_simp
        all_goals (with_reducible rfl)
      try simp only [Act.put, List.setIfInBounds_toArray, List.set_cons_zero, List.set_cons_succ]
      refine wpAnyH_take (i := 29) (v := ?_) (by simp only [List.getElem?_toArray, List.getElem?_cons_succ, List.getElem?_cons_zero]; rfl) (by kernel_rfl) (by kernel_rfl) (by kernel_rfl) (by exact fun _ _ _ h => h) (Or.inl ⟨by rfl, ?_⟩) (by assumption) ?_
      rotate_left
      · intro wq hSw
        (try dsimp only at hSw)
        go_simp
        all_goals (with_reducible rfl)
      try simp only [Act.put, List.setIfInBounds_toArray, List.set_cons_zero, List.set_cons_succ]
      refine wpAnyH_done (by kernel_rfl) ?_ _
      go_wp2_with fail
      go_ret
      exact ⟨rfl, HA.out⟩
  · have HG2 : Hid (Away [] w3 (w3.alloc (.cells ([165, 166].map (Value.int .u8)).toArray 5))) := (Away.refl [] w3).alloc _
    have HRL0 : Hid (Row (w3.alloc (.cells ([165, 166].map (Value.int .u8)).toArray 5)) (some ⟨w3.heap.size, 0, none⟩) [165, 166]) := Row.lit w3 _ HM1.out (by simp)
    obtain ⟨gl, hgl⟩ : ∃ gl, gl = w3.heap.size := ⟨_, rfl⟩
    obtain ⟨wa, hwa⟩ : ∃ wa, wa = w3.alloc (.cells ([165, 166].map (Value.int .u8)).toArray 5) := ⟨_, rfl⟩
    go_simp
    refine hK.out _ _ ⟨HB.out.on HG2.out, HB2.out.on HG2.out⟩ (fun hHeld => ?_)
    clear hK K
    try simp only [Act.put, List.setIfInBounds_toArray, List.set_cons_zero, List.set_cons_succ]
    rw [← hgl] at HRL0
    rw [← hwa] at HG2 HRL0
    simp only [List.map_cons, List.map_nil] at hwa
    rw [← hwa]
    rw [← hgl]
    clear hwa hgl
    refine wpAnyH_ready (rs := [11]) (by kernel_rfl) (by simp) ?_
    refine AllReadyH.cons (by simp only [List.getElem?_toArray, List.getElem?_cons_succ, List.getElem?_cons_zero]; rfl) (fun K hK => ?_) AllReadyH.nil
    go_simp
    refine (own_any ao p.o _ capo _ rfl (by exact ((HO.out.on HA.out).on HG2.out).of.2.2.2)).mono ?_
    rintro E wb ⟨v3, rfl, ho3, hn3, haw3, hb3, hl3⟩
    have HG4 : Hid (Bag w3 wb v3 p.o) := ⟨ho3, hn3.mono HG2.out.size, HG2.out.on haw3⟩
    have HRL := Lib.hid (HRL0.out.on haw3)
    clear ho3 hn3 haw3 hb3 hl3 HRL0 HG2
    go_wp2_with fail
    refine hK.out _ _ ⟨HB.out.on HG4.out.a, HB2.out.on HG4.out.a⟩ (fun hHeld => ?_)
    clear hK K
    try simp only [Act.put, List.setIfInBounds_toArray, List.set_cons_zero, List.set_cons_succ]
    refine wpAnyH_ready (rs := [13]) (by kernel_rfl) (by simp) ?_
    refine AllReadyH.cons (by simp only [List.getElem?_toArray, List.getElem?_cons_succ, List.getElem?_cons_zero]; rfl) (fun K hK => ?_) AllReadyH.nil
    refine step_appW rfl (.tmp 24) (.tmp 25) rfl v3 p.o [165, 166] rfl (by exact HG4.out.o) ⟨gl, 0, none⟩ 2 2 rfl rfl (by exact HRL.out.src) (by omega) (fun v5 wy r1 r2 r3 => ?_)
    have HG5 := Lib.hid (HG4.out.app r1 r2 r3)
    clear r1 r2 r3 HG4 HRL
    obtain ⟨g5, cap5, rfl, hc5⟩ := HG5.out.o.some' (by simp)
    refine hK.out _ _ ⟨HB.out.on HG5.out.a, HB2.out.on HG5.out.a⟩ (fun hHeld => ?_)
    clear hK K
    try simp only [Act.put, List.setIfInBounds_toArray, List.set_cons_zero, List.set_cons_succ]
    have hln : (p.o ++ [165, 166]).length = p.o.length + 2 := by simp
    rw [hln] at HG5 ⊢
    clear hln hc5
    refine wpAnyH_ready (rs := [14]) (by kernel_rfl) (by simp) ?_
    refine AllReadyH.cons (by simp only [List.getElem?_toArray, List.getElem?_cons_succ, List.getElem?_cons_zero]; rfl) (fun K hK => ?_) AllReadyH.nil
    have HRV : Hid (Row wy (some ⟨g5, 0, none⟩) (p.o ++ [165, 166])) := HG5.out.o.row' (by simp; omega) HRO.out.2.1
    replace HRO := Lib.hid (HRO.out.on HG5.out.a)
    replace HB := Lib.hid (HB.out.on HG5.out.a)
    replace HB2 := Lib.hid (HB2.out.on HG5.out.a)
    replace HA := Lib.hid (HA.out.on HG5.out.a)
    replace HRD := Lib.hid (HRD.out.on HG5.out.a)
    clear HG5
    go_simp
    refine (same_yes (some ⟨go, 0, none⟩) (some ⟨g5, 0, none⟩) (p.o ++ [165, 166]) (p.o ++ [165, 166]) (p.o.length + 2) (p.o.length + 2) cao cap5 _ (by simp) (by simp) (by simp) (by simp) (by exact HRO.out) (by exact HRV.out) rfl).mono ?_
    rintro E w4 ⟨rfl, rfl⟩
    go_wp2_with fail
    refine hK.out _ _ ⟨HB.out, HB2.out⟩ (fun hHeld => ?_)
    clear hK K
    try simp only [Act.put, List.setIfInBounds_toArray, List.set_cons_zero, List.set_cons_succ]
    clear HRV
    refine wpAnyH_take (i := 15) (v := ?_) (by simp only [List.getElem?_toArray, List.getElem?_cons_succ, List.getElem?_cons_zero]; rfl) (by kernel_rfl) (by kernel_rfl) (by kernel_rfl) (by exact fun _ _ _ h => h) (Or.inl ⟨by rfl, ?_⟩) (by assumption) ?_
    rotate_left
    · intro wq hSw
      (try dsimp only at hSw)
      go_simp
      all_goals (with_reducible rfl)
    try simp only [Act.put, List.setIfInBounds_toArray, List.set_cons_zero, List.set_cons_succ]
    refine wpAnyH_take (i := 16) (v := ?_) (by simp only [List.getElem?_toArray, List.getElem?_cons_succ, List.getElem?_cons_zero]; rfl) (by kernel_rfl) (by kernel_rfl) (by kernel_rfl) (by exact fun _ _ _ h => h) (Or.inl ⟨by rfl, ?_⟩) (by assumption) ?_
    rotate_left
    · intro wq hSw
      (try dsimp only at hSw)
      go_simp
      all_goals (with_reducible rfl)
    try simp only [Act.put, List.setIfInBounds_toArray, List.set_cons_zero, List.set_cons_succ]
    refine wpAnyH_take (i := 17) (v := ?_) (by simp only [List.getElem?_toArray, List.getElem?_cons_succ, List.getElem?_cons_zero]; rfl) (by kernel_rfl) (by kernel_rfl) (by kernel_rfl) (by exact fun _ _ _ h => h) (Or.inl ⟨by rfl, ?_⟩) (by assumption) ?_
    rotate_left
    · intro wq hSw
      (try dsimp only at hSw)
      go_simp
      all_goals (with_reducible rfl)
    try simp only [Act.put, List.setIfInBounds_toArray, List.set_cons_zero, List.set_cons_succ]
    refine wpAnyH_take (i := 18) (by simp only [List.getElem?_toArray, List.getElem?_cons_succ, List.getElem?_cons_zero]; rfl) (by kernel_rfl) (by kernel_rfl) (by kernel_rfl) (by exact fun _ _ _ h => h) (yields_ld (ad := ⟨g1, 45, none⟩) (by rfl) _ rfl rfl (fun w' h => ld26 (h.1.cells HAD.out).d)) (by assumption) ?_
    try simp only [Act.put, List.setIfInBounds_toArray, List.set_cons_zero, List.set_cons_succ]
    refine wpAnyH_take (i := 19) (v := ?_) (by simp only [List.getElem?_toArray, List.getElem?_cons_succ, List.getElem?_cons_zero]; rfl) (by kernel_rfl) (by kernel_rfl) (by kernel_rfl) (by exact fun _ _ _ h => h) (Or.inl ⟨by rfl, ?_⟩) (by assumption) ?_
    rotate_left
    · intro wq hSw
      (try dsimp only at hSw)
      go_simp
      all_goals (with_reducible rfl)
    try simp only [Act.put, List.setIfInBounds_toArray, List.set_cons_zero, List.set_cons_succ]
    refine wpAnyH_take (i := 20) (v := ?_) (by simp only [List.getElem?_toArray, List.getElem?_cons_succ, List.getElem?_cons_zero]; rfl) (by kernel_rfl) (by kernel_rfl) (by kernel_rfl) (by exact fun _ _ _ h => h) (Or.inl ⟨by rfl, ?_⟩) (by assumption) ?_
    rotate_left
    · intro wq hSw
      (try dsimp only at hSw)
      go_simp
      all_goals (with_reducible rfl)
    try simp only [Act.put, List.setIfInBounds_toArray, List.set_cons_zero, List.set_cons_succ]
    refine wpAnyH_take (i := 21) (v := ?_) (by simp only [List.getElem?_toArray, List.getElem?_cons_succ, List.getElem?_cons_zero]; rfl) (by kernel_rfl) (by kernel_rfl) (by kernel_rfl) (by exact fun _ _ _ h => h) (Or.inl ⟨by rfl, ?_⟩) (by assumption) ?_
    rotate_left
    · intro wq hSw
      (try dsimp only at hSw)
      go_simp
      all_goals (with_reducible rfl)
    try simp only [Act.put, List.setIfInBounds_toArray, List.set_cons_zero, List.set_cons_succ]
    refine wpAnyH_take (i := 22) (v := ?_) (by simp only [List.getElem?_toArray, List.getElem?_cons_succ, List.getElem?_cons_zero]; rfl) (by kernel_rfl) (by kernel_rfl) (by kernel_rfl) (by exact fun _ _ _ h => h) (Or.inl ⟨by rfl, ?_⟩) (by assumption) ?_
    rotate_left
    · intro wq hSw
      (try dsimp only at hSw)
      go_simp
      all_goals (with_reducible rfl)
    try simp only [Act.put, List.setIfInBounds_toArray, List.set_cons_zero, List.set_cons_succ]
    refine wpAnyH_take (i := 23) (by simp only [List.getElem?_toArray, List.getElem?_cons_succ, List.getElem?_cons_zero]; rfl) (by kernel_rfl) (by kernel_rfl) (by kernel_rfl) (by exact fun _ _ _ h => h) (yields_ld (ad := ⟨g2, 45, none⟩) (by rfl) _ rfl rfl (fun w' h => ld26 (h.2.cells HAD.out).d)) (by assumption) ?_
    try simp only [Act.put, List.setIfInBounds_toArray, List.set_cons_zero, List.set_cons_succ]
    refine wpAnyH_ready (rs := [24, 25]) (by kernel_rfl) (by simp) ?_
    refine AllReadyH.cons (by simp only [List.getElem?_toArray, List.getElem?_cons_succ, List.getElem?_cons_zero]; rfl) (fun K hK => ?_) (AllReadyH.cons (by simp only [List.getElem?_toArray, List.getElem?_cons_succ, List.getElem?_cons_zero]; rfl) (fun K hK => ?_) AllReadyH.nil)
    · go_simp
      refine (own_any ad p.d _ capd _ rfl (by exact (HD.out.on HA.out).of.2.2.2)).mono ?_
      rintro E wa ⟨v3, rfl, ho3, hn3, haw3, hb3, hl3⟩
      have HG3 : Hid (Bag w4 wa v3 p.d) := ⟨ho3, hn3, haw3⟩
      clear ho3 hn3 haw3 hb3 hl3
      go_wp2_with fail
      refine hK.out _ _ ⟨HB.out.on HG3.out.a, HB2.out.on HG3.out.a⟩ (fun hHeld => ?_)
      clear hK K
      try simp only [Act.put, List.setIfInBounds_toArray, List.set_cons_zero, List.set_cons_succ]
      refine wpAnyH_ready (rs := [25]) (by kernel_rfl) (by simp) ?_
      refine AllReadyH.cons (by simp only [List.getElem?_toArray, List.getElem?_cons_succ, List.getElem?_cons_zero]; rfl) (fun K hK => ?_) AllReadyH.nil
      have HG4 : Hid (Bag w4 (wa.alloc (.cells ([167, 168].map (Value.int .u8)).toArray 5)) v3 p.d) := HG3.out.on ((Away.refl [] wa).alloc _)
      have HRL : Hid (Row (wa.alloc (.cells ([167, 168].map (Value.int .u8)).toArray 5)) (some ⟨wa.heap.size, 0, none⟩) [167, 168]) := Row.lit wa _ HM2.out (by simp)
      obtain ⟨gl, hgl⟩ : ∃ gl, gl = wa.heap.size := ⟨_, rfl⟩
      obtain ⟨wb, hwb⟩ : ∃ wb, wb = wa.alloc (.cells ([167, 168].map (Value.int .u8)).toArray 5) := ⟨_, rfl⟩
      go_simp
      refine hK.out _ _ ⟨HB.out.on HG4.out.a, HB2.out.on HG4.out.a⟩ (fun hHeld => ?_)
      clear hK K
      try simp only [Act.put, List.setIfInBounds_toArray, List.set_cons_zero, List.set_cons_succ]
      rw [← hgl] at HRL ⊢
      rw [← hwb] at HG4 HRL
      simp only [List.map_cons, List.map_nil] at hwb
      rw [← hwb]
      clear hwb hgl HG3
      refine wpAnyH_ready (rs := [26]) (by kernel_rfl) (by simp) ?_
      refine AllReadyH.cons (by simp only [List.getElem?_toArray, List.getElem?_cons_succ, List.getElem?_cons_zero]; rfl) (fun K hK => ?_) AllReadyH.nil
      refine step_appW rfl (.tmp 37) (.tmp 38) rfl v3 p.d [167, 168] rfl (by exact HG4.out.o) ⟨gl, 0, none⟩ 2 2 rfl rfl (by exact HRL.out.src) (by omega) (fun v5 wy r1 r2 r3 => ?_)
      have HG5 := Lib.hid (HG4.out.app r1 r2 r3)
      clear r1 r2 r3 HG4 HRL
      obtain ⟨g5, cap5, rfl, hc5⟩ := HG5.out.o.some' (by simp)
      refine hK.out _ _ ⟨HB.out.on HG5.out.a, HB2.out.on HG5.out.a⟩ (fun hHeld => ?_)
      clear hK K
      try simp only [Act.put, List.setIfInBounds_toArray, List.set_cons_zero, List.set_cons_succ]
      have hln : (p.d ++ [167, 168]).length = p.d.length + 2 := by simp
      rw [hln] at HG5 ⊢
      clear hln hc5
      refine wpAnyH_ready (rs := [27]) (by kernel_rfl) (by simp) ?_
      refine AllReadyH.cons (by simp only [List.getElem?_toArray, List.getElem?_cons_succ, List.getElem?_cons_zero]; rfl) (fun K hK => ?_) AllReadyH.nil
      have HRV : Hid (Row wy (some ⟨g5, 0, none⟩) (p.d ++ [167, 168])) := HG5.out.o.row' (by simp; omega) HRD.out.2.1
      replace HRD := Lib.hid (HRD.out.on HG5.out.a)
      replace HB := Lib.hid (HB.out.on HG5.out.a)
      replace HB2 := Lib.hid (HB2.out.on HG5.out.a)
      replace HA := Lib.hid (HA.out.on HG5.out.a)

      clear HG5
      go_simp
      refine (same_yes (some ⟨gd, 0, none⟩) (some ⟨g5, 0, none⟩) (p.d ++ [167, 168]) (p.d ++ [167, 168]) (p.d.length + 2) (p.d.length + 2) cad cap5 _ (by simp) (by simp) (by simp) (by simp) (by exact HRD.out) (by exact HRV.out) rfl).mono ?_
      rintro E w5 ⟨rfl, rfl⟩
      go_wp2_with fail
      refine hK.out _ _ ⟨HB.out, HB2.out⟩ (fun hHeld => ?_)
      clear hK K
      try simp only [Act.put, List.setIfInBounds_toArray, List.set_cons_zero, List.set_cons_succ]
      clear HRV
      refine wpAnyH_take (i := 28) (v := ?_) (by simp only [List.getElem?_toArray, List.getElem?_cons_succ, List.getElem?_cons_zero]; rfl) (by kernel_rfl) (by kernel_rfl) (by kernel_rfl) (by exact fun _ _ _ h => h) (Or.inl ⟨by rfl, ?_⟩) (by assumption) ?_
      rotate_left
      · intro wq hSw
        (try dsimp only at hSw)
        go_simp
        all_goals (with_reducible rfl)
      try simp only [Act.put, List.setIfInBounds_toArray, List.set_cons_zero, List.set_cons_succ]
      refine wpAnyH_take (i := 29) (v := ?_) (by simp only [List.getElem?_toArray, List.getElem?_cons_succ, List.getElem?_cons_zero]; rfl) (by kernel_rfl) (by kernel_rfl) (by kernel_rfl) (by exact fun _ _ _ h => h) (Or.inl ⟨by rfl, ?_⟩) (by assumption) ?_
      rotate_left
      · intro wq hSw
        (try dsimp only at hSw)
        go_simp
        all_goals (with_reducible rfl)
      try simp only [Act.put, List.setIfInBounds_toArray, List.set_cons_zero, List.set_cons_succ]
      refine wpAnyH_done (by kernel_rfl) ?_ _
      go_wp2_with fail
      go_ret
      exact ⟨rfl, HA.out⟩
    · have HG2 : Hid (Away [] w4 (w4.alloc (.cells ([167, 168].map (Value.int .u8)).toArray 5))) := (Away.refl [] w4).alloc _
      have HRL0 : Hid (Row (w4.alloc (.cells ([167, 168].map (Value.int .u8)).toArray 5)) (some ⟨w4.heap.size, 0, none⟩) [167, 168]) := Row.lit w4 _ HM2.out (by simp)
      obtain ⟨gl, hgl⟩ : ∃ gl, gl = w4.heap.size := ⟨_, rfl⟩
      obtain ⟨wa, hwa⟩ : ∃ wa, wa = w4.alloc (.cells ([167, 168].map (Value.int .u8)).toArray 5) := ⟨_, rfl⟩
      go_simp
      refine hK.out _ _ ⟨HB.out.on HG2.out, HB2.out.on HG2.out⟩ (fun hHeld => ?_)
      clear hK K
      try simp only [Act.put, List.setIfInBounds_toArray, List.set_cons_zero, List.set_cons_succ]
      rw [← hgl] at HRL0
      rw [← hwa] at HG2 HRL0
      simp only [List.map_cons, List.map_nil] at hwa
      rw [← hwa]
      rw [← hgl]
      clear hwa hgl
      refine wpAnyH_ready (rs := [24]) (by kernel_rfl) (by simp) ?_
      refine AllReadyH.cons (by simp only [List.getElem?_toArray, List.getElem?_cons_succ, List.getElem?_cons_zero]; rfl) (fun K hK => ?_) AllReadyH.nil
      go_simp
      refine (own_any ad p.d _ capd _ rfl (by exact ((HD.out.on HA.out).on HG2.out).of.2.2.2)).mono ?_
      rintro E wb ⟨v3, rfl, ho3, hn3, haw3, hb3, hl3⟩
      have HG4 : Hid (Bag w4 wb v3 p.d) := ⟨ho3, hn3.mono HG2.out.size, HG2.out.on haw3⟩
      have HRL := Lib.hid (HRL0.out.on haw3)
      clear ho3 hn3 haw3 hb3 hl3 HRL0 HG2
      go_wp2_with fail
      refine hK.out _ _ ⟨HB.out.on HG4.out.a, HB2.out.on HG4.out.a⟩ (fun hHeld => ?_)
      clear hK K
      try simp only [Act.put, List.setIfInBounds_toArray, List.set_cons_zero, List.set_cons_succ]
      refine wpAnyH_ready (rs := [26]) (by kernel_rfl) (by simp) ?_
      refine AllReadyH.cons (by simp only [List.getElem?_toArray, List.getElem?_cons_succ, List.getElem?_cons_zero]; rfl) (fun K hK => ?_) AllReadyH.nil
      refine step_appW rfl (.tmp 37) (.tmp 38) rfl v3 p.d [167, 168] rfl (by exact HG4.out.o) ⟨gl, 0, none⟩ 2 2 rfl rfl (by exact HRL.out.src) (by omega) (fun v5 wy r1 r2 r3 => ?_)
      have HG5 := Lib.hid (HG4.out.app r1 r2 r3)
      clear r1 r2 r3 HG4 HRL
      obtain ⟨g5, cap5, rfl, hc5⟩ := HG5.out.o.some' (by simp)
      refine hK.out _ _ ⟨HB.out.on HG5.out.a, HB2.out.on HG5.out.a⟩ (fun hHeld => ?_)
      clear hK K
      try simp only [Act.put, List.setIfInBounds_toArray, List.set_cons_zero, List.set_cons_succ]
      have hln : (p.d ++ [167, 168]).length = p.d.length + 2 := by simp
      rw [hln] at HG5 ⊢
      clear hln hc5
      refine wpAnyH_ready (rs := [27]) (by kernel_rfl) (by simp) ?_
      refine AllReadyH.cons (by simp only [List.getElem?_toArray, List.getElem?_cons_succ, List.getElem?_cons_zero]; rfl) (fun K hK => ?_) AllReadyH.nil
      have HRV : Hid (Row wy (some ⟨g5, 0, none⟩) (p.d ++ [167, 168])) := HG5.out.o.row' (by simp; omega) HRD.out.2.1
      replace HRD := Lib.hid (HRD.out.on HG5.out.a)
      replace HB := Lib.hid (HB.out.on HG5.out.a)
      replace HB2 := Lib.hid (HB2.out.on HG5.out.a)
      replace HA := Lib.hid (HA.out.on HG5.out.a)

      clear HG5
      go_simp
      refine (same_yes (some ⟨gd, 0, none⟩) (some ⟨g5, 0, none⟩) (p.d ++ [167, 168]) (p.d ++ [167, 168]) (p.d.length + 2) (p.d.length + 2) cad cap5 _ (by simp) (by simp) (by simp) (by simp) (by exact HRD.out) (by exact HRV.out) rfl).mono ?_
      rintro E w5 ⟨rfl, rfl⟩
      go_wp2_with fail
      refine hK.out _ _ ⟨HB.out, HB2.out⟩ (fun hHeld => ?_)
      clear hK K
      try simp only [Act.put, List.setIfInBounds_toArray, List.set_cons_zero, List.set_cons_succ]
      clear HRV
      refine wpAnyH_take (i := 28) (v := ?_) (by simp only [List.getElem?_toArray, List.getElem?_cons_succ, List.getElem?_cons_zero]; rfl) (by kernel_rfl) (by kernel_rfl) (by kernel_rfl) (by exact fun _ _ _ h => h) (Or.inl ⟨by rfl, ?_⟩) (by assumption) ?_
      rotate_left
      · intro wq hSw
        (try dsimp only at hSw)
        go_simp
        all_goals (with_reducible rfl)
      try simp only [Act.put, List.setIfInBounds_toArray, List.set_cons_zero, List.set_cons_succ]
      refine wpAnyH_take (i := 29) (v := ?_) (by simp only [List.getElem?_toArray, List.getElem?_cons_succ, List.getElem?_cons_zero]; rfl) (by kernel_rfl) (by kernel_rfl) (by kernel_rfl) (by exact fun _ _ _ h => h) (Or.inl ⟨by rfl, ?_⟩) (by assumption) ?_
      rotate_left
      · intro wq hSw
        (try dsimp only at hSw)
        go_simp
        all_goals (with_reducible rfl)
      try simp only [Act.put, List.setIfInBounds_toArray, List.set_cons_zero, List.set_cons_succ]
      refine wpAnyH_done (by kernel_rfl) ?_ _
      go_wp2_with fail
      go_ret
      exact ⟨rfl, HA.out⟩
#print axioms kept_c
end Go.Proofs.YtbnnfbfmomafnaaDoor.U5
