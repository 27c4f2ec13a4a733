/-
  lent: a packet whose lists lie in new memory, with spare room that is marked.
-/
import Derived.Test.YtbnnfbfmomafnaaDoorUntil
namespace Go.Proofs.YtbnnfbfmomafnaaDoor.U5
open Go.ChangeShapes Go.WideShapes Go.ChangeAt Go.RowKit Go.Deep Num
set_option linter.unusedVariables false
set_option maxHeartbeats 4000000
set_option maxRecDepth 100000

/-- Lent: l, with m in its spare room, in a block not below B. -/
def Lent (B : Nat) (w : World) (v : Value) (l m : List Int) : Prop := ∃ g cap, v = .slice (some ⟨g, 0, none⟩) l.length cap ∧ l.length + m.length ≤ cap ∧ Owns w (.slice (some ⟨g, 0, none⟩) (l.length + m.length) cap) (l ++ m) ∧ B ≤ g
theorem Lent.away {B : Nat} {w w' : World} {v : Value} {l m : List Int} {S : List Nat} (h : Lent B w v l m) (hw : Away S w w') (hS : ∀ x ∈ S, x < B) : Lent B w' v l m := by
  obtain ⟨g, cap, rfl, h1, h2, h3⟩ := h
  refine ⟨g, cap, rfl, h1, h2.away hw (fun k hk hx => ?_), h3⟩
  simp [Value.ownBlock] at hk
  have := hS _ hx
  omega
theorem Lent.mono {B C : Nat} {w : World} {v : Value} {l m : List Int} (h : Lent B w v l m) (hc : C ≤ B) : Lent C w v l m := by
  obtain ⟨g, cap, rfl, h1, h2, h3⟩ := h
  exact ⟨g, cap, rfl, h1, h2, by omega⟩
theorem Lent.one {B : Nat} {w : World} {v : Value} {l m : List Int} (h : Lent B w v l m) : v.oneCell' = true := by obtain ⟨_, _, rfl, _⟩ := h; rfl
theorem step_store26 {ops : Array Oper} {o : Oper} {a : Act} {w : World} {K : Act → World → Prop} {Q : Exit → Act → World → Prop} {E : Prop} (hg : o.guard = none) (s r : Nat)
    (ho : o.op = .store 26 (.tmp s) (.tmp r)) (g i : Nat) (hx : a.tmps[s]?.getD undef = .pointer (some ⟨g, i, none⟩)) (b : Option Addr) (n c : Nat) (hy : a.tmps[r]?.getD undef = .slice b n c) (u : Value) (hc : w.cell? ⟨g, i, none⟩ = some u) (hf : w.frozen? ⟨g, i, none⟩ = false)
    (hK : K (a.put o.dst undef) (w.setCell ⟨g, i, none⟩ (.slice b n c))) :
    if Region.wanted o (yielded ops a.tmps) = true then Oper.wp Tryd.prog o a w K Q else E := by
  have hw : Region.wanted o (yielded ops a.tmps) = true := by simp [Region.wanted, hg]
  rw [if_pos hw]
  obtain ⟨d, op, ty, ps, af, gd⟩ := o
  simp only at ho
  subst ho
  go_simp
  exact hK
theorem lent_c (p : Pk) (ov dv : Value) (w : World) (hp : Pkt w p ov dv) (hol : p.o.length ≤ 140737488355326) (hdl : p.d.length ≤ 140737488355326) :
    Calls Tryd.prog 25 #[.agg (csP p ov dv)] w fun E w' => ∃ ou du, E = .returned (.agg (csP p ou du)) ∧ Lent w.heap.size w' ou p.o [165, 166] ∧ Lent w.heap.size w' du p.d [167, 168] ∧ Away [] w w' := by
  have ha := hp.wf.ad
  have HAD : Hid (Ad p) := ha
  have HM1 : Hid (Bytes [165, 166]) := bytes2 (by omega) (by omega)
  have HM2 : Hid (Bytes [167, 168]) := bytes2 (by omega) (by omega)
  obtain ⟨hwf, ho, hd0⟩ := hp
  have HO : Hid (Sl w ov p.o) := ho
  have HD : Hid (Sl w dv p.d) := hd0
  obtain ⟨ao, capo, rfl, -⟩ := ho
  obtain ⟨ad, capd, rfl, -⟩ := hd0
  clear hwf ha
  go_enter Tryd.func25, Tryd.ntmps25
  go_wp2_with (first | (refine wpList_box28 rfl _ rfl p _ _ rfl ?_; refine Hid.out ?_) | (refine wpList_alloc28 rfl rfl ?_; refine Hid.out ?_))
  refine Lib.hid ?_
  intro g1 w1 hg1 hb1 haw1
  have HB := Lib.hid hb1; have HA := Lib.hid haw1
  clear hb1 haw1
  go_wp2_with (first | (refine wpList_box28 rfl _ rfl p _ _ rfl ?_; refine Hid.out ?_) | (refine wpList_alloc28 rfl rfl ?_; refine Hid.out ?_))
  refine Lib.hid ?_
  intro g2 w2 hg2 hb2 haw2
  have HB2 := Lib.hid hb2
  have hl1 := HB.out.lt
  have hs1 := HA.out.size
  replace HB := Lib.hid (HB.out.on haw2); replace HA := Lib.hid (HA.out.on haw2)
  have hl2 := hb2.lt
  have hs2 := haw2.size
  clear hb2 haw2
  have HSZ : Hid (w.heap.size ≤ w2.heap.size ∧ g1 < w2.heap.size ∧ g2 < w2.heap.size ∧ w.heap.size ≤ g1 ∧ w.heap.size ≤ g2 ∧ g1 ≠ g2) := ⟨by omega, by omega, by omega, by omega, by omega, by omega⟩
  clear hg1 hg2 hl1 hs1 hl2 hs2
  obtain ⟨B, hB⟩ : ∃ B, B = w2.heap.size := ⟨_, rfl⟩
  rw [← hB] at HSZ
  have HW : Hid (B ≤ w2.heap.size) := Nat.le_of_eq hB
  clear hB
  go_wp2_with fail
  have hS : w2.drew.cell? ⟨g1, 44, none⟩ = some (.slice ao p.o.length capo) := (HB.out.cells HAD.out).o
  refine wp_region_U 10 (fun w' => w'.cell? ⟨g1, 44, none⟩ = some (.slice ao p.o.length capo)) (by kernel_rfl) ?_
  refine wpAnyU_take (i := 0) (v := ?_) (by simp only [List.getElem?_toArray, List.getElem?_cons_zero]; rfl) (by kernel_rfl) (by kernel_rfl) (by kernel_rfl) (by decide) (by kernel_rfl) (by kernel_rfl) (by exact fun _ _ _ h => h) (Or.inl ⟨by rfl, ?_⟩) (by exact hS) ?_
  rotate_left
  · intro wq hSw
    (try dsimp only at hSw)
    go_simp
    all_goals (with_reducible rfl)
  try simp only [Act.put, List.setIfInBounds_toArray, List.set_cons_zero, List.set_cons_succ]
  refine wpAnyU_take (i := 1) (v := ?_) (by simp only [List.getElem?_toArray, List.getElem?_cons_succ, List.getElem?_cons_zero]; rfl) (by kernel_rfl) (by kernel_rfl) (by kernel_rfl) (by decide) (by kernel_rfl) (by kernel_rfl) (by exact fun _ _ _ h => h) (Or.inl ⟨by rfl, ?_⟩) (by exact hS) ?_
  rotate_left
  · intro wq hSw
    (try dsimp only at hSw)
    go_simp
    all_goals (with_reducible rfl)
  try simp only [Act.put, List.setIfInBounds_toArray, List.set_cons_zero, List.set_cons_succ]
  refine wpAnyU_take (i := 5) (v := ?_) (by simp only [List.getElem?_toArray, List.getElem?_cons_succ, List.getElem?_cons_zero]; rfl) (by kernel_rfl) (by kernel_rfl) (by kernel_rfl) (by decide) (by kernel_rfl) (by kernel_rfl) (by exact fun _ _ _ h => h) (Or.inl ⟨by rfl, ?_⟩) (by exact hS) ?_
  rotate_left
  · intro wq hSw
    (try dsimp only at hSw)
    go_simp
    all_goals (with_reducible rfl)
  try simp only [Act.put, List.setIfInBounds_toArray, List.set_cons_zero, List.set_cons_succ]
  refine wpAnyU_take (i := 6) (v := ?_) (by simp only [List.getElem?_toArray, List.getElem?_cons_succ, List.getElem?_cons_zero]; rfl) (by kernel_rfl) (by kernel_rfl) (by kernel_rfl) (by decide) (by kernel_rfl) (by kernel_rfl) (by exact fun _ _ _ h => h) (Or.inl ⟨by rfl, ?_⟩) (by exact hS) ?_
  rotate_left
  · intro wq hSw
    (try dsimp only at hSw)
    go_simp
    all_goals (with_reducible rfl)
  try simp only [Act.put, List.setIfInBounds_toArray, List.set_cons_zero, List.set_cons_succ]
  refine wpAnyU_take (i := 7) (v := ?_) (by simp only [List.getElem?_toArray, List.getElem?_cons_succ, List.getElem?_cons_zero]; rfl) (by kernel_rfl) (by kernel_rfl) (by kernel_rfl) (by decide) (by kernel_rfl) (by kernel_rfl) (by exact fun _ _ _ h => h) (Or.inl ⟨by rfl, ?_⟩) (by exact hS) ?_
  rotate_left
  · intro wq hSw
    (try dsimp only at hSw)
    go_simp
    all_goals (with_reducible rfl)
  try simp only [Act.put, List.setIfInBounds_toArray, List.set_cons_zero, List.set_cons_succ]
  have HDR : Hid (Away [] w2 w2.drew) := (Away.refl [] w2).drew
  refine wpAnyU_ready (rs := [2, 3]) (by kernel_rfl) (by simp) ?_
  refine ReadyU.cons (by simp only [List.getElem?_toArray, List.getElem?_cons_succ, List.getElem?_cons_zero]; rfl) (fun K hK => ?_) (ReadyU.cons (by simp only [List.getElem?_toArray, List.getElem?_cons_succ, List.getElem?_cons_zero]; rfl) (fun K hK => ?_) ReadyU.nil)
  · go_simp
    refine (own_any ao p.o _ capo _ rfl (by exact ((HO.out.on HA.out).on HDR.out).of.2.2.2)).mono ?_
    rintro E wa ⟨v3, rfl, ho3, hn3, haw3, hb3, hl3⟩
    have HG3 : Hid (Bag w2 wa v3 p.o) := ⟨ho3, hn3, HDR.out.on haw3⟩
    clear ho3 hn3 haw3 hb3 hl3
    have c3 := ((HB.out.on HG3.out.a).cells HAD.out).o
    go_wp2_with fail
    refine hK.out _ _ (fun _ => c3) ?_
    clear hK K
    try simp only [Act.put, List.setIfInBounds_toArray, List.set_cons_zero, List.set_cons_succ]
    refine wpAnyU_ready (rs := [3]) (by kernel_rfl) (by simp) ?_
    refine ReadyU.cons (by simp only [List.getElem?_toArray, List.getElem?_cons_succ, List.getElem?_cons_zero]; rfl) (fun K hK => ?_) ReadyU.nil
    have HG4 : Hid (Bag w2 (wa.alloc (.cells ([165, 166].map (Value.int .u8)).toArray 5)) v3 p.o) := HG3.out.on ((Away.refl [] wa).alloc _)
    have HRL : Hid (Row (wa.alloc (.cells ([165, 166].map (Value.int .u8)).toArray 5)) (some ⟨wa.heap.size, 0, none⟩) [165, 166]) := Row.lit wa _ HM1.out (by simp)
    obtain ⟨gl, hgl⟩ : ∃ gl, gl = wa.heap.size := ⟨_, rfl⟩
    obtain ⟨wb, hwb⟩ : ∃ wb, wb = wa.alloc (.cells ([165, 166].map (Value.int .u8)).toArray 5) := ⟨_, rfl⟩
    go_simp
    refine hK.out _ _ (fun _ => by exact ((HB.out.on HG4.out.a).cells HAD.out).o) ?_
    clear hK K
    try simp only [Act.put, List.setIfInBounds_toArray, List.set_cons_zero, List.set_cons_succ]
    rw [← hgl] at HRL ⊢
    rw [← hwb] at HG4 HRL
    simp only [List.map_cons, List.map_nil] at hwb
    rw [← hwb]
    clear hwb hgl HG3 c3
    refine wpAnyU_ready (rs := [4]) (by kernel_rfl) (by simp) ?_
    refine ReadyU.cons (by simp only [List.getElem?_toArray, List.getElem?_cons_succ, List.getElem?_cons_zero]; rfl) (fun K hK => ?_) ReadyU.nil
    refine step_app rfl (.tmp 5) (.tmp 6) rfl v3 p.o [165, 166] rfl (by exact HG4.out.o) ⟨gl, 0, none⟩ 2 2 rfl rfl (by exact HRL.out.src) (by omega) (fun v5 w5 r1 r2 r3 => ?_)
    have HG5 := Lib.hid (HG4.out.app r1 r2 r3)
    clear r1 r2 r3 HG4 HRL
    obtain ⟨go, capx, rfl, hc5⟩ := HG5.out.o.some' (by simp)
    have c5 := ((HB.out.on HG5.out.a).cells HAD.out).o
    refine hK.out _ _ (fun _ => c5) ?_
    clear hK K
    try simp only [Act.put, List.setIfInBounds_toArray, List.set_cons_zero, List.set_cons_succ]
    have hcl : p.o.length + 2 ≤ capx := by simpa using hc5
    have hln : (p.o ++ [165, 166]).length = p.o.length + 2 := by simp
    rw [hln] at HG5 ⊢
    clear hc5 hln
    have sl := slice_h (some ⟨go, 0, none⟩) (p.o.length + 2) capx p.o.length (p.o.length : Int) rfl (by omega)
    refine wpAnyU_take (i := 8) (v := ?_) (by simp only [List.getElem?_toArray, List.getElem?_cons_succ, List.getElem?_cons_zero]; rfl) (by kernel_rfl) (by kernel_rfl) (by kernel_rfl) (by decide) (by kernel_rfl) (by kernel_rfl) (by exact fun _ _ _ h => h) (Or.inl ⟨by rfl, ?_⟩) (by exact c5) ?_
    rotate_left
    · intro wq hSw
      (try dsimp only at hSw)
      go_simp
      all_goals (with_reducible rfl)
    try simp only [Act.put, List.setIfInBounds_toArray, List.set_cons_zero, List.set_cons_succ]
    refine wpAnyU_take (i := 9) (v := ?_) (by simp only [List.getElem?_toArray, List.getElem?_cons_succ, List.getElem?_cons_zero]; rfl) (by kernel_rfl) (by kernel_rfl) (by kernel_rfl) (by decide) (by kernel_rfl) (by kernel_rfl) (by exact fun _ _ _ h => h) (Or.inl ⟨by rfl, ?_⟩) (by exact c5) ?_
    rotate_left
    · intro wq hSw
      (try dsimp only at hSw)
      go_simp
      all_goals (with_reducible rfl)
    try simp only [Act.put, List.setIfInBounds_toArray, List.set_cons_zero, List.set_cons_succ]
    refine wpAnyU_ready (rs := [10]) (by kernel_rfl) (by simp) ?_
    refine ReadyU.cons (by simp only [List.getElem?_toArray, List.getElem?_cons_succ, List.getElem?_cons_zero]; rfl) (fun K hK => ?_) ReadyU.nil
    have hfr := (HB.out.on HG5.out.a).free 44
    have HBN : Hid (BoxP (w5.setCell ⟨g1, 44, none⟩ (.slice (some ⟨go, 0, none⟩) p.o.length capx)) g1 p (.slice (some ⟨go, 0, none⟩) p.o.length capx) (.slice ad p.d.length capd)) := (HB.out.on HG5.out.a).put 44 _ ((csP_set HAD.out _ _).2.2.2.2.2.2.2.2.2.2.2.2.1 p.o _)
    have hAW : Away [g1] w5 (w5.setCell ⟨g1, 44, none⟩ (.slice (some ⟨go, 0, none⟩) p.o.length capx)) := away_put 44 _
    have hgo : w2.heap.size ≤ go := HG5.out.n go rfl
    have HB2N : Hid (BoxP (w5.setCell ⟨g1, 44, none⟩ (.slice (some ⟨go, 0, none⟩) p.o.length capx)) g2 zeroPk (.slice none 0 0) (.slice none 0 0)) := (HB2.out.on HG5.out.a).away hAW (by simp; exact fun h => HSZ.out.2.2.2.2.2 h.symm)
    have HAN : Hid (Away [] w (w5.setCell ⟨g1, 44, none⟩ (.slice (some ⟨go, 0, none⟩) p.o.length capx))) := (HA.out.on HG5.out.a).next hAW (fun x hx => .inr (by simp at hx; rw [hx]; exact HSZ.out.2.2.2.1))
    have HLN1 : Hid (Lent B (w5.setCell ⟨g1, 44, none⟩ (.slice (some ⟨go, 0, none⟩) p.o.length capx)) (.slice (some ⟨go, 0, none⟩) p.o.length capx) p.o [165, 166]) := Lent.away (w := w5) ⟨go, capx, rfl, hcl, HG5.out.o, by have := HW.out; omega⟩ hAW (by simp; exact HSZ.out.2.1)
    have HWN : Hid (B ≤ (w5.setCell ⟨g1, 44, none⟩ (.slice (some ⟨go, 0, none⟩) p.o.length capx)).heap.size) := by have h1 := HW.out; have h2 := HG5.out.a.size; have h3 := hAW.size; exact Lib.hid (by omega)
    refine step_store26 rfl 12 11 rfl g1 44 rfl _ _ _ rfl _ c5 hfr (hK.out _ _ (by intro h; simp at h) ?_)
    clear hK K
    try simp only [Act.put]
    refine wpAnyU_done (by kernel_rfl) ?_ _
    generalize w5.setCell ⟨g1, 44, none⟩ (.slice (some ⟨go, 0, none⟩) p.o.length capx) = w3 at *
    clear HB HB2 HA HW HDR hS c5 hAW sl hfr HG5 
    have HB := HBN; have HB2 := HB2N; have HA := HAN; have HW := HWN
    clear HBN HB2N HAN HWN
    clear hcl hgo
    go_wp2_with fail
    have hS : w3.drew.cell? ⟨g1, 45, none⟩ = some (.slice ad p.d.length capd) := (HB.out.cells HAD.out).d
    refine wp_region_U 10 (fun w' => w'.cell? ⟨g1, 45, none⟩ = some (.slice ad p.d.length capd)) (by kernel_rfl) ?_
    refine wpAnyU_take (i := 0) (v := ?_) (by simp only [List.getElem?_toArray, List.getElem?_cons_zero]; rfl) (by kernel_rfl) (by kernel_rfl) (by kernel_rfl) (by decide) (by kernel_rfl) (by kernel_rfl) (by exact fun _ _ _ h => h) (Or.inl ⟨by rfl, ?_⟩) (by exact hS) ?_
    rotate_left
    · intro wq hSw
      (try dsimp only at hSw)
      go_simp
      all_goals (with_reducible rfl)
    try simp only [Act.put, List.setIfInBounds_toArray, List.set_cons_zero, List.set_cons_succ]
    refine wpAnyU_take (i := 1) (v := ?_) (by simp only [List.getElem?_toArray, List.getElem?_cons_succ, List.getElem?_cons_zero]; rfl) (by kernel_rfl) (by kernel_rfl) (by kernel_rfl) (by decide) (by kernel_rfl) (by kernel_rfl) (by exact fun _ _ _ h => h) (Or.inl ⟨by rfl, ?_⟩) (by exact hS) ?_
    rotate_left
    · intro wq hSw
      (try dsimp only at hSw)
      go_simp
      all_goals (with_reducible rfl)
    try simp only [Act.put, List.setIfInBounds_toArray, List.set_cons_zero, List.set_cons_succ]
    refine wpAnyU_take (i := 5) (v := ?_) (by simp only [List.getElem?_toArray, List.getElem?_cons_succ, List.getElem?_cons_zero]; rfl) (by kernel_rfl) (by kernel_rfl) (by kernel_rfl) (by decide) (by kernel_rfl) (by kernel_rfl) (by exact fun _ _ _ h => h) (Or.inl ⟨by rfl, ?_⟩) (by exact hS) ?_
    rotate_left
    · intro wq hSw
      (try dsimp only at hSw)
      go_simp
      all_goals (with_reducible rfl)
    try simp only [Act.put, List.setIfInBounds_toArray, List.set_cons_zero, List.set_cons_succ]
    refine wpAnyU_take (i := 6) (v := ?_) (by simp only [List.getElem?_toArray, List.getElem?_cons_succ, List.getElem?_cons_zero]; rfl) (by kernel_rfl) (by kernel_rfl) (by kernel_rfl) (by decide) (by kernel_rfl) (by kernel_rfl) (by exact fun _ _ _ h => h) (Or.inl ⟨by rfl, ?_⟩) (by exact hS) ?_
    rotate_left
    · intro wq hSw
      (try dsimp only at hSw)
      go_simp
      all_goals (with_reducible rfl)
    try simp only [Act.put, List.setIfInBounds_toArray, List.set_cons_zero, List.set_cons_succ]
    refine wpAnyU_take (i := 7) (v := ?_) (by simp only [List.getElem?_toArray, List.getElem?_cons_succ, List.getElem?_cons_zero]; rfl) (by kernel_rfl) (by kernel_rfl) (by kernel_rfl) (by decide) (by kernel_rfl) (by kernel_rfl) (by exact fun _ _ _ h => h) (Or.inl ⟨by rfl, ?_⟩) (by exact hS) ?_
    rotate_left
    · intro wq hSw
      (try dsimp only at hSw)
      go_simp
      all_goals (with_reducible rfl)
    try simp only [Act.put, List.setIfInBounds_toArray, List.set_cons_zero, List.set_cons_succ]
    have HDR : Hid (Away [] w3 w3.drew) := (Away.refl [] w3).drew
    refine wpAnyU_ready (rs := [2, 3]) (by kernel_rfl) (by simp) ?_
    refine ReadyU.cons (by simp only [List.getElem?_toArray, List.getElem?_cons_succ, List.getElem?_cons_zero]; rfl) (fun K hK => ?_) (ReadyU.cons (by simp only [List.getElem?_toArray, List.getElem?_cons_succ, List.getElem?_cons_zero]; rfl) (fun K hK => ?_) ReadyU.nil)
    · go_simp
      refine (own_any ad p.d _ capd _ rfl (by exact ((HD.out.on HA.out).on HDR.out).of.2.2.2)).mono ?_
      rintro E wa ⟨v3, rfl, ho3, hn3, haw3, hb3, hl3⟩
      have HG3 : Hid (Bag w3 wa v3 p.d) := ⟨ho3, hn3, HDR.out.on haw3⟩
      clear ho3 hn3 haw3 hb3 hl3
      have c3 := ((HB.out.on HG3.out.a).cells HAD.out).d
      go_wp2_with fail
      refine hK.out _ _ (fun _ => c3) ?_
      clear hK K
      try simp only [Act.put, List.setIfInBounds_toArray, List.set_cons_zero, List.set_cons_succ]
      refine wpAnyU_ready (rs := [3]) (by kernel_rfl) (by simp) ?_
      refine ReadyU.cons (by simp only [List.getElem?_toArray, List.getElem?_cons_succ, List.getElem?_cons_zero]; rfl) (fun K hK => ?_) ReadyU.nil
      have HG4 : Hid (Bag w3 (wa.alloc (.cells ([167, 168].map (Value.int .u8)).toArray 5)) v3 p.d) := HG3.out.on ((Away.refl [] wa).alloc _)
      have HRL : Hid (Row (wa.alloc (.cells ([167, 168].map (Value.int .u8)).toArray 5)) (some ⟨wa.heap.size, 0, none⟩) [167, 168]) := Row.lit wa _ HM2.out (by simp)
      obtain ⟨gl, hgl⟩ : ∃ gl, gl = wa.heap.size := ⟨_, rfl⟩
      obtain ⟨wb, hwb⟩ : ∃ wb, wb = wa.alloc (.cells ([167, 168].map (Value.int .u8)).toArray 5) := ⟨_, rfl⟩
      go_simp
      refine hK.out _ _ (fun _ => by exact ((HB.out.on HG4.out.a).cells HAD.out).d) ?_
      clear hK K
      try simp only [Act.put, List.setIfInBounds_toArray, List.set_cons_zero, List.set_cons_succ]
      rw [← hgl] at HRL ⊢
      rw [← hwb] at HG4 HRL
      simp only [List.map_cons, List.map_nil] at hwb
      rw [← hwb]
      clear hwb hgl HG3 c3
      refine wpAnyU_ready (rs := [4]) (by kernel_rfl) (by simp) ?_
      refine ReadyU.cons (by simp only [List.getElem?_toArray, List.getElem?_cons_succ, List.getElem?_cons_zero]; rfl) (fun K hK => ?_) ReadyU.nil
      refine step_app rfl (.tmp 15) (.tmp 16) rfl v3 p.d [167, 168] rfl (by exact HG4.out.o) ⟨gl, 0, none⟩ 2 2 rfl rfl (by exact HRL.out.src) (by omega) (fun v5 w5 r1 r2 r3 => ?_)
      have HG5 := Lib.hid (HG4.out.app r1 r2 r3)
      clear r1 r2 r3 HG4 HRL
      obtain ⟨g5, cap5, rfl, hc5⟩ := HG5.out.o.some' (by simp)
      have c5 := ((HB.out.on HG5.out.a).cells HAD.out).d
      refine hK.out _ _ (fun _ => c5) ?_
      clear hK K
      try simp only [Act.put, List.setIfInBounds_toArray, List.set_cons_zero, List.set_cons_succ]
      have hcl : p.d.length + 2 ≤ cap5 := by simpa using hc5
      have hln : (p.d ++ [167, 168]).length = p.d.length + 2 := by simp
      rw [hln] at HG5 ⊢
      clear hc5 hln
      have sl := slice_h (some ⟨g5, 0, none⟩) (p.d.length + 2) cap5 p.d.length (p.d.length : Int) rfl (by omega)
      refine wpAnyU_take (i := 8) (v := ?_) (by simp only [List.getElem?_toArray, List.getElem?_cons_succ, List.getElem?_cons_zero]; rfl) (by kernel_rfl) (by kernel_rfl) (by kernel_rfl) (by decide) (by kernel_rfl) (by kernel_rfl) (by exact fun _ _ _ h => h) (Or.inl ⟨by rfl, ?_⟩) (by exact c5) ?_
      rotate_left
      · intro wq hSw
        (try dsimp only at hSw)
        go_simp
        all_goals (with_reducible rfl)
      try simp only [Act.put, List.setIfInBounds_toArray, List.set_cons_zero, List.set_cons_succ]
      refine wpAnyU_take (i := 9) (v := ?_) (by simp only [List.getElem?_toArray, List.getElem?_cons_succ, List.getElem?_cons_zero]; rfl) (by kernel_rfl) (by kernel_rfl) (by kernel_rfl) (by decide) (by kernel_rfl) (by kernel_rfl) (by exact fun _ _ _ h => h) (Or.inl ⟨by rfl, ?_⟩) (by exact c5) ?_
      rotate_left
      · intro wq hSw
        (try dsimp only at hSw)
        go_simp
        all_goals (with_reducible rfl)
      try simp only [Act.put, List.setIfInBounds_toArray, List.set_cons_zero, List.set_cons_succ]
      refine wpAnyU_ready (rs := [10]) (by kernel_rfl) (by simp) ?_
      refine ReadyU.cons (by simp only [List.getElem?_toArray, List.getElem?_cons_succ, List.getElem?_cons_zero]; rfl) (fun K hK => ?_) ReadyU.nil
      have hfr := (HB.out.on HG5.out.a).free 45
      have HBN : Hid (BoxP (w5.setCell ⟨g1, 45, none⟩ (.slice (some ⟨g5, 0, none⟩) p.d.length cap5)) g1 p (.slice (some ⟨go, 0, none⟩) p.o.length capx) (.slice (some ⟨g5, 0, none⟩) p.d.length cap5)) := (HB.out.on HG5.out.a).put 45 _ ((csP_set HAD.out _ _).2.2.2.2.2.2.2.2.2.2.2.2.2 p.d _)
      have hAW : Away [g1] w5 (w5.setCell ⟨g1, 45, none⟩ (.slice (some ⟨g5, 0, none⟩) p.d.length cap5)) := away_put 45 _
      have hg5 : w3.heap.size ≤ g5 := HG5.out.n g5 rfl
      have HB2N : Hid (BoxP (w5.setCell ⟨g1, 45, none⟩ (.slice (some ⟨g5, 0, none⟩) p.d.length cap5)) g2 zeroPk (.slice none 0 0) (.slice none 0 0)) := (HB2.out.on HG5.out.a).away hAW (by simp; exact fun h => HSZ.out.2.2.2.2.2 h.symm)
      have HAN : Hid (Away [] w (w5.setCell ⟨g1, 45, none⟩ (.slice (some ⟨g5, 0, none⟩) p.d.length cap5))) := (HA.out.on HG5.out.a).next hAW (fun x hx => .inr (by simp at hx; rw [hx]; exact HSZ.out.2.2.2.1))
      have HLN2 : Hid (Lent B (w5.setCell ⟨g1, 45, none⟩ (.slice (some ⟨g5, 0, none⟩) p.d.length cap5)) (.slice (some ⟨g5, 0, none⟩) p.d.length cap5) p.d [167, 168]) := Lent.away (w := w5) ⟨g5, cap5, rfl, hcl, HG5.out.o, by have := HW.out; omega⟩ hAW (by simp; exact HSZ.out.2.1)
      have HLX := Lib.hid ((HLN1.out.away HG5.out.a (by simp)).away hAW (by simp; exact HSZ.out.2.1))
      have HWN : Hid (B ≤ (w5.setCell ⟨g1, 45, none⟩ (.slice (some ⟨g5, 0, none⟩) p.d.length cap5)).heap.size) := by have h1 := HW.out; have h2 := HG5.out.a.size; have h3 := hAW.size; exact Lib.hid (by omega)
      refine step_store26 rfl 22 21 rfl g1 45 rfl _ _ _ rfl _ c5 hfr (hK.out _ _ (by intro h; simp at h) ?_)
      clear hK K
      try simp only [Act.put]
      refine wpAnyU_done (by kernel_rfl) ?_ _
      generalize w5.setCell ⟨g1, 45, none⟩ (.slice (some ⟨g5, 0, none⟩) p.d.length cap5) = w4 at *
      clear HB HB2 HA HW HDR hS c5 hAW sl hfr HG5 HLN1
      have HB := HBN; have HB2 := HB2N; have HA := HAN; have HW := HWN
      clear HBN HB2N HAN HWN
      go_wp2_with (first
        | (refine wpList_load28 rfl _ rfl _ rfl p _ _ (by exact HB.out) HAD.out ?_)
        | (refine wpList_store28 rfl _ _ rfl _ rfl p _ _ rfl zeroPk (.slice none 0 0) (.slice none 0 0) (by exact HB2.out) HAD.out ⟨rfl, rfl⟩ rfl rfl ?_; refine Hid.out ?_))
      refine Lib.hid ?_
      intro w5 hb5 haw5
      have HB5 := Lib.hid hb5
      have HL1 := Lib.hid ((HLX.out.away haw5 (by simp; exact HSZ.out.2.2.1)).mono HSZ.out.1)
      have HL2 := Lib.hid ((HLN2.out.away haw5 (by simp; exact HSZ.out.2.2.1)).mono HSZ.out.1)
      have HA5 := Lib.hid (HA.out.next haw5 (fun x hx => .inr (by simp at hx; rw [hx]; exact HSZ.out.2.2.2.2.1)))
      clear hb5 haw5 HB HB2 HA HLX HLN2
      go_wp2_with fail
      refine bodyPost_ret (result28 rfl _ _ _ _ _ _ rfl HB5.out HAD.out) rfl ⟨_, _, rfl, HL1.out, HL2.out, HA5.out⟩
    · have HG2 : Hid (Away [] w3 (w3.alloc (.cells ([167, 168].map (Value.int .u8)).toArray 5)).drew) := ((Away.refl [] w3).alloc _).drew
      have HRL0 : Hid (Row (w3.alloc (.cells ([167, 168].map (Value.int .u8)).toArray 5)).drew (some ⟨w3.heap.size, 0, none⟩) [167, 168]) := (Row.lit w3 _ HM2.out (by simp)).on (Away.refl [] _).drew
      obtain ⟨gl, hgl⟩ : ∃ gl, gl = w3.heap.size := ⟨_, rfl⟩
      obtain ⟨wa, hwa⟩ : ∃ wa, wa = (w3.alloc (.cells ([167, 168].map (Value.int .u8)).toArray 5)).drew := ⟨_, rfl⟩
      go_simp
      refine hK.out _ _ (fun _ => by exact ((HB.out.on HG2.out).cells HAD.out).d) ?_
      clear hK K
      try simp only [Act.put, List.setIfInBounds_toArray, List.set_cons_zero, List.set_cons_succ]
      rw [← hgl] at HRL0
      rw [← hwa] at HG2 HRL0
      simp only [List.map_cons, List.map_nil] at hwa
      rw [← hwa]
      rw [← hgl]
      clear hwa hgl
      refine wpAnyU_ready (rs := [2]) (by kernel_rfl) (by simp) ?_
      refine ReadyU.cons (by simp only [List.getElem?_toArray, List.getElem?_cons_succ, List.getElem?_cons_zero]; rfl) (fun K hK => ?_) ReadyU.nil
      go_simp
      refine (own_any ad p.d _ capd _ rfl (by exact ((HD.out.on HA.out).on HG2.out).of.2.2.2)).mono ?_
      rintro E wb ⟨v3, rfl, ho3, hn3, haw3, hb3, hl3⟩
      have HG4 : Hid (Bag w3 wb v3 p.d) := ⟨ho3, hn3.mono HG2.out.size, HG2.out.on haw3⟩
      have HRL := Lib.hid (HRL0.out.on haw3)
      clear ho3 hn3 haw3 hb3 hl3 HRL0 HG2
      have c3 := ((HB.out.on HG4.out.a).cells HAD.out).d
      go_wp2_with fail
      refine hK.out _ _ (fun _ => c3) ?_
      clear hK K c3
      try simp only [Act.put, List.setIfInBounds_toArray, List.set_cons_zero, List.set_cons_succ]
      refine wpAnyU_ready (rs := [4]) (by kernel_rfl) (by simp) ?_
      refine ReadyU.cons (by simp only [List.getElem?_toArray, List.getElem?_cons_succ, List.getElem?_cons_zero]; rfl) (fun K hK => ?_) ReadyU.nil
      refine step_app rfl (.tmp 15) (.tmp 16) rfl v3 p.d [167, 168] rfl (by exact HG4.out.o) ⟨gl, 0, none⟩ 2 2 rfl rfl (by exact HRL.out.src) (by omega) (fun v5 w5 r1 r2 r3 => ?_)
      have HG5 := Lib.hid (HG4.out.app r1 r2 r3)
      clear r1 r2 r3 HG4 HRL
      obtain ⟨g5, cap5, rfl, hc5⟩ := HG5.out.o.some' (by simp)
      have c5 := ((HB.out.on HG5.out.a).cells HAD.out).d
      refine hK.out _ _ (fun _ => c5) ?_
      clear hK K
      try simp only [Act.put, List.setIfInBounds_toArray, List.set_cons_zero, List.set_cons_succ]
      have hcl : p.d.length + 2 ≤ cap5 := by simpa using hc5
      have hln : (p.d ++ [167, 168]).length = p.d.length + 2 := by simp
      rw [hln] at HG5 ⊢
      clear hc5 hln
      have sl := slice_h (some ⟨g5, 0, none⟩) (p.d.length + 2) cap5 p.d.length (p.d.length : Int) rfl (by omega)
      refine wpAnyU_take (i := 8) (v := ?_) (by simp only [List.getElem?_toArray, List.getElem?_cons_succ, List.getElem?_cons_zero]; rfl) (by kernel_rfl) (by kernel_rfl) (by kernel_rfl) (by decide) (by kernel_rfl) (by kernel_rfl) (by exact fun _ _ _ h => h) (Or.inl ⟨by rfl, ?_⟩) (by exact c5) ?_
      rotate_left
      · intro wq hSw
        (try dsimp only at hSw)
        go_simp
        all_goals (with_reducible rfl)
      try simp only [Act.put, List.setIfInBounds_toArray, List.set_cons_zero, List.set_cons_succ]
      refine wpAnyU_take (i := 9) (v := ?_) (by simp only [List.getElem?_toArray, List.getElem?_cons_succ, List.getElem?_cons_zero]; rfl) (by kernel_rfl) (by kernel_rfl) (by kernel_rfl) (by decide) (by kernel_rfl) (by kernel_rfl) (by exact fun _ _ _ h => h) (Or.inl ⟨by rfl, ?_⟩) (by exact c5) ?_
      rotate_left
      · intro wq hSw
        (try dsimp only at hSw)
        go_simp
        all_goals (with_reducible rfl)
      try simp only [Act.put, List.setIfInBounds_toArray, List.set_cons_zero, List.set_cons_succ]
      refine wpAnyU_ready (rs := [10]) (by kernel_rfl) (by simp) ?_
      refine ReadyU.cons (by simp only [List.getElem?_toArray, List.getElem?_cons_succ, List.getElem?_cons_zero]; rfl) (fun K hK => ?_) ReadyU.nil
      have hfr := (HB.out.on HG5.out.a).free 45
      have HBN : Hid (BoxP (w5.setCell ⟨g1, 45, none⟩ (.slice (some ⟨g5, 0, none⟩) p.d.length cap5)) g1 p (.slice (some ⟨go, 0, none⟩) p.o.length capx) (.slice (some ⟨g5, 0, none⟩) p.d.length cap5)) := (HB.out.on HG5.out.a).put 45 _ ((csP_set HAD.out _ _).2.2.2.2.2.2.2.2.2.2.2.2.2 p.d _)
      have hAW : Away [g1] w5 (w5.setCell ⟨g1, 45, none⟩ (.slice (some ⟨g5, 0, none⟩) p.d.length cap5)) := away_put 45 _
      have hg5 : w3.heap.size ≤ g5 := HG5.out.n g5 rfl
      have HB2N : Hid (BoxP (w5.setCell ⟨g1, 45, none⟩ (.slice (some ⟨g5, 0, none⟩) p.d.length cap5)) g2 zeroPk (.slice none 0 0) (.slice none 0 0)) := (HB2.out.on HG5.out.a).away hAW (by simp; exact fun h => HSZ.out.2.2.2.2.2 h.symm)
      have HAN : Hid (Away [] w (w5.setCell ⟨g1, 45, none⟩ (.slice (some ⟨g5, 0, none⟩) p.d.length cap5))) := (HA.out.on HG5.out.a).next hAW (fun x hx => .inr (by simp at hx; rw [hx]; exact HSZ.out.2.2.2.1))
      have HLN2 : Hid (Lent B (w5.setCell ⟨g1, 45, none⟩ (.slice (some ⟨g5, 0, none⟩) p.d.length cap5)) (.slice (some ⟨g5, 0, none⟩) p.d.length cap5) p.d [167, 168]) := Lent.away (w := w5) ⟨g5, cap5, rfl, hcl, HG5.out.o, by have := HW.out; omega⟩ hAW (by simp; exact HSZ.out.2.1)
      have HLX := Lib.hid ((HLN1.out.away HG5.out.a (by simp)).away hAW (by simp; exact HSZ.out.2.1))
      have HWN : Hid (B ≤ (w5.setCell ⟨g1, 45, none⟩ (.slice (some ⟨g5, 0, none⟩) p.d.length cap5)).heap.size) := by have h1 := HW.out; have h2 := HG5.out.a.size; have h3 := hAW.size; exact Lib.hid (by omega)
      refine step_store26 rfl 22 21 rfl g1 45 rfl _ _ _ rfl _ c5 hfr (hK.out _ _ (by intro h; simp at h) ?_)
      clear hK K
      try simp only [Act.put]
      refine wpAnyU_done (by kernel_rfl) ?_ _
      generalize w5.setCell ⟨g1, 45, none⟩ (.slice (some ⟨g5, 0, none⟩) p.d.length cap5) = w4 at *
      clear HB HB2 HA HW HDR hS c5 hAW sl hfr HG5 HLN1
      have HB := HBN; have HB2 := HB2N; have HA := HAN; have HW := HWN
      clear HBN HB2N HAN HWN
      go_wp2_with (first
        | (refine wpList_load28 rfl _ rfl _ rfl p _ _ (by exact HB.out) HAD.out ?_)
        | (refine wpList_store28 rfl _ _ rfl _ rfl p _ _ rfl zeroPk (.slice none 0 0) (.slice none 0 0) (by exact HB2.out) HAD.out ⟨rfl, rfl⟩ rfl rfl ?_; refine Hid.out ?_))
      refine Lib.hid ?_
      intro w5 hb5 haw5
      have HB5 := Lib.hid hb5
      have HL1 := Lib.hid ((HLX.out.away haw5 (by simp; exact HSZ.out.2.2.1)).mono HSZ.out.1)
      have HL2 := Lib.hid ((HLN2.out.away haw5 (by simp; exact HSZ.out.2.2.1)).mono HSZ.out.1)
      have HA5 := Lib.hid (HA.out.next haw5 (fun x hx => .inr (by simp at hx; rw [hx]; exact HSZ.out.2.2.2.2.1)))
      clear hb5 haw5 HB HB2 HA HLX HLN2
      go_wp2_with fail
      refine bodyPost_ret (result28 rfl _ _ _ _ _ _ rfl HB5.out HAD.out) rfl ⟨_, _, rfl, HL1.out, HL2.out, HA5.out⟩
  · have HG2 : Hid (Away [] w2 (w2.alloc (.cells ([165, 166].map (Value.int .u8)).toArray 5)).drew) := ((Away.refl [] w2).alloc _).drew
    have HRL0 : Hid (Row (w2.alloc (.cells ([165, 166].map (Value.int .u8)).toArray 5)).drew (some ⟨w2.heap.size, 0, none⟩) [165, 166]) := (Row.lit w2 _ HM1.out (by simp)).on (Away.refl [] _).drew
    obtain ⟨gl, hgl⟩ : ∃ gl, gl = w2.heap.size := ⟨_, rfl⟩
    obtain ⟨wa, hwa⟩ : ∃ wa, wa = (w2.alloc (.cells ([165, 166].map (Value.int .u8)).toArray 5)).drew := ⟨_, rfl⟩
    go_simp
    refine hK.out _ _ (fun _ => by exact ((HB.out.on HG2.out).cells HAD.out).o) ?_
    clear hK K
    try simp only [Act.put, List.setIfInBounds_toArray, List.set_cons_zero, List.set_cons_succ]
    rw [← hgl] at HRL0
    rw [← hwa] at HG2 HRL0
    simp only [List.map_cons, List.map_nil] at hwa
    rw [← hwa]
    rw [← hgl]
    clear hwa hgl
    refine wpAnyU_ready (rs := [2]) (by kernel_rfl) (by simp) ?_
    refine ReadyU.cons (by simp only [List.getElem?_toArray, List.getElem?_cons_succ, List.getElem?_cons_zero]; rfl) (fun K hK => ?_) ReadyU.nil
    go_simp
    refine (own_any ao p.o _ capo _ rfl (by exact ((HO.out.on HA.out).on HG2.out).of.2.2.2)).mono ?_
    rintro E wb ⟨v3, rfl, ho3, hn3, haw3, hb3, hl3⟩
    have HG4 : Hid (Bag w2 wb v3 p.o) := ⟨ho3, hn3.mono HG2.out.size, HG2.out.on haw3⟩
    have HRL := Lib.hid (HRL0.out.on haw3)
    clear ho3 hn3 haw3 hb3 hl3 HRL0 HG2
    have c3 := ((HB.out.on HG4.out.a).cells HAD.out).o
    go_wp2_with fail
    refine hK.out _ _ (fun _ => c3) ?_
    clear hK K c3
    try simp only [Act.put, List.setIfInBounds_toArray, List.set_cons_zero, List.set_cons_succ]
    refine wpAnyU_ready (rs := [4]) (by kernel_rfl) (by simp) ?_
    refine ReadyU.cons (by simp only [List.getElem?_toArray, List.getElem?_cons_succ, List.getElem?_cons_zero]; rfl) (fun K hK => ?_) ReadyU.nil
    refine step_app rfl (.tmp 5) (.tmp 6) rfl v3 p.o [165, 166] rfl (by exact HG4.out.o) ⟨gl, 0, none⟩ 2 2 rfl rfl (by exact HRL.out.src) (by omega) (fun v5 w5 r1 r2 r3 => ?_)
    have HG5 := Lib.hid (HG4.out.app r1 r2 r3)
    clear r1 r2 r3 HG4 HRL
    obtain ⟨go, capx, rfl, hc5⟩ := HG5.out.o.some' (by simp)
    have c5 := ((HB.out.on HG5.out.a).cells HAD.out).o
    refine hK.out _ _ (fun _ => c5) ?_
    clear hK K
    try simp only [Act.put, List.setIfInBounds_toArray, List.set_cons_zero, List.set_cons_succ]
    have hcl : p.o.length + 2 ≤ capx := by simpa using hc5
    have hln : (p.o ++ [165, 166]).length = p.o.length + 2 := by simp
    rw [hln] at HG5 ⊢
    clear hc5 hln
    have sl := slice_h (some ⟨go, 0, none⟩) (p.o.length + 2) capx p.o.length (p.o.length : Int) rfl (by omega)
    refine wpAnyU_take (i := 8) (v := ?_) (by simp only [List.getElem?_toArray, List.getElem?_cons_succ, List.getElem?_cons_zero]; rfl) (by kernel_rfl) (by kernel_rfl) (by kernel_rfl) (by decide) (by kernel_rfl) (by kernel_rfl) (by exact fun _ _ _ h => h) (Or.inl ⟨by rfl, ?_⟩) (by exact c5) ?_
    rotate_left
    · intro wq hSw
      (try dsimp only at hSw)
      go_simp
      all_goals (with_reducible rfl)
    try simp only [Act.put, List.setIfInBounds_toArray, List.set_cons_zero, List.set_cons_succ]
    refine wpAnyU_take (i := 9) (v := ?_) (by simp only [List.getElem?_toArray, List.getElem?_cons_succ, List.getElem?_cons_zero]; rfl) (by kernel_rfl) (by kernel_rfl) (by kernel_rfl) (by decide) (by kernel_rfl) (by kernel_rfl) (by exact fun _ _ _ h => h) (Or.inl ⟨by rfl, ?_⟩) (by exact c5) ?_
    rotate_left
    · intro wq hSw
      (try dsimp only at hSw)
      go_simp
      all_goals (with_reducible rfl)
    try simp only [Act.put, List.setIfInBounds_toArray, List.set_cons_zero, List.set_cons_succ]
    refine wpAnyU_ready (rs := [10]) (by kernel_rfl) (by simp) ?_
    refine ReadyU.cons (by simp only [List.getElem?_toArray, List.getElem?_cons_succ, List.getElem?_cons_zero]; rfl) (fun K hK => ?_) ReadyU.nil
    have hfr := (HB.out.on HG5.out.a).free 44
    have HBN : Hid (BoxP (w5.setCell ⟨g1, 44, none⟩ (.slice (some ⟨go, 0, none⟩) p.o.length capx)) g1 p (.slice (some ⟨go, 0, none⟩) p.o.length capx) (.slice ad p.d.length capd)) := (HB.out.on HG5.out.a).put 44 _ ((csP_set HAD.out _ _).2.2.2.2.2.2.2.2.2.2.2.2.1 p.o _)
    have hAW : Away [g1] w5 (w5.setCell ⟨g1, 44, none⟩ (.slice (some ⟨go, 0, none⟩) p.o.length capx)) := away_put 44 _
    have hgo : w2.heap.size ≤ go := HG5.out.n go rfl
    have HB2N : Hid (BoxP (w5.setCell ⟨g1, 44, none⟩ (.slice (some ⟨go, 0, none⟩) p.o.length capx)) g2 zeroPk (.slice none 0 0) (.slice none 0 0)) := (HB2.out.on HG5.out.a).away hAW (by simp; exact fun h => HSZ.out.2.2.2.2.2 h.symm)
    have HAN : Hid (Away [] w (w5.setCell ⟨g1, 44, none⟩ (.slice (some ⟨go, 0, none⟩) p.o.length capx))) := (HA.out.on HG5.out.a).next hAW (fun x hx => .inr (by simp at hx; rw [hx]; exact HSZ.out.2.2.2.1))
    have HLN1 : Hid (Lent B (w5.setCell ⟨g1, 44, none⟩ (.slice (some ⟨go, 0, none⟩) p.o.length capx)) (.slice (some ⟨go, 0, none⟩) p.o.length capx) p.o [165, 166]) := Lent.away (w := w5) ⟨go, capx, rfl, hcl, HG5.out.o, by have := HW.out; omega⟩ hAW (by simp; exact HSZ.out.2.1)
    have HWN : Hid (B ≤ (w5.setCell ⟨g1, 44, none⟩ (.slice (some ⟨go, 0, none⟩) p.o.length capx)).heap.size) := by have h1 := HW.out; have h2 := HG5.out.a.size; have h3 := hAW.size; exact Lib.hid (by omega)
    refine step_store26 rfl 12 11 rfl g1 44 rfl _ _ _ rfl _ c5 hfr (hK.out _ _ (by intro h; simp at h) ?_)
    clear hK K
    try simp only [Act.put]
    refine wpAnyU_done (by kernel_rfl) ?_ _
    generalize w5.setCell ⟨g1, 44, none⟩ (.slice (some ⟨go, 0, none⟩) p.o.length capx) = w3 at *
    clear HB HB2 HA HW HDR hS c5 hAW sl hfr HG5 
    have HB := HBN; have HB2 := HB2N; have HA := HAN; have HW := HWN
    clear HBN HB2N HAN HWN
    clear hcl hgo
    go_wp2_with fail
    have hS : w3.drew.cell? ⟨g1, 45, none⟩ = some (.slice ad p.d.length capd) := (HB.out.cells HAD.out).d
    refine wp_region_U 10 (fun w' => w'.cell? ⟨g1, 45, none⟩ = some (.slice ad p.d.length capd)) (by kernel_rfl) ?_
    refine wpAnyU_take (i := 0) (v := ?_) (by simp only [List.getElem?_toArray, List.getElem?_cons_zero]; rfl) (by kernel_rfl) (by kernel_rfl) (by kernel_rfl) (by decide) (by kernel_rfl) (by kernel_rfl) (by exact fun _ _ _ h => h) (Or.inl ⟨by rfl, ?_⟩) (by exact hS) ?_
    rotate_left
    · intro wq hSw
      (try dsimp only at hSw)
      go_simp
      all_goals (with_reducible rfl)
    try simp only [Act.put, List.setIfInBounds_toArray, List.set_cons_zero, List.set_cons_succ]
    refine wpAnyU_take (i := 1) (v := ?_) (by simp only [List.getElem?_toArray, List.getElem?_cons_succ, List.getElem?_cons_zero]; rfl) (by kernel_rfl) (by kernel_rfl) (by kernel_rfl) (by decide) (by kernel_rfl) (by kernel_rfl) (by exact fun _ _ _ h => h) (Or.inl ⟨by rfl, ?_⟩) (by exact hS) ?_
    rotate_left
    · intro wq hSw
      (try dsimp only at hSw)
      go_simp
      all_goals (with_reducible rfl)
    try simp only [Act.put, List.setIfInBounds_toArray, List.set_cons_zero, List.set_cons_succ]
    refine wpAnyU_take (i := 5) (v := ?_) (by simp only [List.getElem?_toArray, List.getElem?_cons_succ, List.getElem?_cons_zero]; rfl) (by kernel_rfl) (by kernel_rfl) (by kernel_rfl) (by decide) (by kernel_rfl) (by kernel_rfl) (by exact fun _ _ _ h => h) (Or.inl ⟨by rfl, ?_⟩) (by exact hS) ?_
    rotate_left
    · intro wq hSw
      (try dsimp only at hSw)
      go_simp
      all_goals (with_reducible rfl)
    try simp only [Act.put, List.setIfInBounds_toArray, List.set_cons_zero, List.set_cons_succ]
    refine wpAnyU_take (i := 6) (v := ?_) (by simp only [List.getElem?_toArray, List.getElem?_cons_succ, List.getElem?_cons_zero]; rfl) (by kernel_rfl) (by kernel_rfl) (by kernel_rfl) (by decide) (by kernel_rfl) (by kernel_rfl) (by exact fun _ _ _ h => h) (Or.inl ⟨by rfl, ?_⟩) (by exact hS) ?_
    rotate_left
    · intro wq hSw
      (try dsimp only at hSw)
      go_simp
      all_goals (with_reducible rfl)
    try simp only [Act.put, List.setIfInBounds_toArray, List.set_cons_zero, List.set_cons_succ]
    refine wpAnyU_take (i := 7) (v := ?_) (by simp only [List.getElem?_toArray, List.getElem?_cons_succ, List.getElem?_cons_zero]; rfl) (by kernel_rfl) (by kernel_rfl) (by kernel_rfl) (by decide) (by kernel_rfl) (by kernel_rfl) (by exact fun _ _ _ h => h) (Or.inl ⟨by rfl, ?_⟩) (by exact hS) ?_
    rotate_left
    · intro wq hSw
      (try dsimp only at hSw)
      go_simp
      all_goals (with_reducible rfl)
    try simp only [Act.put, List.setIfInBounds_toArray, List.set_cons_zero, List.set_cons_succ]
    have HDR : Hid (Away [] w3 w3.drew) := (Away.refl [] w3).drew
    refine wpAnyU_ready (rs := [2, 3]) (by kernel_rfl) (by simp) ?_
    refine ReadyU.cons (by simp only [List.getElem?_toArray, List.getElem?_cons_succ, List.getElem?_cons_zero]; rfl) (fun K hK => ?_) (ReadyU.cons (by simp only [List.getElem?_toArray, List.getElem?_cons_succ, List.getElem?_cons_zero]; rfl) (fun K hK => ?_) ReadyU.nil)
    · go_simp
      refine (own_any ad p.d _ capd _ rfl (by exact ((HD.out.on HA.out).on HDR.out).of.2.2.2)).mono ?_
      rintro E wa ⟨v3, rfl, ho3, hn3, haw3, hb3, hl3⟩
      have HG3 : Hid (Bag w3 wa v3 p.d) := ⟨ho3, hn3, HDR.out.on haw3⟩
      clear ho3 hn3 haw3 hb3 hl3
      have c3 := ((HB.out.on HG3.out.a).cells HAD.out).d
      go_wp2_with fail
      refine hK.out _ _ (fun _ => c3) ?_
      clear hK K
      try simp only [Act.put, List.setIfInBounds_toArray, List.set_cons_zero, List.set_cons_succ]
      refine wpAnyU_ready (rs := [3]) (by kernel_rfl) (by simp) ?_
      refine ReadyU.cons (by simp only [List.getElem?_toArray, List.getElem?_cons_succ, List.getElem?_cons_zero]; rfl) (fun K hK => ?_) ReadyU.nil
      have HG4 : Hid (Bag w3 (wa.alloc (.cells ([167, 168].map (Value.int .u8)).toArray 5)) v3 p.d) := HG3.out.on ((Away.refl [] wa).alloc _)
      have HRL : Hid (Row (wa.alloc (.cells ([167, 168].map (Value.int .u8)).toArray 5)) (some ⟨wa.heap.size, 0, none⟩) [167, 168]) := Row.lit wa _ HM2.out (by simp)
      obtain ⟨gl, hgl⟩ : ∃ gl, gl = wa.heap.size := ⟨_, rfl⟩
      obtain ⟨wb, hwb⟩ : ∃ wb, wb = wa.alloc (.cells ([167, 168].map (Value.int .u8)).toArray 5) := ⟨_, rfl⟩
      go_simp
      refine hK.out _ _ (fun _ => by exact ((HB.out.on HG4.out.a).cells HAD.out).d) ?_
      clear hK K
      try simp only [Act.put, List.setIfInBounds_toArray, List.set_cons_zero, List.set_cons_succ]
      rw [← hgl] at HRL ⊢
      rw [← hwb] at HG4 HRL
      simp only [List.map_cons, List.map_nil] at hwb
      rw [← hwb]
      clear hwb hgl HG3 c3
      refine wpAnyU_ready (rs := [4]) (by kernel_rfl) (by simp) ?_
      refine ReadyU.cons (by simp only [List.getElem?_toArray, List.getElem?_cons_succ, List.getElem?_cons_zero]; rfl) (fun K hK => ?_) ReadyU.nil
      refine step_app rfl (.tmp 15) (.tmp 16) rfl v3 p.d [167, 168] rfl (by exact HG4.out.o) ⟨gl, 0, none⟩ 2 2 rfl rfl (by exact HRL.out.src) (by omega) (fun v5 w5 r1 r2 r3 => ?_)
      have HG5 := Lib.hid (HG4.out.app r1 r2 r3)
      clear r1 r2 r3 HG4 HRL
      obtain ⟨g5, cap5, rfl, hc5⟩ := HG5.out.o.some' (by simp)
      have c5 := ((HB.out.on HG5.out.a).cells HAD.out).d
      refine hK.out _ _ (fun _ => c5) ?_
      clear hK K
      try simp only [Act.put, List.setIfInBounds_toArray, List.set_cons_zero, List.set_cons_succ]
      have hcl : p.d.length + 2 ≤ cap5 := by simpa using hc5
      have hln : (p.d ++ [167, 168]).length = p.d.length + 2 := by simp
      rw [hln] at HG5 ⊢
      clear hc5 hln
      have sl := slice_h (some ⟨g5, 0, none⟩) (p.d.length + 2) cap5 p.d.length (p.d.length : Int) rfl (by omega)
      refine wpAnyU_take (i := 8) (v := ?_) (by simp only [List.getElem?_toArray, List.getElem?_cons_succ, List.getElem?_cons_zero]; rfl) (by kernel_rfl) (by kernel_rfl) (by kernel_rfl) (by decide) (by kernel_rfl) (by kernel_rfl) (by exact fun _ _ _ h => h) (Or.inl ⟨by rfl, ?_⟩) (by exact c5) ?_
      rotate_left
      · intro wq hSw
        (try dsimp only at hSw)
        go_simp
        all_goals (with_reducible rfl)
      try simp only [Act.put, List.setIfInBounds_toArray, List.set_cons_zero, List.set_cons_succ]
      refine wpAnyU_take (i := 9) (v := ?_) (by simp only [List.getElem?_toArray, List.getElem?_cons_succ, List.getElem?_cons_zero]; rfl) (by kernel_rfl) (by kernel_rfl) (by kernel_rfl) (by decide) (by kernel_rfl) (by kernel_rfl) (by exact fun _ _ _ h => h) (Or.inl ⟨by rfl, ?_⟩) (by exact c5) ?_
      rotate_left
      · intro wq hSw
        (try dsimp only at hSw)
        go_simp
        all_goals (with_reducible rfl)
      try simp only [Act.put, List.setIfInBounds_toArray, List.set_cons_zero, List.set_cons_succ]
      refine wpAnyU_ready (rs := [10]) (by kernel_rfl) (by simp) ?_
      refine ReadyU.cons (by simp only [List.getElem?_toArray, List.getElem?_cons_succ, List.getElem?_cons_zero]; rfl) (fun K hK => ?_) ReadyU.nil
      have hfr := (HB.out.on HG5.out.a).free 45
      have HBN : Hid (BoxP (w5.setCell ⟨g1, 45, none⟩ (.slice (some ⟨g5, 0, none⟩) p.d.length cap5)) g1 p (.slice (some ⟨go, 0, none⟩) p.o.length capx) (.slice (some ⟨g5, 0, none⟩) p.d.length cap5)) := (HB.out.on HG5.out.a).put 45 _ ((csP_set HAD.out _ _).2.2.2.2.2.2.2.2.2.2.2.2.2 p.d _)
      have hAW : Away [g1] w5 (w5.setCell ⟨g1, 45, none⟩ (.slice (some ⟨g5, 0, none⟩) p.d.length cap5)) := away_put 45 _
      have hg5 : w3.heap.size ≤ g5 := HG5.out.n g5 rfl
      have HB2N : Hid (BoxP (w5.setCell ⟨g1, 45, none⟩ (.slice (some ⟨g5, 0, none⟩) p.d.length cap5)) g2 zeroPk (.slice none 0 0) (.slice none 0 0)) := (HB2.out.on HG5.out.a).away hAW (by simp; exact fun h => HSZ.out.2.2.2.2.2 h.symm)
      have HAN : Hid (Away [] w (w5.setCell ⟨g1, 45, none⟩ (.slice (some ⟨g5, 0, none⟩) p.d.length cap5))) := (HA.out.on HG5.out.a).next hAW (fun x hx => .inr (by simp at hx; rw [hx]; exact HSZ.out.2.2.2.1))
      have HLN2 : Hid (Lent B (w5.setCell ⟨g1, 45, none⟩ (.slice (some ⟨g5, 0, none⟩) p.d.length cap5)) (.slice (some ⟨g5, 0, none⟩) p.d.length cap5) p.d [167, 168]) := Lent.away (w := w5) ⟨g5, cap5, rfl, hcl, HG5.out.o, by have := HW.out; omega⟩ hAW (by simp; exact HSZ.out.2.1)
      have HLX := Lib.hid ((HLN1.out.away HG5.out.a (by simp)).away hAW (by simp; exact HSZ.out.2.1))
      have HWN : Hid (B ≤ (w5.setCell ⟨g1, 45, none⟩ (.slice (some ⟨g5, 0, none⟩) p.d.length cap5)).heap.size) := by have h1 := HW.out; have h2 := HG5.out.a.size; have h3 := hAW.size; exact Lib.hid (by omega)
      refine step_store26 rfl 22 21 rfl g1 45 rfl _ _ _ rfl _ c5 hfr (hK.out _ _ (by intro h; simp at h) ?_)
      clear hK K
      try simp only [Act.put]
      refine wpAnyU_done (by kernel_rfl) ?_ _
      generalize w5.setCell ⟨g1, 45, none⟩ (.slice (some ⟨g5, 0, none⟩) p.d.length cap5) = w4 at *
      clear HB HB2 HA HW HDR hS c5 hAW sl hfr HG5 HLN1
      have HB := HBN; have HB2 := HB2N; have HA := HAN; have HW := HWN
      clear HBN HB2N HAN HWN
      go_wp2_with (first
        | (refine wpList_load28 rfl _ rfl _ rfl p _ _ (by exact HB.out) HAD.out ?_)
        | (refine wpList_store28 rfl _ _ rfl _ rfl p _ _ rfl zeroPk (.slice none 0 0) (.slice none 0 0) (by exact HB2.out) HAD.out ⟨rfl, rfl⟩ rfl rfl ?_; refine Hid.out ?_))
      refine Lib.hid ?_
      intro w5 hb5 haw5
      have HB5 := Lib.hid hb5
      have HL1 := Lib.hid ((HLX.out.away haw5 (by simp; exact HSZ.out.2.2.1)).mono HSZ.out.1)
      have HL2 := Lib.hid ((HLN2.out.away haw5 (by simp; exact HSZ.out.2.2.1)).mono HSZ.out.1)
      have HA5 := Lib.hid (HA.out.next haw5 (fun x hx => .inr (by simp at hx; rw [hx]; exact HSZ.out.2.2.2.2.1)))
      clear hb5 haw5 HB HB2 HA HLX HLN2
      go_wp2_with fail
      refine bodyPost_ret (result28 rfl _ _ _ _ _ _ rfl HB5.out HAD.out) rfl ⟨_, _, rfl, HL1.out, HL2.out, HA5.out⟩
    · have HG2 : Hid (Away [] w3 (w3.alloc (.cells ([167, 168].map (Value.int .u8)).toArray 5)).drew) := ((Away.refl [] w3).alloc _).drew
      have HRL0 : Hid (Row (w3.alloc (.cells ([167, 168].map (Value.int .u8)).toArray 5)).drew (some ⟨w3.heap.size, 0, none⟩) [167, 168]) := (Row.lit w3 _ HM2.out (by simp)).on (Away.refl [] _).drew
      obtain ⟨gl, hgl⟩ : ∃ gl, gl = w3.heap.size := ⟨_, rfl⟩
      obtain ⟨wa, hwa⟩ : ∃ wa, wa = (w3.alloc (.cells ([167, 168].map (Value.int .u8)).toArray 5)).drew := ⟨_, rfl⟩
      go_simp
      refine hK.out _ _ (fun _ => by exact ((HB.out.on HG2.out).cells HAD.out).d) ?_
      clear hK K
      try simp only [Act.put, List.setIfInBounds_toArray, List.set_cons_zero, List.set_cons_succ]
      rw [← hgl] at HRL0
      rw [← hwa] at HG2 HRL0
      simp only [List.map_cons, List.map_nil] at hwa
      rw [← hwa]
      rw [← hgl]
      clear hwa hgl
      refine wpAnyU_ready (rs := [2]) (by kernel_rfl) (by simp) ?_
      refine ReadyU.cons (by simp only [List.getElem?_toArray, List.getElem?_cons_succ, List.getElem?_cons_zero]; rfl) (fun K hK => ?_) ReadyU.nil
      go_simp
      refine (own_any ad p.d _ capd _ rfl (by exact ((HD.out.on HA.out).on HG2.out).of.2.2.2)).mono ?_
      rintro E wb ⟨v3, rfl, ho3, hn3, haw3, hb3, hl3⟩
      have HG4 : Hid (Bag w3 wb v3 p.d) := ⟨ho3, hn3.mono HG2.out.size, HG2.out.on haw3⟩
      have HRL := Lib.hid (HRL0.out.on haw3)
      clear ho3 hn3 haw3 hb3 hl3 HRL0 HG2
      have c3 := ((HB.out.on HG4.out.a).cells HAD.out).d
      go_wp2_with fail
      refine hK.out _ _ (fun _ => c3) ?_
      clear hK K c3
      try simp only [Act.put, List.setIfInBounds_toArray, List.set_cons_zero, List.set_cons_succ]
      refine wpAnyU_ready (rs := [4]) (by kernel_rfl) (by simp) ?_
      refine ReadyU.cons (by simp only [List.getElem?_toArray, List.getElem?_cons_succ, List.getElem?_cons_zero]; rfl) (fun K hK => ?_) ReadyU.nil
      refine step_app rfl (.tmp 15) (.tmp 16) rfl v3 p.d [167, 168] rfl (by exact HG4.out.o) ⟨gl, 0, none⟩ 2 2 rfl rfl (by exact HRL.out.src) (by omega) (fun v5 w5 r1 r2 r3 => ?_)
      have HG5 := Lib.hid (HG4.out.app r1 r2 r3)
      clear r1 r2 r3 HG4 HRL
      obtain ⟨g5, cap5, rfl, hc5⟩ := HG5.out.o.some' (by simp)
      have c5 := ((HB.out.on HG5.out.a).cells HAD.out).d
      refine hK.out _ _ (fun _ => c5) ?_
      clear hK K
      try simp only [Act.put, List.setIfInBounds_toArray, List.set_cons_zero, List.set_cons_succ]
      have hcl : p.d.length + 2 ≤ cap5 := by simpa using hc5
      have hln : (p.d ++ [167, 168]).length = p.d.length + 2 := by simp
      rw [hln] at HG5 ⊢
      clear hc5 hln
      have sl := slice_h (some ⟨g5, 0, none⟩) (p.d.length + 2) cap5 p.d.length (p.d.length : Int) rfl (by omega)
      refine wpAnyU_take (i := 8) (v := ?_) (by simp only [List.getElem?_toArray, List.getElem?_cons_succ, List.getElem?_cons_zero]; rfl) (by kernel_rfl) (by kernel_rfl) (by kernel_rfl) (by decide) (by kernel_rfl) (by kernel_rfl) (by exact fun _ _ _ h => h) (Or.inl ⟨by rfl, ?_⟩) (by exact c5) ?_
      rotate_left
      · intro wq hSw
        (try dsimp only at hSw)
        go_simp
        all_goals (with_reducible rfl)
      try simp only [Act.put, List.setIfInBounds_toArray, List.set_cons_zero, List.set_cons_succ]
      refine wpAnyU_take (i := 9) (v := ?_) (by simp only [List.getElem?_toArray, List.getElem?_cons_succ, List.getElem?_cons_zero]; rfl) (by kernel_rfl) (by kernel_rfl) (by kernel_rfl) (by decide) (by kernel_rfl) (by kernel_rfl) (by exact fun _ _ _ h => h) (Or.inl ⟨by rfl, ?_⟩) (by exact c5) ?_
      rotate_left
      · intro wq hSw
        (try dsimp only at hSw)
        go_simp
        all_goals (with_reducible rfl)
      try simp only [Act.put, List.setIfInBounds_toArray, List.set_cons_zero, List.set_cons_succ]
      refine wpAnyU_ready (rs := [10]) (by kernel_rfl) (by simp) ?_
      refine ReadyU.cons (by simp only [List.getElem?_toArray, List.getElem?_cons_succ, List.getElem?_cons_zero]; rfl) (fun K hK => ?_) ReadyU.nil
      have hfr := (HB.out.on HG5.out.a).free 45
      have HBN : Hid (BoxP (w5.setCell ⟨g1, 45, none⟩ (.slice (some ⟨g5, 0, none⟩) p.d.length cap5)) g1 p (.slice (some ⟨go, 0, none⟩) p.o.length capx) (.slice (some ⟨g5, 0, none⟩) p.d.length cap5)) := (HB.out.on HG5.out.a).put 45 _ ((csP_set HAD.out _ _).2.2.2.2.2.2.2.2.2.2.2.2.2 p.d _)
      have hAW : Away [g1] w5 (w5.setCell ⟨g1, 45, none⟩ (.slice (some ⟨g5, 0, none⟩) p.d.length cap5)) := away_put 45 _
      have hg5 : w3.heap.size ≤ g5 := HG5.out.n g5 rfl
      have HB2N : Hid (BoxP (w5.setCell ⟨g1, 45, none⟩ (.slice (some ⟨g5, 0, none⟩) p.d.length cap5)) g2 zeroPk (.slice none 0 0) (.slice none 0 0)) := (HB2.out.on HG5.out.a).away hAW (by simp; exact fun h => HSZ.out.2.2.2.2.2 h.symm)
      have HAN : Hid (Away [] w (w5.setCell ⟨g1, 45, none⟩ (.slice (some ⟨g5, 0, none⟩) p.d.length cap5))) := (HA.out.on HG5.out.a).next hAW (fun x hx => .inr (by simp at hx; rw [hx]; exact HSZ.out.2.2.2.1))
      have HLN2 : Hid (Lent B (w5.setCell ⟨g1, 45, none⟩ (.slice (some ⟨g5, 0, none⟩) p.d.length cap5)) (.slice (some ⟨g5, 0, none⟩) p.d.length cap5) p.d [167, 168]) := Lent.away (w := w5) ⟨g5, cap5, rfl, hcl, HG5.out.o, by have := HW.out; omega⟩ hAW (by simp; exact HSZ.out.2.1)
      have HLX := Lib.hid ((HLN1.out.away HG5.out.a (by simp)).away hAW (by simp; exact HSZ.out.2.1))
      have HWN : Hid (B ≤ (w5.setCell ⟨g1, 45, none⟩ (.slice (some ⟨g5, 0, none⟩) p.d.length cap5)).heap.size) := by have h1 := HW.out; have h2 := HG5.out.a.size; have h3 := hAW.size; exact Lib.hid (by omega)
      refine step_store26 rfl 22 21 rfl g1 45 rfl _ _ _ rfl _ c5 hfr (hK.out _ _ (by intro h; simp at h) ?_)
      clear hK K
      try simp only [Act.put]
      refine wpAnyU_done (by kernel_rfl) ?_ _
      generalize w5.setCell ⟨g1, 45, none⟩ (.slice (some ⟨g5, 0, none⟩) p.d.length cap5) = w4 at *
      clear HB HB2 HA HW HDR hS c5 hAW sl hfr HG5 HLN1
      have HB := HBN; have HB2 := HB2N; have HA := HAN; have HW := HWN
      clear HBN HB2N HAN HWN
      go_wp2_with (first
        | (refine wpList_load28 rfl _ rfl _ rfl p _ _ (by exact HB.out) HAD.out ?_)
        | (refine wpList_store28 rfl _ _ rfl _ rfl p _ _ rfl zeroPk (.slice none 0 0) (.slice none 0 0) (by exact HB2.out) HAD.out ⟨rfl, rfl⟩ rfl rfl ?_; refine Hid.out ?_))
      refine Lib.hid ?_
      intro w5 hb5 haw5
      have HB5 := Lib.hid hb5
      have HL1 := Lib.hid ((HLX.out.away haw5 (by simp; exact HSZ.out.2.2.1)).mono HSZ.out.1)
      have HL2 := Lib.hid ((HLN2.out.away haw5 (by simp; exact HSZ.out.2.2.1)).mono HSZ.out.1)
      have HA5 := Lib.hid (HA.out.next haw5 (fun x hx => .inr (by simp at hx; rw [hx]; exact HSZ.out.2.2.2.2.1)))
      clear hb5 haw5 HB HB2 HA HLX HLN2
      go_wp2_with fail
      refine bodyPost_ret (result28 rfl _ _ _ _ _ _ rfl HB5.out HAD.out) rfl ⟨_, _, rfl, HL1.out, HL2.out, HA5.out⟩
#print axioms lent_c
end Go.Proofs.YtbnnfbfmomafnaaDoor.U5
