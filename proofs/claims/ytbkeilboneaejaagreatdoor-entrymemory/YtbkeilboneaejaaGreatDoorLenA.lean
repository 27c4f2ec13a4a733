/-
  wipe of the laws.
-/
import Derived.Test.YtbkeilboneaejaaGreatDoorMemA
import Derived.Deep.RegionHeld3
import Derived.Test.YtbkeilboneaejaaGreatDoorSameP
namespace Go.Proofs.YtbkeilboneaejaaGreatDoor.U5
open Go.ChangeShapes Go.WideShapes Go.ChangeAt Go.RowKit Go.Deep Num
set_option linter.unusedVariables false
section
variable {P : Program} {ops : Array Oper} {Q : Exit → Act → World → Prop} {md : Region.Mode} {S : World → Prop} {t : Nat}

/-- In whatever order, and S holds behind each operation ahead of number t. -/
def wpAnyU (P : Program) (md : Region.Mode) (ops : Array Oper) (Q : Exit → Act → World → Prop) (S : World → Prop) (t : Nat) : Nat → Array Bool → Act → World → Prop
  | 0, listed, a, w => Region.ready md ops listed = [] ∧ Q .normal a w
  | fuel + 1, listed, a, w =>
    (Region.ready md ops listed = [] → Q .normal a w) ∧
    ∀ i ∈ Region.ready md ops listed, wpOp P ops Q i (fun a' w' => ((listed.setIfInBounds i true).getD t true = false → S w') ∧ wpAnyU P md ops Q S t fuel (listed.setIfInBounds i true) a' w') a w
theorem wpAny_ofU : ∀ (fuel : Nat) (listed : Array Bool) (a : Act) (w : World), wpAnyU P md ops Q S t fuel listed a w → wpAny P md ops Q fuel listed a w
  | 0, _, _, _, h => h
  | fuel + 1, _, _, _, h => ⟨h.1, fun i hi => wpOp_mono (fun a' w' h' => wpAny_ofU fuel _ a' w' h'.2) (h.2 i hi)⟩
/-- t waits for i. -/
def waits (md : Region.Mode) (ops : Array Oper) (t i : Nat) : Bool := match ops[t]? with
  | some ot => ot.after.toList.any (fun e => Region.binds md e && e.on == i)
  | none => false
theorem waits_spec {i : Nat} {ot : Oper} (h : waits md ops t i = true) (ho : ops[t]? = some ot) : ∃ e ∈ ot.after, Region.binds md e = true ∧ e.on = i := by
  unfold waits at h
  rw [ho] at h
  simp only [List.any_eq_true, Bool.and_eq_true, beq_iff_eq] at h
  obtain ⟨e, he, h1, h2⟩ := h
  exact ⟨e, by simpa using he, h1, h2⟩
theorem wpAnyU_first {i : Nat} {oi : Oper} {v : Value} (hi : ops[i]? = some oi) (hsel : ∀ (j : Nat) (o : Oper) cs b, ops[j]? = some o → o.op ≠ .select cs b)
    (hQ : ∀ c a w, Q (.panic c) (a.put oi.dst v) w → Q (.panic c) a w) (hti : i ≠ t) (hw : waits md ops t i = true) :
    ∀ (fuel : Nat) (listed : Array Bool) (a : Act) (w : World),
      (∀ j oj, ops[j]? = some oj → j ≠ i → listed.getD j true = false → (∀ e ∈ oj.after, Region.binds md e = true → e.on ≠ i) → oi.apart ops oj = true) →
      i ∈ Region.ready md ops listed → YieldsIf P ops S oi v a → listed.getD t true = false → S w →
      wpAnyU P md ops Q S t fuel (listed.setIfInBounds i true) (a.put oi.dst v) w → wpAnyU P md ops Q S t (fuel + 1) listed a w := by
  intro fuel
  induction fuel with
  | zero =>
    intro listed a w _ hr hy _ hS H
    refine ⟨fun h => (by rw [h] at hr; cases hr), fun j hj => ?_⟩
    by_cases hji : j = i
    · subst hji; exact hy.wpOp hi hS ⟨fun _ => hS, H⟩
    · have := ready_mono hj hji
      rw [H.1] at this
      cases this
  | succ fuel ih =>
    intro listed a w hfree hr hy ht hS H
    refine ⟨fun h => (by rw [h] at hr; cases hr), fun j hj => ?_⟩
    by_cases hji : j = i
    · subst hji; exact hy.wpOp hi hS ⟨fun _ => hS, H⟩
    · have h1 := H.2 j (ready_mono hj hji)
      obtain ⟨hjun, oj, hoj, hall⟩ := mem_ready.1 hj
      have hnot : ∀ e ∈ oj.after, Region.binds md e = true → e.on ≠ i := fun e he hb heq => by
        have h1 := hall e he hb
        have h0 := (mem_ready.1 hr).1
        rw [heq] at h1
        rcases Nat.lt_or_ge i listed.size with h' | h'
        · simp [h'] at h0 h1; rw [h0] at h1; cases h1
        · simp [Array.getElem?_eq_none h'] at h1
      have hjt : j ≠ t := fun h => by
        subst h
        obtain ⟨e, he, hb, heq⟩ := waits_spec hw hoj
        exact hnot e he hb heq
      have h2 := wpOp_putIf hoj (hfree j oj hoj hji hjun hnot) (fun cs b => hsel i oi cs b hi) (fun cs b => hsel j oj cs b hoj) hQ hy h1
      have hfree' : ∀ k ok, ops[k]? = some ok → k ≠ i → (listed.setIfInBounds j true).getD k true = false →
          (∀ e ∈ ok.after, Region.binds md e = true → e.on ≠ i) → oi.apart ops ok = true := fun k ok hk hki hun hno => by
        refine hfree k ok hk hki ?_ hno
        by_cases hjk : j = k
        · subst hjk; exact hjun
        · rw [getD_set_ne true hjk] at hun; exact hun
      have ht1 : (listed.setIfInBounds j true).getD t true = false := by rw [getD_set_ne true hjt]; exact ht
      have ht2 : ((listed.setIfInBounds i true).setIfInBounds j true).getD t true = false := by rw [getD_set_ne true hjt, getD_set_ne true hti]; exact ht
      refine wpOp_mono (fun a' w' h3 => ⟨fun _ => h3.2.1 ht2, ih (listed.setIfInBounds j true) a' w' hfree' (ready_mono hr (Ne.symm hji)) h3.1 ht1 (h3.2.1 ht2) ?_⟩) h2
      rw [Array.setIfInBounds_comm _ _ hji]
      exact h3.2.2
theorem wpAnyU_take {i : Nat} {oi : Oper} {v : Value} {fuel : Nat} {listed : Array Bool} {a : Act} {w : World} (hi : ops[i]? = some oi)
    (hs : Region.noSelect ops = true) (hf : Region.free md ops listed i = true) (hr : (Region.ready md ops listed).contains i = true)
    (hti : i ≠ t) (hw : waits md ops t i = true) (ht : listed.getD t true = false)
    (hQ : ∀ c a w, Q (.panic c) (a.put oi.dst v) w → Q (.panic c) a w) (hy : YieldsIf P ops S oi v a) (hS : S w)
    (h : wpAnyU P md ops Q S t fuel (listed.setIfInBounds i true) (a.put oi.dst v) w) : wpAnyU P md ops Q S t (fuel + 1) listed a w :=
  wpAnyU_first hi (Region.noSelect_spec hs) hQ hti hw fuel listed a w (Region.free_spec hi hf) (by simpa using hr) hy ht hS h
def ReadyU (P : Program) (md : Region.Mode) (ops : Array Oper) (Q : Exit → Act → World → Prop) (S : World → Prop) (t fuel : Nat) (listed : Array Bool) (a : Act) (w : World) (rs : List Nat) : Prop :=
  ∀ i ∈ rs, wpOp P ops Q i (fun a' w' => ((listed.setIfInBounds i true).getD t true = false → S w') ∧ wpAnyU P md ops Q S t fuel (listed.setIfInBounds i true) a' w') a w
theorem ReadyU.nil {fuel : Nat} {listed : Array Bool} {a : Act} {w : World} : ReadyU P md ops Q S t fuel listed a w [] := fun _ h => by cases h
theorem ReadyU.cons {fuel : Nat} {listed : Array Bool} {a : Act} {w : World} {i : Nat} {o : Oper} {rs : List Nat} (ho : ops[i]? = some o)
    (h : ∀ K' : Act → World → Prop, Shut (∀ a w, ((listed.setIfInBounds i true).getD t true = false → S w) → wpAnyU P md ops Q S t fuel (listed.setIfInBounds i true) a w → K' a w) → if Region.wanted o (yielded ops a.tmps) = true then Oper.wp P o a w K' Q else K' (a.put o.dst undef) w)
    (hs : ReadyU P md ops Q S t fuel listed a w rs) : ReadyU P md ops Q S t fuel listed a w (i :: rs) := fun j hj => by
  rcases List.mem_cons.1 hj with rfl | hj
  · exact wpOp_step ho (fun K' hK => h K' (fun a w hS hW => hK a w ⟨hS, hW⟩))
  · exact hs j hj
theorem wpAnyU_ready {rs : List Nat} {fuel : Nat} {listed : Array Bool} {a : Act} {w : World} (hr : Region.ready md ops listed = rs) (hne : rs ≠ [])
    (h : ReadyU P md ops Q S t fuel listed a w rs) : wpAnyU P md ops Q S t (fuel + 1) listed a w := ⟨fun h0 => absurd (hr ▸ h0) hne, hr ▸ h⟩
theorem wpAnyU_done {listed : Array Bool} {a : Act} {w : World} (hr : Region.ready md ops listed = []) (h : Q .normal a w) :
    ∀ fuel, wpAnyU P md ops Q S t fuel listed a w
  | 0 => ⟨hr, h⟩
  | _ + 1 => ⟨fun _ => h, by rw [hr]; simp⟩
theorem wp_region_U {id : Nat} {a : Act} {w : World} (t : Nat) (S : World → Prop) (hm : P.follows .mixedOrders = true)
    (h : wpAnyU P .any ops Q S t ops.size (Array.replicate ops.size false) a w.drew) : (Code.region id ops true).wp P Q a w :=
  wp_region_any hm (wpAny_ofU _ _ _ _ h)
end
#print axioms wp_region_U
structure Bag (W0 w : World) (v : Value) (l : List Int) : Prop where
  o : Owns w v l
  n : New W0.heap.size v
  a : Away [] W0 w
theorem Bag.app {W0 w w' : World} {v v' : Value} {l m : List Int} (h : Bag W0 w v l) (ho : Owns w' v' (l ++ m)) (hg : w.grownBy w' v.ownBlock) (hm : Moved w v v') : Bag W0 w' v' (l ++ m) :=
  ⟨ho, h.n.moved hm h.a.size, h.a.grown hg (fun k hk => .inr (h.n k hk))⟩
theorem Bag.on {W0 w w' : World} {v : Value} {l : List Int} (h : Bag W0 w v l) (hw : Away [] w w') : Bag W0 w' v l := ⟨h.o.on hw, h.n, h.a.on hw⟩
theorem bytes2 {x y : Int} (hx : 0 ≤ x ∧ x ≤ 255) (hy : 0 ≤ y ∧ y ≤ 255) : Bytes [x, y] := by
  intro b hb; simp at hb; rcases hb with rfl | rfl <;> omega
theorem _root_.Go.Proofs.YtbkeilboneaejaaGreatDoor.Owns.some' {w : World} {v : Value} {l : List Int} (h : Owns w v l) (hl : l ≠ []) : ∃ g cap, v = .slice (some ⟨g, 0, none⟩) l.length cap ∧ l.length ≤ cap := by
  rcases h.2 with ⟨rfl, h3⟩ | ⟨g, cap, cur, rfl, hg, hh, hn, -⟩
  · exact absurd (by simpa using h3) hl
  · simp only [List.length_map] at hn
    exact ⟨g, cap, by simp, hn⟩
end Go.Proofs.YtbkeilboneaejaaGreatDoor.U5

namespace Go.Proofs.YtbkeilboneaejaaGreatDoor.U5
open Go.ChangeShapes Go.WideShapes Go.ChangeAt Go.RowKit Go.Deep Num
set_option linter.unusedVariables false
set_option maxHeartbeats 4000000
set_option maxRecDepth 100000

/-- Lent: l, with m in its spare room, in a block not below B. -/
def Lent (B : Nat) (w : World) (v : Value) (l m : List Int) : Prop := ∃ g cap, v = .slice (some ⟨g, 0, none⟩) l.length cap ∧ l.length + m.length ≤ cap ∧ Owns w (.slice (some ⟨g, 0, none⟩) (l.length + m.length) cap) (l ++ m) ∧ B ≤ g
theorem Lent.away {B : Nat} {w w' : World} {v : Value} {l m : List Int} {S : List Nat} (h : Lent B w v l m) (hw : Away S w w') (hS : ∀ x ∈ S, x < B) : Lent B w' v l m := by
  obtain ⟨g, cap, rfl, h1, h2, h3⟩ := h
  refine ⟨g, cap, rfl, h1, h2.away hw (fun k hk hx => ?_), h3⟩
  simp [Value.ownBlock] at hk
  have := hS _ hx
  omega
theorem Lent.mono {B C : Nat} {w : World} {v : Value} {l m : List Int} (h : Lent B w v l m) (hc : C ≤ B) : Lent C w v l m := by
  obtain ⟨g, cap, rfl, h1, h2, h3⟩ := h
  exact ⟨g, cap, rfl, h1, h2, by omega⟩
theorem Lent.lt {B g n c : Nat} {w : World} {l m : List Int} (h : Lent B w (.slice (some ⟨g, 0, none⟩) n c) l m) : g < w.heap.size := by
  obtain ⟨g2, cap, he, -, ho, -⟩ := h
  simp only [Value.slice.injEq, Option.some.injEq, Addr.mk.injEq] at he
  obtain ⟨⟨rfl, -, -⟩, -, -⟩ := he
  exact ho.lt g rfl
theorem Lent.one {B : Nat} {w : World} {v : Value} {l m : List Int} (h : Lent B w v l m) : v.oneCell' = true := by obtain ⟨_, _, rfl, _⟩ := h; rfl
theorem step_store26 {ops : Array Oper} {o : Oper} {a : Act} {w : World} {K : Act → World → Prop} {Q : Exit → Act → World → Prop} {E : Prop} (hg : o.guard = none) (s r : Nat)
    (ho : o.op = .store 26 (.tmp s) (.tmp r)) (g i : Nat) (hx : a.tmps[s]?.getD undef = .pointer (some ⟨g, i, none⟩)) (b : Option Addr) (n c : Nat) (hy : a.tmps[r]?.getD undef = .slice b n c) (u : Value) (hc : w.cell? ⟨g, i, none⟩ = some u) (hf : w.frozen? ⟨g, i, none⟩ = false)
    (hK : K (a.put o.dst undef) (w.setCell ⟨g, i, none⟩ (.slice b n c))) :
    if Region.wanted o (yielded ops a.tmps) = true then Oper.wp Tryz.prog o a w K Q else E := by
  have hw : Region.wanted o (yielded ops a.tmps) = true := by simp [Region.wanted, hg]
  rw [if_pos hw]
  obtain ⟨d, op, ty, ps, af, gd⟩ := o
  simp only at ho
  subst ho
  go_simp
  exact hK
theorem lent_c (p : Pk) (ov dv : Value) (w : World) (hp : Pkt w p ov dv) (hol : p.o.length ≤ 140737488355326) (hdl : p.d.length ≤ 140737488355326) :
    Calls Tryz.prog 20 #[.agg (csP p ov dv)] w fun E w' => ∃ ou du, E = .returned (.agg (csP p ou du)) ∧ Lent w.heap.size w' ou p.o [165, 166] ∧ Lent w.heap.size w' du p.d [167, 168] ∧ (∀ k, ou.ownBlock = some k → du.ownBlock ≠ some k) ∧ Away [] w w' := by
  have ha := hp.wf.ad
  have HAD : Hid (Ad p) := ha
  have HM1 : Hid (Bytes [165, 166]) := bytes2 (by omega) (by omega)
  have HM2 : Hid (Bytes [167, 168]) := bytes2 (by omega) (by omega)
  obtain ⟨hwf, ho, hd0⟩ := hp
  have HO : Hid (Sl w ov p.o) := ho
  have HD : Hid (Sl w dv p.d) := hd0
  obtain ⟨ao, capo, rfl, -⟩ := ho
  obtain ⟨ad, capd, rfl, -⟩ := hd0
  clear hwf ha
  go_enter Tryz.func20, Tryz.ntmps20
  go_wp2_with (first | (refine wpList_box28 rfl _ rfl p _ _ rfl ?_; refine Hid.out ?_) | (refine wpList_alloc28 rfl rfl ?_; refine Hid.out ?_))
  refine Lib.hid ?_
  intro g1 w1 hg1 hb1 haw1
  have HB := Lib.hid hb1; have HA := Lib.hid haw1
  clear hb1 haw1
  go_wp2_with (first | (refine wpList_box28 rfl _ rfl p _ _ rfl ?_; refine Hid.out ?_) | (refine wpList_alloc28 rfl rfl ?_; refine Hid.out ?_))
  refine Lib.hid ?_
  intro g2 w2 hg2 hb2 haw2
  have HB2 := Lib.hid hb2
  have hl1 := HB.out.lt
  have hs1 := HA.out.size
  replace HB := Lib.hid (HB.out.on haw2); replace HA := Lib.hid (HA.out.on haw2)
  have hl2 := hb2.lt
  have hs2 := haw2.size
  clear hb2 haw2
  have HSZ : Hid (w.heap.size ≤ w2.heap.size ∧ g1 < w2.heap.size ∧ g2 < w2.heap.size ∧ w.heap.size ≤ g1 ∧ w.heap.size ≤ g2 ∧ g1 ≠ g2) := ⟨by omega, by omega, by omega, by omega, by omega, by omega⟩
  clear hg1 hg2 hl1 hs1 hl2 hs2
  obtain ⟨B, hB⟩ : ∃ B, B = w2.heap.size := ⟨_, rfl⟩
  rw [← hB] at HSZ
  have HW : Hid (B ≤ w2.heap.size) := Nat.le_of_eq hB
  clear hB
  go_wp2_with fail
  have hS : w2.drew.cell? ⟨g1, 44, none⟩ = some (.slice ao p.o.length capo) := (HB.out.cells HAD.out).o
  refine wp_region_U 10 (fun w' => w'.cell? ⟨g1, 44, none⟩ = some (.slice ao p.o.length capo)) (by kernel_rfl) ?_
  refine wpAnyU_take (i := 0) (v := ?_) (by simp only [List.getElem?_toArray, List.getElem?_cons_zero]; rfl) (by kernel_rfl) (by kernel_rfl) (by kernel_rfl) (by decide) (by kernel_rfl) (by kernel_rfl) (by exact fun _ _ _ h => h) (Or.inl ⟨by rfl, ?_⟩) (by exact hS) ?_
  rotate_left
  · intro wq hSw
    (try dsimp only at hSw)
    go_simp
    all_goals (with_reducible rfl)
  try simp only [Act.put, List.setIfInBounds_toArray, List.set_cons_zero, List.set_cons_succ]
  refine wpAnyU_take (i := 1) (v := ?_) (by simp only [List.getElem?_toArray, List.getElem?_cons_succ, List.getElem?_cons_zero]; rfl) (by kernel_rfl) (by kernel_rfl) (by kernel_rfl) (by decide) (by kernel_rfl) (by kernel_rfl) (by exact fun _ _ _ h => h) (Or.inl ⟨by rfl, ?_⟩) (by exact hS) ?_
  rotate_left
  · intro wq hSw
    (try dsimp only at hSw)
    go_simp
    all_goals (with_reducible rfl)
  try simp only [Act.put, List.setIfInBounds_toArray, List.set_cons_zero, List.set_cons_succ]
  refine wpAnyU_take (i := 5) (v := ?_) (by simp only [List.getElem?_toArray, List.getElem?_cons_succ, List.getElem?_cons_zero]; rfl) (by kernel_rfl) (by kernel_rfl) (by kernel_rfl) (by decide) (by kernel_rfl) (by kernel_rfl) (by exact fun _ _ _ h => h) (Or.inl ⟨by rfl, ?_⟩) (by exact hS) ?_
  rotate_left
  · intro wq hSw
    (try dsimp only at hSw)
    go_simp
    all_goals (with_reducible rfl)
  try simp only [Act.put, List.setIfInBounds_toArray, List.set_cons_zero, List.set_cons_succ]
  refine wpAnyU_take (i := 6) (v := ?_) (by simp only [List.getElem?_toArray, List.getElem?_cons_succ, List.getElem?_cons_zero]; rfl) (by kernel_rfl) (by kernel_rfl) (by kernel_rfl) (by decide) (by kernel_rfl) (by kernel_rfl) (by exact fun _ _ _ h => h) (Or.inl ⟨by rfl, ?_⟩) (by exact hS) ?_
  rotate_left
  · intro wq hSw
    (try dsimp only at hSw)
    go_simp
    all_goals (with_reducible rfl)
  try simp only [Act.put, List.setIfInBounds_toArray, List.set_cons_zero, List.set_cons_succ]
  refine wpAnyU_take (i := 7) (v := ?_) (by simp only [List.getElem?_toArray, List.getElem?_cons_succ, List.getElem?_cons_zero]; rfl) (by kernel_rfl) (by kernel_rfl) (by kernel_rfl) (by decide) (by kernel_rfl) (by kernel_rfl) (by exact fun _ _ _ h => h) (Or.inl ⟨by rfl, ?_⟩) (by exact hS) ?_
  rotate_left
  · intro wq hSw
    (try dsimp only at hSw)
    go_simp
    all_goals (with_reducible rfl)
  try simp only [Act.put, List.setIfInBounds_toArray, List.set_cons_zero, List.set_cons_succ]
  have HDR : Hid (Away [] w2 w2.drew) := (Away.refl [] w2).drew
  refine wpAnyU_ready (rs := [2, 3]) (by kernel_rfl) (by simp) ?_
  refine ReadyU.cons (by simp only [List.getElem?_toArray, List.getElem?_cons_succ, List.getElem?_cons_zero]; rfl) (fun K hK => ?_) (ReadyU.cons (by simp only [List.getElem?_toArray, List.getElem?_cons_succ, List.getElem?_cons_zero]; rfl) (fun K hK => ?_) ReadyU.nil)
  · go_simp
    refine (own_any ao p.o _ capo _ rfl (by exact ((HO.out.on HA.out).on HDR.out).of.2.2.2)).mono ?_
    rintro E wa ⟨v3, rfl, ho3, hn3, haw3, hb3, hl3⟩
    have HG3 : Hid (Bag w2 wa v3 p.o) := ⟨ho3, hn3, HDR.out.on haw3⟩
    clear ho3 hn3 haw3 hb3 hl3
    have c3 := ((HB.out.on HG3.out.a).cells HAD.out).o
    go_wp2_with fail
    refine hK.out _ _ (fun _ => c3) ?_
    clear hK K
    try simp only [Act.put, List.setIfInBounds_toArray, List.set_cons_zero, List.set_cons_succ]
    refine wpAnyU_ready (rs := [3]) (by kernel_rfl) (by simp) ?_
    refine ReadyU.cons (by simp only [List.getElem?_toArray, List.getElem?_cons_succ, List.getElem?_cons_zero]; rfl) (fun K hK => ?_) ReadyU.nil
    have HG4 : Hid (Bag w2 (wa.alloc (.cells ([165, 166].map (Value.int .u8)).toArray 5)) v3 p.o) := HG3.out.on ((Away.refl [] wa).alloc _)
    have HRL : Hid (Row (wa.alloc (.cells ([165, 166].map (Value.int .u8)).toArray 5)) (some ⟨wa.heap.size, 0, none⟩) [165, 166]) := Row.lit wa _ HM1.out (by simp)
    obtain ⟨gl, hgl⟩ : ∃ gl, gl = wa.heap.size := ⟨_, rfl⟩
    obtain ⟨wb, hwb⟩ : ∃ wb, wb = wa.alloc (.cells ([165, 166].map (Value.int .u8)).toArray 5) := ⟨_, rfl⟩
    go_simp
    refine hK.out _ _ (fun _ => by exact ((HB.out.on HG4.out.a).cells HAD.out).o) ?_
    clear hK K
    try simp only [Act.put, List.setIfInBounds_toArray, List.set_cons_zero, List.set_cons_succ]
    rw [← hgl] at HRL ⊢
    rw [← hwb] at HG4 HRL
    simp only [List.map_cons, List.map_nil] at hwb
    rw [← hwb]
    clear hwb hgl HG3 c3
    refine wpAnyU_ready (rs := [4]) (by kernel_rfl) (by simp) ?_
    refine ReadyU.cons (by simp only [List.getElem?_toArray, List.getElem?_cons_succ, List.getElem?_cons_zero]; rfl) (fun K hK => ?_) ReadyU.nil
    refine step_app rfl (.tmp 5) (.tmp 6) rfl v3 p.o [165, 166] rfl (by exact HG4.out.o) ⟨gl, 0, none⟩ 2 2 rfl rfl (by exact HRL.out.src) (by omega) (fun v5 w5 r1 r2 r3 => ?_)
    have HG5 := Lib.hid (HG4.out.app r1 r2 r3)
    clear r1 r2 r3 HG4 HRL
    obtain ⟨go, capx, rfl, hc5⟩ := HG5.out.o.some' (by simp)
    have c5 := ((HB.out.on HG5.out.a).cells HAD.out).o
    refine hK.out _ _ (fun _ => c5) ?_
    clear hK K
    try simp only [Act.put, List.setIfInBounds_toArray, List.set_cons_zero, List.set_cons_succ]
    have hcl : p.o.length + 2 ≤ capx := by simpa using hc5
    have hln : (p.o ++ [165, 166]).length = p.o.length + 2 := by simp
    rw [hln] at HG5 ⊢
    clear hc5 hln
    have sl := slice_h (some ⟨go, 0, none⟩) (p.o.length + 2) capx p.o.length (p.o.length : Int) rfl (by omega)
    refine wpAnyU_take (i := 8) (v := ?_) (by simp only [List.getElem?_toArray, List.getElem?_cons_succ, List.getElem?_cons_zero]; rfl) (by kernel_rfl) (by kernel_rfl) (by kernel_rfl) (by decide) (by kernel_rfl) (by kernel_rfl) (by exact fun _ _ _ h => h) (Or.inl ⟨by rfl, ?_⟩) (by exact c5) ?_
    rotate_left
    · intro wq hSw
      (try dsimp only at hSw)
      go_simp
      all_goals (with_reducible rfl)
    try simp only [Act.put, List.setIfInBounds_toArray, List.set_cons_zero, List.set_cons_succ]
    refine wpAnyU_take (i := 9) (v := ?_) (by simp only [List.getElem?_toArray, List.getElem?_cons_succ, List.getElem?_cons_zero]; rfl) (by kernel_rfl) (by kernel_rfl) (by kernel_rfl) (by decide) (by kernel_rfl) (by kernel_rfl) (by exact fun _ _ _ h => h) (Or.inl ⟨by rfl, ?_⟩) (by exact c5) ?_
    rotate_left
    · intro wq hSw
      (try dsimp only at hSw)
      go_simp
      all_goals (with_reducible rfl)
    try simp only [Act.put, List.setIfInBounds_toArray, List.set_cons_zero, List.set_cons_succ]
    refine wpAnyU_ready (rs := [10]) (by kernel_rfl) (by simp) ?_
    refine ReadyU.cons (by simp only [List.getElem?_toArray, List.getElem?_cons_succ, List.getElem?_cons_zero]; rfl) (fun K hK => ?_) ReadyU.nil
    have hfr := (HB.out.on HG5.out.a).free 44
    have HBN : Hid (BoxP (w5.setCell ⟨g1, 44, none⟩ (.slice (some ⟨go, 0, none⟩) p.o.length capx)) g1 p (.slice (some ⟨go, 0, none⟩) p.o.length capx) (.slice ad p.d.length capd)) := (HB.out.on HG5.out.a).put 44 _ ((csP_set HAD.out _ _).2.2.2.2.2.2.2.2.2.2.2.2.1 p.o _)
    have hAW : Away [g1] w5 (w5.setCell ⟨g1, 44, none⟩ (.slice (some ⟨go, 0, none⟩) p.o.length capx)) := away_put 44 _
    have hgo : w2.heap.size ≤ go := HG5.out.n go rfl
    have HB2N : Hid (BoxP (w5.setCell ⟨g1, 44, none⟩ (.slice (some ⟨go, 0, none⟩) p.o.length capx)) g2 zeroPk (.slice none 0 0) (.slice none 0 0)) := (HB2.out.on HG5.out.a).away hAW (by simp; exact fun h => HSZ.out.2.2.2.2.2 h.symm)
    have HAN : Hid (Away [] w (w5.setCell ⟨g1, 44, none⟩ (.slice (some ⟨go, 0, none⟩) p.o.length capx))) := (HA.out.on HG5.out.a).next hAW (fun x hx => .inr (by simp at hx; rw [hx]; exact HSZ.out.2.2.2.1))
    have HLN1 : Hid (Lent B (w5.setCell ⟨g1, 44, none⟩ (.slice (some ⟨go, 0, none⟩) p.o.length capx)) (.slice (some ⟨go, 0, none⟩) p.o.length capx) p.o [165, 166]) := Lent.away (w := w5) ⟨go, capx, rfl, hcl, HG5.out.o, by have := HW.out; omega⟩ hAW (by simp; exact HSZ.out.2.1)
    have HWN : Hid (B ≤ (w5.setCell ⟨g1, 44, none⟩ (.slice (some ⟨go, 0, none⟩) p.o.length capx)).heap.size) := by have h1 := HW.out; have h2 := HG5.out.a.size; have h3 := hAW.size; exact Lib.hid (by omega)
    refine step_store26 rfl 12 11 rfl g1 44 rfl _ _ _ rfl _ c5 hfr (hK.out _ _ (by intro h; simp at h) ?_)
    clear hK K
    try simp only [Act.put]
    refine wpAnyU_done (by kernel_rfl) ?_ _
    generalize w5.setCell ⟨g1, 44, none⟩ (.slice (some ⟨go, 0, none⟩) p.o.length capx) = w3 at *
    clear HB HB2 HA HW HDR hS c5 hAW sl hfr HG5 
    have HB := HBN; have HB2 := HB2N; have HA := HAN; have HW := HWN
    clear HBN HB2N HAN HWN
    clear hcl hgo
    go_wp2_with fail
    have hS : w3.drew.cell? ⟨g1, 45, none⟩ = some (.slice ad p.d.length capd) := (HB.out.cells HAD.out).d
    refine wp_region_U 10 (fun w' => w'.cell? ⟨g1, 45, none⟩ = some (.slice ad p.d.length capd)) (by kernel_rfl) ?_
    refine wpAnyU_take (i := 0) (v := ?_) (by simp only [List.getElem?_toArray, List.getElem?_cons_zero]; rfl) (by kernel_rfl) (by kernel_rfl) (by kernel_rfl) (by decide) (by kernel_rfl) (by kernel_rfl) (by exact fun _ _ _ h => h) (Or.inl ⟨by rfl, ?_⟩) (by exact hS) ?_
    rotate_left
    · intro wq hSw
      (try dsimp only at hSw)
      go_simp
      all_goals (with_reducible rfl)
    try simp only [Act.put, List.setIfInBounds_toArray, List.set_cons_zero, List.set_cons_succ]
    refine wpAnyU_take (i := 1) (v := ?_) (by simp only [List.getElem?_toArray, List.getElem?_cons_succ, List.getElem?_cons_zero]; rfl) (by kernel_rfl) (by kernel_rfl) (by kernel_rfl) (by decide) (by kernel_rfl) (by kernel_rfl) (by exact fun _ _ _ h => h) (Or.inl ⟨by rfl, ?_⟩) (by exact hS) ?_
    rotate_left
    · intro wq hSw
      (try dsimp only at hSw)
      go_simp
      all_goals (with_reducible rfl)
    try simp only [Act.put, List.setIfInBounds_toArray, List.set_cons_zero, List.set_cons_succ]
    refine wpAnyU_take (i := 5) (v := ?_) (by simp only [List.getElem?_toArray, List.getElem?_cons_succ, List.getElem?_cons_zero]; rfl) (by kernel_rfl) (by kernel_rfl) (by kernel_rfl) (by decide) (by kernel_rfl) (by kernel_rfl) (by exact fun _ _ _ h => h) (Or.inl ⟨by rfl, ?_⟩) (by exact hS) ?_
    rotate_left
    · intro wq hSw
      (try dsimp only at hSw)
      go_simp
      all_goals (with_reducible rfl)
    try simp only [Act.put, List.setIfInBounds_toArray, List.set_cons_zero, List.set_cons_succ]
    refine wpAnyU_take (i := 6) (v := ?_) (by simp only [List.getElem?_toArray, List.getElem?_cons_succ, List.getElem?_cons_zero]; rfl) (by kernel_rfl) (by kernel_rfl) (by kernel_rfl) (by decide) (by kernel_rfl) (by kernel_rfl) (by exact fun _ _ _ h => h) (Or.inl ⟨by rfl, ?_⟩) (by exact hS) ?_
    rotate_left
    · intro wq hSw
      (try dsimp only at hSw)
      go_simp
      all_goals (with_reducible rfl)
    try simp only [Act.put, List.setIfInBounds_toArray, List.set_cons_zero, List.set_cons_succ]
    refine wpAnyU_take (i := 7) (v := ?_) (by simp only [List.getElem?_toArray, List.getElem?_cons_succ, List.getElem?_cons_zero]; rfl) (by kernel_rfl) (by kernel_rfl) (by kernel_rfl) (by decide) (by kernel_rfl) (by kernel_rfl) (by exact fun _ _ _ h => h) (Or.inl ⟨by rfl, ?_⟩) (by exact hS) ?_
    rotate_left
    · intro wq hSw
      (try dsimp only at hSw)
      go_simp
      all_goals (with_reducible rfl)
    try simp only [Act.put, List.setIfInBounds_toArray, List.set_cons_zero, List.set_cons_succ]
    have HDR : Hid (Away [] w3 w3.drew) := (Away.refl [] w3).drew
    refine wpAnyU_ready (rs := [2, 3]) (by kernel_rfl) (by simp) ?_
    refine ReadyU.cons (by simp only [List.getElem?_toArray, List.getElem?_cons_succ, List.getElem?_cons_zero]; rfl) (fun K hK => ?_) (ReadyU.cons (by simp only [List.getElem?_toArray, List.getElem?_cons_succ, List.getElem?_cons_zero]; rfl) (fun K hK => ?_) ReadyU.nil)
    · go_simp
      refine (own_any ad p.d _ capd _ rfl (by exact ((HD.out.on HA.out).on HDR.out).of.2.2.2)).mono ?_
      rintro E wa ⟨v3, rfl, ho3, hn3, haw3, hb3, hl3⟩
      have HG3 : Hid (Bag w3 wa v3 p.d) := ⟨ho3, hn3, HDR.out.on haw3⟩
      clear ho3 hn3 haw3 hb3 hl3
      have c3 := ((HB.out.on HG3.out.a).cells HAD.out).d
      go_wp2_with fail
      refine hK.out _ _ (fun _ => c3) ?_
      clear hK K
      try simp only [Act.put, List.setIfInBounds_toArray, List.set_cons_zero, List.set_cons_succ]
      refine wpAnyU_ready (rs := [3]) (by kernel_rfl) (by simp) ?_
      refine ReadyU.cons (by simp only [List.getElem?_toArray, List.getElem?_cons_succ, List.getElem?_cons_zero]; rfl) (fun K hK => ?_) ReadyU.nil
      have HG4 : Hid (Bag w3 (wa.alloc (.cells ([167, 168].map (Value.int .u8)).toArray 5)) v3 p.d) := HG3.out.on ((Away.refl [] wa).alloc _)
      have HRL : Hid (Row (wa.alloc (.cells ([167, 168].map (Value.int .u8)).toArray 5)) (some ⟨wa.heap.size, 0, none⟩) [167, 168]) := Row.lit wa _ HM2.out (by simp)
      obtain ⟨gl, hgl⟩ : ∃ gl, gl = wa.heap.size := ⟨_, rfl⟩
      obtain ⟨wb, hwb⟩ : ∃ wb, wb = wa.alloc (.cells ([167, 168].map (Value.int .u8)).toArray 5) := ⟨_, rfl⟩
      go_simp
      refine hK.out _ _ (fun _ => by exact ((HB.out.on HG4.out.a).cells HAD.out).d) ?_
      clear hK K
      try simp only [Act.put, List.setIfInBounds_toArray, List.set_cons_zero, List.set_cons_succ]
      rw [← hgl] at HRL ⊢
      rw [← hwb] at HG4 HRL
      simp only [List.map_cons, List.map_nil] at hwb
      rw [← hwb]
      clear hwb hgl HG3 c3
      refine wpAnyU_ready (rs := [4]) (by kernel_rfl) (by simp) ?_
      refine ReadyU.cons (by simp only [List.getElem?_toArray, List.getElem?_cons_succ, List.getElem?_cons_zero]; rfl) (fun K hK => ?_) ReadyU.nil
      refine step_app rfl (.tmp 15) (.tmp 16) rfl v3 p.d [167, 168] rfl (by exact HG4.out.o) ⟨gl, 0, none⟩ 2 2 rfl rfl (by exact HRL.out.src) (by omega) (fun v5 w5 r1 r2 r3 => ?_)
      have HG5 := Lib.hid (HG4.out.app r1 r2 r3)
      clear r1 r2 r3 HG4 HRL
      obtain ⟨g5, cap5, rfl, hc5⟩ := HG5.out.o.some' (by simp)
      have c5 := ((HB.out.on HG5.out.a).cells HAD.out).d
      refine hK.out _ _ (fun _ => c5) ?_
      clear hK K
      try simp only [Act.put, List.setIfInBounds_toArray, List.set_cons_zero, List.set_cons_succ]
      have hcl : p.d.length + 2 ≤ cap5 := by simpa using hc5
      have hln : (p.d ++ [167, 168]).length = p.d.length + 2 := by simp
      rw [hln] at HG5 ⊢
      clear hc5 hln
      have sl := slice_h (some ⟨g5, 0, none⟩) (p.d.length + 2) cap5 p.d.length (p.d.length : Int) rfl (by omega)
      refine wpAnyU_take (i := 8) (v := ?_) (by simp only [List.getElem?_toArray, List.getElem?_cons_succ, List.getElem?_cons_zero]; rfl) (by kernel_rfl) (by kernel_rfl) (by kernel_rfl) (by decide) (by kernel_rfl) (by kernel_rfl) (by exact fun _ _ _ h => h) (Or.inl ⟨by rfl, ?_⟩) (by exact c5) ?_
      rotate_left
      · intro wq hSw
        (try dsimp only at hSw)
        go_simp
        all_goals (with_reducible rfl)
      try simp only [Act.put, List.setIfInBounds_toArray, List.set_cons_zero, List.set_cons_succ]
      refine wpAnyU_take (i := 9) (v := ?_) (by simp only [List.getElem?_toArray, List.getElem?_cons_succ, List.getElem?_cons_zero]; rfl) (by kernel_rfl) (by kernel_rfl) (by kernel_rfl) (by decide) (by kernel_rfl) (by kernel_rfl) (by exact fun _ _ _ h => h) (Or.inl ⟨by rfl, ?_⟩) (by exact c5) ?_
      rotate_left
      · intro wq hSw
        (try dsimp only at hSw)
        go_simp
        all_goals (with_reducible rfl)
      try simp only [Act.put, List.setIfInBounds_toArray, List.set_cons_zero, List.set_cons_succ]
      refine wpAnyU_ready (rs := [10]) (by kernel_rfl) (by simp) ?_
      refine ReadyU.cons (by simp only [List.getElem?_toArray, List.getElem?_cons_succ, List.getElem?_cons_zero]; rfl) (fun K hK => ?_) ReadyU.nil
      have hfr := (HB.out.on HG5.out.a).free 45
      have HBN : Hid (BoxP (w5.setCell ⟨g1, 45, none⟩ (.slice (some ⟨g5, 0, none⟩) p.d.length cap5)) g1 p (.slice (some ⟨go, 0, none⟩) p.o.length capx) (.slice (some ⟨g5, 0, none⟩) p.d.length cap5)) := (HB.out.on HG5.out.a).put 45 _ ((csP_set HAD.out _ _).2.2.2.2.2.2.2.2.2.2.2.2.2 p.d _)
      have hAW : Away [g1] w5 (w5.setCell ⟨g1, 45, none⟩ (.slice (some ⟨g5, 0, none⟩) p.d.length cap5)) := away_put 45 _
      have hg5 : w3.heap.size ≤ g5 := HG5.out.n g5 rfl
      have HGG : Hid (go ≠ g5) := fun e => by have h1 := HLN1.out.lt; omega
      have HB2N : Hid (BoxP (w5.setCell ⟨g1, 45, none⟩ (.slice (some ⟨g5, 0, none⟩) p.d.length cap5)) g2 zeroPk (.slice none 0 0) (.slice none 0 0)) := (HB2.out.on HG5.out.a).away hAW (by simp; exact fun h => HSZ.out.2.2.2.2.2 h.symm)
      have HAN : Hid (Away [] w (w5.setCell ⟨g1, 45, none⟩ (.slice (some ⟨g5, 0, none⟩) p.d.length cap5))) := (HA.out.on HG5.out.a).next hAW (fun x hx => .inr (by simp at hx; rw [hx]; exact HSZ.out.2.2.2.1))
      have HLN2 : Hid (Lent B (w5.setCell ⟨g1, 45, none⟩ (.slice (some ⟨g5, 0, none⟩) p.d.length cap5)) (.slice (some ⟨g5, 0, none⟩) p.d.length cap5) p.d [167, 168]) := Lent.away (w := w5) ⟨g5, cap5, rfl, hcl, HG5.out.o, by have := HW.out; omega⟩ hAW (by simp; exact HSZ.out.2.1)
      have HLX := Lib.hid ((HLN1.out.away HG5.out.a (by simp)).away hAW (by simp; exact HSZ.out.2.1))
      have HWN : Hid (B ≤ (w5.setCell ⟨g1, 45, none⟩ (.slice (some ⟨g5, 0, none⟩) p.d.length cap5)).heap.size) := by have h1 := HW.out; have h2 := HG5.out.a.size; have h3 := hAW.size; exact Lib.hid (by omega)
      refine step_store26 rfl 22 21 rfl g1 45 rfl _ _ _ rfl _ c5 hfr (hK.out _ _ (by intro h; simp at h) ?_)
      clear hK K
      try simp only [Act.put]
      refine wpAnyU_done (by kernel_rfl) ?_ _
      generalize w5.setCell ⟨g1, 45, none⟩ (.slice (some ⟨g5, 0, none⟩) p.d.length cap5) = w4 at *
      clear HB HB2 HA HW HDR hS c5 hAW sl hfr HG5 HLN1
      have HB := HBN; have HB2 := HB2N; have HA := HAN; have HW := HWN
      clear HBN HB2N HAN HWN
      go_wp2_with (first
        | (refine wpList_load28 rfl _ rfl _ rfl p _ _ (by exact HB.out) HAD.out ?_)
        | (refine wpList_store28 rfl _ _ rfl _ rfl p _ _ rfl zeroPk (.slice none 0 0) (.slice none 0 0) (by exact HB2.out) HAD.out ⟨rfl, rfl⟩ rfl rfl ?_; refine Hid.out ?_))
      refine Lib.hid ?_
      intro w5 hb5 haw5
      have HB5 := Lib.hid hb5
      have HL1 := Lib.hid ((HLX.out.away haw5 (by simp; exact HSZ.out.2.2.1)).mono HSZ.out.1)
      have HL2 := Lib.hid ((HLN2.out.away haw5 (by simp; exact HSZ.out.2.2.1)).mono HSZ.out.1)
      have HA5 := Lib.hid (HA.out.next haw5 (fun x hx => .inr (by simp at hx; rw [hx]; exact HSZ.out.2.2.2.2.1)))
      clear hb5 haw5 HB HB2 HA HLX HLN2
      go_wp2_with fail
      refine bodyPost_ret (result28 rfl _ _ _ _ _ _ rfl HB5.out HAD.out) rfl ⟨_, _, rfl, HL1.out, HL2.out, fun k hk e => HGG.out (by simp only [Value.ownBlock, Option.some.injEq] at hk e; rw [hk, e]), HA5.out⟩
    · have HG2 : Hid (Away [] w3 (w3.alloc (.cells ([167, 168].map (Value.int .u8)).toArray 5)).drew) := ((Away.refl [] w3).alloc _).drew
      have HRL0 : Hid (Row (w3.alloc (.cells ([167, 168].map (Value.int .u8)).toArray 5)).drew (some ⟨w3.heap.size, 0, none⟩) [167, 168]) := (Row.lit w3 _ HM2.out (by simp)).on (Away.refl [] _).drew
      obtain ⟨gl, hgl⟩ : ∃ gl, gl = w3.heap.size := ⟨_, rfl⟩
      obtain ⟨wa, hwa⟩ : ∃ wa, wa = (w3.alloc (.cells ([167, 168].map (Value.int .u8)).toArray 5)).drew := ⟨_, rfl⟩
      go_simp
      refine hK.out _ _ (fun _ => by exact ((HB.out.on HG2.out).cells HAD.out).d) ?_
      clear hK K
      try simp only [Act.put, List.setIfInBounds_toArray, List.set_cons_zero, List.set_cons_succ]
      rw [← hgl] at HRL0
      rw [← hwa] at HG2 HRL0
      simp only [List.map_cons, List.map_nil] at hwa
      rw [← hwa]
      rw [← hgl]
      clear hwa hgl
      refine wpAnyU_ready (rs := [2]) (by kernel_rfl) (by simp) ?_
      refine ReadyU.cons (by simp only [List.getElem?_toArray, List.getElem?_cons_succ, List.getElem?_cons_zero]; rfl) (fun K hK => ?_) ReadyU.nil
      go_simp
      refine (own_any ad p.d _ capd _ rfl (by exact ((HD.out.on HA.out).on HG2.out).of.2.2.2)).mono ?_
      rintro E wb ⟨v3, rfl, ho3, hn3, haw3, hb3, hl3⟩
      have HG4 : Hid (Bag w3 wb v3 p.d) := ⟨ho3, hn3.mono HG2.out.size, HG2.out.on haw3⟩
      have HRL := Lib.hid (HRL0.out.on haw3)
      clear ho3 hn3 haw3 hb3 hl3 HRL0 HG2
      have c3 := ((HB.out.on HG4.out.a).cells HAD.out).d
      go_wp2_with fail
      refine hK.out _ _ (fun _ => c3) ?_
      clear hK K c3
      try simp only [Act.put, List.setIfInBounds_toArray, List.set_cons_zero, List.set_cons_succ]
      refine wpAnyU_ready (rs := [4]) (by kernel_rfl) (by simp) ?_
      refine ReadyU.cons (by simp only [List.getElem?_toArray, List.getElem?_cons_succ, List.getElem?_cons_zero]; rfl) (fun K hK => ?_) ReadyU.nil
      refine step_app rfl (.tmp 15) (.tmp 16) rfl v3 p.d [167, 168] rfl (by exact HG4.out.o) ⟨gl, 0, none⟩ 2 2 rfl rfl (by exact HRL.out.src) (by omega) (fun v5 w5 r1 r2 r3 => ?_)
      have HG5 := Lib.hid (HG4.out.app r1 r2 r3)
      clear r1 r2 r3 HG4 HRL
      obtain ⟨g5, cap5, rfl, hc5⟩ := HG5.out.o.some' (by simp)
      have c5 := ((HB.out.on HG5.out.a).cells HAD.out).d
      refine hK.out _ _ (fun _ => c5) ?_
      clear hK K
      try simp only [Act.put, List.setIfInBounds_toArray, List.set_cons_zero, List.set_cons_succ]
      have hcl : p.d.length + 2 ≤ cap5 := by simpa using hc5
      have hln : (p.d ++ [167, 168]).length = p.d.length + 2 := by simp
      rw [hln] at HG5 ⊢
      clear hc5 hln
      have sl := slice_h (some ⟨g5, 0, none⟩) (p.d.length + 2) cap5 p.d.length (p.d.length : Int) rfl (by omega)
      refine wpAnyU_take (i := 8) (v := ?_) (by simp only [List.getElem?_toArray, List.getElem?_cons_succ, List.getElem?_cons_zero]; rfl) (by kernel_rfl) (by kernel_rfl) (by kernel_rfl) (by decide) (by kernel_rfl) (by kernel_rfl) (by exact fun _ _ _ h => h) (Or.inl ⟨by rfl, ?_⟩) (by exact c5) ?_
      rotate_left
      · intro wq hSw
        (try dsimp only at hSw)
        go_simp
        all_goals (with_reducible rfl)
      try simp only [Act.put, List.setIfInBounds_toArray, List.set_cons_zero, List.set_cons_succ]
      refine wpAnyU_take (i := 9) (v := ?_) (by simp only [List.getElem?_toArray, List.getElem?_cons_succ, List.getElem?_cons_zero]; rfl) (by kernel_rfl) (by kernel_rfl) (by kernel_rfl) (by decide) (by kernel_rfl) (by kernel_rfl) (by exact fun _ _ _ h => h) (Or.inl ⟨by rfl, ?_⟩) (by exact c5) ?_
      rotate_left
      · intro wq hSw
        (try dsimp only at hSw)
        go_simp
        all_goals (with_reducible rfl)
      try simp only [Act.put, List.setIfInBounds_toArray, List.set_cons_zero, List.set_cons_succ]
      refine wpAnyU_ready (rs := [10]) (by kernel_rfl) (by simp) ?_
      refine ReadyU.cons (by simp only [List.getElem?_toArray, List.getElem?_cons_succ, List.getElem?_cons_zero]; rfl) (fun K hK => ?_) ReadyU.nil
      have hfr := (HB.out.on HG5.out.a).free 45
      have HBN : Hid (BoxP (w5.setCell ⟨g1, 45, none⟩ (.slice (some ⟨g5, 0, none⟩) p.d.length cap5)) g1 p (.slice (some ⟨go, 0, none⟩) p.o.length capx) (.slice (some ⟨g5, 0, none⟩) p.d.length cap5)) := (HB.out.on HG5.out.a).put 45 _ ((csP_set HAD.out _ _).2.2.2.2.2.2.2.2.2.2.2.2.2 p.d _)
      have hAW : Away [g1] w5 (w5.setCell ⟨g1, 45, none⟩ (.slice (some ⟨g5, 0, none⟩) p.d.length cap5)) := away_put 45 _
      have hg5 : w3.heap.size ≤ g5 := HG5.out.n g5 rfl
      have HGG : Hid (go ≠ g5) := fun e => by have h1 := HLN1.out.lt; omega
      have HB2N : Hid (BoxP (w5.setCell ⟨g1, 45, none⟩ (.slice (some ⟨g5, 0, none⟩) p.d.length cap5)) g2 zeroPk (.slice none 0 0) (.slice none 0 0)) := (HB2.out.on HG5.out.a).away hAW (by simp; exact fun h => HSZ.out.2.2.2.2.2 h.symm)
      have HAN : Hid (Away [] w (w5.setCell ⟨g1, 45, none⟩ (.slice (some ⟨g5, 0, none⟩) p.d.length cap5))) := (HA.out.on HG5.out.a).next hAW (fun x hx => .inr (by simp at hx; rw [hx]; exact HSZ.out.2.2.2.1))
      have HLN2 : Hid (Lent B (w5.setCell ⟨g1, 45, none⟩ (.slice (some ⟨g5, 0, none⟩) p.d.length cap5)) (.slice (some ⟨g5, 0, none⟩) p.d.length cap5) p.d [167, 168]) := Lent.away (w := w5) ⟨g5, cap5, rfl, hcl, HG5.out.o, by have := HW.out; omega⟩ hAW (by simp; exact HSZ.out.2.1)
      have HLX := Lib.hid ((HLN1.out.away HG5.out.a (by simp)).away hAW (by simp; exact HSZ.out.2.1))
      have HWN : Hid (B ≤ (w5.setCell ⟨g1, 45, none⟩ (.slice (some ⟨g5, 0, none⟩) p.d.length cap5)).heap.size) := by have h1 := HW.out; have h2 := HG5.out.a.size; have h3 := hAW.size; exact Lib.hid (by omega)
      refine step_store26 rfl 22 21 rfl g1 45 rfl _ _ _ rfl _ c5 hfr (hK.out _ _ (by intro h; simp at h) ?_)
      clear hK K
      try simp only [Act.put]
      refine wpAnyU_done (by kernel_rfl) ?_ _
      generalize w5.setCell ⟨g1, 45, none⟩ (.slice (some ⟨g5, 0, none⟩) p.d.length cap5) = w4 at *
      clear HB HB2 HA HW HDR hS c5 hAW sl hfr HG5 HLN1
      have HB := HBN; have HB2 := HB2N; have HA := HAN; have HW := HWN
      clear HBN HB2N HAN HWN
      go_wp2_with (first
        | (refine wpList_load28 rfl _ rfl _ rfl p _ _ (by exact HB.out) HAD.out ?_)
        | (refine wpList_store28 rfl _ _ rfl _ rfl p _ _ rfl zeroPk (.slice none 0 0) (.slice none 0 0) (by exact HB2.out) HAD.out ⟨rfl, rfl⟩ rfl rfl ?_; refine Hid.out ?_))
      refine Lib.hid ?_
      intro w5 hb5 haw5
      have HB5 := Lib.hid hb5
      have HL1 := Lib.hid ((HLX.out.away haw5 (by simp; exact HSZ.out.2.2.1)).mono HSZ.out.1)
      have HL2 := Lib.hid ((HLN2.out.away haw5 (by simp; exact HSZ.out.2.2.1)).mono HSZ.out.1)
      have HA5 := Lib.hid (HA.out.next haw5 (fun x hx => .inr (by simp at hx; rw [hx]; exact HSZ.out.2.2.2.2.1)))
      clear hb5 haw5 HB HB2 HA HLX HLN2
      go_wp2_with fail
      refine bodyPost_ret (result28 rfl _ _ _ _ _ _ rfl HB5.out HAD.out) rfl ⟨_, _, rfl, HL1.out, HL2.out, fun k hk e => HGG.out (by simp only [Value.ownBlock, Option.some.injEq] at hk e; rw [hk, e]), HA5.out⟩
  · have HG2 : Hid (Away [] w2 (w2.alloc (.cells ([165, 166].map (Value.int .u8)).toArray 5)).drew) := ((Away.refl [] w2).alloc _).drew
    have HRL0 : Hid (Row (w2.alloc (.cells ([165, 166].map (Value.int .u8)).toArray 5)).drew (some ⟨w2.heap.size, 0, none⟩) [165, 166]) := (Row.lit w2 _ HM1.out (by simp)).on (Away.refl [] _).drew
    obtain ⟨gl, hgl⟩ : ∃ gl, gl = w2.heap.size := ⟨_, rfl⟩
    obtain ⟨wa, hwa⟩ : ∃ wa, wa = (w2.alloc (.cells ([165, 166].map (Value.int .u8)).toArray 5)).drew := ⟨_, rfl⟩
    go_simp
    refine hK.out _ _ (fun _ => by exact ((HB.out.on HG2.out).cells HAD.out).o) ?_
    clear hK K
    try simp only [Act.put, List.setIfInBounds_toArray, List.set_cons_zero, List.set_cons_succ]
    rw [← hgl] at HRL0
    rw [← hwa] at HG2 HRL0
    simp only [List.map_cons, List.map_nil] at hwa
    rw [← hwa]
    rw [← hgl]
    clear hwa hgl
    refine wpAnyU_ready (rs := [2]) (by kernel_rfl) (by simp) ?_
    refine ReadyU.cons (by simp only [List.getElem?_toArray, List.getElem?_cons_succ, List.getElem?_cons_zero]; rfl) (fun K hK => ?_) ReadyU.nil
    go_simp
    refine (own_any ao p.o _ capo _ rfl (by exact ((HO.out.on HA.out).on HG2.out).of.2.2.2)).mono ?_
    rintro E wb ⟨v3, rfl, ho3, hn3, haw3, hb3, hl3⟩
    have HG4 : Hid (Bag w2 wb v3 p.o) := ⟨ho3, hn3.mono HG2.out.size, HG2.out.on haw3⟩
    have HRL := Lib.hid (HRL0.out.on haw3)
    clear ho3 hn3 haw3 hb3 hl3 HRL0 HG2
    have c3 := ((HB.out.on HG4.out.a).cells HAD.out).o
    go_wp2_with fail
    refine hK.out _ _ (fun _ => c3) ?_
    clear hK K c3
    try simp only [Act.put, List.setIfInBounds_toArray, List.set_cons_zero, List.set_cons_succ]
    refine wpAnyU_ready (rs := [4]) (by kernel_rfl) (by simp) ?_
    refine ReadyU.cons (by simp only [List.getElem?_toArray, List.getElem?_cons_succ, List.getElem?_cons_zero]; rfl) (fun K hK => ?_) ReadyU.nil
    refine step_app rfl (.tmp 5) (.tmp 6) rfl v3 p.o [165, 166] rfl (by exact HG4.out.o) ⟨gl, 0, none⟩ 2 2 rfl rfl (by exact HRL.out.src) (by omega) (fun v5 w5 r1 r2 r3 => ?_)
    have HG5 := Lib.hid (HG4.out.app r1 r2 r3)
    clear r1 r2 r3 HG4 HRL
    obtain ⟨go, capx, rfl, hc5⟩ := HG5.out.o.some' (by simp)
    have c5 := ((HB.out.on HG5.out.a).cells HAD.out).o
    refine hK.out _ _ (fun _ => c5) ?_
    clear hK K
    try simp only [Act.put, List.setIfInBounds_toArray, List.set_cons_zero, List.set_cons_succ]
    have hcl : p.o.length + 2 ≤ capx := by simpa using hc5
    have hln : (p.o ++ [165, 166]).length = p.o.length + 2 := by simp
    rw [hln] at HG5 ⊢
    clear hc5 hln
    have sl := slice_h (some ⟨go, 0, none⟩) (p.o.length + 2) capx p.o.length (p.o.length : Int) rfl (by omega)
    refine wpAnyU_take (i := 8) (v := ?_) (by simp only [List.getElem?_toArray, List.getElem?_cons_succ, List.getElem?_cons_zero]; rfl) (by kernel_rfl) (by kernel_rfl) (by kernel_rfl) (by decide) (by kernel_rfl) (by kernel_rfl) (by exact fun _ _ _ h => h) (Or.inl ⟨by rfl, ?_⟩) (by exact c5) ?_
    rotate_left
    · intro wq hSw
      (try dsimp only at hSw)
      go_simp
      all_goals (with_reducible rfl)
    try simp only [Act.put, List.setIfInBounds_toArray, List.set_cons_zero, List.set_cons_succ]
    refine wpAnyU_take (i := 9) (v := ?_) (by simp only [List.getElem?_toArray, List.getElem?_cons_succ, List.getElem?_cons_zero]; rfl) (by kernel_rfl) (by kernel_rfl) (by kernel_rfl) (by decide) (by kernel_rfl) (by kernel_rfl) (by exact fun _ _ _ h => h) (Or.inl ⟨by rfl, ?_⟩) (by exact c5) ?_
    rotate_left
    · intro wq hSw
      (try dsimp only at hSw)
      go_simp
      all_goals (with_reducible rfl)
    try simp only [Act.put, List.setIfInBounds_toArray, List.set_cons_zero, List.set_cons_succ]
    refine wpAnyU_ready (rs := [10]) (by kernel_rfl) (by simp) ?_
    refine ReadyU.cons (by simp only [List.getElem?_toArray, List.getElem?_cons_succ, List.getElem?_cons_zero]; rfl) (fun K hK => ?_) ReadyU.nil
    have hfr := (HB.out.on HG5.out.a).free 44
    have HBN : Hid (BoxP (w5.setCell ⟨g1, 44, none⟩ (.slice (some ⟨go, 0, none⟩) p.o.length capx)) g1 p (.slice (some ⟨go, 0, none⟩) p.o.length capx) (.slice ad p.d.length capd)) := (HB.out.on HG5.out.a).put 44 _ ((csP_set HAD.out _ _).2.2.2.2.2.2.2.2.2.2.2.2.1 p.o _)
    have hAW : Away [g1] w5 (w5.setCell ⟨g1, 44, none⟩ (.slice (some ⟨go, 0, none⟩) p.o.length capx)) := away_put 44 _
    have hgo : w2.heap.size ≤ go := HG5.out.n go rfl
    have HB2N : Hid (BoxP (w5.setCell ⟨g1, 44, none⟩ (.slice (some ⟨go, 0, none⟩) p.o.length capx)) g2 zeroPk (.slice none 0 0) (.slice none 0 0)) := (HB2.out.on HG5.out.a).away hAW (by simp; exact fun h => HSZ.out.2.2.2.2.2 h.symm)
    have HAN : Hid (Away [] w (w5.setCell ⟨g1, 44, none⟩ (.slice (some ⟨go, 0, none⟩) p.o.length capx))) := (HA.out.on HG5.out.a).next hAW (fun x hx => .inr (by simp at hx; rw [hx]; exact HSZ.out.2.2.2.1))
    have HLN1 : Hid (Lent B (w5.setCell ⟨g1, 44, none⟩ (.slice (some ⟨go, 0, none⟩) p.o.length capx)) (.slice (some ⟨go, 0, none⟩) p.o.length capx) p.o [165, 166]) := Lent.away (w := w5) ⟨go, capx, rfl, hcl, HG5.out.o, by have := HW.out; omega⟩ hAW (by simp; exact HSZ.out.2.1)
    have HWN : Hid (B ≤ (w5.setCell ⟨g1, 44, none⟩ (.slice (some ⟨go, 0, none⟩) p.o.length capx)).heap.size) := by have h1 := HW.out; have h2 := HG5.out.a.size; have h3 := hAW.size; exact Lib.hid (by omega)
    refine step_store26 rfl 12 11 rfl g1 44 rfl _ _ _ rfl _ c5 hfr (hK.out _ _ (by intro h; simp at h) ?_)
    clear hK K
    try simp only [Act.put]
    refine wpAnyU_done (by kernel_rfl) ?_ _
    generalize w5.setCell ⟨g1, 44, none⟩ (.slice (some ⟨go, 0, none⟩) p.o.length capx) = w3 at *
    clear HB HB2 HA HW HDR hS c5 hAW sl hfr HG5 
    have HB := HBN; have HB2 := HB2N; have HA := HAN; have HW := HWN
    clear HBN HB2N HAN HWN
    clear hcl hgo
    go_wp2_with fail
    have hS : w3.drew.cell? ⟨g1, 45, none⟩ = some (.slice ad p.d.length capd) := (HB.out.cells HAD.out).d
    refine wp_region_U 10 (fun w' => w'.cell? ⟨g1, 45, none⟩ = some (.slice ad p.d.length capd)) (by kernel_rfl) ?_
    refine wpAnyU_take (i := 0) (v := ?_) (by simp only [List.getElem?_toArray, List.getElem?_cons_zero]; rfl) (by kernel_rfl) (by kernel_rfl) (by kernel_rfl) (by decide) (by kernel_rfl) (by kernel_rfl) (by exact fun _ _ _ h => h) (Or.inl ⟨by rfl, ?_⟩) (by exact hS) ?_
    rotate_left
    · intro wq hSw
      (try dsimp only at hSw)
      go_simp
      all_goals (with_reducible rfl)
    try simp only [Act.put, List.setIfInBounds_toArray, List.set_cons_zero, List.set_cons_succ]
    refine wpAnyU_take (i := 1) (v := ?_) (by simp only [List.getElem?_toArray, List.getElem?_cons_succ, List.getElem?_cons_zero]; rfl) (by kernel_rfl) (by kernel_rfl) (by kernel_rfl) (by decide) (by kernel_rfl) (by kernel_rfl) (by exact fun _ _ _ h => h) (Or.inl ⟨by rfl, ?_⟩) (by exact hS) ?_
    rotate_left
    · intro wq hSw
      (try dsimp only at hSw)
      go_simp
      all_goals (with_reducible rfl)
    try simp only [Act.put, List.setIfInBounds_toArray, List.set_cons_zero, List.set_cons_succ]
    refine wpAnyU_take (i := 5) (v := ?_) (by simp only [List.getElem?_toArray, List.getElem?_cons_succ, List.getElem?_cons_zero]; rfl) (by kernel_rfl) (by kernel_rfl) (by kernel_rfl) (by decide) (by kernel_rfl) (by kernel_rfl) (by exact fun _ _ _ h => h) (Or.inl ⟨by rfl, ?_⟩) (by exact hS) ?_
    rotate_left
    · intro wq hSw
      (try dsimp only at hSw)
      go_simp
      all_goals (with_reducible rfl)
    try simp only [Act.put, List.setIfInBounds_toArray, List.set_cons_zero, List.set_cons_succ]
    refine wpAnyU_take (i := 6) (v := ?_) (by simp only [List.getElem?_toArray, List.getElem?_cons_succ, List.getElem?_cons_zero]; rfl) (by kernel_rfl) (by kernel_rfl) (by kernel_rfl) (by decide) (by kernel_rfl) (by kernel_rfl) (by exact fun _ _ _ h => h) (Or.inl ⟨by rfl, ?_⟩) (by exact hS) ?_
    rotate_left
    · intro wq hSw
      (try dsimp only at hSw)
      go_simp
      all_goals (with_reducible rfl)
    try simp only [Act.put, List.setIfInBounds_toArray, List.set_cons_zero, List.set_cons_succ]
    refine wpAnyU_take (i := 7) (v := ?_) (by simp only [List.getElem?_toArray, List.getElem?_cons_succ, List.getElem?_cons_zero]; rfl) (by kernel_rfl) (by kernel_rfl) (by kernel_rfl) (by decide) (by kernel_rfl) (by kernel_rfl) (by exact fun _ _ _ h => h) (Or.inl ⟨by rfl, ?_⟩) (by exact hS) ?_
    rotate_left
    · intro wq hSw
      (try dsimp only at hSw)
      go_simp
      all_goals (with_reducible rfl)
    try simp only [Act.put, List.setIfInBounds_toArray, List.set_cons_zero, List.set_cons_succ]
    have HDR : Hid (Away [] w3 w3.drew) := (Away.refl [] w3).drew
    refine wpAnyU_ready (rs := [2, 3]) (by kernel_rfl) (by simp) ?_
    refine ReadyU.cons (by simp only [List.getElem?_toArray, List.getElem?_cons_succ, List.getElem?_cons_zero]; rfl) (fun K hK => ?_) (ReadyU.cons (by simp only [List.getElem?_toArray, List.getElem?_cons_succ, List.getElem?_cons_zero]; rfl) (fun K hK => ?_) ReadyU.nil)
    · go_simp
      refine (own_any ad p.d _ capd _ rfl (by exact ((HD.out.on HA.out).on HDR.out).of.2.2.2)).mono ?_
      rintro E wa ⟨v3, rfl, ho3, hn3, haw3, hb3, hl3⟩
      have HG3 : Hid (Bag w3 wa v3 p.d) := ⟨ho3, hn3, HDR.out.on haw3⟩
      clear ho3 hn3 haw3 hb3 hl3
      have c3 := ((HB.out.on HG3.out.a).cells HAD.out).d
      go_wp2_with fail
      refine hK.out _ _ (fun _ => c3) ?_
      clear hK K
      try simp only [Act.put, List.setIfInBounds_toArray, List.set_cons_zero, List.set_cons_succ]
      refine wpAnyU_ready (rs := [3]) (by kernel_rfl) (by simp) ?_
      refine ReadyU.cons (by simp only [List.getElem?_toArray, List.getElem?_cons_succ, List.getElem?_cons_zero]; rfl) (fun K hK => ?_) ReadyU.nil
      have HG4 : Hid (Bag w3 (wa.alloc (.cells ([167, 168].map (Value.int .u8)).toArray 5)) v3 p.d) := HG3.out.on ((Away.refl [] wa).alloc _)
      have HRL : Hid (Row (wa.alloc (.cells ([167, 168].map (Value.int .u8)).toArray 5)) (some ⟨wa.heap.size, 0, none⟩) [167, 168]) := Row.lit wa _ HM2.out (by simp)
      obtain ⟨gl, hgl⟩ : ∃ gl, gl = wa.heap.size := ⟨_, rfl⟩
      obtain ⟨wb, hwb⟩ : ∃ wb, wb = wa.alloc (.cells ([167, 168].map (Value.int .u8)).toArray 5) := ⟨_, rfl⟩
      go_simp
      refine hK.out _ _ (fun _ => by exact ((HB.out.on HG4.out.a).cells HAD.out).d) ?_
      clear hK K
      try simp only [Act.put, List.setIfInBounds_toArray, List.set_cons_zero, List.set_cons_succ]
      rw [← hgl] at HRL ⊢
      rw [← hwb] at HG4 HRL
      simp only [List.map_cons, List.map_nil] at hwb
      rw [← hwb]
      clear hwb hgl HG3 c3
      refine wpAnyU_ready (rs := [4]) (by kernel_rfl) (by simp) ?_
      refine ReadyU.cons (by simp only [List.getElem?_toArray, List.getElem?_cons_succ, List.getElem?_cons_zero]; rfl) (fun K hK => ?_) ReadyU.nil
      refine step_app rfl (.tmp 15) (.tmp 16) rfl v3 p.d [167, 168] rfl (by exact HG4.out.o) ⟨gl, 0, none⟩ 2 2 rfl rfl (by exact HRL.out.src) (by omega) (fun v5 w5 r1 r2 r3 => ?_)
      have HG5 := Lib.hid (HG4.out.app r1 r2 r3)
      clear r1 r2 r3 HG4 HRL
      obtain ⟨g5, cap5, rfl, hc5⟩ := HG5.out.o.some' (by simp)
      have c5 := ((HB.out.on HG5.out.a).cells HAD.out).d
      refine hK.out _ _ (fun _ => c5) ?_
      clear hK K
      try simp only [Act.put, List.setIfInBounds_toArray, List.set_cons_zero, List.set_cons_succ]
      have hcl : p.d.length + 2 ≤ cap5 := by simpa using hc5
      have hln : (p.d ++ [167, 168]).length = p.d.length + 2 := by simp
      rw [hln] at HG5 ⊢
      clear hc5 hln
      have sl := slice_h (some ⟨g5, 0, none⟩) (p.d.length + 2) cap5 p.d.length (p.d.length : Int) rfl (by omega)
      refine wpAnyU_take (i := 8) (v := ?_) (by simp only [List.getElem?_toArray, List.getElem?_cons_succ, List.getElem?_cons_zero]; rfl) (by kernel_rfl) (by kernel_rfl) (by kernel_rfl) (by decide) (by kernel_rfl) (by kernel_rfl) (by exact fun _ _ _ h => h) (Or.inl ⟨by rfl, ?_⟩) (by exact c5) ?_
      rotate_left
      · intro wq hSw
        (try dsimp only at hSw)
        go_simp
        all_goals (with_reducible rfl)
      try simp only [Act.put, List.setIfInBounds_toArray, List.set_cons_zero, List.set_cons_succ]
      refine wpAnyU_take (i := 9) (v := ?_) (by simp only [List.getElem?_toArray, List.getElem?_cons_succ, List.getElem?_cons_zero]; rfl) (by kernel_rfl) (by kernel_rfl) (by kernel_rfl) (by decide) (by kernel_rfl) (by kernel_rfl) (by exact fun _ _ _ h => h) (Or.inl ⟨by rfl, ?_⟩) (by exact c5) ?_
      rotate_left
      · intro wq hSw
        (try dsimp only at hSw)
        go_simp
        all_goals (with_reducible rfl)
      try simp only [Act.put, List.setIfInBounds_toArray, List.set_cons_zero, List.set_cons_succ]
      refine wpAnyU_ready (rs := [10]) (by kernel_rfl) (by simp) ?_
      refine ReadyU.cons (by simp only [List.getElem?_toArray, List.getElem?_cons_succ, List.getElem?_cons_zero]; rfl) (fun K hK => ?_) ReadyU.nil
      have hfr := (HB.out.on HG5.out.a).free 45
      have HBN : Hid (BoxP (w5.setCell ⟨g1, 45, none⟩ (.slice (some ⟨g5, 0, none⟩) p.d.length cap5)) g1 p (.slice (some ⟨go, 0, none⟩) p.o.length capx) (.slice (some ⟨g5, 0, none⟩) p.d.length cap5)) := (HB.out.on HG5.out.a).put 45 _ ((csP_set HAD.out _ _).2.2.2.2.2.2.2.2.2.2.2.2.2 p.d _)
      have hAW : Away [g1] w5 (w5.setCell ⟨g1, 45, none⟩ (.slice (some ⟨g5, 0, none⟩) p.d.length cap5)) := away_put 45 _
      have hg5 : w3.heap.size ≤ g5 := HG5.out.n g5 rfl
      have HGG : Hid (go ≠ g5) := fun e => by have h1 := HLN1.out.lt; omega
      have HB2N : Hid (BoxP (w5.setCell ⟨g1, 45, none⟩ (.slice (some ⟨g5, 0, none⟩) p.d.length cap5)) g2 zeroPk (.slice none 0 0) (.slice none 0 0)) := (HB2.out.on HG5.out.a).away hAW (by simp; exact fun h => HSZ.out.2.2.2.2.2 h.symm)
      have HAN : Hid (Away [] w (w5.setCell ⟨g1, 45, none⟩ (.slice (some ⟨g5, 0, none⟩) p.d.length cap5))) := (HA.out.on HG5.out.a).next hAW (fun x hx => .inr (by simp at hx; rw [hx]; exact HSZ.out.2.2.2.1))
      have HLN2 : Hid (Lent B (w5.setCell ⟨g1, 45, none⟩ (.slice (some ⟨g5, 0, none⟩) p.d.length cap5)) (.slice (some ⟨g5, 0, none⟩) p.d.length cap5) p.d [167, 168]) := Lent.away (w := w5) ⟨g5, cap5, rfl, hcl, HG5.out.o, by have := HW.out; omega⟩ hAW (by simp; exact HSZ.out.2.1)
      have HLX := Lib.hid ((HLN1.out.away HG5.out.a (by simp)).away hAW (by simp; exact HSZ.out.2.1))
      have HWN : Hid (B ≤ (w5.setCell ⟨g1, 45, none⟩ (.slice (some ⟨g5, 0, none⟩) p.d.length cap5)).heap.size) := by have h1 := HW.out; have h2 := HG5.out.a.size; have h3 := hAW.size; exact Lib.hid (by omega)
      refine step_store26 rfl 22 21 rfl g1 45 rfl _ _ _ rfl _ c5 hfr (hK.out _ _ (by intro h; simp at h) ?_)
      clear hK K
      try simp only [Act.put]
      refine wpAnyU_done (by kernel_rfl) ?_ _
      generalize w5.setCell ⟨g1, 45, none⟩ (.slice (some ⟨g5, 0, none⟩) p.d.length cap5) = w4 at *
      clear HB HB2 HA HW HDR hS c5 hAW sl hfr HG5 HLN1
      have HB := HBN; have HB2 := HB2N; have HA := HAN; have HW := HWN
      clear HBN HB2N HAN HWN
      go_wp2_with (first
        | (refine wpList_load28 rfl _ rfl _ rfl p _ _ (by exact HB.out) HAD.out ?_)
        | (refine wpList_store28 rfl _ _ rfl _ rfl p _ _ rfl zeroPk (.slice none 0 0) (.slice none 0 0) (by exact HB2.out) HAD.out ⟨rfl, rfl⟩ rfl rfl ?_; refine Hid.out ?_))
      refine Lib.hid ?_
      intro w5 hb5 haw5
      have HB5 := Lib.hid hb5
      have HL1 := Lib.hid ((HLX.out.away haw5 (by simp; exact HSZ.out.2.2.1)).mono HSZ.out.1)
      have HL2 := Lib.hid ((HLN2.out.away haw5 (by simp; exact HSZ.out.2.2.1)).mono HSZ.out.1)
      have HA5 := Lib.hid (HA.out.next haw5 (fun x hx => .inr (by simp at hx; rw [hx]; exact HSZ.out.2.2.2.2.1)))
      clear hb5 haw5 HB HB2 HA HLX HLN2
      go_wp2_with fail
      refine bodyPost_ret (result28 rfl _ _ _ _ _ _ rfl HB5.out HAD.out) rfl ⟨_, _, rfl, HL1.out, HL2.out, fun k hk e => HGG.out (by simp only [Value.ownBlock, Option.some.injEq] at hk e; rw [hk, e]), HA5.out⟩
    · have HG2 : Hid (Away [] w3 (w3.alloc (.cells ([167, 168].map (Value.int .u8)).toArray 5)).drew) := ((Away.refl [] w3).alloc _).drew
      have HRL0 : Hid (Row (w3.alloc (.cells ([167, 168].map (Value.int .u8)).toArray 5)).drew (some ⟨w3.heap.size, 0, none⟩) [167, 168]) := (Row.lit w3 _ HM2.out (by simp)).on (Away.refl [] _).drew
      obtain ⟨gl, hgl⟩ : ∃ gl, gl = w3.heap.size := ⟨_, rfl⟩
      obtain ⟨wa, hwa⟩ : ∃ wa, wa = (w3.alloc (.cells ([167, 168].map (Value.int .u8)).toArray 5)).drew := ⟨_, rfl⟩
      go_simp
      refine hK.out _ _ (fun _ => by exact ((HB.out.on HG2.out).cells HAD.out).d) ?_
      clear hK K
      try simp only [Act.put, List.setIfInBounds_toArray, List.set_cons_zero, List.set_cons_succ]
      rw [← hgl] at HRL0
      rw [← hwa] at HG2 HRL0
      simp only [List.map_cons, List.map_nil] at hwa
      rw [← hwa]
      rw [← hgl]
      clear hwa hgl
      refine wpAnyU_ready (rs := [2]) (by kernel_rfl) (by simp) ?_
      refine ReadyU.cons (by simp only [List.getElem?_toArray, List.getElem?_cons_succ, List.getElem?_cons_zero]; rfl) (fun K hK => ?_) ReadyU.nil
      go_simp
      refine (own_any ad p.d _ capd _ rfl (by exact ((HD.out.on HA.out).on HG2.out).of.2.2.2)).mono ?_
      rintro E wb ⟨v3, rfl, ho3, hn3, haw3, hb3, hl3⟩
      have HG4 : Hid (Bag w3 wb v3 p.d) := ⟨ho3, hn3.mono HG2.out.size, HG2.out.on haw3⟩
      have HRL := Lib.hid (HRL0.out.on haw3)
      clear ho3 hn3 haw3 hb3 hl3 HRL0 HG2
      have c3 := ((HB.out.on HG4.out.a).cells HAD.out).d
      go_wp2_with fail
      refine hK.out _ _ (fun _ => c3) ?_
      clear hK K c3
      try simp only [Act.put, List.setIfInBounds_toArray, List.set_cons_zero, List.set_cons_succ]
      refine wpAnyU_ready (rs := [4]) (by kernel_rfl) (by simp) ?_
      refine ReadyU.cons (by simp only [List.getElem?_toArray, List.getElem?_cons_succ, List.getElem?_cons_zero]; rfl) (fun K hK => ?_) ReadyU.nil
      refine step_app rfl (.tmp 15) (.tmp 16) rfl v3 p.d [167, 168] rfl (by exact HG4.out.o) ⟨gl, 0, none⟩ 2 2 rfl rfl (by exact HRL.out.src) (by omega) (fun v5 w5 r1 r2 r3 => ?_)
      have HG5 := Lib.hid (HG4.out.app r1 r2 r3)
      clear r1 r2 r3 HG4 HRL
      obtain ⟨g5, cap5, rfl, hc5⟩ := HG5.out.o.some' (by simp)
      have c5 := ((HB.out.on HG5.out.a).cells HAD.out).d
      refine hK.out _ _ (fun _ => c5) ?_
      clear hK K
      try simp only [Act.put, List.setIfInBounds_toArray, List.set_cons_zero, List.set_cons_succ]
      have hcl : p.d.length + 2 ≤ cap5 := by simpa using hc5
      have hln : (p.d ++ [167, 168]).length = p.d.length + 2 := by simp
      rw [hln] at HG5 ⊢
      clear hc5 hln
      have sl := slice_h (some ⟨g5, 0, none⟩) (p.d.length + 2) cap5 p.d.length (p.d.length : Int) rfl (by omega)
      refine wpAnyU_take (i := 8) (v := ?_) (by simp only [List.getElem?_toArray, List.getElem?_cons_succ, List.getElem?_cons_zero]; rfl) (by kernel_rfl) (by kernel_rfl) (by kernel_rfl) (by decide) (by kernel_rfl) (by kernel_rfl) (by exact fun _ _ _ h => h) (Or.inl ⟨by rfl, ?_⟩) (by exact c5) ?_
      rotate_left
      · intro wq hSw
        (try dsimp only at hSw)
        go_simp
        all_goals (with_reducible rfl)
      try simp only [Act.put, List.setIfInBounds_toArray, List.set_cons_zero, List.set_cons_succ]
      refine wpAnyU_take (i := 9) (v := ?_) (by simp only [List.getElem?_toArray, List.getElem?_cons_succ, List.getElem?_cons_zero]; rfl) (by kernel_rfl) (by kernel_rfl) (by kernel_rfl) (by decide) (by kernel_rfl) (by kernel_rfl) (by exact fun _ _ _ h => h) (Or.inl ⟨by rfl, ?_⟩) (by exact c5) ?_
      rotate_left
      · intro wq hSw
        (try dsimp only at hSw)
        go_simp
        all_goals (with_reducible rfl)
      try simp only [Act.put, List.setIfInBounds_toArray, List.set_cons_zero, List.set_cons_succ]
      refine wpAnyU_ready (rs := [10]) (by kernel_rfl) (by simp) ?_
      refine ReadyU.cons (by simp only [List.getElem?_toArray, List.getElem?_cons_succ, List.getElem?_cons_zero]; rfl) (fun K hK => ?_) ReadyU.nil
      have hfr := (HB.out.on HG5.out.a).free 45
      have HBN : Hid (BoxP (w5.setCell ⟨g1, 45, none⟩ (.slice (some ⟨g5, 0, none⟩) p.d.length cap5)) g1 p (.slice (some ⟨go, 0, none⟩) p.o.length capx) (.slice (some ⟨g5, 0, none⟩) p.d.length cap5)) := (HB.out.on HG5.out.a).put 45 _ ((csP_set HAD.out _ _).2.2.2.2.2.2.2.2.2.2.2.2.2 p.d _)
      have hAW : Away [g1] w5 (w5.setCell ⟨g1, 45, none⟩ (.slice (some ⟨g5, 0, none⟩) p.d.length cap5)) := away_put 45 _
      have hg5 : w3.heap.size ≤ g5 := HG5.out.n g5 rfl
      have HGG : Hid (go ≠ g5) := fun e => by have h1 := HLN1.out.lt; omega
      have HB2N : Hid (BoxP (w5.setCell ⟨g1, 45, none⟩ (.slice (some ⟨g5, 0, none⟩) p.d.length cap5)) g2 zeroPk (.slice none 0 0) (.slice none 0 0)) := (HB2.out.on HG5.out.a).away hAW (by simp; exact fun h => HSZ.out.2.2.2.2.2 h.symm)
      have HAN : Hid (Away [] w (w5.setCell ⟨g1, 45, none⟩ (.slice (some ⟨g5, 0, none⟩) p.d.length cap5))) := (HA.out.on HG5.out.a).next hAW (fun x hx => .inr (by simp at hx; rw [hx]; exact HSZ.out.2.2.2.1))
      have HLN2 : Hid (Lent B (w5.setCell ⟨g1, 45, none⟩ (.slice (some ⟨g5, 0, none⟩) p.d.length cap5)) (.slice (some ⟨g5, 0, none⟩) p.d.length cap5) p.d [167, 168]) := Lent.away (w := w5) ⟨g5, cap5, rfl, hcl, HG5.out.o, by have := HW.out; omega⟩ hAW (by simp; exact HSZ.out.2.1)
      have HLX := Lib.hid ((HLN1.out.away HG5.out.a (by simp)).away hAW (by simp; exact HSZ.out.2.1))
      have HWN : Hid (B ≤ (w5.setCell ⟨g1, 45, none⟩ (.slice (some ⟨g5, 0, none⟩) p.d.length cap5)).heap.size) := by have h1 := HW.out; have h2 := HG5.out.a.size; have h3 := hAW.size; exact Lib.hid (by omega)
      refine step_store26 rfl 22 21 rfl g1 45 rfl _ _ _ rfl _ c5 hfr (hK.out _ _ (by intro h; simp at h) ?_)
      clear hK K
      try simp only [Act.put]
      refine wpAnyU_done (by kernel_rfl) ?_ _
      generalize w5.setCell ⟨g1, 45, none⟩ (.slice (some ⟨g5, 0, none⟩) p.d.length cap5) = w4 at *
      clear HB HB2 HA HW HDR hS c5 hAW sl hfr HG5 HLN1
      have HB := HBN; have HB2 := HB2N; have HA := HAN; have HW := HWN
      clear HBN HB2N HAN HWN
      go_wp2_with (first
        | (refine wpList_load28 rfl _ rfl _ rfl p _ _ (by exact HB.out) HAD.out ?_)
        | (refine wpList_store28 rfl _ _ rfl _ rfl p _ _ rfl zeroPk (.slice none 0 0) (.slice none 0 0) (by exact HB2.out) HAD.out ⟨rfl, rfl⟩ rfl rfl ?_; refine Hid.out ?_))
      refine Lib.hid ?_
      intro w5 hb5 haw5
      have HB5 := Lib.hid hb5
      have HL1 := Lib.hid ((HLX.out.away haw5 (by simp; exact HSZ.out.2.2.1)).mono HSZ.out.1)
      have HL2 := Lib.hid ((HLN2.out.away haw5 (by simp; exact HSZ.out.2.2.1)).mono HSZ.out.1)
      have HA5 := Lib.hid (HA.out.next haw5 (fun x hx => .inr (by simp at hx; rw [hx]; exact HSZ.out.2.2.2.2.1)))
      clear hb5 haw5 HB HB2 HA HLX HLN2
      go_wp2_with fail
      refine bodyPost_ret (result28 rfl _ _ _ _ _ _ rfl HB5.out HAD.out) rfl ⟨_, _, rfl, HL1.out, HL2.out, fun k hk e => HGG.out (by simp only [Value.ownBlock, Option.some.injEq] at hk e; rw [hk, e]), HA5.out⟩
#print axioms lent_c
end Go.Proofs.YtbkeilboneaejaaGreatDoor.U5

namespace Go.Proofs.YtbkeilboneaejaaGreatDoor.U5
open Go.ChangeShapes Go.WideShapes Go.ChangeAt Go.RowKit Go.Deep Num
set_option linter.unusedVariables false
set_option maxHeartbeats 4000000
set_option maxRecDepth 100000

theorem load28_run {w : World} {g : Nat} {p : Pk} {ov dv : Value} (hb : BoxP w g p ov dv) (ha : Ad p) : (Instr.loadAt 28 (.pointer (some ⟨g, 0, none⟩))).run Tryz.prog w = .ok (.agg (csP p ov dv)) w := by
  simp only [Instr.loadAt, Instr.sureAddr, Sem.run_bind, Sem.run_pure, Result.andThen]
  rw [run_loadVar_row w g 28 28 (csP p ov dv) (0, 0) _ hb Tryz.underlying28 rfl (by rw [csP_size ha]; exact info28)]
theorem ld26 {w : World} {ad : Addr} {a : Option Addr} {n c : Nat} (h : w.cell? ad = some (.slice a n c)) : (Instr.loadAt 26 (.pointer (some ad))).run Tryz.prog w = .ok (.slice a n c) w := by
  simp [go_sem, Instr.loadAt, Instr.sureAddr, h]
theorem yields_ld {ops : Array Oper} {S : World → Prop} {op : Oper} {a : Act} {t : TypeId} {v : Value} {ad : Addr} (hw : Region.wanted op (yielded ops a.tmps) = true) (x : Operand) (ho : op.op = .load t x) (hx : a.eval x = .pointer (some ad))
    (hS : ∀ w, S w → (Instr.loadAt t (.pointer (some ad))).run Tryz.prog w = .ok v w) : YieldsIf Tryz.prog ops S op v a :=
  .inl ⟨hw, fun w hw' => by
    unfold execOp
    simp only [ho, hx, Sem.run_bind, hS w hw', Result.andThen_ok, Sem.run_pure]⟩
theorem step_appW {ops : Array Oper} {o : Oper} {a : Act} {w : World} {K : Act → World → Prop} {Q : Exit → Act → World → Prop} {E : Prop} (hw : Region.wanted o (yielded ops a.tmps) = true) (s x : Operand)
    (hop : o.op = .call { callee := .builtin .append, args := #[s, x], argTypes := #[26, 26] }) (v : Value) (l m : List Int) (hs : a.eval s = v) (hown : Owns w v l)
    (ad : Addr) (n c : Nat) (hx : a.eval x = .slice (some ad) n c) (hn : m.length = n) (hm : ∀ j u, (m.map (Value.int .u8))[j]? = some u → w.cell? (ad.add j) = some u) (hlen : l.length + n ≤ 140737488355328)
    (hK : ∀ v' w', Owns w' v' (l ++ m) → w.grownBy w' v.ownBlock → Moved w v v' → K (a.put o.dst v') w') :
    if Region.wanted o (yielded ops a.tmps) = true then Oper.wp Tryz.prog o a w K Q else E := by
  rw [if_pos hw]
  obtain ⟨v', w', hrun, r1, r2, r3⟩ := run_appB o.type w v l m hown ad n c hn hm hlen
  unfold Oper.wp
  simp [execOp, hop, resolve, invoke, builtin, hs, hx, hrun, Result.andThen]
  exact hK v' w' r1 r2 r3
theorem Lent.parts {B : Nat} {w : World} {v : Value} {l m : List Int} (h : Lent B w v l m) (hl : Bytes l) (hm : Bytes m) (hn : l.length + m.length ≤ 140737488355328) : ∃ g cap, v = .slice (some ⟨g, 0, none⟩) l.length cap ∧ l.length + m.length ≤ cap ∧ Row w (some ⟨g, 0, none⟩) (l ++ m) ∧ Sl w v l := by
  obtain ⟨g, cap, rfl, h1, h2, h3⟩ := h
  have hb : Bytes (l ++ m) := fun x hx => by
    rcases List.mem_append.mp hx with h | h
    · exact hl x h
    · exact hm x h
  have hr := h2.row' (by simp; omega) hb
  have hr' := hr.head l.length
  rw [List.take_left] at hr'
  exact ⟨g, cap, rfl, h1, hr, ⟨_, _, rfl, by omega, by simp, hr'⟩⟩
theorem kept_c (p : Pk) (B : Nat) (ov dv ou du : Value) (w : World) (hp : Pkt w p ov dv) (hol : p.o.length ≤ 140737488355326) (hdl : p.d.length ≤ 140737488355326)
    (hL1 : Lent B w ou p.o [165, 166]) (hL2 : Lent B w du p.d [167, 168]) :
    Calls Tryz.prog 21 #[.agg (csP p ou du), .agg (csP p ov dv)] w fun E w' => E = .returned (.bool true) ∧ Away [] w w' := by
  have ha := hp.wf.ad
  have HAD : Hid (Ad p) := ha
  have HM1 : Hid (Bytes [165, 166]) := bytes2 (by omega) (by omega)
  have HM2 : Hid (Bytes [167, 168]) := bytes2 (by omega) (by omega)
  obtain ⟨hwf, ho, hd0⟩ := hp
  obtain ⟨go, cao, rfl, hco, hro, hso⟩ := hL1.parts ho.bytes.1 HM1.out (by simp; omega)
  obtain ⟨gd, cad, rfl, hcd, hrd, hsd⟩ := hL2.parts hd0.bytes.1 HM2.out (by simp; omega)
  simp only [List.length_cons, List.length_nil] at hco hcd
  have HP : Hid (Pkt w p ov dv) := ⟨hwf, ho, hd0⟩
  have HQ : Hid (Pkt w p (.slice (some ⟨go, 0, none⟩) p.o.length cao) (.slice (some ⟨gd, 0, none⟩) p.d.length cad)) := ⟨hwf, hso, hsd⟩
  have HRO := Lib.hid hro
  have HRD := Lib.hid hrd
  have HO : Hid (Sl w ov p.o) := ho
  have HD : Hid (Sl w dv p.d) := hd0
  obtain ⟨ao, capo, rfl, -⟩ := ho
  obtain ⟨ad, capd, rfl, -⟩ := hd0
  have wo : IntKind.i64.wrap ((p.o.length : Int) + 2) = (p.o.length : Int) + 2 := by rw [IntKind.wrap_i64]; omega
  have wd : IntKind.i64.wrap ((p.d.length : Int) + 2) = (p.d.length : Int) + 2 := by rw [IntKind.wrap_i64]; omega
  have slo := slice_h (some ⟨go, 0, none⟩) p.o.length cao (p.o.length + 2) ((p.o.length : Int) + 2) (by simp) (by omega)
  have sld := slice_h (some ⟨gd, 0, none⟩) p.d.length cad (p.d.length + 2) ((p.d.length : Int) + 2) (by simp) (by omega)
  clear hwf ha hL1 hL2 hro hrd hso hsd
  go_enter Tryz.func21, Tryz.ntmps21
  go_wp2_with (first | (refine wpList_box28 rfl _ rfl p _ _ rfl ?_; refine Hid.out ?_))
  refine Lib.hid ?_
  intro g1 w1 hg1 hb1 haw1
  have HB := Lib.hid hb1; have HA := Lib.hid haw1
  clear hb1 haw1
  go_wp2_with (first | (refine wpList_box28 rfl _ rfl p _ _ rfl ?_; refine Hid.out ?_))
  refine Lib.hid ?_
  intro g2 w2 hg2 hb2 haw2
  have HB2 := Lib.hid hb2
  replace HB := Lib.hid (HB.out.on haw2); replace HA := Lib.hid (HA.out.on haw2)
  clear hb2 haw2 hg1 hg2
  have co2 := (HB2.out.cells HAD.out).o
  have cd2 := (HB2.out.cells HAD.out).d
  go_wp2_with fail
  clear co2 cd2
  have hS0 : (fun w' => BoxP w' g1 p (.slice (some ⟨go, 0, none⟩) p.o.length cao) (.slice (some ⟨gd, 0, none⟩) p.d.length cad) ∧ BoxP w' g2 p (.slice ao p.o.length capo) (.slice ad p.d.length capd)) w2 := ⟨HB.out, HB2.out⟩
  refine wp_region_held_drew (S := (fun w' => BoxP w' g1 p (.slice (some ⟨go, 0, none⟩) p.o.length cao) (.slice (some ⟨gd, 0, none⟩) p.d.length cad) ∧ BoxP w' g2 p (.slice ao p.o.length capo) (.slice ad p.d.length capd))) (by kernel_rfl) hS0 (fun hHeld => ?_)
  refine wpAnyH_take (i := 0) (by simp only [List.getElem?_toArray, List.getElem?_cons_zero]; rfl) (by kernel_rfl) (by kernel_rfl) (by kernel_rfl) (by exact fun _ _ _ h => h) (yields_ld (ad := ⟨g1, 0, none⟩) (by rfl) _ rfl rfl (fun w' h => load28_run h.1 HAD.out)) (by assumption) ?_
  try simp only [Act.put, List.setIfInBounds_toArray, List.set_cons_zero, List.set_cons_succ]
  refine wpAnyH_take (i := 1) (by simp only [List.getElem?_toArray, List.getElem?_cons_succ, List.getElem?_cons_zero]; rfl) (by kernel_rfl) (by kernel_rfl) (by kernel_rfl) (by exact fun _ _ _ h => h) (yields_ld (ad := ⟨g2, 0, none⟩) (by rfl) _ rfl rfl (fun w' h => load28_run h.2 HAD.out)) (by assumption) ?_
  try simp only [Act.put, List.setIfInBounds_toArray, List.set_cons_zero, List.set_cons_succ]
  refine wpAnyH_ready (rs := [2]) (by kernel_rfl) (by simp) ?_
  refine AllReadyH.cons (by simp only [List.getElem?_toArray, List.getElem?_cons_succ, List.getElem?_cons_zero]; rfl) (fun K hK => ?_) AllReadyH.nil
  go_simp
  have HDR : Hid (Away [] w2 w2.drew) := (Away.refl [] w2).drew
  replace HB := Lib.hid (HB.out.on HDR.out)
  replace HB2 := Lib.hid (HB2.out.on HDR.out)
  replace HA := Lib.hid (HA.out.on HDR.out)
  clear HDR hS0
  refine (sameP_yes p p _ _ _ _ _ (HQ.out.on HA.out) (HP.out.on HA.out) rfl).mono ?_
  rintro E w3 ⟨rfl, haw⟩
  replace HB := Lib.hid (HB.out.on haw)
  replace HB2 := Lib.hid (HB2.out.on haw)
  replace HA := Lib.hid (HA.out.on haw)
  clear haw
  replace HRO := Lib.hid (HRO.out.on HA.out)
  replace HRD := Lib.hid (HRD.out.on HA.out)
  go_wp2_with fail
  refine hK.out _ _ ⟨HB.out, HB2.out⟩ (fun hHeld => ?_)
  clear hK K
  try simp only [Act.put, List.setIfInBounds_toArray, List.set_cons_zero, List.set_cons_succ]
  refine wpAnyH_take (i := 3) (v := ?_) (by simp only [List.getElem?_toArray, List.getElem?_cons_succ, List.getElem?_cons_zero]; rfl) (by kernel_rfl) (by kernel_rfl) (by kernel_rfl) (by exact fun _ _ _ h => h) (Or.inl ⟨by rfl, ?_⟩) (by assumption) ?_
  rotate_left
  · intro wq hSw
    (try dsimp only at hSw)
    go_simp
    all_goals (with_reducible rfl)
  try simp only [Act.put, List.setIfInBounds_toArray, List.set_cons_zero, List.set_cons_succ]
  refine wpAnyH_take (i := 4) (v := ?_) (by simp only [List.getElem?_toArray, List.getElem?_cons_succ, List.getElem?_cons_zero]; rfl) (by kernel_rfl) (by kernel_rfl) (by kernel_rfl) (by exact fun _ _ _ h => h) (Or.inl ⟨by rfl, ?_⟩) (by assumption) ?_
  rotate_left
  · intro wq hSw
    (try dsimp only at hSw)
    go_simp
    all_goals (with_reducible rfl)
  try simp only [Act.put, List.setIfInBounds_toArray, List.set_cons_zero, List.set_cons_succ]
  refine wpAnyH_take (i := 5) (by simp only [List.getElem?_toArray, List.getElem?_cons_succ, List.getElem?_cons_zero]; rfl) (by kernel_rfl) (by kernel_rfl) (by kernel_rfl) (by exact fun _ _ _ h => h) (yields_ld (ad := ⟨g1, 44, none⟩) (by rfl) _ rfl rfl (fun w' h => ld26 (h.1.cells HAD.out).o)) (by assumption) ?_
  try simp only [Act.put, List.setIfInBounds_toArray, List.set_cons_zero, List.set_cons_succ]
  refine wpAnyH_take (i := 6) (v := ?_) (by simp only [List.getElem?_toArray, List.getElem?_cons_succ, List.getElem?_cons_zero]; rfl) (by kernel_rfl) (by kernel_rfl) (by kernel_rfl) (by exact fun _ _ _ h => h) (Or.inl ⟨by rfl, ?_⟩) (by assumption) ?_
  rotate_left
  · intro wq hSw
    (try dsimp only at hSw)
    go_simp
    all_goals (with_reducible rfl)
  try simp only [Act.put, List.setIfInBounds_toArray, List.set_cons_zero, List.set_cons_succ]
  refine wpAnyH_take (i := 7) (v := ?_) (by simp only [List.getElem?_toArray, List.getElem?_cons_succ, List.getElem?_cons_zero]; rfl) (by kernel_rfl) (by kernel_rfl) (by kernel_rfl) (by exact fun _ _ _ h => h) (Or.inl ⟨by rfl, ?_⟩) (by assumption) ?_
  rotate_left
  · intro wq hSw
    (try dsimp only at hSw)
    go_simp
    all_goals (with_reducible rfl)
  try simp only [Act.put, List.setIfInBounds_toArray, List.set_cons_zero, List.set_cons_succ]
  refine wpAnyH_take (i := 8) (v := ?_) (by simp only [List.getElem?_toArray, List.getElem?_cons_succ, List.getElem?_cons_zero]; rfl) (by kernel_rfl) (by kernel_rfl) (by kernel_rfl) (by exact fun _ _ _ h => h) (Or.inl ⟨by rfl, ?_⟩) (by assumption) ?_
  rotate_left
  · intro wq hSw
    (try dsimp only at hSw)
    go_simp
    all_goals (with_reducible rfl)
  try simp only [Act.put, List.setIfInBounds_toArray, List.set_cons_zero, List.set_cons_succ]
  refine wpAnyH_take (i := 9) (v := ?_) (by simp only [List.getElem?_toArray, List.getElem?_cons_succ, List.getElem?_cons_zero]; rfl) (by kernel_rfl) (by kernel_rfl) (by kernel_rfl) (by exact fun _ _ _ h => h) (Or.inl ⟨by rfl, ?_⟩) (by assumption) ?_
  rotate_left
  · intro wq hSw
    (try dsimp only at hSw)
    go_simp
    all_goals (with_reducible rfl)
  try simp only [Act.put, List.setIfInBounds_toArray, List.set_cons_zero, List.set_cons_succ]
  refine wpAnyH_take (i := 10) (by simp only [List.getElem?_toArray, List.getElem?_cons_succ, List.getElem?_cons_zero]; rfl) (by kernel_rfl) (by kernel_rfl) (by kernel_rfl) (by exact fun _ _ _ h => h) (yields_ld (ad := ⟨g2, 44, none⟩) (by rfl) _ rfl rfl (fun w' h => ld26 (h.2.cells HAD.out).o)) (by assumption) ?_
  try simp only [Act.put, List.setIfInBounds_toArray, List.set_cons_zero, List.set_cons_succ]
  refine wpAnyH_ready (rs := [11, 12]) (by kernel_rfl) (by simp) ?_
  refine AllReadyH.cons (by simp only [List.getElem?_toArray, List.getElem?_cons_succ, List.getElem?_cons_zero]; rfl) (fun K hK => ?_) (AllReadyH.cons (by simp only [List.getElem?_toArray, List.getElem?_cons_succ, List.getElem?_cons_zero]; rfl) (fun K hK => ?_) AllReadyH.nil)
  · go_simp
    refine (own_any ao p.o _ capo _ rfl (by exact (HO.out.on HA.out).of.2.2.2)).mono ?_
    rintro E wa ⟨v3, rfl, ho3, hn3, haw3, hb3, hl3⟩
    have HG3 : Hid (Bag w3 wa v3 p.o) := ⟨ho3, hn3, haw3⟩
    clear ho3 hn3 haw3 hb3 hl3
    go_wp2_with fail
    refine hK.out _ _ ⟨HB.out.on HG3.out.a, HB2.out.on HG3.out.a⟩ (fun hHeld => ?_)
    clear hK K
    try simp only [Act.put, List.setIfInBounds_toArray, List.set_cons_zero, List.set_cons_succ]
    refine wpAnyH_ready (rs := [12]) (by kernel_rfl) (by simp) ?_
    refine AllReadyH.cons (by simp only [List.getElem?_toArray, List.getElem?_cons_succ, List.getElem?_cons_zero]; rfl) (fun K hK => ?_) AllReadyH.nil
    have HG4 : Hid (Bag w3 (wa.alloc (.cells ([165, 166].map (Value.int .u8)).toArray 5)) v3 p.o) := HG3.out.on ((Away.refl [] wa).alloc _)
    have HRL : Hid (Row (wa.alloc (.cells ([165, 166].map (Value.int .u8)).toArray 5)) (some ⟨wa.heap.size, 0, none⟩) [165, 166]) := Row.lit wa _ HM1.out (by simp)
    obtain ⟨gl, hgl⟩ : ∃ gl, gl = wa.heap.size := ⟨_, rfl⟩
    obtain ⟨wb, hwb⟩ : ∃ wb, wb = wa.alloc (.cells ([165, 166].map (Value.int .u8)).toArray 5) := ⟨_, rfl⟩
    go_simp
    refine hK.out _ _ ⟨HB.out.on HG4.out.a, HB2.out.on HG4.out.a⟩ (fun hHeld => ?_)
    clear hK K
    try simp only [Act.put, List.setIfInBounds_toArray, List.set_cons_zero, List.set_cons_succ]
    rw [← hgl] at HRL ⊢
    rw [← hwb] at HG4 HRL
    simp only [List.map_cons, List.map_nil] at hwb
    rw [← hwb]
    clear hwb hgl HG3
    refine wpAnyH_ready (rs := [13]) (by kernel_rfl) (by simp) ?_
    refine AllReadyH.cons (by simp only [List.getElem?_toArray, List.getElem?_cons_succ, List.getElem?_cons_zero]; rfl) (fun K hK => ?_) AllReadyH.nil
    refine step_appW rfl (.tmp 24) (.tmp 25) rfl v3 p.o [165, 166] rfl (by exact HG4.out.o) ⟨gl, 0, none⟩ 2 2 rfl rfl (by exact HRL.out.src) (by omega) (fun v5 wy r1 r2 r3 => ?_)
    have HG5 := Lib.hid (HG4.out.app r1 r2 r3)
    clear r1 r2 r3 HG4 HRL
    obtain ⟨g5, cap5, rfl, hc5⟩ := HG5.out.o.some' (by simp)
    refine hK.out _ _ ⟨HB.out.on HG5.out.a, HB2.out.on HG5.out.a⟩ (fun hHeld => ?_)
    clear hK K
    try simp only [Act.put, List.setIfInBounds_toArray, List.set_cons_zero, List.set_cons_succ]
    have hln : (p.o ++ [165, 166]).length = p.o.length + 2 := by simp
    rw [hln] at HG5 ⊢
    clear hln hc5
    refine wpAnyH_ready (rs := [14]) (by kernel_rfl) (by simp) ?_
    refine AllReadyH.cons (by simp only [List.getElem?_toArray, List.getElem?_cons_succ, List.getElem?_cons_zero]; rfl) (fun K hK => ?_) AllReadyH.nil
    have HRV : Hid (Row wy (some ⟨g5, 0, none⟩) (p.o ++ [165, 166])) := HG5.out.o.row' (by simp; omega) HRO.out.2.1
    replace HRO := Lib.hid (HRO.out.on HG5.out.a)
    replace HB := Lib.hid (HB.out.on HG5.out.a)
    replace HB2 := Lib.hid (HB2.out.on HG5.out.a)
    replace HA := Lib.hid (HA.out.on HG5.out.a)
    replace HRD := Lib.hid (HRD.out.on HG5.out.a)
    clear HG5
    go_simp
    refine (same_yes (some ⟨go, 0, none⟩) (some ⟨g5, 0, none⟩) (p.o ++ [165, 166]) (p.o ++ [165, 166]) (p.o.length + 2) (p.o.length + 2) cao cap5 _ (by simp) (by simp) (by simp) (by simp) (by exact HRO.out) (by exact HRV.out) rfl).mono ?_
    rintro E w4 ⟨rfl, rfl⟩
    go_wp2_with fail
    refine hK.out _ _ ⟨HB.out, HB2.out⟩ (fun hHeld => ?_)
    clear hK K
    try simp only [Act.put, List.setIfInBounds_toArray, List.set_cons_zero, List.set_cons_succ]
    clear HRV
    refine wpAnyH_take (i := 15) (v := ?_) (by simp only [List.getElem?_toArray, List.getElem?_cons_succ, List.getElem?_cons_zero]; rfl) (by kernel_rfl) (by kernel_rfl) (by kernel_rfl) (by exact fun _ _ _ h => h) (Or.inl ⟨by rfl, ?_⟩) (by assumption) ?_
    rotate_left
    · intro wq hSw
      (try dsimp only at hSw)
      go_simp
      all_goals (with_reducible rfl)
    try simp only [Act.put, List.setIfInBounds_toArray, List.set_cons_zero, List.set_cons_succ]
    refine wpAnyH_take (i := 16) (v := ?_) (by simp only [List.getElem?_toArray, List.getElem?_cons_succ, List.getElem?_cons_zero]; rfl) (by kernel_rfl) (by kernel_rfl) (by kernel_rfl) (by exact fun _ _ _ h => h) (Or.inl ⟨by rfl, ?_⟩) (by assumption) ?_
    rotate_left
    · intro wq hSw
      (try dsimp only at hSw)
      go_simp
      all_goals (with_reducible rfl)
    try simp only [Act.put, List.setIfInBounds_toArray, List.set_cons_zero, List.set_cons_succ]
    refine wpAnyH_take (i := 17) (v := ?_) (by simp only [List.getElem?_toArray, List.getElem?_cons_succ, List.getElem?_cons_zero]; rfl) (by kernel_rfl) (by kernel_rfl) (by kernel_rfl) (by exact fun _ _ _ h => h) (Or.inl ⟨by rfl, ?_⟩) (by assumption) ?_
    rotate_left
    · intro wq hSw
      (try dsimp only at hSw)
      go_simp
      all_goals (with_reducible rfl)
    try simp only [Act.put, List.setIfInBounds_toArray, List.set_cons_zero, List.set_cons_succ]
    refine wpAnyH_take (i := 18) (by simp only [List.getElem?_toArray, List.getElem?_cons_succ, List.getElem?_cons_zero]; rfl) (by kernel_rfl) (by kernel_rfl) (by kernel_rfl) (by exact fun _ _ _ h => h) (yields_ld (ad := ⟨g1, 45, none⟩) (by rfl) _ rfl rfl (fun w' h => ld26 (h.1.cells HAD.out).d)) (by assumption) ?_
    try simp only [Act.put, List.setIfInBounds_toArray, List.set_cons_zero, List.set_cons_succ]
    refine wpAnyH_take (i := 19) (v := ?_) (by simp only [List.getElem?_toArray, List.getElem?_cons_succ, List.getElem?_cons_zero]; rfl) (by kernel_rfl) (by kernel_rfl) (by kernel_rfl) (by exact fun _ _ _ h => h) (Or.inl ⟨by rfl, ?_⟩) (by assumption) ?_
    rotate_left
    · intro wq hSw
      (try dsimp only at hSw)
      go_simp
      all_goals (with_reducible rfl)
    try simp only [Act.put, List.setIfInBounds_toArray, List.set_cons_zero, List.set_cons_succ]
    refine wpAnyH_take (i := 20) (v := ?_) (by simp only [List.getElem?_toArray, List.getElem?_cons_succ, List.getElem?_cons_zero]; rfl) (by kernel_rfl) (by kernel_rfl) (by kernel_rfl) (by exact fun _ _ _ h => h) (Or.inl ⟨by rfl, ?_⟩) (by assumption) ?_
    rotate_left
    · intro wq hSw
      (try dsimp only at hSw)
      go_simp
      all_goals (with_reducible rfl)
    try simp only [Act.put, List.setIfInBounds_toArray, List.set_cons_zero, List.set_cons_succ]
    refine wpAnyH_take (i := 21) (v := ?_) (by simp only [List.getElem?_toArray, List.getElem?_cons_succ, List.getElem?_cons_zero]; rfl) (by kernel_rfl) (by kernel_rfl) (by kernel_rfl) (by exact fun _ _ _ h => h) (Or.inl ⟨by rfl, ?_⟩) (by assumption) ?_
    rotate_left
    · intro wq hSw
      (try dsimp only at hSw)
      go_simp
      all_goals (with_reducible rfl)
    try simp only [Act.put, List.setIfInBounds_toArray, List.set_cons_zero, List.set_cons_succ]
    refine wpAnyH_take (i := 22) (v := ?_) (by simp only [List.getElem?_toArray, List.getElem?_cons_succ, List.getElem?_cons_zero]; rfl) (by kernel_rfl) (by kernel_rfl) (by kernel_rfl) (by exact fun _ _ _ h => h) (Or.inl ⟨by rfl, ?_⟩) (by assumption) ?_
    rotate_left
    · intro wq hSw
      (try dsimp only at hSw)
      go_simp
      all_goals (with_reducible rfl)
    try simp only [Act.put, List.setIfInBounds_toArray, List.set_cons_zero, List.set_cons_succ]
    refine wpAnyH_take (i := 23) (by simp only [List.getElem?_toArray, List.getElem?_cons_succ, List.getElem?_cons_zero]; rfl) (by kernel_rfl) (by kernel_rfl) (by kernel_rfl) (by exact fun _ _ _ h => h) (yields_ld (ad := ⟨g2, 45, none⟩) (by rfl) _ rfl rfl (fun w' h => ld26 (h.2.cells HAD.out).d)) (by assumption) ?_
    try simp only [Act.put, List.setIfInBounds_toArray, List.set_cons_zero, List.set_cons_succ]
    refine wpAnyH_ready (rs := [24, 25]) (by kernel_rfl) (by simp) ?_
    refine AllReadyH.cons (by simp only [List.getElem?_toArray, List.getElem?_cons_succ, List.getElem?_cons_zero]; rfl) (fun K hK => ?_) (AllReadyH.cons (by simp only [List.getElem?_toArray, List.getElem?_cons_succ, List.getElem?_cons_zero]; rfl) (fun K hK => ?_) AllReadyH.nil)
    · go_simp
      refine (own_any ad p.d _ capd _ rfl (by exact (HD.out.on HA.out).of.2.2.2)).mono ?_
      rintro E wa ⟨v3, rfl, ho3, hn3, haw3, hb3, hl3⟩
      have HG3 : Hid (Bag w4 wa v3 p.d) := ⟨ho3, hn3, haw3⟩
      clear ho3 hn3 haw3 hb3 hl3
      go_wp2_with fail
      refine hK.out _ _ ⟨HB.out.on HG3.out.a, HB2.out.on HG3.out.a⟩ (fun hHeld => ?_)
      clear hK K
      try simp only [Act.put, List.setIfInBounds_toArray, List.set_cons_zero, List.set_cons_succ]
      refine wpAnyH_ready (rs := [25]) (by kernel_rfl) (by simp) ?_
      refine AllReadyH.cons (by simp only [List.getElem?_toArray, List.getElem?_cons_succ, List.getElem?_cons_zero]; rfl) (fun K hK => ?_) AllReadyH.nil
      have HG4 : Hid (Bag w4 (wa.alloc (.cells ([167, 168].map (Value.int .u8)).toArray 5)) v3 p.d) := HG3.out.on ((Away.refl [] wa).alloc _)
      have HRL : Hid (Row (wa.alloc (.cells ([167, 168].map (Value.int .u8)).toArray 5)) (some ⟨wa.heap.size, 0, none⟩) [167, 168]) := Row.lit wa _ HM2.out (by simp)
      obtain ⟨gl, hgl⟩ : ∃ gl, gl = wa.heap.size := ⟨_, rfl⟩
      obtain ⟨wb, hwb⟩ : ∃ wb, wb = wa.alloc (.cells ([167, 168].map (Value.int .u8)).toArray 5) := ⟨_, rfl⟩
      go_simp
      refine hK.out _ _ ⟨HB.out.on HG4.out.a, HB2.out.on HG4.out.a⟩ (fun hHeld => ?_)
      clear hK K
      try simp only [Act.put, List.setIfInBounds_toArray, List.set_cons_zero, List.set_cons_succ]
      rw [← hgl] at HRL ⊢
      rw [← hwb] at HG4 HRL
      simp only [List.map_cons, List.map_nil] at hwb
      rw [← hwb]
      clear hwb hgl HG3
      refine wpAnyH_ready (rs := [26]) (by kernel_rfl) (by simp) ?_
      refine AllReadyH.cons (by simp only [List.getElem?_toArray, List.getElem?_cons_succ, List.getElem?_cons_zero]; rfl) (fun K hK => ?_) AllReadyH.nil
      refine step_appW rfl (.tmp 37) (.tmp 38) rfl v3 p.d [167, 168] rfl (by exact HG4.out.o) ⟨gl, 0, none⟩ 2 2 rfl rfl (by exact HRL.out.src) (by omega) (fun v5 wy r1 r2 r3 => ?_)
      have HG5 := Lib.hid (HG4.out.app r1 r2 r3)
      clear r1 r2 r3 HG4 HRL
      obtain ⟨g5, cap5, rfl, hc5⟩ := HG5.out.o.some' (by simp)
      refine hK.out _ _ ⟨HB.out.on HG5.out.a, HB2.out.on HG5.out.a⟩ (fun hHeld => ?_)
      clear hK K
      try simp only [Act.put, List.setIfInBounds_toArray, List.set_cons_zero, List.set_cons_succ]
      have hln : (p.d ++ [167, 168]).length = p.d.length + 2 := by simp
      rw [hln] at HG5 ⊢
      clear hln hc5
      refine wpAnyH_ready (rs := [27]) (by kernel_rfl) (by simp) ?_
      refine AllReadyH.cons (by simp only [List.getElem?_toArray, List.getElem?_cons_succ, List.getElem?_cons_zero]; rfl) (fun K hK => ?_) AllReadyH.nil
      have HRV : Hid (Row wy (some ⟨g5, 0, none⟩) (p.d ++ [167, 168])) := HG5.out.o.row' (by simp; omega) HRD.out.2.1
      replace HRD := Lib.hid (HRD.out.on HG5.out.a)
      replace HB := Lib.hid (HB.out.on HG5.out.a)
      replace HB2 := Lib.hid (HB2.out.on HG5.out.a)
      replace HA := Lib.hid (HA.out.on HG5.out.a)

      clear HG5
      go_simp
      refine (same_yes (some ⟨gd, 0, none⟩) (some ⟨g5, 0, none⟩) (p.d ++ [167, 168]) (p.d ++ [167, 168]) (p.d.length + 2) (p.d.length + 2) cad cap5 _ (by simp) (by simp) (by simp) (by simp) (by exact HRD.out) (by exact HRV.out) rfl).mono ?_
      rintro E w5 ⟨rfl, rfl⟩
      go_wp2_with fail
      refine hK.out _ _ ⟨HB.out, HB2.out⟩ (fun hHeld => ?_)
      clear hK K
      try simp only [Act.put, List.setIfInBounds_toArray, List.set_cons_zero, List.set_cons_succ]
      clear HRV
      refine wpAnyH_take (i := 28) (v := ?_) (by simp only [List.getElem?_toArray, List.getElem?_cons_succ, List.getElem?_cons_zero]; rfl) (by kernel_rfl) (by kernel_rfl) (by kernel_rfl) (by exact fun _ _ _ h => h) (Or.inl ⟨by rfl, ?_⟩) (by assumption) ?_
      rotate_left
      · intro wq hSw
        (try dsimp only at hSw)
        go_simp
        all_goals (with_reducible rfl)
      try simp only [Act.put, List.setIfInBounds_toArray, List.set_cons_zero, List.set_cons_succ]
      refine wpAnyH_take (i := 29) (v := ?_) (by simp only [List.getElem?_toArray, List.getElem?_cons_succ, List.getElem?_cons_zero]; rfl) (by kernel_rfl) (by kernel_rfl) (by kernel_rfl) (by exact fun _ _ _ h => h) (Or.inl ⟨by rfl, ?_⟩) (by assumption) ?_
      rotate_left
      · intro wq hSw
        (try dsimp only at hSw)
        go_simp
        all_goals (with_reducible rfl)
      try simp only [Act.put, List.setIfInBounds_toArray, List.set_cons_zero, List.set_cons_succ]
      refine wpAnyH_done (by kernel_rfl) ?_ _
      go_wp2_with fail
      go_ret
      exact ⟨rfl, HA.out⟩
    · have HG2 : Hid (Away [] w4 (w4.alloc (.cells ([167, 168].map (Value.int .u8)).toArray 5))) := (Away.refl [] w4).alloc _
      have HRL0 : Hid (Row (w4.alloc (.cells ([167, 168].map (Value.int .u8)).toArray 5)) (some ⟨w4.heap.size, 0, none⟩) [167, 168]) := Row.lit w4 _ HM2.out (by simp)
      obtain ⟨gl, hgl⟩ : ∃ gl, gl = w4.heap.size := ⟨_, rfl⟩
      obtain ⟨wa, hwa⟩ : ∃ wa, wa = w4.alloc (.cells ([167, 168].map (Value.int .u8)).toArray 5) := ⟨_, rfl⟩
      go_simp
      refine hK.out _ _ ⟨HB.out.on HG2.out, HB2.out.on HG2.out⟩ (fun hHeld => ?_)
      clear hK K
      try simp only [Act.put, List.setIfInBounds_toArray, List.set_cons_zero, List.set_cons_succ]
      rw [← hgl] at HRL0
      rw [← hwa] at HG2 HRL0
      simp only [List.map_cons, List.map_nil] at hwa
      rw [← hwa]
      rw [← hgl]
      clear hwa hgl
      refine wpAnyH_ready (rs := [24]) (by kernel_rfl) (by simp) ?_
      refine AllReadyH.cons (by simp only [List.getElem?_toArray, List.getElem?_cons_succ, List.getElem?_cons_zero]; rfl) (fun K hK => ?_) AllReadyH.nil
      go_simp
      refine (own_any ad p.d _ capd _ rfl (by exact ((HD.out.on HA.out).on HG2.out).of.2.2.2)).mono ?_
      rintro E wb ⟨v3, rfl, ho3, hn3, haw3, hb3, hl3⟩
      have HG4 : Hid (Bag w4 wb v3 p.d) := ⟨ho3, hn3.mono HG2.out.size, HG2.out.on haw3⟩
      have HRL := Lib.hid (HRL0.out.on haw3)
      clear ho3 hn3 haw3 hb3 hl3 HRL0 HG2
      go_wp2_with fail
      refine hK.out _ _ ⟨HB.out.on HG4.out.a, HB2.out.on HG4.out.a⟩ (fun hHeld => ?_)
      clear hK K
      try simp only [Act.put, List.setIfInBounds_toArray, List.set_cons_zero, List.set_cons_succ]
      refine wpAnyH_ready (rs := [26]) (by kernel_rfl) (by simp) ?_
      refine AllReadyH.cons (by simp only [List.getElem?_toArray, List.getElem?_cons_succ, List.getElem?_cons_zero]; rfl) (fun K hK => ?_) AllReadyH.nil
      refine step_appW rfl (.tmp 37) (.tmp 38) rfl v3 p.d [167, 168] rfl (by exact HG4.out.o) ⟨gl, 0, none⟩ 2 2 rfl rfl (by exact HRL.out.src) (by omega) (fun v5 wy r1 r2 r3 => ?_)
      have HG5 := Lib.hid (HG4.out.app r1 r2 r3)
      clear r1 r2 r3 HG4 HRL
      obtain ⟨g5, cap5, rfl, hc5⟩ := HG5.out.o.some' (by simp)
      refine hK.out _ _ ⟨HB.out.on HG5.out.a, HB2.out.on HG5.out.a⟩ (fun hHeld => ?_)
      clear hK K
      try simp only [Act.put, List.setIfInBounds_toArray, List.set_cons_zero, List.set_cons_succ]
      have hln : (p.d ++ [167, 168]).length = p.d.length + 2 := by simp
      rw [hln] at HG5 ⊢
      clear hln hc5
      refine wpAnyH_ready (rs := [27]) (by kernel_rfl) (by simp) ?_
      refine AllReadyH.cons (by simp only [List.getElem?_toArray, List.getElem?_cons_succ, List.getElem?_cons_zero]; rfl) (fun K hK => ?_) AllReadyH.nil
      have HRV : Hid (Row wy (some ⟨g5, 0, none⟩) (p.d ++ [167, 168])) := HG5.out.o.row' (by simp; omega) HRD.out.2.1
      replace HRD := Lib.hid (HRD.out.on HG5.out.a)
      replace HB := Lib.hid (HB.out.on HG5.out.a)
      replace HB2 := Lib.hid (HB2.out.on HG5.out.a)
      replace HA := Lib.hid (HA.out.on HG5.out.a)

      clear HG5
      go_simp
      refine (same_yes (some ⟨gd, 0, none⟩) (some ⟨g5, 0, none⟩) (p.d ++ [167, 168]) (p.d ++ [167, 168]) (p.d.length + 2) (p.d.length + 2) cad cap5 _ (by simp) (by simp) (by simp) (by simp) (by exact HRD.out) (by exact HRV.out) rfl).mono ?_
      rintro E w5 ⟨rfl, rfl⟩
      go_wp2_with fail
      refine hK.out _ _ ⟨HB.out, HB2.out⟩ (fun hHeld => ?_)
      clear hK K
      try simp only [Act.put, List.setIfInBounds_toArray, List.set_cons_zero, List.set_cons_succ]
      clear HRV
      refine wpAnyH_take (i := 28) (v := ?_) (by simp only [List.getElem?_toArray, List.getElem?_cons_succ, List.getElem?_cons_zero]; rfl) (by kernel_rfl) (by kernel_rfl) (by kernel_rfl) (by exact fun _ _ _ h => h) (Or.inl ⟨by rfl, ?_⟩) (by assumption) ?_
      rotate_left
      · intro wq hSw
        (try dsimp only at hSw)
        go_simp
        all_goals (with_reducible rfl)
      try simp only [Act.put, List.setIfInBounds_toArray, List.set_cons_zero, List.set_cons_succ]
      refine wpAnyH_take (i := 29) (v := ?_) (by simp only [List.getElem?_toArray, List.getElem?_cons_succ, List.getElem?_cons_zero]; rfl) (by kernel_rfl) (by kernel_rfl) (by kernel_rfl) (by exact fun _ _ _ h => h) (Or.inl ⟨by rfl, ?_⟩) (by assumption) ?_
      rotate_left
      · intro wq hSw
        (try dsimp only at hSw)
        go_simp
        all_goals (with_reducible rfl)
      try simp only [Act.put, List.setIfInBounds_toArray, List.set_cons_zero, List.set_cons_succ]
      refine wpAnyH_done (by kernel_rfl) ?_ _
      go_wp2_with fail
      go_ret
      exact ⟨rfl, HA.out⟩
  · have HG2 : Hid (Away [] w3 (w3.alloc (.cells ([165, 166].map (Value.int .u8)).toArray 5))) := (Away.refl [] w3).alloc _
    have HRL0 : Hid (Row (w3.alloc (.cells ([165, 166].map (Value.int .u8)).toArray 5)) (some ⟨w3.heap.size, 0, none⟩) [165, 166]) := Row.lit w3 _ HM1.out (by simp)
    obtain ⟨gl, hgl⟩ : ∃ gl, gl = w3.heap.size := ⟨_, rfl⟩
    obtain ⟨wa, hwa⟩ : ∃ wa, wa = w3.alloc (.cells ([165, 166].map (Value.int .u8)).toArray 5) := ⟨_, rfl⟩
    go_simp
    refine hK.out _ _ ⟨HB.out.on HG2.out, HB2.out.on HG2.out⟩ (fun hHeld => ?_)
    clear hK K
    try simp only [Act.put, List.setIfInBounds_toArray, List.set_cons_zero, List.set_cons_succ]
    rw [← hgl] at HRL0
    rw [← hwa] at HG2 HRL0
    simp only [List.map_cons, List.map_nil] at hwa
    rw [← hwa]
    rw [← hgl]
    clear hwa hgl
    refine wpAnyH_ready (rs := [11]) (by kernel_rfl) (by simp) ?_
    refine AllReadyH.cons (by simp only [List.getElem?_toArray, List.getElem?_cons_succ, List.getElem?_cons_zero]; rfl) (fun K hK => ?_) AllReadyH.nil
    go_simp
    refine (own_any ao p.o _ capo _ rfl (by exact ((HO.out.on HA.out).on HG2.out).of.2.2.2)).mono ?_
    rintro E wb ⟨v3, rfl, ho3, hn3, haw3, hb3, hl3⟩
    have HG4 : Hid (Bag w3 wb v3 p.o) := ⟨ho3, hn3.mono HG2.out.size, HG2.out.on haw3⟩
    have HRL := Lib.hid (HRL0.out.on haw3)
    clear ho3 hn3 haw3 hb3 hl3 HRL0 HG2
    go_wp2_with fail
    refine hK.out _ _ ⟨HB.out.on HG4.out.a, HB2.out.on HG4.out.a⟩ (fun hHeld => ?_)
    clear hK K
    try simp only [Act.put, List.setIfInBounds_toArray, List.set_cons_zero, List.set_cons_succ]
    refine wpAnyH_ready (rs := [13]) (by kernel_rfl) (by simp) ?_
    refine AllReadyH.cons (by simp only [List.getElem?_toArray, List.getElem?_cons_succ, List.getElem?_cons_zero]; rfl) (fun K hK => ?_) AllReadyH.nil
    refine step_appW rfl (.tmp 24) (.tmp 25) rfl v3 p.o [165, 166] rfl (by exact HG4.out.o) ⟨gl, 0, none⟩ 2 2 rfl rfl (by exact HRL.out.src) (by omega) (fun v5 wy r1 r2 r3 => ?_)
    have HG5 := Lib.hid (HG4.out.app r1 r2 r3)
    clear r1 r2 r3 HG4 HRL
    obtain ⟨g5, cap5, rfl, hc5⟩ := HG5.out.o.some' (by simp)
    refine hK.out _ _ ⟨HB.out.on HG5.out.a, HB2.out.on HG5.out.a⟩ (fun hHeld => ?_)
    clear hK K
    try simp only [Act.put, List.setIfInBounds_toArray, List.set_cons_zero, List.set_cons_succ]
    have hln : (p.o ++ [165, 166]).length = p.o.length + 2 := by simp
    rw [hln] at HG5 ⊢
    clear hln hc5
    refine wpAnyH_ready (rs := [14]) (by kernel_rfl) (by simp) ?_
    refine AllReadyH.cons (by simp only [List.getElem?_toArray, List.getElem?_cons_succ, List.getElem?_cons_zero]; rfl) (fun K hK => ?_) AllReadyH.nil
    have HRV : Hid (Row wy (some ⟨g5, 0, none⟩) (p.o ++ [165, 166])) := HG5.out.o.row' (by simp; omega) HRO.out.2.1
    replace HRO := Lib.hid (HRO.out.on HG5.out.a)
    replace HB := Lib.hid (HB.out.on HG5.out.a)
    replace HB2 := Lib.hid (HB2.out.on HG5.out.a)
    replace HA := Lib.hid (HA.out.on HG5.out.a)
    replace HRD := Lib.hid (HRD.out.on HG5.out.a)
    clear HG5
    go_simp
    refine (same_yes (some ⟨go, 0, none⟩) (some ⟨g5, 0, none⟩) (p.o ++ [165, 166]) (p.o ++ [165, 166]) (p.o.length + 2) (p.o.length + 2) cao cap5 _ (by simp) (by simp) (by simp) (by simp) (by exact HRO.out) (by exact HRV.out) rfl).mono ?_
    rintro E w4 ⟨rfl, rfl⟩
    go_wp2_with fail
    refine hK.out _ _ ⟨HB.out, HB2.out⟩ (fun hHeld => ?_)
    clear hK K
    try simp only [Act.put, List.setIfInBounds_toArray, List.set_cons_zero, List.set_cons_succ]
    clear HRV
    refine wpAnyH_take (i := 15) (v := ?_) (by simp only [List.getElem?_toArray, List.getElem?_cons_succ, List.getElem?_cons_zero]; rfl) (by kernel_rfl) (by kernel_rfl) (by kernel_rfl) (by exact fun _ _ _ h => h) (Or.inl ⟨by rfl, ?_⟩) (by assumption) ?_
    rotate_left
    · intro wq hSw
      (try dsimp only at hSw)
      go_simp
      all_goals (with_reducible rfl)
    try simp only [Act.put, List.setIfInBounds_toArray, List.set_cons_zero, List.set_cons_succ]
    refine wpAnyH_take (i := 16) (v := ?_) (by simp only [List.getElem?_toArray, List.getElem?_cons_succ, List.getElem?_cons_zero]; rfl) (by kernel_rfl) (by kernel_rfl) (by kernel_rfl) (by exact fun _ _ _ h => h) (Or.inl ⟨by rfl, ?_⟩) (by assumption) ?_
    rotate_left
    · intro wq hSw
      (try dsimp only at hSw)
      go_simp
      all_goals (with_reducible rfl)
    try simp only [Act.put, List.setIfInBounds_toArray, List.set_cons_zero, List.set_cons_succ]
    refine wpAnyH_take (i := 17) (v := ?_) (by simp only [List.getElem?_toArray, List.getElem?_cons_succ, List.getElem?_cons_zero]; rfl) (by kernel_rfl) (by kernel_rfl) (by kernel_rfl) (by exact fun _ _ _ h => h) (Or.inl ⟨by rfl, ?_⟩) (by assumption) ?_
    rotate_left
    · intro wq hSw
      (try dsimp only at hSw)
      go_simp
      all_goals (with_reducible rfl)
    try simp only [Act.put, List.setIfInBounds_toArray, List.set_cons_zero, List.set_cons_succ]
    refine wpAnyH_take (i := 18) (by simp only [List.getElem?_toArray, List.getElem?_cons_succ, List.getElem?_cons_zero]; rfl) (by kernel_rfl) (by kernel_rfl) (by kernel_rfl) (by exact fun _ _ _ h => h) (yields_ld (ad := ⟨g1, 45, none⟩) (by rfl) _ rfl rfl (fun w' h => ld26 (h.1.cells HAD.out).d)) (by assumption) ?_
    try simp only [Act.put, List.setIfInBounds_toArray, List.set_cons_zero, List.set_cons_succ]
    refine wpAnyH_take (i := 19) (v := ?_) (by simp only [List.getElem?_toArray, List.getElem?_cons_succ, List.getElem?_cons_zero]; rfl) (by kernel_rfl) (by kernel_rfl) (by kernel_rfl) (by exact fun _ _ _ h => h) (Or.inl ⟨by rfl, ?_⟩) (by assumption) ?_
    rotate_left
    · intro wq hSw
      (try dsimp only at hSw)
      go_simp
      all_goals (with_reducible rfl)
    try simp only [Act.put, List.setIfInBounds_toArray, List.set_cons_zero, List.set_cons_succ]
    refine wpAnyH_take (i := 20) (v := ?_) (by simp only [List.getElem?_toArray, List.getElem?_cons_succ, List.getElem?_cons_zero]; rfl) (by kernel_rfl) (by kernel_rfl) (by kernel_rfl) (by exact fun _ _ _ h => h) (Or.inl ⟨by rfl, ?_⟩) (by assumption) ?_
    rotate_left
    · intro wq hSw
      (try dsimp only at hSw)
      go_simp
      all_goals (with_reducible rfl)
    try simp only [Act.put, List.setIfInBounds_toArray, List.set_cons_zero, List.set_cons_succ]
    refine wpAnyH_take (i := 21) (v := ?_) (by simp only [List.getElem?_toArray, List.getElem?_cons_succ, List.getElem?_cons_zero]; rfl) (by kernel_rfl) (by kernel_rfl) (by kernel_rfl) (by exact fun _ _ _ h => h) (Or.inl ⟨by rfl, ?_⟩) (by assumption) ?_
    rotate_left
    · intro wq hSw
      (try dsimp only at hSw)
      go_simp
      all_goals (with_reducible rfl)
    try simp only [Act.put, List.setIfInBounds_toArray, List.set_cons_zero, List.set_cons_succ]
    refine wpAnyH_take (i := 22) (v := ?_) (by simp only [List.getElem?_toArray, List.getElem?_cons_succ, List.getElem?_cons_zero]; rfl) (by kernel_rfl) (by kernel_rfl) (by kernel_rfl) (by exact fun _ _ _ h => h) (Or.inl ⟨by rfl, ?_⟩) (by assumption) ?_
    rotate_left
    · intro wq hSw
      (try dsimp only at hSw)
      go_simp
      all_goals (with_reducible rfl)
    try simp only [Act.put, List.setIfInBounds_toArray, List.set_cons_zero, List.set_cons_succ]
    refine wpAnyH_take (i := 23) (by simp only [List.getElem?_toArray, List.getElem?_cons_succ, List.getElem?_cons_zero]; rfl) (by kernel_rfl) (by kernel_rfl) (by kernel_rfl) (by exact fun _ _ _ h => h) (yields_ld (ad := ⟨g2, 45, none⟩) (by rfl) _ rfl rfl (fun w' h => ld26 (h.2.cells HAD.out).d)) (by assumption) ?_
    try simp only [Act.put, List.setIfInBounds_toArray, List.set_cons_zero, List.set_cons_succ]
    refine wpAnyH_ready (rs := [24, 25]) (by kernel_rfl) (by simp) ?_
    refine AllReadyH.cons (by simp only [List.getElem?_toArray, List.getElem?_cons_succ, List.getElem?_cons_zero]; rfl) (fun K hK => ?_) (AllReadyH.cons (by simp only [List.getElem?_toArray, List.getElem?_cons_succ, List.getElem?_cons_zero]; rfl) (fun K hK => ?_) AllReadyH.nil)
    · go_simp
      refine (own_any ad p.d _ capd _ rfl (by exact (HD.out.on HA.out).of.2.2.2)).mono ?_
      rintro E wa ⟨v3, rfl, ho3, hn3, haw3, hb3, hl3⟩
      have HG3 : Hid (Bag w4 wa v3 p.d) := ⟨ho3, hn3, haw3⟩
      clear ho3 hn3 haw3 hb3 hl3
      go_wp2_with fail
      refine hK.out _ _ ⟨HB.out.on HG3.out.a, HB2.out.on HG3.out.a⟩ (fun hHeld => ?_)
      clear hK K
      try simp only [Act.put, List.setIfInBounds_toArray, List.set_cons_zero, List.set_cons_succ]
      refine wpAnyH_ready (rs := [25]) (by kernel_rfl) (by simp) ?_
      refine AllReadyH.cons (by simp only [List.getElem?_toArray, List.getElem?_cons_succ, List.getElem?_cons_zero]; rfl) (fun K hK => ?_) AllReadyH.nil
      have HG4 : Hid (Bag w4 (wa.alloc (.cells ([167, 168].map (Value.int .u8)).toArray 5)) v3 p.d) := HG3.out.on ((Away.refl [] wa).alloc _)
      have HRL : Hid (Row (wa.alloc (.cells ([167, 168].map (Value.int .u8)).toArray 5)) (some ⟨wa.heap.size, 0, none⟩) [167, 168]) := Row.lit wa _ HM2.out (by simp)
      obtain ⟨gl, hgl⟩ : ∃ gl, gl = wa.heap.size := ⟨_, rfl⟩
      obtain ⟨wb, hwb⟩ : ∃ wb, wb = wa.alloc (.cells ([167, 168].map (Value.int .u8)).toArray 5) := ⟨_, rfl⟩
      go_simp
      refine hK.out _ _ ⟨HB.out.on HG4.out.a, HB2.out.on HG4.out.a⟩ (fun hHeld => ?_)
      clear hK K
      try simp only [Act.put, List.setIfInBounds_toArray, List.set_cons_zero, List.set_cons_succ]
      rw [← hgl] at HRL ⊢
      rw [← hwb] at HG4 HRL
      simp only [List.map_cons, List.map_nil] at hwb
      rw [← hwb]
      clear hwb hgl HG3
      refine wpAnyH_ready (rs := [26]) (by kernel_rfl) (by simp) ?_
      refine AllReadyH.cons (by simp only [List.getElem?_toArray, List.getElem?_cons_succ, List.getElem?_cons_zero]; rfl) (fun K hK => ?_) AllReadyH.nil
      refine step_appW rfl (.tmp 37) (.tmp 38) rfl v3 p.d [167, 168] rfl (by exact HG4.out.o) ⟨gl, 0, none⟩ 2 2 rfl rfl (by exact HRL.out.src) (by omega) (fun v5 wy r1 r2 r3 => ?_)
      have HG5 := Lib.hid (HG4.out.app r1 r2 r3)
      clear r1 r2 r3 HG4 HRL
      obtain ⟨g5, cap5, rfl, hc5⟩ := HG5.out.o.some' (by simp)
      refine hK.out _ _ ⟨HB.out.on HG5.out.a, HB2.out.on HG5.out.a⟩ (fun hHeld => ?_)
      clear hK K
      try simp only [Act.put, List.setIfInBounds_toArray, List.set_cons_zero, List.set_cons_succ]
      have hln : (p.d ++ [167, 168]).length = p.d.length + 2 := by simp
      rw [hln] at HG5 ⊢
      clear hln hc5
      refine wpAnyH_ready (rs := [27]) (by kernel_rfl) (by simp) ?_
      refine AllReadyH.cons (by simp only [List.getElem?_toArray, List.getElem?_cons_succ, List.getElem?_cons_zero]; rfl) (fun K hK => ?_) AllReadyH.nil
      have HRV : Hid (Row wy (some ⟨g5, 0, none⟩) (p.d ++ [167, 168])) := HG5.out.o.row' (by simp; omega) HRD.out.2.1
      replace HRD := Lib.hid (HRD.out.on HG5.out.a)
      replace HB := Lib.hid (HB.out.on HG5.out.a)
      replace HB2 := Lib.hid (HB2.out.on HG5.out.a)
      replace HA := Lib.hid (HA.out.on HG5.out.a)

      clear HG5
      go_simp
      refine (same_yes (some ⟨gd, 0, none⟩) (some ⟨g5, 0, none⟩) (p.d ++ [167, 168]) (p.d ++ [167, 168]) (p.d.length + 2) (p.d.length + 2) cad cap5 _ (by simp) (by simp) (by simp) (by simp) (by exact HRD.out) (by exact HRV.out) rfl).mono ?_
      rintro E w5 ⟨rfl, rfl⟩
      go_wp2_with fail
      refine hK.out _ _ ⟨HB.out, HB2.out⟩ (fun hHeld => ?_)
      clear hK K
      try simp only [Act.put, List.setIfInBounds_toArray, List.set_cons_zero, List.set_cons_succ]
      clear HRV
      refine wpAnyH_take (i := 28) (v := ?_) (by simp only [List.getElem?_toArray, List.getElem?_cons_succ, List.getElem?_cons_zero]; rfl) (by kernel_rfl) (by kernel_rfl) (by kernel_rfl) (by exact fun _ _ _ h => h) (Or.inl ⟨by rfl, ?_⟩) (by assumption) ?_
      rotate_left
      · intro wq hSw
        (try dsimp only at hSw)
        go_simp
        all_goals (with_reducible rfl)
      try simp only [Act.put, List.setIfInBounds_toArray, List.set_cons_zero, List.set_cons_succ]
      refine wpAnyH_take (i := 29) (v := ?_) (by simp only [List.getElem?_toArray, List.getElem?_cons_succ, List.getElem?_cons_zero]; rfl) (by kernel_rfl) (by kernel_rfl) (by kernel_rfl) (by exact fun _ _ _ h => h) (Or.inl ⟨by rfl, ?_⟩) (by assumption) ?_
      rotate_left
      · intro wq hSw
        (try dsimp only at hSw)
        go_simp
        all_goals (with_reducible rfl)
      try simp only [Act.put, List.setIfInBounds_toArray, List.set_cons_zero, List.set_cons_succ]
      refine wpAnyH_done (by kernel_rfl) ?_ _
      go_wp2_with fail
      go_ret
      exact ⟨rfl, HA.out⟩
    · have HG2 : Hid (Away [] w4 (w4.alloc (.cells ([167, 168].map (Value.int .u8)).toArray 5))) := (Away.refl [] w4).alloc _
      have HRL0 : Hid (Row (w4.alloc (.cells ([167, 168].map (Value.int .u8)).toArray 5)) (some ⟨w4.heap.size, 0, none⟩) [167, 168]) := Row.lit w4 _ HM2.out (by simp)
      obtain ⟨gl, hgl⟩ : ∃ gl, gl = w4.heap.size := ⟨_, rfl⟩
      obtain ⟨wa, hwa⟩ : ∃ wa, wa = w4.alloc (.cells ([167, 168].map (Value.int .u8)).toArray 5) := ⟨_, rfl⟩
      go_simp
      refine hK.out _ _ ⟨HB.out.on HG2.out, HB2.out.on HG2.out⟩ (fun hHeld => ?_)
      clear hK K
      try simp only [Act.put, List.setIfInBounds_toArray, List.set_cons_zero, List.set_cons_succ]
      rw [← hgl] at HRL0
      rw [← hwa] at HG2 HRL0
      simp only [List.map_cons, List.map_nil] at hwa
      rw [← hwa]
      rw [← hgl]
      clear hwa hgl
      refine wpAnyH_ready (rs := [24]) (by kernel_rfl) (by simp) ?_
      refine AllReadyH.cons (by simp only [List.getElem?_toArray, List.getElem?_cons_succ, List.getElem?_cons_zero]; rfl) (fun K hK => ?_) AllReadyH.nil
      go_simp
      refine (own_any ad p.d _ capd _ rfl (by exact ((HD.out.on HA.out).on HG2.out).of.2.2.2)).mono ?_
      rintro E wb ⟨v3, rfl, ho3, hn3, haw3, hb3, hl3⟩
      have HG4 : Hid (Bag w4 wb v3 p.d) := ⟨ho3, hn3.mono HG2.out.size, HG2.out.on haw3⟩
      have HRL := Lib.hid (HRL0.out.on haw3)
      clear ho3 hn3 haw3 hb3 hl3 HRL0 HG2
      go_wp2_with fail
      refine hK.out _ _ ⟨HB.out.on HG4.out.a, HB2.out.on HG4.out.a⟩ (fun hHeld => ?_)
      clear hK K
      try simp only [Act.put, List.setIfInBounds_toArray, List.set_cons_zero, List.set_cons_succ]
      refine wpAnyH_ready (rs := [26]) (by kernel_rfl) (by simp) ?_
      refine AllReadyH.cons (by simp only [List.getElem?_toArray, List.getElem?_cons_succ, List.getElem?_cons_zero]; rfl) (fun K hK => ?_) AllReadyH.nil
      refine step_appW rfl (.tmp 37) (.tmp 38) rfl v3 p.d [167, 168] rfl (by exact HG4.out.o) ⟨gl, 0, none⟩ 2 2 rfl rfl (by exact HRL.out.src) (by omega) (fun v5 wy r1 r2 r3 => ?_)
      have HG5 := Lib.hid (HG4.out.app r1 r2 r3)
      clear r1 r2 r3 HG4 HRL
      obtain ⟨g5, cap5, rfl, hc5⟩ := HG5.out.o.some' (by simp)
      refine hK.out _ _ ⟨HB.out.on HG5.out.a, HB2.out.on HG5.out.a⟩ (fun hHeld => ?_)
      clear hK K
      try simp only [Act.put, List.setIfInBounds_toArray, List.set_cons_zero, List.set_cons_succ]
      have hln : (p.d ++ [167, 168]).length = p.d.length + 2 := by simp
      rw [hln] at HG5 ⊢
      clear hln hc5
      refine wpAnyH_ready (rs := [27]) (by kernel_rfl) (by simp) ?_
      refine AllReadyH.cons (by simp only [List.getElem?_toArray, List.getElem?_cons_succ, List.getElem?_cons_zero]; rfl) (fun K hK => ?_) AllReadyH.nil
      have HRV : Hid (Row wy (some ⟨g5, 0, none⟩) (p.d ++ [167, 168])) := HG5.out.o.row' (by simp; omega) HRD.out.2.1
      replace HRD := Lib.hid (HRD.out.on HG5.out.a)
      replace HB := Lib.hid (HB.out.on HG5.out.a)
      replace HB2 := Lib.hid (HB2.out.on HG5.out.a)
      replace HA := Lib.hid (HA.out.on HG5.out.a)

      clear HG5
      go_simp
      refine (same_yes (some ⟨gd, 0, none⟩) (some ⟨g5, 0, none⟩) (p.d ++ [167, 168]) (p.d ++ [167, 168]) (p.d.length + 2) (p.d.length + 2) cad cap5 _ (by simp) (by simp) (by simp) (by simp) (by exact HRD.out) (by exact HRV.out) rfl).mono ?_
      rintro E w5 ⟨rfl, rfl⟩
      go_wp2_with fail
      refine hK.out _ _ ⟨HB.out, HB2.out⟩ (fun hHeld => ?_)
      clear hK K
      try simp only [Act.put, List.setIfInBounds_toArray, List.set_cons_zero, List.set_cons_succ]
      clear HRV
      refine wpAnyH_take (i := 28) (v := ?_) (by simp only [List.getElem?_toArray, List.getElem?_cons_succ, List.getElem?_cons_zero]; rfl) (by kernel_rfl) (by kernel_rfl) (by kernel_rfl) (by exact fun _ _ _ h => h) (Or.inl ⟨by rfl, ?_⟩) (by assumption) ?_
      rotate_left
      · intro wq hSw
        (try dsimp only at hSw)
        go_simp
        all_goals (with_reducible rfl)
      try simp only [Act.put, List.setIfInBounds_toArray, List.set_cons_zero, List.set_cons_succ]
      refine wpAnyH_take (i := 29) (v := ?_) (by simp only [List.getElem?_toArray, List.getElem?_cons_succ, List.getElem?_cons_zero]; rfl) (by kernel_rfl) (by kernel_rfl) (by kernel_rfl) (by exact fun _ _ _ h => h) (Or.inl ⟨by rfl, ?_⟩) (by assumption) ?_
      rotate_left
      · intro wq hSw
        (try dsimp only at hSw)
        go_simp
        all_goals (with_reducible rfl)
      try simp only [Act.put, List.setIfInBounds_toArray, List.set_cons_zero, List.set_cons_succ]
      refine wpAnyH_done (by kernel_rfl) ?_ _
      go_wp2_with fail
      go_ret
      exact ⟨rfl, HA.out⟩
#print axioms kept_c
end Go.Proofs.YtbkeilboneaejaaGreatDoor.U5

namespace Go.Proofs.YtbkeilboneaejaaGreatDoor
open Go.ChangeShapes Go.WideShapes Go.ChangeAt Go.RowKit Num
set_option linter.unusedVariables false
set_option maxHeartbeats 4000000
set_option maxRecDepth 100000

/-- What was lent is written over: nothing but the lists' own blocks. -/
theorem wipe_c (p : Pk) (ov dv : Value) (B : Nat) (w : World) (hm : Mine w B p ov dv) (hw : Wf p) :
    Calls Tryz.prog 22 #[.agg (csP p ov dv)] w fun E w' => E = .returned (.tuple #[]) ∧ Away (ov.ownBlock.toList ++ dv.ownBlock.toList) w w' := by
  obtain ⟨a1, n1, c1, rfl⟩ := hm.o.shp
  obtain ⟨a2, n2, c2, rfl⟩ := hm.d.shp
  have hn1 : p.o.length = n1 := (Sl.of (hm.o.sl hw.o hw.ol)).1
  have hn2 : p.d.length = n2 := (Sl.of (hm.d.sl hw.d hw.dn)).1
  have hl1 := hw.ol; have hl2 := hw.dn
  rw [hn1] at hl1
  rw [hn2] at hl2
  have HAD := Lib.hid hw.ad
  have HO := Lib.hid hm.o; have HD := Lib.hid hm.d; have HAP := Lib.hid hm.ap
  have HN1 := Lib.hid hn1; have HN2 := Lib.hid hn2
  have hlt1 := Lib.hid hm.o.lt; have hlt2 := Lib.hid hm.d.lt
  clear hm hw hn1 hn2
  go_enter Tryz.func22, Tryz.ntmps22
  go_wp2_with (refine wpList_box28 rfl _ rfl p _ _ rfl ?_; refine Hid.out ?_)
  refine Lib.hid ?_
  intro g1 w1 hg1 hb1 haw1
  have HS : Hid (∀ x ∈ (Value.slice a1 n1 c1).ownBlock.toList ++ (Value.slice a2 n2 c2).ownBlock.toList, x ≠ g1) := fun x hx => by
    rcases List.mem_append.1 hx with h | h
    · have := hlt1.out x (by simpa using h); omega
    · have := hlt2.out x (by simpa using h); omega
  have HST : Hid (Away ((Value.slice a1 n1 c1).ownBlock.toList ++ (Value.slice a2 n2 c2).ownBlock.toList) w w1 ∧ BoxP w1 g1 p (.slice a1 n1 c1) (.slice a2 n2 c2) ∧ (∃ m, m.length = n1 ∧ Owns w1 (.slice a1 n1 c1) m) ∧ Owns w1 (.slice a2 n2 c2) p.d) :=
    ⟨haw1.mono (by simp), hb1, ⟨p.o, HN1.out, HO.out.away haw1 (by simp)⟩, HD.out.away haw1 (by simp)⟩
  clear hb1 haw1 HO HD hg1
  go_wp2_with fail
  go_loopw [2] (fun i wr => ∃ k : Nat, k ≤ n1 ∧ i = .int .i64 k ∧ Away ((Value.slice a1 n1 c1).ownBlock.toList ++ (Value.slice a2 n2 c2).ownBlock.toList) w wr ∧ BoxP wr g1 p (.slice a1 n1 c1) (.slice a2 n2 c2) ∧ (∃ m, m.length = n1 ∧ Owns wr (.slice a1 n1 c1) m) ∧ Owns wr (.slice a2 n2 c2) p.d) (fun i _ => n1 - (intOf i).toNat)
  case atStart => exact ⟨0, by omega, rfl, HST.out⟩
  case round =>
    obtain ⟨k, hk, rfl, haw, hb, ⟨m, hml, hom⟩, hod⟩ := hrel
    have c12 := (hb.cells HAD.out).o
    by_cases hlt : k < n1
    · obtain ⟨g, cap, hv, hcap⟩ := hom.some' (by intro h; rw [h] at hml; simp at hml; omega)
      rw [hml] at hv
      simp only [Value.slice.injEq] at hv
      obtain ⟨rfl, -, rfl⟩ := hv
      obtain ⟨d0, d1⟩ := hom.cells k (by omega)
      have hA := away_put (w := wr) (g := g) k (.int .u8 238)
      have hgm : g ∈ (Value.slice (some ⟨g, 0, none⟩) n1 c1).ownBlock.toList ++ (Value.slice a2 n2 c2).ownBlock.toList := by simp [Value.ownBlock]
      have HST2 : Hid (Away ((Value.slice (some ⟨g, 0, none⟩) n1 c1).ownBlock.toList ++ (Value.slice a2 n2 c2).ownBlock.toList) w (wr.setCell ⟨g, k, none⟩ (.int .u8 238)) ∧ BoxP (wr.setCell ⟨g, k, none⟩ (.int .u8 238)) g1 p (.slice (some ⟨g, 0, none⟩) n1 c1) (.slice a2 n2 c2) ∧ (∃ m, m.length = n1 ∧ Owns (wr.setCell ⟨g, k, none⟩ (.int .u8 238)) (.slice (some ⟨g, 0, none⟩) n1 c1) m) ∧ Owns (wr.setCell ⟨g, k, none⟩ (.int .u8 238)) (.slice a2 n2 c2) p.d) :=
        ⟨haw.setCell (.inl hgm) _, hb.away hA (by simp; exact fun e => HS.out g hgm e.symm), ⟨m.set k 238, by simpa using hml, hom.set hml k 238⟩, hod.away hA (fun x hx hx' => HAP.out g rfl (by simp at hx'; rw [← hx']; exact hx))⟩
      have hlt' : (k : Int) < (n1 : Int) := by omega
      clear haw hb hom hod hA hgm
      go_wp2_with fail
      go_roundw
      case rel => exact ⟨k + 1, by omega, by go_num, HST2.out⟩
      case measure => simp [intOf]; omega
    · have hlt' : ¬ (k : Int) < (n1 : Int) := by omega
      have HST3 := Lib.hid (And.intro haw (And.intro hb hod))
      clear haw hb hom hod
      go_wp2_with fail
      go_loopw [3] (fun i wr => ∃ k : Nat, k ≤ n2 ∧ i = .int .i64 k ∧ Away ((Value.slice a1 n1 c1).ownBlock.toList ++ (Value.slice a2 n2 c2).ownBlock.toList) w wr ∧ BoxP wr g1 p (.slice a1 n1 c1) (.slice a2 n2 c2) ∧ (∃ m, m.length = n2 ∧ Owns wr (.slice a2 n2 c2) m)) (fun i _ => n2 - (intOf i).toNat)
      case atStart => exact ⟨0, by omega, rfl, HST3.out.1, HST3.out.2.1, p.d, HN2.out, HST3.out.2.2⟩
      case round =>
        obtain ⟨k, hk, rfl, haw, hb, ⟨m, hml, hom⟩⟩ := hrel
        have c13 := (hb.cells HAD.out).d
        by_cases hlt : k < n2
        · obtain ⟨g, cap, hv, hcap⟩ := hom.some' (by intro h; rw [h] at hml; simp at hml; omega)
          rw [hml] at hv
          simp only [Value.slice.injEq] at hv
          obtain ⟨rfl, -, rfl⟩ := hv
          obtain ⟨d0, d1⟩ := hom.cells k (by omega)
          have hA := away_put (w := wr) (g := g) k (.int .u8 238)
          have hgm : g ∈ (Value.slice a1 n1 c1).ownBlock.toList ++ (Value.slice (some ⟨g, 0, none⟩) n2 c2).ownBlock.toList := by simp [Value.ownBlock]
          have HST2 : Hid (Away ((Value.slice a1 n1 c1).ownBlock.toList ++ (Value.slice (some ⟨g, 0, none⟩) n2 c2).ownBlock.toList) w (wr.setCell ⟨g, k, none⟩ (.int .u8 238)) ∧ BoxP (wr.setCell ⟨g, k, none⟩ (.int .u8 238)) g1 p (.slice a1 n1 c1) (.slice (some ⟨g, 0, none⟩) n2 c2) ∧ (∃ m, m.length = n2 ∧ Owns (wr.setCell ⟨g, k, none⟩ (.int .u8 238)) (.slice (some ⟨g, 0, none⟩) n2 c2) m)) :=
            ⟨haw.setCell (.inl hgm) _, hb.away hA (by simp; exact fun e => HS.out g hgm e.symm), ⟨m.set k 238, by simpa using hml, hom.set hml k 238⟩⟩
          have hlt' : (k : Int) < (n2 : Int) := by omega
          clear haw hb hom hA hgm
          go_wp2_with fail
          go_roundw
          case rel => exact ⟨k + 1, by omega, by go_num, HST2.out⟩
          case measure => simp [intOf]; omega
        · have hlt' : ¬ (k : Int) < (n2 : Int) := by omega
          have HST4 := Lib.hid haw
          clear haw hb hom
          go_wp2_with fail
          go_end0
          exact ⟨rfl, HST4.out⟩
#print axioms wipe_c
end Go.Proofs.YtbkeilboneaejaaGreatDoor
