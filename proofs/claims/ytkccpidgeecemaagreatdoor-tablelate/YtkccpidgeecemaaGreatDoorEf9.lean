/-
  begin.
-/
import Derived.Test.YtkccpidgeecemaaGreatDoorEfA
namespace Go.Proofs.YtkccpidgeecemaaGreatDoor
open Go.ChangeShapes Go.WideShapes Go.ChangeAt Go.RowKit
open S6 (wp_region_cls quiet_val quiet_call quiet_ld ld3 ld4 ld5 ld25 ld26 load28_run load24m_run)
set_option linter.unusedVariables false
set_option linter.unusedSimpArgs false
set_option maxRecDepth 20000
/-! The cells of an entry, whatever its first fragment's are. -/
def listF (k : Pk) (tb : Int) (bad : Bool) (lp dv : Value) (h : Int) (fs : List Value) (fl hd : Int) (mp : Value) : List Value :=
  listK k ++ ([.int .i64 tb, .bool bad, lp, dv, .int .i64 h] ++ (fs ++ [.int .i64 fl, .int .i64 hd, mp]))
theorem listF_len {k : Pk} (hk : Ad k) {tb : Int} {bad : Bool} {lp dv : Value} {h : Int} {fs : List Value} {fl hd : Int} {mp : Value} (hf : fs.length = 46) : (listF k tb bad lp dv h fs fl hd mp).length = 91 := by
  simp only [listF, List.length_append, listK_len hk, hf]; rfl
theorem listF_take {k : Pk} (hk : Ad k) (tb : Int) (bad : Bool) (lp dv : Value) (h : Int) (fs : List Value) (fl hd : Int) (mp : Value) : (listF k tb bad lp dv h fs fl hd mp).take 42 = listK k ++ [.int .i64 tb, .bool bad, lp, dv, .int .i64 h] := by
  unfold listF
  rw [← List.append_assoc, List.take_append_of_le_length (by simp [listK_len hk]), List.take_of_length_le (by simp [listK_len hk])]
theorem listF_drop {k : Pk} (hk : Ad k) (tb : Int) (bad : Bool) (lp dv : Value) (h : Int) (fs : List Value) (fl hd : Int) (mp : Value) (hf : fs.length = 46) : (listF k tb bad lp dv h fs fl hd mp).drop 88 = [.int .i64 fl, .int .i64 hd, mp] := by
  unfold listF
  rw [← List.append_assoc, ← List.append_assoc, List.drop_append_of_le_length (by simp [listK_len hk, hf]), List.drop_of_length_le (by simp [listK_len hk, hf])]
  rfl
theorem listF_put {k : Pk} (hk : Ad k) (tb : Int) (bad : Bool) (lp dv : Value) (h : Int) (fs gs : List Value) (fl hd : Int) (mp : Value) (hf : fs.length = 46) :
    (listF k tb bad lp dv h fs fl hd mp).take 42 ++ gs ++ (listF k tb bad lp dv h fs fl hd mp).drop 88 = listF k tb bad lp dv h gs fl hd mp := by
  rw [listF_take hk, listF_drop hk _ _ _ _ _ _ _ _ _ hf]
  simp [listF]
theorem set_right {α : Type} (a b : List α) (i : Nat) (x : α) (h : a.length ≤ i) : (a ++ b).set i x = a ++ b.set (i - a.length) x := by
  rw [List.set_append]; rw [if_neg (by omega)]
theorem listF_set {k : Pk} (hk : Ad k) (tb : Int) (bad : Bool) (lp dv : Value) (h : Int) (fs : List Value) (fl hd : Int) (mp : Value) (hf : fs.length = 46) :
    (∀ n, (listF k tb bad lp dv h fs fl hd mp).set 88 (.int .i64 n) = listF k tb bad lp dv h fs n hd mp) ∧ (∀ n, (listF k tb bad lp dv h fs fl hd mp).set 89 (.int .i64 n) = listF k tb bad lp dv h fs fl n mp) ∧
    (∀ x, (listF k tb bad lp dv h fs fl hd mp).set 86 x = listF k tb bad lp dv h (fs.set 44 x) fl hd mp) ∧ (∀ x, (listF k tb bad lp dv h fs fl hd mp).set 87 x = listF k tb bad lp dv h (fs.set 45 x) fl hd mp) ∧
    (∀ x, (listF k tb bad lp dv h fs fl hd mp).set 40 x = listF k tb bad lp x h fs fl hd mp) ∧ (∀ n, (listF k tb bad lp dv h fs fl hd mp).set 41 (.int .i64 n) = listF k tb bad lp dv n fs fl hd mp) := by
  have e : ∀ i x, 37 ≤ i → (listF k tb bad lp dv h fs fl hd mp).set i x = listK k ++ (([Value.int .i64 tb, .bool bad, lp, dv, .int .i64 h] ++ (fs ++ [.int .i64 fl, .int .i64 hd, mp])).set (i - 37) x) := fun i x hi => by
    unfold listF; rw [set_right _ _ _ _ (by rw [listK_len hk]; exact hi), listK_len hk]
  have e2 : ∀ i x, 42 ≤ i → (listF k tb bad lp dv h fs fl hd mp).set i x = listK k ++ ([Value.int .i64 tb, .bool bad, lp, dv, .int .i64 h] ++ ((fs ++ [.int .i64 fl, .int .i64 hd, mp]).set (i - 42) x)) := fun i x hi => by
    rw [e i x (by omega), set_right _ _ _ _ (by simp; omega)]
    all_goals (congr 3)
    all_goals (try (simp; omega))
  have e3 : ∀ i x, 88 ≤ i → (listF k tb bad lp dv h fs fl hd mp).set i x = listK k ++ ([Value.int .i64 tb, .bool bad, lp, dv, .int .i64 h] ++ (fs ++ ([.int .i64 fl, .int .i64 hd, mp] : List Value).set (i - 88) x)) := fun i x hi => by
    rw [e2 i x (by omega), set_right _ _ _ _ (by omega), hf]
    congr 4
  refine ⟨fun n => ?_, fun n => ?_, fun x => ?_, fun x => ?_, fun x => ?_, fun n => ?_⟩
  · rw [e3 88 _ (by omega)]; rfl
  · rw [e3 89 _ (by omega)]; rfl
  · rw [e2 86 _ (by omega), List.set_append, if_pos (by omega)]; rfl
  · rw [e2 87 _ (by omega), List.set_append, if_pos (by omega)]; rfl
  · rw [e 40 _ (by omega)]; rfl
  · rw [e 41 _ (by omega)]; rfl
theorem listE_F (s : Es) (lp dv ov mp : Value) : listE s lp dv ov mp = listF s.k s.tb s.bad lp dv s.h (listP s.f ov (.slice none 0 0)) s.fl s.hd mp := rfl
theorem step_storeM {ops : Array Oper} {o : Oper} {a : Act} {w : World} {K : Act → World → Prop} {Q : Exit → Act → World → Prop} {E : Prop} (hg : o.guard = none) (ty : TypeId) (x y : Operand) (ho : o.op = .store ty x y)
    (g k : Nat) (cells : List Value) (hx : a.eval x = .pointer (some ⟨g, k, none⟩)) (hy : a.eval y = .agg cells.toArray) (t : TypeId) (old : List Value) (hb : w.heap[g]? = some (.cells old.toArray t (0, 0))) (hi : (Tryz.prog.info? ty).map (·.size) = some cells.length)
    (hold : k + cells.length ≤ old.length) (h1 : ∀ v ∈ cells, v.oneCell' = true) (hK : K (a.put o.dst undef) (w.setRow g (old.take k ++ cells ++ old.drop (k + cells.length)).toArray)) : if Region.wanted o (yielded ops a.tmps) = true then Oper.wp Tryz.prog o a w K Q else E := by
  have hw : Region.wanted o (yielded ops a.tmps) = true := by simp [Region.wanted, hg]
  rw [if_pos hw]
  have hst := run_storeCells_at (P := Tryz.prog) g k t cells 0 old.toArray w hb (by simpa using hold) h1
  have e : (storeVar ty ⟨g, k, none⟩ (.agg cells.toArray)).run Tryz.prog w = .ok () (w.setRow g (old.take k ++ cells ++ old.drop (k + cells.length)).toArray) := by
    cases hq : Tryz.prog.info? ty with
    | none => simp [hq] at hi
    | some i =>
      have hs : i.size = cells.length := by simpa [hq] using hi
      simp only [Nat.add_zero] at hst
      simp [storeVar, sizeOf, typeInfo, hq, Value.cells, hs, hst]
  unfold Oper.wp execOp
  simp only [ho, hx, hy, Instr.storeAt, Instr.sureAddr, Sem.run_bind, Sem.run_pure, Result.andThen_ok, e]
  exact hK
theorem step_store3 {ops : Array Oper} {o : Oper} {a : Act} {w : World} {K : Act → World → Prop} {Q : Exit → Act → World → Prop} {E : Prop} (hg : o.guard = none) (s r : Nat)
    (ho : o.op = .store 3 (.tmp s) (.tmp r)) (g i : Nat) (hx : a.tmps[s]?.getD undef = .pointer (some ⟨g, i, none⟩)) (n : Int) (hy : a.tmps[r]?.getD undef = .int .i64 n) (u : Value) (hc : w.cell? ⟨g, i, none⟩ = some u) (hf : w.frozen? ⟨g, i, none⟩ = false)
    (hK : K (a.put o.dst undef) (w.setCell ⟨g, i, none⟩ (.int .i64 n))) :
    if Region.wanted o (yielded ops a.tmps) = true then Oper.wp Tryz.prog o a w K Q else E := by
  have hw : Region.wanted o (yielded ops a.tmps) = true := by simp [Region.wanted, hg]
  rw [if_pos hw]
  obtain ⟨d, op, ty, ps, af, gd⟩ := o
  simp only at ho
  subst ho
  go_simp
  exact hK
theorem blk_set {w : World} {g : Nat} {l : List Value} {t : TypeId} (h : w.heap[g]? = some (.cells l.toArray t (0, 0))) (i : Nat) (u : Value) : (w.setCell ⟨g, i, none⟩ u).heap[g]? = some (.cells (l.set i u).toArray t (0, 0)) := by
  rw [block_set h]; simp
theorem blk_cell {w : World} {g : Nat} {l : List Value} {t : TypeId} (h : w.heap[g]? = some (.cells l.toArray t (0, 0))) (i : Nat) : w.cell? ⟨g, i, none⟩ = l[i]? := by rw [cell_of_block h]; simp
theorem get_some {α : Type} {l : List α} {i : Nat} (h : i < l.length) : ∃ u, l[i]? = some u := ⟨l[i], List.getElem?_eq_getElem h⟩
structure Outs (p : Pk) (po pd : Value) (S : List Nat) : Prop where
  o : p.o ≠ [] → ∀ k, po.ownBlock = some k → k ∉ S
  d : p.d ≠ [] → ∀ k, pd.ownBlock = some k → k ∉ S
theorem Pkt.away {S : List Nat} {w w' : World} {p : Pk} {po pd : Value} (h : Pkt w p po pd) (hw : Away S w w') (ho : Outs p po pd S) : Pkt w' p po pd := ⟨h.wf, h.o.away hw ho.o, h.d.away hw ho.d⟩
theorem Outs.mono {p : Pk} {po pd : Value} {S T : List Nat} (h : Outs p po pd S) (hT : ∀ x ∈ T, x ∈ S) : Outs p po pd T := ⟨fun e k hk hm => h.o e k hk (hT k hm), fun e k hk hm => h.d e k hk (hT k hm)⟩
def BegOut (w : World) (g : Nat) (s : Es) (p : Pk) (lb : Nat) (lv dv ov : Value) (mb mn : Nat) (E : Ending) (w' : World) : Prop :=
  E = .returned (.tuple #[]) ∧ ∃ ov', EntG w' g (begS s p) lb lv dv ov' mb mn ∧ Moved w ov ov' ∧ Away [g] w w'
section
variable {w : World} {g : Nat} {s : Es} {lb : Nat} {lv dv ov : Value} {mb mn : Nat}
set_option maxHeartbeats 2000000 in
theorem begin_no (h : EntG w g s lb lv dv ov mb mn) (p : Pk) (po pd : Value) (hp : Pkt w p po pd) (hc : 0 < p.off ∨ 0 < s.fl) :
    Calls Tryz.prog 81 #[.pointer (some ⟨g, 0, none⟩), .agg (csP p po pd)] w (BegOut w g s p lb lv dv ov mb mn) := by
  have HB : Hid (begS s p = s) := by show _ = _; unfold begS; rw [if_pos hc]
  have HE := Lib.hid h
  have HAD := Lib.hid hp.wf.ad
  have c := h.cells.2.2.2.2.2.1
  clear h hp
  by_cases h0 : 0 < p.off
  · clear hc
    go_enter Tryz.func81, Tryz.ntmps81
    go_wp2_with (refine wpList_box28 rfl _ rfl p _ _ rfl ?_; refine Hid.out ?_)
    refine Lib.hid ?_
    intro g1 w1 hg1 hb1 haw1
    have s0 := (hb1.cells HAD.out).off
    replace HE := Lib.hid (HE.out.on haw1)
    have HA1 := Lib.hid haw1
    clear hb1 haw1
    go_wp2_with fail
    go_end0
    exact ⟨rfl, ov, by rw [HB.out]; exact HE.out, Moved.refl _ _, HA1.out.mono (by simp)⟩
  · have h1 : 0 < s.fl := by omega
    have h2 : (0 : Int) < (s.fl : Int) := by omega
    clear hc
    go_enter Tryz.func81, Tryz.ntmps81
    go_wp2_with (refine wpList_box28 rfl _ rfl p _ _ rfl ?_; refine Hid.out ?_)
    refine Lib.hid ?_
    intro g1 w1 hg1 hb1 haw1
    have s0 := (hb1.cells HAD.out).off
    replace c := haw1.cell (by simp) c
    replace HE := Lib.hid (HE.out.on haw1)
    have HA1 := Lib.hid haw1
    clear hb1 haw1
    go_wp2_with fail
    go_end0
    exact ⟨rfl, ov, by rw [HB.out]; exact HE.out, Moved.refl _ _, HA1.out.mono (by simp)⟩
set_option maxHeartbeats 8000000 in
theorem begin_yes (h : EntG w g s lb lv dv ov mb mn) (p : Pk) (po pd : Value) (hp : Pkt w p po pd) (hq : Plc p) (hg : Glob w) (ho : Outs p po pd [g]) (hg0 : g ≠ 0) (h0 : p.off = 0) (h1 : s.fl = 0) :
    Calls Tryz.prog 81 #[.pointer (some ⟨g, 0, none⟩), .agg (csP p po pd)] w (BegOut w g s p lb lv dv ov mb mn) := by
  have HBG : Hid (begS s p = { s with f := { p with d := [] }, fl := p.d.length, hd := hdP p }) := by show _ = _; unfold begS; rw [if_neg (by omega)]
  have HE := Lib.hid h
  have HP := Lib.hid hp
  have HG := Lib.hid hg
  have HOU := Lib.hid ho
  have HAD := Lib.hid hp.wf.ad
  have HG0 := Lib.hid hg0
  have c := h.cells.2.2.2.2.2.1
  rw [h1] at c
  obtain ⟨da, dc, hd, -, -, -⟩ := hp.d
  obtain ⟨oa, oc, hpo, -, hon, hor⟩ := hp.o
  obtain ⟨dn, hdn⟩ : ∃ dn, dn = p.d.length := ⟨_, rfl⟩
  rw [← hdn] at hd HBG
  obtain ⟨on, hopn⟩ : ∃ on, on = p.o.length := ⟨_, rfl⟩
  rw [← hopn] at hpo
  have KO : Hid (∀ W, Away [g] w W → Calls Tryz.prog 48 #[po] W fun e w' => ∃ v, e = .returned v ∧ Owns w' v p.o ∧ New W.heap.size v ∧ Away [] W w') := fun W hW => by
    obtain ⟨a, cap, he, -, hn, hr⟩ := (HP.out.away hW HOU.out).o
    rw [he]; exact clone_any a p.o cap W hn hr
  have KH : Hid (∀ W, Away [g] w W → Calls Tryz.prog 88 #[.agg (csP p po pd)] W fun e w' => e = .returned (.int .i64 (hdP p)) ∧ Away [] W w') := fun W hW => head_c p po pd W (HP.out.away hW HOU.out) (HG.out.away hW (by simp; exact fun e => HG0.out e.symm))
  generalize hdP p = hdv at *
  subst hd
  subst hpo
  clear h hp hg ho hg0 hq hon hor hdn hopn
  go_enter Tryz.func81, Tryz.ntmps81
  go_wp2_with (refine wpList_box28 rfl _ rfl p _ _ rfl ?_; refine Hid.out ?_)
  refine Lib.hid ?_
  intro g3 w3 hg3 hb3 haw3
  have s0 := (hb3.cells HAD.out).off
  rw [h0] at s0
  replace c := haw3.cell (by simp) c
  have HE0 := HE
  replace HE := Lib.hid (HE.out.on haw3)
  have HA3 := Lib.hid haw3
  have HB3 := Lib.hid hb3
  have HGG : Hid (g3 ≠ g) := by have := lt_of_block HE0.out.blk; show _ ≠ _; omega
  have hl3 := hb3.lt
  clear hb3 haw3
  go_wp2_with fail
  refine wp_region_held_drew (S := fun w' => BoxP w' g3 p (.slice oa on oc) (.slice da dn dc)) (by kernel_rfl) (by exact HB3.out) (fun hHeld => ?_)
  refine tkA 0 (v := ?_) (by simp only [gA, g1, g0]; rfl) (by kernel_rfl) (by exact fun _ _ _ h => h) (Or.inl ⟨by rfl, ?_⟩) (by assumption) ?_; rotate_left; focus (intro wq hSw; (try dsimp only at hSw); go_simp; all_goals (with_reducible rfl))
  try simp only [Act.put, sA, List.set_cons_zero, List.set_cons_succ]
  refine tkA 1 (v := ?_) (by simp only [gA, g1, g0]; rfl) (by kernel_rfl) (by exact fun _ _ _ h => h) (Or.inl ⟨by rfl, ?_⟩) (by assumption) ?_; rotate_left; focus (intro wq hSw; (try dsimp only at hSw); go_simp; all_goals (with_reducible rfl))
  try simp only [Act.put, sA, List.set_cons_zero, List.set_cons_succ]
  refine tkA 2 (v := ?_) (by simp only [gA, g1, g0]; rfl) (by kernel_rfl) (by exact fun _ _ _ h => h) (Or.inl ⟨by rfl, ?_⟩) (by assumption) ?_; rotate_left; focus (intro wq hSw; (try dsimp only at hSw); go_simp; all_goals (with_reducible rfl))
  try simp only [Act.put, sA, List.set_cons_zero, List.set_cons_succ]
  refine tkA 3 (by simp only [gA, g1, g0]; rfl) (by kernel_rfl) (by exact fun _ _ _ h => h) (yields_ld (ad := ⟨g3, 0, none⟩) (by rfl) _ rfl rfl (fun w' h => load28_run h HAD.out)) (by assumption) ?_; try simp only [Act.put, sA, List.set_cons_zero, List.set_cons_succ]
  refine tkA 4 (v := ?_) (by simp only [gA, g1, g0]; rfl) (by kernel_rfl) (by exact fun _ _ _ h => h) (Or.inl ⟨by rfl, ?_⟩) (by assumption) ?_; rotate_left; focus (intro wq hSw; (try dsimp only at hSw); go_simp; all_goals (with_reducible rfl))
  try simp only [Act.put, sA, List.set_cons_zero, List.set_cons_succ]
  refine tkA 5 (by simp only [gA, g1, g0]; rfl) (by kernel_rfl) (by exact fun _ _ _ h => h) (yields_ld (ad := ⟨g3, 45, none⟩) (by rfl) _ rfl rfl (fun w' h => ld26 (BoxP.cells h HAD.out).d)) (by assumption) ?_; try simp only [Act.put, sA, List.set_cons_zero, List.set_cons_succ]
  refine tkA 6 (v := ?_) (by simp only [gA, g1, g0]; rfl) (by kernel_rfl) (by exact fun _ _ _ h => h) (Or.inl ⟨by rfl, ?_⟩) (by assumption) ?_; rotate_left; focus (intro wq hSw; (try dsimp only at hSw); go_simp; all_goals (with_reducible rfl))
  try simp only [Act.put, sA, List.set_cons_zero, List.set_cons_succ]
  refine tkA 7 (by simp only [gA, g1, g0]; rfl) (by kernel_rfl) (by exact fun _ _ _ h => h) (yields_ld (ad := ⟨g3, 0, none⟩) (by rfl) _ rfl rfl (fun w' h => load28_run h HAD.out)) (by assumption) ?_; try simp only [Act.put, sA, List.set_cons_zero, List.set_cons_succ]
  refine wpAnyH_ready (rs := [8]) (by kernel_rfl) (by simp) ?_
  refine AllReadyH.cons (by simp only [gA, g1, g0]; rfl) (fun K hK => ?_) AllReadyH.nil
  go_simp
  refine (KH.out _ (HA3.out.mono (by simp)).drew).mono ?_
  rintro E y1 ⟨rfl, ha1⟩
  have ha1' : Away [] w3 y1 := ⟨ha1.os, ha1.tape, ha1.output, ha1.size, ha1.block⟩
  replace HE := Lib.hid (HE.out.on ha1')
  replace HB3 := Lib.hid (HB3.out.on ha1')
  replace HA3 := Lib.hid (HA3.out.trans ha1')
  have hl1 : w3.heap.size ≤ y1.heap.size := ha1'.size
  clear ha1 ha1'
  have HBK : Hid (y1.heap[g]? = some (.cells (listF s.k s.tb s.bad (.pointer (some ⟨lb, 0, none⟩)) dv s.h (listP s.f ov (.slice none 0 0)) s.fl s.hd (.map (some mb))).toArray 101 (0, 0))) := HE.out.blk
  have HLP : Hid ((listP s.f ov (.slice none 0 0)).length = 46) := listP_len HE.out.fad _ _
  have HLQ : Hid ((listP p (.slice oa on oc) (.slice da dn dc)).length = 46) := listP_len HAD.out _ _
  go_wp2_with fail
  refine hK.out _ _ (by exact HB3.out) (fun hHeld => ?_)
  clear hK K
  try simp only [Act.put, sA, List.set_cons_zero, List.set_cons_succ]
  refine tkA 9 (v := ?_) (by simp only [gA, g1, g0]; rfl) (by kernel_rfl) (by exact fun _ _ _ h => h) (Or.inl ⟨by rfl, ?_⟩) (by assumption) ?_; rotate_left; focus (intro wq hSw; (try dsimp only at hSw); go_simp; all_goals (with_reducible rfl))
  try simp only [Act.put, sA, List.set_cons_zero, List.set_cons_succ]
  refine tkA 10 (v := ?_) (by simp only [gA, g1, g0]; rfl) (by kernel_rfl) (by exact fun _ _ _ h => h) (Or.inl ⟨by rfl, ?_⟩) (by assumption) ?_; rotate_left; focus (intro wq hSw; (try dsimp only at hSw); go_simp; all_goals (with_reducible rfl))
  try simp only [Act.put, sA, List.set_cons_zero, List.set_cons_succ]
  refine wpAnyH_ready (rs := [11]) (by kernel_rfl) (by simp) ?_
  refine AllReadyH.cons (by simp only [gA, g1, g0]; rfl) (fun K hK => ?_) AllReadyH.nil
  refine step_storeM rfl 39 _ _ rfl g 42 (listP p (.slice oa on oc) (.slice da dn dc)) rfl rfl 101 _ (by exact HBK.out) (by rw [HLQ.out]; exact info28) (by rw [HLQ.out, listF_len HE.out.kad HLP.out]; omega) (listP_one p _ _ rfl rfl) ?_
  have e1 := listF_put HE.out.kad s.tb s.bad (.pointer (some ⟨lb, 0, none⟩)) dv s.h (listP s.f ov (.slice none 0 0)) (listP p (.slice oa on oc) (.slice da dn dc)) s.fl s.hd (.map (some mb)) HLP.out
  rw [show 42 + (listP p (.slice oa on oc) (.slice da dn dc)).length = 88 from by rw [HLQ.out], e1]
  have HAS : Hid (Away [g] y1 (y1.setRow g (listF s.k s.tb s.bad (.pointer (some ⟨lb, 0, none⟩)) dv s.h (listP p (.slice oa on oc) (.slice da dn dc)) s.fl s.hd (.map (some mb))).toArray)) := (Away.refl [g] _).setRow (.inl (by simp)) _
  have HBK2 : Hid ((y1.setRow g (listF s.k s.tb s.bad (.pointer (some ⟨lb, 0, none⟩)) dv s.h (listP p (.slice oa on oc) (.slice da dn dc)) s.fl s.hd (.map (some mb))).toArray).heap[g]? = some (.cells (listF s.k s.tb s.bad (.pointer (some ⟨lb, 0, none⟩)) dv s.h (listP p (.slice oa on oc) (.slice da dn dc)) s.fl s.hd (.map (some mb))).toArray 101 (0, 0))) := setRow_heap _ g _ _ 101 (0, 0) HBK.out
  replace HB3 := Lib.hid (HB3.out.away HAS.out (by simpa using HGG.out))
  refine hK.out _ _ (by exact HB3.out) (fun hHeld => ?_)
  clear hK K
  try simp only [Act.put]
  clear e1
  generalize y1.setRow g (listF s.k s.tb s.bad (.pointer (some ⟨lb, 0, none⟩)) dv s.h (listP p (.slice oa on oc) (.slice da dn dc)) s.fl s.hd (.map (some mb))).toArray = y2 at *
  refine tkA 12 (v := ?_) (by simp only [gA, g1, g0]; rfl) (by kernel_rfl) (by exact fun _ _ _ h => h) (Or.inl ⟨by rfl, ?_⟩) (by assumption) ?_; rotate_left; focus (intro wq hSw; (try dsimp only at hSw); go_simp; all_goals (with_reducible rfl))
  try simp only [Act.put, sA, List.set_cons_zero, List.set_cons_succ]
  refine tkA 13 (v := ?_) (by simp only [gA, g1, g0]; rfl) (by kernel_rfl) (by exact fun _ _ _ h => h) (Or.inl ⟨by rfl, ?_⟩) (by assumption) ?_; rotate_left; focus (intro wq hSw; (try dsimp only at hSw); go_simp; all_goals (with_reducible rfl))
  try simp only [Act.put, sA, List.set_cons_zero, List.set_cons_succ]
  refine wpAnyH_ready (rs := [14]) (by kernel_rfl) (by simp) ?_
  refine AllReadyH.cons (by simp only [gA, g1, g0]; rfl) (fun K hK => ?_) AllReadyH.nil
  obtain ⟨u1, hu1⟩ := get_some (l := listF s.k s.tb s.bad (.pointer (some ⟨lb, 0, none⟩)) dv s.h (listP p (.slice oa on oc) (.slice da dn dc)) s.fl s.hd (.map (some mb))) (i := 88) (by rw [listF_len HE.out.kad HLQ.out]; omega)
  refine step_store3 rfl 26 20 rfl g 88 rfl (dn : Int) rfl u1 (by rw [blk_cell HBK2.out]; exact hu1) (by exact free_of_block HBK2.out 88) ?_
  replace HBK2 := Lib.hid (blk_set HBK2.out 88 (.int .i64 (dn : Int)))
  rw [(listF_set HE.out.kad _ _ _ _ _ _ _ _ _ HLQ.out).1] at HBK2
  replace HAS := Lib.hid (HAS.out.trans (away_put (w := y2) (g := g) 88 (.int .i64 (dn : Int))))
  replace HB3 := Lib.hid (HB3.out.away (away_put (w := y2) (g := g) 88 (.int .i64 (dn : Int))) (by simpa using HGG.out))
  clear hu1
  refine hK.out _ _ (by exact HB3.out) (fun hHeld => ?_)
  clear hK K
  try simp only [Act.put]
  generalize y2.setCell ⟨g, 88, none⟩ (.int .i64 (dn : Int)) = y3 at *
  refine tkA 15 (v := ?_) (by simp only [gA, g1, g0]; rfl) (by kernel_rfl) (by exact fun _ _ _ h => h) (Or.inl ⟨by rfl, ?_⟩) (by assumption) ?_; rotate_left; focus (intro wq hSw; (try dsimp only at hSw); go_simp; all_goals (with_reducible rfl))
  try simp only [Act.put, sA, List.set_cons_zero, List.set_cons_succ]
  refine tkA 16 (v := ?_) (by simp only [gA, g1, g0]; rfl) (by kernel_rfl) (by exact fun _ _ _ h => h) (Or.inl ⟨by rfl, ?_⟩) (by assumption) ?_; rotate_left; focus (intro wq hSw; (try dsimp only at hSw); go_simp; all_goals (with_reducible rfl))
  try simp only [Act.put, sA, List.set_cons_zero, List.set_cons_succ]
  refine wpAnyH_ready (rs := [17]) (by kernel_rfl) (by simp) ?_
  refine AllReadyH.cons (by simp only [gA, g1, g0]; rfl) (fun K hK => ?_) AllReadyH.nil
  obtain ⟨u2, hu2⟩ := get_some (l := listF s.k s.tb s.bad (.pointer (some ⟨lb, 0, none⟩)) dv s.h (listP p (.slice oa on oc) (.slice da dn dc)) (dn : Int) s.hd (.map (some mb))) (i := 89) (by rw [listF_len HE.out.kad HLQ.out]; omega)
  refine step_store3 rfl 28 22 rfl g 89 rfl hdv rfl u2 (by rw [blk_cell HBK2.out]; exact hu2) (by exact free_of_block HBK2.out 89) ?_
  replace HBK2 := Lib.hid (blk_set HBK2.out 89 (.int .i64 hdv))
  rw [(listF_set HE.out.kad _ _ _ _ _ _ _ _ _ HLQ.out).2.1] at HBK2
  replace HAS := Lib.hid (HAS.out.trans (away_put (w := y3) (g := g) 89 (.int .i64 hdv)))
  replace HB3 := Lib.hid (HB3.out.away (away_put (w := y3) (g := g) 89 (.int .i64 hdv)) (by simpa using HGG.out))
  clear hu2
  refine hK.out _ _ (by exact HB3.out) (fun hHeld => ?_)
  clear hK K
  try simp only [Act.put]
  generalize y3.setCell ⟨g, 89, none⟩ (.int .i64 hdv) = y4 at *
  refine wpAnyH_done (by kernel_rfl) ?_ _
  have s44 := (HB3.out.cells HAD.out).o
  have HS4 : Hid (y1.heap.size ≤ y4.heap.size) := HAS.out.size
  have HA4 : Hid (Away [g] w y4) := (HA3.out.mono (by simp)).trans HAS.out
  have K4 := Lib.hid (KO.out y4 HA4.out)
  clear hHeld
  go_wp2_with fail
  refine K4.out.mono ?_
  rintro E y5 ⟨v, rfl, hov, hnv, ha5⟩
  obtain ⟨a3, n3, k3, rfl⟩ := hov.shp
  replace HBK2 := Lib.hid (ha5.keep (by simp) HBK2.out)
  replace HAS := Lib.hid (HAS.out.next ha5 (by simp))
  have HOV := Lib.hid hov
  have HNV := Lib.hid hnv
  have hs5 := HAS.out.size
  have hs4 : y1.heap.size ≤ y4.heap.size := HS4.out
  have HA5 := Lib.hid (HA4.out.next ha5 (by simp))
  clear hov hnv ha5
  obtain ⟨u3, hu3⟩ := get_some (l := listF s.k s.tb s.bad (.pointer (some ⟨lb, 0, none⟩)) dv s.h (listP p (.slice oa on oc) (.slice da dn dc)) (dn : Int) hdv (.map (some mb))) (i := 86) (by rw [listF_len HE.out.kad HLQ.out]; omega)
  obtain ⟨u4, hu4⟩ := get_some (l := listF s.k s.tb s.bad (.pointer (some ⟨lb, 0, none⟩)) dv s.h (listP p (.slice oa on oc) (.slice da dn dc)) (dn : Int) hdv (.map (some mb))) (i := 87) (by rw [listF_len HE.out.kad HLQ.out]; omega)
  rw [← blk_cell HBK2.out] at hu3 hu4
  have f3 : y5.frozen? ⟨g, 86, none⟩ = false := free_of_block HBK2.out 86
  have f4 : y5.frozen? ⟨g, 87, none⟩ = false := free_of_block HBK2.out 87
  go_wp2_with fail
  replace HBK2 := Lib.hid (blk_set (blk_set HBK2.out 86 (.slice a3 n3 k3)) 87 (.slice none 0 0))
  rw [(listF_set HE.out.kad _ _ _ _ _ _ _ _ _ HLQ.out).2.2.1, (listF_set HE.out.kad _ _ _ _ _ _ _ _ _ (by rw [List.length_set]; exact HLQ.out)).2.2.2.1] at HBK2
  have HAW : Hid (Away [g] y5 ((y5.setCell ⟨g, 86, none⟩ (.slice a3 n3 k3)).setCell ⟨g, 87, none⟩ (.slice none 0 0))) := (away_put _ _).trans (away_put _ _)
  clear hu3 hu4 f3 f4
  generalize (y5.setCell ⟨g, 86, none⟩ (.slice a3 n3 k3)).setCell ⟨g, 87, none⟩ (.slice none 0 0) = y6 at *
  go_end0
  have hAll : Away [g] y1 y6 := HAS.out.trans HAW.out
  have hap := HE.out.ap
  have hnb : ∀ k, (Value.slice a3 n3 k3).ownBlock = some k → y1.heap.size ≤ k := fun k hk => Nat.le_trans hs4 (HNV.out k hk)
  have hlt := HE.out.lt
  refine ⟨rfl, .slice a3 n3 k3, ⟨?_, ?_, ?_, ?_, ?_, ?_, ?_, ?_, ?_⟩, fun k hk => .inr ?_, HA5.out.trans HAW.out⟩
  · rw [HBG.out, HBK2.out]
    have e : listP { p with d := [] } (.slice a3 n3 k3) (.slice none 0 0) = ((listP p (.slice oa on oc) (.slice da dn dc)).set 44 (.slice a3 n3 k3)).set 45 (.slice none 0 0) := by
      have e1 := (csP_set HAD.out (.slice oa on oc) (.slice da dn dc)).2.2.2.2.2.2.2.2.2.2.2.2.1 p.o (.slice a3 n3 k3)
      have e2 := (csP_set (p := { p with o := p.o }) HAD.out (.slice a3 n3 k3) (.slice da dn dc)).2.2.2.2.2.2.2.2.2.2.2.2.2 [] (.slice none 0 0)
      rw [← e1] at e2
      simp only [csP, List.setIfInBounds_toArray] at e2
      exact (congrArg Array.toList e2).symm
    unfold csE
    rw [listE_F, ← e]
  · rw [HBG.out]; exact HE.out.nb
  · rw [HBG.out]; exact HE.out.kad
  · rw [HBG.out]; exact HAD.out
  · rw [HBG.out]; exact HE.out.hl.away hAll (by simpa using fun e => hap.gl e.symm) (fun k hk => by simp; intro e; subst e; exact hap.gv hk)
  · rw [HBG.out]; exact HE.out.da.away hAll (fun k hk => by simp; intro e; subst e; exact hap.gd hk)
  · rw [HBG.out]; exact HOV.out.away HAW.out (fun k hk => by simp; intro e; subst e; have h1 := hnb _ hk; have h2 := hlt k (mem_fp.2 (.inl rfl)); omega)
  · rw [HBG.out]; exact HE.out.mp.away hAll (by simpa using fun e => hap.gm e.symm)
  · exact { hap with go := fun e => by have h1 := hnb _ e; have h2 := hlt g (mem_fp.2 (.inl rfl)); omega
                     lo := fun e => by have h1 := hnb _ e; have h2 := hlt lb (mem_fp.2 (by simp)); omega
                     mo := fun e => by have h1 := hnb _ e; have h2 := hlt mb (mem_fp.2 (by simp)); omega
                     vo := fun k hk e => by have h1 := hnb _ e; have h2 := hlt k (mem_fp.2 (by simp [hk])); omega
                     dO := fun k hk e => by have h1 := hnb _ e; have h2 := hlt k (mem_fp.2 (by simp [hk])); omega }
  · have h1 := hnb k hk
    have h2 := HA3.out.size
    omega
end
end Go.Proofs.YtkccpidgeecemaaGreatDoor
