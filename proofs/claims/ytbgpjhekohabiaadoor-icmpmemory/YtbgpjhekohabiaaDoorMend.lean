/-
  mended and pair of the laws.
-/
import Derived.Test.YtbgpjhekohabiaaDoorMsg
import Derived.Test.YtbgpjhekohabiaaDoorHelp
import Derived.Test.YtbgpjhekohabiaaDoorCk
import Derived.Test.YtbgpjhekohabiaaDoorLm
namespace Go.Proofs.YtbgpjhekohabiaaDoor
open Go.ChangeShapes Go.WideShapes Go.ChangeAt Go.RowKit Num
set_option linter.unusedVariables false
set_option maxHeartbeats 4000000
set_option maxRecDepth 100000

/-- An address of a version, made of any. -/
def adrX (s : Ax) (six : Bool) : Ax := if six = true then ⟨6, s.l⟩ else ⟨4, s.l.take 4 ++ z12⟩
theorem adrX_wf {s : Ax} (hs : WfA s) (six : Bool) : WfA (adrX s six) := by
  have hz : Bytes z12 := fun n hn => by simp [z12] at hn; omega
  unfold adrX; split
  · exact ⟨⟨show (-9223372036854775808 : Int) ≤ 6 by decide, show (6 : Int) ≤ 9223372036854775807 by decide⟩, hs.n, hs.l⟩
  · exact ⟨⟨show (-9223372036854775808 : Int) ≤ 4 by decide, show (4 : Int) ≤ 9223372036854775807 by decide⟩, by simp [hs.n, z12], (hs.l.take 4).app hz⟩
theorem adrX_valid {s : Ax} (hs : WfA s) (six : Bool) : avalidP (adrX s six).v (adrX s six).l = true := by
  unfold adrX; split
  · rfl
  · unfold avalidP; rw [if_pos rfl]
    have : (s.l.take 4 ++ z12).drop 4 = z12 := by rw [List.drop_append_of_le_length (by simp [hs.n])]; simp
    show eqL ((s.l.take 4 ++ z12).drop 4) z12 = true
    rw [this]; simp [eqL]
theorem adrX_v (s : Ax) (six : Bool) : (adrX s six).v = if six = true then 6 else 4 := by unfold adrX; split <;> rfl
theorem adrX_pair {s t : Ax} (hs : WfA s) (ht : WfA t) (six : Bool) : pairP (adrX s six) (adrX t six) = true := by
  unfold pairP
  rw [adrX_valid hs, adrX_valid ht, adrX_v, adrX_v]
  simp
theorem BoxX.free {w : World} {g : Nat} {s : Ax} (h : BoxX w g s) (i : Nat) : w.frozen? ⟨g, i, none⟩ = false := free_of_block h i
theorem BoxX.put {w : World} {g : Nat} {s : Ax} (h : BoxX w g s) (i : Nat) (x : Int) : BoxX (w.setCell ⟨g, i + 1, none⟩ (.int .u8 x)) g ⟨s.v, s.l.set i x⟩ := by
  unfold BoxX; rw [block_set h]
  congr 2
  apply Array.ext'
  simp [csA, cellsA, List.map_set]
theorem yields_ld {ops : Array Oper} {S : World → Prop} {op : Oper} {a : Act} {t : TypeId} {v : Value} {ad : Addr} (hw : Region.wanted op (yielded ops a.tmps) = true) (x : Operand) (ho : op.op = .load t x) (hx : a.eval x = .pointer (some ad))
    (hS : ∀ w, S w → (Instr.loadAt t (.pointer (some ad))).run Tryd.prog w = .ok v w) : YieldsIf Tryd.prog ops S op v a :=
  .inl ⟨hw, fun w hw' => by
    unfold execOp
    simp only [ho, hx, Sem.run_bind, hS w hw', Result.andThen_ok, Sem.run_pure]⟩
theorem Owns.slc0 {w : World} {v : Value} {l : List Int} (h : Owns w v l) : ∃ a c, v = .slice a l.length c ∧ (a = none → c = 0) ∧ l.length ≤ c := by
  rcases h.2 with ⟨rfl, h0⟩ | ⟨g, cap, cur, rfl, _, _, h4, _⟩
  · have : l = [] := by simpa using h0
    subst this
    exact ⟨none, 0, rfl, fun _ => rfl, by simp⟩
  · exact ⟨some ⟨g, 0, none⟩, cap, by simp, by simp, by simpa using h4⟩
theorem ldU {w : World} {ad : Addr} {z : Int} (h : w.cell? ad = some (.int .u32 z)) : (Instr.loadAt 22 (.pointer (some ad))).run Tryd.prog w = .ok (.int .u32 z) w := by
  simp [go_sem, Instr.loadAt, Instr.sureAddr, h]
theorem BoxX.put0 {w : World} {g : Nat} {s : Ax} (h : BoxX w g s) (x : Int) : BoxX (w.setCell ⟨g, 0, none⟩ (.int .i64 x)) g ⟨x, s.l⟩ := by
  unfold BoxX; rw [block_set h]
  congr 2
theorem wp_allocM {o : Oper} {a : Act} {w : World} {K : Act → World → Prop} {Q : Exit → Act → World → Prop} (ho : o.op = .alloc 25)
    (h : ∀ k w1, w.heap.size ≤ k → BoxM w1 k zeroMg (.slice none 0 0) → Away [] w w1 → K (a.put o.dst (.pointer (some ⟨k, 0, none⟩))) w1) : Oper.wp Tryd.prog o a w K Q := by
  have hz : (zeroValue 25).run Tryd.prog w = .ok (.agg (csM zeroMg (.slice none 0 0))) w := by
    have := zero35
    cases hi : Tryd.prog.info? 25 with
    | none => rw [hi] at this; simp at this
    | some i => rw [hi] at this; simp at this; simp [zeroValue, typeInfo, hi, this]
  unfold Oper.wp execOp
  simp only [ho, Sem.run_bind, Instr.alloc, hz, newVar, newRow, run_newObj_alloc, Sem.run_pure, Result.andThen_ok]
  exact h w.heap.size _ (Nat.le_refl _) (block_new _ _) ((Away.refl [] w).alloc _)
theorem wp_storeM {o : Oper} {a : Act} {w : World} {K : Act → World → Prop} {Q : Exit → Act → World → Prop} (x y : Operand) (ho : o.op = .store 25 x y)
    (k : Nat) (hx : a.eval x = .pointer (some ⟨k, 0, none⟩)) (g : Mg) (dv : Value) (hy : a.eval y = .agg (csM g dv)) (q : Mg) (du : Value) (hb : BoxM w k q du) (h2 : dv.oneCell' = true)
    (h : ∀ w1, BoxM w1 k g dv → Away [k] w w1 → K (a.put o.dst undef) w1) : Oper.wp Tryd.prog o a w K Q :=
  wp_store_row 25 x y ho k (csM g dv) hx hy 25 (csM q du) hb info35 rfl (csM_one g dv h2) (h _ (by
    unfold BoxM at hb ⊢; simp [World.setRow, Array.getElem?_modify, hb]) ((Away.refl [k] w).setRow (.inl (by simp)) _))
theorem wp_storeX {o : Oper} {a : Act} {w : World} {K : Act → World → Prop} {Q : Exit → Act → World → Prop} (x y : Operand) (ho : o.op = .store 30 x y)
    (g : Nat) (hx : a.eval x = .pointer (some ⟨g, 0, none⟩)) (s : Ax) (hy : a.eval y = .agg (csA s.v s.l)) (t : Ax) (hb : BoxX w g t) (hs : s.l.length = 16) (ht : t.l.length = 16)
    (h : ∀ w1, BoxX w1 g s → Away [g] w w1 → K (a.put o.dst undef) w1) : Oper.wp Tryd.prog o a w K Q :=
  wp_store_row 30 x y ho g (csA s.v s.l) hx hy 30 (csA t.v t.l) hb (by rw [csA_size hs]; exact info24) (by rw [csA_size hs, csA_size ht]) (csA_one s.v s.l) (h _ (by
    unfold BoxX at hb ⊢; simp [World.setRow, Array.getElem?_modify, hb]) ((Away.refl [g] w).setRow (.inl (by simp)) _))
theorem results_cell2 {fn : Func} {p u : Tmp} {ty ty' : TypeId} (h : fn.results = #[.cell p ty, .cell u ty']) (tmps : Array Value) (P : Program) (w : World) :
    (results fn tmps).run P w =
      ((asAddr (tmps.getD p undef)).run P w).andThen fun a w1 => ((loadVar ty a).run P w1).andThen fun v w2 => ((asAddr (tmps.getD u undef)).run P w2).andThen fun b w3 => ((loadVar ty' b).run P w3).andThen fun v' w4 => .ok (.tuple #[v, v']) w4 := by
  simp only [results, h]
  simp [Sem.run_bind, Result.andThen]
theorem result24xx {fn : Func} {t u : Tmp} (h : fn.results = #[.cell t 30, .cell u 30]) (tmps : Array Value) (w : World) (g k : Nat) (s r : Ax) (ht : tmps.getD t undef = .pointer (some ⟨g, 0, none⟩)) (hu : tmps.getD u undef = .pointer (some ⟨k, 0, none⟩)) (hb : BoxX w g s) (hb' : BoxX w k r) (hs : s.l.length = 16) (hr : r.l.length = 16) :
    (results fn tmps).run Tryd.prog w = .ok (.tuple #[.agg (csA s.v s.l), .agg (csA r.v r.l)]) w := by
  rw [results_cell2 h, ht, hu]
  simp only [asAddr, Sem.run_pure, Result.andThen, run_loadVar_row w g 30 30 (csA s.v s.l) (0, 0) _ hb Tryd.underlying30 rfl (by rw [csA_size hs]; exact info24), run_loadVar_row w k 30 30 (csA r.v r.l) (0, 0) _ hb' Tryd.underlying30 rfl (by rw [csA_size hr]; exact info24)]
/-- What pair tells. -/
def PairOut (w : World) (x y : Ax) (E : Ending) (w' : World) : Prop := E = .returned (.tuple #[.agg (csA x.v x.l), .agg (csA y.v y.l)]) ∧ Away [] w w'
theorem lpair_six (v : Int) (a b : Ax) (w : World) (hA : WfA a) (hB : WfA b) (hv : v = 6) : Calls Tryd.prog 12 #[.int .i64 v, .agg (csA a.v a.l), .agg (csA b.v b.l)] w fun E w' => PairOut w ⟨6, a.l⟩ ⟨6, b.l⟩ E w' := by
  subst hv
  have KA := Lib.hid hA; have KB := Lib.hid hB
  have WA : Hid (WfA ⟨6, a.l⟩) := ⟨⟨show (-9223372036854775808 : Int) ≤ 6 by decide, show (6 : Int) ≤ 9223372036854775807 by decide⟩, hA.n, hA.l⟩
  have WB : Hid (WfA ⟨6, b.l⟩) := ⟨⟨show (-9223372036854775808 : Int) ≤ 6 by decide, show (6 : Int) ≤ 9223372036854775807 by decide⟩, hB.n, hB.l⟩
  clear hA hB
  go_enter Tryd.func12, Tryd.ntmps12
  go_wp2_with (refine wpList_boxX rfl _ rfl a rfl ?_; refine Hid.out ?_)
  refine Lib.hid ?_
  intro g4 w1 hg4 hb haw
  have HA := Lib.hid haw; have HB := Lib.hid hb
  have hl4 := hb.lt
  clear hb haw
  go_wp2_with (refine wpList_boxX rfl _ rfl b rfl ?_; refine Hid.out ?_)
  refine Lib.hid ?_
  intro g5 w2 hg5 hb haw
  replace HA := Lib.hid (HA.out.on haw); replace HB := Lib.hid (HB.out.on haw); have HC := Lib.hid hb
  have hl5 := hb.lt
  clear hb haw
  go_wp2_with (refine wpList_allocX rfl rfl ?_; refine Hid.out ?_)
  refine Lib.hid ?_
  intro g6 w3 hg6 hb haw
  replace HA := Lib.hid (HA.out.on haw); replace HB := Lib.hid (HB.out.on haw); replace HC := Lib.hid (HC.out.on haw); have H6 := Lib.hid hb
  have hl6 := hb.lt
  clear hb haw
  go_wp2_with (refine wpList_allocX rfl rfl ?_; refine Hid.out ?_)
  refine Lib.hid ?_
  intro g7 w4 hg7 hb haw
  replace HA := Lib.hid (HA.out.on haw); replace HB := Lib.hid (HB.out.on haw); replace HC := Lib.hid (HC.out.on haw); replace H6 := Lib.hid (H6.out.on haw); have H7 := Lib.hid hb
  have hl7 := hb.lt
  clear hb haw
  go_wp2_with (refine wpList_newX rfl rfl rfl _ _ rfl ⟨4, z16⟩ (fun _ => rfl) (fun _ => rfl) rfl ?_; refine Hid.out ?_)
  refine Lib.hid ?_
  intro g8 w5 hg8 hb haw
  replace HA := Lib.hid (HA.out.on haw); replace HB := Lib.hid (HB.out.on haw); replace HC := Lib.hid (HC.out.on haw); replace H6 := Lib.hid (H6.out.on haw); replace H7 := Lib.hid (H7.out.on haw); have H8 := Lib.hid hb
  have hl8 := hb.lt
  clear hb haw
  go_wp2_with (refine wpList_newX rfl rfl rfl _ _ rfl ⟨4, z16⟩ (fun _ => rfl) (fun _ => rfl) rfl ?_; refine Hid.out ?_)
  refine Lib.hid ?_
  intro g9 w6 hg9 hb haw
  replace HA := Lib.hid (HA.out.on haw); replace HB := Lib.hid (HB.out.on haw); replace HC := Lib.hid (HC.out.on haw); replace H6 := Lib.hid (H6.out.on haw); replace H7 := Lib.hid (H7.out.on haw); replace H8 := Lib.hid (H8.out.on haw); have H9 := Lib.hid hb
  have hl9 := hb.lt
  have hsw := HA.out.size
  have hlt4 : g4 < g5 := by omega
  have hlt5 : g5 < g6 := by omega
  have hlt6 : g6 < g7 := by omega
  have hlt7 : g7 < g8 := by omega
  have hlt8 : g8 < g9 := by omega
  clear hb haw hl4 hl5 hl6 hl7 hl8 hl9 hsw hg5 hg6 hg7 hg8 hg9
  go_wp2_with (first | (refine wpList_loadX rfl _ rfl g4 rfl a (by exact HB.out) KA.out ?_) | (refine wpList_storeX rfl _ _ rfl g8 rfl a rfl ⟨4, z16⟩ (by exact H8.out) KA.out.n rfl ?_; refine Hid.out ?_))
  refine Lib.hid ?_
  intro w7 hb haw
  replace HA := Lib.hid (HA.out.next haw (fun x hx => .inr (by simp at hx; omega)))
  replace HB := Lib.hid (HB.out.away haw (by simp; omega))
  replace HC := Lib.hid (HC.out.away haw (by simp; omega))
  replace H6 := Lib.hid (H6.out.away haw (by simp; omega))
  replace H7 := Lib.hid (H7.out.away haw (by simp; omega))
  replace H9 := Lib.hid (H9.out.away haw (by simp; omega))
  replace H8 := Lib.hid hb
  clear hb haw
  go_wp2_with (first | (refine wpList_loadX rfl _ rfl g5 rfl b (by exact HC.out) KB.out ?_) | (refine wpList_storeX rfl _ _ rfl g9 rfl b rfl ⟨4, z16⟩ (by exact H9.out) KB.out.n rfl ?_; refine Hid.out ?_))
  refine Lib.hid ?_
  intro w8 hb haw
  replace HA := Lib.hid (HA.out.next haw (fun x hx => .inr (by simp at hx; omega)))
  replace HB := Lib.hid (HB.out.away haw (by simp; omega))
  replace HC := Lib.hid (HC.out.away haw (by simp; omega))
  replace H6 := Lib.hid (H6.out.away haw (by simp; omega))
  replace H7 := Lib.hid (H7.out.away haw (by simp; omega))
  replace H8 := Lib.hid (H8.out.away haw (by simp; omega))
  replace H9 := Lib.hid hb
  clear hb haw
  have c8 := H8.out.cell; have f8 := H8.out.free 0
  have haw := away_put (w := w8) (g := g8) 0 (.int .i64 6)
  replace HA := Lib.hid (HA.out.next haw (fun x hx => .inr (by simp at hx; omega)))
  replace HB := Lib.hid (HB.out.away haw (by simp; omega))
  replace HC := Lib.hid (HC.out.away haw (by simp; omega))
  replace H6 := Lib.hid (H6.out.away haw (by simp; omega))
  replace H7 := Lib.hid (H7.out.away haw (by simp; omega))
  replace H9 := Lib.hid (H9.out.away haw (by simp; omega))
  replace H8 := Lib.hid (H8.out.put0 6)
  clear haw
  go_upto_region 7 with fail
  clear c8 f8
  generalize World.setCell _ ⟨g8, 0, none⟩ (.int .i64 6) = w9 at *
  have c9 := H9.out.cell; have f9 := H9.out.free 0
  have haw := away_put (w := w9) (g := g9) 0 (.int .i64 6)
  replace HA := Lib.hid (HA.out.next haw (fun x hx => .inr (by simp at hx; omega)))
  replace HB := Lib.hid (HB.out.away haw (by simp; omega))
  replace HC := Lib.hid (HC.out.away haw (by simp; omega))
  replace H6 := Lib.hid (H6.out.away haw (by simp; omega))
  replace H7 := Lib.hid (H7.out.away haw (by simp; omega))
  replace H8 := Lib.hid (H8.out.away haw (by simp; omega))
  replace H9 := Lib.hid (H9.out.put0 6)
  clear haw
  go_upto_region 8 with fail
  clear c9 f9
  generalize World.setCell _ ⟨g9, 0, none⟩ (.int .i64 6) = w10 at *
  refine wp_region_held_drew (S := (fun w' => BoxX w' g8 ⟨6, a.l⟩ ∧ BoxX w' g9 ⟨6, b.l⟩)) (by kernel_rfl) ⟨H8.out, H9.out⟩ (fun hHeld => ?_)
  refine wpAnyH_take (i := 0) (by simp only [List.getElem?_toArray, List.getElem?_cons_zero]; rfl) (by kernel_rfl) (by kernel_rfl) (by kernel_rfl) (by exact fun _ _ _ h => h) (yields_ld (ad := ⟨g8, 0, none⟩) (by rfl) _ rfl rfl (fun w' h => load24_run h.1 WA.out)) (by assumption) ?_
  try simp only [Act.put, List.setIfInBounds_toArray, List.set_cons_zero, List.set_cons_succ]
  refine wpAnyH_take (i := 1) (by simp only [List.getElem?_toArray, List.getElem?_cons_succ, List.getElem?_cons_zero]; rfl) (by kernel_rfl) (by kernel_rfl) (by kernel_rfl) (by exact fun _ _ _ h => h) (yields_ld (ad := ⟨g9, 0, none⟩) (by rfl) _ rfl rfl (fun w' h => load24_run h.2 WB.out)) (by assumption) ?_
  try simp only [Act.put, List.setIfInBounds_toArray, List.set_cons_zero, List.set_cons_succ]
  refine wpAnyH_ready (rs := [2]) (by kernel_rfl) (by simp) ?_
  refine AllReadyH.cons (by simp only [List.getElem?_toArray, List.getElem?_cons_succ, List.getElem?_cons_zero]; rfl) (fun K hK => ?_) AllReadyH.nil
  rw [if_pos (by rfl)]
  refine wp_storeX (.tmp 6) (.tmp 19) rfl g6 rfl ⟨6, a.l⟩ rfl zeroAx (by exact H6.out) WA.out.n rfl ?_
  intro y1 hby1 hawy1
  have HA1 : Away [] w y1 := HA.out.drew.next hawy1 (fun x hx => .inr (by simp at hx; omega))
  have H7a : BoxX y1 g7 zeroAx := BoxX.away (w := w10.drew) H7.out hawy1 (by simp; omega)
  have hh8 : BoxX y1 g8 ⟨6, a.l⟩ := hHeld.1.away hawy1 (by simp; omega)
  have hh9 : BoxX y1 g9 ⟨6, b.l⟩ := hHeld.2.away hawy1 (by simp; omega)
  refine hK.out _ _ ⟨hh8, hh9⟩ (fun hHeld2 => ?_)
  clear hK K
  try simp only [Act.put]
  refine wpAnyH_ready (rs := [3]) (by kernel_rfl) (by simp) ?_
  refine AllReadyH.cons (by simp only [List.getElem?_toArray, List.getElem?_cons_succ, List.getElem?_cons_zero]; rfl) (fun K hK => ?_) AllReadyH.nil
  rw [if_pos (by rfl)]
  refine wp_storeX (.tmp 7) (.tmp 20) rfl g7 rfl ⟨6, b.l⟩ rfl zeroAx (by exact H7a) WB.out.n rfl ?_
  intro y2 hby2 hawy2
  have HA2 : Away [] w y2 := HA1.next hawy2 (fun x hx => .inr (by simp at hx; omega))
  have hbo : BoxX y2 g6 ⟨6, a.l⟩ := hby1.away hawy2 (by simp; omega)
  refine hK.out _ _ ⟨hh8.away hawy2 (by simp; omega), hh9.away hawy2 (by simp; omega)⟩ (fun hHeld3 => ?_)
  clear hK K
  try simp only [Act.put]
  refine wpAnyH_done (by kernel_rfl) ?_ _
  go_wp2_with fail
  refine bodyPost_ret (result24xx rfl _ _ g6 g7 ⟨6, a.l⟩ ⟨6, b.l⟩ rfl rfl hbo hby2 WA.out.n WB.out.n) rfl ⟨rfl, HA2⟩
theorem lpair_four (v : Int) (a b : Ax) (w : World) (hA : WfA a) (hB : WfA b) (hv : v ≠ 6) : Calls Tryd.prog 12 #[.int .i64 v, .agg (csA a.v a.l), .agg (csA b.v b.l)] w fun E w' => PairOut w ⟨4, a.l.take 4 ++ z12⟩ ⟨4, b.l.take 4 ++ z12⟩ E w' := by
  have hv' : (v == 6) = false := by simpa using hv
  have KA := Lib.hid hA; have KB := Lib.hid hB
  obtain ⟨x0, x1, x2, x3, x4, x5, x6, x7, x8, x9, x10, x11, x12, x13, x14, x15, hl⟩ := list16 hA.n
  obtain ⟨z0, z1, z2, z3, z4, z5, z6, z7, z8, z9, z10, z11, z12, z13, z14, z15, hm⟩ := list16 hB.n
  have HL := Lib.hid hl; have HM := Lib.hid hm
  have EA : Hid ((⟨4, a.l.take 4 ++ Proofs.YtbgpjhekohabiaaDoor.z12⟩ : Ax) = ⟨4, [x0, x1, x2, x3, 0, 0, 0, 0, 0, 0, 0, 0, 0, 0, 0, 0]⟩) := by rw [hl]; rfl
  have EB : Hid ((⟨4, b.l.take 4 ++ Proofs.YtbgpjhekohabiaaDoor.z12⟩ : Ax) = ⟨4, [z0, z1, z2, z3, 0, 0, 0, 0, 0, 0, 0, 0, 0, 0, 0, 0]⟩) := by rw [hm]; rfl
  rw [EA.out, EB.out]
  have WA : Hid (WfA ⟨4, [x0, x1, x2, x3, 0, 0, 0, 0, 0, 0, 0, 0, 0, 0, 0, 0]⟩) := by
    have := adrX_wf hA false
    unfold adrX at this
    rw [if_neg (by simp), EA.out] at this
    exact this
  have WB : Hid (WfA ⟨4, [z0, z1, z2, z3, 0, 0, 0, 0, 0, 0, 0, 0, 0, 0, 0, 0]⟩) := by
    have := adrX_wf hB false
    unfold adrX at this
    rw [if_neg (by simp), EB.out] at this
    exact this
  clear hA hB hl hm EA EB hv
  go_enter Tryd.func12, Tryd.ntmps12
  go_wp2_with (refine wpList_boxX rfl _ rfl a rfl ?_; refine Hid.out ?_)
  refine Lib.hid ?_
  intro g4 w1 hg4 hb haw
  have HA := Lib.hid haw; have HB := Lib.hid hb
  have hl4 := hb.lt
  clear hb haw
  go_wp2_with (refine wpList_boxX rfl _ rfl b rfl ?_; refine Hid.out ?_)
  refine Lib.hid ?_
  intro g5 w2 hg5 hb haw
  replace HA := Lib.hid (HA.out.on haw); replace HB := Lib.hid (HB.out.on haw); have HC := Lib.hid hb
  have hl5 := hb.lt
  clear hb haw
  go_wp2_with (refine wpList_allocX rfl rfl ?_; refine Hid.out ?_)
  refine Lib.hid ?_
  intro g6 w3 hg6 hb haw
  replace HA := Lib.hid (HA.out.on haw); replace HB := Lib.hid (HB.out.on haw); replace HC := Lib.hid (HC.out.on haw); have H6 := Lib.hid hb
  have hl6 := hb.lt
  clear hb haw
  go_wp2_with (refine wpList_allocX rfl rfl ?_; refine Hid.out ?_)
  refine Lib.hid ?_
  intro g7 w4 hg7 hb haw
  replace HA := Lib.hid (HA.out.on haw); replace HB := Lib.hid (HB.out.on haw); replace HC := Lib.hid (HC.out.on haw); replace H6 := Lib.hid (H6.out.on haw); have H7 := Lib.hid hb
  have hl7 := hb.lt
  clear hb haw
  go_wp2_with (refine wpList_newX rfl rfl rfl _ _ rfl ⟨4, z16⟩ (fun _ => rfl) (fun _ => rfl) rfl ?_; refine Hid.out ?_)
  refine Lib.hid ?_
  intro g8 w5 hg8 hb haw
  replace HA := Lib.hid (HA.out.on haw); replace HB := Lib.hid (HB.out.on haw); replace HC := Lib.hid (HC.out.on haw); replace H6 := Lib.hid (H6.out.on haw); replace H7 := Lib.hid (H7.out.on haw); have H8 := Lib.hid hb
  have hl8 := hb.lt
  clear hb haw
  go_wp2_with (refine wpList_newX rfl rfl rfl _ _ rfl ⟨4, z16⟩ (fun _ => rfl) (fun _ => rfl) rfl ?_; refine Hid.out ?_)
  refine Lib.hid ?_
  intro g9 w6 hg9 hb haw
  replace HA := Lib.hid (HA.out.on haw); replace HB := Lib.hid (HB.out.on haw); replace HC := Lib.hid (HC.out.on haw); replace H6 := Lib.hid (H6.out.on haw); replace H7 := Lib.hid (H7.out.on haw); replace H8 := Lib.hid (H8.out.on haw); have H9 := Lib.hid hb
  have hl9 := hb.lt
  have hsw := HA.out.size
  have hlt4 : g4 < g5 := by omega
  have hlt5 : g5 < g6 := by omega
  have hlt6 : g6 < g7 := by omega
  have hlt7 : g7 < g8 := by omega
  have hlt8 : g8 < g9 := by omega
  clear hb haw hl4 hl5 hl6 hl7 hl8 hl9 hsw hg5 hg6 hg7 hg8 hg9
  go_wp2_with fail
  refine wp_loop_rounds 5 ?_
  rw [rounds_succ]
  have ca : w6.cell? ⟨g4, 1, none⟩ = some (Value.int .u8 x0) := by have := HB.out.byte 0 (by rw [HL.out]; simp); rw [HL.out] at this; exact this
  have cb : w6.cell? ⟨g8, 1, none⟩ = some (Value.int .u8 0) := H8.out.byte 0 (by decide)
  have cf := H8.out.free 1
  have h8 : BoxX (w6.setCell ⟨g8, 1, none⟩ (.int .u8 x0)) g8 ⟨4, [x0, 0, 0, 0, 0, 0, 0, 0, 0, 0, 0, 0, 0, 0, 0, 0]⟩ := H8.out.put 0 x0
  have haw := away_put (w := w6) (g := g8) 1 (.int .u8 x0)
  replace HA := Lib.hid (HA.out.next haw (fun x hx => .inr (by simp at hx; omega)))
  replace HB := Lib.hid (HB.out.away haw (by simp; omega))
  replace HC := Lib.hid (HC.out.away haw (by simp; omega))
  replace H6 := Lib.hid (H6.out.away haw (by simp; omega))
  replace H7 := Lib.hid (H7.out.away haw (by simp; omega))
  replace H9 := Lib.hid (H9.out.away haw (by simp; omega))
  replace H8 := Lib.hid h8
  clear haw h8
  have da : (w6.setCell ⟨g8, 1, none⟩ (.int .u8 x0)).cell? ⟨g5, 1, none⟩ = some (Value.int .u8 z0) := by have := HC.out.byte 0 (by rw [HM.out]; simp); rw [HM.out] at this; exact this
  have db : (w6.setCell ⟨g8, 1, none⟩ (.int .u8 x0)).cell? ⟨g9, 1, none⟩ = some (Value.int .u8 0) := H9.out.byte 0 (by decide)
  have df := H9.out.free 1
  go_upto_region 13 with fail
  clear ca cb cf
  generalize w6.setCell ⟨g8, 1, none⟩ (.int .u8 x0) = w7 at *
  have h9 : BoxX (w7.setCell ⟨g9, 1, none⟩ (.int .u8 z0)) g9 ⟨4, [z0, 0, 0, 0, 0, 0, 0, 0, 0, 0, 0, 0, 0, 0, 0, 0]⟩ := H9.out.put 0 z0
  have haw := away_put (w := w7) (g := g9) 1 (.int .u8 z0)
  replace HA := Lib.hid (HA.out.next haw (fun x hx => .inr (by simp at hx; omega)))
  replace HB := Lib.hid (HB.out.away haw (by simp; omega))
  replace HC := Lib.hid (HC.out.away haw (by simp; omega))
  replace H6 := Lib.hid (H6.out.away haw (by simp; omega))
  replace H7 := Lib.hid (H7.out.away haw (by simp; omega))
  replace H8 := Lib.hid (H8.out.away haw (by simp; omega))
  replace H9 := Lib.hid h9
  clear haw h9
  go_wp2_with fail
  clear da db df
  generalize w7.setCell ⟨g9, 1, none⟩ (.int .u8 z0) = w8 at *
  rw [rounds_succ]
  have ca : w8.cell? ⟨g4, 2, none⟩ = some (Value.int .u8 x1) := by have := HB.out.byte 1 (by rw [HL.out]; simp); rw [HL.out] at this; exact this
  have cb : w8.cell? ⟨g8, 2, none⟩ = some (Value.int .u8 0) := H8.out.byte 1 (by simp)
  have cf := H8.out.free 2
  have h8 : BoxX (w8.setCell ⟨g8, 2, none⟩ (.int .u8 x1)) g8 ⟨4, [x0, x1, 0, 0, 0, 0, 0, 0, 0, 0, 0, 0, 0, 0, 0, 0]⟩ := H8.out.put 1 x1
  have haw := away_put (w := w8) (g := g8) 2 (.int .u8 x1)
  replace HA := Lib.hid (HA.out.next haw (fun x hx => .inr (by simp at hx; omega)))
  replace HB := Lib.hid (HB.out.away haw (by simp; omega))
  replace HC := Lib.hid (HC.out.away haw (by simp; omega))
  replace H6 := Lib.hid (H6.out.away haw (by simp; omega))
  replace H7 := Lib.hid (H7.out.away haw (by simp; omega))
  replace H9 := Lib.hid (H9.out.away haw (by simp; omega))
  replace H8 := Lib.hid h8
  clear haw h8
  have da : (w8.setCell ⟨g8, 2, none⟩ (.int .u8 x1)).cell? ⟨g5, 2, none⟩ = some (Value.int .u8 z1) := by have := HC.out.byte 1 (by rw [HM.out]; simp); rw [HM.out] at this; exact this
  have db : (w8.setCell ⟨g8, 2, none⟩ (.int .u8 x1)).cell? ⟨g9, 2, none⟩ = some (Value.int .u8 0) := H9.out.byte 1 (by simp)
  have df := H9.out.free 2
  go_upto_region 13 with fail
  clear ca cb cf
  generalize w8.setCell ⟨g8, 2, none⟩ (.int .u8 x1) = w9 at *
  have h9 : BoxX (w9.setCell ⟨g9, 2, none⟩ (.int .u8 z1)) g9 ⟨4, [z0, z1, 0, 0, 0, 0, 0, 0, 0, 0, 0, 0, 0, 0, 0, 0]⟩ := H9.out.put 1 z1
  have haw := away_put (w := w9) (g := g9) 2 (.int .u8 z1)
  replace HA := Lib.hid (HA.out.next haw (fun x hx => .inr (by simp at hx; omega)))
  replace HB := Lib.hid (HB.out.away haw (by simp; omega))
  replace HC := Lib.hid (HC.out.away haw (by simp; omega))
  replace H6 := Lib.hid (H6.out.away haw (by simp; omega))
  replace H7 := Lib.hid (H7.out.away haw (by simp; omega))
  replace H8 := Lib.hid (H8.out.away haw (by simp; omega))
  replace H9 := Lib.hid h9
  clear haw h9
  go_wp2_with fail
  clear da db df
  generalize w9.setCell ⟨g9, 2, none⟩ (.int .u8 z1) = w10 at *
  rw [rounds_succ]
  have ca : w10.cell? ⟨g4, 3, none⟩ = some (Value.int .u8 x2) := by have := HB.out.byte 2 (by rw [HL.out]; simp); rw [HL.out] at this; exact this
  have cb : w10.cell? ⟨g8, 3, none⟩ = some (Value.int .u8 0) := H8.out.byte 2 (by simp)
  have cf := H8.out.free 3
  have h8 : BoxX (w10.setCell ⟨g8, 3, none⟩ (.int .u8 x2)) g8 ⟨4, [x0, x1, x2, 0, 0, 0, 0, 0, 0, 0, 0, 0, 0, 0, 0, 0]⟩ := H8.out.put 2 x2
  have haw := away_put (w := w10) (g := g8) 3 (.int .u8 x2)
  replace HA := Lib.hid (HA.out.next haw (fun x hx => .inr (by simp at hx; omega)))
  replace HB := Lib.hid (HB.out.away haw (by simp; omega))
  replace HC := Lib.hid (HC.out.away haw (by simp; omega))
  replace H6 := Lib.hid (H6.out.away haw (by simp; omega))
  replace H7 := Lib.hid (H7.out.away haw (by simp; omega))
  replace H9 := Lib.hid (H9.out.away haw (by simp; omega))
  replace H8 := Lib.hid h8
  clear haw h8
  have da : (w10.setCell ⟨g8, 3, none⟩ (.int .u8 x2)).cell? ⟨g5, 3, none⟩ = some (Value.int .u8 z2) := by have := HC.out.byte 2 (by rw [HM.out]; simp); rw [HM.out] at this; exact this
  have db : (w10.setCell ⟨g8, 3, none⟩ (.int .u8 x2)).cell? ⟨g9, 3, none⟩ = some (Value.int .u8 0) := H9.out.byte 2 (by simp)
  have df := H9.out.free 3
  go_upto_region 13 with fail
  clear ca cb cf
  generalize w10.setCell ⟨g8, 3, none⟩ (.int .u8 x2) = w11 at *
  have h9 : BoxX (w11.setCell ⟨g9, 3, none⟩ (.int .u8 z2)) g9 ⟨4, [z0, z1, z2, 0, 0, 0, 0, 0, 0, 0, 0, 0, 0, 0, 0, 0]⟩ := H9.out.put 2 z2
  have haw := away_put (w := w11) (g := g9) 3 (.int .u8 z2)
  replace HA := Lib.hid (HA.out.next haw (fun x hx => .inr (by simp at hx; omega)))
  replace HB := Lib.hid (HB.out.away haw (by simp; omega))
  replace HC := Lib.hid (HC.out.away haw (by simp; omega))
  replace H6 := Lib.hid (H6.out.away haw (by simp; omega))
  replace H7 := Lib.hid (H7.out.away haw (by simp; omega))
  replace H8 := Lib.hid (H8.out.away haw (by simp; omega))
  replace H9 := Lib.hid h9
  clear haw h9
  go_wp2_with fail
  clear da db df
  generalize w11.setCell ⟨g9, 3, none⟩ (.int .u8 z2) = w12 at *
  rw [rounds_succ]
  have ca : w12.cell? ⟨g4, 4, none⟩ = some (Value.int .u8 x3) := by have := HB.out.byte 3 (by rw [HL.out]; simp); rw [HL.out] at this; exact this
  have cb : w12.cell? ⟨g8, 4, none⟩ = some (Value.int .u8 0) := H8.out.byte 3 (by simp)
  have cf := H8.out.free 4
  have h8 : BoxX (w12.setCell ⟨g8, 4, none⟩ (.int .u8 x3)) g8 ⟨4, [x0, x1, x2, x3, 0, 0, 0, 0, 0, 0, 0, 0, 0, 0, 0, 0]⟩ := H8.out.put 3 x3
  have haw := away_put (w := w12) (g := g8) 4 (.int .u8 x3)
  replace HA := Lib.hid (HA.out.next haw (fun x hx => .inr (by simp at hx; omega)))
  replace HB := Lib.hid (HB.out.away haw (by simp; omega))
  replace HC := Lib.hid (HC.out.away haw (by simp; omega))
  replace H6 := Lib.hid (H6.out.away haw (by simp; omega))
  replace H7 := Lib.hid (H7.out.away haw (by simp; omega))
  replace H9 := Lib.hid (H9.out.away haw (by simp; omega))
  replace H8 := Lib.hid h8
  clear haw h8
  have da : (w12.setCell ⟨g8, 4, none⟩ (.int .u8 x3)).cell? ⟨g5, 4, none⟩ = some (Value.int .u8 z3) := by have := HC.out.byte 3 (by rw [HM.out]; simp); rw [HM.out] at this; exact this
  have db : (w12.setCell ⟨g8, 4, none⟩ (.int .u8 x3)).cell? ⟨g9, 4, none⟩ = some (Value.int .u8 0) := H9.out.byte 3 (by simp)
  have df := H9.out.free 4
  go_upto_region 13 with fail
  clear ca cb cf
  generalize w12.setCell ⟨g8, 4, none⟩ (.int .u8 x3) = w13 at *
  have h9 : BoxX (w13.setCell ⟨g9, 4, none⟩ (.int .u8 z3)) g9 ⟨4, [z0, z1, z2, z3, 0, 0, 0, 0, 0, 0, 0, 0, 0, 0, 0, 0]⟩ := H9.out.put 3 z3
  have haw := away_put (w := w13) (g := g9) 4 (.int .u8 z3)
  replace HA := Lib.hid (HA.out.next haw (fun x hx => .inr (by simp at hx; omega)))
  replace HB := Lib.hid (HB.out.away haw (by simp; omega))
  replace HC := Lib.hid (HC.out.away haw (by simp; omega))
  replace H6 := Lib.hid (H6.out.away haw (by simp; omega))
  replace H7 := Lib.hid (H7.out.away haw (by simp; omega))
  replace H8 := Lib.hid (H8.out.away haw (by simp; omega))
  replace H9 := Lib.hid h9
  clear haw h9
  go_wp2_with fail
  clear da db df
  generalize w13.setCell ⟨g9, 4, none⟩ (.int .u8 z3) = w14 at *
  rw [rounds_succ]
  go_upto_region 14 with fail
  refine wp_region_held_drew (S := (fun w' => BoxX w' g8 ⟨4, [x0, x1, x2, x3, 0, 0, 0, 0, 0, 0, 0, 0, 0, 0, 0, 0]⟩ ∧ BoxX w' g9 ⟨4, [z0, z1, z2, z3, 0, 0, 0, 0, 0, 0, 0, 0, 0, 0, 0, 0]⟩)) (by kernel_rfl) ⟨H8.out, H9.out⟩ (fun hHeld => ?_)
  refine wpAnyH_take (i := 0) (by simp only [List.getElem?_toArray, List.getElem?_cons_zero]; rfl) (by kernel_rfl) (by kernel_rfl) (by kernel_rfl) (by exact fun _ _ _ h => h) (yields_ld (ad := ⟨g8, 0, none⟩) (by rfl) _ rfl rfl (fun w' h => load24_run h.1 WA.out)) (by assumption) ?_
  try simp only [Act.put, List.setIfInBounds_toArray, List.set_cons_zero, List.set_cons_succ]
  refine wpAnyH_take (i := 1) (by simp only [List.getElem?_toArray, List.getElem?_cons_succ, List.getElem?_cons_zero]; rfl) (by kernel_rfl) (by kernel_rfl) (by kernel_rfl) (by exact fun _ _ _ h => h) (yields_ld (ad := ⟨g9, 0, none⟩) (by rfl) _ rfl rfl (fun w' h => load24_run h.2 WB.out)) (by assumption) ?_
  try simp only [Act.put, List.setIfInBounds_toArray, List.set_cons_zero, List.set_cons_succ]
  refine wpAnyH_ready (rs := [2]) (by kernel_rfl) (by simp) ?_
  refine AllReadyH.cons (by simp only [List.getElem?_toArray, List.getElem?_cons_succ, List.getElem?_cons_zero]; rfl) (fun K hK => ?_) AllReadyH.nil
  rw [if_pos (by rfl)]
  refine wp_storeX (.tmp 6) (.tmp 39) rfl g6 rfl ⟨4, [x0, x1, x2, x3, 0, 0, 0, 0, 0, 0, 0, 0, 0, 0, 0, 0]⟩ rfl zeroAx (by exact H6.out) WA.out.n rfl ?_
  intro y1 hby1 hawy1
  have HA1 : Away [] w y1 := HA.out.drew.next hawy1 (fun x hx => .inr (by simp at hx; omega))
  have H7a : BoxX y1 g7 zeroAx := BoxX.away (w := w14.drew) H7.out hawy1 (by simp; omega)
  have hh8 : BoxX y1 g8 ⟨4, [x0, x1, x2, x3, 0, 0, 0, 0, 0, 0, 0, 0, 0, 0, 0, 0]⟩ := hHeld.1.away hawy1 (by simp; omega)
  have hh9 : BoxX y1 g9 ⟨4, [z0, z1, z2, z3, 0, 0, 0, 0, 0, 0, 0, 0, 0, 0, 0, 0]⟩ := hHeld.2.away hawy1 (by simp; omega)
  refine hK.out _ _ ⟨hh8, hh9⟩ (fun hHeld2 => ?_)
  clear hK K
  try simp only [Act.put]
  refine wpAnyH_ready (rs := [3]) (by kernel_rfl) (by simp) ?_
  refine AllReadyH.cons (by simp only [List.getElem?_toArray, List.getElem?_cons_succ, List.getElem?_cons_zero]; rfl) (fun K hK => ?_) AllReadyH.nil
  rw [if_pos (by rfl)]
  refine wp_storeX (.tmp 7) (.tmp 40) rfl g7 rfl ⟨4, [z0, z1, z2, z3, 0, 0, 0, 0, 0, 0, 0, 0, 0, 0, 0, 0]⟩ rfl zeroAx (by exact H7a) WB.out.n rfl ?_
  intro y2 hby2 hawy2
  have HA2 : Away [] w y2 := HA1.next hawy2 (fun x hx => .inr (by simp at hx; omega))
  have hbo : BoxX y2 g6 ⟨4, [x0, x1, x2, x3, 0, 0, 0, 0, 0, 0, 0, 0, 0, 0, 0, 0]⟩ := hby1.away hawy2 (by simp; omega)
  refine hK.out _ _ ⟨hh8.away hawy2 (by simp; omega), hh9.away hawy2 (by simp; omega)⟩ (fun hHeld3 => ?_)
  clear hK K
  try simp only [Act.put]
  refine wpAnyH_done (by kernel_rfl) ?_ _
  go_wp2_with fail
  refine bodyPost_ret (result24xx rfl _ _ g6 g7 ⟨4, [x0, x1, x2, x3, 0, 0, 0, 0, 0, 0, 0, 0, 0, 0, 0, 0]⟩ ⟨4, [z0, z1, z2, z3, 0, 0, 0, 0, 0, 0, 0, 0, 0, 0, 0, 0]⟩ rfl rfl hbo hby2 WA.out.n WB.out.n) rfl ⟨rfl, HA2⟩
theorem lpair_c (v : Int) (a b : Ax) (w : World) (hA : WfA a) (hB : WfA b) : Calls Tryd.prog 12 #[.int .i64 v, .agg (csA a.v a.l), .agg (csA b.v b.l)] w fun E w' => PairOut w (adrX a (decide (v = 6))) (adrX b (decide (v = 6))) E w' := by
  by_cases hv : v = 6
  · rw [show decide (v = 6) = true from decide_eq_true hv]; exact lpair_six v a b w hA hB hv
  · rw [show decide (v = 6) = false from decide_eq_false hv]; exact lpair_four v a b w hA hB hv
#print axioms lpair_c
theorem and255 (n : Int) : 0 ≤ bits .and .i64 n 255 ∧ bits .and .i64 n 255 ≤ 255 := by
  have h : (BitVec.ofInt 64 255).toNat = 255 := by decide
  have key : (BitVec.ofInt 64 n &&& BitVec.ofInt 64 255).toNat ≤ 255 := by rw [BitVec.toNat_and, h]; exact Nat.and_le_right
  have e : bits .and .i64 n 255 = IntKind.i64.wrap ((BitVec.ofInt 64 n &&& BitVec.ofInt 64 255).toNat : Nat) := rfl
  rw [e, IntKind.wrap_i64]
  generalize (BitVec.ofInt 64 n &&& BitVec.ofInt 64 255).toNat = m at *
  omega
/-- A message made right. -/
structure Fq (q : Mg) : Prop where
  v : q.v = 4 ∨ q.v = 6
  ty0 : 0 ≤ q.ty
  ty1 : q.ty ≤ 255
  co0 : 0 ≤ q.co
  co1 : q.co ≤ 255
  re0 : 0 ≤ q.re
  re1 : q.re ≤ 4294967295
  n : q.d.length ≤ 65507
  d : Bytes q.d
theorem Fq.wf {q : Mg} (h : Fq q) : WfM q := by
  have h1 := h.ty0; have h2 := h.ty1; have h3 := h.co0; have h4 := h.co1; have h5 := h.n; have h6 := h.v
  exact ⟨⟨by omega, by omega⟩, ⟨by omega, by omega⟩, ⟨by omega, by omega⟩, h.re0, h.re1, h.d, by omega⟩
theorem Fq.fit {q : Mg} (h : Fq q) (s : Ax) : FitM (adrX s (decide (q.v = 6))) q := by
  have h5 := h.n; have h6 := h.v
  have hb := most_bd (adrX s (decide (q.v = 6))).v
  refine ⟨?_, h.ty0, h.ty1, h.co0, h.co1, h.re0, h.re1, by omega, h.d⟩
  rw [adrX_v]
  rcases h6 with e | e
  · rw [if_neg (by simp; omega)]; exact e
  · rw [if_pos (by simp [e])]; exact e
def MendOut (w : World) (E : Ending) (w' : World) : Prop := ∃ q v, E = .returned (.agg (csM q v)) ∧ Fq q ∧ Sl w' v q.d ∧ New w.heap.size v ∧ Away [] w w'
theorem mended_c (m : Mg) (mv : Value) (w : World) (hm : Dam w m mv) : Calls Tryd.prog 11 #[.agg (csM m mv)] w fun E w' => MendOut w E w' := by
  have HM := Lib.hid hm
  obtain ⟨ma, mc, rfl, hc1, hc2, hc3⟩ := hm.d
  have HR := Lib.hid hc3
  have hlen := hm.wf.dn
  clear hm hc3
  go_enter Tryd.func11, Tryd.ntmps11
  go_wp2_with (refine wpList_boxM rfl _ rfl m _ rfl ?_; refine Hid.out ?_)
  refine Lib.hid ?_
  intro g1 w1 hg1 hb haw
  have HA := Lib.hid haw; have HB := Lib.hid hb
  have hl1 := hb.lt
  clear hb haw
  go_wp2_with (refine wpList_allocM rfl rfl ?_; refine Hid.out ?_)
  refine Lib.hid ?_
  intro g2 w2 hg2 hb haw
  replace HA := Lib.hid (HA.out.on haw); replace HB := Lib.hid (HB.out.on haw); have HC := Lib.hid hb
  have hl2 := hb.lt
  have hs2 := HA.out.size
  clear hb haw
  go_upto_region 1 with fail
  obtain ⟨Q0, hQ0⟩ : ∃ Q : Mg, Q = ⟨4, bits .and .i64 m.ty 255, bits .and .i64 m.co 255, m.re, m.d⟩ := ⟨_, rfl⟩
  have HQ0 := Lib.hid hQ0
  clear hQ0
  go_cut [3] (fun v wc => ∃ g3 dv, v = .pointer (some ⟨g3, 0, none⟩) ∧ BoxM wc g3 Q0 dv ∧ Owns wc dv m.d ∧ New w2.heap.size dv ∧ Away [] w2 wc ∧ w2.heap.size ≤ g3 ∧ ∀ k, dv.ownBlock = some k → k ≠ g3)
  case first =>
    refine wp_region_held_drew (S := (fun w' => Away [] w2 w')) (by kernel_rfl) ((Away.refl [] w2).drew) (fun hHeld => ?_)
    refine wpAnyH_take (i := 0) (v := ?_) (by simp only [List.getElem?_toArray, List.getElem?_cons_zero]; rfl) (by kernel_rfl) (by kernel_rfl) (by kernel_rfl) (by exact fun _ _ _ h => h) (Or.inl ⟨by rfl, ?_⟩) (by assumption) ?_
    rotate_left
    · intro wq hSw
      (try dsimp only at hSw)
      go_simp
      all_goals (with_reducible rfl)
    try simp only [Act.put, List.setIfInBounds_toArray, List.set_cons_zero, List.set_cons_succ]
    refine wpAnyH_take (i := 1) (by simp only [List.getElem?_toArray, List.getElem?_cons_succ, List.getElem?_cons_zero]; rfl) (by kernel_rfl) (by kernel_rfl) (by kernel_rfl) (by exact fun _ _ _ h => h) (yields_ld (ad := ⟨g1, 1, none⟩) (by rfl) _ rfl rfl (fun w' h => ld3 (HB.out.on h).c1)) (by assumption) ?_
    try simp only [Act.put, List.setIfInBounds_toArray, List.set_cons_zero, List.set_cons_succ]
    refine wpAnyH_take (i := 2) (v := ?_) (by simp only [List.getElem?_toArray, List.getElem?_cons_succ, List.getElem?_cons_zero]; rfl) (by kernel_rfl) (by kernel_rfl) (by kernel_rfl) (by exact fun _ _ _ h => h) (Or.inl ⟨by rfl, ?_⟩) (by assumption) ?_
    rotate_left
    · intro wq hSw
      (try dsimp only at hSw)
      go_simp
      all_goals (with_reducible rfl)
    try simp only [Act.put, List.setIfInBounds_toArray, List.set_cons_zero, List.set_cons_succ]
    refine wpAnyH_take (i := 3) (v := ?_) (by simp only [List.getElem?_toArray, List.getElem?_cons_succ, List.getElem?_cons_zero]; rfl) (by kernel_rfl) (by kernel_rfl) (by kernel_rfl) (by exact fun _ _ _ h => h) (Or.inl ⟨by rfl, ?_⟩) (by assumption) ?_
    rotate_left
    · intro wq hSw
      (try dsimp only at hSw)
      go_simp
      all_goals (with_reducible rfl)
    try simp only [Act.put, List.setIfInBounds_toArray, List.set_cons_zero, List.set_cons_succ]
    refine wpAnyH_take (i := 4) (by simp only [List.getElem?_toArray, List.getElem?_cons_succ, List.getElem?_cons_zero]; rfl) (by kernel_rfl) (by kernel_rfl) (by kernel_rfl) (by exact fun _ _ _ h => h) (yields_ld (ad := ⟨g1, 2, none⟩) (by rfl) _ rfl rfl (fun w' h => ld3 (HB.out.on h).c2)) (by assumption) ?_
    try simp only [Act.put, List.setIfInBounds_toArray, List.set_cons_zero, List.set_cons_succ]
    refine wpAnyH_take (i := 5) (v := ?_) (by simp only [List.getElem?_toArray, List.getElem?_cons_succ, List.getElem?_cons_zero]; rfl) (by kernel_rfl) (by kernel_rfl) (by kernel_rfl) (by exact fun _ _ _ h => h) (Or.inl ⟨by rfl, ?_⟩) (by assumption) ?_
    rotate_left
    · intro wq hSw
      (try dsimp only at hSw)
      go_simp
      all_goals (with_reducible rfl)
    try simp only [Act.put, List.setIfInBounds_toArray, List.set_cons_zero, List.set_cons_succ]
    refine wpAnyH_take (i := 6) (v := ?_) (by simp only [List.getElem?_toArray, List.getElem?_cons_succ, List.getElem?_cons_zero]; rfl) (by kernel_rfl) (by kernel_rfl) (by kernel_rfl) (by exact fun _ _ _ h => h) (Or.inl ⟨by rfl, ?_⟩) (by assumption) ?_
    rotate_left
    · intro wq hSw
      (try dsimp only at hSw)
      go_simp
      all_goals (with_reducible rfl)
    try simp only [Act.put, List.setIfInBounds_toArray, List.set_cons_zero, List.set_cons_succ]
    refine wpAnyH_take (i := 7) (by simp only [List.getElem?_toArray, List.getElem?_cons_succ, List.getElem?_cons_zero]; rfl) (by kernel_rfl) (by kernel_rfl) (by kernel_rfl) (by exact fun _ _ _ h => h) (yields_ld (ad := ⟨g1, 3, none⟩) (by rfl) _ rfl rfl (fun w' h => ldU (HB.out.on h).c3)) (by assumption) ?_
    try simp only [Act.put, List.setIfInBounds_toArray, List.set_cons_zero, List.set_cons_succ]
    refine wpAnyH_take (i := 8) (v := ?_) (by simp only [List.getElem?_toArray, List.getElem?_cons_succ, List.getElem?_cons_zero]; rfl) (by kernel_rfl) (by kernel_rfl) (by kernel_rfl) (by exact fun _ _ _ h => h) (Or.inl ⟨by rfl, ?_⟩) (by assumption) ?_
    rotate_left
    · intro wq hSw
      (try dsimp only at hSw)
      go_simp
      all_goals (with_reducible rfl)
    try simp only [Act.put, List.setIfInBounds_toArray, List.set_cons_zero, List.set_cons_succ]
    refine wpAnyH_take (i := 9) (by simp only [List.getElem?_toArray, List.getElem?_cons_succ, List.getElem?_cons_zero]; rfl) (by kernel_rfl) (by kernel_rfl) (by kernel_rfl) (by exact fun _ _ _ h => h) (yields_ld (ad := ⟨g1, 4, none⟩) (by rfl) _ rfl rfl (fun w' h => ldB (HB.out.on h).c4)) (by assumption) ?_
    try simp only [Act.put, List.setIfInBounds_toArray, List.set_cons_zero, List.set_cons_succ]
    refine wpAnyH_ready (rs := [10, 12]) (by kernel_rfl) (by simp) ?_
    refine AllReadyH.cons (by simp only [List.getElem?_toArray, List.getElem?_cons_succ, List.getElem?_cons_zero]; rfl) (fun K hK => ?_) (AllReadyH.cons (by simp only [List.getElem?_toArray, List.getElem?_cons_succ, List.getElem?_cons_zero]; rfl) (fun K hK => ?_) AllReadyH.nil)
    · go_simp
      refine (own_any ma m.d _ mc _ rfl (by exact (HR.out.on HA.out).on hHeld)).mono ?_
      rintro E y1 ⟨dv, rfl, hown, hnew, haw, -, -⟩
      have hS1 := hHeld.on haw
      have hz1 := hHeld.size
      clear haw
      obtain ⟨va, vn, vc, rfl⟩ := hown.shp
      go_wp2_with fail
      refine hK.out _ _ hS1 (fun hHeld => ?_)
      clear hK K
      try simp only [Act.put, List.setIfInBounds_toArray, List.set_cons_zero, List.set_cons_succ]
      refine wpAnyH_take (i := 11) (v := ?_) (by simp only [List.getElem?_toArray, List.getElem?_cons_succ, List.getElem?_cons_zero]; rfl) (by kernel_rfl) (by kernel_rfl) (by kernel_rfl) (by exact fun _ _ _ h => h) (Or.inl ⟨by rfl, ?_⟩) (by assumption) ?_
      rotate_left
      · intro wq hSw
        (try dsimp only at hSw)
        go_simp
        all_goals (with_reducible rfl)
      try simp only [Act.put, List.setIfInBounds_toArray, List.set_cons_zero, List.set_cons_succ]
      refine wpAnyH_ready (rs := [12]) (by kernel_rfl) (by simp) ?_
      refine AllReadyH.cons (by simp only [List.getElem?_toArray, List.getElem?_cons_succ, List.getElem?_cons_zero]; rfl) (fun K hK => ?_) AllReadyH.nil
      rw [if_pos (by rfl)]
      refine wp_allocM rfl ?_
      intro g3 y2 hg3 hb3 haw
      have hS2 := hS1.on haw
      have hown2 := hown.on haw
      have hsz1 := hS1.size
      have hlt := hown.lt
      clear haw
      refine hK.out _ _ hS2 (fun hHeld => ?_)
      clear hK K
      try simp only [Act.put, List.setIfInBounds_toArray, List.set_cons_zero, List.set_cons_succ]
      have hne : ∀ k, (Value.slice va vn vc).ownBlock = some k → k ≠ g3 := fun k hk => by have := hlt k hk; omega
      refine wpAnyH_ready (rs := [13]) (by kernel_rfl) (by simp) ?_
      refine AllReadyH.cons (by simp only [List.getElem?_toArray, List.getElem?_cons_succ, List.getElem?_cons_zero]; rfl) (fun K hK => ?_) AllReadyH.nil
      rw [if_pos (by rfl)]
      refine wp_storeM (.tmp 3) (.tmp 15) rfl g3 rfl Q0 (.slice va vn vc) (by rw [HQ0.out]; rfl) zeroMg (.slice none 0 0) (by exact hb3) rfl ?_
      intro y3 hb4 haw
      have hS3 : Away [] w2 y3 := hS2.next haw (fun x hx => .inr (by simp at hx; omega))
      have hown3 := hown2.away haw (fun k hk => by have := hne k hk; simpa using this)
      clear haw
      refine hK.out _ _ hS3 (fun hHeld9 => ?_)
      clear hK K
      try simp only [Act.put]
      refine wpAnyH_done (by kernel_rfl) ?_ _
      go_wp2_with fail
      go_meet
      exact ⟨g3, _, rfl, hb4, hown3, hnew.mono (by omega), hS3, by omega, hne⟩
    · rw [if_pos (by rfl)]
      refine wp_allocM rfl ?_
      intro g3 y1 hg3 hb30 haw
      have hS1 := hHeld.on haw
      have hz0 := hHeld.size
      have hl3 := hb30.lt
      clear haw
      refine hK.out _ _ hS1 (fun hHeld => ?_)
      clear hK K
      try simp only [Act.put, List.setIfInBounds_toArray, List.set_cons_zero, List.set_cons_succ]
      refine wpAnyH_ready (rs := [10]) (by kernel_rfl) (by simp) ?_
      refine AllReadyH.cons (by simp only [List.getElem?_toArray, List.getElem?_cons_succ, List.getElem?_cons_zero]; rfl) (fun K hK => ?_) AllReadyH.nil
      go_simp
      refine (own_any ma m.d _ mc _ rfl (by exact (HR.out.on HA.out).on hHeld)).mono ?_
      rintro E y2 ⟨dv, rfl, hown, hnew, haw, -, -⟩
      have hS2 := hHeld.on haw
      have hb3 := hb30.on haw
      have hown2 := hown
      have hz1 := hS1.size
      clear haw
      obtain ⟨va, vn, vc, rfl⟩ := hown.shp
      go_wp2_with fail
      refine hK.out _ _ hS2 (fun hHeld => ?_)
      clear hK K
      try simp only [Act.put, List.setIfInBounds_toArray, List.set_cons_zero, List.set_cons_succ]
      refine wpAnyH_take (i := 11) (v := ?_) (by simp only [List.getElem?_toArray, List.getElem?_cons_succ, List.getElem?_cons_zero]; rfl) (by kernel_rfl) (by kernel_rfl) (by kernel_rfl) (by exact fun _ _ _ h => h) (Or.inl ⟨by rfl, ?_⟩) (by assumption) ?_
      rotate_left
      · intro wq hSw
        (try dsimp only at hSw)
        go_simp
        all_goals (with_reducible rfl)
      try simp only [Act.put, List.setIfInBounds_toArray, List.set_cons_zero, List.set_cons_succ]
      have hne : ∀ k, (Value.slice va vn vc).ownBlock = some k → k ≠ g3 := fun k hk => by have := hnew k hk; omega
      refine wpAnyH_ready (rs := [13]) (by kernel_rfl) (by simp) ?_
      refine AllReadyH.cons (by simp only [List.getElem?_toArray, List.getElem?_cons_succ, List.getElem?_cons_zero]; rfl) (fun K hK => ?_) AllReadyH.nil
      rw [if_pos (by rfl)]
      refine wp_storeM (.tmp 3) (.tmp 15) rfl g3 rfl Q0 (.slice va vn vc) (by rw [HQ0.out]; rfl) zeroMg (.slice none 0 0) (by exact hb3) rfl ?_
      intro y3 hb4 haw
      have hS3 : Away [] w2 y3 := hS2.next haw (fun x hx => .inr (by simp at hx; omega))
      have hown3 := hown2.away haw (fun k hk => by have := hne k hk; simpa using this)
      clear haw
      refine hK.out _ _ hS3 (fun hHeld9 => ?_)
      clear hK K
      try simp only [Act.put]
      refine wpAnyH_done (by kernel_rfl) ?_ _
      go_wp2_with fail
      go_meet
      exact ⟨g3, _, rfl, hb4, hown3, hnew.mono (by omega), hS3, by omega, hne⟩
  case rest =>
  obtain ⟨g3, dv, rfl, hb3, hown, hnew, haw, hg3, hne⟩ := hcut
  replace HA := Lib.hid (HA.out.on haw); replace HB := Lib.hid (HB.out.on haw); replace HC := Lib.hid (HC.out.on haw)
  have HD := Lib.hid hb3; have HO := Lib.hid hown; have HN := Lib.hid hnew; have HNE := Lib.hid hne
  have hsz := haw.size
  clear hb3 hown hnew haw hne
  have hQb : Fq ⟨4, bits .and .i64 m.ty 255, bits .and .i64 m.co 255, m.re, m.d.take 65507⟩ ∧ Fq ⟨6, bits .and .i64 m.ty 255, bits .and .i64 m.co 255, m.re, m.d.take 65507⟩ := by
    have h1 := and255 m.ty; have h2 := and255 m.co
    exact ⟨⟨.inl rfl, h1.1, h1.2, h2.1, h2.2, HM.out.wf.re0, HM.out.wf.re1, by simp; omega, HM.out.wf.d.take _⟩, ⟨.inr rfl, h1.1, h1.2, h2.1, h2.2, HM.out.wf.re0, HM.out.wf.re1, by simp; omega, HM.out.wf.d.take _⟩⟩
  have HQB := Lib.hid hQb
  clear hQb
  have c0 := HB.out.c0
  obtain ⟨oa, oc, rfl, hoc1, hoc2⟩ := HO.out.slc0
  have d0 := HD.out.c0; have f0 := HD.out.free 0
  rw [HQ0.out] at d0 HD
  simp only at d0
  clear HQ0 HR
  obtain ⟨z, hz⟩ : ∃ z, bits .and .i64 m.v 1 = z := ⟨_, rfl⟩
  go_upto_region 2 with fail
  go_cut [24] (fun v wd => ∃ b, v = .bool b ∧ wd = wc)
  case first =>
    cases hz0 : (z == 0)
    · go_wp2_with fail
      go_meet
      exact ⟨_, rfl, rfl⟩
    · go_wp2_with fail
      go_meet
      exact ⟨_, rfl, rfl⟩
  case rest =>
  obtain ⟨six, rfl, rfl⟩ := hcut
  clear hz
  cases six
  · go_upto_region 4 with fail
    clear c0 d0 f0
    generalize wc = wx at *
    by_cases hlong : m.d.length ≤ 65507
    · have d4 := HD.out.c4; have f4 := HD.out.free 4
      have ht : m.d.take 65507 = m.d := List.take_of_length_le (by omega)
      go_upto_region 6 with fail
      clear d4 f4
      go_wp2_with (first | (refine wpList_loadM rfl _ rfl g3 rfl ⟨4, bits .and .i64 m.ty 255, bits .and .i64 m.co 255, m.re, m.d⟩ (.slice oa m.d.length oc) (by exact HD.out) ?_) | (refine wpList_storeM rfl _ _ rfl g2 rfl ⟨4, bits .and .i64 m.ty 255, bits .and .i64 m.co 255, m.re, m.d⟩ (.slice oa m.d.length oc) rfl zeroMg (.slice none 0 0) (by exact HC.out) rfl ?_; refine Hid.out ?_))
      refine Lib.hid ?_
      intro wz hb haw
      have HZ := Lib.hid hb
      replace HA := Lib.hid (HA.out.next haw (fun x hx => .inr (by simp at hx; omega)))
      replace HO := Lib.hid (HO.out.away haw (fun k hk => by have := HN.out k hk; simp; omega))
      clear hb haw
      go_wp2_with fail
      refine bodyPost_ret (resultM rfl _ _ _ _ _ rfl HZ.out) rfl ⟨_, _, rfl, by rw [← ht]; exact HQB.out.1, ?_, (fun k hk => by have := HN.out k (by cases oa with | none => simp [Value.ownBlock] at hk | some x => exact hk); omega), HA.out⟩
      exact HO.out.sl HM.out.wf.d hlen
    · have d4 := HD.out.c4; have f4 := HD.out.free 4
      have s1 := slice_h oa m.d.length oc 65507 (65507 : Int) rfl (by omega)
      have haw := away_put (w := wx) (g := g3) 4 (.slice oa 65507 oc)
      replace HA := Lib.hid (HA.out.next haw (fun x hx => .inr (by simp at hx; omega)))
      replace HO := Lib.hid (HO.out.away haw (fun k hk => by have := HNE.out k hk; simpa using this))
      replace HC := Lib.hid (HC.out.away haw (by simp; omega))
      have hd2 : BoxM (wx.setCell ⟨g3, 4, none⟩ (.slice oa 65507 oc)) g3 ⟨4, bits .and .i64 m.ty 255, bits .and .i64 m.co 255, m.re, m.d.take 65507⟩ (.slice oa 65507 oc) := HD.out.put 4 _ rfl
      replace HD := Lib.hid hd2
      clear hd2 haw
      go_upto_region 6 with fail
      clear d4 f4 s1
      generalize World.setCell _ ⟨g3, 4, none⟩ (.slice oa 65507 oc) = wx at *
      go_wp2_with (first | (refine wpList_loadM rfl _ rfl g3 rfl ⟨4, bits .and .i64 m.ty 255, bits .and .i64 m.co 255, m.re, m.d.take 65507⟩ (.slice oa 65507 oc) (by exact HD.out) ?_) | (refine wpList_storeM rfl _ _ rfl g2 rfl ⟨4, bits .and .i64 m.ty 255, bits .and .i64 m.co 255, m.re, m.d.take 65507⟩ (.slice oa 65507 oc) rfl zeroMg (.slice none 0 0) (by exact HC.out) rfl ?_; refine Hid.out ?_))
      refine Lib.hid ?_
      intro wz hb haw
      have HZ := Lib.hid hb
      replace HA := Lib.hid (HA.out.next haw (fun x hx => .inr (by simp at hx; omega)))
      replace HO := Lib.hid (HO.out.away haw (fun k hk => by have := HN.out k hk; simp; omega))
      clear hb haw
      go_wp2_with fail
      refine bodyPost_ret (resultM rfl _ _ _ _ _ rfl HZ.out) rfl ⟨_, _, rfl, HQB.out.1, ?_, (fun k hk => by have := HN.out k (by cases oa with | none => simp [Value.ownBlock] at hk | some x => exact hk); omega), HA.out⟩
      have hrow := HO.out.row' hlen HM.out.wf.d
      exact ⟨oa, oc, by rw [List.length_take, Nat.min_eq_left (by omega)], by rw [List.length_take]; omega, hoc1, hrow.head 65507⟩
  · have haw := away_put (w := wc) (g := g3) 0 (.int .i64 6)
    replace HA := Lib.hid (HA.out.next haw (fun x hx => .inr (by simp at hx; omega)))
    replace HO := Lib.hid (HO.out.away haw (fun k hk => by have := HNE.out k hk; simpa using this))
    replace HC := Lib.hid (HC.out.away haw (by simp; omega))
    have hd2 : BoxM (wc.setCell ⟨g3, 0, none⟩ (.int .i64 6)) g3 ⟨6, bits .and .i64 m.ty 255, bits .and .i64 m.co 255, m.re, m.d⟩ (.slice oa m.d.length oc) := HD.out.put 0 _ rfl
    replace HD := Lib.hid hd2
    clear hd2 haw
    go_upto_region 4 with fail
    clear c0 d0 f0
    generalize wc.setCell ⟨g3, 0, none⟩ (.int .i64 6) = wx at *
    by_cases hlong : m.d.length ≤ 65507
    · have d4 := HD.out.c4; have f4 := HD.out.free 4
      have ht : m.d.take 65507 = m.d := List.take_of_length_le (by omega)
      go_upto_region 6 with fail
      clear d4 f4
      go_wp2_with (first | (refine wpList_loadM rfl _ rfl g3 rfl ⟨6, bits .and .i64 m.ty 255, bits .and .i64 m.co 255, m.re, m.d⟩ (.slice oa m.d.length oc) (by exact HD.out) ?_) | (refine wpList_storeM rfl _ _ rfl g2 rfl ⟨6, bits .and .i64 m.ty 255, bits .and .i64 m.co 255, m.re, m.d⟩ (.slice oa m.d.length oc) rfl zeroMg (.slice none 0 0) (by exact HC.out) rfl ?_; refine Hid.out ?_))
      refine Lib.hid ?_
      intro wz hb haw
      have HZ := Lib.hid hb
      replace HA := Lib.hid (HA.out.next haw (fun x hx => .inr (by simp at hx; omega)))
      replace HO := Lib.hid (HO.out.away haw (fun k hk => by have := HN.out k hk; simp; omega))
      clear hb haw
      go_wp2_with fail
      refine bodyPost_ret (resultM rfl _ _ _ _ _ rfl HZ.out) rfl ⟨_, _, rfl, by rw [← ht]; exact HQB.out.2, ?_, (fun k hk => by have := HN.out k (by cases oa with | none => simp [Value.ownBlock] at hk | some x => exact hk); omega), HA.out⟩
      exact HO.out.sl HM.out.wf.d hlen
    · have d4 := HD.out.c4; have f4 := HD.out.free 4
      have s1 := slice_h oa m.d.length oc 65507 (65507 : Int) rfl (by omega)
      have haw := away_put (w := wx) (g := g3) 4 (.slice oa 65507 oc)
      replace HA := Lib.hid (HA.out.next haw (fun x hx => .inr (by simp at hx; omega)))
      replace HO := Lib.hid (HO.out.away haw (fun k hk => by have := HNE.out k hk; simpa using this))
      replace HC := Lib.hid (HC.out.away haw (by simp; omega))
      have hd2 : BoxM (wx.setCell ⟨g3, 4, none⟩ (.slice oa 65507 oc)) g3 ⟨6, bits .and .i64 m.ty 255, bits .and .i64 m.co 255, m.re, m.d.take 65507⟩ (.slice oa 65507 oc) := HD.out.put 4 _ rfl
      replace HD := Lib.hid hd2
      clear hd2 haw
      go_upto_region 6 with fail
      clear d4 f4 s1
      generalize World.setCell _ ⟨g3, 4, none⟩ (.slice oa 65507 oc) = wx at *
      go_wp2_with (first | (refine wpList_loadM rfl _ rfl g3 rfl ⟨6, bits .and .i64 m.ty 255, bits .and .i64 m.co 255, m.re, m.d.take 65507⟩ (.slice oa 65507 oc) (by exact HD.out) ?_) | (refine wpList_storeM rfl _ _ rfl g2 rfl ⟨6, bits .and .i64 m.ty 255, bits .and .i64 m.co 255, m.re, m.d.take 65507⟩ (.slice oa 65507 oc) rfl zeroMg (.slice none 0 0) (by exact HC.out) rfl ?_; refine Hid.out ?_))
      refine Lib.hid ?_
      intro wz hb haw
      have HZ := Lib.hid hb
      replace HA := Lib.hid (HA.out.next haw (fun x hx => .inr (by simp at hx; omega)))
      replace HO := Lib.hid (HO.out.away haw (fun k hk => by have := HN.out k hk; simp; omega))
      clear hb haw
      go_wp2_with fail
      refine bodyPost_ret (resultM rfl _ _ _ _ _ rfl HZ.out) rfl ⟨_, _, rfl, HQB.out.2, ?_, (fun k hk => by have := HN.out k (by cases oa with | none => simp [Value.ownBlock] at hk | some x => exact hk); omega), HA.out⟩
      have hrow := HO.out.row' hlen HM.out.wf.d
      exact ⟨oa, oc, by rw [List.length_take, Nat.min_eq_left (by omega)], by rw [List.length_take]; omega, hoc1, hrow.head 65507⟩
#print axioms mended_c
end Go.Proofs.YtbgpjhekohabiaaDoor
