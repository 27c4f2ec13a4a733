/-
  rest, address, dgram of the laws.
-/
import Derived.Test.YtbfpphoiapggnaaDgm
namespace Go.Proofs.Ytbfpphoiapggnaa
open Go.ChangeShapes Go.WideShapes Go.ChangeAt Go.RowKit Num
set_option linter.unusedVariables false
set_option maxHeartbeats 4000000
set_option maxRecDepth 100000

theorem tmod_fix (n k : Int) (hk : 0 < k) : (n.tmod k < 0 → n.tmod k + k = n % k) ∧ (¬ n.tmod k < 0 → n.tmod k = n % k) := by
  have h1 := Int.emod_nonneg n (show k ≠ 0 by omega)
  have h2 := Int.emod_lt_of_pos n hk
  have h3 := @Int.tmod_eq_emod n k
  rw [h3]
  split
  · omega
  · rename_i h
    have : (k.natAbs : Int) = k := by omega
    have h4 : n % k ≠ 0 := fun e => h (.inr (Int.dvd_of_emod_eq_zero e))
    omega
theorem rest_c (n m : Int) (w : World) (hn : i64ok n) (h0 : 0 ≤ m) (h1 : m ≤ 140737488355328) : Calls Try.prog 19 #[.int .i64 n, .int .i64 m] w fun e w' => e = .returned (.int .i64 (n % (m + 1))) ∧ w' = w := by
  obtain ⟨k1, k2⟩ := tmod_fix n (m + 1) (by omega)
  have hb := Int.emod_nonneg n (show m + 1 ≠ 0 by omega)
  have hb2 := Int.emod_lt_of_pos n (show 0 < m + 1 by omega)
  obtain ⟨n0, n1⟩ := hn
  have hz : (m + 1 == 0) = false := by simp; omega
  have hz2 : ¬ (m + 1 = 0) := by omega
  have hz3 : ¬ (m + 1 = -1) := by omega
  have ht1 : -(m + 1) ≤ n.tmod (m + 1) := by omega
  have ht2 : n.tmod (m + 1) < m + 1 := by omega
  by_cases ht : n.tmod (m + 1) < 0
  · have e := k1 ht
    have HE := Lib.hid e
    clear k1 k2 e hb hb2
    go_enter Try.func19, Try.ntmps19
    go_wp2
    go_ret
    exact ⟨ret_int (by rw [← HE.out]; omega), rfl⟩
  · have e := k2 ht
    have HE := Lib.hid e
    clear k1 k2 e hb hb2
    go_enter Try.func19, Try.ntmps19
    go_wp2
    go_ret
    exact ⟨ret_int HE.out, rfl⟩
/-- An address of a version, made of any. -/
def adrP (s : Ax) (six : Bool) : Ax := if six = true then ⟨6, s.l⟩ else ⟨4, s.l.take 4 ++ z12⟩
theorem adrP_wf {s : Ax} (hs : WfA s) (six : Bool) : WfA (adrP s six) := by
  have hz : Bytes z12 := fun n hn => by simp [z12] at hn; omega
  unfold adrP; split
  · exact ⟨⟨show (-9223372036854775808 : Int) ≤ 6 by decide, show (6 : Int) ≤ 9223372036854775807 by decide⟩, hs.n, hs.l⟩
  · exact ⟨⟨show (-9223372036854775808 : Int) ≤ 4 by decide, show (4 : Int) ≤ 9223372036854775807 by decide⟩, by simp [hs.n, z12], (hs.l.take 4).app hz⟩
theorem adrP_valid {s : Ax} (hs : WfA s) (six : Bool) : avalidP (adrP s six).v (adrP s six).l = true := by
  unfold adrP; split
  · rfl
  · unfold avalidP; rw [if_pos rfl]
    have : (s.l.take 4 ++ z12).drop 4 = z12 := by rw [List.drop_append_of_le_length (by simp [hs.n])]; simp
    show eqL ((s.l.take 4 ++ z12).drop 4) z12 = true
    rw [this]; simp [eqL]
theorem adrP_v (s : Ax) (six : Bool) : (adrP s six).v = if six = true then 6 else 4 := by unfold adrP; split <;> rfl
theorem adrP_pair {s t : Ax} (hs : WfA s) (ht : WfA t) (six : Bool) : pairP (adrP s six) (adrP t six) = true := by
  unfold pairP
  rw [adrP_valid hs, adrP_valid ht, adrP_v, adrP_v]
  simp
theorem BoxX.free {w : World} {g : Nat} {s : Ax} (h : BoxX w g s) (i : Nat) : w.frozen? ⟨g, i, none⟩ = false := free_of_block h i
theorem BoxX.put {w : World} {g : Nat} {s : Ax} (h : BoxX w g s) (i : Nat) (x : Int) : BoxX (w.setCell ⟨g, i + 1, none⟩ (.int .u8 x)) g ⟨s.v, s.l.set i x⟩ := by
  unfold BoxX; rw [block_set h]
  congr 2
  apply Array.ext'
  simp [csA, cellsA, List.map_set]
theorem info22 : (Try.prog.info? 22).map (·.size) = some 16 := by kernel_rfl
theorem wpList_load22 {ops : Array Oper} {rest : List Oper} {o : Oper} {a : Act} {w : World} {Q : Exit → Act → World → Prop} (hw : Region.wanted o (yielded ops a.tmps) = true) (x : Operand) (ho : o.op = .load 22 x)
    (g : Nat) (hx : a.eval x = .pointer (some ⟨g, 1, none⟩)) (s : Ax) (hb : BoxX w g s) (hs : WfA s) (cs : Array Value) (hcs : cs = (s.l.map (Value.int .u8)).toArray) (h : wpList Try.prog ops Q rest (a.put o.dst (.agg cs)) w) : wpList Try.prog ops Q (o :: rest) a w := by
  subst hcs
  refine BigFrame.wpList_want hw fun K hK => wp_load_mid 22 x ho g 1 hx (s.l.map (Value.int .u8)) _ (fun j y hj => ?_) Try.underlying22 rfl (by rw [List.length_map, hs.n]; exact info22) (hK _ _ h)
  have hlt : j < s.l.length := by
    rcases Nat.lt_or_ge j s.l.length with h | h
    · exact h
    · rw [List.getElem?_eq_none (by simpa using h)] at hj; simp at hj
  rw [hb.byte j hlt, ← hj]
  simp [hlt]
theorem address_c (s : Ax) (six : Bool) (w : World) (hs : WfA s) : Calls Try.prog 17 #[.agg (csA s.v s.l), .bool six] w fun e w' => e = .returned (.agg (csA (adrP s six).v (adrP s six).l)) ∧ Away [] w w' := by
  have HS := Lib.hid hs
  obtain ⟨r, hr⟩ : ∃ r, r = adrP s six := ⟨_, rfl⟩
  rw [← hr]
  unfold adrP at hr
  have HRR := Lib.hid hr
  obtain ⟨x0, x1, x2, x3, x4, x5, x6, x7, x8, x9, x10, x11, x12, x13, x14, x15, hl⟩ := list16 hs.n
  have HL := Lib.hid hl
  have HWC : Hid (WfA ⟨4, [x0, x1, x2, x3, 0, 0, 0, 0, 0, 0, 0, 0, 0, 0, 0, 0]⟩) := by
    have := adrP_wf hs false
    unfold adrP at this
    rw [if_neg (by simp), hl] at this
    exact this
  clear hs hr hl
  go_enter Try.func17, Try.ntmps17
  go_wp2_with (refine wpList_box24 rfl _ rfl s rfl ?_; refine Hid.out ?_)
  refine Lib.hid ?_
  intro g1 w1 hg1 hb haw
  have HA := Lib.hid haw; have HB := Lib.hid hb
  have hl1 := hb.lt
  clear hb haw
  go_wp2_with (refine wpList_allocX rfl rfl ?_; refine Hid.out ?_)
  refine Lib.hid ?_
  intro g4 w2 hg4 hb haw
  replace HA := Lib.hid (HA.out.on haw); replace HB := Lib.hid (HB.out.on haw); have HR := Lib.hid hb
  have hl4 := hb.lt
  have hs2 := HA.out.size
  clear hb haw
  go_wp2_with (refine wpList_newX rfl rfl rfl _ _ rfl ⟨4, z16⟩ (fun _ => rfl) (fun _ => rfl) rfl ?_; refine Hid.out ?_)
  refine Lib.hid ?_
  intro g5 w3 hg5 hb haw
  replace HA := Lib.hid (HA.out.on haw); replace HB := Lib.hid (HB.out.on haw); replace HR := Lib.hid (HR.out.on haw); have HC := Lib.hid hb
  have hs3 := haw.size
  clear hb haw
  go_wp2_with fail
  refine wp_loop_rounds 5 ?_
  rw [rounds_succ]
  have ca : w3.cell? ⟨g1, 1, none⟩ = some (Value.int .u8 x0) := by have := HB.out.byte 0 (by rw [HL.out]; simp); rw [HL.out] at this; exact this
  have cb : w3.cell? ⟨g5, 1, none⟩ = some (Value.int .u8 0) := HC.out.byte 0 (by decide)
  have cf := HC.out.free 1
  replace HC : Hid (BoxX (w3.setCell ⟨g5, 1, none⟩ (.int .u8 x0)) g5 ⟨4, [x0, 0, 0, 0, 0, 0, 0, 0, 0, 0, 0, 0, 0, 0, 0, 0]⟩) := HC.out.put 0 x0
  have haw := away_put (w := w3) (g := g5) 1 (.int .u8 x0)
  replace HA := Lib.hid (HA.out.next haw (fun x hx => .inr (by simp at hx; omega)))
  replace HB := Lib.hid (HB.out.away haw (by simp; omega)); replace HR := Lib.hid (HR.out.away haw (by simp; omega))
  clear haw
  go_wp2_with fail
  clear ca cb cf
  generalize World.setCell _ ⟨g5, 1, none⟩ (.int .u8 x0) = w4 at *
  rw [rounds_succ]
  have ca : w4.cell? ⟨g1, 2, none⟩ = some (Value.int .u8 x1) := by have := HB.out.byte 1 (by rw [HL.out]; simp); rw [HL.out] at this; exact this
  have cb : w4.cell? ⟨g5, 2, none⟩ = some (Value.int .u8 0) := HC.out.byte 1 (by simp)
  have cf := HC.out.free 2
  replace HC : Hid (BoxX (w4.setCell ⟨g5, 2, none⟩ (.int .u8 x1)) g5 ⟨4, [x0, x1, 0, 0, 0, 0, 0, 0, 0, 0, 0, 0, 0, 0, 0, 0]⟩) := HC.out.put 1 x1
  have haw := away_put (w := w4) (g := g5) 2 (.int .u8 x1)
  replace HA := Lib.hid (HA.out.next haw (fun x hx => .inr (by simp at hx; omega)))
  replace HB := Lib.hid (HB.out.away haw (by simp; omega)); replace HR := Lib.hid (HR.out.away haw (by simp; omega))
  clear haw
  go_wp2_with fail
  clear ca cb cf
  generalize World.setCell _ ⟨g5, 2, none⟩ (.int .u8 x1) = w5 at *
  rw [rounds_succ]
  have ca : w5.cell? ⟨g1, 3, none⟩ = some (Value.int .u8 x2) := by have := HB.out.byte 2 (by rw [HL.out]; simp); rw [HL.out] at this; exact this
  have cb : w5.cell? ⟨g5, 3, none⟩ = some (Value.int .u8 0) := HC.out.byte 2 (by simp)
  have cf := HC.out.free 3
  replace HC : Hid (BoxX (w5.setCell ⟨g5, 3, none⟩ (.int .u8 x2)) g5 ⟨4, [x0, x1, x2, 0, 0, 0, 0, 0, 0, 0, 0, 0, 0, 0, 0, 0]⟩) := HC.out.put 2 x2
  have haw := away_put (w := w5) (g := g5) 3 (.int .u8 x2)
  replace HA := Lib.hid (HA.out.next haw (fun x hx => .inr (by simp at hx; omega)))
  replace HB := Lib.hid (HB.out.away haw (by simp; omega)); replace HR := Lib.hid (HR.out.away haw (by simp; omega))
  clear haw
  go_wp2_with fail
  clear ca cb cf
  generalize World.setCell _ ⟨g5, 3, none⟩ (.int .u8 x2) = w6 at *
  rw [rounds_succ]
  have ca : w6.cell? ⟨g1, 4, none⟩ = some (Value.int .u8 x3) := by have := HB.out.byte 3 (by rw [HL.out]; simp); rw [HL.out] at this; exact this
  have cb : w6.cell? ⟨g5, 4, none⟩ = some (Value.int .u8 0) := HC.out.byte 3 (by simp)
  have cf := HC.out.free 4
  replace HC : Hid (BoxX (w6.setCell ⟨g5, 4, none⟩ (.int .u8 x3)) g5 ⟨4, [x0, x1, x2, x3, 0, 0, 0, 0, 0, 0, 0, 0, 0, 0, 0, 0]⟩) := HC.out.put 3 x3
  have haw := away_put (w := w6) (g := g5) 4 (.int .u8 x3)
  replace HA := Lib.hid (HA.out.next haw (fun x hx => .inr (by simp at hx; omega)))
  replace HB := Lib.hid (HB.out.away haw (by simp; omega)); replace HR := Lib.hid (HR.out.away haw (by simp; omega))
  clear haw
  go_wp2_with fail
  clear ca cb cf
  generalize World.setCell _ ⟨g5, 4, none⟩ (.int .u8 x3) = w7 at *
  rw [rounds_succ]
  cases six
  · go_wp2_with (first | (refine wpList_loadX rfl _ rfl g5 rfl ⟨4, [x0, x1, x2, x3, 0, 0, 0, 0, 0, 0, 0, 0, 0, 0, 0, 0]⟩ (by exact HC.out) HWC.out ?_) | (refine wpList_storeX rfl _ _ rfl g4 rfl ⟨4, [x0, x1, x2, x3, 0, 0, 0, 0, 0, 0, 0, 0, 0, 0, 0, 0]⟩ rfl zeroAx (by exact HR.out) rfl rfl ?_; refine Hid.out ?_))
    refine Lib.hid ?_
    intro w9 hb haw
    have HF := Lib.hid hb
    replace HA := Lib.hid (HA.out.next haw (fun x hx => .inr (by simp at hx; omega)))
    clear hb haw
    go_wp2_with fail
    refine bodyPost_ret (result24x rfl _ _ _ _ rfl HF.out rfl) rfl ⟨?_, HA.out⟩
    rw [HRR.out, HL.out]; rfl
  · go_wp2_with (first | (refine wpList_load22 rfl _ rfl g1 rfl s (by exact HB.out) HS.out #[.int .u8 x0, .int .u8 x1, .int .u8 x2, .int .u8 x3, .int .u8 x4, .int .u8 x5, .int .u8 x6, .int .u8 x7, .int .u8 x8, .int .u8 x9, .int .u8 x10, .int .u8 x11, .int .u8 x12, .int .u8 x13, .int .u8 x14, .int .u8 x15] (by rw [HL.out]; rfl) ?_) | (refine wpList_storeX rfl _ _ rfl g4 rfl ⟨6, s.l⟩ (by rw [HL.out]; rfl) zeroAx (by exact HR.out) HS.out.n rfl ?_; refine Hid.out ?_))
    refine Lib.hid ?_
    intro w9 hb haw
    have HF := Lib.hid hb
    replace HA := Lib.hid (HA.out.next haw (fun x hx => .inr (by simp at hx; omega)))
    clear hb haw
    go_wp2_with fail
    refine bodyPost_ret (result24x rfl _ _ _ _ rfl HF.out HS.out.n) rfl ⟨?_, HA.out⟩
    rw [HRR.out]; rfl
/-- A datagram that may be, made of any. -/
def fitD (g : Dg) (six : Bool) : Dg := ⟨g.sp % 65536, g.dp % 65536, g.ns && !six, g.d.take (if six = true then 65527 else 65507)⟩
theorem fitD_fit {g : Dg} (hg : Bytes g.d) (six : Bool) (v : Int) (hv : v = if six = true then 6 else 4) : Fit v (fitD g six) := by
  have h1 := Int.emod_nonneg g.sp (show (65536 : Int) ≠ 0 by decide)
  have h2 := Int.emod_lt_of_pos g.sp (show (0 : Int) < 65536 by decide)
  have h3 := Int.emod_nonneg g.dp (show (65536 : Int) ≠ 0 by decide)
  have h4 := Int.emod_lt_of_pos g.dp (show (0 : Int) < 65536 by decide)
  refine ⟨h1, by show g.sp % 65536 ≤ _; omega, h3, by show g.dp % 65536 ≤ _; omega, ?_, fun e => ?_, hg.take _⟩
  · show ((g.d.take (if six = true then 65527 else 65507)).length : Int) ≤ roomP v
    rw [hv, List.length_take]
    unfold roomP
    cases six
    · simp; omega
    · simp; omega
  · rw [hv] at e
    cases six
    · simp at e
    · simp [fitD]
theorem fit_wfd {v : Int} {g : Dg} (h : Fit v g) : WfD g := by
  have h1 := h.sp0; have h2 := h.sp1; have h3 := h.dp0; have h4 := h.dp1; have h5 := h.n; have h6 := room_bd v
  exact ⟨⟨by omega, by omega⟩, ⟨by omega, by omega⟩, h.d, by omega⟩
theorem rest16 (n : Int) (w : World) (hn : i64ok n) : Calls Try.prog 19 #[.int .i64 n, .int .i64 65535] w fun e w' => e = .returned (.int .i64 (n % 65536)) ∧ w' = w := rest_c n 65535 w hn (by decide) (by decide)
def DgOut (w : World) (g : Dg) (E : Ending) (w' : World) : Prop := ∃ v, E = .returned (.agg (csD g v)) ∧ Sl w v g.d ∧ Away [] w w'
theorem boxD_setRow {w : World} {k : Nat} {g : Dg} {dv : Value} (h : BoxD w k g dv) (q : Dg) (du : Value) : BoxD (w.setRow k (csD q du)) k q du := by
  unfold BoxD at h ⊢; simp [World.setRow, Array.getElem?_modify, h]
theorem yields_ld {ops : Array Oper} {S : World → Prop} {op : Oper} {a : Act} {t : TypeId} {v : Value} {ad : Addr} (hw : Region.wanted op (yielded ops a.tmps) = true) (x : Operand) (ho : op.op = .load t x) (hx : a.eval x = .pointer (some ad))
    (hS : ∀ w, S w → (Instr.loadAt t (.pointer (some ad))).run Try.prog w = .ok v w) : YieldsIf Try.prog ops S op v a :=
  .inl ⟨hw, fun w hw' => by
    unfold execOp
    simp only [ho, hx, Sem.run_bind, hS w hw', Result.andThen_ok, Sem.run_pure]⟩
theorem yields_sl {ops : Array Oper} {S : World → Prop} {op : Oper} {a : Act} {v : Value} {sa : Option Addr} {n c : Nat} {hi : Int} (hw : Region.wanted op (yielded ops a.tmps) = true) (x h : Operand) (ho : op.op = .slice 25 x none (some h) none) (hx : a.eval x = .slice sa n c) (hh : a.eval h = .int .i64 hi)
    (hS : ∀ w, (Instr.sliceAt 25 (.slice sa n c) none (some (.int .i64 hi)) none).run Try.prog w = .ok v w) : YieldsIf Try.prog ops S op v a :=
  .inl ⟨hw, fun w hw' => by
    unfold execOp
    simp only [ho, hx, hh, Option.map_none, Option.map_some, Sem.run_bind, hS w, Result.andThen_ok, Sem.run_pure]⟩
theorem BoxD.four {w : World} {k : Nat} {g q : Dg} {dv du : Value} (h : BoxD w k g dv) : BoxD ((((w.setCell ⟨k, 0, none⟩ (.int .i64 q.sp)).setCell ⟨k, 1, none⟩ (.int .i64 q.dp)).setCell ⟨k, 2, none⟩ (.bool q.ns)).setCell ⟨k, 3, none⟩ du) k q du := by
  have h0 : BoxD (w.setCell ⟨k, 0, none⟩ (.int .i64 q.sp)) k ⟨q.sp, g.dp, g.ns, g.d⟩ dv := h.put 0 _ rfl
  have h1 : BoxD _ k ⟨q.sp, q.dp, g.ns, g.d⟩ dv := h0.put 1 (.int .i64 q.dp) rfl
  have h2 : BoxD _ k ⟨q.sp, q.dp, q.ns, g.d⟩ dv := h1.put 2 (.bool q.ns) rfl
  exact h2.put 3 du rfl
theorem away_four {w : World} {k : Nat} (a b c d : Value) : Away [k] w ((((w.setCell ⟨k, 0, none⟩ a).setCell ⟨k, 1, none⟩ b).setCell ⟨k, 2, none⟩ c).setCell ⟨k, 3, none⟩ d) :=
  ((((Away.refl [k] w).setCell (.inl (by simp)) _).setCell (.inl (by simp)) _).setCell (.inl (by simp)) _).setCell (.inl (by simp)) _
theorem dgram_false_le (g : Dg) (dv : Value) (w : World) (hg : Dat w g dv) (hle : g.d.length < 65507) : Calls Try.prog 18 #[.agg (csD g dv), .bool false] w fun E w' => DgOut w (fitD g false) E w' := by
  have HSP := Lib.hid hg.wf.sp; have HDP := Lib.hid hg.wf.dp
  have hlen := hg.wf.dn
  obtain ⟨da, dc, hdv, hd1, hd2, hd3⟩ := hg.d
  subst hdv
  have HR := Lib.hid hd3
  obtain ⟨q, hq⟩ : ∃ q, q = fitD g false := ⟨_, rfl⟩
  rw [← hq]
  have HQD : Hid (q.d = g.d.take g.d.length) := by
    show _ = _
    rw [hq]
    show g.d.take 65507 = _
    rw [List.take_of_length_le (by omega), List.take_of_length_le (Nat.le_refl _)]
  have HSL : Hid (Sl w (.slice da g.d.length dc) q.d) := by
    show Sl _ _ _
    rw [HQD.out]
    exact ⟨da, dc, by rw [List.length_take, Nat.min_eq_left (by omega)], by rw [List.length_take]; omega, hd2, HR.out.head _⟩
  have HQ0 : Hid (q.sp = g.sp % 65536) := by rw [hq]; rfl
  have HQ1 : Hid (q.dp = g.dp % 65536) := by rw [hq]; rfl
  have HQ2 : Hid (q.ns = (g.ns && !false)) := by rw [hq]; rfl
  have s1 := slice_h da g.d.length dc g.d.length (g.d.length : Int) rfl (by omega)
  clear hq hg hd3
  go_enter Try.func18, Try.ntmps18
  go_wp2_with (refine wpList_boxD rfl _ rfl g _ rfl ?_; refine Hid.out ?_)
  refine Lib.hid ?_
  intro g2 w1 hg2 hb haw
  have HA := Lib.hid haw; have HB := Lib.hid hb
  have hl2 := hb.lt
  clear hb haw
  go_wp2_with (refine wpList_allocD rfl rfl ?_; refine Hid.out ?_)
  refine Lib.hid ?_
  intro g4 w2 hg4 hb haw
  replace HA := Lib.hid (HA.out.on haw); replace HB := Lib.hid (HB.out.on haw); have HC := Lib.hid hb
  have hs1 := HA.out.size
  clear hb haw
  have hne : g2 ≠ g4 := by omega
  have hne' : g4 ≠ g2 := by omega
  have c0 := HB.out.c0; have c1 := HB.out.c1; have c2 := HB.out.c2; have c3 := HB.out.c3
  have e0 := HC.out.c0; have e1 := HC.out.c1; have e2 := HC.out.c2; have e3 := HC.out.c3
  have f0 := HC.out.free 0; have f1 := HC.out.free 1; have f2 := HC.out.free 2; have f3 := HC.out.free 3
  generalize hns : g.ns = ns at *
  have HNS := Lib.hid hns
  clear hns
  cases ns
  · go_upto_region 5 with fail
    refine wp_region_held_drew (S := (fun w' => BoxD w' g2 g (.slice da g.d.length dc))) (by kernel_rfl) HB.out (fun hHeld => ?_)
    refine wpAnyH_take (i := 0) (v := ?_) (by simp only [List.getElem?_toArray, List.getElem?_cons_zero]; rfl) (by kernel_rfl) (by kernel_rfl) (by kernel_rfl) (by exact fun _ _ _ h => h) (Or.inl ⟨by rfl, ?_⟩) (by assumption) ?_
    rotate_left
    · intro wq hSw
      (try dsimp only at hSw)
      go_simp
      all_goals (with_reducible rfl)
    try simp only [Act.put, List.setIfInBounds_toArray, List.set_cons_zero, List.set_cons_succ]
    refine wpAnyH_take (i := 1) (by simp only [List.getElem?_toArray, List.getElem?_cons_succ, List.getElem?_cons_zero]; rfl) (by kernel_rfl) (by kernel_rfl) (by kernel_rfl) (by exact fun _ _ _ h => h) (yields_ld (ad := ⟨g2, 0, none⟩) (by rfl) _ rfl rfl (fun w' h => ld3 h.c0)) (by assumption) ?_
    try simp only [Act.put, List.setIfInBounds_toArray, List.set_cons_zero, List.set_cons_succ]
    refine wpAnyH_take (i := 3) (v := ?_) (by simp only [List.getElem?_toArray, List.getElem?_cons_succ, List.getElem?_cons_zero]; rfl) (by kernel_rfl) (by kernel_rfl) (by kernel_rfl) (by exact fun _ _ _ h => h) (Or.inl ⟨by rfl, ?_⟩) (by assumption) ?_
    rotate_left
    · intro wq hSw
      (try dsimp only at hSw)
      go_simp
      all_goals (with_reducible rfl)
    try simp only [Act.put, List.setIfInBounds_toArray, List.set_cons_zero, List.set_cons_succ]
    refine wpAnyH_take (i := 4) (by simp only [List.getElem?_toArray, List.getElem?_cons_succ, List.getElem?_cons_zero]; rfl) (by kernel_rfl) (by kernel_rfl) (by kernel_rfl) (by exact fun _ _ _ h => h) (yields_ld (ad := ⟨g2, 1, none⟩) (by rfl) _ rfl rfl (fun w' h => ld3 h.c1)) (by assumption) ?_
    try simp only [Act.put, List.setIfInBounds_toArray, List.set_cons_zero, List.set_cons_succ]
    refine wpAnyH_take (i := 6) (v := ?_) (by simp only [List.getElem?_toArray, List.getElem?_cons_succ, List.getElem?_cons_zero]; rfl) (by kernel_rfl) (by kernel_rfl) (by kernel_rfl) (by exact fun _ _ _ h => h) (Or.inl ⟨by rfl, ?_⟩) (by assumption) ?_
    rotate_left
    · intro wq hSw
      (try dsimp only at hSw)
      go_simp
      all_goals (with_reducible rfl)
    try simp only [Act.put, List.setIfInBounds_toArray, List.set_cons_zero, List.set_cons_succ]
    refine wpAnyH_take (i := 7) (by simp only [List.getElem?_toArray, List.getElem?_cons_succ, List.getElem?_cons_zero]; rfl) (by kernel_rfl) (by kernel_rfl) (by kernel_rfl) (by exact fun _ _ _ h => h) (yields_ld (ad := ⟨g2, 2, none⟩) (by rfl) _ rfl rfl (fun w' h => ld4 (by have := h.c2; rwa [HNS.out] at this))) (by assumption) ?_
    try simp only [Act.put, List.setIfInBounds_toArray, List.set_cons_zero, List.set_cons_succ]
    refine wpAnyH_take (i := 12) (v := ?_) (by simp only [List.getElem?_toArray, List.getElem?_cons_succ, List.getElem?_cons_zero]; rfl) (by kernel_rfl) (by kernel_rfl) (by kernel_rfl) (by exact fun _ _ _ h => h) (Or.inl ⟨by rfl, ?_⟩) (by assumption) ?_
    rotate_left
    · intro wq hSw
      (try dsimp only at hSw)
      go_simp
      all_goals (with_reducible rfl)
    try simp only [Act.put, List.setIfInBounds_toArray, List.set_cons_zero, List.set_cons_succ]
    refine wpAnyH_take (i := 13) (by simp only [List.getElem?_toArray, List.getElem?_cons_succ, List.getElem?_cons_zero]; rfl) (by kernel_rfl) (by kernel_rfl) (by kernel_rfl) (by exact fun _ _ _ h => h) (yields_ld (ad := ⟨g2, 3, none⟩) (by rfl) _ rfl rfl (fun w' h => ldB h.c3)) (by assumption) ?_
    try simp only [Act.put, List.setIfInBounds_toArray, List.set_cons_zero, List.set_cons_succ]
    refine wpAnyH_take (i := 14) (v := ?_) (by simp only [List.getElem?_toArray, List.getElem?_cons_succ, List.getElem?_cons_zero]; rfl) (by kernel_rfl) (by kernel_rfl) (by kernel_rfl) (by exact fun _ _ _ h => h) (Or.inl ⟨by rfl, ?_⟩) (by assumption) ?_
    rotate_left
    · intro wq hSw
      (try dsimp only at hSw)
      go_simp
      all_goals (with_reducible rfl)
    try simp only [Act.put, List.setIfInBounds_toArray, List.set_cons_zero, List.set_cons_succ]
    refine wpAnyH_take (i := 15) (by simp only [List.getElem?_toArray, List.getElem?_cons_succ, List.getElem?_cons_zero]; rfl) (by kernel_rfl) (by kernel_rfl) (by kernel_rfl) (by exact fun _ _ _ h => h) (yields_sl (by rfl) _ _ rfl rfl rfl s1) (by assumption) ?_
    try simp only [Act.put, List.setIfInBounds_toArray, List.set_cons_zero, List.set_cons_succ]
    refine wpAnyH_ready (rs := [2]) (by kernel_rfl) (by simp) ?_
    refine AllReadyH.cons (by simp only [List.getElem?_toArray, List.getElem?_cons_succ, List.getElem?_cons_zero]; rfl) (fun K hK => ?_) AllReadyH.nil
    go_simp
    refine (rest16 _ _ HSP.out).mono ?_
    rintro E wr ⟨rfl, hwr⟩
    subst hwr
    go_wp2_with fail
    refine hK.out _ _ hHeld (fun hHeld => ?_)
    clear hK K
    try simp only [Act.put, List.setIfInBounds_toArray, List.set_cons_zero, List.set_cons_succ]
    refine wpAnyH_ready (rs := [5]) (by kernel_rfl) (by simp) ?_
    refine AllReadyH.cons (by simp only [List.getElem?_toArray, List.getElem?_cons_succ, List.getElem?_cons_zero]; rfl) (fun K hK => ?_) AllReadyH.nil
    go_simp
    refine (rest16 _ _ HDP.out).mono ?_
    rintro E wr ⟨rfl, hwr⟩
    subst hwr
    go_wp2_with fail
    refine hK.out _ _ hHeld (fun hHeld => ?_)
    clear hK K
    try simp only [Act.put, List.setIfInBounds_toArray, List.set_cons_zero, List.set_cons_succ]
    refine wpAnyH_take (i := 8) (v := ?_) (by simp only [List.getElem?_toArray, List.getElem?_cons_succ, List.getElem?_cons_zero]; rfl) (by kernel_rfl) (by kernel_rfl) (by kernel_rfl) (by exact fun _ _ _ h => h) (Or.inl ⟨by rfl, ?_⟩) (by assumption) ?_
    rotate_left
    · intro wq hSw
      (try dsimp only at hSw)
      go_simp
      all_goals (with_reducible rfl)
    try simp only [Act.put, List.setIfInBounds_toArray, List.set_cons_zero, List.set_cons_succ]
    refine wpAnyH_take (i := 9) (v := undef) (by simp only [List.getElem?_toArray, List.getElem?_cons_succ, List.getElem?_cons_zero]; rfl) (by kernel_rfl) (by kernel_rfl) (by kernel_rfl) (by exact fun _ _ _ h => h) (Or.inr ⟨by rfl, rfl⟩) (by assumption) ?_
    try simp only [Act.put, List.setIfInBounds_toArray, List.set_cons_zero, List.set_cons_succ]
    refine wpAnyH_take (i := 10) (v := undef) (by simp only [List.getElem?_toArray, List.getElem?_cons_succ, List.getElem?_cons_zero]; rfl) (by kernel_rfl) (by kernel_rfl) (by kernel_rfl) (by exact fun _ _ _ h => h) (Or.inr ⟨by rfl, rfl⟩) (by assumption) ?_
    try simp only [Act.put, List.setIfInBounds_toArray, List.set_cons_zero, List.set_cons_succ]
    refine wpAnyH_take (i := 11) (v := ?_) (by simp only [List.getElem?_toArray, List.getElem?_cons_succ, List.getElem?_cons_zero]; rfl) (by kernel_rfl) (by kernel_rfl) (by kernel_rfl) (by exact fun _ _ _ h => h) (Or.inl ⟨by rfl, ?_⟩) (by assumption) ?_
    rotate_left
    · intro wq hSw
      (try dsimp only at hSw)
      go_simp
      all_goals (with_reducible rfl)
    try simp only [Act.put, List.setIfInBounds_toArray, List.set_cons_zero, List.set_cons_succ]
    refine wpAnyH_take (i := 16) (v := ?_) (by simp only [List.getElem?_toArray, List.getElem?_cons_succ, List.getElem?_cons_zero]; rfl) (by kernel_rfl) (by kernel_rfl) (by kernel_rfl) (by exact fun _ _ _ h => h) (Or.inl ⟨by rfl, ?_⟩) (by assumption) ?_
    rotate_left
    · intro wq hSw
      (try dsimp only at hSw)
      go_simp
      all_goals (with_reducible rfl)
    try simp only [Act.put, List.setIfInBounds_toArray, List.set_cons_zero, List.set_cons_succ]
    refine wpAnyH_ready (rs := [17]) (by kernel_rfl) (by simp) ?_
    refine AllReadyH.cons (by simp only [List.getElem?_toArray, List.getElem?_cons_succ, List.getElem?_cons_zero]; rfl) (fun K hK => ?_) AllReadyH.nil
    rw [if_pos (by rfl)]
    refine wp_store_row 27 (.tmp 4) (.tmp 28) rfl g4 (csD q (.slice da g.d.length dc)) rfl (by have e0 := HQ0.out; have e1 := HQ1.out; have e2 := HQ2.out; unfold csD; rw [e0, e1, e2]; rfl) 27 (csD zeroDg (.slice none 0 0)) (by exact HC.out) info27 rfl (csD_one q _ rfl) ?_
    refine hK.out _ _ (by exact BoxD.away hHeld ((Away.refl [g4] _).setRow (.inl (by simp)) _) (by simp; omega)) (fun hHeld2 => ?_)
    clear hK K
    refine wpAnyH_done (by kernel_rfl) ?_ _
    have hF : BoxD (w2.drew.setRow g4 (csD q (.slice da g.d.length dc))) g4 q (.slice da g.d.length dc) := boxD_setRow (w := w2.drew) HC.out _ _
    have HF := Lib.hid hF
    have HA9 := Lib.hid (HA.out.drew.setRow (g := g4) (.inr (by omega)) (csD q (.slice da g.d.length dc)))
    clear hF hHeld2 hHeld
    generalize w2.drew.setRow g4 (csD q (.slice da g.d.length dc)) = w9 at *
    go_wp2_with fail
    refine bodyPost_ret (result27 rfl _ _ g4 q (.slice da g.d.length dc) rfl HF.out) rfl ⟨_, rfl, HSL.out, HA9.out⟩
  · go_upto_region 5 with fail
    refine wp_region_held_drew (S := (fun w' => BoxD w' g2 g (.slice da g.d.length dc))) (by kernel_rfl) HB.out (fun hHeld => ?_)
    refine wpAnyH_take (i := 0) (v := ?_) (by simp only [List.getElem?_toArray, List.getElem?_cons_zero]; rfl) (by kernel_rfl) (by kernel_rfl) (by kernel_rfl) (by exact fun _ _ _ h => h) (Or.inl ⟨by rfl, ?_⟩) (by assumption) ?_
    rotate_left
    · intro wq hSw
      (try dsimp only at hSw)
      go_simp
      all_goals (with_reducible rfl)
    try simp only [Act.put, List.setIfInBounds_toArray, List.set_cons_zero, List.set_cons_succ]
    refine wpAnyH_take (i := 1) (by simp only [List.getElem?_toArray, List.getElem?_cons_succ, List.getElem?_cons_zero]; rfl) (by kernel_rfl) (by kernel_rfl) (by kernel_rfl) (by exact fun _ _ _ h => h) (yields_ld (ad := ⟨g2, 0, none⟩) (by rfl) _ rfl rfl (fun w' h => ld3 h.c0)) (by assumption) ?_
    try simp only [Act.put, List.setIfInBounds_toArray, List.set_cons_zero, List.set_cons_succ]
    refine wpAnyH_take (i := 3) (v := ?_) (by simp only [List.getElem?_toArray, List.getElem?_cons_succ, List.getElem?_cons_zero]; rfl) (by kernel_rfl) (by kernel_rfl) (by kernel_rfl) (by exact fun _ _ _ h => h) (Or.inl ⟨by rfl, ?_⟩) (by assumption) ?_
    rotate_left
    · intro wq hSw
      (try dsimp only at hSw)
      go_simp
      all_goals (with_reducible rfl)
    try simp only [Act.put, List.setIfInBounds_toArray, List.set_cons_zero, List.set_cons_succ]
    refine wpAnyH_take (i := 4) (by simp only [List.getElem?_toArray, List.getElem?_cons_succ, List.getElem?_cons_zero]; rfl) (by kernel_rfl) (by kernel_rfl) (by kernel_rfl) (by exact fun _ _ _ h => h) (yields_ld (ad := ⟨g2, 1, none⟩) (by rfl) _ rfl rfl (fun w' h => ld3 h.c1)) (by assumption) ?_
    try simp only [Act.put, List.setIfInBounds_toArray, List.set_cons_zero, List.set_cons_succ]
    refine wpAnyH_take (i := 6) (v := ?_) (by simp only [List.getElem?_toArray, List.getElem?_cons_succ, List.getElem?_cons_zero]; rfl) (by kernel_rfl) (by kernel_rfl) (by kernel_rfl) (by exact fun _ _ _ h => h) (Or.inl ⟨by rfl, ?_⟩) (by assumption) ?_
    rotate_left
    · intro wq hSw
      (try dsimp only at hSw)
      go_simp
      all_goals (with_reducible rfl)
    try simp only [Act.put, List.setIfInBounds_toArray, List.set_cons_zero, List.set_cons_succ]
    refine wpAnyH_take (i := 7) (by simp only [List.getElem?_toArray, List.getElem?_cons_succ, List.getElem?_cons_zero]; rfl) (by kernel_rfl) (by kernel_rfl) (by kernel_rfl) (by exact fun _ _ _ h => h) (yields_ld (ad := ⟨g2, 2, none⟩) (by rfl) _ rfl rfl (fun w' h => ld4 (by have := h.c2; rwa [HNS.out] at this))) (by assumption) ?_
    try simp only [Act.put, List.setIfInBounds_toArray, List.set_cons_zero, List.set_cons_succ]
    refine wpAnyH_take (i := 12) (v := ?_) (by simp only [List.getElem?_toArray, List.getElem?_cons_succ, List.getElem?_cons_zero]; rfl) (by kernel_rfl) (by kernel_rfl) (by kernel_rfl) (by exact fun _ _ _ h => h) (Or.inl ⟨by rfl, ?_⟩) (by assumption) ?_
    rotate_left
    · intro wq hSw
      (try dsimp only at hSw)
      go_simp
      all_goals (with_reducible rfl)
    try simp only [Act.put, List.setIfInBounds_toArray, List.set_cons_zero, List.set_cons_succ]
    refine wpAnyH_take (i := 13) (by simp only [List.getElem?_toArray, List.getElem?_cons_succ, List.getElem?_cons_zero]; rfl) (by kernel_rfl) (by kernel_rfl) (by kernel_rfl) (by exact fun _ _ _ h => h) (yields_ld (ad := ⟨g2, 3, none⟩) (by rfl) _ rfl rfl (fun w' h => ldB h.c3)) (by assumption) ?_
    try simp only [Act.put, List.setIfInBounds_toArray, List.set_cons_zero, List.set_cons_succ]
    refine wpAnyH_take (i := 14) (v := ?_) (by simp only [List.getElem?_toArray, List.getElem?_cons_succ, List.getElem?_cons_zero]; rfl) (by kernel_rfl) (by kernel_rfl) (by kernel_rfl) (by exact fun _ _ _ h => h) (Or.inl ⟨by rfl, ?_⟩) (by assumption) ?_
    rotate_left
    · intro wq hSw
      (try dsimp only at hSw)
      go_simp
      all_goals (with_reducible rfl)
    try simp only [Act.put, List.setIfInBounds_toArray, List.set_cons_zero, List.set_cons_succ]
    refine wpAnyH_take (i := 15) (by simp only [List.getElem?_toArray, List.getElem?_cons_succ, List.getElem?_cons_zero]; rfl) (by kernel_rfl) (by kernel_rfl) (by kernel_rfl) (by exact fun _ _ _ h => h) (yields_sl (by rfl) _ _ rfl rfl rfl s1) (by assumption) ?_
    try simp only [Act.put, List.setIfInBounds_toArray, List.set_cons_zero, List.set_cons_succ]
    refine wpAnyH_ready (rs := [2]) (by kernel_rfl) (by simp) ?_
    refine AllReadyH.cons (by simp only [List.getElem?_toArray, List.getElem?_cons_succ, List.getElem?_cons_zero]; rfl) (fun K hK => ?_) AllReadyH.nil
    go_simp
    refine (rest16 _ _ HSP.out).mono ?_
    rintro E wr ⟨rfl, hwr⟩
    subst hwr
    go_wp2_with fail
    refine hK.out _ _ hHeld (fun hHeld => ?_)
    clear hK K
    try simp only [Act.put, List.setIfInBounds_toArray, List.set_cons_zero, List.set_cons_succ]
    refine wpAnyH_ready (rs := [5]) (by kernel_rfl) (by simp) ?_
    refine AllReadyH.cons (by simp only [List.getElem?_toArray, List.getElem?_cons_succ, List.getElem?_cons_zero]; rfl) (fun K hK => ?_) AllReadyH.nil
    go_simp
    refine (rest16 _ _ HDP.out).mono ?_
    rintro E wr ⟨rfl, hwr⟩
    subst hwr
    go_wp2_with fail
    refine hK.out _ _ hHeld (fun hHeld => ?_)
    clear hK K
    try simp only [Act.put, List.setIfInBounds_toArray, List.set_cons_zero, List.set_cons_succ]
    refine wpAnyH_take (i := 8) (v := ?_) (by simp only [List.getElem?_toArray, List.getElem?_cons_succ, List.getElem?_cons_zero]; rfl) (by kernel_rfl) (by kernel_rfl) (by kernel_rfl) (by exact fun _ _ _ h => h) (Or.inl ⟨by rfl, ?_⟩) (by assumption) ?_
    rotate_left
    · intro wq hSw
      (try dsimp only at hSw)
      go_simp
      all_goals (with_reducible rfl)
    try simp only [Act.put, List.setIfInBounds_toArray, List.set_cons_zero, List.set_cons_succ]
    refine wpAnyH_take (i := 9) (v := ?_) (by simp only [List.getElem?_toArray, List.getElem?_cons_succ, List.getElem?_cons_zero]; rfl) (by kernel_rfl) (by kernel_rfl) (by kernel_rfl) (by exact fun _ _ _ h => h) (Or.inl ⟨by rfl, ?_⟩) (by assumption) ?_
    rotate_left
    · intro wq hSw
      (try dsimp only at hSw)
      go_simp
      all_goals (with_reducible rfl)
    try simp only [Act.put, List.setIfInBounds_toArray, List.set_cons_zero, List.set_cons_succ]
    refine wpAnyH_take (i := 10) (v := ?_) (by simp only [List.getElem?_toArray, List.getElem?_cons_succ, List.getElem?_cons_zero]; rfl) (by kernel_rfl) (by kernel_rfl) (by kernel_rfl) (by exact fun _ _ _ h => h) (Or.inl ⟨by rfl, ?_⟩) (by assumption) ?_
    rotate_left
    · intro wq hSw
      (try dsimp only at hSw)
      go_simp
      all_goals (with_reducible rfl)
    try simp only [Act.put, List.setIfInBounds_toArray, List.set_cons_zero, List.set_cons_succ]
    refine wpAnyH_take (i := 11) (v := ?_) (by simp only [List.getElem?_toArray, List.getElem?_cons_succ, List.getElem?_cons_zero]; rfl) (by kernel_rfl) (by kernel_rfl) (by kernel_rfl) (by exact fun _ _ _ h => h) (Or.inl ⟨by rfl, ?_⟩) (by assumption) ?_
    rotate_left
    · intro wq hSw
      (try dsimp only at hSw)
      go_simp
      all_goals (with_reducible rfl)
    try simp only [Act.put, List.setIfInBounds_toArray, List.set_cons_zero, List.set_cons_succ]
    refine wpAnyH_take (i := 16) (v := ?_) (by simp only [List.getElem?_toArray, List.getElem?_cons_succ, List.getElem?_cons_zero]; rfl) (by kernel_rfl) (by kernel_rfl) (by kernel_rfl) (by exact fun _ _ _ h => h) (Or.inl ⟨by rfl, ?_⟩) (by assumption) ?_
    rotate_left
    · intro wq hSw
      (try dsimp only at hSw)
      go_simp
      all_goals (with_reducible rfl)
    try simp only [Act.put, List.setIfInBounds_toArray, List.set_cons_zero, List.set_cons_succ]
    refine wpAnyH_ready (rs := [17]) (by kernel_rfl) (by simp) ?_
    refine AllReadyH.cons (by simp only [List.getElem?_toArray, List.getElem?_cons_succ, List.getElem?_cons_zero]; rfl) (fun K hK => ?_) AllReadyH.nil
    rw [if_pos (by rfl)]
    refine wp_store_row 27 (.tmp 4) (.tmp 28) rfl g4 (csD q (.slice da g.d.length dc)) rfl (by have e0 := HQ0.out; have e1 := HQ1.out; have e2 := HQ2.out; unfold csD; rw [e0, e1, e2]; rfl) 27 (csD zeroDg (.slice none 0 0)) (by exact HC.out) info27 rfl (csD_one q _ rfl) ?_
    refine hK.out _ _ (by exact BoxD.away hHeld ((Away.refl [g4] _).setRow (.inl (by simp)) _) (by simp; omega)) (fun hHeld2 => ?_)
    clear hK K
    refine wpAnyH_done (by kernel_rfl) ?_ _
    have hF : BoxD (w2.drew.setRow g4 (csD q (.slice da g.d.length dc))) g4 q (.slice da g.d.length dc) := boxD_setRow (w := w2.drew) HC.out _ _
    have HF := Lib.hid hF
    have HA9 := Lib.hid (HA.out.drew.setRow (g := g4) (.inr (by omega)) (csD q (.slice da g.d.length dc)))
    clear hF hHeld2 hHeld
    generalize w2.drew.setRow g4 (csD q (.slice da g.d.length dc)) = w9 at *
    go_wp2_with fail
    refine bodyPost_ret (result27 rfl _ _ g4 q (.slice da g.d.length dc) rfl HF.out) rfl ⟨_, rfl, HSL.out, HA9.out⟩
theorem dgram_false_gt (g : Dg) (dv : Value) (w : World) (hg : Dat w g dv) (hle : 65507 ≤ g.d.length) : Calls Try.prog 18 #[.agg (csD g dv), .bool false] w fun E w' => DgOut w (fitD g false) E w' := by
  have HSP := Lib.hid hg.wf.sp; have HDP := Lib.hid hg.wf.dp
  have hlen := hg.wf.dn
  obtain ⟨da, dc, hdv, hd1, hd2, hd3⟩ := hg.d
  subst hdv
  have HR := Lib.hid hd3
  obtain ⟨q, hq⟩ : ∃ q, q = fitD g false := ⟨_, rfl⟩
  rw [← hq]
  have HQD : Hid (q.d = g.d.take 65507) := by
    show _ = _
    rw [hq]
    rfl
  have HSL : Hid (Sl w (.slice da 65507 dc) q.d) := by
    show Sl _ _ _
    rw [HQD.out]
    exact ⟨da, dc, by rw [List.length_take, Nat.min_eq_left (by omega)], by rw [List.length_take]; omega, hd2, HR.out.head _⟩
  have HQ0 : Hid (q.sp = g.sp % 65536) := by rw [hq]; rfl
  have HQ1 : Hid (q.dp = g.dp % 65536) := by rw [hq]; rfl
  have HQ2 : Hid (q.ns = (g.ns && !false)) := by rw [hq]; rfl
  have s1 := slice_h da g.d.length dc 65507 (65507 : Int) rfl (by omega)
  clear hq hg hd3
  go_enter Try.func18, Try.ntmps18
  go_wp2_with (refine wpList_boxD rfl _ rfl g _ rfl ?_; refine Hid.out ?_)
  refine Lib.hid ?_
  intro g2 w1 hg2 hb haw
  have HA := Lib.hid haw; have HB := Lib.hid hb
  have hl2 := hb.lt
  clear hb haw
  go_wp2_with (refine wpList_allocD rfl rfl ?_; refine Hid.out ?_)
  refine Lib.hid ?_
  intro g4 w2 hg4 hb haw
  replace HA := Lib.hid (HA.out.on haw); replace HB := Lib.hid (HB.out.on haw); have HC := Lib.hid hb
  have hs1 := HA.out.size
  clear hb haw
  have hne : g2 ≠ g4 := by omega
  have hne' : g4 ≠ g2 := by omega
  have c0 := HB.out.c0; have c1 := HB.out.c1; have c2 := HB.out.c2; have c3 := HB.out.c3
  have e0 := HC.out.c0; have e1 := HC.out.c1; have e2 := HC.out.c2; have e3 := HC.out.c3
  have f0 := HC.out.free 0; have f1 := HC.out.free 1; have f2 := HC.out.free 2; have f3 := HC.out.free 3
  generalize hns : g.ns = ns at *
  have HNS := Lib.hid hns
  clear hns
  cases ns
  · go_upto_region 5 with fail
    refine wp_region_held_drew (S := (fun w' => BoxD w' g2 g (.slice da g.d.length dc))) (by kernel_rfl) HB.out (fun hHeld => ?_)
    refine wpAnyH_take (i := 0) (v := ?_) (by simp only [List.getElem?_toArray, List.getElem?_cons_zero]; rfl) (by kernel_rfl) (by kernel_rfl) (by kernel_rfl) (by exact fun _ _ _ h => h) (Or.inl ⟨by rfl, ?_⟩) (by assumption) ?_
    rotate_left
    · intro wq hSw
      (try dsimp only at hSw)
      go_simp
      all_goals (with_reducible rfl)
    try simp only [Act.put, List.setIfInBounds_toArray, List.set_cons_zero, List.set_cons_succ]
    refine wpAnyH_take (i := 1) (by simp only [List.getElem?_toArray, List.getElem?_cons_succ, List.getElem?_cons_zero]; rfl) (by kernel_rfl) (by kernel_rfl) (by kernel_rfl) (by exact fun _ _ _ h => h) (yields_ld (ad := ⟨g2, 0, none⟩) (by rfl) _ rfl rfl (fun w' h => ld3 h.c0)) (by assumption) ?_
    try simp only [Act.put, List.setIfInBounds_toArray, List.set_cons_zero, List.set_cons_succ]
    refine wpAnyH_take (i := 3) (v := ?_) (by simp only [List.getElem?_toArray, List.getElem?_cons_succ, List.getElem?_cons_zero]; rfl) (by kernel_rfl) (by kernel_rfl) (by kernel_rfl) (by exact fun _ _ _ h => h) (Or.inl ⟨by rfl, ?_⟩) (by assumption) ?_
    rotate_left
    · intro wq hSw
      (try dsimp only at hSw)
      go_simp
      all_goals (with_reducible rfl)
    try simp only [Act.put, List.setIfInBounds_toArray, List.set_cons_zero, List.set_cons_succ]
    refine wpAnyH_take (i := 4) (by simp only [List.getElem?_toArray, List.getElem?_cons_succ, List.getElem?_cons_zero]; rfl) (by kernel_rfl) (by kernel_rfl) (by kernel_rfl) (by exact fun _ _ _ h => h) (yields_ld (ad := ⟨g2, 1, none⟩) (by rfl) _ rfl rfl (fun w' h => ld3 h.c1)) (by assumption) ?_
    try simp only [Act.put, List.setIfInBounds_toArray, List.set_cons_zero, List.set_cons_succ]
    refine wpAnyH_take (i := 6) (v := ?_) (by simp only [List.getElem?_toArray, List.getElem?_cons_succ, List.getElem?_cons_zero]; rfl) (by kernel_rfl) (by kernel_rfl) (by kernel_rfl) (by exact fun _ _ _ h => h) (Or.inl ⟨by rfl, ?_⟩) (by assumption) ?_
    rotate_left
    · intro wq hSw
      (try dsimp only at hSw)
      go_simp
      all_goals (with_reducible rfl)
    try simp only [Act.put, List.setIfInBounds_toArray, List.set_cons_zero, List.set_cons_succ]
    refine wpAnyH_take (i := 7) (by simp only [List.getElem?_toArray, List.getElem?_cons_succ, List.getElem?_cons_zero]; rfl) (by kernel_rfl) (by kernel_rfl) (by kernel_rfl) (by exact fun _ _ _ h => h) (yields_ld (ad := ⟨g2, 2, none⟩) (by rfl) _ rfl rfl (fun w' h => ld4 (by have := h.c2; rwa [HNS.out] at this))) (by assumption) ?_
    try simp only [Act.put, List.setIfInBounds_toArray, List.set_cons_zero, List.set_cons_succ]
    refine wpAnyH_take (i := 12) (v := ?_) (by simp only [List.getElem?_toArray, List.getElem?_cons_succ, List.getElem?_cons_zero]; rfl) (by kernel_rfl) (by kernel_rfl) (by kernel_rfl) (by exact fun _ _ _ h => h) (Or.inl ⟨by rfl, ?_⟩) (by assumption) ?_
    rotate_left
    · intro wq hSw
      (try dsimp only at hSw)
      go_simp
      all_goals (with_reducible rfl)
    try simp only [Act.put, List.setIfInBounds_toArray, List.set_cons_zero, List.set_cons_succ]
    refine wpAnyH_take (i := 13) (by simp only [List.getElem?_toArray, List.getElem?_cons_succ, List.getElem?_cons_zero]; rfl) (by kernel_rfl) (by kernel_rfl) (by kernel_rfl) (by exact fun _ _ _ h => h) (yields_ld (ad := ⟨g2, 3, none⟩) (by rfl) _ rfl rfl (fun w' h => ldB h.c3)) (by assumption) ?_
    try simp only [Act.put, List.setIfInBounds_toArray, List.set_cons_zero, List.set_cons_succ]
    refine wpAnyH_take (i := 14) (v := ?_) (by simp only [List.getElem?_toArray, List.getElem?_cons_succ, List.getElem?_cons_zero]; rfl) (by kernel_rfl) (by kernel_rfl) (by kernel_rfl) (by exact fun _ _ _ h => h) (Or.inl ⟨by rfl, ?_⟩) (by assumption) ?_
    rotate_left
    · intro wq hSw
      (try dsimp only at hSw)
      go_simp
      all_goals (with_reducible rfl)
    try simp only [Act.put, List.setIfInBounds_toArray, List.set_cons_zero, List.set_cons_succ]
    refine wpAnyH_take (i := 15) (by simp only [List.getElem?_toArray, List.getElem?_cons_succ, List.getElem?_cons_zero]; rfl) (by kernel_rfl) (by kernel_rfl) (by kernel_rfl) (by exact fun _ _ _ h => h) (yields_sl (by rfl) _ _ rfl rfl rfl s1) (by assumption) ?_
    try simp only [Act.put, List.setIfInBounds_toArray, List.set_cons_zero, List.set_cons_succ]
    refine wpAnyH_ready (rs := [2]) (by kernel_rfl) (by simp) ?_
    refine AllReadyH.cons (by simp only [List.getElem?_toArray, List.getElem?_cons_succ, List.getElem?_cons_zero]; rfl) (fun K hK => ?_) AllReadyH.nil
    go_simp
    refine (rest16 _ _ HSP.out).mono ?_
    rintro E wr ⟨rfl, hwr⟩
    subst hwr
    go_wp2_with fail
    refine hK.out _ _ hHeld (fun hHeld => ?_)
    clear hK K
    try simp only [Act.put, List.setIfInBounds_toArray, List.set_cons_zero, List.set_cons_succ]
    refine wpAnyH_ready (rs := [5]) (by kernel_rfl) (by simp) ?_
    refine AllReadyH.cons (by simp only [List.getElem?_toArray, List.getElem?_cons_succ, List.getElem?_cons_zero]; rfl) (fun K hK => ?_) AllReadyH.nil
    go_simp
    refine (rest16 _ _ HDP.out).mono ?_
    rintro E wr ⟨rfl, hwr⟩
    subst hwr
    go_wp2_with fail
    refine hK.out _ _ hHeld (fun hHeld => ?_)
    clear hK K
    try simp only [Act.put, List.setIfInBounds_toArray, List.set_cons_zero, List.set_cons_succ]
    refine wpAnyH_take (i := 8) (v := ?_) (by simp only [List.getElem?_toArray, List.getElem?_cons_succ, List.getElem?_cons_zero]; rfl) (by kernel_rfl) (by kernel_rfl) (by kernel_rfl) (by exact fun _ _ _ h => h) (Or.inl ⟨by rfl, ?_⟩) (by assumption) ?_
    rotate_left
    · intro wq hSw
      (try dsimp only at hSw)
      go_simp
      all_goals (with_reducible rfl)
    try simp only [Act.put, List.setIfInBounds_toArray, List.set_cons_zero, List.set_cons_succ]
    refine wpAnyH_take (i := 9) (v := undef) (by simp only [List.getElem?_toArray, List.getElem?_cons_succ, List.getElem?_cons_zero]; rfl) (by kernel_rfl) (by kernel_rfl) (by kernel_rfl) (by exact fun _ _ _ h => h) (Or.inr ⟨by rfl, rfl⟩) (by assumption) ?_
    try simp only [Act.put, List.setIfInBounds_toArray, List.set_cons_zero, List.set_cons_succ]
    refine wpAnyH_take (i := 10) (v := undef) (by simp only [List.getElem?_toArray, List.getElem?_cons_succ, List.getElem?_cons_zero]; rfl) (by kernel_rfl) (by kernel_rfl) (by kernel_rfl) (by exact fun _ _ _ h => h) (Or.inr ⟨by rfl, rfl⟩) (by assumption) ?_
    try simp only [Act.put, List.setIfInBounds_toArray, List.set_cons_zero, List.set_cons_succ]
    refine wpAnyH_take (i := 11) (v := ?_) (by simp only [List.getElem?_toArray, List.getElem?_cons_succ, List.getElem?_cons_zero]; rfl) (by kernel_rfl) (by kernel_rfl) (by kernel_rfl) (by exact fun _ _ _ h => h) (Or.inl ⟨by rfl, ?_⟩) (by assumption) ?_
    rotate_left
    · intro wq hSw
      (try dsimp only at hSw)
      go_simp
      all_goals (with_reducible rfl)
    try simp only [Act.put, List.setIfInBounds_toArray, List.set_cons_zero, List.set_cons_succ]
    refine wpAnyH_take (i := 16) (v := ?_) (by simp only [List.getElem?_toArray, List.getElem?_cons_succ, List.getElem?_cons_zero]; rfl) (by kernel_rfl) (by kernel_rfl) (by kernel_rfl) (by exact fun _ _ _ h => h) (Or.inl ⟨by rfl, ?_⟩) (by assumption) ?_
    rotate_left
    · intro wq hSw
      (try dsimp only at hSw)
      go_simp
      all_goals (with_reducible rfl)
    try simp only [Act.put, List.setIfInBounds_toArray, List.set_cons_zero, List.set_cons_succ]
    refine wpAnyH_ready (rs := [17]) (by kernel_rfl) (by simp) ?_
    refine AllReadyH.cons (by simp only [List.getElem?_toArray, List.getElem?_cons_succ, List.getElem?_cons_zero]; rfl) (fun K hK => ?_) AllReadyH.nil
    rw [if_pos (by rfl)]
    refine wp_store_row 27 (.tmp 4) (.tmp 28) rfl g4 (csD q (.slice da 65507 dc)) rfl (by have e0 := HQ0.out; have e1 := HQ1.out; have e2 := HQ2.out; unfold csD; rw [e0, e1, e2]; rfl) 27 (csD zeroDg (.slice none 0 0)) (by exact HC.out) info27 rfl (csD_one q _ rfl) ?_
    refine hK.out _ _ (by exact BoxD.away hHeld ((Away.refl [g4] _).setRow (.inl (by simp)) _) (by simp; omega)) (fun hHeld2 => ?_)
    clear hK K
    refine wpAnyH_done (by kernel_rfl) ?_ _
    have hF : BoxD (w2.drew.setRow g4 (csD q (.slice da 65507 dc))) g4 q (.slice da 65507 dc) := boxD_setRow (w := w2.drew) HC.out _ _
    have HF := Lib.hid hF
    have HA9 := Lib.hid (HA.out.drew.setRow (g := g4) (.inr (by omega)) (csD q (.slice da 65507 dc)))
    clear hF hHeld2 hHeld
    generalize w2.drew.setRow g4 (csD q (.slice da 65507 dc)) = w9 at *
    go_wp2_with fail
    refine bodyPost_ret (result27 rfl _ _ g4 q (.slice da 65507 dc) rfl HF.out) rfl ⟨_, rfl, HSL.out, HA9.out⟩
  · go_upto_region 5 with fail
    refine wp_region_held_drew (S := (fun w' => BoxD w' g2 g (.slice da g.d.length dc))) (by kernel_rfl) HB.out (fun hHeld => ?_)
    refine wpAnyH_take (i := 0) (v := ?_) (by simp only [List.getElem?_toArray, List.getElem?_cons_zero]; rfl) (by kernel_rfl) (by kernel_rfl) (by kernel_rfl) (by exact fun _ _ _ h => h) (Or.inl ⟨by rfl, ?_⟩) (by assumption) ?_
    rotate_left
    · intro wq hSw
      (try dsimp only at hSw)
      go_simp
      all_goals (with_reducible rfl)
    try simp only [Act.put, List.setIfInBounds_toArray, List.set_cons_zero, List.set_cons_succ]
    refine wpAnyH_take (i := 1) (by simp only [List.getElem?_toArray, List.getElem?_cons_succ, List.getElem?_cons_zero]; rfl) (by kernel_rfl) (by kernel_rfl) (by kernel_rfl) (by exact fun _ _ _ h => h) (yields_ld (ad := ⟨g2, 0, none⟩) (by rfl) _ rfl rfl (fun w' h => ld3 h.c0)) (by assumption) ?_
    try simp only [Act.put, List.setIfInBounds_toArray, List.set_cons_zero, List.set_cons_succ]
    refine wpAnyH_take (i := 3) (v := ?_) (by simp only [List.getElem?_toArray, List.getElem?_cons_succ, List.getElem?_cons_zero]; rfl) (by kernel_rfl) (by kernel_rfl) (by kernel_rfl) (by exact fun _ _ _ h => h) (Or.inl ⟨by rfl, ?_⟩) (by assumption) ?_
    rotate_left
    · intro wq hSw
      (try dsimp only at hSw)
      go_simp
      all_goals (with_reducible rfl)
    try simp only [Act.put, List.setIfInBounds_toArray, List.set_cons_zero, List.set_cons_succ]
    refine wpAnyH_take (i := 4) (by simp only [List.getElem?_toArray, List.getElem?_cons_succ, List.getElem?_cons_zero]; rfl) (by kernel_rfl) (by kernel_rfl) (by kernel_rfl) (by exact fun _ _ _ h => h) (yields_ld (ad := ⟨g2, 1, none⟩) (by rfl) _ rfl rfl (fun w' h => ld3 h.c1)) (by assumption) ?_
    try simp only [Act.put, List.setIfInBounds_toArray, List.set_cons_zero, List.set_cons_succ]
    refine wpAnyH_take (i := 6) (v := ?_) (by simp only [List.getElem?_toArray, List.getElem?_cons_succ, List.getElem?_cons_zero]; rfl) (by kernel_rfl) (by kernel_rfl) (by kernel_rfl) (by exact fun _ _ _ h => h) (Or.inl ⟨by rfl, ?_⟩) (by assumption) ?_
    rotate_left
    · intro wq hSw
      (try dsimp only at hSw)
      go_simp
      all_goals (with_reducible rfl)
    try simp only [Act.put, List.setIfInBounds_toArray, List.set_cons_zero, List.set_cons_succ]
    refine wpAnyH_take (i := 7) (by simp only [List.getElem?_toArray, List.getElem?_cons_succ, List.getElem?_cons_zero]; rfl) (by kernel_rfl) (by kernel_rfl) (by kernel_rfl) (by exact fun _ _ _ h => h) (yields_ld (ad := ⟨g2, 2, none⟩) (by rfl) _ rfl rfl (fun w' h => ld4 (by have := h.c2; rwa [HNS.out] at this))) (by assumption) ?_
    try simp only [Act.put, List.setIfInBounds_toArray, List.set_cons_zero, List.set_cons_succ]
    refine wpAnyH_take (i := 12) (v := ?_) (by simp only [List.getElem?_toArray, List.getElem?_cons_succ, List.getElem?_cons_zero]; rfl) (by kernel_rfl) (by kernel_rfl) (by kernel_rfl) (by exact fun _ _ _ h => h) (Or.inl ⟨by rfl, ?_⟩) (by assumption) ?_
    rotate_left
    · intro wq hSw
      (try dsimp only at hSw)
      go_simp
      all_goals (with_reducible rfl)
    try simp only [Act.put, List.setIfInBounds_toArray, List.set_cons_zero, List.set_cons_succ]
    refine wpAnyH_take (i := 13) (by simp only [List.getElem?_toArray, List.getElem?_cons_succ, List.getElem?_cons_zero]; rfl) (by kernel_rfl) (by kernel_rfl) (by kernel_rfl) (by exact fun _ _ _ h => h) (yields_ld (ad := ⟨g2, 3, none⟩) (by rfl) _ rfl rfl (fun w' h => ldB h.c3)) (by assumption) ?_
    try simp only [Act.put, List.setIfInBounds_toArray, List.set_cons_zero, List.set_cons_succ]
    refine wpAnyH_take (i := 14) (v := ?_) (by simp only [List.getElem?_toArray, List.getElem?_cons_succ, List.getElem?_cons_zero]; rfl) (by kernel_rfl) (by kernel_rfl) (by kernel_rfl) (by exact fun _ _ _ h => h) (Or.inl ⟨by rfl, ?_⟩) (by assumption) ?_
    rotate_left
    · intro wq hSw
      (try dsimp only at hSw)
      go_simp
      all_goals (with_reducible rfl)
    try simp only [Act.put, List.setIfInBounds_toArray, List.set_cons_zero, List.set_cons_succ]
    refine wpAnyH_take (i := 15) (by simp only [List.getElem?_toArray, List.getElem?_cons_succ, List.getElem?_cons_zero]; rfl) (by kernel_rfl) (by kernel_rfl) (by kernel_rfl) (by exact fun _ _ _ h => h) (yields_sl (by rfl) _ _ rfl rfl rfl s1) (by assumption) ?_
    try simp only [Act.put, List.setIfInBounds_toArray, List.set_cons_zero, List.set_cons_succ]
    refine wpAnyH_ready (rs := [2]) (by kernel_rfl) (by simp) ?_
    refine AllReadyH.cons (by simp only [List.getElem?_toArray, List.getElem?_cons_succ, List.getElem?_cons_zero]; rfl) (fun K hK => ?_) AllReadyH.nil
    go_simp
    refine (rest16 _ _ HSP.out).mono ?_
    rintro E wr ⟨rfl, hwr⟩
    subst hwr
    go_wp2_with fail
    refine hK.out _ _ hHeld (fun hHeld => ?_)
    clear hK K
    try simp only [Act.put, List.setIfInBounds_toArray, List.set_cons_zero, List.set_cons_succ]
    refine wpAnyH_ready (rs := [5]) (by kernel_rfl) (by simp) ?_
    refine AllReadyH.cons (by simp only [List.getElem?_toArray, List.getElem?_cons_succ, List.getElem?_cons_zero]; rfl) (fun K hK => ?_) AllReadyH.nil
    go_simp
    refine (rest16 _ _ HDP.out).mono ?_
    rintro E wr ⟨rfl, hwr⟩
    subst hwr
    go_wp2_with fail
    refine hK.out _ _ hHeld (fun hHeld => ?_)
    clear hK K
    try simp only [Act.put, List.setIfInBounds_toArray, List.set_cons_zero, List.set_cons_succ]
    refine wpAnyH_take (i := 8) (v := ?_) (by simp only [List.getElem?_toArray, List.getElem?_cons_succ, List.getElem?_cons_zero]; rfl) (by kernel_rfl) (by kernel_rfl) (by kernel_rfl) (by exact fun _ _ _ h => h) (Or.inl ⟨by rfl, ?_⟩) (by assumption) ?_
    rotate_left
    · intro wq hSw
      (try dsimp only at hSw)
      go_simp
      all_goals (with_reducible rfl)
    try simp only [Act.put, List.setIfInBounds_toArray, List.set_cons_zero, List.set_cons_succ]
    refine wpAnyH_take (i := 9) (v := ?_) (by simp only [List.getElem?_toArray, List.getElem?_cons_succ, List.getElem?_cons_zero]; rfl) (by kernel_rfl) (by kernel_rfl) (by kernel_rfl) (by exact fun _ _ _ h => h) (Or.inl ⟨by rfl, ?_⟩) (by assumption) ?_
    rotate_left
    · intro wq hSw
      (try dsimp only at hSw)
      go_simp
      all_goals (with_reducible rfl)
    try simp only [Act.put, List.setIfInBounds_toArray, List.set_cons_zero, List.set_cons_succ]
    refine wpAnyH_take (i := 10) (v := ?_) (by simp only [List.getElem?_toArray, List.getElem?_cons_succ, List.getElem?_cons_zero]; rfl) (by kernel_rfl) (by kernel_rfl) (by kernel_rfl) (by exact fun _ _ _ h => h) (Or.inl ⟨by rfl, ?_⟩) (by assumption) ?_
    rotate_left
    · intro wq hSw
      (try dsimp only at hSw)
      go_simp
      all_goals (with_reducible rfl)
    try simp only [Act.put, List.setIfInBounds_toArray, List.set_cons_zero, List.set_cons_succ]
    refine wpAnyH_take (i := 11) (v := ?_) (by simp only [List.getElem?_toArray, List.getElem?_cons_succ, List.getElem?_cons_zero]; rfl) (by kernel_rfl) (by kernel_rfl) (by kernel_rfl) (by exact fun _ _ _ h => h) (Or.inl ⟨by rfl, ?_⟩) (by assumption) ?_
    rotate_left
    · intro wq hSw
      (try dsimp only at hSw)
      go_simp
      all_goals (with_reducible rfl)
    try simp only [Act.put, List.setIfInBounds_toArray, List.set_cons_zero, List.set_cons_succ]
    refine wpAnyH_take (i := 16) (v := ?_) (by simp only [List.getElem?_toArray, List.getElem?_cons_succ, List.getElem?_cons_zero]; rfl) (by kernel_rfl) (by kernel_rfl) (by kernel_rfl) (by exact fun _ _ _ h => h) (Or.inl ⟨by rfl, ?_⟩) (by assumption) ?_
    rotate_left
    · intro wq hSw
      (try dsimp only at hSw)
      go_simp
      all_goals (with_reducible rfl)
    try simp only [Act.put, List.setIfInBounds_toArray, List.set_cons_zero, List.set_cons_succ]
    refine wpAnyH_ready (rs := [17]) (by kernel_rfl) (by simp) ?_
    refine AllReadyH.cons (by simp only [List.getElem?_toArray, List.getElem?_cons_succ, List.getElem?_cons_zero]; rfl) (fun K hK => ?_) AllReadyH.nil
    rw [if_pos (by rfl)]
    refine wp_store_row 27 (.tmp 4) (.tmp 28) rfl g4 (csD q (.slice da 65507 dc)) rfl (by have e0 := HQ0.out; have e1 := HQ1.out; have e2 := HQ2.out; unfold csD; rw [e0, e1, e2]; rfl) 27 (csD zeroDg (.slice none 0 0)) (by exact HC.out) info27 rfl (csD_one q _ rfl) ?_
    refine hK.out _ _ (by exact BoxD.away hHeld ((Away.refl [g4] _).setRow (.inl (by simp)) _) (by simp; omega)) (fun hHeld2 => ?_)
    clear hK K
    refine wpAnyH_done (by kernel_rfl) ?_ _
    have hF : BoxD (w2.drew.setRow g4 (csD q (.slice da 65507 dc))) g4 q (.slice da 65507 dc) := boxD_setRow (w := w2.drew) HC.out _ _
    have HF := Lib.hid hF
    have HA9 := Lib.hid (HA.out.drew.setRow (g := g4) (.inr (by omega)) (csD q (.slice da 65507 dc)))
    clear hF hHeld2 hHeld
    generalize w2.drew.setRow g4 (csD q (.slice da 65507 dc)) = w9 at *
    go_wp2_with fail
    refine bodyPost_ret (result27 rfl _ _ g4 q (.slice da 65507 dc) rfl HF.out) rfl ⟨_, rfl, HSL.out, HA9.out⟩
theorem dgram_true_le (g : Dg) (dv : Value) (w : World) (hg : Dat w g dv) (hle : g.d.length < 65527) : Calls Try.prog 18 #[.agg (csD g dv), .bool true] w fun E w' => DgOut w (fitD g true) E w' := by
  have HSP := Lib.hid hg.wf.sp; have HDP := Lib.hid hg.wf.dp
  have hlen := hg.wf.dn
  obtain ⟨da, dc, hdv, hd1, hd2, hd3⟩ := hg.d
  subst hdv
  have HR := Lib.hid hd3
  obtain ⟨q, hq⟩ : ∃ q, q = fitD g true := ⟨_, rfl⟩
  rw [← hq]
  have HQD : Hid (q.d = g.d.take g.d.length) := by
    show _ = _
    rw [hq]
    show g.d.take 65527 = _
    rw [List.take_of_length_le (by omega), List.take_of_length_le (Nat.le_refl _)]
  have HSL : Hid (Sl w (.slice da g.d.length dc) q.d) := by
    show Sl _ _ _
    rw [HQD.out]
    exact ⟨da, dc, by rw [List.length_take, Nat.min_eq_left (by omega)], by rw [List.length_take]; omega, hd2, HR.out.head _⟩
  have HQ0 : Hid (q.sp = g.sp % 65536) := by rw [hq]; rfl
  have HQ1 : Hid (q.dp = g.dp % 65536) := by rw [hq]; rfl
  have HQ2 : Hid (q.ns = (g.ns && !true)) := by rw [hq]; rfl
  have s1 := slice_h da g.d.length dc g.d.length (g.d.length : Int) rfl (by omega)
  clear hq hg hd3
  go_enter Try.func18, Try.ntmps18
  go_wp2_with (refine wpList_boxD rfl _ rfl g _ rfl ?_; refine Hid.out ?_)
  refine Lib.hid ?_
  intro g2 w1 hg2 hb haw
  have HA := Lib.hid haw; have HB := Lib.hid hb
  have hl2 := hb.lt
  clear hb haw
  go_wp2_with (refine wpList_allocD rfl rfl ?_; refine Hid.out ?_)
  refine Lib.hid ?_
  intro g4 w2 hg4 hb haw
  replace HA := Lib.hid (HA.out.on haw); replace HB := Lib.hid (HB.out.on haw); have HC := Lib.hid hb
  have hs1 := HA.out.size
  clear hb haw
  have hne : g2 ≠ g4 := by omega
  have hne' : g4 ≠ g2 := by omega
  have c0 := HB.out.c0; have c1 := HB.out.c1; have c2 := HB.out.c2; have c3 := HB.out.c3
  have e0 := HC.out.c0; have e1 := HC.out.c1; have e2 := HC.out.c2; have e3 := HC.out.c3
  have f0 := HC.out.free 0; have f1 := HC.out.free 1; have f2 := HC.out.free 2; have f3 := HC.out.free 3
  generalize hns : g.ns = ns at *
  have HNS := Lib.hid hns
  clear hns
  cases ns
  · go_upto_region 5 with fail
    refine wp_region_held_drew (S := (fun w' => BoxD w' g2 g (.slice da g.d.length dc))) (by kernel_rfl) HB.out (fun hHeld => ?_)
    refine wpAnyH_take (i := 0) (v := ?_) (by simp only [List.getElem?_toArray, List.getElem?_cons_zero]; rfl) (by kernel_rfl) (by kernel_rfl) (by kernel_rfl) (by exact fun _ _ _ h => h) (Or.inl ⟨by rfl, ?_⟩) (by assumption) ?_
    rotate_left
    · intro wq hSw
      (try dsimp only at hSw)
      go_simp
      all_goals (with_reducible rfl)
    try simp only [Act.put, List.setIfInBounds_toArray, List.set_cons_zero, List.set_cons_succ]
    refine wpAnyH_take (i := 1) (by simp only [List.getElem?_toArray, List.getElem?_cons_succ, List.getElem?_cons_zero]; rfl) (by kernel_rfl) (by kernel_rfl) (by kernel_rfl) (by exact fun _ _ _ h => h) (yields_ld (ad := ⟨g2, 0, none⟩) (by rfl) _ rfl rfl (fun w' h => ld3 h.c0)) (by assumption) ?_
    try simp only [Act.put, List.setIfInBounds_toArray, List.set_cons_zero, List.set_cons_succ]
    refine wpAnyH_take (i := 3) (v := ?_) (by simp only [List.getElem?_toArray, List.getElem?_cons_succ, List.getElem?_cons_zero]; rfl) (by kernel_rfl) (by kernel_rfl) (by kernel_rfl) (by exact fun _ _ _ h => h) (Or.inl ⟨by rfl, ?_⟩) (by assumption) ?_
    rotate_left
    · intro wq hSw
      (try dsimp only at hSw)
      go_simp
      all_goals (with_reducible rfl)
    try simp only [Act.put, List.setIfInBounds_toArray, List.set_cons_zero, List.set_cons_succ]
    refine wpAnyH_take (i := 4) (by simp only [List.getElem?_toArray, List.getElem?_cons_succ, List.getElem?_cons_zero]; rfl) (by kernel_rfl) (by kernel_rfl) (by kernel_rfl) (by exact fun _ _ _ h => h) (yields_ld (ad := ⟨g2, 1, none⟩) (by rfl) _ rfl rfl (fun w' h => ld3 h.c1)) (by assumption) ?_
    try simp only [Act.put, List.setIfInBounds_toArray, List.set_cons_zero, List.set_cons_succ]
    refine wpAnyH_take (i := 6) (v := ?_) (by simp only [List.getElem?_toArray, List.getElem?_cons_succ, List.getElem?_cons_zero]; rfl) (by kernel_rfl) (by kernel_rfl) (by kernel_rfl) (by exact fun _ _ _ h => h) (Or.inl ⟨by rfl, ?_⟩) (by assumption) ?_
    rotate_left
    · intro wq hSw
      (try dsimp only at hSw)
      go_simp
      all_goals (with_reducible rfl)
    try simp only [Act.put, List.setIfInBounds_toArray, List.set_cons_zero, List.set_cons_succ]
    refine wpAnyH_take (i := 7) (by simp only [List.getElem?_toArray, List.getElem?_cons_succ, List.getElem?_cons_zero]; rfl) (by kernel_rfl) (by kernel_rfl) (by kernel_rfl) (by exact fun _ _ _ h => h) (yields_ld (ad := ⟨g2, 2, none⟩) (by rfl) _ rfl rfl (fun w' h => ld4 (by have := h.c2; rwa [HNS.out] at this))) (by assumption) ?_
    try simp only [Act.put, List.setIfInBounds_toArray, List.set_cons_zero, List.set_cons_succ]
    refine wpAnyH_take (i := 12) (v := ?_) (by simp only [List.getElem?_toArray, List.getElem?_cons_succ, List.getElem?_cons_zero]; rfl) (by kernel_rfl) (by kernel_rfl) (by kernel_rfl) (by exact fun _ _ _ h => h) (Or.inl ⟨by rfl, ?_⟩) (by assumption) ?_
    rotate_left
    · intro wq hSw
      (try dsimp only at hSw)
      go_simp
      all_goals (with_reducible rfl)
    try simp only [Act.put, List.setIfInBounds_toArray, List.set_cons_zero, List.set_cons_succ]
    refine wpAnyH_take (i := 13) (by simp only [List.getElem?_toArray, List.getElem?_cons_succ, List.getElem?_cons_zero]; rfl) (by kernel_rfl) (by kernel_rfl) (by kernel_rfl) (by exact fun _ _ _ h => h) (yields_ld (ad := ⟨g2, 3, none⟩) (by rfl) _ rfl rfl (fun w' h => ldB h.c3)) (by assumption) ?_
    try simp only [Act.put, List.setIfInBounds_toArray, List.set_cons_zero, List.set_cons_succ]
    refine wpAnyH_take (i := 14) (v := ?_) (by simp only [List.getElem?_toArray, List.getElem?_cons_succ, List.getElem?_cons_zero]; rfl) (by kernel_rfl) (by kernel_rfl) (by kernel_rfl) (by exact fun _ _ _ h => h) (Or.inl ⟨by rfl, ?_⟩) (by assumption) ?_
    rotate_left
    · intro wq hSw
      (try dsimp only at hSw)
      go_simp
      all_goals (with_reducible rfl)
    try simp only [Act.put, List.setIfInBounds_toArray, List.set_cons_zero, List.set_cons_succ]
    refine wpAnyH_take (i := 15) (by simp only [List.getElem?_toArray, List.getElem?_cons_succ, List.getElem?_cons_zero]; rfl) (by kernel_rfl) (by kernel_rfl) (by kernel_rfl) (by exact fun _ _ _ h => h) (yields_sl (by rfl) _ _ rfl rfl rfl s1) (by assumption) ?_
    try simp only [Act.put, List.setIfInBounds_toArray, List.set_cons_zero, List.set_cons_succ]
    refine wpAnyH_ready (rs := [2]) (by kernel_rfl) (by simp) ?_
    refine AllReadyH.cons (by simp only [List.getElem?_toArray, List.getElem?_cons_succ, List.getElem?_cons_zero]; rfl) (fun K hK => ?_) AllReadyH.nil
    go_simp
    refine (rest16 _ _ HSP.out).mono ?_
    rintro E wr ⟨rfl, hwr⟩
    subst hwr
    go_wp2_with fail
    refine hK.out _ _ hHeld (fun hHeld => ?_)
    clear hK K
    try simp only [Act.put, List.setIfInBounds_toArray, List.set_cons_zero, List.set_cons_succ]
    refine wpAnyH_ready (rs := [5]) (by kernel_rfl) (by simp) ?_
    refine AllReadyH.cons (by simp only [List.getElem?_toArray, List.getElem?_cons_succ, List.getElem?_cons_zero]; rfl) (fun K hK => ?_) AllReadyH.nil
    go_simp
    refine (rest16 _ _ HDP.out).mono ?_
    rintro E wr ⟨rfl, hwr⟩
    subst hwr
    go_wp2_with fail
    refine hK.out _ _ hHeld (fun hHeld => ?_)
    clear hK K
    try simp only [Act.put, List.setIfInBounds_toArray, List.set_cons_zero, List.set_cons_succ]
    refine wpAnyH_take (i := 8) (v := ?_) (by simp only [List.getElem?_toArray, List.getElem?_cons_succ, List.getElem?_cons_zero]; rfl) (by kernel_rfl) (by kernel_rfl) (by kernel_rfl) (by exact fun _ _ _ h => h) (Or.inl ⟨by rfl, ?_⟩) (by assumption) ?_
    rotate_left
    · intro wq hSw
      (try dsimp only at hSw)
      go_simp
      all_goals (with_reducible rfl)
    try simp only [Act.put, List.setIfInBounds_toArray, List.set_cons_zero, List.set_cons_succ]
    refine wpAnyH_take (i := 9) (v := undef) (by simp only [List.getElem?_toArray, List.getElem?_cons_succ, List.getElem?_cons_zero]; rfl) (by kernel_rfl) (by kernel_rfl) (by kernel_rfl) (by exact fun _ _ _ h => h) (Or.inr ⟨by rfl, rfl⟩) (by assumption) ?_
    try simp only [Act.put, List.setIfInBounds_toArray, List.set_cons_zero, List.set_cons_succ]
    refine wpAnyH_take (i := 10) (v := undef) (by simp only [List.getElem?_toArray, List.getElem?_cons_succ, List.getElem?_cons_zero]; rfl) (by kernel_rfl) (by kernel_rfl) (by kernel_rfl) (by exact fun _ _ _ h => h) (Or.inr ⟨by rfl, rfl⟩) (by assumption) ?_
    try simp only [Act.put, List.setIfInBounds_toArray, List.set_cons_zero, List.set_cons_succ]
    refine wpAnyH_take (i := 11) (v := ?_) (by simp only [List.getElem?_toArray, List.getElem?_cons_succ, List.getElem?_cons_zero]; rfl) (by kernel_rfl) (by kernel_rfl) (by kernel_rfl) (by exact fun _ _ _ h => h) (Or.inl ⟨by rfl, ?_⟩) (by assumption) ?_
    rotate_left
    · intro wq hSw
      (try dsimp only at hSw)
      go_simp
      all_goals (with_reducible rfl)
    try simp only [Act.put, List.setIfInBounds_toArray, List.set_cons_zero, List.set_cons_succ]
    refine wpAnyH_take (i := 16) (v := ?_) (by simp only [List.getElem?_toArray, List.getElem?_cons_succ, List.getElem?_cons_zero]; rfl) (by kernel_rfl) (by kernel_rfl) (by kernel_rfl) (by exact fun _ _ _ h => h) (Or.inl ⟨by rfl, ?_⟩) (by assumption) ?_
    rotate_left
    · intro wq hSw
      (try dsimp only at hSw)
      go_simp
      all_goals (with_reducible rfl)
    try simp only [Act.put, List.setIfInBounds_toArray, List.set_cons_zero, List.set_cons_succ]
    refine wpAnyH_ready (rs := [17]) (by kernel_rfl) (by simp) ?_
    refine AllReadyH.cons (by simp only [List.getElem?_toArray, List.getElem?_cons_succ, List.getElem?_cons_zero]; rfl) (fun K hK => ?_) AllReadyH.nil
    rw [if_pos (by rfl)]
    refine wp_store_row 27 (.tmp 4) (.tmp 28) rfl g4 (csD q (.slice da g.d.length dc)) rfl (by have e0 := HQ0.out; have e1 := HQ1.out; have e2 := HQ2.out; unfold csD; rw [e0, e1, e2]; rfl) 27 (csD zeroDg (.slice none 0 0)) (by exact HC.out) info27 rfl (csD_one q _ rfl) ?_
    refine hK.out _ _ (by exact BoxD.away hHeld ((Away.refl [g4] _).setRow (.inl (by simp)) _) (by simp; omega)) (fun hHeld2 => ?_)
    clear hK K
    refine wpAnyH_done (by kernel_rfl) ?_ _
    have hF : BoxD (w2.drew.setRow g4 (csD q (.slice da g.d.length dc))) g4 q (.slice da g.d.length dc) := boxD_setRow (w := w2.drew) HC.out _ _
    have HF := Lib.hid hF
    have HA9 := Lib.hid (HA.out.drew.setRow (g := g4) (.inr (by omega)) (csD q (.slice da g.d.length dc)))
    clear hF hHeld2 hHeld
    generalize w2.drew.setRow g4 (csD q (.slice da g.d.length dc)) = w9 at *
    go_wp2_with fail
    refine bodyPost_ret (result27 rfl _ _ g4 q (.slice da g.d.length dc) rfl HF.out) rfl ⟨_, rfl, HSL.out, HA9.out⟩
  · go_upto_region 5 with fail
    refine wp_region_held_drew (S := (fun w' => BoxD w' g2 g (.slice da g.d.length dc))) (by kernel_rfl) HB.out (fun hHeld => ?_)
    refine wpAnyH_take (i := 0) (v := ?_) (by simp only [List.getElem?_toArray, List.getElem?_cons_zero]; rfl) (by kernel_rfl) (by kernel_rfl) (by kernel_rfl) (by exact fun _ _ _ h => h) (Or.inl ⟨by rfl, ?_⟩) (by assumption) ?_
    rotate_left
    · intro wq hSw
      (try dsimp only at hSw)
      go_simp
      all_goals (with_reducible rfl)
    try simp only [Act.put, List.setIfInBounds_toArray, List.set_cons_zero, List.set_cons_succ]
    refine wpAnyH_take (i := 1) (by simp only [List.getElem?_toArray, List.getElem?_cons_succ, List.getElem?_cons_zero]; rfl) (by kernel_rfl) (by kernel_rfl) (by kernel_rfl) (by exact fun _ _ _ h => h) (yields_ld (ad := ⟨g2, 0, none⟩) (by rfl) _ rfl rfl (fun w' h => ld3 h.c0)) (by assumption) ?_
    try simp only [Act.put, List.setIfInBounds_toArray, List.set_cons_zero, List.set_cons_succ]
    refine wpAnyH_take (i := 3) (v := ?_) (by simp only [List.getElem?_toArray, List.getElem?_cons_succ, List.getElem?_cons_zero]; rfl) (by kernel_rfl) (by kernel_rfl) (by kernel_rfl) (by exact fun _ _ _ h => h) (Or.inl ⟨by rfl, ?_⟩) (by assumption) ?_
    rotate_left
    · intro wq hSw
      (try dsimp only at hSw)
      go_simp
      all_goals (with_reducible rfl)
    try simp only [Act.put, List.setIfInBounds_toArray, List.set_cons_zero, List.set_cons_succ]
    refine wpAnyH_take (i := 4) (by simp only [List.getElem?_toArray, List.getElem?_cons_succ, List.getElem?_cons_zero]; rfl) (by kernel_rfl) (by kernel_rfl) (by kernel_rfl) (by exact fun _ _ _ h => h) (yields_ld (ad := ⟨g2, 1, none⟩) (by rfl) _ rfl rfl (fun w' h => ld3 h.c1)) (by assumption) ?_
    try simp only [Act.put, List.setIfInBounds_toArray, List.set_cons_zero, List.set_cons_succ]
    refine wpAnyH_take (i := 6) (v := ?_) (by simp only [List.getElem?_toArray, List.getElem?_cons_succ, List.getElem?_cons_zero]; rfl) (by kernel_rfl) (by kernel_rfl) (by kernel_rfl) (by exact fun _ _ _ h => h) (Or.inl ⟨by rfl, ?_⟩) (by assumption) ?_
    rotate_left
    · intro wq hSw
      (try dsimp only at hSw)
      go_simp
      all_goals (with_reducible rfl)
    try simp only [Act.put, List.setIfInBounds_toArray, List.set_cons_zero, List.set_cons_succ]
    refine wpAnyH_take (i := 7) (by simp only [List.getElem?_toArray, List.getElem?_cons_succ, List.getElem?_cons_zero]; rfl) (by kernel_rfl) (by kernel_rfl) (by kernel_rfl) (by exact fun _ _ _ h => h) (yields_ld (ad := ⟨g2, 2, none⟩) (by rfl) _ rfl rfl (fun w' h => ld4 (by have := h.c2; rwa [HNS.out] at this))) (by assumption) ?_
    try simp only [Act.put, List.setIfInBounds_toArray, List.set_cons_zero, List.set_cons_succ]
    refine wpAnyH_take (i := 12) (v := ?_) (by simp only [List.getElem?_toArray, List.getElem?_cons_succ, List.getElem?_cons_zero]; rfl) (by kernel_rfl) (by kernel_rfl) (by kernel_rfl) (by exact fun _ _ _ h => h) (Or.inl ⟨by rfl, ?_⟩) (by assumption) ?_
    rotate_left
    · intro wq hSw
      (try dsimp only at hSw)
      go_simp
      all_goals (with_reducible rfl)
    try simp only [Act.put, List.setIfInBounds_toArray, List.set_cons_zero, List.set_cons_succ]
    refine wpAnyH_take (i := 13) (by simp only [List.getElem?_toArray, List.getElem?_cons_succ, List.getElem?_cons_zero]; rfl) (by kernel_rfl) (by kernel_rfl) (by kernel_rfl) (by exact fun _ _ _ h => h) (yields_ld (ad := ⟨g2, 3, none⟩) (by rfl) _ rfl rfl (fun w' h => ldB h.c3)) (by assumption) ?_
    try simp only [Act.put, List.setIfInBounds_toArray, List.set_cons_zero, List.set_cons_succ]
    refine wpAnyH_take (i := 14) (v := ?_) (by simp only [List.getElem?_toArray, List.getElem?_cons_succ, List.getElem?_cons_zero]; rfl) (by kernel_rfl) (by kernel_rfl) (by kernel_rfl) (by exact fun _ _ _ h => h) (Or.inl ⟨by rfl, ?_⟩) (by assumption) ?_
    rotate_left
    · intro wq hSw
      (try dsimp only at hSw)
      go_simp
      all_goals (with_reducible rfl)
    try simp only [Act.put, List.setIfInBounds_toArray, List.set_cons_zero, List.set_cons_succ]
    refine wpAnyH_take (i := 15) (by simp only [List.getElem?_toArray, List.getElem?_cons_succ, List.getElem?_cons_zero]; rfl) (by kernel_rfl) (by kernel_rfl) (by kernel_rfl) (by exact fun _ _ _ h => h) (yields_sl (by rfl) _ _ rfl rfl rfl s1) (by assumption) ?_
    try simp only [Act.put, List.setIfInBounds_toArray, List.set_cons_zero, List.set_cons_succ]
    refine wpAnyH_ready (rs := [2]) (by kernel_rfl) (by simp) ?_
    refine AllReadyH.cons (by simp only [List.getElem?_toArray, List.getElem?_cons_succ, List.getElem?_cons_zero]; rfl) (fun K hK => ?_) AllReadyH.nil
    go_simp
    refine (rest16 _ _ HSP.out).mono ?_
    rintro E wr ⟨rfl, hwr⟩
    subst hwr
    go_wp2_with fail
    refine hK.out _ _ hHeld (fun hHeld => ?_)
    clear hK K
    try simp only [Act.put, List.setIfInBounds_toArray, List.set_cons_zero, List.set_cons_succ]
    refine wpAnyH_ready (rs := [5]) (by kernel_rfl) (by simp) ?_
    refine AllReadyH.cons (by simp only [List.getElem?_toArray, List.getElem?_cons_succ, List.getElem?_cons_zero]; rfl) (fun K hK => ?_) AllReadyH.nil
    go_simp
    refine (rest16 _ _ HDP.out).mono ?_
    rintro E wr ⟨rfl, hwr⟩
    subst hwr
    go_wp2_with fail
    refine hK.out _ _ hHeld (fun hHeld => ?_)
    clear hK K
    try simp only [Act.put, List.setIfInBounds_toArray, List.set_cons_zero, List.set_cons_succ]
    refine wpAnyH_take (i := 8) (v := ?_) (by simp only [List.getElem?_toArray, List.getElem?_cons_succ, List.getElem?_cons_zero]; rfl) (by kernel_rfl) (by kernel_rfl) (by kernel_rfl) (by exact fun _ _ _ h => h) (Or.inl ⟨by rfl, ?_⟩) (by assumption) ?_
    rotate_left
    · intro wq hSw
      (try dsimp only at hSw)
      go_simp
      all_goals (with_reducible rfl)
    try simp only [Act.put, List.setIfInBounds_toArray, List.set_cons_zero, List.set_cons_succ]
    refine wpAnyH_take (i := 9) (v := ?_) (by simp only [List.getElem?_toArray, List.getElem?_cons_succ, List.getElem?_cons_zero]; rfl) (by kernel_rfl) (by kernel_rfl) (by kernel_rfl) (by exact fun _ _ _ h => h) (Or.inl ⟨by rfl, ?_⟩) (by assumption) ?_
    rotate_left
    · intro wq hSw
      (try dsimp only at hSw)
      go_simp
      all_goals (with_reducible rfl)
    try simp only [Act.put, List.setIfInBounds_toArray, List.set_cons_zero, List.set_cons_succ]
    refine wpAnyH_take (i := 10) (v := ?_) (by simp only [List.getElem?_toArray, List.getElem?_cons_succ, List.getElem?_cons_zero]; rfl) (by kernel_rfl) (by kernel_rfl) (by kernel_rfl) (by exact fun _ _ _ h => h) (Or.inl ⟨by rfl, ?_⟩) (by assumption) ?_
    rotate_left
    · intro wq hSw
      (try dsimp only at hSw)
      go_simp
      all_goals (with_reducible rfl)
    try simp only [Act.put, List.setIfInBounds_toArray, List.set_cons_zero, List.set_cons_succ]
    refine wpAnyH_take (i := 11) (v := ?_) (by simp only [List.getElem?_toArray, List.getElem?_cons_succ, List.getElem?_cons_zero]; rfl) (by kernel_rfl) (by kernel_rfl) (by kernel_rfl) (by exact fun _ _ _ h => h) (Or.inl ⟨by rfl, ?_⟩) (by assumption) ?_
    rotate_left
    · intro wq hSw
      (try dsimp only at hSw)
      go_simp
      all_goals (with_reducible rfl)
    try simp only [Act.put, List.setIfInBounds_toArray, List.set_cons_zero, List.set_cons_succ]
    refine wpAnyH_take (i := 16) (v := ?_) (by simp only [List.getElem?_toArray, List.getElem?_cons_succ, List.getElem?_cons_zero]; rfl) (by kernel_rfl) (by kernel_rfl) (by kernel_rfl) (by exact fun _ _ _ h => h) (Or.inl ⟨by rfl, ?_⟩) (by assumption) ?_
    rotate_left
    · intro wq hSw
      (try dsimp only at hSw)
      go_simp
      all_goals (with_reducible rfl)
    try simp only [Act.put, List.setIfInBounds_toArray, List.set_cons_zero, List.set_cons_succ]
    refine wpAnyH_ready (rs := [17]) (by kernel_rfl) (by simp) ?_
    refine AllReadyH.cons (by simp only [List.getElem?_toArray, List.getElem?_cons_succ, List.getElem?_cons_zero]; rfl) (fun K hK => ?_) AllReadyH.nil
    rw [if_pos (by rfl)]
    refine wp_store_row 27 (.tmp 4) (.tmp 28) rfl g4 (csD q (.slice da g.d.length dc)) rfl (by have e0 := HQ0.out; have e1 := HQ1.out; have e2 := HQ2.out; unfold csD; rw [e0, e1, e2]; rfl) 27 (csD zeroDg (.slice none 0 0)) (by exact HC.out) info27 rfl (csD_one q _ rfl) ?_
    refine hK.out _ _ (by exact BoxD.away hHeld ((Away.refl [g4] _).setRow (.inl (by simp)) _) (by simp; omega)) (fun hHeld2 => ?_)
    clear hK K
    refine wpAnyH_done (by kernel_rfl) ?_ _
    have hF : BoxD (w2.drew.setRow g4 (csD q (.slice da g.d.length dc))) g4 q (.slice da g.d.length dc) := boxD_setRow (w := w2.drew) HC.out _ _
    have HF := Lib.hid hF
    have HA9 := Lib.hid (HA.out.drew.setRow (g := g4) (.inr (by omega)) (csD q (.slice da g.d.length dc)))
    clear hF hHeld2 hHeld
    generalize w2.drew.setRow g4 (csD q (.slice da g.d.length dc)) = w9 at *
    go_wp2_with fail
    refine bodyPost_ret (result27 rfl _ _ g4 q (.slice da g.d.length dc) rfl HF.out) rfl ⟨_, rfl, HSL.out, HA9.out⟩
theorem dgram_true_gt (g : Dg) (dv : Value) (w : World) (hg : Dat w g dv) (hle : 65527 ≤ g.d.length) : Calls Try.prog 18 #[.agg (csD g dv), .bool true] w fun E w' => DgOut w (fitD g true) E w' := by
  have HSP := Lib.hid hg.wf.sp; have HDP := Lib.hid hg.wf.dp
  have hlen := hg.wf.dn
  obtain ⟨da, dc, hdv, hd1, hd2, hd3⟩ := hg.d
  subst hdv
  have HR := Lib.hid hd3
  obtain ⟨q, hq⟩ : ∃ q, q = fitD g true := ⟨_, rfl⟩
  rw [← hq]
  have HQD : Hid (q.d = g.d.take 65527) := by
    show _ = _
    rw [hq]
    rfl
  have HSL : Hid (Sl w (.slice da 65527 dc) q.d) := by
    show Sl _ _ _
    rw [HQD.out]
    exact ⟨da, dc, by rw [List.length_take, Nat.min_eq_left (by omega)], by rw [List.length_take]; omega, hd2, HR.out.head _⟩
  have HQ0 : Hid (q.sp = g.sp % 65536) := by rw [hq]; rfl
  have HQ1 : Hid (q.dp = g.dp % 65536) := by rw [hq]; rfl
  have HQ2 : Hid (q.ns = (g.ns && !true)) := by rw [hq]; rfl
  have s1 := slice_h da g.d.length dc 65527 (65527 : Int) rfl (by omega)
  clear hq hg hd3
  go_enter Try.func18, Try.ntmps18
  go_wp2_with (refine wpList_boxD rfl _ rfl g _ rfl ?_; refine Hid.out ?_)
  refine Lib.hid ?_
  intro g2 w1 hg2 hb haw
  have HA := Lib.hid haw; have HB := Lib.hid hb
  have hl2 := hb.lt
  clear hb haw
  go_wp2_with (refine wpList_allocD rfl rfl ?_; refine Hid.out ?_)
  refine Lib.hid ?_
  intro g4 w2 hg4 hb haw
  replace HA := Lib.hid (HA.out.on haw); replace HB := Lib.hid (HB.out.on haw); have HC := Lib.hid hb
  have hs1 := HA.out.size
  clear hb haw
  have hne : g2 ≠ g4 := by omega
  have hne' : g4 ≠ g2 := by omega
  have c0 := HB.out.c0; have c1 := HB.out.c1; have c2 := HB.out.c2; have c3 := HB.out.c3
  have e0 := HC.out.c0; have e1 := HC.out.c1; have e2 := HC.out.c2; have e3 := HC.out.c3
  have f0 := HC.out.free 0; have f1 := HC.out.free 1; have f2 := HC.out.free 2; have f3 := HC.out.free 3
  generalize hns : g.ns = ns at *
  have HNS := Lib.hid hns
  clear hns
  cases ns
  · go_upto_region 5 with fail
    refine wp_region_held_drew (S := (fun w' => BoxD w' g2 g (.slice da g.d.length dc))) (by kernel_rfl) HB.out (fun hHeld => ?_)
    refine wpAnyH_take (i := 0) (v := ?_) (by simp only [List.getElem?_toArray, List.getElem?_cons_zero]; rfl) (by kernel_rfl) (by kernel_rfl) (by kernel_rfl) (by exact fun _ _ _ h => h) (Or.inl ⟨by rfl, ?_⟩) (by assumption) ?_
    rotate_left
    · intro wq hSw
      (try dsimp only at hSw)
      go_simp
      all_goals (with_reducible rfl)
    try simp only [Act.put, List.setIfInBounds_toArray, List.set_cons_zero, List.set_cons_succ]
    refine wpAnyH_take (i := 1) (by simp only [List.getElem?_toArray, List.getElem?_cons_succ, List.getElem?_cons_zero]; rfl) (by kernel_rfl) (by kernel_rfl) (by kernel_rfl) (by exact fun _ _ _ h => h) (yields_ld (ad := ⟨g2, 0, none⟩) (by rfl) _ rfl rfl (fun w' h => ld3 h.c0)) (by assumption) ?_
    try simp only [Act.put, List.setIfInBounds_toArray, List.set_cons_zero, List.set_cons_succ]
    refine wpAnyH_take (i := 3) (v := ?_) (by simp only [List.getElem?_toArray, List.getElem?_cons_succ, List.getElem?_cons_zero]; rfl) (by kernel_rfl) (by kernel_rfl) (by kernel_rfl) (by exact fun _ _ _ h => h) (Or.inl ⟨by rfl, ?_⟩) (by assumption) ?_
    rotate_left
    · intro wq hSw
      (try dsimp only at hSw)
      go_simp
      all_goals (with_reducible rfl)
    try simp only [Act.put, List.setIfInBounds_toArray, List.set_cons_zero, List.set_cons_succ]
    refine wpAnyH_take (i := 4) (by simp only [List.getElem?_toArray, List.getElem?_cons_succ, List.getElem?_cons_zero]; rfl) (by kernel_rfl) (by kernel_rfl) (by kernel_rfl) (by exact fun _ _ _ h => h) (yields_ld (ad := ⟨g2, 1, none⟩) (by rfl) _ rfl rfl (fun w' h => ld3 h.c1)) (by assumption) ?_
    try simp only [Act.put, List.setIfInBounds_toArray, List.set_cons_zero, List.set_cons_succ]
    refine wpAnyH_take (i := 6) (v := ?_) (by simp only [List.getElem?_toArray, List.getElem?_cons_succ, List.getElem?_cons_zero]; rfl) (by kernel_rfl) (by kernel_rfl) (by kernel_rfl) (by exact fun _ _ _ h => h) (Or.inl ⟨by rfl, ?_⟩) (by assumption) ?_
    rotate_left
    · intro wq hSw
      (try dsimp only at hSw)
      go_simp
      all_goals (with_reducible rfl)
    try simp only [Act.put, List.setIfInBounds_toArray, List.set_cons_zero, List.set_cons_succ]
    refine wpAnyH_take (i := 7) (by simp only [List.getElem?_toArray, List.getElem?_cons_succ, List.getElem?_cons_zero]; rfl) (by kernel_rfl) (by kernel_rfl) (by kernel_rfl) (by exact fun _ _ _ h => h) (yields_ld (ad := ⟨g2, 2, none⟩) (by rfl) _ rfl rfl (fun w' h => ld4 (by have := h.c2; rwa [HNS.out] at this))) (by assumption) ?_
    try simp only [Act.put, List.setIfInBounds_toArray, List.set_cons_zero, List.set_cons_succ]
    refine wpAnyH_take (i := 12) (v := ?_) (by simp only [List.getElem?_toArray, List.getElem?_cons_succ, List.getElem?_cons_zero]; rfl) (by kernel_rfl) (by kernel_rfl) (by kernel_rfl) (by exact fun _ _ _ h => h) (Or.inl ⟨by rfl, ?_⟩) (by assumption) ?_
    rotate_left
    · intro wq hSw
      (try dsimp only at hSw)
      go_simp
      all_goals (with_reducible rfl)
    try simp only [Act.put, List.setIfInBounds_toArray, List.set_cons_zero, List.set_cons_succ]
    refine wpAnyH_take (i := 13) (by simp only [List.getElem?_toArray, List.getElem?_cons_succ, List.getElem?_cons_zero]; rfl) (by kernel_rfl) (by kernel_rfl) (by kernel_rfl) (by exact fun _ _ _ h => h) (yields_ld (ad := ⟨g2, 3, none⟩) (by rfl) _ rfl rfl (fun w' h => ldB h.c3)) (by assumption) ?_
    try simp only [Act.put, List.setIfInBounds_toArray, List.set_cons_zero, List.set_cons_succ]
    refine wpAnyH_take (i := 14) (v := ?_) (by simp only [List.getElem?_toArray, List.getElem?_cons_succ, List.getElem?_cons_zero]; rfl) (by kernel_rfl) (by kernel_rfl) (by kernel_rfl) (by exact fun _ _ _ h => h) (Or.inl ⟨by rfl, ?_⟩) (by assumption) ?_
    rotate_left
    · intro wq hSw
      (try dsimp only at hSw)
      go_simp
      all_goals (with_reducible rfl)
    try simp only [Act.put, List.setIfInBounds_toArray, List.set_cons_zero, List.set_cons_succ]
    refine wpAnyH_take (i := 15) (by simp only [List.getElem?_toArray, List.getElem?_cons_succ, List.getElem?_cons_zero]; rfl) (by kernel_rfl) (by kernel_rfl) (by kernel_rfl) (by exact fun _ _ _ h => h) (yields_sl (by rfl) _ _ rfl rfl rfl s1) (by assumption) ?_
    try simp only [Act.put, List.setIfInBounds_toArray, List.set_cons_zero, List.set_cons_succ]
    refine wpAnyH_ready (rs := [2]) (by kernel_rfl) (by simp) ?_
    refine AllReadyH.cons (by simp only [List.getElem?_toArray, List.getElem?_cons_succ, List.getElem?_cons_zero]; rfl) (fun K hK => ?_) AllReadyH.nil
    go_simp
    refine (rest16 _ _ HSP.out).mono ?_
    rintro E wr ⟨rfl, hwr⟩
    subst hwr
    go_wp2_with fail
    refine hK.out _ _ hHeld (fun hHeld => ?_)
    clear hK K
    try simp only [Act.put, List.setIfInBounds_toArray, List.set_cons_zero, List.set_cons_succ]
    refine wpAnyH_ready (rs := [5]) (by kernel_rfl) (by simp) ?_
    refine AllReadyH.cons (by simp only [List.getElem?_toArray, List.getElem?_cons_succ, List.getElem?_cons_zero]; rfl) (fun K hK => ?_) AllReadyH.nil
    go_simp
    refine (rest16 _ _ HDP.out).mono ?_
    rintro E wr ⟨rfl, hwr⟩
    subst hwr
    go_wp2_with fail
    refine hK.out _ _ hHeld (fun hHeld => ?_)
    clear hK K
    try simp only [Act.put, List.setIfInBounds_toArray, List.set_cons_zero, List.set_cons_succ]
    refine wpAnyH_take (i := 8) (v := ?_) (by simp only [List.getElem?_toArray, List.getElem?_cons_succ, List.getElem?_cons_zero]; rfl) (by kernel_rfl) (by kernel_rfl) (by kernel_rfl) (by exact fun _ _ _ h => h) (Or.inl ⟨by rfl, ?_⟩) (by assumption) ?_
    rotate_left
    · intro wq hSw
      (try dsimp only at hSw)
      go_simp
      all_goals (with_reducible rfl)
    try simp only [Act.put, List.setIfInBounds_toArray, List.set_cons_zero, List.set_cons_succ]
    refine wpAnyH_take (i := 9) (v := undef) (by simp only [List.getElem?_toArray, List.getElem?_cons_succ, List.getElem?_cons_zero]; rfl) (by kernel_rfl) (by kernel_rfl) (by kernel_rfl) (by exact fun _ _ _ h => h) (Or.inr ⟨by rfl, rfl⟩) (by assumption) ?_
    try simp only [Act.put, List.setIfInBounds_toArray, List.set_cons_zero, List.set_cons_succ]
    refine wpAnyH_take (i := 10) (v := undef) (by simp only [List.getElem?_toArray, List.getElem?_cons_succ, List.getElem?_cons_zero]; rfl) (by kernel_rfl) (by kernel_rfl) (by kernel_rfl) (by exact fun _ _ _ h => h) (Or.inr ⟨by rfl, rfl⟩) (by assumption) ?_
    try simp only [Act.put, List.setIfInBounds_toArray, List.set_cons_zero, List.set_cons_succ]
    refine wpAnyH_take (i := 11) (v := ?_) (by simp only [List.getElem?_toArray, List.getElem?_cons_succ, List.getElem?_cons_zero]; rfl) (by kernel_rfl) (by kernel_rfl) (by kernel_rfl) (by exact fun _ _ _ h => h) (Or.inl ⟨by rfl, ?_⟩) (by assumption) ?_
    rotate_left
    · intro wq hSw
      (try dsimp only at hSw)
      go_simp
      all_goals (with_reducible rfl)
    try simp only [Act.put, List.setIfInBounds_toArray, List.set_cons_zero, List.set_cons_succ]
    refine wpAnyH_take (i := 16) (v := ?_) (by simp only [List.getElem?_toArray, List.getElem?_cons_succ, List.getElem?_cons_zero]; rfl) (by kernel_rfl) (by kernel_rfl) (by kernel_rfl) (by exact fun _ _ _ h => h) (Or.inl ⟨by rfl, ?_⟩) (by assumption) ?_
    rotate_left
    · intro wq hSw
      (try dsimp only at hSw)
      go_simp
      all_goals (with_reducible rfl)
    try simp only [Act.put, List.setIfInBounds_toArray, List.set_cons_zero, List.set_cons_succ]
    refine wpAnyH_ready (rs := [17]) (by kernel_rfl) (by simp) ?_
    refine AllReadyH.cons (by simp only [List.getElem?_toArray, List.getElem?_cons_succ, List.getElem?_cons_zero]; rfl) (fun K hK => ?_) AllReadyH.nil
    rw [if_pos (by rfl)]
    refine wp_store_row 27 (.tmp 4) (.tmp 28) rfl g4 (csD q (.slice da 65527 dc)) rfl (by have e0 := HQ0.out; have e1 := HQ1.out; have e2 := HQ2.out; unfold csD; rw [e0, e1, e2]; rfl) 27 (csD zeroDg (.slice none 0 0)) (by exact HC.out) info27 rfl (csD_one q _ rfl) ?_
    refine hK.out _ _ (by exact BoxD.away hHeld ((Away.refl [g4] _).setRow (.inl (by simp)) _) (by simp; omega)) (fun hHeld2 => ?_)
    clear hK K
    refine wpAnyH_done (by kernel_rfl) ?_ _
    have hF : BoxD (w2.drew.setRow g4 (csD q (.slice da 65527 dc))) g4 q (.slice da 65527 dc) := boxD_setRow (w := w2.drew) HC.out _ _
    have HF := Lib.hid hF
    have HA9 := Lib.hid (HA.out.drew.setRow (g := g4) (.inr (by omega)) (csD q (.slice da 65527 dc)))
    clear hF hHeld2 hHeld
    generalize w2.drew.setRow g4 (csD q (.slice da 65527 dc)) = w9 at *
    go_wp2_with fail
    refine bodyPost_ret (result27 rfl _ _ g4 q (.slice da 65527 dc) rfl HF.out) rfl ⟨_, rfl, HSL.out, HA9.out⟩
  · go_upto_region 5 with fail
    refine wp_region_held_drew (S := (fun w' => BoxD w' g2 g (.slice da g.d.length dc))) (by kernel_rfl) HB.out (fun hHeld => ?_)
    refine wpAnyH_take (i := 0) (v := ?_) (by simp only [List.getElem?_toArray, List.getElem?_cons_zero]; rfl) (by kernel_rfl) (by kernel_rfl) (by kernel_rfl) (by exact fun _ _ _ h => h) (Or.inl ⟨by rfl, ?_⟩) (by assumption) ?_
    rotate_left
    · intro wq hSw
      (try dsimp only at hSw)
      go_simp
      all_goals (with_reducible rfl)
    try simp only [Act.put, List.setIfInBounds_toArray, List.set_cons_zero, List.set_cons_succ]
    refine wpAnyH_take (i := 1) (by simp only [List.getElem?_toArray, List.getElem?_cons_succ, List.getElem?_cons_zero]; rfl) (by kernel_rfl) (by kernel_rfl) (by kernel_rfl) (by exact fun _ _ _ h => h) (yields_ld (ad := ⟨g2, 0, none⟩) (by rfl) _ rfl rfl (fun w' h => ld3 h.c0)) (by assumption) ?_
    try simp only [Act.put, List.setIfInBounds_toArray, List.set_cons_zero, List.set_cons_succ]
    refine wpAnyH_take (i := 3) (v := ?_) (by simp only [List.getElem?_toArray, List.getElem?_cons_succ, List.getElem?_cons_zero]; rfl) (by kernel_rfl) (by kernel_rfl) (by kernel_rfl) (by exact fun _ _ _ h => h) (Or.inl ⟨by rfl, ?_⟩) (by assumption) ?_
    rotate_left
    · intro wq hSw
      (try dsimp only at hSw)
      go_simp
      all_goals (with_reducible rfl)
    try simp only [Act.put, List.setIfInBounds_toArray, List.set_cons_zero, List.set_cons_succ]
    refine wpAnyH_take (i := 4) (by simp only [List.getElem?_toArray, List.getElem?_cons_succ, List.getElem?_cons_zero]; rfl) (by kernel_rfl) (by kernel_rfl) (by kernel_rfl) (by exact fun _ _ _ h => h) (yields_ld (ad := ⟨g2, 1, none⟩) (by rfl) _ rfl rfl (fun w' h => ld3 h.c1)) (by assumption) ?_
    try simp only [Act.put, List.setIfInBounds_toArray, List.set_cons_zero, List.set_cons_succ]
    refine wpAnyH_take (i := 6) (v := ?_) (by simp only [List.getElem?_toArray, List.getElem?_cons_succ, List.getElem?_cons_zero]; rfl) (by kernel_rfl) (by kernel_rfl) (by kernel_rfl) (by exact fun _ _ _ h => h) (Or.inl ⟨by rfl, ?_⟩) (by assumption) ?_
    rotate_left
    · intro wq hSw
      (try dsimp only at hSw)
      go_simp
      all_goals (with_reducible rfl)
    try simp only [Act.put, List.setIfInBounds_toArray, List.set_cons_zero, List.set_cons_succ]
    refine wpAnyH_take (i := 7) (by simp only [List.getElem?_toArray, List.getElem?_cons_succ, List.getElem?_cons_zero]; rfl) (by kernel_rfl) (by kernel_rfl) (by kernel_rfl) (by exact fun _ _ _ h => h) (yields_ld (ad := ⟨g2, 2, none⟩) (by rfl) _ rfl rfl (fun w' h => ld4 (by have := h.c2; rwa [HNS.out] at this))) (by assumption) ?_
    try simp only [Act.put, List.setIfInBounds_toArray, List.set_cons_zero, List.set_cons_succ]
    refine wpAnyH_take (i := 12) (v := ?_) (by simp only [List.getElem?_toArray, List.getElem?_cons_succ, List.getElem?_cons_zero]; rfl) (by kernel_rfl) (by kernel_rfl) (by kernel_rfl) (by exact fun _ _ _ h => h) (Or.inl ⟨by rfl, ?_⟩) (by assumption) ?_
    rotate_left
    · intro wq hSw
      (try dsimp only at hSw)
      go_simp
      all_goals (with_reducible rfl)
    try simp only [Act.put, List.setIfInBounds_toArray, List.set_cons_zero, List.set_cons_succ]
    refine wpAnyH_take (i := 13) (by simp only [List.getElem?_toArray, List.getElem?_cons_succ, List.getElem?_cons_zero]; rfl) (by kernel_rfl) (by kernel_rfl) (by kernel_rfl) (by exact fun _ _ _ h => h) (yields_ld (ad := ⟨g2, 3, none⟩) (by rfl) _ rfl rfl (fun w' h => ldB h.c3)) (by assumption) ?_
    try simp only [Act.put, List.setIfInBounds_toArray, List.set_cons_zero, List.set_cons_succ]
    refine wpAnyH_take (i := 14) (v := ?_) (by simp only [List.getElem?_toArray, List.getElem?_cons_succ, List.getElem?_cons_zero]; rfl) (by kernel_rfl) (by kernel_rfl) (by kernel_rfl) (by exact fun _ _ _ h => h) (Or.inl ⟨by rfl, ?_⟩) (by assumption) ?_
    rotate_left
    · intro wq hSw
      (try dsimp only at hSw)
      go_simp
      all_goals (with_reducible rfl)
    try simp only [Act.put, List.setIfInBounds_toArray, List.set_cons_zero, List.set_cons_succ]
    refine wpAnyH_take (i := 15) (by simp only [List.getElem?_toArray, List.getElem?_cons_succ, List.getElem?_cons_zero]; rfl) (by kernel_rfl) (by kernel_rfl) (by kernel_rfl) (by exact fun _ _ _ h => h) (yields_sl (by rfl) _ _ rfl rfl rfl s1) (by assumption) ?_
    try simp only [Act.put, List.setIfInBounds_toArray, List.set_cons_zero, List.set_cons_succ]
    refine wpAnyH_ready (rs := [2]) (by kernel_rfl) (by simp) ?_
    refine AllReadyH.cons (by simp only [List.getElem?_toArray, List.getElem?_cons_succ, List.getElem?_cons_zero]; rfl) (fun K hK => ?_) AllReadyH.nil
    go_simp
    refine (rest16 _ _ HSP.out).mono ?_
    rintro E wr ⟨rfl, hwr⟩
    subst hwr
    go_wp2_with fail
    refine hK.out _ _ hHeld (fun hHeld => ?_)
    clear hK K
    try simp only [Act.put, List.setIfInBounds_toArray, List.set_cons_zero, List.set_cons_succ]
    refine wpAnyH_ready (rs := [5]) (by kernel_rfl) (by simp) ?_
    refine AllReadyH.cons (by simp only [List.getElem?_toArray, List.getElem?_cons_succ, List.getElem?_cons_zero]; rfl) (fun K hK => ?_) AllReadyH.nil
    go_simp
    refine (rest16 _ _ HDP.out).mono ?_
    rintro E wr ⟨rfl, hwr⟩
    subst hwr
    go_wp2_with fail
    refine hK.out _ _ hHeld (fun hHeld => ?_)
    clear hK K
    try simp only [Act.put, List.setIfInBounds_toArray, List.set_cons_zero, List.set_cons_succ]
    refine wpAnyH_take (i := 8) (v := ?_) (by simp only [List.getElem?_toArray, List.getElem?_cons_succ, List.getElem?_cons_zero]; rfl) (by kernel_rfl) (by kernel_rfl) (by kernel_rfl) (by exact fun _ _ _ h => h) (Or.inl ⟨by rfl, ?_⟩) (by assumption) ?_
    rotate_left
    · intro wq hSw
      (try dsimp only at hSw)
      go_simp
      all_goals (with_reducible rfl)
    try simp only [Act.put, List.setIfInBounds_toArray, List.set_cons_zero, List.set_cons_succ]
    refine wpAnyH_take (i := 9) (v := ?_) (by simp only [List.getElem?_toArray, List.getElem?_cons_succ, List.getElem?_cons_zero]; rfl) (by kernel_rfl) (by kernel_rfl) (by kernel_rfl) (by exact fun _ _ _ h => h) (Or.inl ⟨by rfl, ?_⟩) (by assumption) ?_
    rotate_left
    · intro wq hSw
      (try dsimp only at hSw)
      go_simp
      all_goals (with_reducible rfl)
    try simp only [Act.put, List.setIfInBounds_toArray, List.set_cons_zero, List.set_cons_succ]
    refine wpAnyH_take (i := 10) (v := ?_) (by simp only [List.getElem?_toArray, List.getElem?_cons_succ, List.getElem?_cons_zero]; rfl) (by kernel_rfl) (by kernel_rfl) (by kernel_rfl) (by exact fun _ _ _ h => h) (Or.inl ⟨by rfl, ?_⟩) (by assumption) ?_
    rotate_left
    · intro wq hSw
      (try dsimp only at hSw)
      go_simp
      all_goals (with_reducible rfl)
    try simp only [Act.put, List.setIfInBounds_toArray, List.set_cons_zero, List.set_cons_succ]
    refine wpAnyH_take (i := 11) (v := ?_) (by simp only [List.getElem?_toArray, List.getElem?_cons_succ, List.getElem?_cons_zero]; rfl) (by kernel_rfl) (by kernel_rfl) (by kernel_rfl) (by exact fun _ _ _ h => h) (Or.inl ⟨by rfl, ?_⟩) (by assumption) ?_
    rotate_left
    · intro wq hSw
      (try dsimp only at hSw)
      go_simp
      all_goals (with_reducible rfl)
    try simp only [Act.put, List.setIfInBounds_toArray, List.set_cons_zero, List.set_cons_succ]
    refine wpAnyH_take (i := 16) (v := ?_) (by simp only [List.getElem?_toArray, List.getElem?_cons_succ, List.getElem?_cons_zero]; rfl) (by kernel_rfl) (by kernel_rfl) (by kernel_rfl) (by exact fun _ _ _ h => h) (Or.inl ⟨by rfl, ?_⟩) (by assumption) ?_
    rotate_left
    · intro wq hSw
      (try dsimp only at hSw)
      go_simp
      all_goals (with_reducible rfl)
    try simp only [Act.put, List.setIfInBounds_toArray, List.set_cons_zero, List.set_cons_succ]
    refine wpAnyH_ready (rs := [17]) (by kernel_rfl) (by simp) ?_
    refine AllReadyH.cons (by simp only [List.getElem?_toArray, List.getElem?_cons_succ, List.getElem?_cons_zero]; rfl) (fun K hK => ?_) AllReadyH.nil
    rw [if_pos (by rfl)]
    refine wp_store_row 27 (.tmp 4) (.tmp 28) rfl g4 (csD q (.slice da 65527 dc)) rfl (by have e0 := HQ0.out; have e1 := HQ1.out; have e2 := HQ2.out; unfold csD; rw [e0, e1, e2]; rfl) 27 (csD zeroDg (.slice none 0 0)) (by exact HC.out) info27 rfl (csD_one q _ rfl) ?_
    refine hK.out _ _ (by exact BoxD.away hHeld ((Away.refl [g4] _).setRow (.inl (by simp)) _) (by simp; omega)) (fun hHeld2 => ?_)
    clear hK K
    refine wpAnyH_done (by kernel_rfl) ?_ _
    have hF : BoxD (w2.drew.setRow g4 (csD q (.slice da 65527 dc))) g4 q (.slice da 65527 dc) := boxD_setRow (w := w2.drew) HC.out _ _
    have HF := Lib.hid hF
    have HA9 := Lib.hid (HA.out.drew.setRow (g := g4) (.inr (by omega)) (csD q (.slice da 65527 dc)))
    clear hF hHeld2 hHeld
    generalize w2.drew.setRow g4 (csD q (.slice da 65527 dc)) = w9 at *
    go_wp2_with fail
    refine bodyPost_ret (result27 rfl _ _ g4 q (.slice da 65527 dc) rfl HF.out) rfl ⟨_, rfl, HSL.out, HA9.out⟩
theorem dgram_c (g : Dg) (dv : Value) (six : Bool) (w : World) (hg : Dat w g dv) : Calls Try.prog 18 #[.agg (csD g dv), .bool six] w fun E w' => DgOut w (fitD g six) E w' := by
  cases six
  · by_cases h : g.d.length < 65507
    · exact dgram_false_le g dv w hg h
    · exact dgram_false_gt g dv w hg (by omega)
  · by_cases h : g.d.length < 65527
    · exact dgram_true_le g dv w hg h
    · exact dgram_true_gt g dv w hg (by omega)
#print axioms dgram_c
end Go.Proofs.Ytbfpphoiapggnaa
