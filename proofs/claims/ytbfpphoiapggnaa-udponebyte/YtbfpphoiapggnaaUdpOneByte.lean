/-
  UdpOneByte: one other byte is told.
-/
import Derived.Test.YtbfpphoiapggnaaLw
import Derived.Test.YtbfpphoiapggnaaAdm
import Derived.Test.YtbfpphoiapggnaaUntil
import Derived.Test.YtbfpphoiapggnaaKit
import Derived.Deep.CondSized
namespace Go.Proofs.Ytbfpphoiapggnaa
open Go.ChangeShapes Go.WideShapes Go.ChangeAt Go.RowKit Go.Deep Num
set_option linter.unusedVariables false
set_option maxHeartbeats 8000000
set_option maxRecDepth 100000

theorem yields_ix {ops : Array Oper} {S : World → Prop} {op : Oper} {a : Act} {gb off n cap : Nat} (hw : Region.wanted op (yielded ops a.tmps) = true) (x ix : Operand) (ho : op.op = .indexAddr 25 x ix) (i : Nat) (hx : a.eval x = .slice (some ⟨gb, off, none⟩) n cap) (hix : a.eval ix = .int .i64 (i : Int)) (hi : i < n) :
    YieldsIf Try.prog ops S op (.pointer (some ⟨gb, off + i, none⟩)) a := by
  refine .inl ⟨hw, fun w _ => ?_⟩
  have he : Try.prog.elem 25 = 5 := by kernel_rfl
  have hsz : (sizeOf 5).run Try.prog w = .ok 1 w := by kernel_rfl
  unfold execOp
  simp only [ho, hx, hix, Sem.run_bind]
  rw [run_indexAt_slice w 25 ⟨gb, off, none⟩ n cap .i64 (i : Int) under22, he, if_pos ⟨by omega, by omega⟩, hsz]
  simp only [Result.andThen, add_plain, Int.toNat_natCast, Nat.mul_one, Sem.run_pure]
theorem yields_ix0 {ops : Array Oper} {S : World → Prop} {op : Oper} {a : Act} {gb n cap : Nat} (hw : Region.wanted op (yielded ops a.tmps) = true) (x ix : Operand) (ho : op.op = .indexAddr 25 x ix) (i : Nat) (hx : a.eval x = .slice (some ⟨gb, 0, none⟩) n cap) (hix : a.eval ix = .int .i64 (i : Int)) (hi : i < n) :
    YieldsIf Try.prog ops S op (.pointer (some ⟨gb, i, none⟩)) a := by
  have := yields_ix (S := S) hw x ix ho i hx hix hi
  rwa [Nat.zero_add] at this
theorem step_store5 {ops : Array Oper} {o : Oper} {a : Act} {w : World} {K : Act → World → Prop} {Q : Exit → Act → World → Prop} {E : Prop} (hg : o.guard = none) (s r : Nat)
    (ho : o.op = .store 5 (.tmp s) (.tmp r)) (g i : Nat) (hx : a.tmps[s]?.getD undef = .pointer (some ⟨g, i, none⟩)) (n : Int) (hy : a.tmps[r]?.getD undef = .int .u8 n) (u : Value) (hc : w.cell? ⟨g, i, none⟩ = some u) (hf : w.frozen? ⟨g, i, none⟩ = false)
    (hK : K (a.put o.dst undef) (w.setCell ⟨g, i, none⟩ (.int .u8 n))) :
    if Region.wanted o (yielded ops a.tmps) = true then Oper.wp Try.prog o a w K Q else E := by
  have hw : Region.wanted o (yielded ops a.tmps) = true := by simp [Region.wanted, hg]
  rw [if_pos hw]
  obtain ⟨d, op, ty, ps, af, gd⟩ := o
  simp only at ho
  subst ho
  go_simp
  exact hK
theorem xor_ne (a b : Int) (h1 : 0 ≤ a) (h2 : a ≤ 255) (h3 : 1 ≤ b) (h4 : b ≤ 255) : 0 ≤ bits .xor .u8 a b ∧ bits .xor .u8 a b ≤ 255 ∧ bits .xor .u8 a b ≠ a := by
  rw [u8_xor a b h1 (by omega) (by omega) (by omega)]
  obtain ⟨x, rfl⟩ := Int.eq_ofNat_of_zero_le h1
  obtain ⟨y, rfl⟩ := Int.eq_ofNat_of_zero_le (show 0 ≤ b by omega)
  have hx : x ^^^ y < 2 ^ 8 := Nat.xor_lt_two_pow (by omega) (by omega)
  refine ⟨by omega, by simp only [Int.toNat_natCast]; omega, fun e => ?_⟩
  simp only [Int.toNat_natCast] at e
  have e' : x ^^^ y = x := by omega
  have : x ^^^ (x ^^^ y) = x ^^^ x := by rw [e']
  rw [← Nat.xor_assoc, Nat.xor_self, Nat.zero_xor] at this
  omega
namespace udpOneByte
theorem walk (s0 t0 : Ax) (g0 : Dg) (dv : Value) (at' mk : Int) (W : World) (hs0 : WfA s0) (ht0 : WfA t0) (hg : Dat W g0 dv) (hgl : g0.d.length ≤ 140737488351232) (hat : (Lit.int .i64 at').wf = true) (hmk : (Lit.int .i64 mk).wf = true) :
    Calls Try.prog 4 #[.agg (csA s0.v s0.l), .agg (csA t0.v t0.l), .agg (csD g0 dv), .int .i64 at', .int .i64 mk] W fun e W' => e = .returned (.bool true) ∧ Below W.heap.size W W' := by
  have HS0 := Lib.hid hs0; have HT0 := Lib.hid ht0
  have HG := Lib.hid hg
  have HA : Hid (Away [] W W) := Away.refl _ _
  obtain ⟨six, hsix⟩ : ∃ six, six = (s0.v == 6) := ⟨_, rfl⟩
  obtain ⟨s, hs⟩ : ∃ s, s = adrP s0 six := ⟨_, rfl⟩
  obtain ⟨t, ht⟩ : ∃ t, t = adrP t0 six := ⟨_, rfl⟩
  obtain ⟨q, hq⟩ : ∃ g, g = fitD g0 six := ⟨_, rfl⟩
  obtain ⟨g, hg'⟩ : ∃ g : Dg, g = ⟨q.sp, q.dp, false, q.d⟩ := ⟨_, rfl⟩
  have HS : Hid (WfA s) := by rw [hs]; exact adrP_wf hs0 six
  have HT : Hid (WfA t) := by rw [ht]; exact adrP_wf ht0 six
  have HPR : Hid (pairP s t = true) := by rw [hs, ht]; exact adrP_pair hs0 ht0 six
  have HSV : Hid (s.v = if six = true then 6 else 4) := by rw [hs]; exact adrP_v s0 six
  have HFQ : Hid (Fit s.v q) := by rw [hs, hq]; exact fitD_fit hg.wf.d six _ (adrP_v s0 six)
  have HF : Hid (Fit s.v g) := by rw [hg']; exact ⟨HFQ.out.sp0, HFQ.out.sp1, HFQ.out.dp0, HFQ.out.dp1, HFQ.out.n, fun _ => rfl, HFQ.out.d⟩
  have KS : Hid (∀ w, Calls Try.prog 17 #[.agg (csA s0.v s0.l), .bool six] w fun e w' => e = .returned (.agg (csA s.v s.l)) ∧ Away [] w w') := fun w => by rw [hs]; exact address_c s0 six w hs0
  have KT : Hid (∀ w, Calls Try.prog 17 #[.agg (csA t0.v t0.l), .bool six] w fun e w' => e = .returned (.agg (csA t.v t.l)) ∧ Away [] w w') := fun w => by rw [ht]; exact address_c t0 six w ht0
  have KG : Hid (∀ w, Dat w g0 dv → Calls Try.prog 18 #[.agg (csD g0 dv), .bool six] w fun E w' => DgOut w q E w') := fun w h => by rw [hq]; exact dgram_c g0 dv six w h
  have HNS : Hid (g.ns = false) := by show g.ns = false; rw [hg']
  have HGQ := Lib.hid hg'
  have HW := Lib.hid (fit_wfd HF.out)
  have HBE : Hid (buildP s t g = (layP s t g, 0)) := by
    show _ = _
    rw [build_ok HPR.out HF.out]; unfold outP; rw [if_neg (by rw [HNS.out]; simp)]
  have HOB := Lib.hid (lay_bytes HS.out HT.out HF.out)
  have HOL := Lib.hid (lay_len s t g)
  have hrm := room_bd s.v
  have hdl := HF.out.n
  have hol : (layP s t g).length ≤ 65535 := by have := HOL.out; omega
  have hol8 : 8 ≤ (layP s t g).length := by have := HOL.out; omega
  obtain ⟨k, hk⟩ := Int.eq_ofNat_of_zero_le (Int.emod_nonneg at' (show ((layP s t g).length : Int) - 1 + 1 ≠ 0 by omega))
  have hkl : k < (layP s t g).length := by have := Int.emod_lt_of_pos at' (show (0 : Int) < ((layP s t g).length : Int) - 1 + 1 by omega); omega
  have KR : Hid (∀ w, Calls Try.prog 19 #[.int .i64 at', .int .i64 (((layP s t g).length : Int) - 1)] w fun e w' => e = .returned (.int .i64 (k : Int)) ∧ w' = w) := fun w => by
    have := rest_c at' (((layP s t g).length : Int) - 1) w (wf64 hat) (by omega) (by omega)
    rwa [hk] at this
  obtain ⟨r, hr⟩ : ∃ r, r = mk % 255 := ⟨_, rfl⟩
  have r0 : 0 ≤ r := by rw [hr]; exact Int.emod_nonneg _ (by decide)
  have r1 : r ≤ 254 := by have := Int.emod_lt_of_pos mk (show (0 : Int) < 255 by decide); omega
  have KM : Hid (∀ w, Calls Try.prog 19 #[.int .i64 mk, .int .i64 254] w fun e w' => e = .returned (.int .i64 r) ∧ w' = w) := fun w => by rw [hr]; exact rest_c mk 254 w (wf64 hmk) (by decide) (by decide)
  obtain ⟨old, hold⟩ : ∃ x, x = (layP s t g)[k]?.getD 0 := ⟨_, rfl⟩
  have hob : 0 ≤ old ∧ old ≤ 255 := by rw [hold]; exact HOB.out.getD k
  obtain ⟨X, hX⟩ : ∃ X, X = bits .xor .u8 old (1 + r) := ⟨_, rfl⟩
  obtain ⟨X0, X1, X2⟩ := xor_ne old (1 + r) hob.1 hob.2 (by omega) (by omega)
  rw [← hX] at X0 X1 X2
  have HOLD := Lib.hid hold
  obtain ⟨f, hf⟩ : ∃ f, f = (parseP s t ((layP s t g).set k X)).2 := ⟨_, rfl⟩
  obtain ⟨y, hy⟩ : ∃ y, y = (parseP s t ((layP s t g).set k X)).1 := ⟨_, rfl⟩
  have HPE : Hid (parseP s t ((layP s t g).set k X) = (y, f)) := by rw [hf, hy]; rfl
  have HFE := Lib.hid (one_byte HS.out HT.out HPR.out HF.out HNS.out k hkl X X0 X1 (by rw [← hold]; exact X2))
  rw [← hf] at HFE
  have HCB : Hid (Bytes ((layP s t g).set k X)) := HOB.out.set k X0 X1
  have HXE : Hid (bits .xor .u8 old (1 + r) = X) := hX.symm
  have HSIX : Hid ((s0.v == 6) = six) := hsix.symm
  clear hs ht hq hg' hs0 ht0 hg hk hr hold hX hf hy hrm hdl hat hmk hsix X2
  generalize layP s t g = b at *
  go_enter Try.func4, Try.ntmps4
  go_wp2_with (refine wpList_box24 rfl _ rfl s0 rfl ?_; refine Hid.out ?_)
  refine Lib.hid ?_
  intro g5 w1 hg_g5 hb haw
  replace HA := Lib.hid (HA.out.on haw)
  clear haw
  have H5 := Lib.hid hb
  have hl_g5 := hb.lt
  clear hb
  go_wp2_with (refine wpList_box24 rfl _ rfl t0 rfl ?_; refine Hid.out ?_)
  refine Lib.hid ?_
  intro g6 w2 hg_g6 hb haw
  replace HA := Lib.hid (HA.out.on haw)
  replace H5 := Lib.hid (H5.out.on haw)
  clear haw
  have H6 := Lib.hid hb
  have hl_g6 := hb.lt
  clear hb
  go_wp2_with (refine wpList_boxD rfl _ rfl g0 dv rfl ?_; refine Hid.out ?_)
  refine Lib.hid ?_
  intro g7 w3 hg_g7 hb haw
  replace HA := Lib.hid (HA.out.on haw)
  replace H5 := Lib.hid (H5.out.on haw)
  replace H6 := Lib.hid (H6.out.on haw)
  clear haw
  have H7 := Lib.hid hb
  have hl_g7 := hb.lt
  clear hb
  have hsz := HA.out.size
  have cv := H5.out.cell
  have hsx := HSIX.out
  go_upto_region 2 with fail
  clear cv
  try simp only [hsx]
  clear hsx
  go_wp2_with (first | (refine wpList_loadX rfl _ rfl g5 rfl s0 (by exact H5.out) HS0.out ?_))
  refine (KS.out _).mono ?_
  rintro E w4 ⟨rfl, haw⟩
  replace HA := Lib.hid (HA.out.on haw)
  replace H5 := Lib.hid (H5.out.on haw)
  replace H6 := Lib.hid (H6.out.on haw)
  replace H7 := Lib.hid (H7.out.on haw)
  clear haw
  go_wp2_with (refine wpList_storeX rfl _ _ rfl g5 rfl s rfl s0 (by exact H5.out) HS.out.n HS0.out.n ?_; refine Hid.out ?_)
  refine Lib.hid ?_
  intro w5 hb haw
  replace H6 := Lib.hid (H6.out.away haw (by simp; omega))
  replace H7 := Lib.hid (H7.out.away haw (by simp; omega))
  replace HA := Lib.hid (HA.out.next haw (fun x hx => .inr (by simp at hx; omega)))
  replace H5 := Lib.hid hb
  clear hb haw
  go_wp2_with (first | (refine wpList_loadX rfl _ rfl g6 rfl t0 (by exact H6.out) HT0.out ?_))
  refine (KT.out _).mono ?_
  rintro E w6 ⟨rfl, haw⟩
  replace HA := Lib.hid (HA.out.on haw)
  replace H5 := Lib.hid (H5.out.on haw)
  replace H6 := Lib.hid (H6.out.on haw)
  replace H7 := Lib.hid (H7.out.on haw)
  clear haw
  go_wp2_with (refine wpList_storeX rfl _ _ rfl g6 rfl t rfl t0 (by exact H6.out) HT.out.n HT0.out.n ?_; refine Hid.out ?_)
  refine Lib.hid ?_
  intro w7 hb haw
  replace H5 := Lib.hid (H5.out.away haw (by simp; omega))
  replace H7 := Lib.hid (H7.out.away haw (by simp; omega))
  replace HA := Lib.hid (HA.out.next haw (fun x hx => .inr (by simp at hx; omega)))
  replace H6 := Lib.hid hb
  clear hb haw
  go_wp2_with (first | (refine wpList_loadD rfl _ rfl g7 rfl g0 _ (by exact H7.out) ?_))
  refine (KG.out _ (by exact HG.out.on HA.out)).mono ?_
  rintro E w8 ⟨gv, rfl, hsl, haw⟩
  have HD := Lib.hid (hsl.on haw)
  replace HA := Lib.hid (HA.out.on haw)
  replace H5 := Lib.hid (H5.out.on haw)
  replace H6 := Lib.hid (H6.out.on haw)
  replace H7 := Lib.hid (H7.out.on haw)
  clear haw
  clear hsl
  clear H7
  have hsq := HA.out.size
  obtain ⟨ga, gc, hgv, hg2, hg3, -⟩ := HD.out
  subst hgv
  have HOLDD : Hid (Old w8.heap.size (.slice ga q.d.length gc) q.d) := HD.out.old
  have hb5a := H5.out.lt; have hb6a := H6.out.lt
  go_wp2_with (refine wpList_newD rfl rfl rfl _ _ rfl q (.slice ga q.d.length gc) (fun _ => rfl) (fun _ => rfl) rfl ?_; refine Hid.out ?_)
  refine Lib.hid ?_
  intro g12 w9 hg_g12 hb haw
  replace HA := Lib.hid (HA.out.on haw)
  replace H5 := Lib.hid (H5.out.on haw)
  replace H6 := Lib.hid (H6.out.on haw)
  replace HD := Lib.hid (HD.out.on haw)
  clear haw
  have H12 := Lib.hid hb
  have hl_g12 := hb.lt
  clear hb
  have c2 := H12.out.c2
  have f2 := H12.out.free 2
  have haw := away_put (w := w9) (g := g12) 2 (.bool false)
  replace H12 := Lib.hid (H12.out.put 2 (.bool false) (g' := g) (dv' := .slice ga q.d.length gc) (by rw [HGQ.out]; rfl))
  replace HA := Lib.hid (HA.out.next haw (fun x hx => .inr (by simp at hx; omega)))
  replace H5 := Lib.hid (H5.out.away haw (by simp; omega))
  replace H6 := Lib.hid (H6.out.away haw (by simp; omega))
  replace HD : Hid (Sl (w9.setCell ⟨g12, 2, none⟩ (.bool false)) (.slice ga q.d.length gc) g.d) := by
    have h := HD.out.away haw (fun hl k hk => by have := HOLDD.out hl k hk; simp; omega)
    rw [HGQ.out]; exact h
  clear haw
  go_upto_region 6 with fail
  clear c2 f2
  generalize World.setCell w9 ⟨g12, 2, none⟩ (.bool false) = w10 at *
  have hb5 := H5.out.lt
  have hb6 := H6.out.lt
  have hb0 := HA.out.size
  go_wp2_with (first | (refine wpList_loadX rfl _ rfl g5 rfl s (by exact H5.out) HS.out ?_) | (refine wpList_loadX rfl _ rfl g6 rfl t (by exact H6.out) HT.out ?_) | (refine wpList_loadD rfl _ rfl g12 rfl g _ (by exact H12.out) ?_))
  refine (build_c s t g _ _ HS.out HT.out ⟨HW.out, by exact HD.out⟩).mono ?_
  rw [HBE.out]
  rintro E w11 ⟨bv, rfl, hown, hnew, haw⟩
  have hs_bv := haw.size
  replace HA := Lib.hid (HA.out.on haw)
  replace H5 := Lib.hid (H5.out.on haw)
  replace H6 := Lib.hid (H6.out.on haw)
  replace HD := Lib.hid (HD.out.on haw)
  replace H12 := Lib.hid (H12.out.on haw)
  clear haw
  have HO := Lib.hid hown
  have hn_bv := Lib.hid hnew
  clear hown hnew
  obtain ⟨gb, bc, hbv, hbc⟩ := HO.out.block (fun e => by have e2 := HOL.out; rw [show b = [] from e] at e2; simp at e2; omega)
  rw [show ((b, (0 : Int)).1) = b from rfl] at hbv hbc HO
  subst hbv
  have hgb := hn_bv.out gb rfl
  clear HD H12
  go_wp2_with fail
  refine (known_c _).mono ?_
  rintro E w12 ⟨rfl, haw⟩
  replace HA := Lib.hid (HA.out.on haw)
  replace H5 := Lib.hid (H5.out.on haw)
  replace H6 := Lib.hid (H6.out.on haw)
  replace HO := Lib.hid (HO.out.on haw)
  clear haw
  go_wp2_with fail
  refine (KR.out _).mono ?_
  rintro E w12 ⟨rfl, rfl⟩
  obtain ⟨ck, fk⟩ := HO.out.cells k hkl
  rw [← HOLD.out] at ck
  go_upto_region 10 with fail
  refine wp_region_U 12 (fun w' => w'.cell? ⟨gb, k, none⟩ = some (.int .u8 old)) (by kernel_rfl) ?_
  refine wpAnyU_take (i := 0) (v := ?_) (by simp only [List.getElem?_toArray, List.getElem?_cons_zero]; rfl) (by kernel_rfl) (by kernel_rfl) (by kernel_rfl) (by decide) (by kernel_rfl) (by kernel_rfl) (by exact fun _ _ _ h => h) (Or.inl ⟨by rfl, ?_⟩) (by exact ck) ?_
  rotate_left
  · intro wq hSw
    (try dsimp only at hSw)
    go_simp
    all_goals (with_reducible rfl)
  try simp only [Act.put, List.setIfInBounds_toArray, List.set_cons_zero, List.set_cons_succ]
  refine wpAnyU_take (i := 1) (v := ?_) (by simp only [List.getElem?_toArray, List.getElem?_cons_succ, List.getElem?_cons_zero]; rfl) (by kernel_rfl) (by kernel_rfl) (by kernel_rfl) (by decide) (by kernel_rfl) (by kernel_rfl) (by exact fun _ _ _ h => h) (Or.inl ⟨by rfl, ?_⟩) (by exact ck) ?_
  rotate_left
  · intro wq hSw
    (try dsimp only at hSw)
    go_simp
    all_goals (with_reducible rfl)
  try simp only [Act.put, List.setIfInBounds_toArray, List.set_cons_zero, List.set_cons_succ]
  refine wpAnyU_take (i := 2) (v := ?_) (by simp only [List.getElem?_toArray, List.getElem?_cons_succ, List.getElem?_cons_zero]; rfl) (by kernel_rfl) (by kernel_rfl) (by kernel_rfl) (by decide) (by kernel_rfl) (by kernel_rfl) (by exact fun _ _ _ h => h) (Or.inl ⟨by rfl, ?_⟩) (by exact ck) ?_
  rotate_left
  · intro wq hSw
    (try dsimp only at hSw)
    go_simp
    all_goals (with_reducible rfl)
  try simp only [Act.put, List.setIfInBounds_toArray, List.set_cons_zero, List.set_cons_succ]
  refine wpAnyU_take (i := 3) (v := ?_) (by simp only [List.getElem?_toArray, List.getElem?_cons_succ, List.getElem?_cons_zero]; rfl) (by kernel_rfl) (by kernel_rfl) (by kernel_rfl) (by decide) (by kernel_rfl) (by kernel_rfl) (by exact fun _ _ _ h => h) (Or.inl ⟨by rfl, ?_⟩) (by exact ck) ?_
  rotate_left
  · intro wq hSw
    (try dsimp only at hSw)
    go_simp
    all_goals (with_reducible rfl)
  try simp only [Act.put, List.setIfInBounds_toArray, List.set_cons_zero, List.set_cons_succ]
  refine wpAnyU_take (i := 4) (by simp only [List.getElem?_toArray, List.getElem?_cons_succ, List.getElem?_cons_zero]; rfl) (by kernel_rfl) (by kernel_rfl) (by kernel_rfl) (by decide) (by kernel_rfl) (by kernel_rfl) (by exact fun _ _ _ h => h) (yields_ix0 (by rfl) _ _ rfl k rfl rfl hkl) (by exact ck) ?_
  try simp only [Act.put, List.setIfInBounds_toArray, List.set_cons_zero, List.set_cons_succ]
  refine wpAnyU_take (i := 5) (by simp only [List.getElem?_toArray, List.getElem?_cons_succ, List.getElem?_cons_zero]; rfl) (by kernel_rfl) (by kernel_rfl) (by kernel_rfl) (by decide) (by kernel_rfl) (by kernel_rfl) (by exact fun _ _ _ h => h) (yields_ld (ad := ⟨gb, k, none⟩) (by rfl) _ rfl rfl (fun w' h => ld5 h)) (by exact ck) ?_
  try simp only [Act.put, List.setIfInBounds_toArray, List.set_cons_zero, List.set_cons_succ]
  refine wpAnyU_take (i := 6) (v := ?_) (by simp only [List.getElem?_toArray, List.getElem?_cons_succ, List.getElem?_cons_zero]; rfl) (by kernel_rfl) (by kernel_rfl) (by kernel_rfl) (by decide) (by kernel_rfl) (by kernel_rfl) (by exact fun _ _ _ h => h) (Or.inl ⟨by rfl, ?_⟩) (by exact ck) ?_
  rotate_left
  · intro wq hSw
    (try dsimp only at hSw)
    go_simp
    all_goals (with_reducible rfl)
  try simp only [Act.put, List.setIfInBounds_toArray, List.set_cons_zero, List.set_cons_succ]
  refine wpAnyU_ready (rs := [7]) (by kernel_rfl) (by simp) ?_
  refine ReadyU.cons (by simp only [List.getElem?_toArray, List.getElem?_cons_succ, List.getElem?_cons_zero]; rfl) (fun K hK => ?_) ReadyU.nil
  go_simp
  refine (KM.out _).mono ?_
  rintro E wr ⟨rfl, hwr⟩
  subst hwr
  go_wp2_with fail
  refine hK.out _ _ (fun _ => ck) ?_
  clear hK K
  try simp only [Act.put, List.setIfInBounds_toArray, List.set_cons_zero, List.set_cons_succ]
  have w1r : IntKind.i64.wrap (1 + r) = 1 + r := by rw [IntKind.wrap_i64]; omega
  have w2r : IntKind.u8.wrap (1 + r) = 1 + r := by rw [IntKind.wrap_u8']; omega
  refine wpAnyU_take (i := 8) (v := ?_) (by simp only [List.getElem?_toArray, List.getElem?_cons_succ, List.getElem?_cons_zero]; rfl) (by kernel_rfl) (by kernel_rfl) (by kernel_rfl) (by decide) (by kernel_rfl) (by kernel_rfl) (by exact fun _ _ _ h => h) (Or.inl ⟨by rfl, ?_⟩) (by exact ck) ?_
  rotate_left
  · intro wq hSw
    (try dsimp only at hSw)
    go_simp
    all_goals (with_reducible rfl)
  try simp only [Act.put, List.setIfInBounds_toArray, List.set_cons_zero, List.set_cons_succ]
  refine wpAnyU_take (i := 9) (v := ?_) (by simp only [List.getElem?_toArray, List.getElem?_cons_succ, List.getElem?_cons_zero]; rfl) (by kernel_rfl) (by kernel_rfl) (by kernel_rfl) (by decide) (by kernel_rfl) (by kernel_rfl) (by exact fun _ _ _ h => h) (Or.inl ⟨by rfl, ?_⟩) (by exact ck) ?_
  rotate_left
  · intro wq hSw
    (try dsimp only at hSw)
    go_simp
    all_goals (with_reducible rfl)
  try simp only [Act.put, List.setIfInBounds_toArray, List.set_cons_zero, List.set_cons_succ]
  have hxe := HXE.out
  refine wpAnyU_take (i := 10) (v := ?_) (by simp only [List.getElem?_toArray, List.getElem?_cons_succ, List.getElem?_cons_zero]; rfl) (by kernel_rfl) (by kernel_rfl) (by kernel_rfl) (by decide) (by kernel_rfl) (by kernel_rfl) (by exact fun _ _ _ h => h) (Or.inl ⟨by rfl, ?_⟩) (by exact ck) ?_
  rotate_left
  · intro wq hSw
    (try dsimp only at hSw)
    go_simp
    all_goals (with_reducible rfl)
  try simp only [Act.put, List.setIfInBounds_toArray, List.set_cons_zero, List.set_cons_succ]
  refine wpAnyU_take (i := 11) (by simp only [List.getElem?_toArray, List.getElem?_cons_succ, List.getElem?_cons_zero]; rfl) (by kernel_rfl) (by kernel_rfl) (by kernel_rfl) (by decide) (by kernel_rfl) (by kernel_rfl) (by exact fun _ _ _ h => h) (yields_ix0 (by rfl) _ _ rfl k rfl rfl hkl) (by exact ck) ?_
  try simp only [Act.put, List.setIfInBounds_toArray, List.set_cons_zero, List.set_cons_succ]
  refine wpAnyU_ready (rs := [12]) (by kernel_rfl) (by simp) ?_
  refine ReadyU.cons (by simp only [List.getElem?_toArray, List.getElem?_cons_succ, List.getElem?_cons_zero]; rfl) (fun K hK => ?_) ReadyU.nil
  refine step_store5 rfl 65 64 rfl gb k rfl X rfl (.int .u8 old) (by exact ck) (by exact fk) ?_
  refine hK.out _ _ (fun h => absurd h (by decide)) ?_
  clear hK K
  refine wpAnyU_done (by kernel_rfl) ?_ _
  have haw : Away [gb] w12 (w12.drew.setCell ⟨gb, k, none⟩ (.int .u8 X)) := (Away.refl [gb] w12).drew.setCell (.inl (by simp)) _
  replace HO : Hid (Owns (w12.drew.setCell ⟨gb, k, none⟩ (.int .u8 X)) (.slice (some ⟨gb, 0, none⟩) b.length bc) (b.set k X)) := Owns.set (w := w12.drew) HO.out rfl k X
  replace HA := Lib.hid (HA.out.next haw (fun x hx => .inr (by simp at hx; omega)))
  replace H5 := Lib.hid (H5.out.away haw (by simp; omega))
  replace H6 := Lib.hid (H6.out.away haw (by simp; omega))
  clear haw ck fk hxe w1r w2r
  generalize World.setCell _ ⟨gb, k, none⟩ (.int .u8 X) = w13 at *
  have hcl : (b.set k X).length = b.length := by simp
  have HCL := Lib.hid hcl
  generalize b.set k X = c at *
  rw [← HCL.out]
  clear hcl
  go_wp2_with (first | (refine wpList_loadX rfl _ rfl g5 rfl s (by exact H5.out) HS.out ?_) | (refine wpList_loadX rfl _ rfl g6 rfl t (by exact H6.out) HT.out ?_))
  refine (parse_c s t (some ⟨gb, 0, none⟩) c bc _ HS.out HT.out (by exact (HO.out.row' (by have := HCL.out; omega) HCB.out)) (by have := HCL.out; omega) (by simp)).mono ?_
  rw [HPE.out]
  rintro E w14 ⟨yv, rfl, hown, hnew, haw⟩
  have hs_yv := haw.size
  replace HA := Lib.hid (HA.out.on haw)
  replace H5 := Lib.hid (H5.out.on haw)
  replace H6 := Lib.hid (H6.out.on haw)
  replace HO := Lib.hid (HO.out.on haw)
  clear haw
  have HY := Lib.hid hown
  have hn_yv := Lib.hid hnew
  clear hown hnew
  obtain ⟨ya, yc, hyv, -, -⟩ := HY.out.slc
  subst hyv
  go_wp2_with (refine wpList_newD rfl rfl rfl _ _ rfl y (.slice ya y.d.length yc) (fun _ => rfl) (fun _ => rfl) rfl ?_; refine Hid.out ?_)
  refine Lib.hid ?_
  intro g16 w15 hg_g16 hb haw
  replace HA := Lib.hid (HA.out.on haw)
  replace H5 := Lib.hid (H5.out.on haw)
  replace H6 := Lib.hid (H6.out.on haw)
  replace HO := Lib.hid (HO.out.on haw)
  replace HY := Lib.hid (HY.out.on haw)
  clear haw
  have H16 := Lib.hid hb
  have hl_g16 := hb.lt
  clear hb
  clear H5 H6 HY H16
  have hfe := HFE.out
  by_cases hk4 : k = 4
  · subst hk4
    rw [if_pos (.inl rfl)] at hfe
    subst hfe
    go_wp2_with fail
    go_ret
    exact ⟨rfl, HA.out.to_below⟩
  have n4 : ((k : Int) == 4) = false := by simp; omega
  by_cases hk5 : k = 5
  · subst hk5
    rw [if_pos (.inr rfl)] at hfe
    subst hfe
    go_wp2_with fail
    go_ret
    exact ⟨rfl, HA.out.to_below⟩
  have n5 : ((k : Int) == 5) = false := by simp; omega
  rw [if_neg (by omega)] at hfe
  obtain ⟨c6, -⟩ := HO.out.cells 6 (by have := HCL.out; omega)
  obtain ⟨c7, -⟩ := HO.out.cells 7 (by have := HCL.out; omega)
  have B6 := HCB.out.getD 6; have B7 := HCB.out.getD 7
  rw [show wd c 6 = 256 * c[6]?.getD 0 + c[7]?.getD 0 from rfl, HSV.out] at hfe
  generalize c[6]?.getD 0 = b6 at *
  generalize c[7]?.getD 0 = b7 at *
  obtain ⟨b60, b61⟩ := B6
  obtain ⟨b70, b71⟩ := B7
  have i6 : (6 : Int) < (c.length : Int) := by have := HCL.out; omega
  have i7 : (7 : Int) < (c.length : Int) := by have := HCL.out; omega
  by_cases h6 : b6 = 0
  · subst h6
    by_cases h7 : b7 = 0
    · subst h7
      cases six
      · rw [if_pos (by simp)] at hfe
        subst hfe
        go_wp2_with fail
        go_ret
        exact ⟨rfl, HA.out.to_below⟩
      · rw [if_neg (by simp)] at hfe
        subst hfe
        go_wp2_with fail
        go_ret
        exact ⟨rfl, HA.out.to_below⟩
    · rw [if_neg (by omega)] at hfe
      subst hfe
      have n7 : (b7 == 0) = false := by simpa using h7
      go_wp2_with fail
      go_ret
      exact ⟨rfl, HA.out.to_below⟩
  · rw [if_neg (by omega)] at hfe
    subst hfe
    have n6 : (b6 == 0) = false := by simpa using h6
    go_wp2_with fail
    go_ret
    exact ⟨rfl, HA.out.to_below⟩
end udpOneByte
namespace udpOneByte
theorem lifted (os : Os) (started : os.Started) (H : Type) (enc : TypeId × Value → H) :
    ReturnsInHanded {} Try.checked os 4 .any (Rows.udpOneByteSpec.pre6 enc Try.prog Try.f4 Rows.udpOneByteRow.domain false) (Rows.udpOneByteSpec.post enc Try.prog Try.f4 false true false false) := by
  refine returnsInHanded_of_change_sized (C := Try.checked) ownKn started (by kernel_rfl) Try.func4
    (ChangeSpec.witness6 (enc := enc) (C := Try.checked) false ⟨#[], #[.agg (csA 0 z16), .agg (csA 0 z16), .agg (csD zeroDg (.slice none 0 0)), .int .i64 0, .int .i64 0], []⟩ 8 (by kernel_rfl) (by kernel_rfl) (by kernel_rfl) (by kernel_rfl)) ?_
  intro W base args ds gs before hval0 hW _ hsz0 _
  have hsz : (DataW.weightsEach Try.prog (Try.f4.params.toList ++ Rows.udpOneByteSpec.plain.varTypes Try.prog) (ds ++ gs)).all (· ≤ reachBytes) = true := hsz0
  clear hsz0
  have hval : ∀ (j : Nat) t v, Try.f4.params[j]? = some t → args[j]? = some v → Value.okWide Try.prog W .any base t v := hval0
  have hW' := hW
  obtain ⟨p, q, hA0, hV, rfl, hfz, hnd⟩ := hW
  have hA : DataW.TrodAll enc Try.prog W 0 (fun _ => true) true Try.f4.params.toList args.toList ds p := hA0
  rw [Try.params4] at hA hval hsz
  obtain ⟨v0, vs0, d0, ds0, p0, q0, hargs, rfl, rfl, h0, r0⟩ := trodAll_cons hA
  obtain ⟨v1, vs1, d1, ds1, p1, q1, rfl, rfl, rfl, h1, r1⟩ := trodAll_cons r0
  obtain ⟨v2, vs2, d2, ds2, p2, q2, rfl, rfl, rfl, h2, r2⟩ := trodAll_cons r1
  obtain ⟨v3, vs3, d3, ds3, p3, q3, rfl, rfl, rfl, h3, r3⟩ := trodAll_cons r2
  obtain ⟨v4, vs4, d4, ds4, p4, q4, rfl, rfl, rfl, h4, r4⟩ := trodAll_cons r3
  obtain ⟨rfl, rfl, rfl⟩ := trodAll_nil r4
  obtain rfl : args = #[v0, v1, v2, v3, v4] := by cases args; simp_all
  have hV2 : DataW.TrodVars enc Try.prog W (fun _ => true) Rows.udpOneByteSpec.vars gs q := hV
  obtain ⟨rfl, rfl⟩ := trodVars_none hV2
  have k0 := h0
  have lt0 : ∀ x ∈ p0, x.block < W.heap.size := by obtain ⟨m, hm⟩ := k0; exact DataW.trod_lt m _ _ _ hm
  have z0 : ∀ m ∈ d0.weights Try.prog 24, m ≤ reachBytes := fun m hm => by
    have := List.all_eq_true.1 hsz m (DataW.weights_mem_each (j := 0) (t := 24) rfl rfl m hm)
    simpa using this
  obtain ⟨x0, rfl, w0⟩ := open_ax (hval 0 24 v0 rfl rfl) h0
  have k1 := h1
  have lt1 : ∀ x ∈ p1, x.block < W.heap.size := by obtain ⟨m, hm⟩ := k1; exact DataW.trod_lt m _ _ _ hm
  have z1 : ∀ m ∈ d1.weights Try.prog 24, m ≤ reachBytes := fun m hm => by
    have := List.all_eq_true.1 hsz m (DataW.weights_mem_each (j := 1) (t := 24) rfl rfl m hm)
    simpa using this
  obtain ⟨x1, rfl, w1⟩ := open_ax (hval 1 24 v1 rfl rfl) h1
  have k2 := h2
  have lt2 : ∀ x ∈ p2, x.block < W.heap.size := by obtain ⟨m, hm⟩ := k2; exact DataW.trod_lt m _ _ _ hm
  have z2 : ∀ m ∈ d2.weights Try.prog 27, m ≤ reachBytes := fun m hm => by
    have := List.all_eq_true.1 hsz m (DataW.weights_mem_each (j := 2) (t := 27) rfl rfl m hm)
    simpa using this
  obtain ⟨x2, dv2, rfl, w2, dl2⟩ := open_dg (hval 2 27 v2 rfl rfl) h2 z2
  obtain ⟨a3, rfl, rfl, rfl, w3⟩ := open_int Try.underlying3 (hval 3 3 v3 rfl rfl) h3
  obtain ⟨a4, rfl, rfl, rfl, w4⟩ := open_int Try.underlying3 (hval 4 3 v4 rfl rfl) h4
  clear hA0 hval0
  refine (walk x0 x1 x2 dv2 a3 a4 W w0 w1 w2 dl2 w3 w4).mono fun e W' ⟨he, bel⟩ => ?_
  subst he
  exact ⟨_, rfl, _, _, _, [], _, [], hW', trodAll_mk1 (shut_bool Try.underlying4 _), (trodAll_cons_mk (Below.trod laidOut (by kernel_rfl) (of_decide_eq_true (by kernel_rfl)) k0 bel lt0) (trodAll_cons_mk (Below.trod laidOut (by kernel_rfl) (of_decide_eq_true (by kernel_rfl)) k1 bel lt1) (trodAll_cons_mk (Below.trod laidOut (by kernel_rfl) (of_decide_eq_true (by kernel_rfl)) k2 bel lt2) (trodAll_cons_mk (shut_int Try.underlying3 w3) (trodAll_cons_mk (shut_int Try.underlying3 w4) trodAll_mk0))))), rfl, bel.frame _, fun h => by cases h⟩
theorem over : Rows.udpOneByteRow.holds Try.pinned (OpenSpec.ofChange Rows.udpOneByteSpec) :=
  OpenClaim.holds_of_wide 4 Try.f4 rfl rfl rfl rfl rfl rfl rfl ⟨rfl, rfl, rfl, rfl, rfl⟩ rfl rfl rfl rfl rfl (by kernel_rfl) Try.func4 (by kernel_rfl)
    (of_decide_eq_true (by kernel_rfl)) (by unfold Func.isWrapper; first | (rw [if_pos (by decide +kernel)]; kernel_rfl) | (rw [if_neg (by decide +kernel)]; exact ⟨rfl, rfl⟩))
    (fun os started H enc _ => lifted os started H enc)
end udpOneByte
theorem udpOneByte_holds : Rows.UdpOneByteSaid := udpOneByte.over
#print axioms udpOneByte_holds
end Go.Proofs.Ytbfpphoiapggnaa
