/-
  AddrOrder.
-/
import Derived.Test.YtclfhajapohogaaDoorKit
namespace Go.Proofs.YtclfhajapohogaaDoor
open Go.ChangeShapes Go.WideShapes Go.ChangeAt Go.RowKit
set_option linter.unusedVariables false
set_option maxHeartbeats 4000000
set_option maxRecDepth 100000

/-! The order of lists of bytes. -/
theorem cmp_self : ∀ l : List UInt8, Lib.compareBytes l l = 0
  | [] => rfl
  | a :: l => by simp [Lib.compareBytes, cmp_self l]
theorem cmp_anti : ∀ l m : List UInt8, Lib.compareBytes l m = - Lib.compareBytes m l
  | [], [] => rfl
  | [], _ :: _ => rfl
  | _ :: _, [] => rfl
  | a :: l, b :: m => by
    simp only [Lib.compareBytes]
    have ih := cmp_anti l m
    by_cases h1 : a < b
    · have h2 : ¬ b < a := UInt8.not_lt.2 (UInt8.le_of_lt h1)
      simp [h1, h2]
    · by_cases h2 : b < a
      · simp [h1, h2]
      · simp [h1, h2, ih]
theorem cmp_zero : ∀ l m : List UInt8, Lib.compareBytes l m = 0 → l = m
  | [], [], _ => rfl
  | [], _ :: _, h => by simp [Lib.compareBytes] at h
  | _ :: _, [], h => by simp [Lib.compareBytes] at h
  | a :: l, b :: m, h => by
    simp only [Lib.compareBytes] at h
    by_cases h1 : a < b
    · simp [h1] at h
    · by_cases h2 : b < a
      · simp [h1, h2] at h
      · simp only [h1, h2, if_false] at h
        have e : a = b := UInt8.le_antisymm (UInt8.not_lt.1 h2) (UInt8.not_lt.1 h1)
        rw [e, cmp_zero l m h]
theorem cmp_trans : ∀ l m n : List UInt8, Lib.compareBytes l m < 0 → Lib.compareBytes m n < 0 → Lib.compareBytes l n < 0
  | [], [], n, h, _ => by simp [Lib.compareBytes] at h
  | [], b :: m, [], _, h => by simp [Lib.compareBytes] at h
  | [], b :: m, c :: n, _, _ => by simp [Lib.compareBytes]
  | a :: l, [], n, h, _ => by simp [Lib.compareBytes] at h
  | a :: l, b :: m, [], _, h => by simp [Lib.compareBytes] at h
  | a :: l, b :: m, c :: n, h1, h2 => by
    simp only [Lib.compareBytes] at h1 h2 ⊢
    by_cases x1 : a < b
    · by_cases y1 : b < c
      · have : a < c := UInt8.lt_trans x1 y1
        simp [this]
      · by_cases y2 : c < b
        · simp [y1, y2] at h2
        · have e : b = c := UInt8.le_antisymm (UInt8.not_lt.1 y2) (UInt8.not_lt.1 y1)
          subst e; simp [x1]
    · by_cases x2 : b < a
      · simp [x1, x2] at h1
      · have e : a = b := UInt8.le_antisymm (UInt8.not_lt.1 x2) (UInt8.not_lt.1 x1)
        subst e
        simp only [x1, if_false] at h1
        by_cases y1 : a < c
        · simp [y1]
        · by_cases y2 : c < a
          · simp [y1, y2] at h2
          · simp only [y1, y2, if_false] at h2 ⊢
            exact cmp_trans l m n h1 h2
theorem bytesOf_inj {l m : List Int} (hl : ∀ y ∈ l, 0 ≤ y ∧ y ≤ 255) (hm : ∀ y ∈ m, 0 ≤ y ∧ y ≤ 255) (h : Lib.bytesOf l = Lib.bytesOf m) : l = m := by
  induction l generalizing m with
  | nil => cases m with
    | nil => rfl
    | cons b m => simp [Lib.bytesOf] at h
  | cons a l ih => cases m with
    | nil => simp [Lib.bytesOf] at h
    | cons b m =>
      simp only [Lib.bytesOf, List.map_cons, List.cons.injEq] at h
      have h1 := hl a (by simp); have h2 := hm b (by simp)
      have e : a = b := by
        have := congrArg UInt8.toNat h.1
        simp only [UInt8.toNat_ofNat'] at this
        omega
      rw [e, ih (fun y hy => hl y (by simp [hy])) (fun y hy => hm y (by simp [hy])) h.2]
theorem less_irr (v : Int) (l : List Int) : lessP v l v l = false := by simp [lessP, cmpL, cmp_self]
theorem less_one (v v' : Int) (l l' : List Int) (hl : ∀ y ∈ l, 0 ≤ y ∧ y ≤ 255) (hl' : ∀ y ∈ l', 0 ≤ y ∧ y ≤ 255) (h : ¬ (v = v' ∧ l = l')) : lessP v l v' l' = !lessP v' l' v l := by
  unfold lessP cmpL
  by_cases hv : v = v'
  · subst hv
    rw [if_pos rfl, if_pos rfl]
    have h1 := cmp_anti (Lib.bytesOf l) (Lib.bytesOf l')
    have h2 : Lib.compareBytes (Lib.bytesOf l) (Lib.bytesOf l') ≠ 0 := fun e => h ⟨rfl, bytesOf_inj hl hl' (cmp_zero _ _ e)⟩
    rw [Bool.eq_iff_iff]
    simp
    omega
  · rw [if_neg hv, if_neg (fun e => hv e.symm), Bool.eq_iff_iff]
    simp
    omega
theorem less_trans (v v' v'' : Int) (l l' l'' : List Int) (h1 : lessP v l v' l' = true) (h2 : lessP v' l' v'' l'' = true) : lessP v l v'' l'' = true := by
  unfold lessP cmpL at *
  by_cases a : v = v'
  · subst a
    rw [if_pos rfl] at h1
    by_cases b : v = v''
    · subst b
      rw [if_pos rfl] at h2 ⊢
      simp at h1 h2 ⊢
      exact cmp_trans _ _ _ h1 h2
    · rw [if_neg b] at h2 ⊢
      exact h2
  · rw [if_neg a] at h1
    by_cases b : v' = v''
    · subst b
      rw [if_neg a]
      exact h1
    · rw [if_neg b] at h2
      simp at h1 h2
      rw [if_neg (by omega)]
      simp
      omega
theorem heap3r (w : World) (ca cb cc : Array Value) (sa : ca.size = 17) (sb : cb.size = 17) (sc : cc.size = 17) : rowAt (((w.alloc (.cells ca 24)).alloc (.cells cb 24)).alloc (.cells cc 24)) w.heap.size = some ca ∧ rowAt (((w.alloc (.cells ca 24)).alloc (.cells cb 24)).alloc (.cells cc 24)) (w.heap.size + 1) = some cb ∧ rowAt (((w.alloc (.cells ca 24)).alloc (.cells cb 24)).alloc (.cells cc 24)) (w.heap.size + 1 + 1) = some cc :=
  ⟨rowAt_of (heap3 w _ _ _).1 sa, rowAt_of (heap3 w _ _ _).2.1 sb, rowAt_of (heap3 w _ _ _).2.2 sc⟩
namespace addrOrder
theorem walk (v0 : Int) (l0 : List Int) (v1 : Int) (l1 : List Int) (v2 : Int) (l2 : List Int) (W : World) (hg : Glob W) (n0 : l0.length = 16) (b0 : ∀ y ∈ l0, 0 ≤ y ∧ y ≤ 255) (n1 : l1.length = 16) (b1 : ∀ y ∈ l1, 0 ≤ y ∧ y ≤ 255) (n2 : l2.length = 16) (b2 : ∀ y ∈ l2, 0 ≤ y ∧ y ≤ 255) :
    Calls Tryd.prog 3 #[.agg (csA v0 l0), .agg (csA v1 l1), .agg (csA v2 l2)] W fun e W' => e = .returned (.bool true) ∧ Below W.heap.size W W' := by
  obtain ⟨ca, hca⟩ : ∃ c, c = csA v0 l0 := ⟨_, rfl⟩
  obtain ⟨cb, hcb⟩ : ∃ c, c = csA v1 l1 := ⟨_, rfl⟩
  obtain ⟨cc, hcc⟩ : ∃ c, c = csA v2 l2 := ⟨_, rfl⟩
  obtain ⟨x, hx⟩ : ∃ b, b = lessP v0 l0 v1 l1 := ⟨_, rfl⟩
  obtain ⟨y, hy⟩ : ∃ b, b = lessP v1 l1 v0 l0 := ⟨_, rfl⟩
  obtain ⟨z, hz⟩ : ∃ b, b = lessP v1 l1 v2 l2 := ⟨_, rfl⟩
  obtain ⟨u, hu⟩ : ∃ b, b = lessP v0 l0 v2 l2 := ⟨_, rfl⟩
  obtain ⟨q, hq⟩ : ∃ b, b = (decide (v0 = v1) && eqL l0 l1) := ⟨_, rfl⟩
  have HAA : Hid (∀ W, Calls Tryd.prog 10 #[.agg ca, .agg ca] W fun e w' => e = .returned (.bool false) ∧ Below W.heap.size W w') := Lib.hid (fun W => by rw [hca, ← less_irr v0 l0]; exact less_c v0 v0 l0 l0 n0 n0 W)
  have HAB : Hid (∀ W, Calls Tryd.prog 10 #[.agg ca, .agg cb] W fun e w' => e = .returned (.bool x) ∧ Below W.heap.size W w') := Lib.hid (fun W => by rw [hca, hcb, hx]; exact less_c v0 v1 l0 l1 n0 n1 W)
  have HBA : Hid (∀ W, Calls Tryd.prog 10 #[.agg cb, .agg ca] W fun e w' => e = .returned (.bool y) ∧ Below W.heap.size W w') := Lib.hid (fun W => by rw [hca, hcb, hy]; exact less_c v1 v0 l1 l0 n1 n0 W)
  have HBC : Hid (∀ W, Calls Tryd.prog 10 #[.agg cb, .agg cc] W fun e w' => e = .returned (.bool z) ∧ Below W.heap.size W w') := Lib.hid (fun W => by rw [hcb, hcc, hz]; exact less_c v1 v2 l1 l2 n1 n2 W)
  have HAC : Hid (∀ W, Calls Tryd.prog 10 #[.agg ca, .agg cc] W fun e w' => e = .returned (.bool u) ∧ Below W.heap.size W w') := Lib.hid (fun W => by rw [hca, hcc, hu]; exact less_c v0 v2 l0 l2 n0 n2 W)
  have heq : ∀ w, (Op.equalIn 10000 24 (.agg ca) (.agg cb)).run Tryd.prog w = .ok q w := fun w => by rw [hca, hcb, hq]; exact eq24 v0 v1 l0 l1 n0 n1 w
  have hgd := guard24
  have sa : ca.size = 17 := by rw [hca]; exact csA_size n0
  have sb : cb.size = 17 := by rw [hcb]; exact csA_size n1
  have sc : cc.size = 17 := by rw [hcc]; exact csA_size n2
  have HL : Hid ((q = true → x = false ∧ y = false) ∧ (q = false → x = !y) ∧ (x = true → z = true → u = true)) := Lib.hid ⟨fun h => by
      rw [hq] at h; simp at h
      obtain ⟨rfl, h⟩ := h
      have := eqL_true h; subst this
      exact ⟨by rw [hx]; exact less_irr _ _, by rw [hy]; exact less_irr _ _⟩, fun h => by
      rw [hx, hy]
      refine less_one v0 v1 l0 l1 b0 b1 (fun e => ?_)
      rw [hq, e.1, e.2, eqL_self] at h; simp at h, fun h1 h2 => by rw [hu]; exact less_trans _ _ _ _ _ _ (hx ▸ h1) (hz ▸ h2)⟩
  have HG : Hid (Glob W) := Lib.hid hg
  obtain ⟨r1, r2, r3⟩ := heap3r W ca cb cc sa sb sc
  have hsa : SA W W.heap.size (W.heap.size + 1) (W.heap.size + 1 + 1) ca cb cc (((W.alloc (.cells ca 24)).alloc (.cells cb 24)).alloc (.cells cc 24)) := ⟨r1, r2, r3, ((hg.alloc _).alloc _).alloc _, (((Below.refl _ _).alloc (Nat.le_refl _) _).alloc (by simp) _).alloc (by rw [sz2]; omega) _⟩
  rw [← hca, ← hcb, ← hcc]
  clear hca hcb hcc hx hy hz hu hq hg r1 r2 r3 b0 b1 b2 n0 n1 n2
  have HAL : Hid (∀ W, Glob W → Calls Tryd.prog 9 #[] W fun e w' => e = .returned (.bool true) ∧ Below W.heap.size W w') := Lib.hid (fun W hW => alive_c W hW)
  go_enter Tryd.func3, Tryd.ntmps3
  go_wp2_with (first
    | (refine wpList_load24 rfl _ rfl _ rfl _ (by assumption) ?_)
    | (go_at_call 9; refine (HAL.out _ hsa.2.2.2.1).mono ?_; rintro e t1 ⟨rfl, hb⟩; have hs1 := hsa.on hb; have z1 := hs1.1; have z2 := hs1.2.1; have z3 := hs1.2.2.1; clear hb hsa; refine Hid.out ?_))
  refine Lib.hid ?_
  go_wp2_with (first
    | (refine wpList_load24 rfl _ rfl _ rfl _ (by assumption) ?_)
    | (go_at_call 10; refine (HAA.out _).mono ?_; rintro e t2 ⟨rfl, hb⟩; have hs2 := hs1.on hb; have z1 := hs2.1; have z2 := hs2.2.1; have z3 := hs2.2.2.1; clear hb hs1; refine Hid.out ?_))
  refine Lib.hid ?_
  go_wp2_with (first
    | (refine wpList_load24 rfl _ rfl _ rfl _ (by assumption) ?_)
    | (go_at_call 10; refine (HAB.out _).mono ?_; rintro e t3 ⟨rfl, hb⟩; have hs3 := hs2.on hb; have z1 := hs3.1; have z2 := hs3.2.1; have z3 := hs3.2.2.1; clear hb hs2; refine Hid.out ?_))
  refine Lib.hid ?_
  go_wp2_with (first
    | (refine wpList_load24 rfl _ rfl _ rfl _ (by assumption) ?_)
    | (go_at_call 10; refine (HBA.out _).mono ?_; rintro e t4 ⟨rfl, hb⟩; have hs4 := hs3.on hb; have z1 := hs4.1; have z2 := hs4.2.1; have z3 := hs4.2.2.1; clear hb hs3; refine Hid.out ?_))
  refine Lib.hid ?_
  cases q
  · have hxy := HL.out.2.1 rfl
    subst hxy
    cases y
    · go_wp2_with (first
        | (refine wpList_load24 rfl _ rfl _ rfl _ (by assumption) ?_)
        | (go_at_call 10; refine (HBC.out _).mono ?_; rintro e t5 ⟨rfl, hb⟩; have hs5 := hs4.on hb; have z1 := hs5.1; have z2 := hs5.2.1; have z3 := hs5.2.2.1; clear hb hs4; refine Hid.out ?_))
      refine Lib.hid ?_
      cases z
      · go_wp2_with (first
          | (refine wpList_load24 rfl _ rfl _ rfl _ (by assumption) ?_))
        go_ret
        exact ⟨rfl, hs5.2.2.2.2⟩
      · have hu := HL.out.2.2 rfl rfl
        subst hu
        go_wp2_with (first
          | (refine wpList_load24 rfl _ rfl _ rfl _ (by assumption) ?_)
          | (go_at_call 10; refine (HAC.out _).mono ?_; rintro e t6 ⟨rfl, hb⟩; have hs6 := hs5.on hb; clear hb hs5))
        go_ret
        exact ⟨rfl, hs6.2.2.2.2⟩
    · go_wp2_with (first
        | (refine wpList_load24 rfl _ rfl _ rfl _ (by assumption) ?_))
      go_ret
      exact ⟨rfl, hs4.2.2.2.2⟩
  · obtain ⟨rfl, rfl⟩ := HL.out.1 rfl
    go_wp2_with (first
      | (refine wpList_load24 rfl _ rfl _ rfl _ (by assumption) ?_))
    go_ret
    exact ⟨rfl, hs4.2.2.2.2⟩
end addrOrder
namespace addrOrder
theorem contract (H : Type) (enc : TypeId × Value → H) (W : World) (base : Nat) (args : Array Value) (ds gs : List (DataW H)) (before : List MemPlace)
    (hval0 : ∀ (j : Nat) t v, Tryd.f3.params[j]? = some t → args[j]? = some v → Value.okWide Tryd.prog W .any base t v)
    (hW : DataW.Whole enc Tryd.prog Tryd.f3.params.toList Rows.addrOrderSpec.vars false W args.toList ds gs before)
    (hL : laidMetH Tryd.prog Rows.addrOrderRow.laid W) (hS : W.ShapedOpen Tryd.prog) :
    Calls Tryd.prog 3 args W fun e W' => ∃ v, e = .returned v ∧ Rows.addrOrderSpec.post enc Tryd.prog Tryd.f3 false true false false W args v W' := by
  have hval := hval0
  have hW' := hW
  obtain ⟨p, q, hA0, hV, rfl, hfz, hnd⟩ := hW
  have hA : DataW.TrodAll enc Tryd.prog W 0 (fun _ => true) true Tryd.f3.params.toList args.toList ds p := hA0
  rw [Tryd.params3] at hA hval
  obtain ⟨v0, vs0, d0, ds0, p0, q0, hargs, rfl, rfl, h0, r0⟩ := trodAll_cons hA
  obtain ⟨v1, vs1, d1, ds1, p1, q1, rfl, rfl, rfl, h1, r1⟩ := trodAll_cons r0
  obtain ⟨v2, vs2, d2, ds2, p2, q2, rfl, rfl, rfl, h2, r2⟩ := trodAll_cons r1
  obtain ⟨rfl, rfl, rfl⟩ := trodAll_nil r2
  obtain rfl : args = #[v0, v1, v2] := by cases args; simp_all
  obtain ⟨rfl, rfl⟩ := trodVars_none hV
  have k0 := h0
  have lt0 : ∀ x ∈ p0, x.block < W.heap.size := by obtain ⟨m, hm⟩ := k0; exact DataW.trod_lt m _ _ _ hm
  obtain ⟨x0, l0, rfl, n0, b0, w0⟩ := open_addr (hval 0 24 v0 rfl rfl) h0
  have k1 := h1
  have lt1 : ∀ x ∈ p1, x.block < W.heap.size := by obtain ⟨m, hm⟩ := k1; exact DataW.trod_lt m _ _ _ hm
  obtain ⟨x1, l1, rfl, n1, b1, w1⟩ := open_addr (hval 1 24 v1 rfl rfl) h1
  have k2 := h2
  have lt2 : ∀ x ∈ p2, x.block < W.heap.size := by obtain ⟨m, hm⟩ := k2; exact DataW.trod_lt m _ _ _ hm
  obtain ⟨x2, l2, rfl, n2, b2, w2⟩ := open_addr (hval 2 24 v2 rfl rfl) h2
  clear hA0 hval0
  refine (walk x0 l0 x1 l1 x2 l2 W (glob_of hL hS) n0 b0 n1 b1 n2 b2).mono fun e W' ⟨he, bel⟩ => ?_
  subst he
  exact ⟨_, rfl, _, _, _, [], _, [], hW', trodAll_mk1 (shut_bool Tryd.underlying4 _), (trodAll_cons_mk (Below.trod laidOut (by kernel_rfl) (of_decide_eq_true (by kernel_rfl)) k0 bel lt0) (trodAll_cons_mk (Below.trod laidOut (by kernel_rfl) (of_decide_eq_true (by kernel_rfl)) k1 bel lt1) (trodAll_cons_mk (Below.trod laidOut (by kernel_rfl) (of_decide_eq_true (by kernel_rfl)) k2 bel lt2) trodAll_mk0))), rfl, bel.frame _, fun h => by cases h⟩
theorem laid_met (os : Os) : laidMet Tryd.prog Rows.addrOrderRow.laid ((laidWorld Tryd.prog os).forCall (fun _ _ => 0) ⟨#[], #[.agg (csA 0 z16), .agg (csA 0 z16), .agg (csA 0 z16)], []⟩).memory :=
  laidMet_of_run' 8 (by kernel_rfl) (by kernel_rfl)
theorem reads (os : Os) {H : Type} (enc : TypeId × Value → H) : ∃ places, DataW.whole enc Tryd.prog ((laidWorld Tryd.prog os).forCall (fun _ _ => 0) ⟨#[], #[.agg (csA 0 z16), .agg (csA 0 z16), .agg (csA 0 z16)], []⟩).memory Tryd.f3.params.toList Rows.addrOrderSpec.vars false #[.agg (csA 0 z16), .agg (csA 0 z16), .agg (csA 0 z16)].toList 8 = some ([.agg [.lit (.int .i64 0), .agg [.lit (.int .u8 0), .lit (.int .u8 0), .lit (.int .u8 0), .lit (.int .u8 0), .lit (.int .u8 0), .lit (.int .u8 0), .lit (.int .u8 0), .lit (.int .u8 0), .lit (.int .u8 0), .lit (.int .u8 0), .lit (.int .u8 0), .lit (.int .u8 0), .lit (.int .u8 0), .lit (.int .u8 0), .lit (.int .u8 0), .lit (.int .u8 0)]], .agg [.lit (.int .i64 0), .agg [.lit (.int .u8 0), .lit (.int .u8 0), .lit (.int .u8 0), .lit (.int .u8 0), .lit (.int .u8 0), .lit (.int .u8 0), .lit (.int .u8 0), .lit (.int .u8 0), .lit (.int .u8 0), .lit (.int .u8 0), .lit (.int .u8 0), .lit (.int .u8 0), .lit (.int .u8 0), .lit (.int .u8 0), .lit (.int .u8 0), .lit (.int .u8 0)]], .agg [.lit (.int .i64 0), .agg [.lit (.int .u8 0), .lit (.int .u8 0), .lit (.int .u8 0), .lit (.int .u8 0), .lit (.int .u8 0), .lit (.int .u8 0), .lit (.int .u8 0), .lit (.int .u8 0), .lit (.int .u8 0), .lit (.int .u8 0), .lit (.int .u8 0), .lit (.int .u8 0), .lit (.int .u8 0), .lit (.int .u8 0), .lit (.int .u8 0), .lit (.int .u8 0)]]], [], places) :=
  ⟨[], by kernel_rfl⟩
theorem lifted (os : Os) (started : os.Started) (H : Type) (enc : TypeId × Value → H) (F : Stop.Interp) :
    ReturnsInHanded {} Tryd.checked os 3 .any ((OpenSpec.ofChange Rows.addrOrderSpec).preRow enc Tryd.prog Tryd.f3 Rows.addrOrderRow.domain false Rows.addrOrderRow.laid) (((OpenSpec.ofChange Rows.addrOrderSpec).at F).post enc Tryd.prog Tryd.f3 false true false false) := by
  obtain ⟨places, hx⟩ := reads os enc
  refine returnsInHanded_of_row (C := Tryd.checked) (s := OpenSpec.ofChange Rows.addrOrderSpec) ownKn started (by kernel_rfl) Tryd.func3
    (witness_row_at (enc := enc) (C := Tryd.checked) false (laidWorld Tryd.prog os) #[.agg (csA 0 z16), .agg (csA 0 z16), .agg (csA 0 z16)] rfl (by kernel_rfl) (by kernel_rfl) (by kernel_rfl)
      (OpenSpec.preRow_of_cond 8 hx (by kernel_rfl) (fun k hk => by cases hk) (by kernel_rfl) (laid_met os))) ?_
  intro W base args ds gs before hval hW _ hcond _ hL hS _
  exact contract H enc W base args ds gs before hval hW hL hS
theorem said : Rows.AddrOrderSaid :=
  OpenClaim.holds_of_cond 3 Tryd.f3 rfl rfl rfl rfl rfl rfl rfl ⟨rfl, rfl, rfl, rfl, rfl⟩ rfl rfl rfl rfl rfl (by kernel_rfl) Tryd.func3 (by kernel_rfl)
    (of_decide_eq_true (by kernel_rfl)) (by unfold Func.isWrapper; first | (rw [if_pos (by decide +kernel)]; kernel_rfl) | (rw [if_neg (by decide +kernel)]; exact ⟨rfl, rfl⟩))
    (fun os started H enc _ F => by rw [OpenClaim.pre_eq_preRow]; exact lifted os started H enc F)
theorem plain (f : FuncId) (fn : Func) (hf : Tryd.pinned.checked.prog.funcNamed "mosaic/mosaiclaw03.AddrOrder" = some f) (hfn : Tryd.pinned.checked.prog.funcs[f]? = some fn) :
    false = Tryd.pinned.checked.prog.looks [] ∧ ∀ (j : Nat) t, fn.params[j]? = some t → Tryd.pinned.checked.prog.wantsStandIn t = false := by
  obtain rfl : f = 3 := Option.some.inj ((show Tryd.prog.funcNamed "mosaic/mosaiclaw03.AddrOrder" = some 3 by kernel_rfl).symm.trans hf) |>.symm
  obtain rfl : fn = Tryd.f3 := (Option.some.inj (Tryd.func3.symm.trans hfn)).symm
  refine ⟨by kernel_rfl, fun j t ht => ?_⟩
  rw [Tryd.params3] at ht
  have hm := Array.mem_of_getElem? ht
  simp only [List.mem_toArray, List.mem_cons, List.not_mem_nil, or_false] at hm
  have h24 : Tryd.prog.wantsStandIn 24 = false := by kernel_rfl
  have h3 : Tryd.prog.wantsStandIn 3 = false := by kernel_rfl
  have h9 : Tryd.prog.wantsStandIn 9 = false := by kernel_rfl
  rcases hm with rfl | rfl | rfl
  all_goals first | exact h24 | exact h3 | exact h9
theorem card : Rows.AddrOrderCardSaid :=
  Claim7.holds_tied_plain_at .later [] _ _ _ _ said (fun _ h => by cases h) (by kernel_rfl) (fun _ h => by cases h) addrOrder_row_tie rfl ⟨rfl, rfl⟩ (by kernel_rfl) rfl plain (by kernel_rfl)
end addrOrder
theorem addrOrder_holds : Rows.AddrOrderCardSaid := addrOrder.card
#print axioms addrOrder_holds
end Go.Proofs.YtclfhajapohogaaDoor

