/-
  AddrBack (P3.2): texts and addresses, there and back.
-/
import Derived.Test.YtclfhajapohogaaDoorRows4
import Derived.Test.YtclfhajapohogaaDoorStr
import Derived.Test.YtclfhajapohogaaDoorBack4
import Derived.Test.YtclfhajapohogaaDoorBack5
namespace Go.Proofs.YtclfhajapohogaaDoor
open Go.ChangeShapes Go.WideShapes Go.ChangeAt Go.RowKit
set_option linter.unusedVariables false
set_option maxHeartbeats 4000000
set_option maxRecDepth 100000

theorem eq24_self {c : Array Value} {v : Int} {l : List Int} (hc : c = csA v l) (hl : l.length = 16) (w : World) : (Op.equalIn 10000 24 (.agg c) (.agg c)).run Tryd.prog w = .ok true w := by
  rw [hc, eq24 _ _ _ _ hl hl w, eqL_self, decide_eq_true rfl]; rfl
theorem rem_nat (n : Int) (k : Nat) (hk : 0 < k) : ∃ m : Nat, Int.tmod (IntKind.u64.wrap n) (k : Int) = (m : Int) ∧ m < k := by
  have h0 : 0 ≤ IntKind.u64.wrap n := by simp [IntKind.wrap, IntKind.bits, IntKind.signed]; omega
  obtain ⟨z, hz⟩ : ∃ z : Nat, IntKind.u64.wrap n = (z : Int) := ⟨(IntKind.u64.wrap n).toNat, by omega⟩
  exact ⟨z % k, by rw [hz]; simp [Int.tmod], Nat.mod_lt _ hk⟩
namespace addrBack
theorem walk (v : Int) (l : List Int) (s : ByteArray) (n1 n2 n3 : Int) (W : World) (hg : Glob W) (hl : l.length = 16) (hb : ∀ x ∈ l, 0 ≤ x ∧ x ≤ 255) (hs : s.size < 4294967281) (w1 : (Lit.int .i64 n1).wf = true) (w2 : (Lit.int .i64 n2).wf = true) (w3 : (Lit.int .i64 n3).wf = true) :
    Calls Tryd.prog 6 #[.agg (csA v l), .string s, .int .i64 n1, .int .i64 n2, .int .i64 n3] W fun e W' => e = .returned (.bool true) ∧ Below W.heap.size W W' := by
  obtain ⟨t, ht⟩ : ∃ t, t = s.data.toList := ⟨_, rfl⟩
  obtain ⟨hxl, hxb⟩ := parseP_bytes t
  obtain ⟨px, hpx⟩ : ∃ p, p = printP (parseP t).1 (parseP t).2.1 := ⟨_, rfl⟩
  have hpxl : px.length ≤ 700 := by rw [hpx]; exact printP_len hxl hxb
  obtain ⟨pa, hpa⟩ : ∃ p, p = printP v l := ⟨_, rfl⟩
  have hpal : pa.length ≤ 700 := by rw [hpa]; exact printP_len hl hb
  obtain ⟨ca, hca⟩ : ∃ c, c = csA v l := ⟨_, rfl⟩
  obtain ⟨cx, hcx⟩ : ∃ c, c = csA (parseP t).1 (parseP t).2.1 := ⟨_, rfl⟩
  obtain ⟨er, her⟩ : ∃ e, e = (parseP t).2.2 := ⟨_, rfl⟩
  obtain ⟨cy, hcy⟩ : ∃ c, c = csA (parseP px).1 (parseP px).2.1 := ⟨_, rfl⟩
  obtain ⟨fy, hfy⟩ : ∃ e, e = (parseP px).2.2 := ⟨_, rfl⟩
  obtain ⟨cb, hcb⟩ : ∃ c, c = csA (parseP pa).1 (parseP pa).2.1 := ⟨_, rfl⟩
  obtain ⟨eb, heb⟩ : ∃ e, e = (parseP pa).2.2 := ⟨_, rfl⟩
  obtain ⟨vx, hvx⟩ : ∃ b, b = validP (parseP t).1 (parseP t).2.1 := ⟨_, rfl⟩
  obtain ⟨va, hva⟩ : ∃ b, b = validP v l := ⟨_, rfl⟩
  have HAL : Hid (∀ W, Glob W → Calls Tryd.prog 9 #[] W fun e w' => e = .returned (.bool true) ∧ Below W.heap.size W w') := Lib.hid (fun W hW => alive_c W hW)
  have HP : Hid (∀ W, Glob W → Calls Tryd.prog 16 #[.string s] W fun e w' => e = .returned (.tuple #[.agg cx, .int .i64 er]) ∧ Below W.heap.size W w') := Lib.hid (fun W hW => by rw [hcx, her, ht]; exact parse_c s hs W hW)
  have HX : Hid (∀ W, Glob W → Calls Tryd.prog 17 #[.agg cx] W fun e w' => e = .returned (.string ⟨px.toArray⟩) ∧ Below W.heap.size W w') := Lib.hid (fun W hW => by rw [hcx, hpx]; exact print_c _ _ hxl hxb W hW)
  have HY : Hid (∀ W, Glob W → Calls Tryd.prog 16 #[.string ⟨px.toArray⟩] W fun e w' => e = .returned (.tuple #[.agg cy, .int .i64 fy]) ∧ Below W.heap.size W w') := Lib.hid (fun W hW => by rw [hcy, hfy]; exact parse_at px hpxl W hW)
  have HVX : Hid (∀ W, Calls Tryd.prog 14 #[.agg cx] W fun e w' => e = .returned (.bool vx) ∧ Below W.heap.size W w') := Lib.hid (fun W => by rw [hcx, hvx]; exact valid_c _ _ hxl W)
  have HVA : Hid (∀ W, Calls Tryd.prog 14 #[.agg ca] W fun e w' => e = .returned (.bool va) ∧ Below W.heap.size W w') := Lib.hid (fun W => by rw [hca, hva]; exact valid_c _ _ hl W)
  have HA : Hid (∀ W, Glob W → Calls Tryd.prog 17 #[.agg ca] W fun e w' => e = .returned (.string ⟨pa.toArray⟩) ∧ Below W.heap.size W w') := Lib.hid (fun W hW => by rw [hca, hpa]; exact print_c _ _ hl hb W hW)
  have HB : Hid (∀ W, Glob W → Calls Tryd.prog 16 #[.string ⟨pa.toArray⟩] W fun e w' => e = .returned (.tuple #[.agg cb, .int .i64 eb]) ∧ Below W.heap.size W w') := Lib.hid (fun W hW => by rw [hcb, heb]; exact parse_at pa hpal W hW)
  have ASKX : Hid ((er = 30 ∧ cx = csA 0 z16) ∨ (er = 0 ∧ cy = cx ∧ fy = 0 ∧ vx = true)) := Lib.hid (by
    rcases parseP_cases t with h | ⟨h0, h1, h2⟩
    · exact .inl ⟨by rw [her, h], by rw [hcx, h]⟩
    · have hq := parse_print hxl hxb h1
      rw [← hpx] at hq
      exact .inr ⟨by rw [her, h0], by rw [hcy, hcx, hq], by rw [hfy, hq], by rw [hvx, h1]⟩)
  have ASKA : Hid ((va = false ∧ pa = []) ∨ (va = true ∧ cb = ca ∧ eb = 0)) := Lib.hid (by
    cases h1 : validP v l with
    | false => exact .inl ⟨by rw [hva, h1], by rw [hpa, printP, if_pos h1]⟩
    | true =>
      have hq := parse_print hl hb h1
      rw [← hpa] at hq
      exact .inr ⟨by rw [hva, h1], by rw [hcb, hca, hq], by rw [heb, hq]⟩)
  have hex : ∀ w, (Op.equalIn 10000 24 (.agg cx) (.agg cx)).run Tryd.prog w = .ok true w := eq24_self hcx hxl
  have hea : ∀ w, (Op.equalIn 10000 24 (.agg ca) (.agg ca)).run Tryd.prog w = .ok true w := eq24_self hca hl
  have hgd := guard24
  have sa : ca.size = 17 := by rw [hca]; exact csA_size hl
  have sx : cx.size = 17 := by rw [hcx]; exact csA_size hxl
  have ox : cx.all (·.oneCell') = true := by rw [hcx]; exact csA_one _ _
  have sy : cy.size = 17 := by rw [hcy]; exact csA_size (parseP_bytes px).1
  have oy : cy.all (·.oneCell') = true := by rw [hcy]; exact csA_one _ _
  have oa : ca.all (·.oneCell') = true := by rw [hca]; exact csA_one _ _
  have ca0 : ca[0]? = some (.int .i64 v) := by rw [hca]; exact csA_zero v l
  have hz1 : (csA 0 z16).size = 17 := rfl
  rw [csA_z] at hz1
  have HRS : RS W [(W.heap.size, ca)] (W.alloc (.cells ca 24)) := (show RS W [] W from ⟨hg, Below.refl _ _⟩).add ca sa
  rw [← hca]
  have HCA := Lib.hid hca
  have HVV := Lib.hid hva
  clear ht hpx hpa hca hcx her hcy hfy hcb heb hvx hva hxl hxb hg hs
  go_enter Tryd.func6, Tryd.ntmps6
  go_wp2_with (go_at_call 9; generalize W.alloc (.cells ca 24) = V0 at *; refine (HAL.out _ HRS.base.1).mono ?_; rintro e t1 ⟨rfl, hb⟩; have hs1 := HRS.on hb; clear hb HRS; refine Hid.out ?_)
  refine Lib.hid ?_
  go_wp2_with (first
    | (go_at_call 16; refine (HP.out _ hs1.base.1).mono ?_; rintro e t2 ⟨rfl, hb⟩; have hs2 := (hs1.on hb).add cx sx; clear hb hs1)
    | (refine wpList_store24 rfl _ _ rfl rfl _ rfl sx hz1 ox ?_; refine Hid.out ?_))
  refine Lib.hid ?_
  generalize t2.alloc (.cells cx 24) = V2 at *
  obtain ⟨A, hA⟩ : ∃ A, t2.heap.size = A := ⟨_, rfl⟩
  rw [hA] at hs2
  simp only [hA]
  clear hA
  have z0 := hs2.1
  rcases ASKX.out with ⟨rfl, h0⟩ | ⟨rfl, h1, rfl, rfl⟩
  · have hez : ∀ w, (Op.equalIn 10000 24 (.agg cx) (.agg #[.int .i64 0, .int .u8 0, .int .u8 0, .int .u8 0, .int .u8 0, .int .u8 0, .int .u8 0, .int .u8 0, .int .u8 0, .int .u8 0, .int .u8 0, .int .u8 0, .int .u8 0, .int .u8 0, .int .u8 0, .int .u8 0, .int .u8 0])).run Tryd.prog w = .ok true w := by rw [← csA_z, ← h0]; exact hex
    clear h0 ASKX
    go_wp2_with (first
      | (go_at_call 17; refine (HX.out _ hs2.base.1).mono ?_; rintro e t3 ⟨rfl, hb3⟩; have hs3 := hs2.on hb3; clear hb3 hs2; refine Hid.out ?_)
      | (refine wpList_load24 rfl _ rfl _ rfl _ (by assumption) ?_))
    refine Lib.hid ?_
    go_wp2_with (first
      | (go_at_call 16; refine (HY.out _ hs3.base.1).mono ?_; rintro e t4 ⟨rfl, hb4⟩; have hs4 := (hs3.on hb4).add cy sy; clear hb4 hs3)
      | (refine wpList_store24 rfl _ _ rfl rfl _ rfl sy hz1 oy ?_; refine Hid.out ?_))
    refine Lib.hid ?_
    have r0 := hs4.2.2.1
    have hsN : RS W [(W.heap.size, ca)] (t4.alloc (.cells cy 24)) := hs4.2.2
    clear hs4 z0 hez
    generalize t4.alloc (.cells cy 24) = V4 at *
    go_wp2_with (first
      | (go_at_call 14; refine (HVA.out _).mono ?_; rintro e t5 ⟨rfl, hb5⟩; have hs5 := hsN.on hb5; clear hb5 hsN; refine Hid.out ?_)
      | (refine wpList_load24 rfl _ rfl _ rfl _ (by assumption) ?_))
    refine Lib.hid ?_
    clear r0
    rcases ASKA.out with ⟨rfl, rfl⟩ | ⟨rfl, h2, rfl⟩
    · clear ASKA
      have q0 := hs5.1
      go_wp2_with (first
        | (go_at_call 17; refine (HA.out _ hs5.base.1).mono ?_; rintro e t6 ⟨rfl, hb6⟩; have hs6 := (hs5.on hb6).base.2; clear hb6 hs5; refine Hid.out ?_)
        | (refine wpList_load24 rfl _ rfl _ rfl _ (by assumption) ?_))
      refine Lib.hid ?_
      have HF := Lib.hid hs6
      clear hs6
      go_wp2_with fail
      go_ret
      exact ⟨rfl, HF.out⟩
    · clear ASKA
      subst h2
      have q0 := hs5.1
      go_wp2_with (first
        | (go_at_call 17; refine (HA.out _ hs5.base.1).mono ?_; rintro e t6 ⟨rfl, hb6⟩; have hs6 := hs5.on hb6; clear hb6 hs5; refine Hid.out ?_)
        | (refine wpList_load24 rfl _ rfl _ rfl _ (by assumption) ?_))
      refine Lib.hid ?_
      go_wp2_with (first
        | (go_at_call 16; refine (HB.out _ hs6.base.1).mono ?_; rintro e t7 ⟨rfl, hb7⟩; have hs7 := (hs6.on hb7).add cb sa; clear hb7 hs6)
        | (refine wpList_store24 rfl _ _ rfl rfl _ rfl sa hz1 oa ?_; refine Hid.out ?_))
      refine Lib.hid ?_
      generalize t7.alloc (.cells cb 24) = V7 at *
      obtain ⟨B, hB⟩ : ∃ A, t7.heap.size = A := ⟨_, rfl⟩
      rw [hB] at hs7
      simp only [hB]
      clear hB q0
      have q1 := hs7.1
      have q2 := hs7.2.1
      have q3 : V7.cell? ⟨W.heap.size, 0, none⟩ = some (.int .i64 v) := rowAt_cell q2 0 _ ca0
      by_cases hv4 : v = 4
      · subst hv4
        have HF := Lib.hid hs7.base.2
        clear hs7
        go_wp2_with (refine wpList_load24 rfl _ rfl _ rfl _ (by assumption) ?_)
        go_ret
        exact ⟨rfl, HF.out⟩
      · have hv4' : (v == 4) = false := by simpa using hv4
        obtain ⟨m1, d1, b1⟩ : ∃ m : Nat, Int.tmod (IntKind.u64.wrap n1) 4 = (m : Int) ∧ m < 4 := rem_nat n1 4 (by decide)
        obtain ⟨m2, d2, b2⟩ : ∃ m : Nat, Int.tmod (IntKind.u64.wrap n2) 8 = (m : Int) ∧ m < 8 := rem_nat n2 8 (by decide)
        obtain ⟨m3, d3, b3⟩ : ∃ m : Nat, Int.tmod (IntKind.u64.wrap n3) 9 = (m : Int) ∧ m < 9 := rem_nat n3 9 (by decide)
        have HL : Hid (∀ up W, Calls Tryd.prog 18 #[.agg cb, .int .i64 (1 + (m1 : Int)), .bool up, .int .i64 (m2 : Int), .int .i64 (m3 : Int)] W fun e w' => ∃ t : List UInt8, e = .returned (.string ⟨t.toArray⟩) ∧ (∀ W, Glob W → Calls Tryd.prog 16 #[.string ⟨t.toArray⟩] W fun e w' => e = .returned (.tuple #[.agg cb, .int .i64 0]) ∧ Below W.heap.size W w') ∧ Below W.heap.size W w') := Lib.hid (fun up W => by
          have h6 : v = 6 := by have := HVV.out; simpa [validP, hv4] using this.symm
          have := long_c v l hl hb (1 + m1) m2 m3 up (by omega) (by omega) b2 (by omega) W
          rw [show (1 + (m1 : Int)) = ((1 + m1 : Nat) : Int) from by omega, HCA.out]
          refine this.mono ?_
          rintro e w' ⟨t, he, hp, ht, hb'⟩
          refine ⟨t, he, fun W hW => ?_, hb'⟩
          have := parse_at t (by omega) W hW
          rw [hp] at this
          rw [h6]
          exact this)
        have HS7 : Hid (RS W [(W.heap.size, cb)] V7) := Lib.hid hs7.2
        clear hs7 hl hb
        have k1 : IntKind.i64.wrap (m1 : Int) = (m1 : Int) := by simp [IntKind.wrap, IntKind.bits, IntKind.signed]; omega
        have k2 : IntKind.i64.wrap (m2 : Int) = (m2 : Int) := by simp [IntKind.wrap, IntKind.bits, IntKind.signed]; omega
        have k3 : IntKind.i64.wrap (m3 : Int) = (m3 : Int) := by simp [IntKind.wrap, IntKind.bits, IntKind.signed]; omega
        have k4 : IntKind.i64.wrap (1 + (m1 : Int)) = 1 + (m1 : Int) := by simp [IntKind.wrap, IntKind.bits, IntKind.signed]; omega
        go_wp2_with (refine wpList_load24 rfl _ rfl _ rfl _ (by assumption) ?_)
        clear q1 q2 q3
        go_loopw [18] (fun kv wr => ∃ k : Nat, k ≤ 2 ∧ kv = .int .i64 (k : Int) ∧ RS W [(W.heap.size, cb)] wr) (fun kv _ => 2 - (intOf kv).toNat)
        case atStart => exact ⟨0, by omega, rfl, HS7.out⟩
        case round =>
          obtain ⟨k, hk, rfl, hR⟩ := hrel
          have p0 := hR.1
          rcases (show k = 0 ∨ k = 1 ∨ k = 2 from by omega) with rfl | rfl | rfl
          · go_wp2_with (first
              | (go_at_call 18; refine (HL.out true _).mono ?_; rintro e ta ⟨tx, rfl, HTX, hba⟩; have hsa := hR.on hba; have HT := Lib.hid HTX; clear hba hR HTX p0; refine Hid.out ?_)
              | (refine wpList_load24 rfl _ rfl _ rfl _ (by assumption) ?_))
            refine Lib.hid ?_
            go_wp2_with (first
              | (go_at_call 16; refine (HT.out _ hsa.base.1).mono ?_; rintro e tb ⟨rfl, hbb⟩; have hsb := (hsa.on hbb).add cb sa; clear hbb hsa)
              | (refine wpList_store24 rfl _ _ rfl rfl _ rfl sa hz1 oa ?_; refine Hid.out ?_))
            refine Lib.hid ?_
            have p1 := hsb.1
            have p2 := hsb.2.1
            have HSB := Lib.hid hsb.2
            clear hsb
            generalize tb.alloc (.cells cb 24) = VB at *
            generalize tb.heap.size = D at *
            go_wp2_with (refine wpList_load24 rfl _ rfl _ rfl _ (by assumption) ?_)
            go_roundw
            case rel => exact ⟨1, by omega, by go_num, HSB.out⟩
            case measure => simp [intOf]
          · go_wp2_with (first
              | (go_at_call 18; refine (HL.out false _).mono ?_; rintro e ta ⟨tx, rfl, HTX, hba⟩; have hsa := hR.on hba; have HT := Lib.hid HTX; clear hba hR HTX p0; refine Hid.out ?_)
              | (refine wpList_load24 rfl _ rfl _ rfl _ (by assumption) ?_))
            refine Lib.hid ?_
            go_wp2_with (first
              | (go_at_call 16; refine (HT.out _ hsa.base.1).mono ?_; rintro e tb ⟨rfl, hbb⟩; have hsb := (hsa.on hbb).add cb sa; clear hbb hsa)
              | (refine wpList_store24 rfl _ _ rfl rfl _ rfl sa hz1 oa ?_; refine Hid.out ?_))
            refine Lib.hid ?_
            have p1 := hsb.1
            have p2 := hsb.2.1
            have HSB := Lib.hid hsb.2
            clear hsb
            generalize tb.alloc (.cells cb 24) = VB at *
            generalize tb.heap.size = D at *
            go_wp2_with (refine wpList_load24 rfl _ rfl _ rfl _ (by assumption) ?_)
            go_roundw
            case rel => exact ⟨2, by omega, by go_num, HSB.out⟩
            case measure => simp [intOf]
          · have HF := Lib.hid hR.base.2
            clear hR p0
            go_wp2_with fail
            go_ret
            exact ⟨rfl, HF.out⟩
  · clear ASKX
    subst h1
    go_wp2_with (first
      | (go_at_call 17; refine (HX.out _ hs2.base.1).mono ?_; rintro e t3 ⟨rfl, hb3⟩; have hs3 := hs2.on hb3; clear hb3 hs2; refine Hid.out ?_)
      | (refine wpList_load24 rfl _ rfl _ rfl _ (by assumption) ?_))
    refine Lib.hid ?_
    go_wp2_with (first
      | (go_at_call 16; refine (HY.out _ hs3.base.1).mono ?_; rintro e t4 ⟨rfl, hb4⟩; have hs4 := (hs3.on hb4).add cy sy; clear hb4 hs3)
      | (refine wpList_store24 rfl _ _ rfl rfl _ rfl sy hz1 oy ?_; refine Hid.out ?_))
    refine Lib.hid ?_
    generalize t4.alloc (.cells cy 24) = V4 at *
    obtain ⟨C, hC⟩ : ∃ A, t4.heap.size = A := ⟨_, rfl⟩
    rw [hC] at hs4
    simp only [hC]
    clear hC z0
    have y1 := hs4.1
    have y2 := hs4.2.1
    have hs4' : RS W [(W.heap.size, ca)] V4 := hs4.2.2
    clear hs4
    go_wp2_with (first
      | (go_at_call 14; refine (HVX.out _).mono ?_; rintro e t8 ⟨rfl, hb8⟩; have hs8 := hs4'.on hb8; clear hb8 hs4' y1 y2; refine Hid.out ?_)
      | (refine wpList_load24 rfl _ rfl _ rfl _ (by assumption) ?_))
    refine Lib.hid ?_
    have r0 := hs8.1
    go_wp2_with (first
      | (go_at_call 14; refine (HVA.out _).mono ?_; rintro e t5 ⟨rfl, hb5⟩; have hs5 := hs8.on hb5; clear hb5 hs8 r0; refine Hid.out ?_)
      | (refine wpList_load24 rfl _ rfl _ rfl _ (by assumption) ?_))
    refine Lib.hid ?_
    rcases ASKA.out with ⟨rfl, rfl⟩ | ⟨rfl, h2, rfl⟩
    · clear ASKA
      have q0 := hs5.1
      go_wp2_with (first
        | (go_at_call 17; refine (HA.out _ hs5.base.1).mono ?_; rintro e t6 ⟨rfl, hb6⟩; have hs6 := (hs5.on hb6).base.2; clear hb6 hs5; refine Hid.out ?_)
        | (refine wpList_load24 rfl _ rfl _ rfl _ (by assumption) ?_))
      refine Lib.hid ?_
      have HF := Lib.hid hs6
      clear hs6
      go_wp2_with fail
      go_ret
      exact ⟨rfl, HF.out⟩
    · clear ASKA
      subst h2
      have q0 := hs5.1
      go_wp2_with (first
        | (go_at_call 17; refine (HA.out _ hs5.base.1).mono ?_; rintro e t6 ⟨rfl, hb6⟩; have hs6 := hs5.on hb6; clear hb6 hs5; refine Hid.out ?_)
        | (refine wpList_load24 rfl _ rfl _ rfl _ (by assumption) ?_))
      refine Lib.hid ?_
      go_wp2_with (first
        | (go_at_call 16; refine (HB.out _ hs6.base.1).mono ?_; rintro e t7 ⟨rfl, hb7⟩; have hs7 := (hs6.on hb7).add cb sa; clear hb7 hs6)
        | (refine wpList_store24 rfl _ _ rfl rfl _ rfl sa hz1 oa ?_; refine Hid.out ?_))
      refine Lib.hid ?_
      generalize t7.alloc (.cells cb 24) = V7 at *
      obtain ⟨B, hB⟩ : ∃ A, t7.heap.size = A := ⟨_, rfl⟩
      rw [hB] at hs7
      simp only [hB]
      clear hB q0
      have q1 := hs7.1
      have q2 := hs7.2.1
      have q3 : V7.cell? ⟨W.heap.size, 0, none⟩ = some (.int .i64 v) := rowAt_cell q2 0 _ ca0
      by_cases hv4 : v = 4
      · subst hv4
        have HF := Lib.hid hs7.base.2
        clear hs7
        go_wp2_with (refine wpList_load24 rfl _ rfl _ rfl _ (by assumption) ?_)
        go_ret
        exact ⟨rfl, HF.out⟩
      · have hv4' : (v == 4) = false := by simpa using hv4
        obtain ⟨m1, d1, b1⟩ : ∃ m : Nat, Int.tmod (IntKind.u64.wrap n1) 4 = (m : Int) ∧ m < 4 := rem_nat n1 4 (by decide)
        obtain ⟨m2, d2, b2⟩ : ∃ m : Nat, Int.tmod (IntKind.u64.wrap n2) 8 = (m : Int) ∧ m < 8 := rem_nat n2 8 (by decide)
        obtain ⟨m3, d3, b3⟩ : ∃ m : Nat, Int.tmod (IntKind.u64.wrap n3) 9 = (m : Int) ∧ m < 9 := rem_nat n3 9 (by decide)
        have HL : Hid (∀ up W, Calls Tryd.prog 18 #[.agg cb, .int .i64 (1 + (m1 : Int)), .bool up, .int .i64 (m2 : Int), .int .i64 (m3 : Int)] W fun e w' => ∃ t : List UInt8, e = .returned (.string ⟨t.toArray⟩) ∧ (∀ W, Glob W → Calls Tryd.prog 16 #[.string ⟨t.toArray⟩] W fun e w' => e = .returned (.tuple #[.agg cb, .int .i64 0]) ∧ Below W.heap.size W w') ∧ Below W.heap.size W w') := Lib.hid (fun up W => by
          have h6 : v = 6 := by have := HVV.out; simpa [validP, hv4] using this.symm
          have := long_c v l hl hb (1 + m1) m2 m3 up (by omega) (by omega) b2 (by omega) W
          rw [show (1 + (m1 : Int)) = ((1 + m1 : Nat) : Int) from by omega, HCA.out]
          refine this.mono ?_
          rintro e w' ⟨t, he, hp, ht, hb'⟩
          refine ⟨t, he, fun W hW => ?_, hb'⟩
          have := parse_at t (by omega) W hW
          rw [hp] at this
          rw [h6]
          exact this)
        have HS7 : Hid (RS W [(W.heap.size, cb)] V7) := Lib.hid hs7.2
        clear hs7 hl hb
        have k1 : IntKind.i64.wrap (m1 : Int) = (m1 : Int) := by simp [IntKind.wrap, IntKind.bits, IntKind.signed]; omega
        have k2 : IntKind.i64.wrap (m2 : Int) = (m2 : Int) := by simp [IntKind.wrap, IntKind.bits, IntKind.signed]; omega
        have k3 : IntKind.i64.wrap (m3 : Int) = (m3 : Int) := by simp [IntKind.wrap, IntKind.bits, IntKind.signed]; omega
        have k4 : IntKind.i64.wrap (1 + (m1 : Int)) = 1 + (m1 : Int) := by simp [IntKind.wrap, IntKind.bits, IntKind.signed]; omega
        go_wp2_with (refine wpList_load24 rfl _ rfl _ rfl _ (by assumption) ?_)
        clear q1 q2 q3
        go_loopw [18] (fun kv wr => ∃ k : Nat, k ≤ 2 ∧ kv = .int .i64 (k : Int) ∧ RS W [(W.heap.size, cb)] wr) (fun kv _ => 2 - (intOf kv).toNat)
        case atStart => exact ⟨0, by omega, rfl, HS7.out⟩
        case round =>
          obtain ⟨k, hk, rfl, hR⟩ := hrel
          have p0 := hR.1
          rcases (show k = 0 ∨ k = 1 ∨ k = 2 from by omega) with rfl | rfl | rfl
          · go_wp2_with (first
              | (go_at_call 18; refine (HL.out true _).mono ?_; rintro e ta ⟨tx, rfl, HTX, hba⟩; have hsa := hR.on hba; have HT := Lib.hid HTX; clear hba hR HTX p0; refine Hid.out ?_)
              | (refine wpList_load24 rfl _ rfl _ rfl _ (by assumption) ?_))
            refine Lib.hid ?_
            go_wp2_with (first
              | (go_at_call 16; refine (HT.out _ hsa.base.1).mono ?_; rintro e tb ⟨rfl, hbb⟩; have hsb := (hsa.on hbb).add cb sa; clear hbb hsa)
              | (refine wpList_store24 rfl _ _ rfl rfl _ rfl sa hz1 oa ?_; refine Hid.out ?_))
            refine Lib.hid ?_
            have p1 := hsb.1
            have p2 := hsb.2.1
            have HSB := Lib.hid hsb.2
            clear hsb
            generalize tb.alloc (.cells cb 24) = VB at *
            generalize tb.heap.size = D at *
            go_wp2_with (refine wpList_load24 rfl _ rfl _ rfl _ (by assumption) ?_)
            go_roundw
            case rel => exact ⟨1, by omega, by go_num, HSB.out⟩
            case measure => simp [intOf]
          · go_wp2_with (first
              | (go_at_call 18; refine (HL.out false _).mono ?_; rintro e ta ⟨tx, rfl, HTX, hba⟩; have hsa := hR.on hba; have HT := Lib.hid HTX; clear hba hR HTX p0; refine Hid.out ?_)
              | (refine wpList_load24 rfl _ rfl _ rfl _ (by assumption) ?_))
            refine Lib.hid ?_
            go_wp2_with (first
              | (go_at_call 16; refine (HT.out _ hsa.base.1).mono ?_; rintro e tb ⟨rfl, hbb⟩; have hsb := (hsa.on hbb).add cb sa; clear hbb hsa)
              | (refine wpList_store24 rfl _ _ rfl rfl _ rfl sa hz1 oa ?_; refine Hid.out ?_))
            refine Lib.hid ?_
            have p1 := hsb.1
            have p2 := hsb.2.1
            have HSB := Lib.hid hsb.2
            clear hsb
            generalize tb.alloc (.cells cb 24) = VB at *
            generalize tb.heap.size = D at *
            go_wp2_with (refine wpList_load24 rfl _ rfl _ rfl _ (by assumption) ?_)
            go_roundw
            case rel => exact ⟨2, by omega, by go_num, HSB.out⟩
            case measure => simp [intOf]
          · have HF := Lib.hid hR.base.2
            clear hR p0
            go_wp2_with fail
            go_ret
            exact ⟨rfl, HF.out⟩
end addrBack
namespace addrBack
theorem contract (H : Type) (enc : TypeId × Value → H) (W : World) (base : Nat) (args : Array Value) (ds gs : List (DataW H)) (before : List MemPlace)
    (hval0 : ∀ (j : Nat) t v, Tryd.f6.params[j]? = some t → args[j]? = some v → Value.okWide Tryd.prog W .any base t v)
    (hW : DataW.Whole enc Tryd.prog Tryd.f6.params.toList Rows.addrBackSpec.vars false W args.toList ds gs before) (hk : Rows.uptoSmall H (ds ++ gs) = true)
    (hL : laidMetH Tryd.prog Rows.addrBackUptoRow.laid W) (hS : W.ShapedOpen Tryd.prog) :
    Calls Tryd.prog 6 args W fun e W' => ∃ v, e = .returned v ∧ Rows.addrBackSpec.post enc Tryd.prog Tryd.f6 false true false false W args v W' := by
  have hval := hval0
  have hW' := hW
  obtain ⟨p, q, hA0, hV, rfl, hfz, hnd⟩ := hW
  have hA : DataW.TrodAll enc Tryd.prog W 0 (fun _ => true) true Tryd.f6.params.toList args.toList ds p := hA0
  rw [Tryd.params6] at hA hval
  obtain ⟨v0, vs0, d0, ds0, p0, q0, hargs, rfl, rfl, h0, r0⟩ := trodAll_cons hA
  obtain ⟨v1, vs1, d1, ds1, p1, q1, rfl, rfl, rfl, h1, r1⟩ := trodAll_cons r0
  obtain ⟨v2, vs2, d2, ds2, p2, q2, rfl, rfl, rfl, h2, r2⟩ := trodAll_cons r1
  obtain ⟨v3, vs3, d3, ds3, p3, q3, rfl, rfl, rfl, h3, r3⟩ := trodAll_cons r2
  obtain ⟨v4, vs4, d4, ds4, p4, q4, rfl, rfl, rfl, h4, r4⟩ := trodAll_cons r3
  obtain ⟨rfl, rfl, rfl⟩ := trodAll_nil r4
  obtain rfl : args = #[v0, v1, v2, v3, v4] := by cases args; simp_all
  obtain ⟨rfl, rfl⟩ := trodVars_none hV
  have k0 := h0
  have lt0 : ∀ x ∈ p0, x.block < W.heap.size := by obtain ⟨m, hm⟩ := k0; exact DataW.trod_lt m _ _ _ hm
  obtain ⟨x0, l0, rfl, n0, b0, w0⟩ := open_addr (hval 0 24 v0 rfl rfl) h0
  have k1 := h1
  have lt1 : ∀ x ∈ p1, x.block < W.heap.size := by obtain ⟨m, hm⟩ := k1; exact DataW.trod_lt m _ _ _ hm
  obtain ⟨s1, w1⟩ := okWide_string Tryd.underlying9 (hval 1 9 v1 rfl rfl)
  subst w1
  have w1 : s1.size < 4294967281 := str_upto hk h1 (by simp)
  obtain ⟨a2, rfl, rfl, rfl, w2⟩ := open_int Tryd.underlying3 (hval 2 3 v2 rfl rfl) h2
  obtain ⟨a3, rfl, rfl, rfl, w3⟩ := open_int Tryd.underlying3 (hval 3 3 v3 rfl rfl) h3
  obtain ⟨a4, rfl, rfl, rfl, w4⟩ := open_int Tryd.underlying3 (hval 4 3 v4 rfl rfl) h4
  clear hA0 hval0
  refine (walk x0 l0 s1 a2 a3 a4 W (glob_of hL hS) n0 b0 w1 w2 w3 w4).mono fun e W' ⟨he, bel⟩ => ?_
  subst he
  exact ⟨_, rfl, _, _, _, [], _, [], hW', trodAll_mk1 (shut_bool Tryd.underlying4 _), (trodAll_cons_mk (Below.trod laidOut (by kernel_rfl) (of_decide_eq_true (by kernel_rfl)) k0 bel lt0) (trodAll_cons_mk (Below.trod laidOut (by kernel_rfl) (of_decide_eq_true (by kernel_rfl)) k1 bel lt1) (trodAll_cons_mk (shut_int Tryd.underlying3 w2) (trodAll_cons_mk (shut_int Tryd.underlying3 w3) (trodAll_cons_mk (shut_int Tryd.underlying3 w4) trodAll_mk0))))), rfl, bel.frame _, fun h => by cases h⟩
theorem laid_met (os : Os) : laidMet Tryd.prog Rows.addrBackUptoRow.laid ((laidWorld Tryd.prog os).forCall (fun _ _ => 0) ⟨#[], #[.agg (csA 0 z16), .string ⟨#[]⟩, .int .i64 0, .int .i64 0, .int .i64 0], []⟩).memory :=
  laidMet_of_run' 8 (by kernel_rfl) (by kernel_rfl)
theorem reads (os : Os) {H : Type} (enc : TypeId × Value → H) : ∃ places, DataW.whole enc Tryd.prog ((laidWorld Tryd.prog os).forCall (fun _ _ => 0) ⟨#[], #[.agg (csA 0 z16), .string ⟨#[]⟩, .int .i64 0, .int .i64 0, .int .i64 0], []⟩).memory Tryd.f6.params.toList Rows.addrBackSpec.vars false #[.agg (csA 0 z16), .string ⟨#[]⟩, .int .i64 0, .int .i64 0, .int .i64 0].toList 8 = some ([.agg [.lit (.int .i64 0), .agg [.lit (.int .u8 0), .lit (.int .u8 0), .lit (.int .u8 0), .lit (.int .u8 0), .lit (.int .u8 0), .lit (.int .u8 0), .lit (.int .u8 0), .lit (.int .u8 0), .lit (.int .u8 0), .lit (.int .u8 0), .lit (.int .u8 0), .lit (.int .u8 0), .lit (.int .u8 0), .lit (.int .u8 0), .lit (.int .u8 0), .lit (.int .u8 0)]], .lit (.string []), .lit (.int .i64 0), .lit (.int .i64 0), .lit (.int .i64 0)], [], places) :=
  ⟨[], by kernel_rfl⟩
theorem lifted (os : Os) (started : os.Started) (H : Type) (enc : TypeId × Value → H) (F : Stop.Interp) :
    ReturnsInHanded {} Tryd.checked os 6 .any ((Rows.OpenSpec.upto Rows.addrBackSpec).preRow enc Tryd.prog Tryd.f6 Rows.addrBackUptoRow.domain false Rows.addrBackUptoRow.laid) (((Rows.OpenSpec.upto Rows.addrBackSpec).at F).post enc Tryd.prog Tryd.f6 false true false false) := by
  obtain ⟨places, hx⟩ := reads os enc
  refine returnsInHanded_of_row (C := Tryd.checked) (s := Rows.OpenSpec.upto Rows.addrBackSpec) ownKn started (by kernel_rfl) Tryd.func6
    (witness_row_at (enc := enc) (C := Tryd.checked) false (laidWorld Tryd.prog os) #[.agg (csA 0 z16), .string ⟨#[]⟩, .int .i64 0, .int .i64 0, .int .i64 0] rfl (by kernel_rfl) (by kernel_rfl) (by kernel_rfl)
      (OpenSpec.preRow_of_cond 8 hx (by kernel_rfl) (fun k hk => by cases hk; kernel_rfl) (by kernel_rfl) (laid_met os))) ?_
  intro W base args ds gs before hval hW _ hcond _ hL hS _
  exact contract H enc W base args ds gs before hval hW (hcond _ rfl) hL hS
theorem said : Rows.AddrBackUptoSaid :=
  OpenClaim.holds_of_cond 6 Tryd.f6 rfl rfl rfl rfl rfl rfl rfl ⟨rfl, rfl, rfl, rfl, rfl⟩ rfl rfl rfl rfl rfl (by kernel_rfl) Tryd.func6 (by kernel_rfl)
    (of_decide_eq_true (by kernel_rfl)) (by unfold Func.isWrapper; first | (rw [if_pos (by decide +kernel)]; kernel_rfl) | (rw [if_neg (by decide +kernel)]; exact ⟨rfl, rfl⟩))
    (fun os started H enc _ F => by rw [OpenClaim.pre_eq_preRow]; exact lifted os started H enc F)
theorem plain (f : FuncId) (fn : Func) (hf : Tryd.pinned.checked.prog.funcNamed "mosaic/mosaiclaw03.AddrBack" = some f) (hfn : Tryd.pinned.checked.prog.funcs[f]? = some fn) :
    false = Tryd.pinned.checked.prog.looks [] ∧ ∀ (j : Nat) t, fn.params[j]? = some t → Tryd.pinned.checked.prog.wantsStandIn t = false := by
  obtain rfl : f = 6 := Option.some.inj ((show Tryd.prog.funcNamed "mosaic/mosaiclaw03.AddrBack" = some 6 by kernel_rfl).symm.trans hf) |>.symm
  obtain rfl : fn = Tryd.f6 := (Option.some.inj (Tryd.func6.symm.trans hfn)).symm
  refine ⟨by kernel_rfl, fun j t ht => ?_⟩
  rw [Tryd.params6] at ht
  have hm := Array.mem_of_getElem? ht
  simp only [List.mem_toArray, List.mem_cons, List.not_mem_nil, or_false] at hm
  have h24 : Tryd.prog.wantsStandIn 24 = false := by kernel_rfl
  have h3 : Tryd.prog.wantsStandIn 3 = false := by kernel_rfl
  have h9 : Tryd.prog.wantsStandIn 9 = false := by kernel_rfl
  rcases hm with rfl | rfl | rfl | rfl | rfl
  all_goals first | exact h24 | exact h3 | exact h9
theorem card : Rows.AddrBackUptoCardSaid :=
  Claim7.holds_tied_plain_at .later [] _ _ _ _ said (fun _ h => by cases h) (by kernel_rfl) (fun _ h => by cases h) addrBackUpto_row_tie rfl ⟨rfl, rfl⟩ (by kernel_rfl) rfl plain (by kernel_rfl)
end addrBack
theorem addrBackUpto_holds : Rows.AddrBackUptoCardSaid := addrBack.card
#print axioms addrBackUpto_holds
end Go.Proofs.YtclfhajapohogaaDoor
