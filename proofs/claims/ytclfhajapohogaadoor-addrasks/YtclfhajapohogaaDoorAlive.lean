/-
  alive: the answers that the document fixes.
-/
import Derived.Test.YtclfhajapohogaaDoorPrint
import Derived.Test.YtclfhajapohogaaDoorParse
import Derived.Test.YtclfhajapohogaaDoorWithin
import Derived.Test.YtclfhajapohogaaDoorKind
import Derived.Test.YtclfhajapohogaaDoorDrawn
namespace Go.Proofs.YtclfhajapohogaaDoor
open Go.ChangeShapes Go.WideShapes Go.ChangeAt Go.RowKit
set_option linter.unusedVariables false
set_option maxHeartbeats 4000000
set_option maxRecDepth 100000

def la : List Int := [192, 0, 2, 129, 0, 0, 0, 0, 0, 0, 0, 0, 0, 0, 0, 0]
def lm : List Int := [192, 0, 2, 128, 0, 0, 0, 0, 0, 0, 0, 0, 0, 0, 0, 0]
def lb : List Int := [32, 1, 13, 184, 0, 0, 0, 0, 0, 1, 0, 0, 0, 0, 0, 1]
theorem pa : parseP [49, 57, 50, 46, 48, 46, 50, 46, 49, 50, 57] = (4, la, 0) := by decide +kernel
theorem pb : parseP [50, 48, 48, 49, 58, 100, 98, 56, 58, 48, 58, 48, 58, 49, 58, 48, 58, 48, 58, 49] = (6, lb, 0) := by decide +kernel
theorem pn : parseP [49, 58, 58, 50, 58, 58, 51] = (0, z16, 30) := by decide +kernel
theorem ma : maskA 4 la 25 = csA 4 lm ∧ maskE 4 la 25 = 0 := by
  have h1 : maskOk 4 la 25 = true := by decide +kernel
  have h2 : maskL 25 0 la = lm := by decide +kernel
  exact ⟨by rw [maskA, if_pos h1, h2], by rw [maskE, if_pos h1]⟩
theorem va : validP 4 la = true := by decide +kernel
theorem ka : kindP 4 la = 5 := by decide +kernel
theorem k127 : kindP 4 [127, 1, 1, 1, 0, 0, 0, 0, 0, 0, 0, 0, 0, 0, 0, 0] = 2 := by decide +kernel
theorem prb : printP 6 lb = [50, 48, 48, 49, 58, 100, 98, 56, 58, 58, 49, 58, 48, 58, 48, 58, 49] := by decide +kernel
theorem lab : lessP 4 la 6 lb = true := by decide +kernel
theorem wam : withinP 4 la 4 lm 25 = true := by decide +kernel
theorem wam33 : withinP 4 la 4 lm 33 = false := by decide +kernel

def sA : ByteArray := ⟨#[49, 57, 50, 46, 48, 46, 50, 46, 49, 50, 57]⟩
/-- The world in which the four addresses lie. -/
def SA (w0 : World) (A B D : Nat) (ca cb cm : Array Value) (w : World) : Prop := rowAt w A = some ca ∧ rowAt w B = some cb ∧ rowAt w D = some cm ∧ Glob w ∧ Below w0.heap.size w0 w
theorem SA.drew {w0 : World} {A B D : Nat} {ca cb cm : Array Value} {w : World} (h : SA w0 A B D ca cb cm w) : SA w0 A B D ca cb cm w.drew := ⟨h.1, h.2.1, h.2.2.1, h.2.2.2.1.drewN 1, h.2.2.2.2.drew⟩
theorem SA.on {w0 : World} {A B D : Nat} {ca cb cm : Array Value} {w w' : World} (h : SA w0 A B D ca cb cm w) (hb : Below w.heap.size w w') : SA w0 A B D ca cb cm w' :=
  ⟨rowAt_below h.1 hb (rowAt_lt h.1), rowAt_below h.2.1 hb (rowAt_lt h.2.1), rowAt_below h.2.2.1 hb (rowAt_lt h.2.2.1), h.2.2.2.1.on hb, h.2.2.2.2.trans (hb.mono h.2.2.2.2.size)⟩
theorem alive_c (w : World) (hg : Glob w) : Calls Tryd.prog 9 #[] w fun e w' => e = .returned (.bool true) ∧ Below w.heap.size w w' := by
  obtain ⟨ca, hca⟩ : ∃ c, c = csA 4 la := ⟨_, rfl⟩
  obtain ⟨cb, hcb⟩ : ∃ c, c = csA 6 lb := ⟨_, rfl⟩
  obtain ⟨cn, hcn⟩ : ∃ c, c = csA 0 z16 := ⟨_, rfl⟩
  obtain ⟨cm, hcm⟩ : ∃ c, c = csA 4 lm := ⟨_, rfl⟩
  have sa : ca.size = 17 := by rw [hca]; rfl
  have sb : cb.size = 17 := by rw [hcb]; rfl
  have sn : cn.size = 17 := by rw [hcn]; rfl
  have sm : cm.size = 17 := by rw [hcm]; rfl
  have oa : ca.all (·.oneCell') = true := by rw [hca]; exact csA_one _ _
  have ob : cb.all (·.oneCell') = true := by rw [hcb]; exact csA_one _ _
  have on : cn.all (·.oneCell') = true := by rw [hcn]; exact csA_one _ _
  have om : cm.all (·.oneCell') = true := by rw [hcm]; exact csA_one _ _
  have hz : (csA 0 z16).size = 17 := rfl
  rw [csA_z] at hz
  have HPA : Hid (∀ W, Glob W → Calls Tryd.prog 16 #[.string ⟨#[49, 57, 50, 46, 48, 46, 50, 46, 49, 50, 57]⟩] W fun e w' => e = .returned (.tuple #[.agg ca, .int .i64 0]) ∧ Below W.heap.size W w') := Lib.hid (fun W hW => by
    have := parse_c ⟨#[49, 57, 50, 46, 48, 46, 50, 46, 49, 50, 57]⟩ (by decide) W hW
    rw [show (⟨#[49, 57, 50, 46, 48, 46, 50, 46, 49, 50, 57]⟩ : ByteArray).data.toList = [49, 57, 50, 46, 48, 46, 50, 46, 49, 50, 57] from rfl, pa] at this
    rw [hca]; exact this)
  have HPB : Hid (∀ W, Glob W → Calls Tryd.prog 16 #[.string ⟨#[50, 48, 48, 49, 58, 100, 98, 56, 58, 48, 58, 48, 58, 49, 58, 48, 58, 48, 58, 49]⟩] W fun e w' => e = .returned (.tuple #[.agg cb, .int .i64 0]) ∧ Below W.heap.size W w') := Lib.hid (fun W hW => by
    have := parse_c ⟨#[50, 48, 48, 49, 58, 100, 98, 56, 58, 48, 58, 48, 58, 49, 58, 48, 58, 48, 58, 49]⟩ (by decide) W hW
    rw [show (⟨#[50, 48, 48, 49, 58, 100, 98, 56, 58, 48, 58, 48, 58, 49, 58, 48, 58, 48, 58, 49]⟩ : ByteArray).data.toList = [50, 48, 48, 49, 58, 100, 98, 56, 58, 48, 58, 48, 58, 49, 58, 48, 58, 48, 58, 49] from rfl, pb] at this
    rw [hcb]; exact this)
  have HPN : Hid (∀ W, Glob W → Calls Tryd.prog 16 #[.string ⟨#[49, 58, 58, 50, 58, 58, 51]⟩] W fun e w' => e = .returned (.tuple #[.agg cn, .int .i64 30]) ∧ Below W.heap.size W w') := Lib.hid (fun W hW => by
    have := parse_c ⟨#[49, 58, 58, 50, 58, 58, 51]⟩ (by decide) W hW
    rw [show (⟨#[49, 58, 58, 50, 58, 58, 51]⟩ : ByteArray).data.toList = [49, 58, 58, 50, 58, 58, 51] from rfl, pn] at this
    rw [hcn]; exact this)
  have HMA : Hid (∀ W, Calls Tryd.prog 11 #[.agg ca, .int .i64 25] W fun e w' => e = .returned (.tuple #[.agg cm, .int .i64 0]) ∧ Below W.heap.size W w') := Lib.hid (fun W => by
    have := mask_c 4 la rfl 25 W
    rw [ma.1, ma.2] at this
    rw [hca, hcm]; exact this)
  have HF1 : Hid (∀ W, Calls Tryd.prog 15 #[.int .u8 192, .int .u8 0, .int .u8 2, .int .u8 129] W fun e w' => e = .returned (.agg ca) ∧ Below W.heap.size W w') := Lib.hid (fun W => by rw [hca]; exact four_c 192 0 2 129 W)
  have HF2 : Hid (∀ W, Calls Tryd.prog 15 #[.int .u8 192, .int .u8 0, .int .u8 2, .int .u8 128] W fun e w' => e = .returned (.agg cm) ∧ Below W.heap.size W w') := Lib.hid (fun W => by rw [hcm]; exact four_c 192 0 2 128 W)
  have hqa : ∀ w, (Op.equalIn 10000 24 (.agg ca) (.agg ca)).run Tryd.prog w = .ok true w := fun w => by
    rw [hca, eq24 4 4 la la rfl rfl w]; rfl
  have hqm : ∀ w, (Op.equalIn 10000 24 (.agg cm) (.agg cm)).run Tryd.prog w = .ok true w := fun w => by
    rw [hcm, eq24 4 4 lm lm rfl rfl w]; rfl
  have hgd := guard24
  have HCA := Lib.hid hca; have HCB := Lib.hid hcb; have HCM := Lib.hid hcm
  clear hca hcb hcn hcm
  have G := Lib.hid hg; clear hg
  go_enter Tryd.func9, Tryd.ntmps9
  go_wp2_with (first
    | (go_at_call 16; refine (HPA.out _ G.out).mono ?_; rintro e w1 ⟨rfl, hb1⟩; have G1 := Lib.hid ((G.out.on hb1).alloc (.cells ca 24)); have B1 := Lib.hid (hb1.alloc hb1.size (.cells ca 24)); have d1 := rowAt_new w1 ca 24 sa; clear hb1)
    | (refine wpList_store24 rfl _ _ rfl rfl _ rfl sa hz oa ?_; refine Hid.out ?_))
  refine Lib.hid ?_
  go_wp2_with (first
    | (go_at_call 16; refine (HPB.out _ G1.out).mono ?_; rintro e w2 ⟨rfl, hb2⟩; have G2 := Lib.hid ((G1.out.on hb2).alloc (.cells cb 24)); have B2 := Lib.hid ((B1.out.trans (hb2.mono B1.out.size)).alloc (Nat.le_trans B1.out.size hb2.size) (.cells cb 24)); have d2 := rowAt_old (rowAt_below d1 hb2 (rowAt_lt d1)) (.cells cb 24); have f2 := rowAt_new w2 cb 24 sb; clear hb2 d1)
    | (refine wpList_store24 rfl _ _ rfl rfl _ rfl sb hz ob ?_; refine Hid.out ?_))
  refine Lib.hid ?_
  go_wp2_with (first
    | (go_at_call 16; refine (HPN.out _ G2.out).mono ?_; rintro e w3 ⟨rfl, hb3⟩; have G3 := Lib.hid ((G2.out.on hb3).alloc (.cells cn 24)); have B3 := Lib.hid ((B2.out.trans (hb3.mono B2.out.size)).alloc (Nat.le_trans B2.out.size hb3.size) (.cells cn 24)); have d3 := rowAt_old (rowAt_below d2 hb3 (rowAt_lt d2)) (.cells cn 24); have f3 := rowAt_old (rowAt_below f2 hb3 (rowAt_lt f2)) (.cells cn 24); clear hb3 d2 f2)
    | (refine wpList_store24 rfl _ _ rfl rfl _ rfl sn hz on ?_; refine Hid.out ?_))
  refine Lib.hid ?_
  go_wp2_with (first
    | (refine wpList_load24 rfl _ rfl _ rfl _ d3 ?_)
    | (go_at_call 11; refine (HMA.out _).mono ?_; rintro e w4 ⟨rfl, hb4⟩; have G4 := Lib.hid ((G3.out.on hb4).alloc (.cells cm 24)); have B4 := Lib.hid ((B3.out.trans (hb4.mono B3.out.size)).alloc (Nat.le_trans B3.out.size hb4.size) (.cells cm 24)); have d4 := rowAt_old (rowAt_below d3 hb4 (rowAt_lt d3)) (.cells cm 24); have f4 := rowAt_old (rowAt_below f3 hb4 (rowAt_lt f3)) (.cells cm 24); have g4 := rowAt_new w4 cm 24 sm; clear hb4 d3 f3)
    | (refine wpList_store24 rfl _ _ rfl rfl _ rfl sm hz om ?_; refine Hid.out ?_))
  refine Lib.hid ?_
  have hsa : SA w w1.heap.size w2.heap.size w4.heap.size ca cb cm (w4.alloc (.cells cm 24)) := ⟨d4, f4, g4, G4.out, B4.out⟩
  clear G1 G2 G3 G4 B1 B2 B3 B4 d4 f4 g4
  generalize w4.alloc (.cells cm 24) = W at *
  obtain ⟨A, hA⟩ : ∃ A, w1.heap.size = A := ⟨_, rfl⟩
  obtain ⟨B, hB⟩ : ∃ A, w2.heap.size = A := ⟨_, rfl⟩
  obtain ⟨D, hD⟩ : ∃ A, w4.heap.size = A := ⟨_, rfl⟩
  rw [hA, hB, hD] at hsa
  simp only [hA, hB, hD]
  clear hA hB hD
  go_wp2_with fail
  refine wp_region_cls (C := fun w' => SA w A B D ca cb cm w') (by kernel_rfl) (by kernel_rfl) hsa.drew ?_
  repeat (first
    | go_big_quiet_skip
    | (go_big_quiet_want
       first
         | (go_big_quiet_op; go_big_quiet_on)
         | (refine quiet_load24 _ rfl _ rfl _ (fun w h => h.1) ?_; go_simp; go_big_quiet_on)
         | (refine quiet_load24 _ rfl _ rfl _ (fun w h => h.2.2.1) ?_; go_simp; go_big_quiet_on)
         | (refine quiet_val ?_ ?_ ?_
            rotate_left
            · intro w; go_simp; rfl
            go_simp; go_big_quiet_on)
         | (refine quiet_call 15 #[.int .u8 192, .int .u8 0, .int .u8 2, .int .u8 129] (.agg ca) ?_ (fun W hW => (HF1.out W).mono (fun _ _ h => ⟨h.1, hW.on h.2⟩)) ?_
            · intro w; go_simp; done
            go_simp; go_big_quiet_on)
         | (refine quiet_call 15 #[.int .u8 192, .int .u8 0, .int .u8 2, .int .u8 128] (.agg cm) ?_ (fun W hW => (HF2.out W).mono (fun _ _ h => ⟨h.1, hW.on h.2⟩)) ?_
            · intro w; go_simp; done
            go_simp; go_big_quiet_on)))
  refine wpQuiet_nil ?_
  intro W2 hs2
  have z1 := hs2.1
  have z2 := hs2.2.1
  have z3 := hs2.2.2.1
  have HV : Hid (∀ W, Calls Tryd.prog 14 #[.agg ca] W fun e w' => e = .returned (.bool true) ∧ Below W.heap.size W w') := Lib.hid (fun W => by have := valid_c 4 la rfl W; rw [va] at this; rw [HCA.out]; exact this)
  have HK : Hid (∀ W, Calls Tryd.prog 13 #[.agg ca] W fun e w' => e = .returned (.int .i64 5) ∧ Below W.heap.size W w') := Lib.hid (fun W => by have := kind_c 4 la rfl W; rw [ka] at this; rw [HCA.out]; exact this)
  obtain ⟨cl, hcl⟩ : ∃ c, c = csA 4 [127, 1, 1, 1, 0, 0, 0, 0, 0, 0, 0, 0, 0, 0, 0, 0] := ⟨_, rfl⟩
  have HF3 : Hid (∀ W, Calls Tryd.prog 15 #[.int .u8 127, .int .u8 1, .int .u8 1, .int .u8 1] W fun e w' => e = .returned (.agg cl) ∧ Below W.heap.size W w') := Lib.hid (fun W => by rw [hcl]; exact four_c 127 1 1 1 W)
  have HKL : Hid (∀ W, Calls Tryd.prog 13 #[.agg cl] W fun e w' => e = .returned (.int .i64 2) ∧ Below W.heap.size W w') := Lib.hid (fun W => by have := kind_c 4 [127, 1, 1, 1, 0, 0, 0, 0, 0, 0, 0, 0, 0, 0, 0, 0] rfl W; rw [k127] at this; rw [hcl]; exact this)
  have HPR : Hid (∀ W, Glob W → Calls Tryd.prog 17 #[.agg cb] W fun e w' => e = .returned (.string ⟨#[50, 48, 48, 49, 58, 100, 98, 56, 58, 58, 49, 58, 48, 58, 48, 58, 49]⟩) ∧ Below W.heap.size W w') := Lib.hid (fun W hW => by have := print_c 6 lb rfl (by decide) W hW; rw [prb] at this; rw [HCB.out]; exact this)
  have HLS : Hid (∀ W, Calls Tryd.prog 10 #[.agg ca, .agg cb] W fun e w' => e = .returned (.bool true) ∧ Below W.heap.size W w') := Lib.hid (fun W => by have := less_c 4 6 la lb rfl rfl W; rw [lab] at this; rw [HCA.out, HCB.out]; exact this)
  have HW1 : Hid (∀ W, Calls Tryd.prog 12 #[.agg ca, .agg cm, .int .i64 25] W fun e w' => e = .returned (.bool true) ∧ Below W.heap.size W w') := Lib.hid (fun W => by have := within_c 4 4 la lm rfl rfl 25 W; rw [wam] at this; rw [HCA.out, HCM.out]; exact this)
  have HW2 : Hid (∀ W, Calls Tryd.prog 12 #[.agg ca, .agg cm, .int .i64 33] W fun e w' => e = .returned (.bool false) ∧ Below W.heap.size W w') := Lib.hid (fun W => by have := within_c 4 4 la lm rfl rfl 33 W; rw [wam33] at this; rw [HCA.out, HCM.out]; exact this)
  clear hcl hqa hqm HF1 HF2 HPA HPB HPN HMA
  go_wp2_with (first
    | (refine wpList_load24 rfl _ rfl _ rfl _ (by assumption) ?_)
    | (go_at_call 14; refine (HV.out _).mono ?_; rintro e v3 ⟨rfl, hb⟩; have hs3 := hs2.on hb; have z1 := hs3.1; have z2 := hs3.2.1; have z3 := hs3.2.2.1; clear hb hs2; refine Hid.out ?_))
  refine Lib.hid ?_
  go_wp2_with (first
    | (refine wpList_load24 rfl _ rfl _ rfl _ (by assumption) ?_)
    | (go_at_call 13; refine (HK.out _).mono ?_; rintro e v4 ⟨rfl, hb⟩; have hs4 := hs3.on hb; have z1 := hs4.1; have z2 := hs4.2.1; have z3 := hs4.2.2.1; clear hb hs3; refine Hid.out ?_))
  refine Lib.hid ?_
  go_wp2_with (first
    | (refine wpList_load24 rfl _ rfl _ rfl _ (by assumption) ?_)
    | (go_at_call 15; refine (HF3.out _).mono ?_; rintro e v5 ⟨rfl, hb⟩; have hs5 := hs4.on hb; have z1 := hs5.1; have z2 := hs5.2.1; have z3 := hs5.2.2.1; clear hb hs4; refine Hid.out ?_))
  refine Lib.hid ?_
  go_wp2_with (first
    | (refine wpList_load24 rfl _ rfl _ rfl _ (by assumption) ?_)
    | (go_at_call 13; refine (HKL.out _).mono ?_; rintro e v6 ⟨rfl, hb⟩; have hs6 := hs5.on hb; have z1 := hs6.1; have z2 := hs6.2.1; have z3 := hs6.2.2.1; clear hb hs5; refine Hid.out ?_))
  refine Lib.hid ?_
  go_wp2_with (first
    | (refine wpList_load24 rfl _ rfl _ rfl _ (by assumption) ?_)
    | (go_at_call 17; refine (HPR.out _ hs6.2.2.2.1).mono ?_; rintro e v7 ⟨rfl, hb⟩; have hs7 := hs6.on hb; have z1 := hs7.1; have z2 := hs7.2.1; have z3 := hs7.2.2.1; clear hb hs6; refine Hid.out ?_))
  refine Lib.hid ?_
  go_wp2_with (first
    | (refine wpList_load24 rfl _ rfl _ rfl _ (by assumption) ?_)
    | (go_at_call 10; refine (HLS.out _).mono ?_; rintro e v8 ⟨rfl, hb⟩; have hs8 := hs7.on hb; have z1 := hs8.1; have z2 := hs8.2.1; have z3 := hs8.2.2.1; clear hb hs7; refine Hid.out ?_))
  refine Lib.hid ?_
  go_wp2_with (first
    | (refine wpList_load24 rfl _ rfl _ rfl _ (by assumption) ?_)
    | (go_at_call 12; refine (HW1.out _).mono ?_; rintro e v9 ⟨rfl, hb⟩; have hs9 := hs8.on hb; have z1 := hs9.1; have z2 := hs9.2.1; have z3 := hs9.2.2.1; clear hb hs8; refine Hid.out ?_))
  refine Lib.hid ?_
  go_wp2_with (first
    | (refine wpList_load24 rfl _ rfl _ rfl _ (by assumption) ?_)
    | (go_at_call 12; refine (HW2.out _).mono ?_; rintro e v10 ⟨rfl, hb⟩; have hs10 := hs9.on hb; have z1 := hs10.1; have z2 := hs10.2.1; have z3 := hs10.2.2.1; clear hb hs9))
  go_ret
  exact ⟨rfl, hs10.2.2.2.2⟩
end Go.Proofs.YtclfhajapohogaaDoor
