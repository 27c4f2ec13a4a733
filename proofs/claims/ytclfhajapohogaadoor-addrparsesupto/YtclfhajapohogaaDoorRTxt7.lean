/-
  The document's Parse.
-/
import Derived.Test.YtclfhajapohogaaDoorRTxt6
import Derived.Test.YtclfhajapohogaaDoorParse
namespace Go.Proofs.YtclfhajapohogaaDoor
open Go.ChangeShapes Go.WideShapes Go.ChangeAt Go.RowKit
set_option linter.unusedVariables false
set_option maxHeartbeats 4000000
set_option maxRecDepth 100000

theorem rparse_c (l : List UInt8) (hl : l.length ≤ 1048576) (w : World) : Calls Tryd.prog 19 #[.string ⟨l.toArray⟩] w (ParsePost (parseP l) w) := by
  obtain ⟨res, hres⟩ : ∃ r, r = parseP l := ⟨_, rfl⟩
  rw [← hres]
  have HR := Lib.hid hres
  have HA : Hid (∀ w1 c, Below (w.alloc (.cells (csA 0 z16) 24)).heap.size (w.alloc (.cells (csA 0 z16) 24)) w1 → c.size = 17 → rowAt w1 w.heap.size = some (csA 0 z16) ∧ Below w.heap.size w (w1.setRow w.heap.size c) ∧ rowAt (w1.setRow w.heap.size c) w.heap.size = some c) := Lib.hid (fun w1 c h hc =>
    have h1 : Below w.heap.size w w1 := ((Below.refl _ _).alloc (Nat.le_refl _) _).trans (h.mono (by simp))
    have h2 := rowAt_below (rowAt_new w (csA 0 z16) 24 rfl) h (by simp)
    ⟨h2, below_setRow h1 (Nat.le_refl _) _, rowAt_setRow h2 _ hc⟩)
  rw [csA_z] at HA
  have HHAS : Hid (∀ wx, Calls Tryd.prog 38 #[.string ⟨l.toArray⟩, .int .u8 58] wx fun e w' => e = .returned (.bool (decide (58 ∈ l))) ∧ w' = wx) := fun wx => rhas_c l 58 hl wx
  clear hres
  by_cases hm : 58 ∈ l
  · rw [decide_eq_true hm] at HHAS
    have hr : res = (match parse6P l with | some g => (6, unG g, 0) | none => (0, z16, 30)) := by rw [HR.out]; exact parseP_six l hm
    obtain ⟨cr, hcr⟩ : ∃ c, c = six (parse6P l) := ⟨_, rfl⟩
    obtain ⟨er, her⟩ : ∃ b, b = errOf (parse6P l).isSome := ⟨_, rfl⟩
    have hcz : cr.size = 17 := by
      rw [hcr]
      cases h : parse6P l with
      | none => rfl
      | some r => exact csA_size (by rw [unG_length, parse6P_length h])
    have hco1 : cr.all (·.oneCell') = true := by
      rw [hcr]; unfold six; split <;> exact csA_one _ _
    have HC : Hid (∀ W, Calls Tryd.prog 39 #[.string ⟨l.toArray⟩] W fun e w' => e = .returned (.tuple #[.agg cr, .int .i64 er]) ∧ Below W.heap.size W w') := Lib.hid (fun W => by rw [hcr, her]; exact rparse6_c l hl W)
    have HRES : Hid (csA res.1 res.2.1 = cr ∧ res.2.2 = er) := Lib.hid (by
      rw [hr, hcr, her]
      cases parse6P l with
      | none => exact ⟨rfl, rfl⟩
      | some r => exact ⟨rfl, rfl⟩)
    clear HR hm hr hcr her
    go_enter Tryd.func19, Tryd.ntmps19
    go_wp2_with (first
      | (go_at_call 38; refine (HHAS.out _).mono ?_; rintro e w44 ⟨rfl, hw44⟩; have hw44 := hw44.symm; subst hw44)
      | (go_at_call 39; refine (HC.out _).mono ?_; rintro e w2 ⟨rfl, hb2⟩; obtain ⟨d1, k1, k2⟩ := HA.out w2 cr hb2 hcz; have K1 := Lib.hid k1; have K2 := Lib.hid k2; clear k1 k2 hb2)
      | (refine wpList_store24o rfl _ _ rfl _ rfl _ _ d1 rfl hcz hco1 ?_))
    refine bodyPost_ret (v := .tuple #[.agg cr, .int .i64 er]) ?_ rfl ⟨by rw [HRES.out.1, HRES.out.2], K1.out⟩
    exact result24t rfl _ _ _ _ _ rfl rfl K2.out
  · rw [decide_eq_false hm] at HHAS
    have hr : res = (match parse4P l with | some r => (4, fourB r, 0) | none => (0, z16, 30)) := by rw [HR.out]; exact parseP_four l hm
    obtain ⟨cr, hcr⟩ : ∃ c, c = four4 (parse4P l) := ⟨_, rfl⟩
    obtain ⟨er, her⟩ : ∃ b, b = errOf (parse4P l).isSome := ⟨_, rfl⟩
    have hcz : cr.size = 17 := by
      rw [hcr]
      cases h : parse4P l with
      | none => rfl
      | some r => exact csA_size (fourB_length r (by rw [parse4P_length h]; omega))
    have hco1 : cr.all (·.oneCell') = true := by
      rw [hcr]; unfold four4; split <;> exact csA_one _ _
    have HC : Hid (∀ W, Calls Tryd.prog 40 #[.string ⟨l.toArray⟩] W fun e w' => e = .returned (.tuple #[.agg cr, .int .i64 er]) ∧ Below W.heap.size W w') := Lib.hid (fun W => by rw [hcr, her]; exact rparse4_c l hl W)
    have HRES : Hid (csA res.1 res.2.1 = cr ∧ res.2.2 = er) := Lib.hid (by
      rw [hr, hcr, her]
      cases parse4P l with
      | none => exact ⟨rfl, rfl⟩
      | some r => exact ⟨rfl, rfl⟩)
    clear HR hm hr hcr her
    go_enter Tryd.func19, Tryd.ntmps19
    go_wp2_with (first
      | (go_at_call 38; refine (HHAS.out _).mono ?_; rintro e w44 ⟨rfl, hw44⟩; have hw44 := hw44.symm; subst hw44)
      | (go_at_call 40; refine (HC.out _).mono ?_; rintro e w2 ⟨rfl, hb2⟩; obtain ⟨d1, k1, k2⟩ := HA.out w2 cr hb2 hcz; have K1 := Lib.hid k1; have K2 := Lib.hid k2; clear k1 k2 hb2)
      | (refine wpList_store24o rfl _ _ rfl _ rfl _ _ d1 rfl hcz hco1 ?_))
    refine bodyPost_ret (v := .tuple #[.agg cr, .int .i64 er]) ?_ rfl ⟨by rw [HRES.out.1, HRES.out.2], K1.out⟩
    exact result24t rfl _ _ _ _ _ rfl rfl K2.out
#print axioms rparse_c
end Go.Proofs.YtclfhajapohogaaDoor
