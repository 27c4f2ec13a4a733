/-
  Parse.
-/
import Derived.Test.YtoifolmcdkfniabGreatDoorSix
import Derived.Test.YtoifolmcdkfniabGreatDoorFour
namespace Go.Proofs.YtoifolmcdkfniabGreatDoor
open Go.ChangeShapes Go.WideShapes Go.ChangeAt Go.RowKit
set_option linter.unusedVariables false
set_option maxHeartbeats 4000000
set_option maxRecDepth 100000

def ParsePost (r : Int × List Int × Int) (w : World) (e : Ending) (w' : World) : Prop := e = .returned (.tuple #[.agg (csA r.1 r.2.1), .int .i64 r.2.2]) ∧ Below w.heap.size w w'
theorem parse4P_length {l : List UInt8} {r : List Nat} (h : parse4P l = some r) : r.length = 4 := by
  unfold parse4P at h
  split at h
  · split at h
    · simp only [Option.some.injEq] at h; subst h; assumption
    · simp at h
  · simp at h
theorem parse6P_length {l : List UInt8} {r : List Nat} (h : parse6P l = some r) : r.length = 8 := by
  rw [parse6_eq] at h
  split at h
  · split at h
    · simp at h
    · rename_i hc
      simp only [Option.some.injEq] at h
      subst h
      exact joinG_length _ _ (by omega)
  · simp at h
theorem parseP_four (l : List UInt8) (h : ¬ 58 ∈ l) : parseP l = (match parse4P l with | some r => (4, fourB r, 0) | none => (0, z16, 30)) := by
  unfold parseP
  rw [if_neg h]
  cases hr : parse4P l with
  | none => rfl
  | some r => simp [fourB, parse4P_length hr]
theorem parseP_six (l : List UInt8) (h : 58 ∈ l) : parseP l = (match parse6P l with | some g => (6, unG g, 0) | none => (0, z16, 30)) := by
  unfold parseP
  rw [if_pos h]
  cases parse6P l <;> rfl
theorem parse_c (s : ByteArray) (hs : s.size < 4294967281) (w : World) (hg : Glob w) : Calls Tryz.prog 59 #[.string s] w (ParsePost (parseP s.data.toList) w) := by
  obtain ⟨l, hl⟩ : ∃ l, l = s.data.toList := ⟨_, rfl⟩
  obtain ⟨co, hco⟩ : ∃ b : Bool, b = decide (58 ∈ l) := ⟨_, rfl⟩
  have HCON : Hid (∀ W, Calls Tryz.prog 82 #[.string s, .string ⟨#[58]⟩] W fun e w' => e = .returned (.bool co) ∧ w' = W) := Lib.hid (fun W => by
    rw [hco, hl, ← mem_index]; exact Tryz.strings_Contains_one s 58 W)
  have H4 : Hid (∀ W, Glob W → Calls Tryz.prog 81 #[.string s] W (FourPost (parse4P l) W)) := Lib.hid (fun W hW => by rw [hl]; exact parse4_c s hs W hW)
  have H6 : Hid (∀ W, Glob W → Calls Tryz.prog 83 #[.string s] W (SixPost (parse6P l) W)) := Lib.hid (fun W hW => by rw [hl]; exact parse6_c s hs W hW)
  obtain ⟨res, hres⟩ : ∃ r, r = parseP l := ⟨_, rfl⟩
  rw [← hl, ← hres]
  have HR := Lib.hid hres
  have r0 : rowAt (w.alloc (.cells (csA 0 z16) 37)) w.heap.size = some (csA 0 z16) := rowAt_new w _ 37 rfl
  have G0 : Hid (Glob (w.alloc (.cells (csA 0 z16) 37))) := Lib.hid (hg.alloc _)
  have HOK : Hid (∀ W (c c' : Array Value), Below (w.alloc (.cells (csA 0 z16) 37)).heap.size (w.alloc (.cells (csA 0 z16) 37)) W → c.size = 17 → c'.size = 17 → rowAt (W.alloc (.cells c 37)) w.heap.size = some (csA 0 z16) ∧ Below w.heap.size w ((W.alloc (.cells c 37)).setRow w.heap.size c') ∧ rowAt ((W.alloc (.cells c 37)).setRow w.heap.size c') w.heap.size = some c' ∧ rowAt (W.alloc (.cells c 37)) W.heap.size = some c) := Lib.hid (fun W c c' h h1 h2 =>
    have k1 := rowAt_old (rowAt_below r0 h (by simp)) (.cells c 37)
    have k2 : Below w.heap.size w W := ((Below.refl _ _).alloc (Nat.le_refl _) _).trans (h.mono (by simp))
    ⟨k1, below_setRow (k2.alloc k2.size _) (Nat.le_refl _) _, rowAt_setRow k1 _ h2, rowAt_new W c 37 h1⟩)
  have hz3 := csA_one 0 z16
  have hz1 : (csA 0 z16).size = 17 := rfl
  rw [csA_z] at hz3 hz1 HOK G0
  clear hl hres r0 hg
  cases co
  · have hm : ¬ 58 ∈ l := by simpa using hco
    have hr : res = (match parse4P l with | some r => (4, fourB r, 0) | none => (0, z16, 30)) := by rw [HR.out]; exact parseP_four l hm
    obtain ⟨cr, hcr⟩ : ∃ c, c = four4 (parse4P l) := ⟨_, rfl⟩
    obtain ⟨okb, hokb⟩ : ∃ b, b = (parse4P l).isSome := ⟨_, rfl⟩
    have hcz : cr.size = 17 := by
      rw [hcr]
      cases h : parse4P l with
      | none => rfl
      | some r => exact csA_size (fourB_length r (by rw [parse4P_length h]; omega))
    have hco1 : cr.all (·.oneCell') = true := by
      rw [hcr]; unfold four4; split <;> exact csA_one _ _
    have HC : Hid (∀ W, Glob W → Calls Tryz.prog 81 #[.string s] W fun e w' => e = .returned (.tuple #[.agg cr, .bool okb]) ∧ Below W.heap.size W w') := Lib.hid (fun W hW => by rw [hcr, hokb]; exact H4.out W hW)
    have HRES : Hid ((okb = true → (csA res.1 res.2.1) = cr ∧ res.2.2 = 0) ∧ (okb = false → (csA res.1 res.2.1) = csA 0 z16 ∧ res.2.2 = 30)) := Lib.hid (by
      rw [hr, hcr, hokb]
      cases parse4P l with
      | none => exact ⟨fun h => by simp at h, fun _ => ⟨rfl, rfl⟩⟩
      | some r => exact ⟨fun _ => ⟨rfl, rfl⟩, fun h => by simp at h⟩)
    clear HR H6 H4 hco hm hr hcr hokb
    cases okb
    · obtain ⟨hra, hre⟩ : (csA res.1 res.2.1) = csA 0 z16 ∧ res.2.2 = 30 := HRES.out.2 rfl
      have HRA := Lib.hid hra; have HRE := Lib.hid hre; clear hra hre HRES
      go_enter Tryz.func59, Tryz.ntmps59
      go_wp2_with (first
        | (go_at_call 82; refine (HCON.out _).mono ?_; rintro e w44 ⟨rfl, hw44⟩; have hw44 := hw44.symm; subst hw44)
        | (go_at_call 81; refine (HC.out _ G0.out).mono ?_; rintro e w2 ⟨rfl, hb2⟩; obtain ⟨d1, k1, k2, d2⟩ := HOK.out w2 cr _ hb2 hcz hz1; have K1 := Lib.hid k1; have K2 := Lib.hid k2; clear k1 k2 hb2)
        | (refine wpList_store24 rfl _ _ rfl rfl _ rfl hcz hz1 hco1 ?_)
        | (refine wpList_store24o rfl _ _ rfl _ rfl _ _ d1 rfl hz1 hz3 ?_))
      refine bodyPost_ret (v := .tuple #[.agg (csA 0 z16), .int .i64 30]) ?_ rfl ⟨by rw [HRA.out, HRE.out], K1.out⟩
      exact result24t rfl _ _ _ _ _ rfl rfl K2.out
    · obtain ⟨hra, hre⟩ : (csA res.1 res.2.1) = cr ∧ res.2.2 = 0 := HRES.out.1 rfl
      have HRA := Lib.hid hra; have HRE := Lib.hid hre; clear hra hre HRES
      go_enter Tryz.func59, Tryz.ntmps59
      go_wp2_with (first
        | (go_at_call 82; refine (HCON.out _).mono ?_; rintro e w44 ⟨rfl, hw44⟩; have hw44 := hw44.symm; subst hw44)
        | (go_at_call 81; refine (HC.out _ G0.out).mono ?_; rintro e w2 ⟨rfl, hb2⟩; obtain ⟨d1, k1, k2, d2⟩ := HOK.out w2 cr cr hb2 hcz hcz; have K1 := Lib.hid k1; have K2 := Lib.hid k2; clear k1 k2 hb2)
        | (refine wpList_store24 rfl _ _ rfl rfl _ rfl hcz hz1 hco1 ?_)
        | (refine wpList_load24 rfl _ rfl _ rfl _ d2 ?_)
        | (refine wpList_store24o rfl _ _ rfl _ rfl _ _ d1 rfl hcz hco1 ?_))
      refine bodyPost_ret (v := .tuple #[.agg cr, .int .i64 0]) ?_ rfl ⟨by rw [HRA.out, HRE.out], K1.out⟩
      exact result24t rfl _ _ _ _ _ rfl rfl K2.out
  · have hm : 58 ∈ l := by simpa using hco
    have hr : res = (match parse6P l with | some g => (6, unG g, 0) | none => (0, z16, 30)) := by rw [HR.out]; exact parseP_six l hm
    obtain ⟨cr, hcr⟩ : ∃ c, c = six (parse6P l) := ⟨_, rfl⟩
    obtain ⟨okb, hokb⟩ : ∃ b, b = (parse6P l).isSome := ⟨_, rfl⟩
    have hcz : cr.size = 17 := by
      rw [hcr]
      cases h : parse6P l with
      | none => rfl
      | some r => exact csA_size (by rw [unG_length, parse6P_length h])
    have hco1 : cr.all (·.oneCell') = true := by
      rw [hcr]; unfold six; split <;> exact csA_one _ _
    have HC : Hid (∀ W, Glob W → Calls Tryz.prog 83 #[.string s] W fun e w' => e = .returned (.tuple #[.agg cr, .bool okb]) ∧ Below W.heap.size W w') := Lib.hid (fun W hW => by rw [hcr, hokb]; exact H6.out W hW)
    have HRES : Hid ((okb = true → (csA res.1 res.2.1) = cr ∧ res.2.2 = 0) ∧ (okb = false → (csA res.1 res.2.1) = csA 0 z16 ∧ res.2.2 = 30)) := Lib.hid (by
      rw [hr, hcr, hokb]
      cases parse6P l with
      | none => exact ⟨fun h => by simp at h, fun _ => ⟨rfl, rfl⟩⟩
      | some r => exact ⟨fun _ => ⟨rfl, rfl⟩, fun h => by simp at h⟩)
    clear HR H6 H4 hco hm hr hcr hokb
    cases okb
    · obtain ⟨hra, hre⟩ : (csA res.1 res.2.1) = csA 0 z16 ∧ res.2.2 = 30 := HRES.out.2 rfl
      have HRA := Lib.hid hra; have HRE := Lib.hid hre; clear hra hre HRES
      go_enter Tryz.func59, Tryz.ntmps59
      go_wp2_with (first
        | (go_at_call 82; refine (HCON.out _).mono ?_; rintro e w44 ⟨rfl, hw44⟩; have hw44 := hw44.symm; subst hw44)
        | (go_at_call 83; refine (HC.out _ G0.out).mono ?_; rintro e w2 ⟨rfl, hb2⟩; obtain ⟨d1, k1, k2, d2⟩ := HOK.out w2 cr _ hb2 hcz hz1; have K1 := Lib.hid k1; have K2 := Lib.hid k2; clear k1 k2 hb2)
        | (refine wpList_store24 rfl _ _ rfl rfl _ rfl hcz hz1 hco1 ?_)
        | (refine wpList_store24o rfl _ _ rfl _ rfl _ _ d1 rfl hz1 hz3 ?_))
      refine bodyPost_ret (v := .tuple #[.agg (csA 0 z16), .int .i64 30]) ?_ rfl ⟨by rw [HRA.out, HRE.out], K1.out⟩
      exact result24t rfl _ _ _ _ _ rfl rfl K2.out
    · obtain ⟨hra, hre⟩ : (csA res.1 res.2.1) = cr ∧ res.2.2 = 0 := HRES.out.1 rfl
      have HRA := Lib.hid hra; have HRE := Lib.hid hre; clear hra hre HRES
      go_enter Tryz.func59, Tryz.ntmps59
      go_wp2_with (first
        | (go_at_call 82; refine (HCON.out _).mono ?_; rintro e w44 ⟨rfl, hw44⟩; have hw44 := hw44.symm; subst hw44)
        | (go_at_call 83; refine (HC.out _ G0.out).mono ?_; rintro e w2 ⟨rfl, hb2⟩; obtain ⟨d1, k1, k2, d2⟩ := HOK.out w2 cr cr hb2 hcz hcz; have K1 := Lib.hid k1; have K2 := Lib.hid k2; clear k1 k2 hb2)
        | (refine wpList_store24 rfl _ _ rfl rfl _ rfl hcz hz1 hco1 ?_)
        | (refine wpList_load24 rfl _ rfl _ rfl _ d2 ?_)
        | (refine wpList_store24o rfl _ _ rfl _ rfl _ _ d1 rfl hcz hco1 ?_))
      refine bodyPost_ret (v := .tuple #[.agg cr, .int .i64 0]) ?_ rfl ⟨by rw [HRA.out, HRE.out], K1.out⟩
      exact result24t rfl _ _ _ _ _ rfl rfl K2.out
end Go.Proofs.YtoifolmcdkfniabGreatDoor
