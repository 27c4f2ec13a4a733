/-
  The document's own Less and Within.
-/
import Derived.Test.YtoifolmcdkfniaaRef1
namespace Go.Proofs.Ytoifolmcdkfniaa
open Go.ChangeShapes Go.WideShapes Go.ChangeAt Go.RowKit
set_option linter.unusedVariables false
set_option maxHeartbeats 4000000
set_option maxRecDepth 100000

theorem cmp_at : ∀ (l m : List Int) (k : Nat) (a b : Int), (∀ y ∈ l, 0 ≤ y ∧ y ≤ 255) → (∀ y ∈ m, 0 ≤ y ∧ y ≤ 255) → (∀ j, j < k → l[j]? = m[j]?) → l[k]? = some a → m[k]? = some b → a ≠ b → (cmpL l m < 0 ↔ a < b)
  | [], _, _, _, _, _, _, _, h, _, _ => by simp at h
  | _ :: _, [], _, _, _, _, _, _, _, h, _ => by simp at h
  | x :: l, y :: m, 0, a, b, hl, hm, _, ha, hb, hne => by
    simp at ha hb
    subst ha hb
    have h1 := hl x (by simp); have h2 := hm y (by simp)
    unfold cmpL
    simp only [Lib.bytesOf, List.map_cons, Lib.compareBytes, UInt8.lt_iff_toNat_lt, UInt8.toNat_ofNat']
    by_cases h : x < y
    · rw [if_pos (by omega)]; simp [h]
    · rw [if_neg (by omega), if_pos (by omega)]; simp [h]
  | x :: l, y :: m, k + 1, a, b, hl, hm, he, ha, hb, hne => by
    have e : x = y := by have := he 0 (by omega); simpa using this
    subst e
    have ih := cmp_at l m k a b (fun y hy => hl y (by simp [hy])) (fun y hy => hm y (by simp [hy])) (fun j hj => by have := he (j + 1) (by omega); simpa using this) (by simpa using ha) (by simpa using hb) hne
    unfold cmpL at ih ⊢
    simp only [Lib.bytesOf, List.map_cons, Lib.compareBytes, UInt8.lt_irrefl, if_false] at ih ⊢
    exact ih
theorem cmp_same (l : List Int) : cmpL l l = 0 := by
  unfold cmpL
  induction Lib.bytesOf l with
  | nil => rfl
  | cons a l ih => simp [Lib.compareBytes, ih]
theorem rless_c (v v' : Int) (l l' : List Int) (hl : l.length = 16) (hl' : l'.length = 16) (hb : ∀ y ∈ l, 0 ≤ y ∧ y ≤ 255) (hb' : ∀ y ∈ l', 0 ≤ y ∧ y ≤ 255) (w : World) :
    Calls Try.prog 43 #[.agg (csA v l), .agg (csA v' l')] w fun e w' => e = .returned (.bool (lessP v l v' l')) ∧ Below w.heap.size w w' := by
  obtain ⟨cs, hcs⟩ : ∃ c, c = csA v l := ⟨_, rfl⟩
  obtain ⟨ct, hct⟩ : ∃ c, c = csA v' l' := ⟨_, rfl⟩
  have r1 : rowAt ((w.alloc (.cells cs 31)).alloc (.cells ct 31)) w.heap.size = some cs := rowAt_old (rowAt_new w _ 31 (by rw [hcs]; exact csA_size hl)) _
  have r2 : rowAt ((w.alloc (.cells cs 31)).alloc (.cells ct 31)) (w.heap.size + 1) = some ct := by
    have := rowAt_new (w.alloc (.cells cs 31)) ct 31 (by rw [hct]; exact csA_size hl')
    simpa using this
  have c1 := rowAt_cell r1 0 (.int .i64 v) (by rw [hcs]; exact csA_zero v l)
  have c2 := rowAt_cell r2 0 (.int .i64 v') (by rw [hct]; exact csA_zero v' l')
  have HB : Hid (Below w.heap.size w ((w.alloc (.cells cs 31)).alloc (.cells ct 31))) := Lib.hid (((Below.refl _ _).alloc (Nat.le_refl _) _).alloc (by simp) _)
  have HR : Hid (rowAt ((w.alloc (.cells cs 31)).alloc (.cells ct 31)) w.heap.size = some (csA v l) ∧ rowAt ((w.alloc (.cells cs 31)).alloc (.cells ct 31)) (w.heap.size + 1) = some (csA v' l')) := Lib.hid ⟨by rw [← hcs]; exact r1, by rw [← hct]; exact r2⟩
  obtain ⟨r, hr⟩ : ∃ r, r = lessP v l v' l' := ⟨_, rfl⟩
  have HV := Lib.hid hr
  rw [← hcs, ← hct, ← hr]
  clear hcs hct hr r1 r2
  by_cases hv : v = v'
  · subst hv
    have e : Hid (r = decide (cmpL l l' < 0)) := Lib.hid (by rw [HV.out, lessP, if_pos rfl])
    go_enter Try.func43, Try.ntmps43
    go_wp2_with fail
    generalize (w.alloc (.cells cs 31)).alloc (.cells ct 31) = W at *
    go_loopw [5] (fun i wr => ∃ (k n : Nat), k ≤ 16 ∧ i = .int .i64 (k : Int) ∧ (∀ j, j < k → l[j]? = l'[j]?) ∧ wr = W.drewN n) (fun i _ => 16 - (intOf i).toNat)
    case atStart => exact ⟨0, 0, by omega, rfl, fun j h => by omega, rfl⟩
    case round =>
      obtain ⟨k, n, hk, rfl, hz, hW⟩ := hrel
      subst hW
      have HZ := Lib.hid hz
      clear hz
      by_cases hlt : k < 16
      · obtain ⟨a, hak⟩ : ∃ b, l[k]? = some b := ⟨_, List.getElem?_eq_getElem (by omega)⟩
        obtain ⟨b, hbk⟩ : ∃ b, l'[k]? = some b := ⟨_, List.getElem?_eq_getElem (by omega)⟩
        have cx := rowAt_bytes HR.out.1 k a hak
        have cy := rowAt_bytes HR.out.2 k b hbk
        have b1 : decide ((k : Int) < 16) = true := by simp; omega
        have b2 : 0 ≤ (k : Int) := by omega
        have b3 : (k : Int) < 16 := by omega
        have b4 : ((k : Int)).toNat = k := by omega
        have HAK := Lib.hid hak; have HBK := Lib.hid hbk
        clear hak hbk
        by_cases hab : a = b
        · subst hab
          go_wp2_with fail
          go_region
          all_goals (go_wp2_with fail; go_roundw)
          all_goals first | exact ⟨k + 1, n + 1, by omega, by go_num, fun j h2 => (by rcases Nat.lt_or_ge j k with h | h; exact HZ.out j h; rw [show j = k by omega, HAK.out, HBK.out]), rfl⟩ | exact ⟨k + 1, n + 1, by omega, by go_num, fun j h2 => (by rcases Nat.lt_or_ge j k with h | h; exact HZ.out j h; rw [show j = k by omega, HAK.out, HBK.out]), trivial⟩ | (simp [intOf]; omega)
        · have fb : decide (a = b) = false := by simp [hab]
          have e2 : r = decide (a < b) := by rw [e.out]; exact decide_eq_decide.2 (cmp_at l l' k a b hb hb' HZ.out HAK.out HBK.out hab)
          subst e2
          go_wp2_with fail
          go_region
          all_goals (go_wp2_with fail; go_region)
          all_goals (go_wp2_with fail; go_ret)
          all_goals exact ⟨rfl, below_drewN HB.out _⟩
      · have e16 : k = 16 := by omega
        have e2 : r = false := by
          have : l = l' := List.ext_getElem? (fun i => by
            rcases Nat.lt_or_ge i 16 with h | h
            · exact HZ.out i (by omega)
            · rw [List.getElem?_eq_none (by omega), List.getElem?_eq_none (by omega)])
          rw [e.out, this, cmp_same]; rfl
        have b1 : decide ((k : Int) < 16) = false := by simp; omega
        subst e2
        clear e16 hk hlt
        go_wp2_with fail
        go_ret
        exact ⟨rfl, below_drewN HB.out _⟩
  · have fv : decide (v = v') = false := by simp [hv]
    have e : r = decide (v < v') := by rw [HV.out, lessP, if_neg hv]
    subst e
    go_enter Try.func43, Try.ntmps43
    go_wp2_with fail
    go_ret
    exact ⟨rfl, HB.out⟩
end Go.Proofs.Ytoifolmcdkfniaa
