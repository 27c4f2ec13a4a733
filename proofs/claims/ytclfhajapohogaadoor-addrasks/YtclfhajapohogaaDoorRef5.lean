/-
  The document's own Kind.
-/
import Derived.Test.YtclfhajapohogaaDoorRef4
namespace Go.Proofs.YtclfhajapohogaaDoor
open Go.ChangeShapes Go.WideShapes Go.ChangeAt Go.RowKit
set_option linter.unusedVariables false
set_option maxHeartbeats 4000000
set_option maxRecDepth 100000

def andOk : Bool := (List.range 256).all fun a => (List.range 256).all fun b => (decide (bits .and .u8 (a : Int) (b : Int) = 255) == (decide (a = 255) && decide (b = 255))) && (decide (0 ≤ bits .and .u8 (a : Int) (b : Int)) && decide (bits .and .u8 (a : Int) (b : Int) ≤ 255))
theorem andOk_true : andOk = true := by decide +kernel
theorem and255 (a b : Int) (ha : 0 ≤ a ∧ a ≤ 255) (hb : 0 ≤ b ∧ b ≤ 255) : (bits .and .u8 a b = 255 ↔ a = 255 ∧ b = 255) ∧ 0 ≤ bits .and .u8 a b ∧ bits .and .u8 a b ≤ 255 := by
  obtain ⟨a, rfl⟩ := Int.eq_ofNat_of_zero_le ha.1
  obtain ⟨b, rfl⟩ := Int.eq_ofNat_of_zero_le hb.1
  have h := andOk_true
  unfold andOk at h
  simp only [List.all_eq_true, List.mem_range] at h
  have h1 := h a (by omega) b (by omega)
  rw [Bool.and_eq_true, Bool.and_eq_true] at h1
  obtain ⟨h1, h2, h3⟩ := h1
  refine ⟨?_, of_decide_eq_true h2, of_decide_eq_true h3⟩
  have h4 := eq_of_beq h1
  constructor
  · intro h5
    rw [h5] at h4
    simp at h4
    omega
  · rintro ⟨h5, h6⟩
    have h7 : a = 255 := by omega
    have h8 : b = 255 := by omega
    rw [h7, h8] at h4 ⊢
    simpa using h4
theorem zero_not {l : List Int} {k : Nat} {b : Int} (h : l[k]? = some b) (h0 : b ≠ 0) (hk : k < 16) : eqL l z16 = false := by
  apply eqL_of_ne
  rintro rfl
  have : ∀ i, i < 16 → z16[i]? = some 0 := by decide
  rw [this k hk] at h
  simp at h
  exact h0 h.symm
theorem one_iff {l : List Int} (hl : l.length = 16) {k : Nat} {b : Int} (h : l[k]? = some b) (h0 : b ≠ 0) (hk : k < 16) (hz : ∀ j, j < k → l[j]? = some 0) : l = one16 ↔ k = 15 ∧ b = 1 := by
  have o : ∀ i, i < 15 → one16[i]? = some 0 := by decide
  constructor
  · rintro rfl
    have e : k = 15 := by
      rcases Nat.lt_or_ge k 15 with h1 | h1
      · rw [o k h1] at h; simp at h; exact absurd h.symm h0
      · omega
    subst e
    have : one16[15]? = some 1 := rfl
    rw [this] at h
    simp at h
    exact ⟨rfl, h.symm⟩
  · rintro ⟨rfl, rfl⟩
    apply List.ext_getElem?
    intro i
    rcases Nat.lt_or_ge i 15 with h1 | h1
    · rw [hz i h1, o i h1]
    · rcases Nat.lt_or_ge i 16 with h2 | h2
      · rw [show i = 15 by omega, h]; rfl
      · rw [List.getElem?_eq_none (by omega), List.getElem?_eq_none (by simp [one16]; omega)]
theorem rkind_c (v : Int) (l : List Int) (hl : l.length = 16) (hb : ∀ y ∈ l, 0 ≤ y ∧ y ≤ 255) (w : World) (hg : Glob w) :
    Calls Tryd.prog 22 #[.agg (csA v l)] w fun e w' => e = .returned (.int .i64 (kindP v l)) ∧ Below w.heap.size w w' := by
  obtain ⟨cs, hcs⟩ : ∃ c, c = csA v l := ⟨_, rfl⟩
  obtain ⟨e1, he1⟩ : ∃ c, c = validP v l := ⟨_, rfl⟩
  obtain ⟨r, hr⟩ : ∃ r, r = kindP v l := ⟨_, rfl⟩
  have sa : cs.size = 17 := by rw [hcs]; exact csA_size hl
  have HV1 : Hid (∀ W, Calls Tryd.prog 21 #[.agg cs] W fun e w' => e = .returned (.bool e1) ∧ Below W.heap.size W w') := Lib.hid (fun W => by rw [hcs, he1]; exact rvalid_c v l hl W)
  have hsa : RS w [(w.heap.size, cs)] (w.alloc (.cells cs 24)) := by
    have h0 : RS w [] w := ⟨hg, Below.refl _ _⟩
    exact h0.add cs sa
  have HE1 := Lib.hid he1; have HR := Lib.hid hr; have HCS := Lib.hid hcs
  rw [← hcs, ← hr]
  clear hcs he1 hr hg
  have z1 := hsa.1
  go_enter Tryd.func22, Tryd.ntmps22
  go_wp2_with (first
    | (refine wpList_load24 rfl _ rfl _ rfl _ (by assumption) ?_)
    | (go_at_call 21; refine (HV1.out _).mono ?_; rintro e t1 ⟨rfl, hq⟩; have hs1 := hsa.on hq; clear hq hsa z1; refine Hid.out ?_))
  refine Lib.hid ?_
  cases e1
  · have e : r = 0 := by rw [HR.out, kindP, ← HE1.out]; rfl
    subst e
    go_wp2_with fail
    go_ret
    exact ⟨rfl, hs1.base.2⟩
  · have HROW : Hid (rowAt t1 w.heap.size = some (csA v l)) := Lib.hid (by rw [← HCS.out]; exact hs1.1)
    have HBEL : Hid (Below w.heap.size w t1) := Lib.hid hs1.base.2
    clear hs1
    go_wp2_with fail
    go_loopw [4] (fun i wr => ∃ k : Nat, k ≤ 16 ∧ i = .int .i64 (k : Int) ∧ (∀ j, j < k → l[j]? = some 0) ∧ wr = t1) (fun i _ => 16 - (intOf i).toNat)
    case atStart => exact ⟨0, by omega, rfl, fun j h => by omega, rfl⟩
    case round =>
      obtain ⟨k, hk, rfl, hz, hW⟩ := hrel
      subst hW
      have HZ := Lib.hid hz
      clear hz
      by_cases hlt : k < 16
      · obtain ⟨b, hbk⟩ : ∃ b, l[k]? = some b := ⟨_, List.getElem?_eq_getElem (by omega)⟩
        have cx := rowAt_bytes HROW.out k b hbk
        have b1 : decide ((k : Int) < 16) = true := by simp; omega
        have b2 : 0 ≤ (k : Int) := by omega
        have b3 : (k : Int) < 16 := by omega
        have b4 : ((k : Int)).toNat = k := by omega
        have HBK := Lib.hid hbk
        clear hbk
        by_cases hb0 : b = 0
        · subst hb0
          go_wp2_with fail
          go_roundw
          all_goals first | exact ⟨k + 1, by omega, by go_num, fun j h2 => (by rcases Nat.lt_or_ge j k with h | h; exact HZ.out j h; rw [show j = k by omega]; exact HBK.out), trivial⟩ | (simp [intOf]; omega)
        · have fb : decide (b = 0) = false := by simp [hb0]
          have n16 : decide ((k : Int) = 16) = false := by simp; omega
          have hz16 := Lib.hid (zero_not HBK.out hb0 hlt)
          have hone := Lib.hid (one_iff hl HBK.out hb0 hlt HZ.out)
          obtain ⟨x0, hx0⟩ : ∃ b, l[0]? = some b := ⟨_, List.getElem?_eq_getElem (by omega)⟩
          obtain ⟨x1, hx1⟩ : ∃ b, l[1]? = some b := ⟨_, List.getElem?_eq_getElem (by omega)⟩
          obtain ⟨x2, hx2⟩ : ∃ b, l[2]? = some b := ⟨_, List.getElem?_eq_getElem (by omega)⟩
          obtain ⟨x3, hx3⟩ : ∃ b, l[3]? = some b := ⟨_, List.getElem?_eq_getElem (by omega)⟩
          obtain ⟨y, hy⟩ : ∃ b, l[15]? = some b := ⟨_, List.getElem?_eq_getElem (by omega)⟩
          have q0 := rowAt_bytes HROW.out 0 x0 hx0
          have q1 := rowAt_bytes HROW.out 1 x1 hx1
          have q2 := rowAt_bytes HROW.out 2 x2 hx2
          have q3 := rowAt_bytes HROW.out 3 x3 hx3
          have q15 := rowAt_bytes HROW.out 15 y hy
          have qv := rowAt_cell HROW.out 0 _ (csA_zero v l)
          have B0 := hb x0 (List.mem_of_getElem? hx0)
          have B1 := hb x1 (List.mem_of_getElem? hx1)
          have B2 := hb x2 (List.mem_of_getElem? hx2)
          have B3 := hb x3 (List.mem_of_getElem? hx3)
          have HH : Hid (l.head? = some x0) := Lib.hid (by rw [List.head?_eq_getElem?]; exact hx0)
          have HK4 : Hid (k4 (l.getD 0 0) (l.getD 1 0) (l.getD 2 0) (l.getD 3 0) = k4 x0 x1 x2 x3) := Lib.hid (by rw [List.getD, List.getD, List.getD, List.getD, hx0, hx1, hx2, hx3]; rfl)
          have HX0 := Lib.hid hx0; have HY := Lib.hid hy
          clear hx0 hx1 hx2 hx3 hy
          by_cases hv : v = 6
          · have fv : decide (v = 6) = true := by simp [hv]
            have er : Hid (r = k6 l) := Lib.hid (by rw [HR.out, kindP, ← HE1.out, if_neg (by decide), hz16.out, if_neg (by decide), if_neg (by omega)])
            by_cases hk15 : k = 15
            · have f15 : decide ((k : Int) = 15) = true := by simp [hk15]
              have hyb : y = b := by have h1 := HY.out; rw [← hk15, HBK.out] at h1; simpa using h1.symm
              subst hyb
              by_cases h1 : y = 1
              · have e : r = 2 := by rw [er.out, k6, if_pos (eqL_iff.2 (hone.out.2 ⟨hk15, h1⟩))]
                have f1 : decide (y = 1) = true := by simp [h1]
                subst e
                go_wp2_with fail
                go_ret
                exact ⟨rfl, HBEL.out⟩
              · have e : r = 5 := by
                  rw [er.out, k6, if_neg (fun h => h1 (hone.out.1 (eqL_iff.1 h)).2), if_neg]
                  rw [List.head?_eq_getElem?, HZ.out 0 (by omega)]; simp
                have f1 : decide (y = 1) = false := by simp [h1]
                have e0 : x0 = 0 := by have h1 := HX0.out; rw [HZ.out 0 (by omega)] at h1; simpa using h1.symm
                subst e e0
                go_wp2_with fail
                go_ret
                exact ⟨rfl, HBEL.out⟩
            · have f15 : decide ((k : Int) = 15) = false := by simp; omega
              have hn1 : ¬ eqL l one16 = true := fun h => hk15 (hone.out.1 (eqL_iff.1 h)).1
              by_cases h1 : x0 = 255
              · have e : r = 3 := by rw [er.out, k6, if_neg hn1, if_pos (by rw [HH.out, h1])]
                have f1 : decide (x0 = 255) = true := by simp [h1]
                subst e
                go_wp2_with fail
                go_ret
                exact ⟨rfl, HBEL.out⟩
              · have e : r = 5 := by rw [er.out, k6, if_neg hn1, if_neg (by rw [HH.out]; simpa using h1)]
                have f1 : decide (x0 = 255) = false := by simp [h1]
                subst e
                go_wp2_with fail
                go_ret
                exact ⟨rfl, HBEL.out⟩
          · have fv : decide (v = 6) = false := by simp [hv]
            have hv4 : v = 4 := by have h := HE1.out; unfold validP at h; by_cases h4 : v = 4; exact h4; rw [if_neg h4] at h; simp at h; omega
            have er : Hid (r = k4 x0 x1 x2 x3) := Lib.hid (by rw [HR.out, kindP, ← HE1.out, if_neg (by decide), hz16.out, if_neg (by decide), if_pos hv4, HK4.out])
            have A1 := and255 x0 x1 B0 B1
            have A2 := and255 _ x2 A1.2 B2
            have A3 := and255 _ x3 A2.2 B3
            have hand : Hid (bits .and .u8 (bits .and .u8 (bits .and .u8 x0 x1) x2) x3 = 255 ↔ [x0, x1, x2, x3] = [255, 255, 255, 255]) := Lib.hid (by
              rw [A3.1, A2.1, A1.1]; simp [and_assoc])
            obtain ⟨z, hz⟩ : ∃ z, z = bits .and .u8 (bits .and .u8 (bits .and .u8 x0 x1) x2) x3 := ⟨_, rfl⟩
            have HZB := Lib.hid hz
            clear hz A1 A2 A3 hv4
            have d16 : x0.tdiv 16 = x0 / 16 := Int.tdiv_eq_ediv_of_nonneg B0.1
            by_cases h1 : x0 = 127
            · have e : r = 2 := by rw [er.out, k4, if_pos h1]
              subst h1 e
              go_wp2_with fail
              go_ret
              exact ⟨rfl, HBEL.out⟩
            · have f1 : decide (x0 = 127) = false := by simp [h1]
              by_cases h2 : 224 ≤ x0 ∧ x0 ≤ 239
              · have e : r = 3 := by rw [er.out, k4, if_neg h1, if_pos h2]
                have f2 : decide (x0 / 16 = 14) = true := by simp; omega
                subst e
                go_wp2_with fail
                go_ret
                exact ⟨rfl, HBEL.out⟩
              · have f2 : decide (x0 / 16 = 14) = false := by simp; omega
                by_cases h3 : [x0, x1, x2, x3] = [255, 255, 255, 255]
                · have e : r = 4 := by rw [er.out, k4, if_neg h1, if_neg h2, if_pos (eqL_iff.2 h3)]
                  simp at h3
                  obtain ⟨rfl, rfl, rfl, rfl⟩ := h3
                  subst e
                  go_wp2_with fail
                  go_ret
                  exact ⟨rfl, HBEL.out⟩
                · have e : r = 5 := by rw [er.out, k4, if_neg h1, if_neg h2, if_neg (fun h => h3 (eqL_iff.1 h))]
                  have f3 : decide (bits .and .u8 (bits .and .u8 (bits .and .u8 x0 x1) x2) x3 = 255) = false := decide_eq_false (fun h => h3 (hand.out.1 h))
                  have H3 := Lib.hid h3
                  subst e
                  clear h3
                  go_wp2_with fail
                  all_goals first
                    | (go_ret; exact ⟨rfl, HBEL.out⟩)
                    | (rename_i h9; exact absurd (hand.out.1 (by simpa using h9)) H3.out)
                    | (rename_i h9 _; exact absurd (hand.out.1 (by simpa using h9)) H3.out)
                    | (rename_i h9 _ _; exact absurd (hand.out.1 (by simpa using h9)) H3.out)
      · have e16 : (k : Int) = 16 := by omega
        have e : r = 1 := by
          have hzz : l = z16 := List.ext_getElem? (fun i => by
            rcases Nat.lt_or_ge i 16 with h | h
            · rw [HZ.out i (by omega)]
              have : ∀ i, i < 16 → z16[i]? = some 0 := by decide
              rw [this i h]
            · rw [List.getElem?_eq_none (by omega), List.getElem?_eq_none (by simp [z16]; omega)])
          rw [HR.out, kindP, ← HE1.out, if_neg (by decide), hzz, eqL_self, if_pos rfl]
        have b1 : decide ((k : Int) < 16) = false := by simp; omega
        have n16 : decide ((k : Int) = 16) = true := by simp [e16]
        subst e
        clear hlt hk
        rw [e16] at *
        go_wp2_with fail
        go_ret
        exact ⟨rfl, HBEL.out⟩
end Go.Proofs.YtclfhajapohogaaDoor
