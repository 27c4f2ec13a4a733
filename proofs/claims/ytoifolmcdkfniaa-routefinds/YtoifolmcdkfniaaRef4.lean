/-
  The document's own Within.
-/
import Derived.Test.YtoifolmcdkfniaaRef3
import Derived.Test.YtoifolmcdkfniaaDrawn
namespace Go.Proofs.Ytoifolmcdkfniaa
open Go.ChangeShapes Go.WideShapes Go.ChangeAt Go.RowKit
set_option linter.unusedVariables false
set_option maxHeartbeats 4000000
set_option maxRecDepth 100000

theorem within_other {v v' : Int} (l l' : List Int) (n : Int) (h : v ≠ v') : withinP v l v' l' n = false := by unfold withinP; simp [h]
theorem rwithin_c (v v' : Int) (l l' : List Int) (hl : l.length = 16) (hl' : l'.length = 16) (hb : ∀ y ∈ l, 0 ≤ y ∧ y ≤ 255) (hb' : ∀ y ∈ l', 0 ≤ y ∧ y ≤ 255) (bs : Int) (w : World) (hg : Glob w) :
    Calls Try.prog 27 #[.agg (csA v l), .agg (csA v' l'), .int .i64 bs] w fun e w' => e = .returned (.bool (withinP v l v' l' bs)) ∧ Below w.heap.size w w' := by
  obtain ⟨cs, hcs⟩ : ∃ c, c = csA v l := ⟨_, rfl⟩
  obtain ⟨ct, hct⟩ : ∃ c, c = csA v' l' := ⟨_, rfl⟩
  obtain ⟨e1, he1⟩ : ∃ c, c = validP v l := ⟨_, rfl⟩
  obtain ⟨e2, he2⟩ : ∃ c, c = validP v' l' := ⟨_, rfl⟩
  obtain ⟨wd, hwd⟩ : ∃ c : Int, c = if v = 4 then 32 else 128 := ⟨_, rfl⟩
  obtain ⟨r, hr⟩ : ∃ r, r = withinP v l v' l' bs := ⟨_, rfl⟩
  have sa : cs.size = 17 := by rw [hcs]; exact csA_size hl
  have sb : ct.size = 17 := by rw [hct]; exact csA_size hl'
  have ca0 : cs[0]? = some (.int .i64 v) := by rw [hcs]; exact csA_zero v l
  have cb0 : ct[0]? = some (.int .i64 v') := by rw [hct]; exact csA_zero v' l'
  have HV1 : Hid (∀ W, Calls Try.prog 26 #[.agg cs] W fun e w' => e = .returned (.bool e1) ∧ Below W.heap.size W w') := Lib.hid (fun W => by rw [hcs, he1]; exact rvalid_c v l hl W)
  have HV2 : Hid (∀ W, Calls Try.prog 26 #[.agg ct] W fun e w' => e = .returned (.bool e2) ∧ Below W.heap.size W w') := Lib.hid (fun W => by rw [hct, he2]; exact rvalid_c v' l' hl' W)
  have HBT : Hid (∀ W, Calls Try.prog 40 #[.agg cs] W fun e w' => e = .returned (.int .i64 wd) ∧ Below W.heap.size W w') := Lib.hid (fun W => by rw [hcs, hwd]; exact rbits_c v l hl W)
  have HX1 : Hid (∀ k : Nat, k < 128 → ∀ W, Calls Try.prog 42 #[.agg cs, .int .i64 (k : Int)] W fun e w' => e = .returned (.int .u8 (bitP l k)) ∧ Below W.heap.size W w') := Lib.hid (fun k hk W => by rw [hcs]; exact rbit_c v l hl hb k hk W)
  have HX2 : Hid (∀ k : Nat, k < 128 → ∀ W, Calls Try.prog 42 #[.agg ct, .int .i64 (k : Int)] W fun e w' => e = .returned (.int .u8 (bitP l' k)) ∧ Below W.heap.size W w') := Lib.hid (fun k hk W => by rw [hct]; exact rbit_c v' l' hl' hb' k hk W)
  have hsa : RS w [(w.heap.size + 1, ct), (w.heap.size, cs)] ((w.alloc (.cells cs 31)).alloc (.cells ct 31)) := by
    have h0 : RS w [] w := ⟨hg, Below.refl _ _⟩
    have h2 := (h0.add cs sa).add ct sb
    rwa [show (w.alloc (.cells cs 31)).heap.size = w.heap.size + 1 by simp] at h2
  have HE1 := Lib.hid he1; have HE2 := Lib.hid he2; have HWD := Lib.hid hwd; have HR := Lib.hid hr
  rw [← hcs, ← hct, ← hr]
  clear hcs hct he1 he2 hwd hr hg
  have z1 := hsa.1; have z2 := hsa.2.1
  go_enter Try.func27, Try.ntmps27
  go_wp2_with (first
    | (refine wpList_load24 rfl _ rfl _ rfl _ (by assumption) ?_)
    | (go_at_call 26; refine (HV1.out _).mono ?_; rintro e t1 ⟨rfl, hq⟩; have hs1 := hsa.on hq; have z1 := hs1.1; have z2 := hs1.2.1; clear hq hsa; refine Hid.out ?_))
  refine Lib.hid ?_
  go_wp2_with (first
    | (refine wpList_load24 rfl _ rfl _ rfl _ (by assumption) ?_)
    | (go_at_call 26; refine (HV2.out _).mono ?_; rintro e t2 ⟨rfl, hq⟩; have hs2 := hs1.on hq; have z1 := hs2.1; have z2 := hs2.2.1; clear hq hs1; refine Hid.out ?_))
  refine Lib.hid ?_
  have y1 := rowAt_cell z1 0 _ cb0
  have y2 := rowAt_cell z2 0 _ ca0
  cases e1
  · have e : r = false := by rw [HR.out, withinP, maskOk, ← HE1.out]; rfl
    subst e
    go_wp2_with fail
    go_ret
    exact ⟨rfl, hs2.base.2⟩
  · cases e2
    · have e : r = false := by rw [HR.out, within_sym, withinP, maskOk, ← HE2.out]; rfl
      subst e
      go_wp2_with fail
      go_ret
      exact ⟨rfl, hs2.base.2⟩
    · by_cases hv : v = v'
      · have fv : decide (v = v') = true := by simp [hv]
        by_cases h0 : bs < 0
        · have f0 : decide (bs < 0) = true := by simp [h0]
          have e : r = false := by
            rw [HR.out]
            have : maskOk v l bs = false := by unfold maskOk; simp; omega
            unfold withinP; rw [this]; rfl
          subst e
          go_wp2_with fail
          go_ret
          exact ⟨rfl, hs2.base.2⟩
        · have f0 : decide (bs < 0) = false := by simp; omega
          by_cases h1 : wd < bs
          · have f1 : decide (wd < bs) = true := by simp [h1]
            have e : r = false := by
              rw [HR.out]
              have : maskOk v l bs = false := by unfold maskOk; rw [← HWD.out]; simp; omega
              unfold withinP; rw [this]; rfl
            subst e
            go_wp2_with (first
              | (refine wpList_load24 rfl _ rfl _ rfl _ (by assumption) ?_)
              | (go_at_call 40; refine (HBT.out _).mono ?_; rintro e t3 ⟨rfl, hq⟩; have hs3 := hs2.on hq; clear hq hs2))
            go_ret
            exact ⟨rfl, hs3.base.2⟩
          · have f1 : decide (wd < bs) = false := by simp; omega
            obtain ⟨n, hn⟩ := Int.eq_ofNat_of_zero_le (show 0 ≤ bs by omega)
            subst hn
            have hn128 : n ≤ 128 := by have := HWD.out; split at this <;> omega
            have e : Hid (r = eqL (maskL n 0 l) (maskL n 0 l')) := Lib.hid (by
              have o1 : maskOk v l (n : Int) = true := ok_iff.2 ⟨HE1.out.symm, by omega, by rw [← HWD.out]; omega⟩
              have o2 : maskOk v' l' (n : Int) = true := ok_iff.2 ⟨HE2.out.symm, by omega, by rw [← hv, ← HWD.out]; omega⟩
              rw [HR.out, withinP, o1, o2, hv]; simp)
            go_wp2_with (first
              | (refine wpList_load24 rfl _ rfl _ rfl _ (by assumption) ?_)
              | (go_at_call 40; refine (HBT.out _).mono ?_; rintro e' t3 ⟨rfl, hq⟩; have hs3 := hs2.on hq; clear hq hs2 z1 z2 y1 y2))
            go_loopw [9] (fun i wr => ∃ k : Nat, k ≤ n ∧ i = .int .i64 (k : Int) ∧ (∀ j, j < k → bitP l j = bitP l' j) ∧ RS w [(w.heap.size + 1, ct), (w.heap.size, cs)] wr) (fun i _ => n - (intOf i).toNat)
            case atStart => exact ⟨0, by omega, rfl, fun j h => by omega, hs3⟩
            case round =>
              obtain ⟨k, hk, rfl, hz, hs4⟩ := hrel
              have HZ := Lib.hid hz
              clear hz
              by_cases hlt : k < n
              · have b1 : decide ((k : Int) < (n : Int)) = true := by simp; omega
                have b1' : decide (k < n) = true := by simp; omega
                have G1 := Lib.hid (HX1.out k (by omega)); have G2 := Lib.hid (HX2.out k (by omega))
                obtain ⟨p1, hp1⟩ : ∃ p, p = bitP l k := ⟨_, rfl⟩
                obtain ⟨p2, hp2⟩ : ∃ p, p = bitP l' k := ⟨_, rfl⟩
                rw [← hp1] at G1
                rw [← hp2] at G2
                have HP1 := Lib.hid hp1; have HP2 := Lib.hid hp2
                clear hp1 hp2
                go_wp2_with fail
                refine wp_region_cls (C := fun w' => RS w [(w.heap.size + 1, ct), (w.heap.size, cs)] w') (by kernel_rfl) (by kernel_rfl) hs4.drew ?_
                repeat (first
                  | go_big_quiet_skip
                  | (go_big_quiet_want
                     first
                       | (go_big_quiet_op; go_big_quiet_on)
                       | (refine quiet_load24 _ rfl _ rfl _ (fun w h => h.2.1) ?_; go_simp; go_big_quiet_on)
                       | (refine quiet_load24 _ rfl _ rfl _ (fun w h => h.1) ?_; go_simp; go_big_quiet_on)
                       | (refine quiet_val ?_ ?_ ?_
                          rotate_left
                          · intro w; go_simp; rfl
                          go_simp; go_big_quiet_on)
                       | (refine quiet_call 42 #[.agg cs, .int .i64 (k : Int)] (.int .u8 p1) ?_ (fun W hW => (G1.out W).mono (fun _ _ h => ⟨h.1, hW.on h.2⟩)) ?_
                          · intro w; go_simp; done
                          go_simp; go_big_quiet_on)
                       | (refine quiet_call 42 #[.agg ct, .int .i64 (k : Int)] (.int .u8 p2) ?_ (fun W hW => (G2.out W).mono (fun _ _ h => ⟨h.1, hW.on h.2⟩)) ?_
                          · intro w; go_simp; done
                          go_simp; go_big_quiet_on)))
                refine wpQuiet_nil ?_
                intro V5 hs5
                by_cases hpp : p1 = p2
                · have fp : decide (p1 = p2) = true := by simp [hpp]
                  have HPP := Lib.hid hpp
                  subst hpp
                  go_wp2_with fail
                  go_roundw
                  all_goals first | exact ⟨k + 1, by omega, by go_num, fun j h2 => (by rcases Nat.lt_or_ge j k with h | h; exact HZ.out j h; rw [show j = k by omega, ← HP1.out, ← HP2.out]), hs5⟩ | (simp [intOf]; omega)
                · have fp : decide (p1 = p2) = false := by simp [hpp]
                  have er : r = false := by
                    rw [e.out]
                    apply eqL_of_ne
                    intro h
                    have := (mask_bits hl hl' hb hb' n hn128).1 h k hlt
                    exact hpp (by rw [HP1.out, HP2.out, this])
                  subst er
                  go_wp2_with fail
                  go_ret
                  exact ⟨rfl, hs5.base.2⟩
              · have b1 : decide ((k : Int) < (n : Int)) = false := by simp; omega
                have b1' : decide (k < n) = false := by simp; omega
                have er : r = true := by
                  rw [e.out, (mask_bits hl hl' hb hb' n hn128).2 (fun i hi => HZ.out i (by omega))]
                  exact eqL_self _
                subst er
                go_wp2_with fail
                go_ret
                exact ⟨rfl, hs4.base.2⟩
      · have fv : decide (v = v') = false := by simp [hv]
        have e : r = false := by rw [HR.out]; exact within_other _ _ _ hv
        subst e
        go_wp2_with fail
        go_ret
        exact ⟨rfl, hs2.base.2⟩
end Go.Proofs.Ytoifolmcdkfniaa
