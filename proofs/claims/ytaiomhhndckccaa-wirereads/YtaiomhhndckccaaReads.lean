/-
  'reads', by its contract.
-/
import Derived.Test.YtaiomhhndckccaaMRead2
import Derived.Test.YtaiomhhndckccaaGot
namespace Go.Proofs.Ytaiomhhndckccaa
open Go.ChangeShapes Go.WideShapes Go.ChangeAt Go.RowKit Go.Deep
set_option linter.unusedVariables false

/-- What 'reads' did: both are where they should be. -/
def ReadsQ (w : World) (g d h : Nat) (v : Value) (E : Ending) (w' : World) : Prop :=
  E = .returned (.bool true) ∧ ∃ l e, Rd w' g d l e ∧ Mr w' h v l e ∧ Away [g, h] w w'

set_option maxRecDepth 100000 in
set_option maxHeartbeats 1000000 in
theorem reads_any (w : World) (g d h : Nat) (v : Value) (l : List Int) (e : Int) (o : OpD) (hR : Rd w g d l e) (hM : Mr w h v l e) (hgh : g ≠ h) (hdh : d ≠ h) (hvg : ∀ k, v.ownBlock = some k → k ≠ g) :
    Calls Try.prog 32 #[.pointer (some ⟨g, 0, none⟩), .pointer (some ⟨h, 0, none⟩), .agg #[.int .i64 o.kd, .int .i64 o.who, .int .i64 o.n, .int .u32 o.v, .slice o.ba o.b.length o.bc]] w fun E w' => ReadsQ w g d h v E w' := by
  have hA : Away [] w (w.alloc (box55 o)) := (Away.refl [] w).alloc _
  have hRD := hR.away hA (by simp) (by simp)
  have hMR := hM.away hA (by simp) (by simp)
  have n1 : h ∉ [g] := by simp; omega
  have n2 : ∀ k, v.ownBlock = some k → k ∉ [g] := fun k hk => by simpa using hvg k hk
  have n3 : g ∉ [h] := by simpa using hgh
  have n4 : d ∉ [h] := by simpa using hdh
  have hgw : g < w.heap.size := hR.lt.1
  have hhw : h < w.heap.size := hM.lt.1
  have hb1 : w.heap.size ∉ [g] := by simp; omega
  have hb2 : w.heap.size ∉ [h] := by simp; omega
  have hby := hR.bytes.1
  obtain ⟨kd, who, n, x, ba, bc, b⟩ := o
  simp only
  unfold box55 at hA hRD hMR
  simp only at hA hRD hMR
  have x2 : (w.alloc (.cells #[.int .i64 kd, .int .i64 who, .int .i64 n, .int .u32 x, .slice ba b.length bc] 55)).cell? ⟨w.heap.size, 2, none⟩ = some (.int .i64 n) := by rw [World.cell?_alloc_at (hn := rfl)]; rfl
  clear hR hM
  by_cases h1 : kd = 1
  · subst h1
    · have hz := num_lt l e 1 hby
      have hz0 : 0 ≤ num (rdOut l e 1) := hz.1
      have hz1 : num (rdOut l e 1) ≤ 255 := by have := hz.2; simp at this; omega
      have K1 := u8_any _ g d l e hRD
      have K2 : Hid (∀ W : World, Mr W h v l e → Calls Try.prog 42 #[.pointer (some ⟨h, 0, none⟩), .int .i64 1] W fun E w' => MNumb W h v (num (rdOut l e 1)) (rdRest l e 1) (rdErr l e 1) E w') := fun W hW => mnumber_any W h v l e 1 (by omega) (by omega) hW
      generalize num (rdOut l e 1) = z at *
      generalize rdRest l e 1 = l' at *
      generalize rdErr l e 1 = e' at *
      clear hz
      go_enter Try.func32, Try.ntmps32
      go_wp2_with fail
      refine K1.mono ?_
      rintro E w2 ⟨rfl, hR2, haw2⟩
      have hM2 := hMR.away haw2 n1 n2
      clear K1
      go_wp2_with fail
      refine (K2.out _ (by exact hM2)).mono ?_
      rintro E w3 ⟨rfl, hM3, haw3'⟩
      have hR3 := hR2.away haw3' n3 n4
      have haw3 : Away [g, h] w w3 := ((hA.mono (T := [g, h]) (by simp)).next haw2 (by simp)).next haw3' (by simp)
      clear hM2 hR2 haw2 haw3' K2
      have c2 := mcode _ h v l' e' hM3
      go_wp2_with fail
      go_quiet (first
        | (go_at_call 14; exact Calls.quiet_of_same (left_any _ g d l' e' (by exact hR3)))
        | (go_at_call 45; exact Calls.quiet_of (mleft_any _ h v l' e' (by exact hM3)))
        | (go_at_call 28; exact Calls.quiet_of_same (err_any _ g d l' e' (by exact hR3))))
      go_wp2_with fail
      go_ret
      exact ⟨rfl, l', e', hR3, hM3, haw3.drewN _⟩
  have b1 : (kd == 1) = false := by simp [h1]
  by_cases h2 : kd = 2
  · subst h2
    · have hz := num_lt l e 2 hby
      have hz0 : 0 ≤ num (rdOut l e 2) := hz.1
      have hz1 : num (rdOut l e 2) ≤ 65535 := by have := hz.2; simp at this; omega
      have K1 := u16_any _ g d l e hRD
      have K2 : Hid (∀ W : World, Mr W h v l e → Calls Try.prog 42 #[.pointer (some ⟨h, 0, none⟩), .int .i64 2] W fun E w' => MNumb W h v (num (rdOut l e 2)) (rdRest l e 2) (rdErr l e 2) E w') := fun W hW => mnumber_any W h v l e 2 (by omega) (by omega) hW
      generalize num (rdOut l e 2) = z at *
      generalize rdRest l e 2 = l' at *
      generalize rdErr l e 2 = e' at *
      clear hz
      go_enter Try.func32, Try.ntmps32
      go_wp2_with fail
      refine K1.mono ?_
      rintro E w2 ⟨rfl, hR2, haw2⟩
      have hM2 := hMR.away haw2 n1 n2
      clear K1
      go_wp2_with fail
      refine (K2.out _ (by exact hM2)).mono ?_
      rintro E w3 ⟨rfl, hM3, haw3'⟩
      have hR3 := hR2.away haw3' n3 n4
      have haw3 : Away [g, h] w w3 := ((hA.mono (T := [g, h]) (by simp)).next haw2 (by simp)).next haw3' (by simp)
      clear hM2 hR2 haw2 haw3' K2
      have c2 := mcode _ h v l' e' hM3
      go_wp2_with fail
      go_quiet (first
        | (go_at_call 14; exact Calls.quiet_of_same (left_any _ g d l' e' (by exact hR3)))
        | (go_at_call 45; exact Calls.quiet_of (mleft_any _ h v l' e' (by exact hM3)))
        | (go_at_call 28; exact Calls.quiet_of_same (err_any _ g d l' e' (by exact hR3))))
      go_wp2_with fail
      go_ret
      exact ⟨rfl, l', e', hR3, hM3, haw3.drewN _⟩
  have b2 : (kd == 2) = false := by simp [h2]
  by_cases h3 : kd = 3
  · subst h3
    · have hz := num_lt l e 4 hby
      have hz0 : 0 ≤ num (rdOut l e 4) := hz.1
      have hz1 : num (rdOut l e 4) ≤ 4294967295 := by have := hz.2; simp at this; omega
      have K1 := u32_any _ g d l e hRD
      have K2 : Hid (∀ W : World, Mr W h v l e → Calls Try.prog 42 #[.pointer (some ⟨h, 0, none⟩), .int .i64 4] W fun E w' => MNumb W h v (num (rdOut l e 4)) (rdRest l e 4) (rdErr l e 4) E w') := fun W hW => mnumber_any W h v l e 4 (by omega) (by omega) hW
      generalize num (rdOut l e 4) = z at *
      generalize rdRest l e 4 = l' at *
      generalize rdErr l e 4 = e' at *
      clear hz
      go_enter Try.func32, Try.ntmps32
      go_wp2_with fail
      refine K1.mono ?_
      rintro E w2 ⟨rfl, hR2, haw2⟩
      have hM2 := hMR.away haw2 n1 n2
      clear K1
      go_wp2_with fail
      refine (K2.out _ (by exact hM2)).mono ?_
      rintro E w3 ⟨rfl, hM3, haw3'⟩
      have hR3 := hR2.away haw3' n3 n4
      have haw3 : Away [g, h] w w3 := ((hA.mono (T := [g, h]) (by simp)).next haw2 (by simp)).next haw3' (by simp)
      clear hM2 hR2 haw2 haw3' K2
      have c2 := mcode _ h v l' e' hM3
      go_wp2_with fail
      go_quiet (first
        | (go_at_call 14; exact Calls.quiet_of_same (left_any _ g d l' e' (by exact hR3)))
        | (go_at_call 45; exact Calls.quiet_of (mleft_any _ h v l' e' (by exact hM3)))
        | (go_at_call 28; exact Calls.quiet_of_same (err_any _ g d l' e' (by exact hR3))))
      go_wp2_with fail
      go_ret
      exact ⟨rfl, l', e', hR3, hM3, haw3.drewN _⟩
  have b3 : (kd == 3) = false := by simp [h3]
  by_cases h4 : kd = 4
  · subst h4
    · have K1 : Hid (∀ W : World, Rd W g d l e → Calls Try.prog 21 #[.pointer (some ⟨g, 0, none⟩), .int .i64 n] W fun E w' => Gave W g d (rdOut l e n) (rdRest l e n) (rdErr l e n) E w') := fun W hW => bytes_any W g d l e n hW
      have K2 : Hid (∀ W : World, Mr W h v l e → Calls Try.prog 43 #[.pointer (some ⟨h, 0, none⟩), .int .i64 n] W fun E w' => MGave W h v (rdOut l e n) (rdRest l e n) (rdErr l e n) E w') := fun W hW => mbytes_any W h v l e n hW
      generalize rdOut l e n = m at *
      generalize rdRest l e n = l' at *
      generalize rdErr l e n = e' at *
      go_enter Try.func32, Try.ntmps32
      go_wp2_with fail
      go_region_held3 (fun w' => w'.cell? ⟨w.heap.size, 2, none⟩ = some (.int .i64 n)) (go_keep)
        (first
          | (go_at_call 21; refine (K1.out _ (by exact hRD)).mono ?_; rintro E w2 ⟨v2, rfl, hown2, hnew2, hR2, haw2, hb2', hl2⟩; have z0 := haw2.undrew.cell hb1 x2; have hM2 := hMR.away haw2.undrew n1 n2; have hlt2 := hown2.lt; obtain ⟨a2, cap2, rfl, hcap2, hnone2, hrow2, hblk2, _⟩ := hown2.row hl2 hb2')
          | (go_at_call 43; refine (K2.out _ (by exact hM2)).mono ?_; rintro E w3 ⟨v3, rfl, hown3, hnew3, hM3, haw3', hb3', hl3⟩; have z1 := haw3'.cell hb2 z0; have hR3 := hR2.away haw3' n3 n4; have hrow2' := hrow2.away haw3' (fun y hy => by have h1 := hnew2 _ (hblk2 y hy); simp only [World.size_drew, World.size_alloc] at h1; simp; omega); obtain ⟨a3, cap3, rfl, hcap3, hnone3, hrow3, _⟩ := hown3.row hl3 hb3')
          | (go_at_call 20; refine (same_yes a2 a3 m m _ _ _ _ _ rfl rfl hnone2 hnone3 (by exact hrow2') (by exact hrow3) rfl).mono ?_; rintro E w' ⟨rfl, rfl⟩))
      have haw3 := ((hA.mono (T := [g, h]) (by simp)).next haw2.undrew (by simp)).next haw3' (by simp)
      clear hown2 hnew2 hown3 hnew3 hrow2 hrow2' hrow3
      have c2 := mcode _ h v l' e' hM3
      go_wp2_with fail
      go_quiet (first
        | (go_at_call 14; exact Calls.quiet_of_same (left_any _ g d l' e' (by exact hR3)))
        | (go_at_call 45; exact Calls.quiet_of (mleft_any _ h v l' e' (by exact hM3)))
        | (go_at_call 28; exact Calls.quiet_of_same (err_any _ g d l' e' (by exact hR3))))
      go_wp2_with fail
      go_ret
      exact ⟨rfl, l', e', hR3, hM3, haw3.drewN _⟩
  have b4 : (kd == 4) = false := by simp [h4]
  by_cases h5 : kd = 5
  · subst h5
    · obtain ⟨l', rfl⟩ : ∃ l', l' = l := ⟨_, rfl⟩
      obtain ⟨e', rfl⟩ : ∃ e', e' = e := ⟨_, rfl⟩
      have haw3 : Away [g, h] w (w.alloc (.cells #[.int .i64 5, .int .i64 who, .int .i64 n, .int .u32 x, .slice ba b.length bc] 55)) := hA.mono (by simp)
      have HA3 : Hid (∀ k, Away [g, h] w ((w.alloc (.cells #[.int .i64 5, .int .i64 who, .int .i64 n, .int .u32 x, .slice ba b.length bc] 55)).drewN k)) := fun k => haw3.drewN k
      go_enter Try.func32, Try.ntmps32
      go_wp2_with fail
      refine (end_any _ g d l' e' (by exact hRD)).mono ?_
      rintro E w' ⟨rfl, rfl⟩
      go_wp2_with fail
      refine (mend_any _ h v l' e' (by exact hMR)).mono ?_
      rintro E w3 ⟨rfl, k5, hw3⟩
      have hR3 : Rd w3 g d l' e' := by rw [hw3]; exact hRD.drewN k5
      have hM3 : Mr w3 h v l' e' := by rw [hw3]; exact hMR.drewN k5
      have haw3 : Away [g, h] w w3 := by rw [hw3]; exact HA3.out k5
      clear hw3 HA3
      generalize rdEnd l' e' = zz at *
      have c2 := mcode _ h v l' e' hM3
      go_wp2_with fail
      go_quiet (first
        | (go_at_call 14; exact Calls.quiet_of_same (left_any _ g d l' e' (by exact hR3)))
        | (go_at_call 45; exact Calls.quiet_of (mleft_any _ h v l' e' (by exact hM3)))
        | (go_at_call 28; exact Calls.quiet_of_same (err_any _ g d l' e' (by exact hR3))))
      go_wp2_with fail
      go_ret
      exact ⟨rfl, l', e', hR3, hM3, haw3.drewN _⟩
  have b5 : (kd == 5) = false := by simp [h5]
  · · have hR3 := hRD
      have hM3 := hMR
      obtain ⟨l', rfl⟩ : ∃ l', l' = l := ⟨_, rfl⟩
      obtain ⟨e', rfl⟩ : ∃ e', e' = e := ⟨_, rfl⟩
      have haw3 : Away [g, h] w (w.alloc (.cells #[.int .i64 kd, .int .i64 who, .int .i64 n, .int .u32 x, .slice ba b.length bc] 55)) := hA.mono (by simp)
      go_enter Try.func32, Try.ntmps32
      have c2 := mcode _ h v l' e' hM3
      go_wp2_with fail
      go_quiet (first
        | (go_at_call 14; exact Calls.quiet_of_same (left_any _ g d l' e' (by exact hR3)))
        | (go_at_call 45; exact Calls.quiet_of (mleft_any _ h v l' e' (by exact hM3)))
        | (go_at_call 28; exact Calls.quiet_of_same (err_any _ g d l' e' (by exact hR3))))
      go_wp2_with fail
      go_ret
      exact ⟨rfl, l', e', hR3, hM3, haw3.drewN _⟩
#print axioms reads_any
end Go.Proofs.Ytaiomhhndckccaa
