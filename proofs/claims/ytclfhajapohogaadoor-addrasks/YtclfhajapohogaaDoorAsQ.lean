/-
  For AddrAsks: the document's Print.
-/
import Derived.Test.YtclfhajapohogaaDoorAsR
import Derived.Test.YtclfhajapohogaaDoorRef1
namespace Go.Proofs.YtclfhajapohogaaDoor
open Go.ChangeShapes Go.WideShapes Go.ChangeAt Go.RowKit
set_option linter.unusedVariables false
set_option maxHeartbeats 8000000
set_option maxRecDepth 100000

/-- Where the document's loops end is where the longest run lies. -/
theorem print_at {gs : List Nat} (hg : gs.length = 8) {i L : Nat} (hL : 2 ≤ L) (hi : i + L ≤ 8) (hr : L ≤ runP gs i) (h1 : ∀ k j, L < k → j + k ≤ 8 → runP gs j < k) (h2 : ∀ j, j < i → runP gs j < L) :
    printS gs (zst gs 8).1 (zst gs 8).2.1 = printG (gs.take i) ++ ([58, 58] ++ printG (gs.drop (i + L))) := by
  obtain ⟨f, hf⟩ : ∃ f, f = (zst gs 8).1 := ⟨_, rfl⟩
  obtain ⟨t, ht⟩ : ∃ t, t = (zst gs 8).2.1 := ⟨_, rfl⟩
  rw [← hf, ← ht]
  have hD : 2 ≤ t - f := by
    rcases Nat.lt_or_ge (t - f) 2 with h | h
    · have := run_none hg (by rw [← hf, ← ht]; exact h) hL hi; omega
    · exact h
  obtain ⟨a1, a2, a3, a4⟩ := run_first hg hf ht hD
  have e1 : t - f = L := by
    rcases Nat.lt_trichotomy (t - f) L with h | h | h
    · have := a3 L i h hi; omega
    · exact h
    · have := h1 (t - f) f h (by omega); omega
  have e2 : f = i := by
    rcases Nat.lt_trichotomy f i with h | h | h
    · have := h2 f h; omega
    · exact h
    · have := a4 i h; omega
  unfold printS
  rw [if_neg (by omega), e2, show t = i + L from by omega]
theorem print_none {gs : List Nat} (hg : gs.length = 8) (h1 : ∀ k j, 1 < k → j + k ≤ 8 → runP gs j < k) : printS gs (zst gs 8).1 (zst gs 8).2.1 = printG gs := by
  obtain ⟨f, hf⟩ : ∃ f, f = (zst gs 8).1 := ⟨_, rfl⟩
  obtain ⟨t, ht⟩ : ∃ t, t = (zst gs 8).2.1 := ⟨_, rfl⟩
  rw [← hf, ← ht]
  unfold printS
  rcases Nat.lt_or_ge (t - f) 2 with h | h
  · rw [if_pos h]
  · obtain ⟨a1, a2, a3, a4⟩ := run_first hg hf ht h
    have := h1 (t - f) f (by omega) (by omega)
    omega
theorem itoa_len {n : Nat} (h : n < 256) : (Lib.itoa (n : Int)).length ≤ 3 := by
  rw [← dgs_itoa h, dgs_len]; unfold dec3; split; omega; split <;> omega
def PC (w : World) (c : Array Value) (w' : World) : Prop := rowAt w' w.heap.size = some c ∧ Below w.heap.size w w' ∧ w.heap.size < w'.heap.size
theorem PC.on {w : World} {c : Array Value} {w1 w2 : World} (h : PC w c w1) (hb : Below w1.heap.size w1 w2) : PC w c w2 := by
  have hs := hb.size
  obtain ⟨h1, h2, h3⟩ := h
  exact ⟨rowAt_below h1 hb h3, h2.trans (hb.mono (by omega)), by omega⟩
theorem PC.drew {w : World} {c : Array Value} {w1 : World} (h : PC w c w1) : PC w c w1.drew := ⟨h.1, h.2.1.drew, h.2.2⟩
theorem rprint_c (v : Int) (l : List Int) (hl : l.length = 16) (hb : ∀ x ∈ l, 0 ≤ x ∧ x ≤ 255) (w : World) :
    Calls Tryd.prog 23 #[.agg (csA v l)] w fun e w' => e = .returned (.string ⟨(printP v l).toArray⟩) ∧ Below w.heap.size w w' := by
  obtain ⟨cs, hcs⟩ : ∃ c, c = csA v l := ⟨_, rfl⟩
  have hsz : cs.size = 17 := by rw [hcs]; exact csA_size hl
  have HPC : Hid (PC w cs (w.alloc (.cells cs 24))) := Lib.hid ⟨rowAt_new w cs 24 hsz, (Below.refl _ _).alloc (Nat.le_refl _) _, by simp⟩
  obtain ⟨z, hz⟩ : ∃ z, z = validP v l := ⟨_, rfl⟩
  obtain ⟨R, hR⟩ : ∃ R, R = printP v l := ⟨_, rfl⟩
  rw [← hR, ← hcs]
  have HV : Hid (∀ W, Calls Tryd.prog 21 #[.agg cs] W fun e w' => e = .returned (.bool z) ∧ Below W.heap.size W w') := Lib.hid (fun W => by rw [hcs, hz]; exact rvalid_c v l hl W)
  have HCS := Lib.hid hcs
  have HZ := Lib.hid hz
  have HR := Lib.hid hR
  clear hcs hz hR
  cases z
  · have HRE : Hid (R = []) := Lib.hid (by rw [HR.out]; unfold printP; rw [if_pos HZ.out.symm])
    obtain rfl := HRE.out
    clear HRE HR
    go_enter Tryd.func23, Tryd.ntmps23
    go_upto_region 1 with fail
    generalize w.alloc (.cells cs 24) = W at *
    have z1 := HPC.out.1
    go_wp2_with (first
      | (refine wpList_load24 rfl _ rfl _ rfl _ (by assumption) ?_)
      | (go_at_call 21; refine (HV.out _).mono ?_; rintro e t1 ⟨rfl, hb1⟩; replace HPC := Lib.hid (HPC.out.on hb1); clear hb1 z1))
    go_ret
    exact ⟨rfl, HPC.out.2.1⟩
  · by_cases h4 : v = 4
    · obtain ⟨x0, hx0⟩ : ∃ x : Nat, l[0]? = some (x : Int) ∧ x < 256 := by
        obtain ⟨x, y, h1, h2, h3, h4, _⟩ := grp_get hl hb 0 (by omega); exact ⟨x, by simpa using h3, h1⟩
      obtain ⟨x1, hx1⟩ : ∃ x : Nat, l[1]? = some (x : Int) ∧ x < 256 := by
        obtain ⟨x, y, h1, h2, h3, h4, _⟩ := grp_get hl hb 0 (by omega); exact ⟨y, by simpa using h4, h2⟩
      obtain ⟨x2, hx2⟩ : ∃ x : Nat, l[2]? = some (x : Int) ∧ x < 256 := by
        obtain ⟨x, y, h1, h2, h3, h4, _⟩ := grp_get hl hb 1 (by omega); exact ⟨x, by simpa using h3, h1⟩
      obtain ⟨x3, hx3⟩ : ∃ x : Nat, l[3]? = some (x : Int) ∧ x < 256 := by
        obtain ⟨x, y, h1, h2, h3, h4, _⟩ := grp_get hl hb 1 (by omega); exact ⟨y, by simpa using h4, h2⟩
      obtain ⟨hx0, hy0⟩ := hx0
      obtain ⟨hx1, hy1⟩ := hx1
      obtain ⟨hx2, hy2⟩ := hx2
      obtain ⟨hx3, hy3⟩ := hx3
      obtain ⟨X0, hX0⟩ : ∃ X, X = Lib.itoa (x0 : Int) := ⟨_, rfl⟩
      have hl0 : X0.length ≤ 3 := by rw [hX0]; exact itoa_len hy0
      have HT0 : Hid (∀ V, PC w cs V → Calls Tryd.prog 43 #[.int .i64 (x0 : Int), .int .i64 10] V fun e w' => e = .returned (.string ⟨X0.toArray⟩) ∧ PC w cs w') := Lib.hid (fun V hV => by rw [hX0]; exact (it_text x0 hy0 V).mono (fun _ _ h => ⟨h.1, hV.on h.2⟩))
      have HB0 : Hid (∀ V, PC w cs V → V.cell? ⟨w.heap.size, 1, none⟩ = some (.int .u8 (x0 : Int))) := Lib.hid (fun V hV => by have h := hV.1; rw [HCS.out] at h; exact rowAt_bytes h 0 _ hx0)
      have w0 : IntKind.i64.wrap (x0 : Int) = (x0 : Int) := by rw [IntKind.wrap_i64]; omega
      obtain ⟨X1, hX1⟩ : ∃ X, X = Lib.itoa (x1 : Int) := ⟨_, rfl⟩
      have hl1 : X1.length ≤ 3 := by rw [hX1]; exact itoa_len hy1
      have HT1 : Hid (∀ V, PC w cs V → Calls Tryd.prog 43 #[.int .i64 (x1 : Int), .int .i64 10] V fun e w' => e = .returned (.string ⟨X1.toArray⟩) ∧ PC w cs w') := Lib.hid (fun V hV => by rw [hX1]; exact (it_text x1 hy1 V).mono (fun _ _ h => ⟨h.1, hV.on h.2⟩))
      have HB1 : Hid (∀ V, PC w cs V → V.cell? ⟨w.heap.size, 2, none⟩ = some (.int .u8 (x1 : Int))) := Lib.hid (fun V hV => by have h := hV.1; rw [HCS.out] at h; exact rowAt_bytes h 1 _ hx1)
      have w1 : IntKind.i64.wrap (x1 : Int) = (x1 : Int) := by rw [IntKind.wrap_i64]; omega
      obtain ⟨X2, hX2⟩ : ∃ X, X = Lib.itoa (x2 : Int) := ⟨_, rfl⟩
      have hl2 : X2.length ≤ 3 := by rw [hX2]; exact itoa_len hy2
      have HT2 : Hid (∀ V, PC w cs V → Calls Tryd.prog 43 #[.int .i64 (x2 : Int), .int .i64 10] V fun e w' => e = .returned (.string ⟨X2.toArray⟩) ∧ PC w cs w') := Lib.hid (fun V hV => by rw [hX2]; exact (it_text x2 hy2 V).mono (fun _ _ h => ⟨h.1, hV.on h.2⟩))
      have HB2 : Hid (∀ V, PC w cs V → V.cell? ⟨w.heap.size, 3, none⟩ = some (.int .u8 (x2 : Int))) := Lib.hid (fun V hV => by have h := hV.1; rw [HCS.out] at h; exact rowAt_bytes h 2 _ hx2)
      have w2 : IntKind.i64.wrap (x2 : Int) = (x2 : Int) := by rw [IntKind.wrap_i64]; omega
      obtain ⟨X3, hX3⟩ : ∃ X, X = Lib.itoa (x3 : Int) := ⟨_, rfl⟩
      have hl3 : X3.length ≤ 3 := by rw [hX3]; exact itoa_len hy3
      have HT3 : Hid (∀ V, PC w cs V → Calls Tryd.prog 43 #[.int .i64 (x3 : Int), .int .i64 10] V fun e w' => e = .returned (.string ⟨X3.toArray⟩) ∧ PC w cs w') := Lib.hid (fun V hV => by rw [hX3]; exact (it_text x3 hy3 V).mono (fun _ _ h => ⟨h.1, hV.on h.2⟩))
      have HB3 : Hid (∀ V, PC w cs V → V.cell? ⟨w.heap.size, 4, none⟩ = some (.int .u8 (x3 : Int))) := Lib.hid (fun V hV => by have h := hV.1; rw [HCS.out] at h; exact rowAt_bytes h 3 _ hx3)
      have w3 : IntKind.i64.wrap (x3 : Int) = (x3 : Int) := by rw [IntKind.wrap_i64]; omega
      obtain ⟨D1, hD1⟩ : ∃ D, D = X0 ++ [46] := ⟨_, rfl⟩
      have hd1 : D1.length ≤ 4 := by rw [hD1]; simp; omega
      have cD1 : ∀ W, (Op.stringOp .add ⟨X0.toArray⟩ ⟨#[46]⟩).run Tryd.prog W = .ok (.string ⟨D1.toArray⟩) W := fun W => by rw [hD1]; exact concat_c _ _ (by simp; omega) W
      obtain ⟨E1, hE1⟩ : ∃ E, E = D1 ++ X1 := ⟨_, rfl⟩
      have he1 : E1.length ≤ 7 := by rw [hE1]; simp; omega
      have cE1 : ∀ W, (Op.stringOp .add ⟨D1.toArray⟩ ⟨X1.toArray⟩).run Tryd.prog W = .ok (.string ⟨E1.toArray⟩) W := fun W => by rw [hE1]; exact concat_c _ _ (by omega) W
      obtain ⟨D2, hD2⟩ : ∃ D, D = E1 ++ [46] := ⟨_, rfl⟩
      have hd2 : D2.length ≤ 8 := by rw [hD2]; simp; omega
      have cD2 : ∀ W, (Op.stringOp .add ⟨E1.toArray⟩ ⟨#[46]⟩).run Tryd.prog W = .ok (.string ⟨D2.toArray⟩) W := fun W => by rw [hD2]; exact concat_c _ _ (by simp; omega) W
      obtain ⟨E2, hE2⟩ : ∃ E, E = D2 ++ X2 := ⟨_, rfl⟩
      have he2 : E2.length ≤ 11 := by rw [hE2]; simp; omega
      have cE2 : ∀ W, (Op.stringOp .add ⟨D2.toArray⟩ ⟨X2.toArray⟩).run Tryd.prog W = .ok (.string ⟨E2.toArray⟩) W := fun W => by rw [hE2]; exact concat_c _ _ (by omega) W
      obtain ⟨D3, hD3⟩ : ∃ D, D = E2 ++ [46] := ⟨_, rfl⟩
      have hd3 : D3.length ≤ 12 := by rw [hD3]; simp; omega
      have cD3 : ∀ W, (Op.stringOp .add ⟨E2.toArray⟩ ⟨#[46]⟩).run Tryd.prog W = .ok (.string ⟨D3.toArray⟩) W := fun W => by rw [hD3]; exact concat_c _ _ (by simp; omega) W
      obtain ⟨E3, hE3⟩ : ∃ E, E = D3 ++ X3 := ⟨_, rfl⟩
      have he3 : E3.length ≤ 15 := by rw [hE3]; simp; omega
      have cE3 : ∀ W, (Op.stringOp .add ⟨D3.toArray⟩ ⟨X3.toArray⟩).run Tryd.prog W = .ok (.string ⟨E3.toArray⟩) W := fun W => by rw [hE3]; exact concat_c _ _ (by omega) W
      have HRE : Hid (R = E3) := Lib.hid (by
        have e4 : l.take 4 = [(x0 : Int), (x1 : Int), (x2 : Int), (x3 : Int)] := by
          apply List.ext_getElem?
          intro j
          rcases (show j = 0 ∨ j = 1 ∨ j = 2 ∨ j = 3 ∨ 4 ≤ j by omega) with rfl | rfl | rfl | rfl | h
          · rw [List.getElem?_take_of_lt (by omega), hx0]; rfl
          · rw [List.getElem?_take_of_lt (by omega), hx1]; rfl
          · rw [List.getElem?_take_of_lt (by omega), hx2]; rfl
          · rw [List.getElem?_take_of_lt (by omega), hx3]; rfl
          · rw [List.getElem?_eq_none (by simp; omega), List.getElem?_eq_none (by simp; omega)]
        rw [HR.out]
        unfold printP
        rw [if_neg (by rw [← HZ.out]; simp), if_pos h4, e4]
        unfold printD
        simp only [List.map_cons, List.map_nil]
        rw [Lib.join_cons, ← hX0, ← hX1, ← hX2, ← hX3, hE3, hD3, hE2, hD2, hE1, hD1]
        simp [Lib.joinTail])
      have f4 : (v == 4) = true := by rw [h4]; rfl
      have f4d : decide (v = 4) = true := decide_eq_true h4
      have H4 := Lib.hid h4
      clear hX0 hX1 hX2 hX3 hD1 hD2 hD3 hE1 hE2 hE3 hx0 hx1 hx2 hx3 h4 hb HR
      obtain rfl := HRE.out
      clear HRE
      go_enter Tryd.func23, Tryd.ntmps23
      go_upto_region 1 with fail
      generalize w.alloc (.cells cs 24) = W at *
      have z1 := HPC.out.1
      go_wp2_with (first
        | (refine wpList_load24 rfl _ rfl _ rfl _ (by assumption) ?_)
        | (go_at_call 21; refine (HV.out _).mono ?_; rintro e t1 ⟨rfl, hb1⟩; replace HPC := Lib.hid (HPC.out.on hb1); clear hb1 z1; have c0 := rowAt_cell HPC.out.1 0 (.int .i64 v) (by rw [HCS.out]; exact csA_zero v l); refine Hid.out ?_))
      refine Lib.hid ?_
      go_wp2_with fail
      refine wp_region_cls (C := fun w' => PC w cs w') (by kernel_rfl) (by kernel_rfl) HPC.out.drew ?_
      repeat (first
                | go_big_quiet_skip
                | (go_big_quiet_want
                   first
                     | (refine quiet_index22 _ _ rfl w.heap.size 0 _ rfl rfl (by omega) (by omega) ?_; go_simp; go_big_quiet_on)
                     | (refine quiet_index22 _ _ rfl w.heap.size 1 _ rfl rfl (by omega) (by omega) ?_; go_simp; go_big_quiet_on)
                     | (refine quiet_index22 _ _ rfl w.heap.size 2 _ rfl rfl (by omega) (by omega) ?_; go_simp; go_big_quiet_on)
                     | (refine quiet_index22 _ _ rfl w.heap.size 3 _ rfl rfl (by omega) (by omega) ?_; go_simp; go_big_quiet_on)
                     | (refine quiet_load5 _ rfl ⟨w.heap.size, 1, none⟩ rfl (x0 : Int) HB0.out ?_; go_simp; go_big_quiet_on)
                     | (refine quiet_load5 _ rfl ⟨w.heap.size, 2, none⟩ rfl (x1 : Int) HB1.out ?_; go_simp; go_big_quiet_on)
                     | (refine quiet_load5 _ rfl ⟨w.heap.size, 3, none⟩ rfl (x2 : Int) HB2.out ?_; go_simp; go_big_quiet_on)
                     | (refine quiet_load5 _ rfl ⟨w.heap.size, 4, none⟩ rfl (x3 : Int) HB3.out ?_; go_simp; go_big_quiet_on)
                     | (go_big_quiet_op; go_big_quiet_on)
                     | (refine quiet_call 43 #[.int .i64 (x0 : Int), .int .i64 10] (.string ⟨X0.toArray⟩) ?_ HT0.out ?_
                        · intro w; go_simp; first | done | rw [w0]
                        go_simp; go_big_quiet_on)
                     | (refine quiet_call 43 #[.int .i64 (x1 : Int), .int .i64 10] (.string ⟨X1.toArray⟩) ?_ HT1.out ?_
                        · intro w; go_simp; first | done | rw [w1]
                        go_simp; go_big_quiet_on)
                     | (refine quiet_call 43 #[.int .i64 (x2 : Int), .int .i64 10] (.string ⟨X2.toArray⟩) ?_ HT2.out ?_
                        · intro w; go_simp; first | done | rw [w2]
                        go_simp; go_big_quiet_on)
                     | (refine quiet_call 43 #[.int .i64 (x3 : Int), .int .i64 10] (.string ⟨X3.toArray⟩) ?_ HT3.out ?_
                        · intro w; go_simp; first | done | rw [w3]
                        go_simp; go_big_quiet_on)
                     | (refine quiet_val ?_ ?_ ?_
                        rotate_left
                        · intro w; go_simp; rfl
                        go_simp; go_big_quiet_on)))
      refine wpQuiet_nil ?_
      intro V hV
      go_wp2_with fail
      go_ret
      exact ⟨rfl, hV.2.1⟩
    · have hgl := grpOf_length hl
      obtain ⟨gs, hgs⟩ : ∃ gs, gs = grpOf l := ⟨_, rfl⟩
      rw [← hgs] at hgl
      have HGL := Lib.hid hgl
      have HRP : Hid (R = printS gs (zst gs 8).1 (zst gs 8).2.1) := Lib.hid (by rw [HR.out]; unfold printP; rw [if_neg (by rw [← HZ.out]; simp), if_neg h4, hgs])
      have HRUN : Hid (∀ (i : Nat), i ≤ 8 → ∀ V, PC w cs V → Calls Tryd.prog 44 #[.agg cs, .int .i64 (i : Int)] V fun e w' => e = .returned (.int .i64 (runP gs i : Int)) ∧ PC w cs w') := Lib.hid (fun i hi V hV => by rw [HCS.out, hgs]; rw [HCS.out] at hV; exact (rrun_c v l hl hb i hi V).mono (fun _ _ h => ⟨h.1, hV.on h.2⟩))
      have HSOM : Hid (∀ (f t : Nat), f ≤ t → t ≤ 8 → ∀ V, PC w cs V → Calls Tryd.prog 45 #[.agg cs, .int .i64 (f : Int), .int .i64 (t : Int)] V fun e w' => e = .returned (.string ⟨(printG ((gs.drop f).take (t - f))).toArray⟩) ∧ PC w cs w') := Lib.hid (fun f t hft ht V hV => by rw [HCS.out, hgs]; rw [HCS.out] at hV; exact (rsome_c v l hl hb f t hft ht V).mono (fun _ _ h => ⟨h.1, hV.on h.2⟩))
      have f4 : (v == 4) = false := beq_eq_false_iff_ne.2 h4
      have f4d : decide (v = 4) = false := decide_eq_false h4
      have HPL : Hid (∀ l' : List Nat, l'.length ≤ 8 → (printG l').length ≤ 300) := Lib.hid (fun l' h => printG_len l' h)
      have H4 := Lib.hid h4
      clear hgl hgs h4 hb HR
      go_enter Tryd.func23, Tryd.ntmps23
      go_upto_region 1 with fail
      generalize w.alloc (.cells cs 24) = W at *
      have z1 := HPC.out.1
      go_wp2_with (first
        | (refine wpList_load24 rfl _ rfl _ rfl _ (by assumption) ?_)
        | (go_at_call 21; refine (HV.out _).mono ?_; rintro e t1 ⟨rfl, hb1⟩; replace HPC := Lib.hid (HPC.out.on hb1); clear hb1 z1; have c0 := rowAt_cell HPC.out.1 0 (.int .i64 v) (by rw [HCS.out]; exact csA_zero v l); refine Hid.out ?_))
      refine Lib.hid ?_
      clear HV
      go_wp2_with fail
      clear c0
      go_loopw [4] (fun lv wr => ∃ L : Nat, lv = .int .i64 (L : Int) ∧ 1 ≤ L ∧ L ≤ 8 ∧ Hid (∀ k j, L < k → j + k ≤ 8 → runP gs j < k) ∧ PC w cs wr) (fun lv _ => (intOf lv).toNat)
      case atStart => exact ⟨8, rfl, by omega, by omega, Lib.hid (fun k j h1 h2 => by omega), HPC.out⟩
      case round =>
        clear HPC
        obtain ⟨L, rfl, hL1, hL8, HL, hpc⟩ := hrel
        have HPC := Lib.hid hpc
        clear hpc
        by_cases hL2 : 2 ≤ L
        · have a1 : decide ((2 : Int) ≤ (L : Int)) = true := decide_eq_true (by omega)
          have a2 : (2 : Int) ≤ (L : Int) := by omega
          go_wp2_with fail
          go_loopw [5] (fun iv wr => ∃ i : Nat, iv = .int .i64 (i : Int) ∧ i + L ≤ 9 ∧ Hid (∀ j, j < i → runP gs j < L) ∧ PC w cs wr) (fun iv _ => 9 - (intOf iv).toNat)
          case atStart => exact ⟨0, rfl, by omega, Lib.hid (fun j h => by omega), HPC.out⟩
          case round =>
            clear HPC
            obtain ⟨i, rfl, hi9, HI, hpc⟩ := hrel
            have HPC := Lib.hid hpc
            clear hpc
            have z1 := HPC.out.1
            by_cases hi8 : i + L ≤ 8
            · have b1 : decide ((i : Int) + (L : Int) ≤ 8) = true := decide_eq_true (by omega)
              have b2 : (i : Int) + (L : Int) ≤ 8 := by omega
              have HRI := Lib.hid (HRUN.out i (by omega))
              obtain ⟨n, hn⟩ : ∃ n, n = runP gs i := ⟨_, rfl⟩
              rw [← hn] at HRI
              have HNN := Lib.hid hn
              clear hn
              by_cases hnL : L ≤ n
              · have d1 : decide ((L : Int) ≤ (n : Int)) = true := decide_eq_true (by omega)
                have HRE : Hid (R = printG (gs.take i) ++ ([58, 58] ++ printG (gs.drop (i + L)))) := Lib.hid (by rw [HRP.out]; exact print_at HGL.out hL2 hi8 (by rw [← HNN.out]; exact hnL) HL.out HI.out)
                have HS1 := Lib.hid (HSOM.out 0 i (by omega) (by omega))
                have HS2 := Lib.hid (HSOM.out (i + L) 8 (by omega) (by omega))
                have e1 : (gs.drop 0).take (i - 0) = gs.take i := by simp
                have e2 : (gs.drop (i + L)).take (8 - (i + L)) = gs.drop (i + L) := List.take_of_length_le (by rw [List.length_drop, HGL.out]; omega)
                rw [e1] at HS1
                rw [e2, show ((i + L : Nat) : Int) = (i : Int) + (L : Int) from by omega] at HS2
                obtain ⟨P1, hP1⟩ : ∃ P, P = printG (gs.take i) := ⟨_, rfl⟩
                obtain ⟨P2, hP2⟩ : ∃ P, P = printG (gs.drop (i + L)) := ⟨_, rfl⟩
                have hp1 : P1.length ≤ 300 := by rw [hP1]; exact HPL.out _ (by simp; omega)
                have hp2 : P2.length ≤ 300 := by rw [hP2]; exact HPL.out _ (by rw [List.length_drop, HGL.out]; omega)
                rw [← hP1] at HS1 HRE
                rw [← hP2] at HS2 HRE
                obtain ⟨T1, hT1⟩ : ∃ T, T = P1 ++ [58, 58] := ⟨_, rfl⟩
                have hRT : R = T1 ++ P2 := by rw [HRE.out, hT1]; simp
                have c1 : ∀ W, (Op.stringOp .add ⟨P1.toArray⟩ ⟨#[58, 58]⟩).run Tryd.prog W = .ok (.string ⟨T1.toArray⟩) W := fun W => by rw [hT1]; exact concat_c _ _ (by simp; omega) W
                have c2 : ∀ W, (Op.stringOp .add ⟨T1.toArray⟩ ⟨P2.toArray⟩).run Tryd.prog W = .ok (.string ⟨R.toArray⟩) W := fun W => by rw [hRT, hT1]; exact concat_c _ _ (by simp; omega) W
                have wL : IntKind.i64.wrap ((i : Int) + (L : Int)) = (i : Int) + (L : Int) := by rw [IntKind.wrap_i64]; omega
                clear e1 e2 hP1 hP2 hT1 hRT HRE HRP HL HI HPL
                go_wp2_with (first
                  | (refine wpList_load24 rfl _ rfl _ rfl _ (by assumption) ?_)
                  | (go_at_call 44; refine (HRI.out _ HPC.out).mono ?_; rintro e t2 ⟨rfl, hpc2⟩; replace HPC := Lib.hid hpc2; clear hpc2 z1; refine Hid.out ?_))
                refine Lib.hid ?_
                go_wp2_with fail
                refine wp_region_cls (C := fun w' => PC w cs w') (by kernel_rfl) (by kernel_rfl) HPC.out.drew ?_
                repeat (first
                          | go_big_quiet_skip
                          | (go_big_quiet_want
                             first
                               | (go_big_quiet_op; go_big_quiet_on)
                               | (refine quiet_load24 _ rfl _ rfl _ (fun w h => h.1) ?_; go_simp; go_big_quiet_on)
                               | (refine quiet_val ?_ ?_ ?_
                                  rotate_left
                                  · intro w; go_simp; rfl
                                  go_simp; go_big_quiet_on)
                               | (refine quiet_call 45 #[.agg cs, .int .i64 ((0 : Nat) : Int), .int .i64 (i : Int)] (.string ⟨P1.toArray⟩) ?_ HS1.out ?_
                                  · intro w; go_simp; done
                                  go_simp; go_big_quiet_on)
                               | (refine quiet_call 45 #[.agg cs, .int .i64 ((i : Int) + (L : Int)), .int .i64 ((8 : Nat) : Int)] (.string ⟨P2.toArray⟩) ?_ HS2.out ?_
                                  · intro w; go_simp; first | done | rw [wL] | rfl
                                  go_simp; go_big_quiet_on)))
                refine wpQuiet_nil ?_
                intro V hV
                go_wp2_with fail
                go_ret
                exact ⟨rfl, hV.2.1⟩
              · have d1 : decide ((L : Int) ≤ (n : Int)) = false := decide_eq_false (by omega)
                have d1' : decide (L ≤ n) = false := decide_eq_false hnL
                have HI2 : Hid (∀ j, j < i + 1 → runP gs j < L) := Lib.hid (fun j h => by
                  rcases Nat.lt_or_ge j i with h' | h'
                  · exact HI.out j h'
                  · obtain rfl : j = i := by omega
                    rw [← HNN.out]; omega)
                go_wp2_with (first
                  | (refine wpList_load24 rfl _ rfl _ rfl _ (by assumption) ?_)
                  | (go_at_call 44; refine (HRI.out _ HPC.out).mono ?_; rintro e t2 ⟨rfl, hpc2⟩; replace HPC := Lib.hid hpc2; clear hpc2 z1; refine Hid.out ?_))
                refine Lib.hid ?_
                go_wp2_with fail
                go_roundw
                case rel => exact ⟨i + 1, by go_num, by omega, HI2, HPC.out⟩
                case measure => simp [intOf]; omega
            · have b1 : decide ((i : Int) + (L : Int) ≤ 8) = false := decide_eq_false (by omega)
              have b2 : ¬ (i : Int) + (L : Int) ≤ 8 := by omega
              have HL2 : Hid (∀ k j, L - 1 < k → j + k ≤ 8 → runP gs j < k) := Lib.hid (fun k j h1 h2 => by
                rcases Nat.lt_or_ge L k with h' | h'
                · exact HL.out k j h' h2
                · obtain rfl : k = L := by omega
                  exact HI.out j (by omega))
              clear z1
              go_wp2_with fail
              go_roundw
              case rel => exact ⟨L - 1, by go_num, by omega, by omega, HL2, HPC.out⟩
              case measure => simp [intOf]; omega
        · obtain rfl : L = 1 := by omega
          have a1 : decide ((2 : Int) ≤ ((1 : Nat) : Int)) = false := rfl
          have HRE : Hid (R = printG gs) := Lib.hid (by rw [HRP.out]; exact print_none HGL.out HL.out)
          have HS1 := Lib.hid (HSOM.out 0 8 (by omega) (by omega))
          have e1 : (gs.drop 0).take (8 - 0) = gs := by rw [List.drop_zero]; exact List.take_of_length_le (by rw [HGL.out]; omega)
          rw [e1, ← HRE.out] at HS1
          have z1 := HPC.out.1
          clear HL HRP e1
          go_wp2_with (first
            | (refine wpList_load24 rfl _ rfl _ rfl _ (by assumption) ?_)
            | (go_at_call 45; refine (HS1.out _ HPC.out).mono ?_; rintro e t2 ⟨rfl, hpc2⟩; replace HPC := Lib.hid hpc2; clear hpc2 z1; refine Hid.out ?_))
          refine Lib.hid ?_
          go_wp2_with fail
          go_ret
          exact ⟨rfl, HPC.out.2.1⟩
#print axioms rprint_c
end Go.Proofs.YtclfhajapohogaaDoor
