/-
  The document's own: read.
-/
import Derived.Test.YtbgpjhekohabiaaDoorRefD
namespace Go.Proofs.YtbgpjhekohabiaaDoor
open Go.ChangeShapes Go.WideShapes Go.ChangeAt Go.RowKit Go.Deep Num
set_option linter.unusedVariables false
set_option maxHeartbeats 4000000
set_option maxRecDepth 100000

theorem Owns.shp {w : World} {v : Value} {l : List Int} (h : Owns w v l) : ∃ a n c, v = .slice a n c := by
  rcases h.2 with ⟨rfl, _⟩ | ⟨g, cap, cur, rfl, _⟩
  · exact ⟨_, _, _, rfl⟩
  · exact ⟨_, _, _, rfl⟩
theorem BoxP.setRow {w : World} {g : Nat} {p : Pk} {ov dv : Value} (h : BoxP w g p ov dv) (q : Pk) (ou du : Value) : BoxP (w.setRow g (csP q ou du)) g q ou du := by
  unfold BoxP at h ⊢; simp [World.setRow, Array.getElem?_modify, h]
theorem cell_setRow {w : World} {g b o : Nat} {cs : Array Value} {v : Value} (h : b ≠ g) (hc : w.cell? ⟨b, o, none⟩ = some v) : (w.setRow g cs).cell? ⟨b, o, none⟩ = some v :=
  ((Away.refl [g] w).setRow (.inl (by simp)) cs).cell (by simpa using h) hc
def ReadOut (w : World) (p : Pk) (E : Ending) (w' : World) : Prop := ∃ ov dv, E = .returned (.agg (csP p ov dv)) ∧ Owns w' ov p.o ∧ Owns w' dv p.d ∧ New w.heap.size ov ∧ New w.heap.size dv ∧ Away [] w w'
theorem rread_c (a : Option Addr) (l : List Int) (n cap N : Nat) (w : World) (hn : l.length = n) (hcap : n ≤ cap) (hr : Row w a l) (h20 : 20 ≤ N) (hN : N ≤ n) (h60 : N ≤ 60) :
    Calls Tryd.prog 81 #[.slice a n cap, .int .i64 (N : Int)] w fun E w' => ReadOut w (readP l N) E w' := by
  subst hn
  have hlen := hr.1
  have hlb := hr.2.1
  obtain ⟨b, off, rfl, c1⟩ := hr.at 1 (by omega)
  obtain ⟨b', off', he, c8⟩ := hr.at 8 (by omega)
  simp only [Option.some.injEq, Addr.mk.injEq, and_true] at he
  obtain ⟨rfl, rfl⟩ := he
  obtain ⟨b', off', he, c9⟩ := hr.at 9 (by omega)
  simp only [Option.some.injEq, Addr.mk.injEq, and_true] at he
  obtain ⟨rfl, rfl⟩ := he
  have x1 := gt_bd hlb 1; have x8 := gt_bd hlb 8; have x9 := gt_bd hlb 9
  have y4 := gt_bd hlb 4; have y5 := gt_bd hlb 5; have y6 := gt_bd hlb 6; have y7 := gt_bd hlb 7
  have f4 : 0 ≤ w16 l 4 ∧ w16 l 4 ≤ 65535 := by have e : w16 l 4 = 256 * gt l 4 + gt l 5 := rfl; omega
  have f6 : 0 ≤ w16 l 6 ∧ w16 l 6 ≤ 65535 := by have e : w16 l 6 = 256 * gt l 6 + gt l 7 := rfl; omega
  have HR := Lib.hid hr
  obtain ⟨A1, hA1⟩ : ∃ A, A = if cap = 12 then some (⟨b, off, none⟩ : Addr) else (some (⟨b, off, none⟩ : Addr)).map (·.add 12) := ⟨_, rfl⟩
  obtain ⟨A2, hA2⟩ : ∃ A, A = if cap = 16 then some (⟨b, off, none⟩ : Addr) else (some (⟨b, off, none⟩ : Addr)).map (·.add 16) := ⟨_, rfl⟩
  obtain ⟨A3, hA3⟩ : ∃ A, A = if cap = 20 then some (⟨b, off, none⟩ : Addr) else (some (⟨b, off, none⟩ : Addr)).map (·.add 20) := ⟨_, rfl⟩
  obtain ⟨A4, hA4⟩ : ∃ A, A = if cap = N then some (⟨b, off, none⟩ : Addr) else (some (⟨b, off, none⟩ : Addr)).map (·.add N) := ⟨_, rfl⟩
  have nA3 : A3 = none → cap - 20 = 0 := by rw [hA3]; intro h; revert h; split <;> simp
  have nA4 : A4 = none → cap - N = 0 := by rw [hA4]; intro h; revert h; split <;> simp
  have t1 : Row w A1 (l.drop 12) := by have h := hr.tail 12 cap hcap (by omega); rw [← hA1] at h; exact h
  have t2 : Row w A2 (l.drop 16) := by have h := hr.tail 16 cap hcap (by omega); rw [← hA2] at h; exact h
  have t3 : Row w A3 ((l.drop 20).take (N - 20)) := by have h := hr.sub 20 (N - 20) cap hcap (by omega); rw [← hA3] at h; exact h
  have t4 : Row w A4 (l.drop N) := by have h := hr.tail N cap hcap (by omega); rw [← hA4] at h; exact h
  have v1 := slice_l (some ⟨b, off, none⟩) A1 l.length cap 12 12 hA1 rfl (by omega)
  have v2 := slice_l (some ⟨b, off, none⟩) A2 l.length cap 16 16 hA2 rfl (by omega)
  have v3 := slice_lh (some ⟨b, off, none⟩) A3 l.length cap 20 (N - 20) 20 (N : Int) hA3 rfl (by omega) (by omega)
  have v4 := slice_l (some ⟨b, off, none⟩) A4 l.length cap N (N : Int) hA4 rfl (by omega)
  obtain ⟨b0, b1, b2, b3, b4, b5, b6, b7, b8, b9, b10, b11, b12, b13, b14, b15, b16, b17, b18, b19, r, hbe⟩ := list20 (b := l) (by omega)
  have j12 : (l.drop 12).take 4 = [b12, b13, b14, b15] := by rw [hbe]; rfl
  have j16 : (l.drop 16).take 4 = [b16, b17, b18, b19] := by rw [hbe]; rfl
  have j1 : gt l 1 = b1 := by rw [hbe]; rfl
  have j8 : gt l 8 = b8 := by rw [hbe]; rfl
  have j9 : gt l 9 = b9 := by rw [hbe]; rfl
  have K1 : Hid (∀ w', Away [] w w' → Calls Tryd.prog 97 #[.slice A1 (l.length - 12) (cap - 12)] w' fun E w'' => E = .returned (.agg #[.int .i64 4, .int .u8 b12, .int .u8 b13, .int .u8 b14, .int .u8 b15, .int .u8 0, .int .u8 0, .int .u8 0, .int .u8 0, .int .u8 0, .int .u8 0, .int .u8 0, .int .u8 0, .int .u8 0, .int .u8 0, .int .u8 0, .int .u8 0]) ∧ Away [] w' w'') := fun w' h => by
    have hh := radr_c A1 (l.drop 12) (l.length - 12) (cap - 12) w' (by simp) (t1.on h) (by omega)
    rw [j12] at hh
    exact hh
  have K2 : Hid (∀ w', Away [] w w' → Calls Tryd.prog 97 #[.slice A2 (l.length - 16) (cap - 16)] w' fun E w'' => E = .returned (.agg #[.int .i64 4, .int .u8 b16, .int .u8 b17, .int .u8 b18, .int .u8 b19, .int .u8 0, .int .u8 0, .int .u8 0, .int .u8 0, .int .u8 0, .int .u8 0, .int .u8 0, .int .u8 0, .int .u8 0, .int .u8 0, .int .u8 0, .int .u8 0]) ∧ Away [] w' w'') := fun w' h => by
    have hh := radr_c A2 (l.drop 16) (l.length - 16) (cap - 16) w' (by simp) (t2.on h) (by omega)
    rw [j16] at hh
    exact hh
  have K3 : Hid (∀ w', Away [] w w' → Calls Tryd.prog 98 #[.slice A3 (N - 20) (cap - 20)] w' fun E w'' => ∃ v, E = .returned v ∧ Owns w'' v ((l.drop 20).take (N - 20)) ∧ New w'.heap.size v ∧ Away [] w' w'') := fun w' h => rown_c A3 _ _ (cap - 20) w' (by simp; omega) nA3 (t3.on h)
  have K4 : Hid (∀ w', Away [] w w' → Calls Tryd.prog 98 #[.slice A4 (l.length - N) (cap - N)] w' fun E w'' => ∃ v, E = .returned v ∧ Owns w'' v (l.drop N) ∧ New w'.heap.size v ∧ Away [] w' w'') := fun w' h => rown_c A4 _ _ (cap - N) w' (by simp) nA4 (t4.on h)
  have KG : Hid (∀ w' i, i + 1 < l.length → Away [] w w' → Calls Tryd.prog 79 #[.slice (some ⟨b, off, none⟩) l.length cap, .int .i64 ((i : Nat) : Int)] w' fun E w'' => E = .returned (.int .i64 (w16 l i)) ∧ Away [] w' w'') := fun w' i hi h => (rget_c _ l _ cap i w' rfl (hr.on h) hi).mono (fun E w'' ⟨h1, k, h2⟩ => ⟨h1, by rw [h2]; exact (Away.refl [] w').drewN k⟩)
  have HRP : Hid (readP l N = ⟨4, b1, 0, 4, [b12, b13, b14, b15] ++ z12, 4, [b16, b17, b18, b19] ++ z12, b9, b8, w16 l 4, decide (w16 l 6 / 16384 % 2 = 1), decide (w16 l 6 / 8192 % 2 = 1), false, w16 l 6 % 8192 * 8, (l.drop 20).take (N - 20), l.drop N⟩) := by show _ = _; unfold readP; rw [j12, j16, j1, j8, j9]
  rw [j1] at c1 x1
  rw [j8] at c8 x8
  rw [j9] at c9 x9
  clear hr t1 t2 t3 t4 hA1 hA2 hA3 hA4 nA3 nA4 j12 j16 j1 j8 j9 hbe y4 y5 y6 y7
  have hlt := block_lt_of_cell c1
  obtain ⟨F4, hF4⟩ : ∃ F, w16 l 4 = F := ⟨_, rfl⟩
  obtain ⟨F6, hF6⟩ : ∃ F, w16 l 6 = F := ⟨_, rfl⟩
  rw [hF4] at f4 HRP
  rw [hF6] at f6 HRP
  have HF4 := Lib.hid hF4
  have HF6 := Lib.hid hF6
  clear hF4 hF6
  have wr1 : IntKind.i64.wrap b1 = b1 := by rw [IntKind.wrap_i64]; omega
  have wr8 : IntKind.i64.wrap b8 = b8 := by rw [IntKind.wrap_i64]; omega
  have wr9 : IntKind.i64.wrap b9 = b9 := by rw [IntKind.wrap_i64]; omega
  have wrF4 : IntKind.u32.wrap F4 = F4 := by rw [IntKind.wrap_u32]; omega
  have td1 : F6.tdiv 16384 = F6 / 16384 := Int.tdiv_eq_ediv_of_nonneg f6.1
  have td2 : F6.tdiv 8192 = F6 / 8192 := Int.tdiv_eq_ediv_of_nonneg f6.1
  have tm1 : (F6 / 16384).tmod 2 = F6 / 16384 % 2 := Int.tmod_eq_emod_of_nonneg (by omega)
  have tm2 : (F6 / 8192).tmod 2 = F6 / 8192 % 2 := Int.tmod_eq_emod_of_nonneg (by omega)
  have tm3 : F6.tmod 8192 = F6 % 8192 := Int.tmod_eq_emod_of_nonneg f6.1
  have wrq1 : IntKind.i64.wrap (F6 / 16384) = F6 / 16384 := by rw [IntKind.wrap_i64]; omega
  have wrq2 : IntKind.i64.wrap (F6 / 8192) = F6 / 8192 := by rw [IntKind.wrap_i64]; omega
  have wrq3 : IntKind.i64.wrap (F6 / 16384 % 2) = F6 / 16384 % 2 := by rw [IntKind.wrap_i64]; omega
  have wrq4 : IntKind.i64.wrap (F6 / 8192 % 2) = F6 / 8192 % 2 := by rw [IntKind.wrap_i64]; omega
  have wrq5 : IntKind.i64.wrap (F6 % 8192) = F6 % 8192 := by rw [IntKind.wrap_i64]; omega
  have wrq6 : IntKind.i64.wrap (F6 % 8192 * 8) = F6 % 8192 * 8 := by rw [IntKind.wrap_i64]; omega
  have i1 : (1 : Int) < (l.length : Int) := by omega
  have i8 : (8 : Int) < (l.length : Int) := by omega
  have i9 : (9 : Int) < (l.length : Int) := by omega
  go_enter Tryd.func81, Tryd.ntmps81
  go_wp2_with (refine wpList_alloc28 rfl rfl ?_; refine Hid.out ?_)
  refine Lib.hid ?_
  intro g4 w1 hg4 hb4 haw1
  have HB := Lib.hid hb4
  have HA := Lib.hid haw1
  have hl4 := hb4.lt
  clear hb4 haw1
  go_wp2_with fail
  refine (KG.out w1 6 (by omega) HA.out).mono ?_
  rintro E w2 ⟨rfl, haw⟩
  rw [HF6.out]
  replace HB := Lib.hid (HB.out.on haw)
  replace HA := Lib.hid (HA.out.on haw)
  have hs2 := haw.size
  clear haw
  replace c1 := HA.out.cell (by simp) c1
  replace c8 := HA.out.cell (by simp) c8
  replace c9 := HA.out.cell (by simp) c9

  go_wp2_with fail
  have hbg : b ≠ g4 := by omega
  refine wp_region_held_drew (S := fun w' => w'.cell? ⟨b, off + 1, none⟩ = some (.int .u8 b1) ∧ w'.cell? ⟨b, off + 8, none⟩ = some (.int .u8 b8) ∧ w'.cell? ⟨b, off + 9, none⟩ = some (.int .u8 b9)) (by kernel_rfl) ⟨c1, c8, c9⟩ (fun hHeld => ?_)
  refine wpAnyH_take (i := 0) (v := ?_) (by simp only [List.getElem?_toArray, List.getElem?_cons_zero]; rfl) (by kernel_rfl) (by kernel_rfl) (by kernel_rfl) (by exact fun _ _ _ h => h) (Or.inl ⟨by rfl, ?_⟩) (by assumption) ?_
  rotate_left
  · intro wq hSw
    (try dsimp only at hSw)
    go_simp
    all_goals (with_reducible rfl)
  try simp only [Act.put, List.setIfInBounds_toArray, List.set_cons_zero, List.set_cons_succ]
  refine wpAnyH_take (i := 1) (v := ?_) (by simp only [List.getElem?_toArray, List.getElem?_cons_succ, List.getElem?_cons_zero]; rfl) (by kernel_rfl) (by kernel_rfl) (by kernel_rfl) (by exact fun _ _ _ h => h) (Or.inl ⟨by rfl, ?_⟩) (by assumption) ?_
  rotate_left
  · intro wq hSw
    (try dsimp only at hSw)
    go_simp
    all_goals (with_reducible rfl)
  try simp only [Act.put, List.setIfInBounds_toArray, List.set_cons_zero, List.set_cons_succ]
  refine wpAnyH_take (i := 2) (v := ?_) (by simp only [List.getElem?_toArray, List.getElem?_cons_succ, List.getElem?_cons_zero]; rfl) (by kernel_rfl) (by kernel_rfl) (by kernel_rfl) (by exact fun _ _ _ h => h) (Or.inl ⟨by rfl, ?_⟩) (by assumption) ?_
  rotate_left
  · intro wq hSw
    (try dsimp only at hSw)
    go_simp
    all_goals (with_reducible rfl)
  try simp only [Act.put, List.setIfInBounds_toArray, List.set_cons_zero, List.set_cons_succ]
  refine wpAnyH_take (i := 3) (v := ?_) (by simp only [List.getElem?_toArray, List.getElem?_cons_succ, List.getElem?_cons_zero]; rfl) (by kernel_rfl) (by kernel_rfl) (by kernel_rfl) (by exact fun _ _ _ h => h) (Or.inl ⟨by rfl, ?_⟩) (by assumption) ?_
  rotate_left
  · intro wq hSw
    (try dsimp only at hSw)
    go_simp
    all_goals (with_reducible rfl)
  try simp only [Act.put, List.setIfInBounds_toArray, List.set_cons_zero, List.set_cons_succ]
  refine wpAnyH_take (i := 4) (v := ?_) (by simp only [List.getElem?_toArray, List.getElem?_cons_succ, List.getElem?_cons_zero]; rfl) (by kernel_rfl) (by kernel_rfl) (by kernel_rfl) (by exact fun _ _ _ h => h) (Or.inl ⟨by rfl, ?_⟩) (by assumption) ?_
  rotate_left
  · intro wq hSw
    (try dsimp only at hSw)
    go_simp
    all_goals (with_reducible rfl)
  try simp only [Act.put, List.setIfInBounds_toArray, List.set_cons_zero, List.set_cons_succ]
  refine wpAnyH_take (i := 5) (v := ?_) (by simp only [List.getElem?_toArray, List.getElem?_cons_succ, List.getElem?_cons_zero]; rfl) (by kernel_rfl) (by kernel_rfl) (by kernel_rfl) (by exact fun _ _ _ h => h) (Or.inl ⟨by rfl, ?_⟩) (by assumption) ?_
  rotate_left
  · intro wq hSw
    (try dsimp only at hSw)
    go_simp
    all_goals (with_reducible rfl)
  try simp only [Act.put, List.setIfInBounds_toArray, List.set_cons_zero, List.set_cons_succ]
  refine wpAnyH_take (i := 7) (v := ?_) (by simp only [List.getElem?_toArray, List.getElem?_cons_succ, List.getElem?_cons_zero]; rfl) (by kernel_rfl) (by kernel_rfl) (by kernel_rfl) (by exact fun _ _ _ h => h) (Or.inl ⟨by rfl, ?_⟩) (by assumption) ?_
  rotate_left
  · intro wq hSw
    (try dsimp only at hSw)
    go_simp
    all_goals (with_reducible rfl)
  try simp only [Act.put, List.setIfInBounds_toArray, List.set_cons_zero, List.set_cons_succ]
  refine wpAnyH_take (i := 8) (v := ?_) (by simp only [List.getElem?_toArray, List.getElem?_cons_succ, List.getElem?_cons_zero]; rfl) (by kernel_rfl) (by kernel_rfl) (by kernel_rfl) (by exact fun _ _ _ h => h) (Or.inl ⟨by rfl, ?_⟩) (by assumption) ?_
  rotate_left
  · intro wq hSw
    (try dsimp only at hSw)
    go_simp
    all_goals (with_reducible rfl)
  try simp only [Act.put, List.setIfInBounds_toArray, List.set_cons_zero, List.set_cons_succ]
  refine wpAnyH_take (i := 10) (v := ?_) (by simp only [List.getElem?_toArray, List.getElem?_cons_succ, List.getElem?_cons_zero]; rfl) (by kernel_rfl) (by kernel_rfl) (by kernel_rfl) (by exact fun _ _ _ h => h) (Or.inl ⟨by rfl, ?_⟩) (by assumption) ?_
  rotate_left
  · intro wq hSw
    (try dsimp only at hSw)
    go_simp
    all_goals (with_reducible rfl)
  try simp only [Act.put, List.setIfInBounds_toArray, List.set_cons_zero, List.set_cons_succ]
  refine wpAnyH_take (i := 11) (v := ?_) (by simp only [List.getElem?_toArray, List.getElem?_cons_succ, List.getElem?_cons_zero]; rfl) (by kernel_rfl) (by kernel_rfl) (by kernel_rfl) (by exact fun _ _ _ h => h) (Or.inl ⟨by rfl, ?_⟩) (by assumption) ?_
  rotate_left
  · intro wq hSw
    (try dsimp only at hSw)
    go_simp
    all_goals (with_reducible rfl)
  try simp only [Act.put, List.setIfInBounds_toArray, List.set_cons_zero, List.set_cons_succ]
  refine wpAnyH_take (i := 12) (v := ?_) (by simp only [List.getElem?_toArray, List.getElem?_cons_succ, List.getElem?_cons_zero]; rfl) (by kernel_rfl) (by kernel_rfl) (by kernel_rfl) (by exact fun _ _ _ h => h) (Or.inl ⟨by rfl, ?_⟩) (by assumption) ?_
  rotate_left
  · intro wq hSw
    (try dsimp only at hSw)
    go_simp
    all_goals (with_reducible rfl)
  try simp only [Act.put, List.setIfInBounds_toArray, List.set_cons_zero, List.set_cons_succ]
  refine wpAnyH_take (i := 13) (v := ?_) (by simp only [List.getElem?_toArray, List.getElem?_cons_succ, List.getElem?_cons_zero]; rfl) (by kernel_rfl) (by kernel_rfl) (by kernel_rfl) (by exact fun _ _ _ h => h) (Or.inl ⟨by rfl, ?_⟩) (by assumption) ?_
  rotate_left
  · intro wq hSw
    (try dsimp only at hSw)
    go_simp
    all_goals (with_reducible rfl)
  try simp only [Act.put, List.setIfInBounds_toArray, List.set_cons_zero, List.set_cons_succ]
  refine wpAnyH_take (i := 14) (v := ?_) (by simp only [List.getElem?_toArray, List.getElem?_cons_succ, List.getElem?_cons_zero]; rfl) (by kernel_rfl) (by kernel_rfl) (by kernel_rfl) (by exact fun _ _ _ h => h) (Or.inl ⟨by rfl, ?_⟩) (by assumption) ?_
  rotate_left
  · intro wq hSw
    (try dsimp only at hSw)
    go_simp
    all_goals (with_reducible rfl)
  try simp only [Act.put, List.setIfInBounds_toArray, List.set_cons_zero, List.set_cons_succ]
  refine wpAnyH_take (i := 15) (v := ?_) (by simp only [List.getElem?_toArray, List.getElem?_cons_succ, List.getElem?_cons_zero]; rfl) (by kernel_rfl) (by kernel_rfl) (by kernel_rfl) (by exact fun _ _ _ h => h) (Or.inl ⟨by rfl, ?_⟩) (by assumption) ?_
  rotate_left
  · intro wq hSw
    (try dsimp only at hSw)
    go_simp
    all_goals (with_reducible rfl)
  try simp only [Act.put, List.setIfInBounds_toArray, List.set_cons_zero, List.set_cons_succ]
  refine wpAnyH_take (i := 16) (v := ?_) (by simp only [List.getElem?_toArray, List.getElem?_cons_succ, List.getElem?_cons_zero]; rfl) (by kernel_rfl) (by kernel_rfl) (by kernel_rfl) (by exact fun _ _ _ h => h) (Or.inl ⟨by rfl, ?_⟩) (by assumption) ?_
  rotate_left
  · intro wq hSw
    (try dsimp only at hSw)
    go_simp
    all_goals (with_reducible rfl)
  try simp only [Act.put, List.setIfInBounds_toArray, List.set_cons_zero, List.set_cons_succ]
  refine wpAnyH_take (i := 17) (v := ?_) (by simp only [List.getElem?_toArray, List.getElem?_cons_succ, List.getElem?_cons_zero]; rfl) (by kernel_rfl) (by kernel_rfl) (by kernel_rfl) (by exact fun _ _ _ h => h) (Or.inl ⟨by rfl, ?_⟩) (by assumption) ?_
  rotate_left
  · intro wq hSw
    (try dsimp only at hSw)
    go_simp
    all_goals (with_reducible rfl)
  try simp only [Act.put, List.setIfInBounds_toArray, List.set_cons_zero, List.set_cons_succ]
  refine wpAnyH_take (i := 18) (v := ?_) (by simp only [List.getElem?_toArray, List.getElem?_cons_succ, List.getElem?_cons_zero]; rfl) (by kernel_rfl) (by kernel_rfl) (by kernel_rfl) (by exact fun _ _ _ h => h) (Or.inl ⟨by rfl, ?_⟩) (by assumption) ?_
  rotate_left
  · intro wq hSw
    (try dsimp only at hSw)
    go_simp
    all_goals (with_reducible rfl)
  try simp only [Act.put, List.setIfInBounds_toArray, List.set_cons_zero, List.set_cons_succ]
  refine wpAnyH_take (i := 21) (v := ?_) (by simp only [List.getElem?_toArray, List.getElem?_cons_succ, List.getElem?_cons_zero]; rfl) (by kernel_rfl) (by kernel_rfl) (by kernel_rfl) (by exact fun _ _ _ h => h) (Or.inl ⟨by rfl, ?_⟩) (by assumption) ?_
  rotate_left
  · intro wq hSw
    (try dsimp only at hSw)
    go_simp
    all_goals (with_reducible rfl)
  try simp only [Act.put, List.setIfInBounds_toArray, List.set_cons_zero, List.set_cons_succ]
  refine wpAnyH_take (i := 22) (v := ?_) (by simp only [List.getElem?_toArray, List.getElem?_cons_succ, List.getElem?_cons_zero]; rfl) (by kernel_rfl) (by kernel_rfl) (by kernel_rfl) (by exact fun _ _ _ h => h) (Or.inl ⟨by rfl, ?_⟩) (by assumption) ?_
  rotate_left
  · intro wq hSw
    (try dsimp only at hSw)
    go_simp
    all_goals (with_reducible rfl)
  try simp only [Act.put, List.setIfInBounds_toArray, List.set_cons_zero, List.set_cons_succ]
  refine wpAnyH_take (i := 23) (v := ?_) (by simp only [List.getElem?_toArray, List.getElem?_cons_succ, List.getElem?_cons_zero]; rfl) (by kernel_rfl) (by kernel_rfl) (by kernel_rfl) (by exact fun _ _ _ h => h) (Or.inl ⟨by rfl, ?_⟩) (by assumption) ?_
  rotate_left
  · intro wq hSw
    (try dsimp only at hSw)
    go_simp
    all_goals (with_reducible rfl)
  try simp only [Act.put, List.setIfInBounds_toArray, List.set_cons_zero, List.set_cons_succ]
  refine wpAnyH_take (i := 24) (v := ?_) (by simp only [List.getElem?_toArray, List.getElem?_cons_succ, List.getElem?_cons_zero]; rfl) (by kernel_rfl) (by kernel_rfl) (by kernel_rfl) (by exact fun _ _ _ h => h) (Or.inl ⟨by rfl, ?_⟩) (by assumption) ?_
  rotate_left
  · intro wq hSw
    (try dsimp only at hSw)
    go_simp
    all_goals (with_reducible rfl)
  try simp only [Act.put, List.setIfInBounds_toArray, List.set_cons_zero, List.set_cons_succ]
  refine wpAnyH_take (i := 25) (v := ?_) (by simp only [List.getElem?_toArray, List.getElem?_cons_succ, List.getElem?_cons_zero]; rfl) (by kernel_rfl) (by kernel_rfl) (by kernel_rfl) (by exact fun _ _ _ h => h) (Or.inl ⟨by rfl, ?_⟩) (by assumption) ?_
  rotate_left
  · intro wq hSw
    (try dsimp only at hSw)
    go_simp
    all_goals (with_reducible rfl)
  try simp only [Act.put, List.setIfInBounds_toArray, List.set_cons_zero, List.set_cons_succ]
  refine wpAnyH_take (i := 26) (v := ?_) (by simp only [List.getElem?_toArray, List.getElem?_cons_succ, List.getElem?_cons_zero]; rfl) (by kernel_rfl) (by kernel_rfl) (by kernel_rfl) (by exact fun _ _ _ h => h) (Or.inl ⟨by rfl, ?_⟩) (by assumption) ?_
  rotate_left
  · intro wq hSw
    (try dsimp only at hSw)
    go_simp
    all_goals (with_reducible rfl)
  try simp only [Act.put, List.setIfInBounds_toArray, List.set_cons_zero, List.set_cons_succ]
  refine wpAnyH_take (i := 27) (v := ?_) (by simp only [List.getElem?_toArray, List.getElem?_cons_succ, List.getElem?_cons_zero]; rfl) (by kernel_rfl) (by kernel_rfl) (by kernel_rfl) (by exact fun _ _ _ h => h) (Or.inl ⟨by rfl, ?_⟩) (by assumption) ?_
  rotate_left
  · intro wq hSw
    (try dsimp only at hSw)
    go_simp
    all_goals (with_reducible rfl)
  try simp only [Act.put, List.setIfInBounds_toArray, List.set_cons_zero, List.set_cons_succ]
  refine wpAnyH_take (i := 28) (v := ?_) (by simp only [List.getElem?_toArray, List.getElem?_cons_succ, List.getElem?_cons_zero]; rfl) (by kernel_rfl) (by kernel_rfl) (by kernel_rfl) (by exact fun _ _ _ h => h) (Or.inl ⟨by rfl, ?_⟩) (by assumption) ?_
  rotate_left
  · intro wq hSw
    (try dsimp only at hSw)
    go_simp
    all_goals (with_reducible rfl)
  try simp only [Act.put, List.setIfInBounds_toArray, List.set_cons_zero, List.set_cons_succ]
  refine wpAnyH_take (i := 29) (v := ?_) (by simp only [List.getElem?_toArray, List.getElem?_cons_succ, List.getElem?_cons_zero]; rfl) (by kernel_rfl) (by kernel_rfl) (by kernel_rfl) (by exact fun _ _ _ h => h) (Or.inl ⟨by rfl, ?_⟩) (by assumption) ?_
  rotate_left
  · intro wq hSw
    (try dsimp only at hSw)
    go_simp
    all_goals (with_reducible rfl)
  try simp only [Act.put, List.setIfInBounds_toArray, List.set_cons_zero, List.set_cons_succ]
  refine wpAnyH_take (i := 30) (v := ?_) (by simp only [List.getElem?_toArray, List.getElem?_cons_succ, List.getElem?_cons_zero]; rfl) (by kernel_rfl) (by kernel_rfl) (by kernel_rfl) (by exact fun _ _ _ h => h) (Or.inl ⟨by rfl, ?_⟩) (by assumption) ?_
  rotate_left
  · intro wq hSw
    (try dsimp only at hSw)
    go_simp
    all_goals (with_reducible rfl)
  try simp only [Act.put, List.setIfInBounds_toArray, List.set_cons_zero, List.set_cons_succ]
  refine wpAnyH_take (i := 31) (v := ?_) (by simp only [List.getElem?_toArray, List.getElem?_cons_succ, List.getElem?_cons_zero]; rfl) (by kernel_rfl) (by kernel_rfl) (by kernel_rfl) (by exact fun _ _ _ h => h) (Or.inl ⟨by rfl, ?_⟩) (by assumption) ?_
  rotate_left
  · intro wq hSw
    (try dsimp only at hSw)
    go_simp
    all_goals (with_reducible rfl)
  try simp only [Act.put, List.setIfInBounds_toArray, List.set_cons_zero, List.set_cons_succ]
  refine wpAnyH_take (i := 32) (v := ?_) (by simp only [List.getElem?_toArray, List.getElem?_cons_succ, List.getElem?_cons_zero]; rfl) (by kernel_rfl) (by kernel_rfl) (by kernel_rfl) (by exact fun _ _ _ h => h) (Or.inl ⟨by rfl, ?_⟩) (by assumption) ?_
  rotate_left
  · intro wq hSw
    (try dsimp only at hSw)
    go_simp
    all_goals (with_reducible rfl)
  try simp only [Act.put, List.setIfInBounds_toArray, List.set_cons_zero, List.set_cons_succ]
  refine wpAnyH_take (i := 33) (v := ?_) (by simp only [List.getElem?_toArray, List.getElem?_cons_succ, List.getElem?_cons_zero]; rfl) (by kernel_rfl) (by kernel_rfl) (by kernel_rfl) (by exact fun _ _ _ h => h) (Or.inl ⟨by rfl, ?_⟩) (by assumption) ?_
  rotate_left
  · intro wq hSw
    (try dsimp only at hSw)
    go_simp
    all_goals (with_reducible rfl)
  try simp only [Act.put, List.setIfInBounds_toArray, List.set_cons_zero, List.set_cons_succ]
  refine wpAnyH_take (i := 34) (v := ?_) (by simp only [List.getElem?_toArray, List.getElem?_cons_succ, List.getElem?_cons_zero]; rfl) (by kernel_rfl) (by kernel_rfl) (by kernel_rfl) (by exact fun _ _ _ h => h) (Or.inl ⟨by rfl, ?_⟩) (by assumption) ?_
  rotate_left
  · intro wq hSw
    (try dsimp only at hSw)
    go_simp
    all_goals (with_reducible rfl)
  try simp only [Act.put, List.setIfInBounds_toArray, List.set_cons_zero, List.set_cons_succ]
  refine wpAnyH_take (i := 36) (v := ?_) (by simp only [List.getElem?_toArray, List.getElem?_cons_succ, List.getElem?_cons_zero]; rfl) (by kernel_rfl) (by kernel_rfl) (by kernel_rfl) (by exact fun _ _ _ h => h) (Or.inl ⟨by rfl, ?_⟩) (by assumption) ?_
  rotate_left
  · intro wq hSw
    (try dsimp only at hSw)
    go_simp
    all_goals (with_reducible rfl)
  try simp only [Act.put, List.setIfInBounds_toArray, List.set_cons_zero, List.set_cons_succ]
  refine wpAnyH_take (i := 37) (v := ?_) (by simp only [List.getElem?_toArray, List.getElem?_cons_succ, List.getElem?_cons_zero]; rfl) (by kernel_rfl) (by kernel_rfl) (by kernel_rfl) (by exact fun _ _ _ h => h) (Or.inl ⟨by rfl, ?_⟩) (by assumption) ?_
  rotate_left
  · intro wq hSw
    (try dsimp only at hSw)
    go_simp
    all_goals (with_reducible rfl)
  try simp only [Act.put, List.setIfInBounds_toArray, List.set_cons_zero, List.set_cons_succ]
  refine wpAnyH_take (i := 38) (v := ?_) (by simp only [List.getElem?_toArray, List.getElem?_cons_succ, List.getElem?_cons_zero]; rfl) (by kernel_rfl) (by kernel_rfl) (by kernel_rfl) (by exact fun _ _ _ h => h) (Or.inl ⟨by rfl, ?_⟩) (by assumption) ?_
  rotate_left
  · intro wq hSw
    (try dsimp only at hSw)
    go_simp
    all_goals (with_reducible rfl)
  try simp only [Act.put, List.setIfInBounds_toArray, List.set_cons_zero, List.set_cons_succ]
  refine wpAnyH_ready (rs := [6]) (by kernel_rfl) (by simp) ?_
  refine AllReadyH.cons (by simp only [List.getElem?_toArray, List.getElem?_cons_succ, List.getElem?_cons_zero]; rfl) (fun K hK => ?_) AllReadyH.nil
  go_simp
  refine (K1.out _ HA.out.drew).mono ?_
  rintro E w3 ⟨rfl, haw⟩
  have HB3 := Lib.hid (BoxP.on (w := w2.drew) HB.out haw)
  have HA3 := Lib.hid (HA.out.drew.on haw)
  have hs3 : w2.heap.size ≤ w3.heap.size := haw.size
  have c1 := haw.cell (by simp) c1
  have c8 := haw.cell (by simp) c8
  have c9 := haw.cell (by simp) c9
  clear haw
  go_wp2_with fail
  refine hK.out _ _ ⟨c1, c8, c9⟩ (fun hHeld => ?_)
  clear hK K
  try simp only [Act.put, List.setIfInBounds_toArray, List.set_cons_zero, List.set_cons_succ]
  refine wpAnyH_ready (rs := [9]) (by kernel_rfl) (by simp) ?_
  refine AllReadyH.cons (by simp only [List.getElem?_toArray, List.getElem?_cons_succ, List.getElem?_cons_zero]; rfl) (fun K hK => ?_) AllReadyH.nil
  go_simp
  refine (K2.out _ HA3.out).mono ?_
  rintro E w4 ⟨rfl, haw⟩
  have HB4 := Lib.hid (HB3.out.on haw)
  have HA4 := Lib.hid (HA3.out.on haw)
  have hs4 : w3.heap.size ≤ w4.heap.size := haw.size
  have c1 := haw.cell (by simp) c1
  have c8 := haw.cell (by simp) c8
  have c9 := haw.cell (by simp) c9
  clear haw
  go_wp2_with fail
  refine hK.out _ _ ⟨c1, c8, c9⟩ (fun hHeld => ?_)
  clear hK K
  try simp only [Act.put, List.setIfInBounds_toArray, List.set_cons_zero, List.set_cons_succ]
  refine wpAnyH_ready (rs := [19]) (by kernel_rfl) (by simp) ?_
  refine AllReadyH.cons (by simp only [List.getElem?_toArray, List.getElem?_cons_succ, List.getElem?_cons_zero]; rfl) (fun K hK => ?_) AllReadyH.nil
  go_simp
  refine (KG.out _ 4 (by omega) HA4.out).mono ?_
  rintro E w5 ⟨rfl, haw⟩
  rw [HF4.out]
  have HB5 := Lib.hid (HB4.out.on haw)
  have HA5 := Lib.hid (HA4.out.on haw)
  have hs5 : w4.heap.size ≤ w5.heap.size := haw.size
  have c1 := haw.cell (by simp) c1
  have c8 := haw.cell (by simp) c8
  have c9 := haw.cell (by simp) c9
  clear haw
  go_wp2_with fail
  refine hK.out _ _ ⟨c1, c8, c9⟩ (fun hHeld => ?_)
  clear hK K
  try simp only [Act.put, List.setIfInBounds_toArray, List.set_cons_zero, List.set_cons_succ]
  refine wpAnyH_take (i := 20) (v := ?_) (by simp only [List.getElem?_toArray, List.getElem?_cons_succ, List.getElem?_cons_zero]; rfl) (by kernel_rfl) (by kernel_rfl) (by kernel_rfl) (by exact fun _ _ _ h => h) (Or.inl ⟨by rfl, ?_⟩) (by assumption) ?_
  rotate_left
  · intro wq hSw
    (try dsimp only at hSw)
    go_simp
    all_goals (with_reducible rfl)
  try simp only [Act.put, List.setIfInBounds_toArray, List.set_cons_zero, List.set_cons_succ]
  refine wpAnyH_ready (rs := [35]) (by kernel_rfl) (by simp) ?_
  refine AllReadyH.cons (by simp only [List.getElem?_toArray, List.getElem?_cons_succ, List.getElem?_cons_zero]; rfl) (fun K hK => ?_) AllReadyH.nil
  go_simp
  refine (K3.out _ HA5.out).mono ?_
  rintro E w6 ⟨vo, rfl, hown, hno, haw⟩
  have HB6 := Lib.hid (HB5.out.on haw)
  have HA6 := Lib.hid (HA5.out.on haw)
  have HO6 := Lib.hid hown
  have hs6 : w5.heap.size ≤ w6.heap.size := haw.size
  obtain ⟨oa, on, oc, rfl⟩ := hown.shp
  clear hown
  have c1 := haw.cell (by simp) c1
  have c8 := haw.cell (by simp) c8
  have c9 := haw.cell (by simp) c9
  clear haw
  go_wp2_with fail
  refine hK.out _ _ ⟨c1, c8, c9⟩ (fun hHeld => ?_)
  clear hK K
  try simp only [Act.put, List.setIfInBounds_toArray, List.set_cons_zero, List.set_cons_succ]
  refine wpAnyH_ready (rs := [39]) (by kernel_rfl) (by simp) ?_
  refine AllReadyH.cons (by simp only [List.getElem?_toArray, List.getElem?_cons_succ, List.getElem?_cons_zero]; rfl) (fun K hK => ?_) AllReadyH.nil
  go_simp
  refine (K4.out _ HA6.out).mono ?_
  rintro E w7 ⟨vd, rfl, hown, hnd, haw⟩
  have HB7 := Lib.hid (HB6.out.on haw)
  have HA7 := Lib.hid (HA6.out.on haw)
  have HO7 := Lib.hid (HO6.out.on haw)
  have HD7 := Lib.hid hown
  have hs7 : w6.heap.size ≤ w7.heap.size := haw.size
  obtain ⟨da, dn, dc, rfl⟩ := hown.shp
  clear hown
  have c1 := haw.cell (by simp) c1
  have c8 := haw.cell (by simp) c8
  have c9 := haw.cell (by simp) c9
  clear haw
  go_wp2_with fail
  refine hK.out _ _ ⟨c1, c8, c9⟩ (fun hHeld => ?_)
  clear hK K
  try simp only [Act.put, List.setIfInBounds_toArray, List.set_cons_zero, List.set_cons_succ]
  refine wpAnyH_take (i := 40) (v := ?_) (by simp only [List.getElem?_toArray, List.getElem?_cons_succ, List.getElem?_cons_zero]; rfl) (by kernel_rfl) (by kernel_rfl) (by kernel_rfl) (by exact fun _ _ _ h => h) (Or.inl ⟨by rfl, ?_⟩) (by assumption) ?_
  rotate_left
  · intro wq hSw
    (try dsimp only at hSw)
    go_simp
    all_goals (with_reducible rfl)
  try simp only [Act.put, List.setIfInBounds_toArray, List.set_cons_zero, List.set_cons_succ]
  refine wpAnyH_ready (rs := [41]) (by kernel_rfl) (by simp) ?_
  refine AllReadyH.cons (by simp only [List.getElem?_toArray, List.getElem?_cons_succ, List.getElem?_cons_zero]; rfl) (fun K hK => ?_) AllReadyH.nil
  rw [if_pos (by rfl)]
  refine wp_store_row 32 (.tmp 4) (.tmp 48) rfl g4 (csP ⟨4, b1, 0, 4, [b12, b13, b14, b15] ++ z12, 4, [b16, b17, b18, b19] ++ z12, b9, b8, F4, F6 / 16384 % 2 == 1, F6 / 8192 % 2 == 1, false, F6 % 8192 * 8, (l.drop 20).take (N - 20), l.drop N⟩ (.slice oa on oc) (.slice da dn dc)) rfl rfl 32 _ HB7.out (by rw [csP_size ⟨rfl, rfl⟩]; exact info28) (by rw [csP_size ⟨rfl, rfl⟩, csP_size ⟨rfl, rfl⟩]) (csP_one _ _ _ rfl rfl) ?_
  obtain ⟨P, hP⟩ : ∃ P : Pk, ⟨4, b1, 0, 4, [b12, b13, b14, b15] ++ z12, 4, [b16, b17, b18, b19] ++ z12, b9, b8, F4, F6 / 16384 % 2 == 1, F6 / 8192 % 2 == 1, false, F6 % 8192 * 8, (l.drop 20).take (N - 20), l.drop N⟩ = P := ⟨_, rfl⟩
  have hPA : Ad P := by rw [← hP]; exact ⟨rfl, rfl⟩
  rw [hP]
  refine hK.out _ _ ⟨cell_setRow hbg c1, cell_setRow hbg c8, cell_setRow hbg c9⟩ (fun hHeld => ?_)
  clear hK K
  refine wpAnyH_done (by kernel_rfl) ?_ _
  have hA8 : Away [g4] w7 (w7.setRow g4 (csP P (.slice oa on oc) (.slice da dn dc))) := (Away.refl [g4] w7).setRow (.inl (by simp)) _
  have HB8 : Hid (BoxP (w7.setRow g4 (csP P (.slice oa on oc) (.slice da dn dc))) g4 P (.slice oa on oc) (.slice da dn dc)) := HB7.out.setRow _ _ _
  have HA8 : Hid (Away [] w _) := HA7.out.next hA8 (fun x hx => .inr (by simp at hx; omega))
  have HO8 := Lib.hid (HO7.out.away hA8 (fun k hk hx => by have := hno k hk; simp at hx; omega))
  have HD8 := Lib.hid (HD7.out.away hA8 (fun k hk hx => by have := hnd k hk; simp at hx; omega))
  have HPE : Hid (readP l N = P) := by rw [HRP.out, ← hP]; rfl
  have HPO : Hid (P.o = (l.drop 20).take (N - 20) ∧ P.d = l.drop N) := by rw [← hP]; exact ⟨rfl, rfl⟩
  clear hA8 hP
  generalize w7.setRow g4 (csP P (.slice oa on oc) (.slice da dn dc)) = w8 at *
  go_wp2_with fail
  refine bodyPost_ret (result28 rfl _ _ _ _ _ _ rfl HB8.out hPA) rfl ⟨_, _, by rw [HPE.out], by rw [HPE.out, HPO.out.1]; exact HO8.out, by rw [HPE.out, HPO.out.2]; exact HD8.out, hno.mono (by have := HA.out.size; omega), hnd.mono (by have := HA.out.size; omega), HA8.out⟩
#print axioms rread_c
end Go.Proofs.YtbgpjhekohabiaaDoor
