/-
  The document: just, place, All, Find, New, At.
-/
import Derived.Test.YtemdgggpfadecaaF3
namespace Go.Proofs.Ytemdgggpfadecaa
open Go.ChangeShapes Go.WideShapes Go.ChangeAt Go.RowKit
set_option linter.unusedVariables false
set_option linter.unusedSimpArgs false
set_option maxRecDepth 100000

theorem run_build4r (w : World) (v : Int) : (Instr.build 32 #[(0, .int .i64 v)]).run Try.prog w = .ok (.agg (csA v z16)) w := by kernel_rfl
theorem wpList_build4r {ops : Array Oper} {rest : List Oper} {o : Oper} {a : Act} {w : World} {Q : Exit → Act → World → Prop} (hg : o.guard = none) (x : Operand) (ho : o.op = .build 32 #[(0, x)]) (v : Int) (hx : a.eval x = .int .i64 v)
    (h : wpList Try.prog ops Q rest (a.put o.dst (.agg (csA v z16))) w) : wpList Try.prog ops Q (o :: rest) a w := by
  refine wpList_plain hg fun K hK => ?_
  unfold Oper.wp execOp
  simp only [ho, List.map_toArray, List.map_cons, List.map_nil, hx, run_build4r, Sem.run_bind, Result.andThen_ok, Sem.run_pure]
  exact hK _ _ h
section
open KS
set_option maxHeartbeats 8000000 in
theorem rjust_c {w : World} {g : Nat} {v : Value} {t : Tb} (h : Tm w g v t) (av : Int) (al : List Int) (hl : al.length = 16) (p : Int) :
    Calls Try.prog 38 #[.pointer (some ⟨g, 0, none⟩), .agg (csA av al), .int .i64 p] w fun E w' => E = .returned (.int .i64 (plc (idxP (hit av al p) t.bs))) ∧ Away [] w w' := by
  have HL := Lib.hid hl
  have H := Lib.hid h
  obtain ⟨la, lc, rfl, hat⟩ := h.shape
  have HAT := Lib.hid hat
  obtain ⟨n, hn⟩ : ∃ n, n = t.bs.length := ⟨_, rfl⟩
  have hn32 : n ≤ 32 := by have := h.wf.le; omega
  have HOK := Lib.hid h.wf.okd
  rw [← hn] at H
  have HN := Lib.hid hn
  obtain ⟨ans, hans⟩ : ∃ z, z = plc (idxP (hit av al p) t.bs) := ⟨_, rfl⟩
  rw [← hans]
  have HJ := Lib.hid hans
  clear h hat hn hans hl
  go_enter Try.func38, Try.ntmps38
  go_wp2_with (refine wpList_box32 rfl _ rfl av al rfl ?_; refine Hid.out ?_)
  refine Lib.hid ?_
  intro g4 w1 hg4 hb haw
  have HA := Lib.hid haw
  have HB := Lib.hid hb
  clear hg4 hb haw
  go_wp2_with fail
  go_loopw [7] (fun i wr => ∃ k : Nat, i = .int .i64 (k : Int) ∧ k ≤ n ∧ Away [] w1 wr ∧ ∀ (j : Nat) (z : Bd), j < k → t.bs[j]? = some z → hit av al p z = false) (fun i _ => n - (intOf i).toNat)
  case atStart => exact ⟨0, rfl, Nat.zero_le _, Away.refl _ _, fun j z hj => by omega⟩
  case round =>
    obtain ⟨k, rfl, hk, haw, hno⟩ := hrel
    have HA1 := Lib.hid haw
    have HNO := Lib.hid hno
    have c2 := (HA.out.trans haw).cell (by simp) H.out.c2
    clear haw hno
    by_cases hkn : k < n
    · have j1 : decide (k < n) = true := by simp; omega
      have j0 : (k : Int) < (n : Int) := by omega
      obtain ⟨y, hy, hym⟩ := get_of (show k < t.bs.length by rw [← HN.out]; omega)
      have HY := Lib.hid hy
      have HYO := Lib.hid (HOK.out y hym)
      obtain ⟨b, hb, hrg⟩ := HAT.out k y hy
      subst hb
      have HRG := Lib.hid (range_away (HA.out.trans HA1.out) (by simp) hrg)
      have HB2 := Lib.hid (HB.out.on HA1.out (by simp))
      clear hrg hy hym hkn
      obtain ⟨q, hq⟩ : ∃ q, q = (decide (y.v = av) && eqL y.l al) := ⟨_, rfl⟩
      have hqe := fun w => eq32 y.v av y.l al HYO.out HL.out w
      rw [← hq] at hqe
      have HQ := Lib.hid hq
      clear hq
      have hgd := guard24
      cases q
      · have HH : Hid (hit av al p y = false) := by show _ = _; unfold hit; rw [← HQ.out]; rfl
        go_upto_region 4 with fail
        refine wp_region_held_drew (S := (fun w' => w'.cell? ⟨g, 2, none⟩ = some (.slice (some ⟨b, 0, none⟩) n lc) ∧ w'.rangeAt b (k * 19) (listD y) ∧ BoxA w' g4 av al)) (by kernel_rfl) ⟨by exact c2, by exact HRG.out, by exact HB2.out⟩ (fun hHeld => ?_)
        replace HA1 := Lib.hid (HA1.out.drew)
        clear c2
        refine wpAnyH_take (i := 0) (v := ?_) (by simp only [List.getElem?_toArray, List.getElem?_cons_zero]; rfl) (by kernel_rfl) (by kernel_rfl) (by kernel_rfl) (by exact fun _ _ _ h => h) (Or.inl ⟨by rfl, ?_⟩) (by assumption) ?_
        rotate_left
        · intro wq hSw
          (try dsimp only at hSw)
          go_simp
          all_goals (with_reducible rfl)
        try simp only [Act.put, List.setIfInBounds_toArray, List.set_cons_zero, List.set_cons_succ]
        refine wpAnyH_take (i := 1) (v := ?_) (by simp only [List.getElem?_toArray, List.getElem?_cons_succ, List.getElem?_cons_zero]; rfl) (by kernel_rfl) (by kernel_rfl) (by kernel_rfl) (by exact fun _ _ _ h => h) (Or.inl ⟨by rfl, ?_⟩) (by assumption) ?_
        rotate_left
        · intro wq hSw
          (try dsimp only at hSw)
          go_simp
          all_goals (with_reducible rfl)
        try simp only [Act.put, List.setIfInBounds_toArray, List.set_cons_zero, List.set_cons_succ]
        refine wpAnyH_take (i := 2) (v := ?_) (by simp only [List.getElem?_toArray, List.getElem?_cons_succ, List.getElem?_cons_zero]; rfl) (by kernel_rfl) (by kernel_rfl) (by kernel_rfl) (by exact fun _ _ _ h => h) (Or.inl ⟨by rfl, ?_⟩) (by assumption) ?_
        rotate_left
        · intro wq hSw
          (try dsimp only at hSw)
          go_simp
          all_goals (with_reducible rfl)
        try simp only [Act.put, List.setIfInBounds_toArray, List.set_cons_zero, List.set_cons_succ]
        refine wpAnyH_take (i := 3) (by simp only [List.getElem?_toArray, List.getElem?_cons_succ, List.getElem?_cons_zero]; rfl) (by kernel_rfl) (by kernel_rfl) (by kernel_rfl) (by exact fun _ _ _ h => h) (yields_ld (ad := ⟨g, 2, none⟩) (by rfl) _ rfl rfl (fun w' h => ldL h.1)) (by assumption) ?_
        try simp only [Act.put, List.setIfInBounds_toArray, List.set_cons_zero, List.set_cons_succ]
        refine wpAnyH_take (i := 4) (v := ?_) (by simp only [List.getElem?_toArray, List.getElem?_cons_succ, List.getElem?_cons_zero]; rfl) (by kernel_rfl) (by kernel_rfl) (by kernel_rfl) (by exact fun _ _ _ h => h) (Or.inl ⟨by rfl, ?_⟩) (by assumption) ?_
        rotate_left
        · intro wq hSw
          (try dsimp only at hSw)
          go_simp
          all_goals (with_reducible rfl)
        try simp only [Act.put, List.setIfInBounds_toArray, List.set_cons_zero, List.set_cons_succ]
        refine wpAnyH_take (i := 5) (by simp only [List.getElem?_toArray, List.getElem?_cons_succ, List.getElem?_cons_zero]; rfl) (by kernel_rfl) (by kernel_rfl) (by kernel_rfl) (by exact fun _ _ _ h => h) (KS.yields_ixE (by rfl) _ _ rfl b n lc k rfl rfl (by omega)) (by assumption) ?_
        try simp only [Act.put, List.setIfInBounds_toArray, List.set_cons_zero, List.set_cons_succ]
        refine wpAnyH_take (i := 6) (v := ?_) (by simp only [List.getElem?_toArray, List.getElem?_cons_succ, List.getElem?_cons_zero]; rfl) (by kernel_rfl) (by kernel_rfl) (by kernel_rfl) (by exact fun _ _ _ h => h) (Or.inl ⟨by rfl, ?_⟩) (by assumption) ?_
        rotate_left
        · intro wq hSw
          (try dsimp only at hSw)
          go_simp
          all_goals (with_reducible rfl)
        try simp only [Act.put, List.setIfInBounds_toArray, List.set_cons_zero, List.set_cons_succ]
        refine wpAnyH_take (i := 7) (by simp only [List.getElem?_toArray, List.getElem?_cons_succ, List.getElem?_cons_zero]; rfl) (by kernel_rfl) (by kernel_rfl) (by kernel_rfl) (by exact fun _ _ _ h => h) (yields_ld (ad := ⟨b, k * 19 + 1, none⟩) (by rfl) _ rfl rfl (fun w' h => load32m_run (range_a h.2.1 HYO.out) HYO.out)) (by assumption) ?_
        try simp only [Act.put, List.setIfInBounds_toArray, List.set_cons_zero, List.set_cons_succ]
        refine wpAnyH_take (i := 8) (by simp only [List.getElem?_toArray, List.getElem?_cons_succ, List.getElem?_cons_zero]; rfl) (by kernel_rfl) (by kernel_rfl) (by kernel_rfl) (by exact fun _ _ _ h => h) (yields_ld (ad := ⟨g4, 0, none⟩) (by rfl) _ rfl rfl (fun w' h => load32m_run h.2.2.range HL.out)) (by assumption) ?_
        try simp only [Act.put, List.setIfInBounds_toArray, List.set_cons_zero, List.set_cons_succ]
        refine wpAnyH_take (i := 9) (v := ?_) (by simp only [List.getElem?_toArray, List.getElem?_cons_succ, List.getElem?_cons_zero]; rfl) (by kernel_rfl) (by kernel_rfl) (by kernel_rfl) (by exact fun _ _ _ h => h) (Or.inl ⟨by rfl, ?_⟩) (by assumption) ?_
        rotate_left
        · intro wq hSw
          (try dsimp only at hSw)
          go_simp
          all_goals (with_reducible rfl)
        try simp only [Act.put, List.setIfInBounds_toArray, List.set_cons_zero, List.set_cons_succ]
        refine wpAnyH_take (i := 10) (v := ?_) (by simp only [List.getElem?_toArray, List.getElem?_cons_succ, List.getElem?_cons_zero]; rfl) (by kernel_rfl) (by kernel_rfl) (by kernel_rfl) (by exact fun _ _ _ h => h) (Or.inl ⟨by rfl, ?_⟩) (by assumption) ?_
        rotate_left
        · intro wq hSw
          (try dsimp only at hSw)
          go_simp
          all_goals (with_reducible rfl)
        try simp only [Act.put, List.setIfInBounds_toArray, List.set_cons_zero, List.set_cons_succ]
        refine wpAnyH_take (i := 11) (v := undef) (by simp only [List.getElem?_toArray, List.getElem?_cons_succ, List.getElem?_cons_zero]; rfl) (by kernel_rfl) (by kernel_rfl) (by kernel_rfl) (by exact fun _ _ _ h => h) (Or.inr ⟨by rfl, rfl⟩) (by assumption) ?_
        try simp only [Act.put, List.setIfInBounds_toArray, List.set_cons_zero, List.set_cons_succ]
        refine wpAnyH_take (i := 12) (v := undef) (by simp only [List.getElem?_toArray, List.getElem?_cons_succ, List.getElem?_cons_zero]; rfl) (by kernel_rfl) (by kernel_rfl) (by kernel_rfl) (by exact fun _ _ _ h => h) (Or.inr ⟨by rfl, rfl⟩) (by assumption) ?_
        try simp only [Act.put, List.setIfInBounds_toArray, List.set_cons_zero, List.set_cons_succ]
        refine wpAnyH_take (i := 13) (v := undef) (by simp only [List.getElem?_toArray, List.getElem?_cons_succ, List.getElem?_cons_zero]; rfl) (by kernel_rfl) (by kernel_rfl) (by kernel_rfl) (by exact fun _ _ _ h => h) (Or.inr ⟨by rfl, rfl⟩) (by assumption) ?_
        try simp only [Act.put, List.setIfInBounds_toArray, List.set_cons_zero, List.set_cons_succ]
        refine wpAnyH_take (i := 14) (v := undef) (by simp only [List.getElem?_toArray, List.getElem?_cons_succ, List.getElem?_cons_zero]; rfl) (by kernel_rfl) (by kernel_rfl) (by kernel_rfl) (by exact fun _ _ _ h => h) (Or.inr ⟨by rfl, rfl⟩) (by assumption) ?_
        try simp only [Act.put, List.setIfInBounds_toArray, List.set_cons_zero, List.set_cons_succ]
        refine wpAnyH_take (i := 15) (v := undef) (by simp only [List.getElem?_toArray, List.getElem?_cons_succ, List.getElem?_cons_zero]; rfl) (by kernel_rfl) (by kernel_rfl) (by kernel_rfl) (by exact fun _ _ _ h => h) (Or.inr ⟨by rfl, rfl⟩) (by assumption) ?_
        try simp only [Act.put, List.setIfInBounds_toArray, List.set_cons_zero, List.set_cons_succ]
        refine wpAnyH_take (i := 16) (v := undef) (by simp only [List.getElem?_toArray, List.getElem?_cons_succ, List.getElem?_cons_zero]; rfl) (by kernel_rfl) (by kernel_rfl) (by kernel_rfl) (by exact fun _ _ _ h => h) (Or.inr ⟨by rfl, rfl⟩) (by assumption) ?_
        try simp only [Act.put, List.setIfInBounds_toArray, List.set_cons_zero, List.set_cons_succ]
        refine wpAnyH_take (i := 17) (v := undef) (by simp only [List.getElem?_toArray, List.getElem?_cons_succ, List.getElem?_cons_zero]; rfl) (by kernel_rfl) (by kernel_rfl) (by kernel_rfl) (by exact fun _ _ _ h => h) (Or.inr ⟨by rfl, rfl⟩) (by assumption) ?_
        try simp only [Act.put, List.setIfInBounds_toArray, List.set_cons_zero, List.set_cons_succ]
        refine wpAnyH_take (i := 18) (v := undef) (by simp only [List.getElem?_toArray, List.getElem?_cons_succ, List.getElem?_cons_zero]; rfl) (by kernel_rfl) (by kernel_rfl) (by kernel_rfl) (by exact fun _ _ _ h => h) (Or.inr ⟨by rfl, rfl⟩) (by assumption) ?_
        try simp only [Act.put, List.setIfInBounds_toArray, List.set_cons_zero, List.set_cons_succ]
        refine wpAnyH_take (i := 19) (v := undef) (by simp only [List.getElem?_toArray, List.getElem?_cons_succ, List.getElem?_cons_zero]; rfl) (by kernel_rfl) (by kernel_rfl) (by kernel_rfl) (by exact fun _ _ _ h => h) (Or.inr ⟨by rfl, rfl⟩) (by assumption) ?_
        try simp only [Act.put, List.setIfInBounds_toArray, List.set_cons_zero, List.set_cons_succ]
        refine wpAnyH_take (i := 20) (v := undef) (by simp only [List.getElem?_toArray, List.getElem?_cons_succ, List.getElem?_cons_zero]; rfl) (by kernel_rfl) (by kernel_rfl) (by kernel_rfl) (by exact fun _ _ _ h => h) (Or.inr ⟨by rfl, rfl⟩) (by assumption) ?_
        try simp only [Act.put, List.setIfInBounds_toArray, List.set_cons_zero, List.set_cons_succ]
        refine wpAnyH_take (i := 21) (v := ?_) (by simp only [List.getElem?_toArray, List.getElem?_cons_succ, List.getElem?_cons_zero]; rfl) (by kernel_rfl) (by kernel_rfl) (by kernel_rfl) (by exact fun _ _ _ h => h) (Or.inl ⟨by rfl, ?_⟩) (by assumption) ?_
        rotate_left
        · intro wq hSw
          (try dsimp only at hSw)
          go_simp
          all_goals (with_reducible rfl)
        try simp only [Act.put, List.setIfInBounds_toArray, List.set_cons_zero, List.set_cons_succ]
        clear hHeld
        refine wpAnyH_done (by kernel_rfl) ?_ _
        go_wp2_with fail
        go_roundw
        case rel => exact ⟨k + 1, by go_num, by omega, HA1.out, fun j z hj hz => by
          rcases Nat.lt_or_ge j k with h1 | h1
          · exact HNO.out j z h1 hz
          · rw [show j = k from by omega, HY.out] at hz
            simp only [Option.some.injEq] at hz
            rw [← hz]; exact HH.out⟩
        case measure => simp [intOf]; omega
      · by_cases hp : y.p = p
        · have HH : Hid (hit av al p y = true) := by show _ = _; unfold hit; rw [← HQ.out, hp]; simp
          have hpe : (y.p == p) = true := by simpa using hp
          have HANS : Hid (ans = (k : Int)) := by
            show _ = _
            rw [HJ.out, idx_some HY.out HH.out HNO.out]; rfl
          clear hp
          go_upto_region 4 with fail
          refine wp_region_held_drew (S := (fun w' => w'.cell? ⟨g, 2, none⟩ = some (.slice (some ⟨b, 0, none⟩) n lc) ∧ w'.rangeAt b (k * 19) (listD y) ∧ BoxA w' g4 av al)) (by kernel_rfl) ⟨by exact c2, by exact HRG.out, by exact HB2.out⟩ (fun hHeld => ?_)
          replace HA1 := Lib.hid (HA1.out.drew)
          clear c2
          refine wpAnyH_take (i := 0) (v := ?_) (by simp only [List.getElem?_toArray, List.getElem?_cons_zero]; rfl) (by kernel_rfl) (by kernel_rfl) (by kernel_rfl) (by exact fun _ _ _ h => h) (Or.inl ⟨by rfl, ?_⟩) (by assumption) ?_
          rotate_left
          · intro wq hSw
            (try dsimp only at hSw)
            go_simp
            all_goals (with_reducible rfl)
          try simp only [Act.put, List.setIfInBounds_toArray, List.set_cons_zero, List.set_cons_succ]
          refine wpAnyH_take (i := 1) (v := ?_) (by simp only [List.getElem?_toArray, List.getElem?_cons_succ, List.getElem?_cons_zero]; rfl) (by kernel_rfl) (by kernel_rfl) (by kernel_rfl) (by exact fun _ _ _ h => h) (Or.inl ⟨by rfl, ?_⟩) (by assumption) ?_
          rotate_left
          · intro wq hSw
            (try dsimp only at hSw)
            go_simp
            all_goals (with_reducible rfl)
          try simp only [Act.put, List.setIfInBounds_toArray, List.set_cons_zero, List.set_cons_succ]
          refine wpAnyH_take (i := 2) (v := ?_) (by simp only [List.getElem?_toArray, List.getElem?_cons_succ, List.getElem?_cons_zero]; rfl) (by kernel_rfl) (by kernel_rfl) (by kernel_rfl) (by exact fun _ _ _ h => h) (Or.inl ⟨by rfl, ?_⟩) (by assumption) ?_
          rotate_left
          · intro wq hSw
            (try dsimp only at hSw)
            go_simp
            all_goals (with_reducible rfl)
          try simp only [Act.put, List.setIfInBounds_toArray, List.set_cons_zero, List.set_cons_succ]
          refine wpAnyH_take (i := 3) (by simp only [List.getElem?_toArray, List.getElem?_cons_succ, List.getElem?_cons_zero]; rfl) (by kernel_rfl) (by kernel_rfl) (by kernel_rfl) (by exact fun _ _ _ h => h) (yields_ld (ad := ⟨g, 2, none⟩) (by rfl) _ rfl rfl (fun w' h => ldL h.1)) (by assumption) ?_
          try simp only [Act.put, List.setIfInBounds_toArray, List.set_cons_zero, List.set_cons_succ]
          refine wpAnyH_take (i := 4) (v := ?_) (by simp only [List.getElem?_toArray, List.getElem?_cons_succ, List.getElem?_cons_zero]; rfl) (by kernel_rfl) (by kernel_rfl) (by kernel_rfl) (by exact fun _ _ _ h => h) (Or.inl ⟨by rfl, ?_⟩) (by assumption) ?_
          rotate_left
          · intro wq hSw
            (try dsimp only at hSw)
            go_simp
            all_goals (with_reducible rfl)
          try simp only [Act.put, List.setIfInBounds_toArray, List.set_cons_zero, List.set_cons_succ]
          refine wpAnyH_take (i := 5) (by simp only [List.getElem?_toArray, List.getElem?_cons_succ, List.getElem?_cons_zero]; rfl) (by kernel_rfl) (by kernel_rfl) (by kernel_rfl) (by exact fun _ _ _ h => h) (KS.yields_ixE (by rfl) _ _ rfl b n lc k rfl rfl (by omega)) (by assumption) ?_
          try simp only [Act.put, List.setIfInBounds_toArray, List.set_cons_zero, List.set_cons_succ]
          refine wpAnyH_take (i := 6) (v := ?_) (by simp only [List.getElem?_toArray, List.getElem?_cons_succ, List.getElem?_cons_zero]; rfl) (by kernel_rfl) (by kernel_rfl) (by kernel_rfl) (by exact fun _ _ _ h => h) (Or.inl ⟨by rfl, ?_⟩) (by assumption) ?_
          rotate_left
          · intro wq hSw
            (try dsimp only at hSw)
            go_simp
            all_goals (with_reducible rfl)
          try simp only [Act.put, List.setIfInBounds_toArray, List.set_cons_zero, List.set_cons_succ]
          refine wpAnyH_take (i := 7) (by simp only [List.getElem?_toArray, List.getElem?_cons_succ, List.getElem?_cons_zero]; rfl) (by kernel_rfl) (by kernel_rfl) (by kernel_rfl) (by exact fun _ _ _ h => h) (yields_ld (ad := ⟨b, k * 19 + 1, none⟩) (by rfl) _ rfl rfl (fun w' h => load32m_run (range_a h.2.1 HYO.out) HYO.out)) (by assumption) ?_
          try simp only [Act.put, List.setIfInBounds_toArray, List.set_cons_zero, List.set_cons_succ]
          refine wpAnyH_take (i := 8) (by simp only [List.getElem?_toArray, List.getElem?_cons_succ, List.getElem?_cons_zero]; rfl) (by kernel_rfl) (by kernel_rfl) (by kernel_rfl) (by exact fun _ _ _ h => h) (yields_ld (ad := ⟨g4, 0, none⟩) (by rfl) _ rfl rfl (fun w' h => load32m_run h.2.2.range HL.out)) (by assumption) ?_
          try simp only [Act.put, List.setIfInBounds_toArray, List.set_cons_zero, List.set_cons_succ]
          refine wpAnyH_take (i := 9) (v := ?_) (by simp only [List.getElem?_toArray, List.getElem?_cons_succ, List.getElem?_cons_zero]; rfl) (by kernel_rfl) (by kernel_rfl) (by kernel_rfl) (by exact fun _ _ _ h => h) (Or.inl ⟨by rfl, ?_⟩) (by assumption) ?_
          rotate_left
          · intro wq hSw
            (try dsimp only at hSw)
            go_simp
            all_goals (with_reducible rfl)
          try simp only [Act.put, List.setIfInBounds_toArray, List.set_cons_zero, List.set_cons_succ]
          refine wpAnyH_take (i := 10) (v := ?_) (by simp only [List.getElem?_toArray, List.getElem?_cons_succ, List.getElem?_cons_zero]; rfl) (by kernel_rfl) (by kernel_rfl) (by kernel_rfl) (by exact fun _ _ _ h => h) (Or.inl ⟨by rfl, ?_⟩) (by assumption) ?_
          rotate_left
          · intro wq hSw
            (try dsimp only at hSw)
            go_simp
            all_goals (with_reducible rfl)
          try simp only [Act.put, List.setIfInBounds_toArray, List.set_cons_zero, List.set_cons_succ]
          refine wpAnyH_take (i := 11) (v := ?_) (by simp only [List.getElem?_toArray, List.getElem?_cons_succ, List.getElem?_cons_zero]; rfl) (by kernel_rfl) (by kernel_rfl) (by kernel_rfl) (by exact fun _ _ _ h => h) (Or.inl ⟨by rfl, ?_⟩) (by assumption) ?_
          rotate_left
          · intro wq hSw
            (try dsimp only at hSw)
            go_simp
            all_goals (with_reducible rfl)
          try simp only [Act.put, List.setIfInBounds_toArray, List.set_cons_zero, List.set_cons_succ]
          refine wpAnyH_take (i := 12) (v := ?_) (by simp only [List.getElem?_toArray, List.getElem?_cons_succ, List.getElem?_cons_zero]; rfl) (by kernel_rfl) (by kernel_rfl) (by kernel_rfl) (by exact fun _ _ _ h => h) (Or.inl ⟨by rfl, ?_⟩) (by assumption) ?_
          rotate_left
          · intro wq hSw
            (try dsimp only at hSw)
            go_simp
            all_goals (with_reducible rfl)
          try simp only [Act.put, List.setIfInBounds_toArray, List.set_cons_zero, List.set_cons_succ]
          refine wpAnyH_take (i := 13) (v := ?_) (by simp only [List.getElem?_toArray, List.getElem?_cons_succ, List.getElem?_cons_zero]; rfl) (by kernel_rfl) (by kernel_rfl) (by kernel_rfl) (by exact fun _ _ _ h => h) (Or.inl ⟨by rfl, ?_⟩) (by assumption) ?_
          rotate_left
          · intro wq hSw
            (try dsimp only at hSw)
            go_simp
            all_goals (with_reducible rfl)
          try simp only [Act.put, List.setIfInBounds_toArray, List.set_cons_zero, List.set_cons_succ]
          refine wpAnyH_take (i := 14) (by simp only [List.getElem?_toArray, List.getElem?_cons_succ, List.getElem?_cons_zero]; rfl) (by kernel_rfl) (by kernel_rfl) (by kernel_rfl) (by exact fun _ _ _ h => h) (yields_ld (ad := ⟨g, 2, none⟩) (by rfl) _ rfl rfl (fun w' h => ldL h.1)) (by assumption) ?_
          try simp only [Act.put, List.setIfInBounds_toArray, List.set_cons_zero, List.set_cons_succ]
          refine wpAnyH_take (i := 15) (v := ?_) (by simp only [List.getElem?_toArray, List.getElem?_cons_succ, List.getElem?_cons_zero]; rfl) (by kernel_rfl) (by kernel_rfl) (by kernel_rfl) (by exact fun _ _ _ h => h) (Or.inl ⟨by rfl, ?_⟩) (by assumption) ?_
          rotate_left
          · intro wq hSw
            (try dsimp only at hSw)
            go_simp
            all_goals (with_reducible rfl)
          try simp only [Act.put, List.setIfInBounds_toArray, List.set_cons_zero, List.set_cons_succ]
          refine wpAnyH_take (i := 16) (by simp only [List.getElem?_toArray, List.getElem?_cons_succ, List.getElem?_cons_zero]; rfl) (by kernel_rfl) (by kernel_rfl) (by kernel_rfl) (by exact fun _ _ _ h => h) (KS.yields_ixE (by rfl) _ _ rfl b n lc k rfl rfl (by omega)) (by assumption) ?_
          try simp only [Act.put, List.setIfInBounds_toArray, List.set_cons_zero, List.set_cons_succ]
          refine wpAnyH_take (i := 17) (v := ?_) (by simp only [List.getElem?_toArray, List.getElem?_cons_succ, List.getElem?_cons_zero]; rfl) (by kernel_rfl) (by kernel_rfl) (by kernel_rfl) (by exact fun _ _ _ h => h) (Or.inl ⟨by rfl, ?_⟩) (by assumption) ?_
          rotate_left
          · intro wq hSw
            (try dsimp only at hSw)
            go_simp
            all_goals (with_reducible rfl)
          try simp only [Act.put, List.setIfInBounds_toArray, List.set_cons_zero, List.set_cons_succ]
          refine wpAnyH_take (i := 18) (by simp only [List.getElem?_toArray, List.getElem?_cons_succ, List.getElem?_cons_zero]; rfl) (by kernel_rfl) (by kernel_rfl) (by kernel_rfl) (by exact fun _ _ _ h => h) (yields_ld (ad := ⟨b, k * 19 + 18, none⟩) (by rfl) _ rfl rfl (fun w' h => ld3 (range_p h.2.1 HYO.out))) (by assumption) ?_
          try simp only [Act.put, List.setIfInBounds_toArray, List.set_cons_zero, List.set_cons_succ]
          refine wpAnyH_take (i := 19) (v := ?_) (by simp only [List.getElem?_toArray, List.getElem?_cons_succ, List.getElem?_cons_zero]; rfl) (by kernel_rfl) (by kernel_rfl) (by kernel_rfl) (by exact fun _ _ _ h => h) (Or.inl ⟨by rfl, ?_⟩) (by assumption) ?_
          rotate_left
          · intro wq hSw
            (try dsimp only at hSw)
            go_simp
            all_goals (with_reducible rfl)
          try simp only [Act.put, List.setIfInBounds_toArray, List.set_cons_zero, List.set_cons_succ]
          refine wpAnyH_take (i := 20) (v := ?_) (by simp only [List.getElem?_toArray, List.getElem?_cons_succ, List.getElem?_cons_zero]; rfl) (by kernel_rfl) (by kernel_rfl) (by kernel_rfl) (by exact fun _ _ _ h => h) (Or.inl ⟨by rfl, ?_⟩) (by assumption) ?_
          rotate_left
          · intro wq hSw
            (try dsimp only at hSw)
            go_simp
            all_goals (with_reducible rfl)
          try simp only [Act.put, List.setIfInBounds_toArray, List.set_cons_zero, List.set_cons_succ]
          refine wpAnyH_take (i := 21) (v := ?_) (by simp only [List.getElem?_toArray, List.getElem?_cons_succ, List.getElem?_cons_zero]; rfl) (by kernel_rfl) (by kernel_rfl) (by kernel_rfl) (by exact fun _ _ _ h => h) (Or.inl ⟨by rfl, ?_⟩) (by assumption) ?_
          rotate_left
          · intro wq hSw
            (try dsimp only at hSw)
            go_simp
            all_goals (with_reducible rfl)
          try simp only [Act.put, List.setIfInBounds_toArray, List.set_cons_zero, List.set_cons_succ]
          clear hHeld
          refine wpAnyH_done (by kernel_rfl) ?_ _
          go_wp2_with fail
          go_ret
          exact ⟨ret_int HANS.out.symm, HA.out.trans HA1.out⟩
        · have HH : Hid (hit av al p y = false) := by show _ = _; unfold hit; rw [← HQ.out]; simpa using hp
          have hpe : (y.p == p) = false := by simpa using hp
          clear hp
          go_upto_region 4 with fail
          refine wp_region_held_drew (S := (fun w' => w'.cell? ⟨g, 2, none⟩ = some (.slice (some ⟨b, 0, none⟩) n lc) ∧ w'.rangeAt b (k * 19) (listD y) ∧ BoxA w' g4 av al)) (by kernel_rfl) ⟨by exact c2, by exact HRG.out, by exact HB2.out⟩ (fun hHeld => ?_)
          replace HA1 := Lib.hid (HA1.out.drew)
          clear c2
          refine wpAnyH_take (i := 0) (v := ?_) (by simp only [List.getElem?_toArray, List.getElem?_cons_zero]; rfl) (by kernel_rfl) (by kernel_rfl) (by kernel_rfl) (by exact fun _ _ _ h => h) (Or.inl ⟨by rfl, ?_⟩) (by assumption) ?_
          rotate_left
          · intro wq hSw
            (try dsimp only at hSw)
            go_simp
            all_goals (with_reducible rfl)
          try simp only [Act.put, List.setIfInBounds_toArray, List.set_cons_zero, List.set_cons_succ]
          refine wpAnyH_take (i := 1) (v := ?_) (by simp only [List.getElem?_toArray, List.getElem?_cons_succ, List.getElem?_cons_zero]; rfl) (by kernel_rfl) (by kernel_rfl) (by kernel_rfl) (by exact fun _ _ _ h => h) (Or.inl ⟨by rfl, ?_⟩) (by assumption) ?_
          rotate_left
          · intro wq hSw
            (try dsimp only at hSw)
            go_simp
            all_goals (with_reducible rfl)
          try simp only [Act.put, List.setIfInBounds_toArray, List.set_cons_zero, List.set_cons_succ]
          refine wpAnyH_take (i := 2) (v := ?_) (by simp only [List.getElem?_toArray, List.getElem?_cons_succ, List.getElem?_cons_zero]; rfl) (by kernel_rfl) (by kernel_rfl) (by kernel_rfl) (by exact fun _ _ _ h => h) (Or.inl ⟨by rfl, ?_⟩) (by assumption) ?_
          rotate_left
          · intro wq hSw
            (try dsimp only at hSw)
            go_simp
            all_goals (with_reducible rfl)
          try simp only [Act.put, List.setIfInBounds_toArray, List.set_cons_zero, List.set_cons_succ]
          refine wpAnyH_take (i := 3) (by simp only [List.getElem?_toArray, List.getElem?_cons_succ, List.getElem?_cons_zero]; rfl) (by kernel_rfl) (by kernel_rfl) (by kernel_rfl) (by exact fun _ _ _ h => h) (yields_ld (ad := ⟨g, 2, none⟩) (by rfl) _ rfl rfl (fun w' h => ldL h.1)) (by assumption) ?_
          try simp only [Act.put, List.setIfInBounds_toArray, List.set_cons_zero, List.set_cons_succ]
          refine wpAnyH_take (i := 4) (v := ?_) (by simp only [List.getElem?_toArray, List.getElem?_cons_succ, List.getElem?_cons_zero]; rfl) (by kernel_rfl) (by kernel_rfl) (by kernel_rfl) (by exact fun _ _ _ h => h) (Or.inl ⟨by rfl, ?_⟩) (by assumption) ?_
          rotate_left
          · intro wq hSw
            (try dsimp only at hSw)
            go_simp
            all_goals (with_reducible rfl)
          try simp only [Act.put, List.setIfInBounds_toArray, List.set_cons_zero, List.set_cons_succ]
          refine wpAnyH_take (i := 5) (by simp only [List.getElem?_toArray, List.getElem?_cons_succ, List.getElem?_cons_zero]; rfl) (by kernel_rfl) (by kernel_rfl) (by kernel_rfl) (by exact fun _ _ _ h => h) (KS.yields_ixE (by rfl) _ _ rfl b n lc k rfl rfl (by omega)) (by assumption) ?_
          try simp only [Act.put, List.setIfInBounds_toArray, List.set_cons_zero, List.set_cons_succ]
          refine wpAnyH_take (i := 6) (v := ?_) (by simp only [List.getElem?_toArray, List.getElem?_cons_succ, List.getElem?_cons_zero]; rfl) (by kernel_rfl) (by kernel_rfl) (by kernel_rfl) (by exact fun _ _ _ h => h) (Or.inl ⟨by rfl, ?_⟩) (by assumption) ?_
          rotate_left
          · intro wq hSw
            (try dsimp only at hSw)
            go_simp
            all_goals (with_reducible rfl)
          try simp only [Act.put, List.setIfInBounds_toArray, List.set_cons_zero, List.set_cons_succ]
          refine wpAnyH_take (i := 7) (by simp only [List.getElem?_toArray, List.getElem?_cons_succ, List.getElem?_cons_zero]; rfl) (by kernel_rfl) (by kernel_rfl) (by kernel_rfl) (by exact fun _ _ _ h => h) (yields_ld (ad := ⟨b, k * 19 + 1, none⟩) (by rfl) _ rfl rfl (fun w' h => load32m_run (range_a h.2.1 HYO.out) HYO.out)) (by assumption) ?_
          try simp only [Act.put, List.setIfInBounds_toArray, List.set_cons_zero, List.set_cons_succ]
          refine wpAnyH_take (i := 8) (by simp only [List.getElem?_toArray, List.getElem?_cons_succ, List.getElem?_cons_zero]; rfl) (by kernel_rfl) (by kernel_rfl) (by kernel_rfl) (by exact fun _ _ _ h => h) (yields_ld (ad := ⟨g4, 0, none⟩) (by rfl) _ rfl rfl (fun w' h => load32m_run h.2.2.range HL.out)) (by assumption) ?_
          try simp only [Act.put, List.setIfInBounds_toArray, List.set_cons_zero, List.set_cons_succ]
          refine wpAnyH_take (i := 9) (v := ?_) (by simp only [List.getElem?_toArray, List.getElem?_cons_succ, List.getElem?_cons_zero]; rfl) (by kernel_rfl) (by kernel_rfl) (by kernel_rfl) (by exact fun _ _ _ h => h) (Or.inl ⟨by rfl, ?_⟩) (by assumption) ?_
          rotate_left
          · intro wq hSw
            (try dsimp only at hSw)
            go_simp
            all_goals (with_reducible rfl)
          try simp only [Act.put, List.setIfInBounds_toArray, List.set_cons_zero, List.set_cons_succ]
          refine wpAnyH_take (i := 10) (v := ?_) (by simp only [List.getElem?_toArray, List.getElem?_cons_succ, List.getElem?_cons_zero]; rfl) (by kernel_rfl) (by kernel_rfl) (by kernel_rfl) (by exact fun _ _ _ h => h) (Or.inl ⟨by rfl, ?_⟩) (by assumption) ?_
          rotate_left
          · intro wq hSw
            (try dsimp only at hSw)
            go_simp
            all_goals (with_reducible rfl)
          try simp only [Act.put, List.setIfInBounds_toArray, List.set_cons_zero, List.set_cons_succ]
          refine wpAnyH_take (i := 11) (v := ?_) (by simp only [List.getElem?_toArray, List.getElem?_cons_succ, List.getElem?_cons_zero]; rfl) (by kernel_rfl) (by kernel_rfl) (by kernel_rfl) (by exact fun _ _ _ h => h) (Or.inl ⟨by rfl, ?_⟩) (by assumption) ?_
          rotate_left
          · intro wq hSw
            (try dsimp only at hSw)
            go_simp
            all_goals (with_reducible rfl)
          try simp only [Act.put, List.setIfInBounds_toArray, List.set_cons_zero, List.set_cons_succ]
          refine wpAnyH_take (i := 12) (v := ?_) (by simp only [List.getElem?_toArray, List.getElem?_cons_succ, List.getElem?_cons_zero]; rfl) (by kernel_rfl) (by kernel_rfl) (by kernel_rfl) (by exact fun _ _ _ h => h) (Or.inl ⟨by rfl, ?_⟩) (by assumption) ?_
          rotate_left
          · intro wq hSw
            (try dsimp only at hSw)
            go_simp
            all_goals (with_reducible rfl)
          try simp only [Act.put, List.setIfInBounds_toArray, List.set_cons_zero, List.set_cons_succ]
          refine wpAnyH_take (i := 13) (v := ?_) (by simp only [List.getElem?_toArray, List.getElem?_cons_succ, List.getElem?_cons_zero]; rfl) (by kernel_rfl) (by kernel_rfl) (by kernel_rfl) (by exact fun _ _ _ h => h) (Or.inl ⟨by rfl, ?_⟩) (by assumption) ?_
          rotate_left
          · intro wq hSw
            (try dsimp only at hSw)
            go_simp
            all_goals (with_reducible rfl)
          try simp only [Act.put, List.setIfInBounds_toArray, List.set_cons_zero, List.set_cons_succ]
          refine wpAnyH_take (i := 14) (by simp only [List.getElem?_toArray, List.getElem?_cons_succ, List.getElem?_cons_zero]; rfl) (by kernel_rfl) (by kernel_rfl) (by kernel_rfl) (by exact fun _ _ _ h => h) (yields_ld (ad := ⟨g, 2, none⟩) (by rfl) _ rfl rfl (fun w' h => ldL h.1)) (by assumption) ?_
          try simp only [Act.put, List.setIfInBounds_toArray, List.set_cons_zero, List.set_cons_succ]
          refine wpAnyH_take (i := 15) (v := ?_) (by simp only [List.getElem?_toArray, List.getElem?_cons_succ, List.getElem?_cons_zero]; rfl) (by kernel_rfl) (by kernel_rfl) (by kernel_rfl) (by exact fun _ _ _ h => h) (Or.inl ⟨by rfl, ?_⟩) (by assumption) ?_
          rotate_left
          · intro wq hSw
            (try dsimp only at hSw)
            go_simp
            all_goals (with_reducible rfl)
          try simp only [Act.put, List.setIfInBounds_toArray, List.set_cons_zero, List.set_cons_succ]
          refine wpAnyH_take (i := 16) (by simp only [List.getElem?_toArray, List.getElem?_cons_succ, List.getElem?_cons_zero]; rfl) (by kernel_rfl) (by kernel_rfl) (by kernel_rfl) (by exact fun _ _ _ h => h) (KS.yields_ixE (by rfl) _ _ rfl b n lc k rfl rfl (by omega)) (by assumption) ?_
          try simp only [Act.put, List.setIfInBounds_toArray, List.set_cons_zero, List.set_cons_succ]
          refine wpAnyH_take (i := 17) (v := ?_) (by simp only [List.getElem?_toArray, List.getElem?_cons_succ, List.getElem?_cons_zero]; rfl) (by kernel_rfl) (by kernel_rfl) (by kernel_rfl) (by exact fun _ _ _ h => h) (Or.inl ⟨by rfl, ?_⟩) (by assumption) ?_
          rotate_left
          · intro wq hSw
            (try dsimp only at hSw)
            go_simp
            all_goals (with_reducible rfl)
          try simp only [Act.put, List.setIfInBounds_toArray, List.set_cons_zero, List.set_cons_succ]
          refine wpAnyH_take (i := 18) (by simp only [List.getElem?_toArray, List.getElem?_cons_succ, List.getElem?_cons_zero]; rfl) (by kernel_rfl) (by kernel_rfl) (by kernel_rfl) (by exact fun _ _ _ h => h) (yields_ld (ad := ⟨b, k * 19 + 18, none⟩) (by rfl) _ rfl rfl (fun w' h => ld3 (range_p h.2.1 HYO.out))) (by assumption) ?_
          try simp only [Act.put, List.setIfInBounds_toArray, List.set_cons_zero, List.set_cons_succ]
          refine wpAnyH_take (i := 19) (v := ?_) (by simp only [List.getElem?_toArray, List.getElem?_cons_succ, List.getElem?_cons_zero]; rfl) (by kernel_rfl) (by kernel_rfl) (by kernel_rfl) (by exact fun _ _ _ h => h) (Or.inl ⟨by rfl, ?_⟩) (by assumption) ?_
          rotate_left
          · intro wq hSw
            (try dsimp only at hSw)
            go_simp
            all_goals (with_reducible rfl)
          try simp only [Act.put, List.setIfInBounds_toArray, List.set_cons_zero, List.set_cons_succ]
          refine wpAnyH_take (i := 20) (v := ?_) (by simp only [List.getElem?_toArray, List.getElem?_cons_succ, List.getElem?_cons_zero]; rfl) (by kernel_rfl) (by kernel_rfl) (by kernel_rfl) (by exact fun _ _ _ h => h) (Or.inl ⟨by rfl, ?_⟩) (by assumption) ?_
          rotate_left
          · intro wq hSw
            (try dsimp only at hSw)
            go_simp
            all_goals (with_reducible rfl)
          try simp only [Act.put, List.setIfInBounds_toArray, List.set_cons_zero, List.set_cons_succ]
          refine wpAnyH_take (i := 21) (v := ?_) (by simp only [List.getElem?_toArray, List.getElem?_cons_succ, List.getElem?_cons_zero]; rfl) (by kernel_rfl) (by kernel_rfl) (by kernel_rfl) (by exact fun _ _ _ h => h) (Or.inl ⟨by rfl, ?_⟩) (by assumption) ?_
          rotate_left
          · intro wq hSw
            (try dsimp only at hSw)
            go_simp
            all_goals (with_reducible rfl)
          try simp only [Act.put, List.setIfInBounds_toArray, List.set_cons_zero, List.set_cons_succ]
          clear hHeld
          refine wpAnyH_done (by kernel_rfl) ?_ _
          go_wp2_with fail
          go_roundw
          case rel => exact ⟨k + 1, by go_num, by omega, HA1.out, fun j z hj hz => by
            rcases Nat.lt_or_ge j k with h1 | h1
            · exact HNO.out j z h1 hz
            · rw [show j = k from by omega, HY.out] at hz
              simp only [Option.some.injEq] at hz
              rw [← hz]; exact HH.out⟩
          case measure => simp [intOf]; omega
    · have j1 : decide (k < n) = false := by simp; omega
      have HANS : Hid (ans = -1) := by
        show _ = _
        rw [HJ.out, idx_none (fun j z hz => HNO.out j z (by have := (List.getElem?_eq_some_iff.1 hz).1; rw [← HN.out] at this; omega) hz)]; rfl
      clear hkn
      go_wp2_with fail
      go_ret
      exact ⟨ret_int HANS.out.symm, HA.out.trans HA1.out⟩
set_option maxHeartbeats 8000000 in
theorem rplace_c {w : World} {g : Nat} {v : Value} {t : Tb} (h : Tm w g v t) (s : Int) :
    Calls Try.prog 39 #[.pointer (some ⟨g, 0, none⟩), .int .i64 s] w fun E w' => E = .returned (.int .i64 (plc (idxP (isN s) t.bs))) ∧ Away [] w w' := by
  have H := Lib.hid h
  obtain ⟨la, lc, rfl, hat⟩ := h.shape
  have HAT := Lib.hid hat
  obtain ⟨n, hn⟩ : ∃ n, n = t.bs.length := ⟨_, rfl⟩
  have hn32 : n ≤ 32 := by have := h.wf.le; omega
  have HOK := Lib.hid h.wf.okd
  rw [← hn] at H
  have HN := Lib.hid hn
  obtain ⟨ans, hans⟩ : ∃ z, z = plc (idxP (isN s) t.bs) := ⟨_, rfl⟩
  rw [← hans]
  have HJ := Lib.hid hans
  clear h hat hn hans
  go_enter Try.func39, Try.ntmps39
  go_wp2_with fail
  go_loopw [5] (fun i wr => ∃ k : Nat, i = .int .i64 (k : Int) ∧ k ≤ n ∧ Away [] w wr ∧ ∀ (j : Nat) (z : Bd), j < k → t.bs[j]? = some z → isN s z = false) (fun i _ => n - (intOf i).toNat)
  case atStart => exact ⟨0, rfl, Nat.zero_le _, Away.refl _ _, fun j z hj => by omega⟩
  case round =>
    obtain ⟨k, rfl, hk, haw, hno⟩ := hrel
    have HA1 := Lib.hid haw
    have HNO := Lib.hid hno
    have c2 := haw.cell (by simp) H.out.c2
    clear haw hno
    by_cases hkn : k < n
    · have j1 : decide (k < n) = true := by simp; omega
      have j0 : (k : Int) < (n : Int) := by omega
      have j2 : 0 ≤ (k : Int) := by omega
      have j3 : ((k : Int)).toNat = k := by omega
      obtain ⟨y, hy, hym⟩ := get_of (show k < t.bs.length by rw [← HN.out]; omega)
      have HY := Lib.hid hy
      obtain ⟨b, hb, hrg⟩ := HAT.out k y hy
      subst hb
      have c0 := range_n (range_away HA1.out (by simp) hrg)
      clear hrg hy hym hkn
      by_cases hs : y.n = s
      · have HH : Hid (isN s y = true) := by show _ = _; simp [isN, hs]
        have e0 : (y.n == s) = true := by simpa using hs
        have HANS : Hid (ans = (k : Int)) := by
          show _ = _
          rw [HJ.out, idx_some HY.out HH.out HNO.out]; rfl
        clear hs
        go_wp2_with fail
        go_ret
        exact ⟨ret_int HANS.out.symm, HA1.out⟩
      · have HH : Hid (isN s y = false) := by show _ = _; simp [isN, hs]
        have e0 : (y.n == s) = false := by simpa using hs
        clear hs
        go_wp2_with fail
        go_roundw
        case rel => exact ⟨k + 1, by go_num, by omega, HA1.out, fun j z hj hz => by
          rcases Nat.lt_or_ge j k with h1 | h1
          · exact HNO.out j z h1 hz
          · rw [show j = k from by omega, HY.out] at hz
            simp only [Option.some.injEq] at hz
            rw [← hz]; exact HH.out⟩
        case measure => simp [intOf]; omega
    · have j1 : decide (k < n) = false := by simp; omega
      have HANS : Hid (ans = -1) := by
        show _ = _
        rw [HJ.out, idx_none (fun j z hz => HNO.out j z (by have := (List.getElem?_eq_some_iff.1 hz).1; rw [← HN.out] at this; omega) hz)]; rfl
      clear hkn
      go_wp2_with fail
      go_ret
      exact ⟨ret_int HANS.out.symm, HA1.out⟩
set_option maxHeartbeats 8000000 in
theorem rall_c {w : World} {g : Nat} {v : Value} {t : Tb} (h : Tm w g v t) :
    Calls Try.prog 34 #[.pointer (some ⟨g, 0, none⟩)] w fun E w' => ∃ r, E = .returned r ∧ LI w' r (t.bs.map (·.n)) ∧ New w.heap.size r ∧ Away [] w w' := by
  have H := Lib.hid h
  obtain ⟨la, lc, rfl, hat⟩ := h.shape
  have HAT := Lib.hid hat
  obtain ⟨n, hn⟩ : ∃ n, n = t.bs.length := ⟨_, rfl⟩
  have hn32 : n ≤ 32 := by have := h.wf.le; omega
  have HOK := Lib.hid h.wf.okd
  rw [← hn] at H
  have HN := Lib.hid hn
  clear h hat hn
  go_enter Try.func34, Try.ntmps34
  go_wp2_with fail
  go_loopw [3, 4] (fun r i wr => ∃ k : Nat, i = .int .i64 (k : Int) ∧ k ≤ n ∧ Away [] w wr ∧ LI wr r ((t.bs.take k).map (·.n)) ∧ New w.heap.size r) (fun _ i _ => n - (intOf i).toNat)
  case atStart => exact ⟨0, rfl, Nat.zero_le _, Away.refl _ _, LI.nil _, New.nil _⟩
  case round =>
    obtain ⟨k, rfl, hk, haw, hli, hnw⟩ := hrel
    have HA1 := Lib.hid haw
    have HLI := Lib.hid hli
    have HNW := Lib.hid hnw
    have c2 := haw.cell (by simp) H.out.c2
    clear haw hli hnw
    by_cases hkn : k < n
    · have j1 : decide (k < n) = true := by simp; omega
      have j0 : (k : Int) < (n : Int) := by omega
      have j2 : 0 ≤ (k : Int) := by omega
      have j3 : ((k : Int)).toNat = k := by omega
      obtain ⟨y, hy, hym⟩ := get_of (show k < t.bs.length by rw [← HN.out]; omega)
      have HTK : Hid ((t.bs.take (k + 1)).map (·.n) = (t.bs.take k).map (·.n) ++ [y.n]) := by
        show _ = _
        rw [List.take_add_one, hy]; simp
      obtain ⟨b, hb, hrg⟩ := HAT.out k y hy
      subst hb
      have c0 := range_n (range_away HA1.out (by simp) hrg)
      have hlen : ((t.bs.take k).map (·.n)).length = k := by rw [List.length_map, List.length_take, ← HN.out]; omega
      clear hrg hy hym hkn
      have hac := (Away.refl [] wr).alloc (.cells #[.int .i64 y.n] 3)
      replace HLI := Lib.hid (HLI.out.on hac)
      have HNC : Hid (∀ (j : Nat) (x : Int), [y.n][j]? = some x → (wr.alloc (.cells #[.int .i64 y.n] 3)).cell? ((⟨wr.heap.size, 0, none⟩ : Addr).add j) = some (.int .i64 x)) := fun j x hj => by
        rw [new_cells]
        rcases j with _ | j
        · simp at hj; simp [hj]
        · simp at hj
      replace HA1 := Lib.hid (HA1.out.trans hac)
      clear hac
      go_wp2_with (at_builtin; refine wpList_appI rfl _ _ rfl u3 _ rfl (by exact HLI.out) ⟨wr.heap.size, 0, none⟩ 1 1 rfl [y.n] rfl (by exact HNC.out) (by rw [hlen]; omega) ?_; refine Hid.out ?_)
      refine Lib.hid ?_
      intro v' w4 hl hgr hmv
      have HA3 := Lib.hid (HA1.out.step hgr HNW.out)
      have HNW2 : Hid (New w.heap.size v') := HNW.out.moved hmv HA1.out.size
      have hl : LI w4 v' ((t.bs.take (k + 1)).map (·.n)) := by rw [HTK.out, List.map_take]; exact hl
      have HL := Lib.hid hl
      clear hl hgr hmv HNW HLI HNC c2 c0 HA1
      go_wp2_with fail
      go_roundw
      case rel => exact ⟨k + 1, by go_num, by omega, HA3.out, HL.out, HNW2.out⟩
      case measure => simp [intOf]; omega
    · have j1 : decide (k < n) = false := by simp; omega
      have hkk : k = t.bs.length := by rw [← HN.out]; omega
      rw [hkk, List.take_length] at HLI
      clear hkn hkk
      go_wp2_with fail
      go_ret
      exact ⟨_, rfl, HLI.out, HNW.out, HA1.out⟩
theorem findP_eq {t : Tb} (h : WfT t) (av : Int) (al : List Int) (p : Int) : findP t.bs av al p = match idxP (hit av al p) t.bs with
    | some i => numAt t.bs (some i)
    | none => numAt t.bs (idxP (hit av z16 p) t.bs) := by
  unfold findP
  cases hi : idxP (hit av al p) t.bs with
  | none => rw [if_pos (justP_none hi)]; rfl
  | some k => rw [if_neg (justP_some h hi).1]; unfold justP; rw [hi]
set_option maxHeartbeats 8000000 in
theorem rfind_c {w : World} {g : Nat} {v : Value} {t : Tb} (h : Tm w g v t) (av : Int) (al : List Int) (hl : al.length = 16) (p : Int) :
    Calls Try.prog 31 #[.pointer (some ⟨g, 0, none⟩), .agg (csA av al), .int .i64 p] w fun E w' => E = .returned (.int .i64 (findP t.bs av al p)) ∧ Away [] w w' := by
  have HL := Lib.hid hl
  have K1 : Hid (∀ W, Away [] w W → Calls Try.prog 38 #[.pointer (some ⟨g, 0, none⟩), .agg (csA av al), .int .i64 p] W fun E w' => E = .returned (.int .i64 (plc (idxP (hit av al p) t.bs))) ∧ Away [] W w') := fun W hW => rjust_c (h.on hW) av al hl p
  have K2 : Hid (∀ W, Away [] w W → Calls Try.prog 38 #[.pointer (some ⟨g, 0, none⟩), .agg (csA av z16), .int .i64 p] W fun E w' => E = .returned (.int .i64 (plc (idxP (hit av z16 p) t.bs))) ∧ Away [] W w') := fun W hW => rjust_c (h.on hW) av z16 rfl p
  have HFE := Lib.hid (findP_eq h.wf av al p)
  obtain ⟨ans, hans⟩ : ∃ z, z = findP t.bs av al p := ⟨_, rfl⟩
  rw [← hans] at HFE ⊢
  have H := Lib.hid h
  obtain ⟨la, lc, rfl, hat⟩ := h.shape
  have HAT := Lib.hid hat
  obtain ⟨n, hn⟩ : ∃ n, n = t.bs.length := ⟨_, rfl⟩
  have hn32 : n ≤ 32 := by have := h.wf.le; omega
  have HOK := Lib.hid h.wf.okd
  rw [← hn] at H
  have HN := Lib.hid hn
  obtain ⟨i1, h1⟩ : ∃ z, z = idxP (hit av al p) t.bs := ⟨_, rfl⟩
  obtain ⟨i2, h2⟩ : ∃ z, z = idxP (hit av z16 p) t.bs := ⟨_, rfl⟩
  rw [← h1] at K1 HFE
  rw [← h2] at K2 HFE
  have HI1 : Hid (∀ k, i1 = some k → k < n) := fun k hk => by rw [hn]; exact idx_lt (by rw [← h1]; exact hk)
  have HI2 : Hid (∀ k, i2 = some k → k < n) := fun k hk => by rw [hn]; exact idx_lt (by rw [← h2]; exact hk)
  clear h hat hn hans hl h1 h2
  go_enter Try.func31, Try.ntmps31
  go_wp2_with (refine wpList_box32 rfl _ rfl av al rfl ?_; refine Hid.out ?_)
  refine Lib.hid ?_
  intro g4 w1 hg4 hb haw
  have HA := Lib.hid haw
  have HB := Lib.hid hb
  clear hg4 hb haw
  go_wp2_with (refine wpList_load32 rfl _ rfl g4 rfl av al HL.out HB.out ?_)
  refine (K1.out _ HA.out).mono ?_
  rintro E w2 ⟨rfl, haw⟩
  replace HA := Lib.hid (HA.out.trans haw)
  replace HB := Lib.hid (HB.out.on haw (by simp))
  clear haw K1
  rcases i1 with _ | k
  · have cv := HB.out.v
    simp only [plc]
    go_wp2_with (refine wpList_build4r rfl _ rfl av rfl ?_)
    refine (K2.out _ HA.out).mono ?_
    rintro E w3 ⟨rfl, haw⟩
    replace HA := Lib.hid (HA.out.trans haw)
    clear haw cv K2
    rcases i2 with _ | k
    · simp only [plc]
      go_wp2_with fail
      go_ret
      exact ⟨by rw [HFE.out]; rfl, HA.out⟩
    · have hk := HI2.out k rfl
      simp only [plc]
      have hkd : decide ((k : Int) < 0) = false := by simp
      have j0 : (k : Int) < (n : Int) := by omega
      have j2 : 0 ≤ (k : Int) := by omega
      have j3 : ((k : Int)).toNat = k := by omega
      obtain ⟨y, hy, hym⟩ := get_of (show k < t.bs.length by rw [← HN.out]; omega)
      obtain ⟨b, hb, hrg⟩ := HAT.out k y hy
      subst hb
      have c0 := range_n (range_away HA.out (by simp) hrg)
      have c2 := HA.out.cell (by simp) H.out.c2
      have HE : Hid (ans = y.n) := by show _ = _; rw [HFE.out]; simp only [numAt, hy]
      clear hrg hy hym hk
      go_wp2_with fail
      go_ret
      exact ⟨ret_int HE.out.symm, HA.out⟩
  · have hk := HI1.out k rfl
    simp only [plc]
    have hkd : decide ((k : Int) < 0) = false := by simp
    have j0 : (k : Int) < (n : Int) := by omega
    have j2 : 0 ≤ (k : Int) := by omega
    have j3 : ((k : Int)).toNat = k := by omega
    obtain ⟨y, hy, hym⟩ := get_of (show k < t.bs.length by rw [← HN.out]; omega)
    obtain ⟨b, hb, hrg⟩ := HAT.out k y hy
    subst hb
    have c0 := range_n (range_away HA.out (by simp) hrg)
    have c2 := HA.out.cell (by simp) H.out.c2
    have HE : Hid (ans = y.n) := by show _ = _; rw [HFE.out]; simp only [numAt, hy]
    clear hrg hy hym hk
    go_wp2_with fail
    go_ret
    exact ⟨ret_int HE.out.symm, HA.out⟩
def RNewOut (w : World) (n : Int) (E : Ending) (w' : World) : Prop :=
  ((n < 1 ∨ 32 < n) ∧ E = .returned (.tuple #[.pointer none, .int .i64 1]) ∧ Away [] w w') ∨
  ((1 ≤ n ∧ n ≤ 32) ∧ ∃ g, E = .returned (.tuple #[.pointer (some ⟨g, 0, none⟩), .int .i64 0]) ∧ w.heap.size ≤ g ∧ Tm w' g (.slice none 0 0) ⟨n, 0, []⟩ ∧ Away [] w w')
theorem rnew_c (n : Int) (w : World) : Calls Try.prog 19 #[.int .i64 n] w (RNewOut w n) := by
  have hbx := block_new w (.cells #[.int .i64 n, .int .i64 0, .slice none 0 0] 74)
  have haw0 : Away [] w (w.alloc (.cells #[.int .i64 n, .int .i64 0, .slice none 0 0] 74)) := (Away.refl _ _).alloc _
  have HBX := Lib.hid hbx
  have HAW := Lib.hid haw0
  clear hbx haw0
  by_cases h0 : n < 1
  · have e0 : decide (n < 1) = true := by simpa using h0
    go_enter Try.func19, Try.ntmps19
    go_wp2_with fail
    go_ret2
    exact .inl ⟨.inl h0, rfl, Away.refl _ _⟩
  · have e0 : decide (n < 1) = false := by simpa using h0
    by_cases h1 : 32 < n
    · have e1 : decide (32 < n) = true := by simpa using h1
      go_enter Try.func19, Try.ntmps19
      go_wp2_with fail
      go_ret2
      exact .inl ⟨.inr h1, rfl, Away.refl _ _⟩
    · have e1 : decide (32 < n) = false := by simpa using h1
      go_enter Try.func19, Try.ntmps19
      go_wp2_with fail
      go_ret2
      exact .inr ⟨⟨by omega, by omega⟩, _, rfl, Nat.le_refl _, ⟨HBX.out, LstD.nil _, by simp [Value.ownBlock], WfT.new (by omega) (by omega)⟩, HAW.out⟩
end
open KS in
set_option maxHeartbeats 8000000 in
theorem rat_c {w : World} {g : Nat} {v : Value} {t : Tb} (h : Tm w g v t) (s : Int) :
    Calls Try.prog 32 #[.pointer (some ⟨g, 0, none⟩), .int .i64 s] w fun E w' => E = .returned (.tuple #[.agg (csA (atP t s).1 (atP t s).2.1), .int .i64 (atP t s).2.2.1, .int .i64 (atP t s).2.2.2]) ∧ Away [] w w' := by
  have H := Lib.hid h
  have hgw := h.lt
  have KP : Hid (∀ W, Away [] w W → Calls Try.prog 39 #[.pointer (some ⟨g, 0, none⟩), .int .i64 s] W fun E w' => E = .returned (.int .i64 (plc (idxP (isN s) t.bs))) ∧ Away [] W w') := fun W hW => rplace_c (h.on hW) s
  obtain ⟨o, ho⟩ : ∃ o, o = idxP (isN s) t.bs := ⟨_, rfl⟩
  rw [← ho] at KP
  have HO := Lib.hid ho
  clear h ho
  go_enter Try.func32, Try.ntmps32
  go_wp2_with (refine wpList_alloc32 rfl rfl ?_; refine Hid.out ?_)
  refine Lib.hid ?_
  intro g4 w1 hg4 hr haw
  have HA := Lib.hid haw
  have HR := Lib.hid hr
  clear haw hr
  go_wp2_with fail
  refine (KP.out _ HA.out).mono ?_
  rintro E w2 ⟨rfl, haw⟩
  have hlt4 := rowAt_lt HR.out
  replace HR := Lib.hid (rowAt_below HR.out (Away.to_below haw) hlt4)
  replace HA := Lib.hid (HA.out.trans haw)
  clear haw KP hlt4
  rcases o with _ | k
  · have HE : Hid (atP t s = (0, z16, 0, 1)) := by show _ = _; unfold atP; rw [← HO.out]
    simp only [plc]
    go_wp2_with (first
      | (refine wpList_build0 rfl rfl ?_)
      | (refine wpList_store32 rfl _ _ rfl g4 rfl 0 z16 rfl rfl _ HR.out ?_; refine Hid.out ?_))
    refine Lib.hid ?_
    intro w3 hr3 haw
    have HR3 := Lib.hid hr3
    replace HA := Lib.hid (HA.out.next haw (fun x hx => .inr (by simp at hx; subst hx; omega)))
    clear hr3 haw
    go_wp2_with fail
    refine bodyPost_ret (v := .tuple #[.agg (csA 0 z16), .int .i64 0, .int .i64 1]) ?_ rfl ⟨by rw [HE.out], HA.out⟩
    exact result32tt rfl _ _ g4 _ _ _ rfl rfl rfl HR3.out
  · obtain ⟨y, hy, -, -⟩ := idx_get HO.out.symm
    have hk := idx_lt HO.out.symm
    have HE : Hid (atP t s = (y.v, y.l, y.p, 0)) := by show _ = _; unfold atP; rw [← HO.out]; simp only [hy]
    simp only [plc]
    obtain ⟨la, lc, rfl, hat⟩ := H.out.shape
    have HYO := Lib.hid (H.out.wf.okd y (List.mem_of_getElem? hy))
    obtain ⟨b, hb, hrg⟩ := hat k y hy
    subst hb
    have hblt : b < w.heap.size := H.out.lst.lt b rfl
    have c2 := HA.out.cell (by simp) H.out.c2
    have HRG := Lib.hid (range_away HA.out (by simp) hrg)
    obtain ⟨n, hn⟩ : ∃ n, n = t.bs.length := ⟨_, rfl⟩
    rw [← hn] at c2 hk
    have hkd : decide ((k : Int) < 0) = false := by simp
    clear hat hrg hy hn H HO
    have C2 := Lib.hid c2
    clear c2
    go_wp2_with fail
    refine wp_region_held_drew (S := (fun w' => w'.cell? ⟨g, 2, none⟩ = some (.slice (some ⟨b, 0, none⟩) n lc) ∧ w'.rangeAt b (k * 19) (listD y) ∧ ∃ c, rowAt w' g4 = some c)) (by kernel_rfl) ⟨by exact C2.out, by exact HRG.out, _, by exact HR.out⟩ (fun hHeld => ?_)
    have haw := (Away.refl [] w2).drew
    replace HA := Lib.hid (HA.out.trans haw)
    clear haw HR HRG C2
    refine wpAnyH_take (i := 0) (v := ?_) (by simp only [List.getElem?_toArray, List.getElem?_cons_zero]; rfl) (by kernel_rfl) (by kernel_rfl) (by kernel_rfl) (by exact fun _ _ _ h => h) (Or.inl ⟨by rfl, ?_⟩) (by assumption) ?_
    rotate_left
    · intro wq hSw
      (try dsimp only at hSw)
      go_simp
      all_goals (with_reducible rfl)
    try simp only [Act.put, List.setIfInBounds_toArray, List.set_cons_zero, List.set_cons_succ]
    refine wpAnyH_take (i := 1) (v := ?_) (by simp only [List.getElem?_toArray, List.getElem?_cons_succ, List.getElem?_cons_zero]; rfl) (by kernel_rfl) (by kernel_rfl) (by kernel_rfl) (by exact fun _ _ _ h => h) (Or.inl ⟨by rfl, ?_⟩) (by assumption) ?_
    rotate_left
    · intro wq hSw
      (try dsimp only at hSw)
      go_simp
      all_goals (with_reducible rfl)
    try simp only [Act.put, List.setIfInBounds_toArray, List.set_cons_zero, List.set_cons_succ]
    refine wpAnyH_take (i := 2) (v := ?_) (by simp only [List.getElem?_toArray, List.getElem?_cons_succ, List.getElem?_cons_zero]; rfl) (by kernel_rfl) (by kernel_rfl) (by kernel_rfl) (by exact fun _ _ _ h => h) (Or.inl ⟨by rfl, ?_⟩) (by assumption) ?_
    rotate_left
    · intro wq hSw
      (try dsimp only at hSw)
      go_simp
      all_goals (with_reducible rfl)
    try simp only [Act.put, List.setIfInBounds_toArray, List.set_cons_zero, List.set_cons_succ]
    refine wpAnyH_take (i := 3) (by simp only [List.getElem?_toArray, List.getElem?_cons_succ, List.getElem?_cons_zero]; rfl) (by kernel_rfl) (by kernel_rfl) (by kernel_rfl) (by exact fun _ _ _ h => h) (yields_ld (ad := ⟨g, 2, none⟩) (by rfl) _ rfl rfl (fun w' h => KS.ldL h.1)) (by assumption) ?_
    try simp only [Act.put, List.setIfInBounds_toArray, List.set_cons_zero, List.set_cons_succ]
    refine wpAnyH_take (i := 4) (v := ?_) (by simp only [List.getElem?_toArray, List.getElem?_cons_succ, List.getElem?_cons_zero]; rfl) (by kernel_rfl) (by kernel_rfl) (by kernel_rfl) (by exact fun _ _ _ h => h) (Or.inl ⟨by rfl, ?_⟩) (by assumption) ?_
    rotate_left
    · intro wq hSw
      (try dsimp only at hSw)
      go_simp
      all_goals (with_reducible rfl)
    try simp only [Act.put, List.setIfInBounds_toArray, List.set_cons_zero, List.set_cons_succ]
    refine wpAnyH_take (i := 5) (by simp only [List.getElem?_toArray, List.getElem?_cons_succ, List.getElem?_cons_zero]; rfl) (by kernel_rfl) (by kernel_rfl) (by kernel_rfl) (by exact fun _ _ _ h => h) (KS.yields_ixE (by rfl) _ _ rfl b n lc k rfl rfl (by omega)) (by assumption) ?_
    try simp only [Act.put, List.setIfInBounds_toArray, List.set_cons_zero, List.set_cons_succ]
    refine wpAnyH_take (i := 6) (v := ?_) (by simp only [List.getElem?_toArray, List.getElem?_cons_succ, List.getElem?_cons_zero]; rfl) (by kernel_rfl) (by kernel_rfl) (by kernel_rfl) (by exact fun _ _ _ h => h) (Or.inl ⟨by rfl, ?_⟩) (by assumption) ?_
    rotate_left
    · intro wq hSw
      (try dsimp only at hSw)
      go_simp
      all_goals (with_reducible rfl)
    try simp only [Act.put, List.setIfInBounds_toArray, List.set_cons_zero, List.set_cons_succ]
    refine wpAnyH_take (i := 7) (by simp only [List.getElem?_toArray, List.getElem?_cons_succ, List.getElem?_cons_zero]; rfl) (by kernel_rfl) (by kernel_rfl) (by kernel_rfl) (by exact fun _ _ _ h => h) (yields_ld (ad := ⟨b, k * 19 + 1, none⟩) (by rfl) _ rfl rfl (fun w' h => load32m_run (range_a h.2.1 HYO.out) HYO.out)) (by assumption) ?_
    try simp only [Act.put, List.setIfInBounds_toArray, List.set_cons_zero, List.set_cons_succ]
    refine wpAnyH_take (i := 8) (v := ?_) (by simp only [List.getElem?_toArray, List.getElem?_cons_succ, List.getElem?_cons_zero]; rfl) (by kernel_rfl) (by kernel_rfl) (by kernel_rfl) (by exact fun _ _ _ h => h) (Or.inl ⟨by rfl, ?_⟩) (by assumption) ?_
    rotate_left
    · intro wq hSw
      (try dsimp only at hSw)
      go_simp
      all_goals (with_reducible rfl)
    try simp only [Act.put, List.setIfInBounds_toArray, List.set_cons_zero, List.set_cons_succ]
    refine wpAnyH_take (i := 9) (v := ?_) (by simp only [List.getElem?_toArray, List.getElem?_cons_succ, List.getElem?_cons_zero]; rfl) (by kernel_rfl) (by kernel_rfl) (by kernel_rfl) (by exact fun _ _ _ h => h) (Or.inl ⟨by rfl, ?_⟩) (by assumption) ?_
    rotate_left
    · intro wq hSw
      (try dsimp only at hSw)
      go_simp
      all_goals (with_reducible rfl)
    try simp only [Act.put, List.setIfInBounds_toArray, List.set_cons_zero, List.set_cons_succ]
    refine wpAnyH_take (i := 10) (v := ?_) (by simp only [List.getElem?_toArray, List.getElem?_cons_succ, List.getElem?_cons_zero]; rfl) (by kernel_rfl) (by kernel_rfl) (by kernel_rfl) (by exact fun _ _ _ h => h) (Or.inl ⟨by rfl, ?_⟩) (by assumption) ?_
    rotate_left
    · intro wq hSw
      (try dsimp only at hSw)
      go_simp
      all_goals (with_reducible rfl)
    try simp only [Act.put, List.setIfInBounds_toArray, List.set_cons_zero, List.set_cons_succ]
    refine wpAnyH_take (i := 11) (by simp only [List.getElem?_toArray, List.getElem?_cons_succ, List.getElem?_cons_zero]; rfl) (by kernel_rfl) (by kernel_rfl) (by kernel_rfl) (by exact fun _ _ _ h => h) (yields_ld (ad := ⟨g, 2, none⟩) (by rfl) _ rfl rfl (fun w' h => KS.ldL h.1)) (by assumption) ?_
    try simp only [Act.put, List.setIfInBounds_toArray, List.set_cons_zero, List.set_cons_succ]
    refine wpAnyH_take (i := 12) (v := ?_) (by simp only [List.getElem?_toArray, List.getElem?_cons_succ, List.getElem?_cons_zero]; rfl) (by kernel_rfl) (by kernel_rfl) (by kernel_rfl) (by exact fun _ _ _ h => h) (Or.inl ⟨by rfl, ?_⟩) (by assumption) ?_
    rotate_left
    · intro wq hSw
      (try dsimp only at hSw)
      go_simp
      all_goals (with_reducible rfl)
    try simp only [Act.put, List.setIfInBounds_toArray, List.set_cons_zero, List.set_cons_succ]
    refine wpAnyH_take (i := 13) (by simp only [List.getElem?_toArray, List.getElem?_cons_succ, List.getElem?_cons_zero]; rfl) (by kernel_rfl) (by kernel_rfl) (by kernel_rfl) (by exact fun _ _ _ h => h) (KS.yields_ixE (by rfl) _ _ rfl b n lc k rfl rfl (by omega)) (by assumption) ?_
    try simp only [Act.put, List.setIfInBounds_toArray, List.set_cons_zero, List.set_cons_succ]
    refine wpAnyH_take (i := 14) (v := ?_) (by simp only [List.getElem?_toArray, List.getElem?_cons_succ, List.getElem?_cons_zero]; rfl) (by kernel_rfl) (by kernel_rfl) (by kernel_rfl) (by exact fun _ _ _ h => h) (Or.inl ⟨by rfl, ?_⟩) (by assumption) ?_
    rotate_left
    · intro wq hSw
      (try dsimp only at hSw)
      go_simp
      all_goals (with_reducible rfl)
    try simp only [Act.put, List.setIfInBounds_toArray, List.set_cons_zero, List.set_cons_succ]
    refine wpAnyH_take (i := 15) (by simp only [List.getElem?_toArray, List.getElem?_cons_succ, List.getElem?_cons_zero]; rfl) (by kernel_rfl) (by kernel_rfl) (by kernel_rfl) (by exact fun _ _ _ h => h) (yields_ld (ad := ⟨b, k * 19 + 18, none⟩) (by rfl) _ rfl rfl (fun w' h => ld3 (range_p h.2.1 HYO.out))) (by assumption) ?_
    try simp only [Act.put, List.setIfInBounds_toArray, List.set_cons_zero, List.set_cons_succ]
    refine wpAnyH_ready (rs := [16]) (by kernel_rfl) (by simp) ?_
    refine AllReadyH.cons (by simp only [List.getElem?_toArray, List.getElem?_cons_succ, List.getElem?_cons_zero]; rfl) (fun K hK => ?_) AllReadyH.nil
    refine step_store32 rfl _ _ rfl g4 rfl y.v y.l HYO.out rfl _ hHeld.2.2.choose_spec (fun w4 hr4 haw => ?_)
    have hS : w4.cell? ⟨g, 2, none⟩ = some (.slice (some ⟨b, 0, none⟩) n lc) ∧ w4.rangeAt b (k * 19) (listD y) ∧ ∃ c, rowAt w4 g4 = some c := ⟨haw.cell (by simp; omega) hHeld.1, range_away haw (by simp; omega) hHeld.2.1, _, hr4⟩
    have HR4 := Lib.hid hr4
    replace HA := Lib.hid (HA.out.next haw (fun x hx => .inr (by simp at hx; subst hx; omega)))
    clear hr4 haw hHeld
    refine hK.out _ _ hS (fun hHeld => ?_)
    clear hK K
    try simp only [Act.put, List.setIfInBounds_toArray, List.set_cons_zero, List.set_cons_succ]
    clear hS
    refine wpAnyH_take (i := 17) (v := ?_) (by simp only [List.getElem?_toArray, List.getElem?_cons_succ, List.getElem?_cons_zero]; rfl) (by kernel_rfl) (by kernel_rfl) (by kernel_rfl) (by exact fun _ _ _ h => h) (Or.inl ⟨by rfl, ?_⟩) (by assumption) ?_
    rotate_left
    · intro wq hSw
      (try dsimp only at hSw)
      go_simp
      all_goals (with_reducible rfl)
    try simp only [Act.put, List.setIfInBounds_toArray, List.set_cons_zero, List.set_cons_succ]
    refine wpAnyH_take (i := 18) (v := ?_) (by simp only [List.getElem?_toArray, List.getElem?_cons_succ, List.getElem?_cons_zero]; rfl) (by kernel_rfl) (by kernel_rfl) (by kernel_rfl) (by exact fun _ _ _ h => h) (Or.inl ⟨by rfl, ?_⟩) (by assumption) ?_
    rotate_left
    · intro wq hSw
      (try dsimp only at hSw)
      go_simp
      all_goals (with_reducible rfl)
    try simp only [Act.put, List.setIfInBounds_toArray, List.set_cons_zero, List.set_cons_succ]
    clear hHeld
    refine wpAnyH_done (by kernel_rfl) ?_ _
    go_wp2_with fail
    refine bodyPost_ret (v := .tuple #[.agg (csA y.v y.l), .int .i64 y.p, .int .i64 0]) ?_ rfl ⟨by rw [HE.out], HA.out⟩
    exact result32tt rfl _ _ g4 _ _ _ rfl rfl rfl HR4.out
end Go.Proofs.Ytemdgggpfadecaa
