/-
  right of the laws, of a whole packet.
-/
import Derived.Test.YtaicckenpplceaaDoorLawM
import Derived.Test.YtaicckenpplceaaDoorMndB
namespace Go.Proofs.YtaicckenpplceaaDoor
open Go.ChangeShapes Go.WideShapes Go.ChangeAt Go.RowKit Num
set_option linter.unusedVariables false
set_option maxHeartbeats 8000000
set_option maxRecDepth 100000

namespace R
/-- What right tells of a whole packet. -/
def RightOut (w : World) (E : Ending) (w' : World) : Prop := ∃ q ov dv, E = .returned (.agg (csP q ov dv)) ∧ Unc q ∧ Wf q ∧ q.v = 4 ∧ q.df = false ∧ Mine w' w.heap.size q ov dv ∧ Away [] w w'
theorem wp_appAny {w : World} {o : Oper} {a : Act} {K : Act → World → Prop} {Q : Exit → Act → World → Prop} (s x : Operand)
    (ho : o.op = .call { callee := .builtin .append, args := #[s, x], argTypes := #[26, 26] }) (v : Value) (l m : List Int) (hs : a.eval s = v) (hown : Owns w v l)
    (u : Value) (hx : a.eval x = u) (hu : Sl w u m) (hlen : l.length + m.length ≤ 140737488355328)
    (h : ∀ v' w', Owns w' v' (l ++ m) → (∀ S a, Away S a w → (∀ k, v.ownBlock = some k → k ∈ S ∨ a.heap.size ≤ k) → Away S a w') → Moved w v v' → w.heap.size ≤ w'.heap.size → K (a.put o.dst v') w') : Oper.wp Tryd.prog o a w K Q := by
  obtain ⟨ad, c, rfl, h1, h2, h3⟩ := hu
  rcases ad with _ | ad
  · obtain rfl : m = [] := by rcases h3.2.2 with h | ⟨_, _, h, _⟩ <;> simp_all
    obtain rfl := h2 rfl
    obtain ⟨i0, hi, hz0, hz1, hz2⟩ := info_parts info5
    have hrun := run_append_owned_none (P := Tryd.prog) (w := w) 0 26 o.type 5 i0 1 Tryd.underlying26 hi v _ _ hown
    unfold Oper.wp
    simp [execOp, ho, resolve, invoke, builtin, hs, hx, hrun, Result.andThen]
    exact h v w (by simpa using hown) (fun S a h _ => h) (Moved.refl _ _) (Nat.le_refl _)
  · obtain ⟨v', w', hrun, r1, r2, r3⟩ := run_appB o.type w v l m hown ad m.length c rfl h3.src hlen
    unfold Oper.wp
    simp [execOp, ho, resolve, invoke, builtin, hs, hx, hrun, Result.andThen]
    exact h v' w' r1 (fun S a h hk => h.grown r2 hk) r3 r2.size
theorem ld25 {w : World} {ad : Addr} {z : Int} (h : w.cell? ad = some (.int .u32 z)) : (Instr.loadAt 25 (.pointer (some ad))).run Tryd.prog w = .ok (.int .u32 z) w := by
  have hu : Tryd.prog.underlying 25 = some (.int .u32) := Tryd.underlying25
  go_simp
theorem right_c (p : Pk) (ov dv : Value) (w : World) (hp : Pkt w p ov dv) (hg : Glob w) :
    Calls Tryd.prog 8 #[.agg (csP p ov dv), .bool true] w fun E w' => RightOut w E w' := by
  have HAD := Lib.hid hp.wf.ad
  have HW := Lib.hid hp.wf
  have HP := Lib.hid hp
  have KV : Hid (∀ w', Away [] w w' → Calls Tryd.prog 25 #[ov] w' fun E w'' => E = .returned (.bool (validP p.o)) ∧ Away [] w' w'') := by
    obtain ⟨a, c, e, x1, x2, x3⟩ := hp.o
    rw [e]
    exact fun w' h => ovalid_c a p.o _ c w' rfl x1 (x3.on h) (hg.on h)
  obtain ⟨T, hT⟩ : ∃ T, T = p.tos % (255 + 1) := ⟨_, rfl⟩
  obtain ⟨RR, hRR⟩ : ∃ T, T = p.proto % (255 + 1) := ⟨_, rfl⟩
  obtain ⟨L, hL⟩ : ∃ T, T = p.ttl % (255 + 1) := ⟨_, rfl⟩
  have KT : Hid (∀ w', Calls Tryd.prog 9 #[.int .i64 p.tos, .int .i64 255] w' fun E w'' => E = .returned (.int .i64 T) ∧ w'' = w') := fun w' => by rw [hT]; exact rest_c _ _ w' hp.wf.tos (by omega) (by omega)
  have KR : Hid (∀ w', Calls Tryd.prog 9 #[.int .i64 p.proto, .int .i64 255] w' fun E w'' => E = .returned (.int .i64 RR) ∧ w'' = w') := fun w' => by rw [hRR]; exact rest_c _ _ w' hp.wf.proto (by omega) (by omega)
  have KL : Hid (∀ w', Calls Tryd.prog 9 #[.int .i64 p.ttl, .int .i64 255] w' fun E w'' => E = .returned (.int .i64 L) ∧ w'' = w') := fun w' => by rw [hL]; exact rest_c _ _ w' hp.wf.ttl (by omega) (by omega)
  have BT : 0 ≤ T ∧ T ≤ 255 := by omega
  have BR : 0 ≤ RR ∧ RR ≤ 255 := by omega
  have BL : 0 ≤ L ∧ L ≤ 255 := by omega
  have hi0 := hp.wf.id0; have hi1 := hp.wf.id1
  obtain ⟨I, hI⟩ : ∃ I, I = p.id.tmod 65536 := ⟨_, rfl⟩
  have BI : 0 ≤ I ∧ I ≤ 65535 := by rw [hI, Int.tmod_eq_emod_of_nonneg hi0]; omega
  have hI' := hI.symm
  clear hT hRR hL hI hp hg
  go_enter Tryd.func8, Tryd.ntmps8
  go_wp2_with (refine wpList_box28 rfl _ rfl p _ _ rfl ?_; refine Hid.out ?_)
  refine Lib.hid ?_
  intro g2 w1 hg2 hb1 haw1
  have HB1 := Lib.hid hb1; have HA1 := Lib.hid haw1
  have hl1 := hb1.lt
  clear hb1 haw1
  go_wp2_with (refine wpList_alloc28 rfl rfl ?_; refine Hid.out ?_)
  refine Lib.hid ?_
  intro g4 w2 hg4 hb2 haw2
  have HB4 := Lib.hid hb2
  replace HB1 := Lib.hid (HB1.out.on haw2)
  have HA2 := Lib.hid (HA1.out.on haw2)
  have hl2 := hb2.lt
  have hs1 := HA1.out.size; have hs2 := haw2.size
  clear hb2 haw2 HA1
  go_upto_region 1 with fail
  go_cut [5] (fun v wc => ∃ g5, v = .pointer (some ⟨g5, 0, none⟩) ∧ BoxP wc g5 ⟨4, T, 0, 4, z16, 4, z16, RR, L, I, false, false, false, 0, [], []⟩ (.slice none 0 0) (.slice none 0 0) ∧ BoxP wc g2 p ov dv ∧ Away [] w2 wc ∧ w2.heap.size ≤ g5)
  case first =>
    refine wp_region_held_drew (S := (fun w' => BoxP w' g2 p ov dv ∧ Away [] w2 w')) (by kernel_rfl) (⟨HB1.out, (Away.refl [] w2).drew⟩) (fun hHeld => ?_)
    refine wpAnyH_take (i := 0) (v := ?_) (by simp only [List.getElem?_toArray, List.getElem?_cons_zero]; rfl) (by kernel_rfl) (by kernel_rfl) (by kernel_rfl) (by exact fun _ _ _ h => h) (Or.inl ⟨by rfl, ?_⟩) (by assumption) ?_
    rotate_left
    · intro wq hSw
      (try dsimp only at hSw)
      go_simp
      all_goals (with_reducible rfl)
    try simp only [Act.put, List.setIfInBounds_toArray, List.set_cons_zero, List.set_cons_succ]
    refine wpAnyH_take (i := 1) (by simp only [List.getElem?_toArray, List.getElem?_cons_succ, List.getElem?_cons_zero]; rfl) (by kernel_rfl) (by kernel_rfl) (by kernel_rfl) (by exact fun _ _ _ h => h) (yields_ld (ad := ⟨g2, 1, none⟩) (by rfl) _ rfl rfl (fun w' h => S6.ld3 (h.1.cells HAD.out).tos)) (by assumption) ?_
    try simp only [Act.put, List.setIfInBounds_toArray, List.set_cons_zero, List.set_cons_succ]
    refine wpAnyH_take (i := 3) (v := ?_) (by simp only [List.getElem?_toArray, List.getElem?_cons_succ, List.getElem?_cons_zero]; rfl) (by kernel_rfl) (by kernel_rfl) (by kernel_rfl) (by exact fun _ _ _ h => h) (Or.inl ⟨by rfl, ?_⟩) (by assumption) ?_
    rotate_left
    · intro wq hSw
      (try dsimp only at hSw)
      go_simp
      all_goals (with_reducible rfl)
    try simp only [Act.put, List.setIfInBounds_toArray, List.set_cons_zero, List.set_cons_succ]
    refine wpAnyH_take (i := 4) (v := ?_) (by simp only [List.getElem?_toArray, List.getElem?_cons_succ, List.getElem?_cons_zero]; rfl) (by kernel_rfl) (by kernel_rfl) (by kernel_rfl) (by exact fun _ _ _ h => h) (Or.inl ⟨by rfl, ?_⟩) (by assumption) ?_
    rotate_left
    · intro wq hSw
      (try dsimp only at hSw)
      go_simp
      all_goals (with_reducible rfl)
    try simp only [Act.put, List.setIfInBounds_toArray, List.set_cons_zero, List.set_cons_succ]
    refine wpAnyH_take (i := 5) (v := ?_) (by simp only [List.getElem?_toArray, List.getElem?_cons_succ, List.getElem?_cons_zero]; rfl) (by kernel_rfl) (by kernel_rfl) (by kernel_rfl) (by exact fun _ _ _ h => h) (Or.inl ⟨by rfl, ?_⟩) (by assumption) ?_
    rotate_left
    · intro wq hSw
      (try dsimp only at hSw)
      go_simp
      all_goals (with_reducible rfl)
    try simp only [Act.put, List.setIfInBounds_toArray, List.set_cons_zero, List.set_cons_succ]
    refine wpAnyH_take (i := 6) (by simp only [List.getElem?_toArray, List.getElem?_cons_succ, List.getElem?_cons_zero]; rfl) (by kernel_rfl) (by kernel_rfl) (by kernel_rfl) (by exact fun _ _ _ h => h) (yields_ld (ad := ⟨g2, 37, none⟩) (by rfl) _ rfl rfl (fun w' h => S6.ld3 (h.1.cells HAD.out).proto)) (by assumption) ?_
    try simp only [Act.put, List.setIfInBounds_toArray, List.set_cons_zero, List.set_cons_succ]
    refine wpAnyH_take (i := 8) (v := ?_) (by simp only [List.getElem?_toArray, List.getElem?_cons_succ, List.getElem?_cons_zero]; rfl) (by kernel_rfl) (by kernel_rfl) (by kernel_rfl) (by exact fun _ _ _ h => h) (Or.inl ⟨by rfl, ?_⟩) (by assumption) ?_
    rotate_left
    · intro wq hSw
      (try dsimp only at hSw)
      go_simp
      all_goals (with_reducible rfl)
    try simp only [Act.put, List.setIfInBounds_toArray, List.set_cons_zero, List.set_cons_succ]
    refine wpAnyH_take (i := 9) (by simp only [List.getElem?_toArray, List.getElem?_cons_succ, List.getElem?_cons_zero]; rfl) (by kernel_rfl) (by kernel_rfl) (by kernel_rfl) (by exact fun _ _ _ h => h) (yields_ld (ad := ⟨g2, 38, none⟩) (by rfl) _ rfl rfl (fun w' h => S6.ld3 (h.1.cells HAD.out).ttl)) (by assumption) ?_
    try simp only [Act.put, List.setIfInBounds_toArray, List.set_cons_zero, List.set_cons_succ]
    refine wpAnyH_take (i := 11) (v := ?_) (by simp only [List.getElem?_toArray, List.getElem?_cons_succ, List.getElem?_cons_zero]; rfl) (by kernel_rfl) (by kernel_rfl) (by kernel_rfl) (by exact fun _ _ _ h => h) (Or.inl ⟨by rfl, ?_⟩) (by assumption) ?_
    rotate_left
    · intro wq hSw
      (try dsimp only at hSw)
      go_simp
      all_goals (with_reducible rfl)
    try simp only [Act.put, List.setIfInBounds_toArray, List.set_cons_zero, List.set_cons_succ]
    refine wpAnyH_take (i := 12) (by simp only [List.getElem?_toArray, List.getElem?_cons_succ, List.getElem?_cons_zero]; rfl) (by kernel_rfl) (by kernel_rfl) (by kernel_rfl) (by exact fun _ _ _ h => h) (yields_ld (ad := ⟨g2, 39, none⟩) (by rfl) _ rfl rfl (fun w' h => ld25 (h.1.cells HAD.out).id)) (by assumption) ?_
    try simp only [Act.put, List.setIfInBounds_toArray, List.set_cons_zero, List.set_cons_succ]
    refine wpAnyH_take (i := 13) (v := ?_) (by simp only [List.getElem?_toArray, List.getElem?_cons_succ, List.getElem?_cons_zero]; rfl) (by kernel_rfl) (by kernel_rfl) (by kernel_rfl) (by exact fun _ _ _ h => h) (Or.inl ⟨by rfl, ?_⟩) (by assumption) ?_
    rotate_left
    · intro wq hSw
      (try dsimp only at hSw)
      go_simp
      all_goals (with_reducible rfl)
    try simp only [Act.put, List.setIfInBounds_toArray, List.set_cons_zero, List.set_cons_succ]
    refine wpAnyH_ready (rs := [2, 15]) (by kernel_rfl) (by simp) ?_
    refine AllReadyH.cons (by simp only [List.getElem?_toArray, List.getElem?_cons_succ, List.getElem?_cons_zero]; rfl) (fun K hK => ?_) (AllReadyH.cons (by simp only [List.getElem?_toArray, List.getElem?_cons_succ, List.getElem?_cons_zero]; rfl) (fun K hK => ?_) AllReadyH.nil)
    · go_simp
      refine (KT.out _).mono ?_
      rintro E y3 ⟨rfl, rfl⟩
      go_wp2_with fail
      refine hK.out _ _ hHeld (fun hHeld => ?_)
      clear hK K
      try simp only [Act.put, List.setIfInBounds_toArray, List.set_cons_zero, List.set_cons_succ]
      refine wpAnyH_ready (rs := [7, 15]) (by kernel_rfl) (by simp) ?_
      refine AllReadyH.cons (by simp only [List.getElem?_toArray, List.getElem?_cons_succ, List.getElem?_cons_zero]; rfl) (fun K hK => ?_) (AllReadyH.cons (by simp only [List.getElem?_toArray, List.getElem?_cons_succ, List.getElem?_cons_zero]; rfl) (fun K hK => ?_) AllReadyH.nil)
      · go_simp
        refine (KR.out _).mono ?_
        rintro E y4 ⟨rfl, rfl⟩
        go_wp2_with fail
        refine hK.out _ _ hHeld (fun hHeld => ?_)
        clear hK K
        try simp only [Act.put, List.setIfInBounds_toArray, List.set_cons_zero, List.set_cons_succ]
        refine wpAnyH_ready (rs := [10, 15]) (by kernel_rfl) (by simp) ?_
        refine AllReadyH.cons (by simp only [List.getElem?_toArray, List.getElem?_cons_succ, List.getElem?_cons_zero]; rfl) (fun K hK => ?_) (AllReadyH.cons (by simp only [List.getElem?_toArray, List.getElem?_cons_succ, List.getElem?_cons_zero]; rfl) (fun K hK => ?_) AllReadyH.nil)
        · go_simp
          refine (KL.out _).mono ?_
          rintro E y5 ⟨rfl, rfl⟩
          go_wp2_with fail
          refine hK.out _ _ hHeld (fun hHeld => ?_)
          clear hK K
          try simp only [Act.put, List.setIfInBounds_toArray, List.set_cons_zero, List.set_cons_succ]
          refine wpAnyH_take (i := 14) (v := ?_) (by simp only [List.getElem?_toArray, List.getElem?_cons_succ, List.getElem?_cons_zero]; rfl) (by kernel_rfl) (by kernel_rfl) (by kernel_rfl) (by exact fun _ _ _ h => h) (Or.inl ⟨by rfl, ?_⟩) (by assumption) ?_
          rotate_left
          · intro wq hSw
            (try dsimp only at hSw)
            go_simp
            all_goals (with_reducible rfl)
          try simp only [Act.put, List.setIfInBounds_toArray, List.set_cons_zero, List.set_cons_succ]
          refine wpAnyH_ready (rs := [15]) (by kernel_rfl) (by simp) ?_
          refine AllReadyH.cons (by simp only [List.getElem?_toArray, List.getElem?_cons_succ, List.getElem?_cons_zero]; rfl) (fun K hK => ?_) AllReadyH.nil
          rw [if_pos (by rfl)]
          refine wp_alloc28 rfl ?_
          intro g5 y6 hg5 hbx haw
          have hS : BoxP y6 g2 p ov dv ∧ Away [] w2 y6 := ⟨hHeld.1.on haw, hHeld.2.on haw⟩
          have hza : w2.heap.size ≤ g5 := Nat.le_trans hHeld.2.size hg5
          clear haw
          refine hK.out _ _ hS (fun hHeld => ?_)
          clear hK K
          try simp only [Act.put, List.setIfInBounds_toArray, List.set_cons_zero, List.set_cons_succ]
          refine wpAnyH_ready (rs := [16]) (by kernel_rfl) (by simp) ?_
          refine AllReadyH.cons (by simp only [List.getElem?_toArray, List.getElem?_cons_succ, List.getElem?_cons_zero]; rfl) (fun K hK => ?_) AllReadyH.nil
          rw [if_pos (by rfl)]
          refine wp_store28 (.tmp 5) (.tmp 22) rfl g5 rfl ⟨4, T, 0, 4, z16, 4, z16, RR, L, I, false, false, false, 0, [], []⟩ (.slice none 0 0) (.slice none 0 0) rfl zeroPk (.slice none 0 0) (.slice none 0 0) (by exact hbx) ⟨rfl, rfl⟩ ⟨rfl, rfl⟩ rfl rfl ?_
          intro y7 hb2 haw
          have hS : BoxP y7 g2 p ov dv ∧ Away [] w2 y7 := ⟨hHeld.1.away haw (by simp; omega), hHeld.2.next haw (fun x hx => .inr (by simp at hx; omega))⟩
          clear haw
          refine hK.out _ _ hS (fun hHeld => ?_)
          clear hK K
          try simp only [Act.put]
          refine wpAnyH_done (by kernel_rfl) ?_ _
          go_wp2_with fail
          go_meet
          exact ⟨g5, rfl, hb2, hHeld.1, hHeld.2, hza⟩
        · rw [if_pos (by rfl)]
          refine wp_alloc28 rfl ?_
          intro g5 y5 hg5 hbx haw
          have hS : BoxP y5 g2 p ov dv ∧ Away [] w2 y5 := ⟨hHeld.1.on haw, hHeld.2.on haw⟩
          have hza : w2.heap.size ≤ g5 := Nat.le_trans hHeld.2.size hg5
          clear haw
          refine hK.out _ _ hS (fun hHeld => ?_)
          clear hK K
          try simp only [Act.put, List.setIfInBounds_toArray, List.set_cons_zero, List.set_cons_succ]
          refine wpAnyH_ready (rs := [10]) (by kernel_rfl) (by simp) ?_
          refine AllReadyH.cons (by simp only [List.getElem?_toArray, List.getElem?_cons_succ, List.getElem?_cons_zero]; rfl) (fun K hK => ?_) AllReadyH.nil
          go_simp
          refine (KL.out _).mono ?_
          rintro E y6 ⟨rfl, rfl⟩
          go_wp2_with fail
          refine hK.out _ _ hHeld (fun hHeld => ?_)
          clear hK K
          try simp only [Act.put, List.setIfInBounds_toArray, List.set_cons_zero, List.set_cons_succ]
          refine wpAnyH_take (i := 14) (v := ?_) (by simp only [List.getElem?_toArray, List.getElem?_cons_succ, List.getElem?_cons_zero]; rfl) (by kernel_rfl) (by kernel_rfl) (by kernel_rfl) (by exact fun _ _ _ h => h) (Or.inl ⟨by rfl, ?_⟩) (by assumption) ?_
          rotate_left
          · intro wq hSw
            (try dsimp only at hSw)
            go_simp
            all_goals (with_reducible rfl)
          try simp only [Act.put, List.setIfInBounds_toArray, List.set_cons_zero, List.set_cons_succ]
          refine wpAnyH_ready (rs := [16]) (by kernel_rfl) (by simp) ?_
          refine AllReadyH.cons (by simp only [List.getElem?_toArray, List.getElem?_cons_succ, List.getElem?_cons_zero]; rfl) (fun K hK => ?_) AllReadyH.nil
          rw [if_pos (by rfl)]
          refine wp_store28 (.tmp 5) (.tmp 22) rfl g5 rfl ⟨4, T, 0, 4, z16, 4, z16, RR, L, I, false, false, false, 0, [], []⟩ (.slice none 0 0) (.slice none 0 0) rfl zeroPk (.slice none 0 0) (.slice none 0 0) (by exact hbx) ⟨rfl, rfl⟩ ⟨rfl, rfl⟩ rfl rfl ?_
          intro y7 hb2 haw
          have hS : BoxP y7 g2 p ov dv ∧ Away [] w2 y7 := ⟨hHeld.1.away haw (by simp; omega), hHeld.2.next haw (fun x hx => .inr (by simp at hx; omega))⟩
          clear haw
          refine hK.out _ _ hS (fun hHeld => ?_)
          clear hK K
          try simp only [Act.put]
          refine wpAnyH_done (by kernel_rfl) ?_ _
          go_wp2_with fail
          go_meet
          exact ⟨g5, rfl, hb2, hHeld.1, hHeld.2, hza⟩
      · rw [if_pos (by rfl)]
        refine wp_alloc28 rfl ?_
        intro g5 y4 hg5 hbx haw
        have hS : BoxP y4 g2 p ov dv ∧ Away [] w2 y4 := ⟨hHeld.1.on haw, hHeld.2.on haw⟩
        have hza : w2.heap.size ≤ g5 := Nat.le_trans hHeld.2.size hg5
        clear haw
        refine hK.out _ _ hS (fun hHeld => ?_)
        clear hK K
        try simp only [Act.put, List.setIfInBounds_toArray, List.set_cons_zero, List.set_cons_succ]
        refine wpAnyH_ready (rs := [7]) (by kernel_rfl) (by simp) ?_
        refine AllReadyH.cons (by simp only [List.getElem?_toArray, List.getElem?_cons_succ, List.getElem?_cons_zero]; rfl) (fun K hK => ?_) AllReadyH.nil
        go_simp
        refine (KR.out _).mono ?_
        rintro E y5 ⟨rfl, rfl⟩
        go_wp2_with fail
        refine hK.out _ _ hHeld (fun hHeld => ?_)
        clear hK K
        try simp only [Act.put, List.setIfInBounds_toArray, List.set_cons_zero, List.set_cons_succ]
        refine wpAnyH_ready (rs := [10]) (by kernel_rfl) (by simp) ?_
        refine AllReadyH.cons (by simp only [List.getElem?_toArray, List.getElem?_cons_succ, List.getElem?_cons_zero]; rfl) (fun K hK => ?_) AllReadyH.nil
        go_simp
        refine (KL.out _).mono ?_
        rintro E y6 ⟨rfl, rfl⟩
        go_wp2_with fail
        refine hK.out _ _ hHeld (fun hHeld => ?_)
        clear hK K
        try simp only [Act.put, List.setIfInBounds_toArray, List.set_cons_zero, List.set_cons_succ]
        refine wpAnyH_take (i := 14) (v := ?_) (by simp only [List.getElem?_toArray, List.getElem?_cons_succ, List.getElem?_cons_zero]; rfl) (by kernel_rfl) (by kernel_rfl) (by kernel_rfl) (by exact fun _ _ _ h => h) (Or.inl ⟨by rfl, ?_⟩) (by assumption) ?_
        rotate_left
        · intro wq hSw
          (try dsimp only at hSw)
          go_simp
          all_goals (with_reducible rfl)
        try simp only [Act.put, List.setIfInBounds_toArray, List.set_cons_zero, List.set_cons_succ]
        refine wpAnyH_ready (rs := [16]) (by kernel_rfl) (by simp) ?_
        refine AllReadyH.cons (by simp only [List.getElem?_toArray, List.getElem?_cons_succ, List.getElem?_cons_zero]; rfl) (fun K hK => ?_) AllReadyH.nil
        rw [if_pos (by rfl)]
        refine wp_store28 (.tmp 5) (.tmp 22) rfl g5 rfl ⟨4, T, 0, 4, z16, 4, z16, RR, L, I, false, false, false, 0, [], []⟩ (.slice none 0 0) (.slice none 0 0) rfl zeroPk (.slice none 0 0) (.slice none 0 0) (by exact hbx) ⟨rfl, rfl⟩ ⟨rfl, rfl⟩ rfl rfl ?_
        intro y7 hb2 haw
        have hS : BoxP y7 g2 p ov dv ∧ Away [] w2 y7 := ⟨hHeld.1.away haw (by simp; omega), hHeld.2.next haw (fun x hx => .inr (by simp at hx; omega))⟩
        clear haw
        refine hK.out _ _ hS (fun hHeld => ?_)
        clear hK K
        try simp only [Act.put]
        refine wpAnyH_done (by kernel_rfl) ?_ _
        go_wp2_with fail
        go_meet
        exact ⟨g5, rfl, hb2, hHeld.1, hHeld.2, hza⟩
    · rw [if_pos (by rfl)]
      refine wp_alloc28 rfl ?_
      intro g5 y3 hg5 hbx haw
      have hS : BoxP y3 g2 p ov dv ∧ Away [] w2 y3 := ⟨hHeld.1.on haw, hHeld.2.on haw⟩
      have hza : w2.heap.size ≤ g5 := Nat.le_trans hHeld.2.size hg5
      clear haw
      refine hK.out _ _ hS (fun hHeld => ?_)
      clear hK K
      try simp only [Act.put, List.setIfInBounds_toArray, List.set_cons_zero, List.set_cons_succ]
      refine wpAnyH_ready (rs := [2]) (by kernel_rfl) (by simp) ?_
      refine AllReadyH.cons (by simp only [List.getElem?_toArray, List.getElem?_cons_succ, List.getElem?_cons_zero]; rfl) (fun K hK => ?_) AllReadyH.nil
      go_simp
      refine (KT.out _).mono ?_
      rintro E y4 ⟨rfl, rfl⟩
      go_wp2_with fail
      refine hK.out _ _ hHeld (fun hHeld => ?_)
      clear hK K
      try simp only [Act.put, List.setIfInBounds_toArray, List.set_cons_zero, List.set_cons_succ]
      refine wpAnyH_ready (rs := [7]) (by kernel_rfl) (by simp) ?_
      refine AllReadyH.cons (by simp only [List.getElem?_toArray, List.getElem?_cons_succ, List.getElem?_cons_zero]; rfl) (fun K hK => ?_) AllReadyH.nil
      go_simp
      refine (KR.out _).mono ?_
      rintro E y5 ⟨rfl, rfl⟩
      go_wp2_with fail
      refine hK.out _ _ hHeld (fun hHeld => ?_)
      clear hK K
      try simp only [Act.put, List.setIfInBounds_toArray, List.set_cons_zero, List.set_cons_succ]
      refine wpAnyH_ready (rs := [10]) (by kernel_rfl) (by simp) ?_
      refine AllReadyH.cons (by simp only [List.getElem?_toArray, List.getElem?_cons_succ, List.getElem?_cons_zero]; rfl) (fun K hK => ?_) AllReadyH.nil
      go_simp
      refine (KL.out _).mono ?_
      rintro E y6 ⟨rfl, rfl⟩
      go_wp2_with fail
      refine hK.out _ _ hHeld (fun hHeld => ?_)
      clear hK K
      try simp only [Act.put, List.setIfInBounds_toArray, List.set_cons_zero, List.set_cons_succ]
      refine wpAnyH_take (i := 14) (v := ?_) (by simp only [List.getElem?_toArray, List.getElem?_cons_succ, List.getElem?_cons_zero]; rfl) (by kernel_rfl) (by kernel_rfl) (by kernel_rfl) (by exact fun _ _ _ h => h) (Or.inl ⟨by rfl, ?_⟩) (by assumption) ?_
      rotate_left
      · intro wq hSw
        (try dsimp only at hSw)
        go_simp
        all_goals (with_reducible rfl)
      try simp only [Act.put, List.setIfInBounds_toArray, List.set_cons_zero, List.set_cons_succ]
      refine wpAnyH_ready (rs := [16]) (by kernel_rfl) (by simp) ?_
      refine AllReadyH.cons (by simp only [List.getElem?_toArray, List.getElem?_cons_succ, List.getElem?_cons_zero]; rfl) (fun K hK => ?_) AllReadyH.nil
      rw [if_pos (by rfl)]
      refine wp_store28 (.tmp 5) (.tmp 22) rfl g5 rfl ⟨4, T, 0, 4, z16, 4, z16, RR, L, I, false, false, false, 0, [], []⟩ (.slice none 0 0) (.slice none 0 0) rfl zeroPk (.slice none 0 0) (.slice none 0 0) (by exact hbx) ⟨rfl, rfl⟩ ⟨rfl, rfl⟩ rfl rfl ?_
      intro y7 hb2 haw
      have hS : BoxP y7 g2 p ov dv ∧ Away [] w2 y7 := ⟨hHeld.1.away haw (by simp; omega), hHeld.2.next haw (fun x hx => .inr (by simp at hx; omega))⟩
      clear haw
      refine hK.out _ _ hS (fun hHeld => ?_)
      clear hK K
      try simp only [Act.put]
      refine wpAnyH_done (by kernel_rfl) ?_ _
      go_wp2_with fail
      go_meet
      exact ⟨g5, rfl, hb2, hHeld.1, hHeld.2, hza⟩
  case rest =>
  obtain ⟨g5, rfl, hb5, hbp, haw, hg5⟩ := hcut
  obtain ⟨o1, o2, hoe, -, -, -⟩ := HP.out.o
  obtain ⟨o3, o4, hde, -, -, -⟩ := HP.out.d
  have HM : Hid (MS w wc g2 g4 g5 p ⟨4, T, 0, 4, stB p.sb 0, 4, stB p.db 0, RR, L, I, false, false, false, 0, [], []⟩ ov dv (.slice none 0 0)) :=
    ⟨hbp, HB4.out.on haw, hb5, HA2.out.on haw, ⟨rfl, rfl⟩, by omega, by omega, by omega, by omega, by omega, Owns.nil _, New.nil _, by simp [Value.ownBlock]⟩
  clear hb5 hbp haw hg5 HB1 HB4 HA2 hl1 hl2 hs1 hs2 hg2 hg4 KT KR KL hI'
  go_wp2_with fail
  go_loopw [6] (fun i wr => ∃ k : Nat, k ≤ 4 ∧ i = .int .i64 k ∧ MS w wr g2 g4 g5 p ⟨4, T, 0, 4, stB p.sb k, 4, stB p.db k, RR, L, I, false, false, false, 0, [], []⟩ ov dv (.slice none 0 0)) (fun i _ => 4 - (intOf i).toNat)
  case atStart => exact ⟨0, by omega, rfl, HM.out⟩
  case round =>
    obtain ⟨k, hk, rfl, hm⟩ := hrel
    replace HM := Lib.hid hm
    clear hm
    obtain rfl | rfl | rfl | rfl | rfl : k = 0 ∨ k = 1 ∨ k = 2 ∨ k = 3 ∨ k = 4 := by omega
    · obtain ⟨x, a1, a2, a3, hm'⟩ := HM.out.sby HAD.out 0 (by omega) rfl
      simp only [Nat.reduceAdd] at a1 a2 a3 hm'
      have HM' := Lib.hid hm'
      clear hm' HM
      go_upto_region 6 with fail
      clear a1 a2 a3
      generalize wr.setCell ⟨g5, 4, none⟩ (.int .u8 x) = wy at *
      obtain ⟨y, a1, a2, a3, hm'⟩ := HM'.out.dby HAD.out 0 (by omega) rfl
      simp only [Nat.reduceAdd] at a1 a2 a3 hm'
      have HM := Lib.hid hm'
      clear hm' HM'
      go_wp2_with fail
      go_roundw
      case rel => exact ⟨1, by omega, by rfl, HM.out⟩
      case measure => simp [intOf]
    · obtain ⟨x, a1, a2, a3, hm'⟩ := HM.out.sby HAD.out 1 (by omega) rfl
      simp only [Nat.reduceAdd] at a1 a2 a3 hm'
      have HM' := Lib.hid hm'
      clear hm' HM
      go_upto_region 6 with fail
      clear a1 a2 a3
      generalize wr.setCell ⟨g5, 5, none⟩ (.int .u8 x) = wy at *
      obtain ⟨y, a1, a2, a3, hm'⟩ := HM'.out.dby HAD.out 1 (by omega) rfl
      simp only [Nat.reduceAdd] at a1 a2 a3 hm'
      have HM := Lib.hid hm'
      clear hm' HM'
      go_wp2_with fail
      go_roundw
      case rel => exact ⟨2, by omega, by rfl, HM.out⟩
      case measure => simp [intOf]
    · obtain ⟨x, a1, a2, a3, hm'⟩ := HM.out.sby HAD.out 2 (by omega) rfl
      simp only [Nat.reduceAdd] at a1 a2 a3 hm'
      have HM' := Lib.hid hm'
      clear hm' HM
      go_upto_region 6 with fail
      clear a1 a2 a3
      generalize wr.setCell ⟨g5, 6, none⟩ (.int .u8 x) = wy at *
      obtain ⟨y, a1, a2, a3, hm'⟩ := HM'.out.dby HAD.out 2 (by omega) rfl
      simp only [Nat.reduceAdd] at a1 a2 a3 hm'
      have HM := Lib.hid hm'
      clear hm' HM'
      go_wp2_with fail
      go_roundw
      case rel => exact ⟨3, by omega, by rfl, HM.out⟩
      case measure => simp [intOf]
    · obtain ⟨x, a1, a2, a3, hm'⟩ := HM.out.sby HAD.out 3 (by omega) rfl
      simp only [Nat.reduceAdd] at a1 a2 a3 hm'
      have HM' := Lib.hid hm'
      clear hm' HM
      go_upto_region 6 with fail
      clear a1 a2 a3
      generalize wr.setCell ⟨g5, 7, none⟩ (.int .u8 x) = wy at *
      obtain ⟨y, a1, a2, a3, hm'⟩ := HM'.out.dby HAD.out 3 (by omega) rfl
      simp only [Nat.reduceAdd] at a1 a2 a3 hm'
      have HM := Lib.hid hm'
      clear hm' HM'
      go_wp2_with fail
      go_roundw
      case rel => exact ⟨4, by omega, by rfl, HM.out⟩
      case measure => simp [intOf]
    · have c44 := (HM.out.b1.cells HAD.out).o
      rw [hoe] at c44 KV
      go_wp2_with fail
      refine (KV.out _ HM.out.aw).mono ?_
      rintro E w6 ⟨rfl, haw⟩
      replace HM := Lib.hid (HM.out.on haw)
      clear haw c44
      obtain ⟨bv, hbv⟩ : ∃ b, b = validP p.o := ⟨_, rfl⟩
      have HBV := Lib.hid hbv
      rw [← hbv]
      clear hbv
      go_upto_if 47 with fail
      go_cut [] (fun wc => ∃ o ou, Bytes o ∧ validP o = true ∧ MS w wc g2 g4 g5 p ⟨4, T, 0, 4, stB p.sb 4, 4, stB p.db 4, RR, L, I, false, false, false, 0, o, []⟩ ov dv ou)
      case first =>
        cases bv
        · go_wp2_with fail
          go_meet
          exact ⟨[], _, Bytes.nil, by unfold validP; rw [parseP_nil]; rfl, HM.out⟩
        · have c44 := (HM.out.b1.cells HAD.out).o
          rw [hoe] at c44
          have d44 := (HM.out.b3.cells HM.out.ad).o
          have hol := HW.out.ol
          have HSL : Hid (Sl w6 (.slice o1 p.o.length o2) p.o) := by show Sl _ _ _; rw [← hoe]; exact (HP.out.on HM.out.aw).o
          go_wp2_with (refine wpList_appAny rfl _ _ rfl _ _ p.o rfl (Owns.nil _) _ rfl (by exact HSL.out) (by simpa using hol) ?_; refine Hid.out ?_)
          refine Lib.hid ?_
          intro v7 w7 hown haway hmoved hsz
          have ha7 : Away [] w6 w7 := haway [] w6 (Away.refl _ _) (by simp [Value.ownBlock])
          have hown7 : Owns w7 v7 p.o := by simpa using hown
          have HN7 := Lib.hid (show ∀ k, v7.ownBlock = some k → k ≠ g2 ∧ k ≠ g4 ∧ k ≠ g5 ∧ w.heap.size ≤ k from fun k hk => by
            have h1 : w6.heap.size ≤ k := by rcases hmoved k hk with h | h; simp [Value.ownBlock] at h; exact h
            have l1 := HM.out.b1.lt; have l2 := HM.out.b2.lt; have l3 := HM.out.b3.lt; have l4 := HM.out.aw.size
            exact ⟨by omega, by omega, by omega, by omega⟩)
          obtain ⟨x1, x2, x3, rfl⟩ := hown7.shp
          replace HM := Lib.hid (HM.out.on ha7)
          have HM2 := Lib.hid (HM.out.seto hown7 HN7.out)
          have s44 := (HM.out.b3.cells HM.out.ad).o
          have t44 := HM.out.b3.free 44
          clear c44 d44 HSL hown haway hmoved ha7 hown7 HM hsz
          go_wp2_with fail
          go_meet
          exact ⟨p.o, _, HW.out.o, HBV.out.symm, HM2.out⟩
      case rest =>
      obtain ⟨o, ou, hbo, hvo, hm⟩ := hcut
      replace HM := Lib.hid hm
      have h40 := (valid_len hvo).1
      have HHF := Lib.hid (half4 HW.out BT BR BL BI false o hbo hvo)
      obtain ⟨oa, oc, hou, -, -, -⟩ := HM.out.oo.sl hbo (by show o.length ≤ _; omega)
      have HOU := Lib.hid hou
      obtain ⟨N, hN⟩ : ∃ N : Nat, N = min p.d.length (65515 - o.length) := ⟨_, rfl⟩
      have hN1 : N ≤ p.d.length ∧ N ≤ 65515 - o.length := by omega
      have c45 := (HM.out.b1.cells HAD.out).d
      rw [hde] at c45
      have c44 : wc.cell? ⟨g5, 44, none⟩ = some (.slice oa o.length oc) := by rw [← hou]; exact (HM.out.b3.cells HM.out.ad).o
      clear hm hou
      go_upto_region 9 with fail
      go_cut [7] (fun v wx => v = .int .i64 (N : Int) ∧ wx = wc)
      case first =>
        have hNe : min (p.d.length : Int) (65515 - (o.length : Int)) = (N : Int) := by omega
        have HNE := Lib.hid hNe
        clear hN hN1 hNe
        go_wp2_with fail
        go_meet
        exact ⟨by rw [HNE.out], rfl⟩
      case rest =>
      obtain ⟨rfl, rfl⟩ := hcut
      clear c44 c45 hN
      have hdd := (HP.out.on HM.out.aw).d
      rw [hde] at hdd
      have HSD : Hid (Sl wc (.slice o3 N o4) (p.d.take N)) := by
        obtain ⟨a, c, e, y1, y2, y3⟩ := hdd
        simp only [Value.slice.injEq] at e
        obtain ⟨rfl, -, rfl⟩ := e
        refine ⟨o3, o4, by rw [List.length_take, Nat.min_eq_left hN1.1], by rw [List.length_take]; omega, y2, y3.head _⟩
      have hcap : N ≤ o4 := by
        obtain ⟨a, c, e, y1, y2, y3⟩ := hdd
        simp only [Value.slice.injEq] at e
        obtain ⟨-, -, rfl⟩ := e
        omega
      have hsl := slice_h o3 p.d.length o4 N (N : Int) rfl hcap
      clear hdd
      go_wp2_with fail
      have ck : BoxP wc.drew g2 p ov dv ∧ BoxP wc.drew g5 ⟨4, T, 0, 4, stB p.sb 4, 4, stB p.db 4, RR, L, I, false, false, false, 0, o, []⟩ ou (.slice none 0 0) ∧ Away [] wc wc.drew := ⟨HM.out.b1, HM.out.b3, (Away.refl [] wc).drew⟩
      refine wp_region_U [8] (fun w' => BoxP w' g2 p ov dv ∧ BoxP w' g5 ⟨4, T, 0, 4, stB p.sb 4, 4, stB p.db 4, RR, L, I, false, false, false, 0, o, []⟩ ou (.slice none 0 0) ∧ Away [] wc w') (by kernel_rfl) ?_
      refine wpAnyU_take (i := 0) (v := ?_) (by simp only [List.getElem?_toArray, List.getElem?_cons_zero]; rfl) (by kernel_rfl) (by kernel_rfl) (by kernel_rfl) (by decide) (by decide) (by unfold Un; kernel_rfl) (by exact fun _ _ _ h => h) (Or.inl ⟨by rfl, ?_⟩) (by exact ck) ?_
      rotate_left
      · intro wq hSw
        (try dsimp only at hSw)
        go_simp
        all_goals (with_reducible rfl)
      try simp only [Act.put, List.setIfInBounds_toArray, List.set_cons_zero, List.set_cons_succ]
      refine wpAnyU_take (i := 1) (by simp only [List.getElem?_toArray, List.getElem?_cons_succ, List.getElem?_cons_zero]; rfl) (by kernel_rfl) (by kernel_rfl) (by kernel_rfl) (by decide) (by decide) (by unfold Un; kernel_rfl) (by exact fun _ _ _ h => h) (yields_ld (ad := ⟨g5, 45, none⟩) (by rfl) _ rfl rfl (fun w' h => S6.ld26 (h.2.1.cells HM.out.ad).d)) (by exact ck) ?_
      try simp only [Act.put, List.setIfInBounds_toArray, List.set_cons_zero, List.set_cons_succ]
      refine wpAnyU_take (i := 2) (v := ?_) (by simp only [List.getElem?_toArray, List.getElem?_cons_succ, List.getElem?_cons_zero]; rfl) (by kernel_rfl) (by kernel_rfl) (by kernel_rfl) (by decide) (by decide) (by unfold Un; kernel_rfl) (by exact fun _ _ _ h => h) (Or.inl ⟨by rfl, ?_⟩) (by exact ck) ?_
      rotate_left
      · intro wq hSw
        (try dsimp only at hSw)
        go_simp
        all_goals (with_reducible rfl)
      try simp only [Act.put, List.setIfInBounds_toArray, List.set_cons_zero, List.set_cons_succ]
      refine wpAnyU_take (i := 3) (by simp only [List.getElem?_toArray, List.getElem?_cons_succ, List.getElem?_cons_zero]; rfl) (by kernel_rfl) (by kernel_rfl) (by kernel_rfl) (by decide) (by decide) (by unfold Un; kernel_rfl) (by exact fun _ _ _ h => h) (yields_ld (ad := ⟨g2, 45, none⟩) (by rfl) _ rfl rfl (fun w' h => S6.ld26 (by rw [← hde]; exact (h.1.cells HAD.out).d))) (by exact ck) ?_
      try simp only [Act.put, List.setIfInBounds_toArray, List.set_cons_zero, List.set_cons_succ]
      refine wpAnyU_take (i := 4) (v := ?_) (by simp only [List.getElem?_toArray, List.getElem?_cons_succ, List.getElem?_cons_zero]; rfl) (by kernel_rfl) (by kernel_rfl) (by kernel_rfl) (by decide) (by decide) (by unfold Un; kernel_rfl) (by exact fun _ _ _ h => h) (Or.inl ⟨by rfl, ?_⟩) (by exact ck) ?_
      rotate_left
      · intro wq hSw
        (try dsimp only at hSw)
        go_simp
        all_goals (with_reducible rfl)
      try simp only [Act.put, List.setIfInBounds_toArray, List.set_cons_zero, List.set_cons_succ]
      refine wpAnyU_take (i := 5) (v := ?_) (by simp only [List.getElem?_toArray, List.getElem?_cons_succ, List.getElem?_cons_zero]; rfl) (by kernel_rfl) (by kernel_rfl) (by kernel_rfl) (by decide) (by decide) (by unfold Un; kernel_rfl) (by exact fun _ _ _ h => h) (Or.inl ⟨by rfl, ?_⟩) (by exact ck) ?_
      rotate_left
      · intro wq hSw
        (try dsimp only at hSw)
        go_simp
        all_goals (with_reducible rfl)
      try simp only [Act.put, List.setIfInBounds_toArray, List.set_cons_zero, List.set_cons_succ]
      refine wpAnyU_ready (rs := [6]) (by kernel_rfl) (by simp) ?_
      refine ReadyU.cons (by simp only [List.getElem?_toArray, List.getElem?_cons_succ, List.getElem?_cons_zero]; rfl) (fun K hK => ?_) ReadyU.nil
      rw [if_pos (by rfl)]
      refine wp_appAny _ _ rfl (.slice none 0 0) [] (p.d.take N) rfl (Owns.nil _) (.slice o3 N o4) rfl (by exact HSD.out.on ck.2.2) (by simp; have := HW.out.dn; omega) ?_
      intro v8 w8 hown haway hmoved hsz
      have ha8 := haway [] _ (Away.refl _ _) (by simp [Value.ownBlock])
      have hown8 : Owns w8 v8 (p.d.take N) := by simpa using hown
      have hn8 : ∀ k, v8.ownBlock = some k → wc.heap.size ≤ k := fun k hk => by rcases hmoved k hk with h | h; simp [Value.ownBlock] at h; exact h
      obtain ⟨x1, x2, x3, rfl⟩ := hown8.shp
      replace ck : BoxP w8 g2 p ov dv ∧ BoxP w8 g5 _ ou (.slice none 0 0) ∧ Away [] wc w8 := ⟨ck.1.on ha8, ck.2.1.on ha8, ck.2.2.on ha8⟩
      refine hK.out _ _ (fun _ => ck) ?_
      clear hK K
      try simp only [Act.put, List.setIfInBounds_toArray, List.set_cons_zero, List.set_cons_succ]
      refine wpAnyU_take (i := 7) (v := ?_) (by simp only [List.getElem?_toArray, List.getElem?_cons_succ, List.getElem?_cons_zero]; rfl) (by kernel_rfl) (by kernel_rfl) (by kernel_rfl) (by decide) (by decide) (by unfold Un; kernel_rfl) (by exact fun _ _ _ h => h) (Or.inl ⟨by rfl, ?_⟩) (by exact ck) ?_
      rotate_left
      · intro wq hSw
        (try dsimp only at hSw)
        go_simp
        all_goals (with_reducible rfl)
      try simp only [Act.put, List.setIfInBounds_toArray, List.set_cons_zero, List.set_cons_succ]
      refine wpAnyU_ready (rs := [8]) (by kernel_rfl) (by simp) ?_
      refine ReadyU.cons (by simp only [List.getElem?_toArray, List.getElem?_cons_succ, List.getElem?_cons_zero]; rfl) (fun K hK => ?_) ReadyU.nil
      refine step_store26 rfl 96 95 rfl g5 45 rfl x1 x2 x3 rfl _ (by exact (ck.2.1.cells HM.out.ad).d) (by exact ck.2.1.free 45) ?_
      refine hK.out _ _ (by intro h; simp [Un] at h) ?_
      clear hK K
      try simp only [Act.put]
      refine wpAnyU_done (by kernel_rfl) ?_ _
      have hM8 := HM.out.on ck.2.2
      have hA9 := away_put (w := w8) (g := g5) 45 (.slice x1 x2 x3)
      have HBQ := Lib.hid (hM8.b3.put 45 (.slice x1 x2 x3) ((csP_set hM8.ad _ _).2.2.2.2.2.2.2.2.2.2.2.2.2 (p.d.take N) (.slice x1 x2 x3)))
      have HB2 := Lib.hid (hM8.b2.away hA9 (by simp; exact hM8.e3))
      have HA9 := Lib.hid (hM8.aw.next hA9 (fun x hx => .inr (by simp at hx; have := hM8.n3; omega)))
      have HOU9 := Lib.hid (hM8.oo.away hA9 (fun k hk => by simpa using (hM8.o1 k hk).2.2))
      have hbl2 := HM.out.b2.lt; have hbl3 := HM.out.b3.lt; have hlo := HM.out.oo.lt; have hsw := HM.out.aw.size
      have HOD9 := Lib.hid (hown8.away hA9 (fun k hk => by have := hn8 k hk; simp; omega))
      have HX := Lib.hid (show New w.heap.size ou ∧ w.heap.size ≤ g4 ∧ (∀ k, ou.ownBlock = some k → k ≠ g4) ∧ New w.heap.size (.slice x1 x2 x3) ∧ (∀ k, (Value.slice x1 x2 x3).ownBlock = some k → k ≠ g4) ∧ (∀ k, ou.ownBlock = some k → (Value.slice x1 x2 x3).ownBlock ≠ some k) from ⟨hM8.no, hM8.n2, fun k hk => (hM8.o1 k hk).2.1, fun k hk => by have := hn8 k hk; omega, fun k hk => by have := hn8 k hk; omega, fun k hk e => by have h1 := hn8 k e; have h2 := hlo k hk; omega⟩)
      obtain ⟨hu, hwf⟩ := HHF.out.2.2.2 (p.d.take N) (HW.out.d.take N) (by simp; omega)
      obtain ⟨QQ, hQ⟩ : ∃ Q : Pk, Q = ⟨4, T, 0, 4, stB p.sb 4, 4, stB p.db 4, RR, L, I, false, false, false, 0, o, p.d.take N⟩ := ⟨_, rfl⟩
      have HQ := Lib.hid (show Unc QQ ∧ Wf QQ ∧ QQ.v = 4 ∧ QQ.df = false ∧ QQ.o = o ∧ QQ.d = p.d.take N from ⟨by rw [hQ]; exact hu, by rw [hQ]; exact hwf, by rw [hQ], by rw [hQ], by rw [hQ], by rw [hQ]⟩)
      replace HBQ : Hid (BoxP (w8.setCell ⟨g5, 45, none⟩ (.slice x1 x2 x3)) g5 QQ ou (.slice x1 x2 x3)) := by show BoxP _ _ _ _ _; rw [hQ]; exact HBQ.out
      have HQA := Lib.hid HQ.out.2.1.ad
      have HOU1 := Lib.hid HOU9.out.one
      clear hM8 hA9 hown8 hn8 hown haway hmoved hsz ha8 ck hbl2 hbl3 hlo hsw hQ hu hwf HHF HM
      generalize w8.setCell ⟨g5, 45, none⟩ (.slice x1 x2 x3) = w9 at *
      go_wp2_with (first
        | (refine wpList_load28 rfl _ rfl g5 rfl QQ _ _ (by exact HBQ.out) HQA.out ?_)
        | (refine wpList_store28 rfl _ _ rfl g4 rfl QQ ou (.slice x1 x2 x3) rfl zeroPk (.slice none 0 0) (.slice none 0 0) (by exact HB2.out) HQA.out ⟨rfl, rfl⟩ HOU1.out rfl ?_; refine Hid.out ?_))
      refine Lib.hid ?_
      intro w10 hb10 haw10
      have hx := HX.out
      have HB10 := Lib.hid hb10
      have HA10 : Hid (Away [] w w10) := HA9.out.next haw10 (fun x hx' => .inr (by simp at hx'; omega))
      have HMI : Hid (Mine w10 w.heap.size QQ ou (.slice x1 x2 x3)) := ⟨by rw [HQ.out.2.2.2.2.1]; exact HOU9.out.away haw10 (fun k hk => by simpa using hx.2.2.1 k hk), by rw [HQ.out.2.2.2.2.2]; exact HOD9.out.away haw10 (fun k hk => by simpa using hx.2.2.2.2.1 k hk), hx.1, hx.2.2.2.1, hx.2.2.2.2.2⟩
      clear hb10 haw10
      go_wp2_with fail
      exact bodyPost_ret (result28 rfl _ _ _ _ _ _ rfl HB10.out HQA.out) rfl ⟨QQ, _, _, rfl, HQ.out.1, HQ.out.2.1, HQ.out.2.2.1, HQ.out.2.2.2.1, HMI.out, HA10.out⟩
end R
#print axioms R.right_c
end Go.Proofs.YtaicckenpplceaaDoor
