/-
  parted of package cut.
-/
import Derived.Test.YtaicckenpplceaaGreatDoorPc
import Derived.Test.YtaicckenpplceaaGreatDoorEq
namespace Go.Proofs.YtaicckenpplceaaGreatDoor
open Go.ChangeShapes Go.WideShapes Go.ChangeAt Go.RowKit Num S6
set_option linter.unusedVariables false
set_option maxHeartbeats 4000000
set_option maxRecDepth 100000

theorem quiet_slh {o : Oper} {a : Act} {C : World → Prop} {K : Act → Prop} {v : Value} {sa : Option Addr} {n c : Nat} {lo hi : Int} (x l h : Operand) (ho : o.op = .slice 27 x (some l) (some h) none) (hx : a.eval x = .slice sa n c) (hl : a.eval l = .int .i64 lo) (hh : a.eval h = .int .i64 hi)
    (hS : ∀ w, (Instr.sliceAt 27 (.slice sa n c) (some (.int .i64 lo)) (some (.int .i64 hi)) none).run Tryz.prog w = .ok v w) (hk : K (a.put o.dst v)) : o.quiet Tryz.prog a C K := by
  refine ⟨v, fun w hw => ?_, hk⟩
  unfold Oper.quietAt execOp
  simp only [ho, hx, hl, hh, Option.map_none, Option.map_some, Sem.run_bind, hS w, Result.andThen_ok, Sem.run_pure]
  exact ⟨rfl, rfl⟩
theorem drop_cons {xs : List X} {k : Nat} {x : X} (h : xs[k]? = some x) : xs.drop k = x :: xs.drop (k + 1) := by
  have hk := lt_of_get h
  rw [List.drop_eq_getElem_cons hk]
  rw [List.getElem?_eq_getElem hk] at h
  rw [Option.some.inj h]
theorem frm_wf {p f : Pk} (hu : Unc p) (hw : Wf p) (hf : Frm p f) : Wf f := by
  have := hf.wf hw 0 (by omega) [] Bytes.nil (by simp) false
  have e : f = plcP f 0 [] false := by
    unfold plcP
    by_cases hv : p.v = 6
    · obtain ⟨id, rfl, -⟩ := hf.h6 hv; simp [hu.off, hu.more]
    · obtain ⟨o, rfl, -⟩ := hf.h4 hv; simp [hu.off, hu.more]
  rw [e]; exact this
theorem parted_c (p : Pk) (ov dv : Value) (m : Int) (a : Option Addr) (x0 : X) (xs' : List X) (len cap : Nat) (w : World) (hlen : (x0 :: xs').length = len) (hp : Pkt w p ov dv) (hx : Pks w a (x0 :: xs')) (hg : Glob w) (hu : Unc p) :
    Calls Tryz.prog 84 #[.agg (csP p ov dv), .int .i64 m, .slice a len cap] w fun E w' => E = .returned (.bool (partP p m (latP p x0.p.id) (fstP p x0.p.id) 0 ((x0 :: xs').map X.p))) ∧ Away [] w w' := by
  obtain ⟨xs, hxs⟩ : ∃ xs, xs = x0 :: xs' := ⟨_, rfl⟩
  have h00 : xs[0]? = some x0 := by rw [hxs]; rfl
  rw [← hxs] at hlen hx ⊢
  clear hxs
  have HAD := Lib.hid hp.wf.ad
  have HW := Lib.hid hp.wf
  have HU := Lib.hid hu
  have HG := Lib.hid hg
  have HX := Lib.hid hx
  have hxl := hx.1
  obtain ⟨xb, xo, hxa, hr0, hok0⟩ := hx.at h00
  subst hxa
  have hwf0 := hok0.wf
  have HID : Hid (0 ≤ x0.p.id ∧ x0.p.id ≤ 4294967295) := ⟨hwf0.id0, hwf0.id1⟩
  have HAD0 := Lib.hid hwf0.ad
  obtain ⟨id, hid⟩ : ∃ id, id = x0.p.id := ⟨_, rfl⟩
  have HR0 : Hid (w.cell? ⟨xb, xo + 39, none⟩ = some (.int .u32 id)) := by
    show _ = _
    rw [hid]
    have h2 := hr0 39 (.int .u32 x0.p.id) (by
      have := (csP_get hwf0.ad x0.o x0.d).2.2.2.2.2.2.2.1
      simpa [X.cells, csP] using this)
    simpa using h2
  rw [← hid] at HID ⊢
  clear hr0 hok0 hwf0 hid HAD0
  have HF1 : Hid (Frm p (fstP p id)) := hu.fst hp.wf HID.out.1 HID.out.2
  have HF2 : Hid (Frm p (latP p id)) := hu.lat hp.wf HID.out.1 HID.out.2
  have KF : Hid (∀ w', Away [] w w' → Calls Tryz.prog 92 #[.agg (csP p ov dv), .int .u32 id] w' fun E w'' => FrOut w' p ov id E w'') := fun w' h => frames_c p ov dv id w' (hp.on h) (hg.on h)
  have HOO := Lib.hid hp.o
  have HOL : Hid (Old w.heap.size ov p.o) := hp.o.old
  have HFA : Hid (Ad (fstP p id)) := fst_ad hp.wf.ad id
  have HLA : Hid (Ad (latP p id)) := lat_ad hp.wf.ad id
  have hdl : p.d.length ≤ 65535 := hu.all.1
  have HOV1 := Lib.hid hp.ov
  obtain ⟨-, -, ⟨ad, capd, rfl, q1, q2, q3⟩⟩ := hp
  have HR : Hid (Row w ad p.d) := q3
  have HCAP : Hid (p.d.length ≤ capd ∧ (ad = none → capd = 0)) := ⟨q1, q2⟩
  have hl0 : 0 < xs.length := lt_of_get h00
  clear hg hu q3 q1 q2 hx h00
  subst hlen
  obtain ⟨z, hz⟩ : ∃ z, z = partP p m (latP p id) (fstP p id) 0 (xs.map X.p) := ⟨_, rfl⟩
  rw [← hz]
  have HZ0 := Lib.hid hz
  clear hz
  go_enter Tryz.func84, Tryz.ntmps84
  go_wp2_with (refine wpList_box28 rfl _ rfl p _ _ rfl ?_; refine Hid.out ?_)
  refine Lib.hid ?_
  intro g3 w1 hg3 hb3 haw1
  have HB3 := Lib.hid hb3; have HA := Lib.hid haw1
  have hl3 := hb3.lt
  have hs1 := haw1.size
  clear hb3 haw1
  have x3 : (0 : Int) < (xs.length : Int) := by omega
  go_upto_region 1 with fail
  go_cut [7, 8] (fun v7 v8 wc => ∃ g7 g8 cv, v7 = .pointer (some ⟨g7, 0, none⟩) ∧ v8 = .pointer (some ⟨g8, 0, none⟩) ∧ BoxP wc g7 (fstP p id) ov (.slice none 0 0) ∧ BoxP wc g8 (latP p id) cv (.slice none 0 0) ∧ Owns wc cv (carryP p.o) ∧ (∀ k, cv.ownBlock = some k → k ≠ g7) ∧ Away [] w1 wc ∧ w1.heap.size ≤ g7 ∧ w1.heap.size ≤ g8 ∧ g7 ≠ g8)
  case first =>
    refine wp_region_held_drew (S := (fun w' => Away [] w1 w')) (by kernel_rfl) ((Away.refl [] w1).drew) (fun hHeld => ?_)
    refine wpAnyH_take (i := 0) (by simp only [List.getElem?_toArray, List.getElem?_cons_zero]; rfl) (by kernel_rfl) (by kernel_rfl) (by kernel_rfl) (by exact fun _ _ _ h => h) (yields_ld (ad := ⟨g3, 0, none⟩) (by rfl) _ rfl rfl (fun w' h => load28_run (HB3.out.on h) HAD.out)) (by assumption) ?_
    try simp only [Act.put, List.setIfInBounds_toArray, List.set_cons_zero, List.set_cons_succ]
    refine wpAnyH_take (i := 1) (v := ?_) (by simp only [List.getElem?_toArray, List.getElem?_cons_succ, List.getElem?_cons_zero]; rfl) (by kernel_rfl) (by kernel_rfl) (by kernel_rfl) (by exact fun _ _ _ h => h) (Or.inl ⟨by rfl, ?_⟩) (by assumption) ?_
    rotate_left
    · intro wq hSw
      (try dsimp only at hSw)
      go_simp
      all_goals (with_reducible rfl)
    try simp only [Act.put, List.setIfInBounds_toArray, List.set_cons_zero, List.set_cons_succ]
    refine wpAnyH_take (i := 2) (v := ?_) (by simp only [List.getElem?_toArray, List.getElem?_cons_succ, List.getElem?_cons_zero]; rfl) (by kernel_rfl) (by kernel_rfl) (by kernel_rfl) (by exact fun _ _ _ h => h) (Or.inl ⟨by rfl, ?_⟩) (by assumption) ?_
    rotate_left
    · intro wq hSw
      (try dsimp only at hSw)
      go_simp
      all_goals (with_reducible rfl)
    try simp only [Act.put, List.setIfInBounds_toArray, List.set_cons_zero, List.set_cons_succ]
    refine wpAnyH_take (i := 3) (v := ?_) (by simp only [List.getElem?_toArray, List.getElem?_cons_succ, List.getElem?_cons_zero]; rfl) (by kernel_rfl) (by kernel_rfl) (by kernel_rfl) (by exact fun _ _ _ h => h) (Or.inl ⟨by rfl, ?_⟩) (by assumption) ?_
    rotate_left
    · intro wq hSw
      (try dsimp only at hSw)
      go_simp
      all_goals (with_reducible rfl)
    try simp only [Act.put, List.setIfInBounds_toArray, List.set_cons_zero, List.set_cons_succ]
    refine wpAnyH_take (i := 4) (by simp only [List.getElem?_toArray, List.getElem?_cons_succ, List.getElem?_cons_zero]; rfl) (by kernel_rfl) (by kernel_rfl) (by kernel_rfl) (by exact fun _ _ _ h => h) (yields_ld (ad := ⟨xb, xo + 39, none⟩) (by rfl) _ rfl rfl (fun w' h => ld25 (by exact (HA.out.on h).cell (by simp) HR0.out))) (by assumption) ?_
    try simp only [Act.put, List.setIfInBounds_toArray, List.set_cons_zero, List.set_cons_succ]
    refine wpAnyH_ready (rs := [5, 9, 10]) (by kernel_rfl) (by simp) ?_
    refine AllReadyH.cons (by simp only [List.getElem?_toArray, List.getElem?_cons_succ, List.getElem?_cons_zero]; rfl) (fun K hK => ?_) (AllReadyH.cons (by simp only [List.getElem?_toArray, List.getElem?_cons_succ, List.getElem?_cons_zero]; rfl) (fun K hK => ?_) (AllReadyH.cons (by simp only [List.getElem?_toArray, List.getElem?_cons_succ, List.getElem?_cons_zero]; rfl) (fun K hK => ?_) AllReadyH.nil))
    · go_simp
      refine (KF.out _ (HA.out.on hHeld)).mono ?_
      rintro E y1 ⟨cv, rfl, hown, hnew, haw⟩
      have hS := hHeld.on haw
      have hcvl := hown.lt
      clear haw hnew
      go_wp2_with fail
      refine hK.out _ _ hS (fun hHeld => ?_)
      clear hK K
      try simp only [Act.put, List.setIfInBounds_toArray, List.set_cons_zero, List.set_cons_succ]
      refine wpAnyH_take (i := 6) (v := ?_) (by simp only [List.getElem?_toArray, List.getElem?_cons_succ, List.getElem?_cons_zero]; rfl) (by kernel_rfl) (by kernel_rfl) (by kernel_rfl) (by exact fun _ _ _ h => h) (Or.inl ⟨by rfl, ?_⟩) (by assumption) ?_
      rotate_left
      · intro wq hSw
        (try dsimp only at hSw)
        go_simp
        all_goals (with_reducible rfl)
      try simp only [Act.put, List.setIfInBounds_toArray, List.set_cons_zero, List.set_cons_succ]
      refine wpAnyH_take (i := 7) (v := ?_) (by simp only [List.getElem?_toArray, List.getElem?_cons_succ, List.getElem?_cons_zero]; rfl) (by kernel_rfl) (by kernel_rfl) (by kernel_rfl) (by exact fun _ _ _ h => h) (Or.inl ⟨by rfl, ?_⟩) (by assumption) ?_
      rotate_left
      · intro wq hSw
        (try dsimp only at hSw)
        go_simp
        all_goals (with_reducible rfl)
      try simp only [Act.put, List.setIfInBounds_toArray, List.set_cons_zero, List.set_cons_succ]
      refine wpAnyH_take (i := 8) (v := ?_) (by simp only [List.getElem?_toArray, List.getElem?_cons_succ, List.getElem?_cons_zero]; rfl) (by kernel_rfl) (by kernel_rfl) (by kernel_rfl) (by exact fun _ _ _ h => h) (Or.inl ⟨by rfl, ?_⟩) (by assumption) ?_
      rotate_left
      · intro wq hSw
        (try dsimp only at hSw)
        go_simp
        all_goals (with_reducible rfl)
      try simp only [Act.put, List.setIfInBounds_toArray, List.set_cons_zero, List.set_cons_succ]
      refine wpAnyH_ready (rs := [9, 10]) (by kernel_rfl) (by simp) ?_
      refine AllReadyH.cons (by simp only [List.getElem?_toArray, List.getElem?_cons_succ, List.getElem?_cons_zero]; rfl) (fun K hK => ?_) (AllReadyH.cons (by simp only [List.getElem?_toArray, List.getElem?_cons_succ, List.getElem?_cons_zero]; rfl) (fun K hK => ?_) AllReadyH.nil)
      · rw [if_pos (by rfl)]
        refine wp_alloc28 rfl ?_
        intro g7 y2 hg7 hb7 haw
        have hS := hHeld.on haw
        have hz7 : w1.heap.size ≤ g7 := Nat.le_trans hHeld.size hg7
        have hcv7 : ∀ k, cv.ownBlock = some k → k ≠ g7 := fun k hk => by have := hown.lt k hk; omega
        replace hown := hown.on haw
        have hlt7 := hb7.lt
        clear haw hg7
        refine hK.out _ _ hS (fun hHeld => ?_)
        clear hK K
        try simp only [Act.put, List.setIfInBounds_toArray, List.set_cons_zero, List.set_cons_succ]
        refine wpAnyH_ready (rs := [10]) (by kernel_rfl) (by simp) ?_
        refine AllReadyH.cons (by simp only [List.getElem?_toArray, List.getElem?_cons_succ, List.getElem?_cons_zero]; rfl) (fun K hK => ?_) AllReadyH.nil
        rw [if_pos (by rfl)]
        refine wp_alloc28 rfl ?_
        intro g8 y3 hg8 hb8 haw
        have hS := hHeld.on haw
        have hz8 : w1.heap.size ≤ g8 := Nat.le_trans hHeld.size hg8
        have hne : g7 ≠ g8 := by have := hb7.lt; omega
        have hcv8 : ∀ k, cv.ownBlock = some k → k ≠ g8 := fun k hk => by have := hown.lt k hk; omega
        replace hown := hown.on haw
        replace hb7 := hb7.on haw
        have hlt8 := hb8.lt
        clear haw hg8
        refine hK.out _ _ hS (fun hHeld => ?_)
        clear hK K
        try simp only [Act.put, List.setIfInBounds_toArray, List.set_cons_zero, List.set_cons_succ]
        refine wpAnyH_ready (rs := [11]) (by kernel_rfl) (by simp) ?_
        refine AllReadyH.cons (by simp only [List.getElem?_toArray, List.getElem?_cons_succ, List.getElem?_cons_zero]; rfl) (fun K hK => ?_) AllReadyH.nil
        rw [if_pos (by rfl)]
        refine wp_store28 (.tmp 7) (.tmp 20) rfl g7 rfl (fstP p id) ov (.slice none 0 0) rfl zeroPk (.slice none 0 0) (.slice none 0 0) (by exact hb7) HFA.out ⟨rfl, rfl⟩ HOV1.out rfl ?_
        intro y4 hc7 haw
        have hS : Away [] w1 y4 := hHeld.next haw (fun x hx => .inr (by simp at hx; omega))
        replace hown := hown.away haw (fun k hk => by have := hcv7 k hk; simpa using this)
        replace hb8 := hb8.away haw (by simp; omega)
        clear haw
        refine hK.out _ _ hS (fun hHeld => ?_)
        clear hK K
        try simp only [Act.put]
        refine wpAnyH_ready (rs := [12]) (by kernel_rfl) (by simp) ?_
        refine AllReadyH.cons (by simp only [List.getElem?_toArray, List.getElem?_cons_succ, List.getElem?_cons_zero]; rfl) (fun K hK => ?_) AllReadyH.nil
        rw [if_pos (by rfl)]
        refine wp_store28 (.tmp 8) (.tmp 21) rfl g8 rfl (latP p id) cv (.slice none 0 0) rfl zeroPk (.slice none 0 0) (.slice none 0 0) (by exact hb8) HLA.out ⟨rfl, rfl⟩ hown.one rfl ?_
        intro y5 hc8 haw
        have hS : Away [] w1 y5 := hHeld.next haw (fun x hx => .inr (by simp at hx; omega))
        replace hown := hown.away haw (fun k hk => by have := hcv8 k hk; simpa using this)
        replace hc7 := hc7.away haw (by simp; omega)
        clear haw
        refine hK.out _ _ hS (fun hHeld => ?_)
        clear hK K
        try simp only [Act.put]
        refine wpAnyH_done (by kernel_rfl) ?_ _
        go_wp2_with fail
        go_meet
        exact ⟨g7, g8, cv, rfl, rfl, hc7, hc8, hown, hcv7, hHeld, hz7, hz8, hne⟩
      · rw [if_pos (by rfl)]
        refine wp_alloc28 rfl ?_
        intro g8 y2 hg8 hb8 haw
        have hS := hHeld.on haw
        have hz8 : w1.heap.size ≤ g8 := Nat.le_trans hHeld.size hg8
        have hcv8 : ∀ k, cv.ownBlock = some k → k ≠ g8 := fun k hk => by have := hown.lt k hk; omega
        replace hown := hown.on haw
        have hlt8 := hb8.lt
        clear haw hg8
        refine hK.out _ _ hS (fun hHeld => ?_)
        clear hK K
        try simp only [Act.put, List.setIfInBounds_toArray, List.set_cons_zero, List.set_cons_succ]
        refine wpAnyH_ready (rs := [9]) (by kernel_rfl) (by simp) ?_
        refine AllReadyH.cons (by simp only [List.getElem?_toArray, List.getElem?_cons_succ, List.getElem?_cons_zero]; rfl) (fun K hK => ?_) AllReadyH.nil
        rw [if_pos (by rfl)]
        refine wp_alloc28 rfl ?_
        intro g7 y3 hg7 hb7 haw
        have hS := hHeld.on haw
        have hz7 : w1.heap.size ≤ g7 := Nat.le_trans hHeld.size hg7
        have hne : g7 ≠ g8 := by have := hb8.lt; omega
        have hcv7 : ∀ k, cv.ownBlock = some k → k ≠ g7 := fun k hk => by have := hown.lt k hk; omega
        replace hown := hown.on haw
        replace hb8 := hb8.on haw
        have hlt7 := hb7.lt
        clear haw hg7
        refine hK.out _ _ hS (fun hHeld => ?_)
        clear hK K
        try simp only [Act.put, List.setIfInBounds_toArray, List.set_cons_zero, List.set_cons_succ]
        refine wpAnyH_ready (rs := [11]) (by kernel_rfl) (by simp) ?_
        refine AllReadyH.cons (by simp only [List.getElem?_toArray, List.getElem?_cons_succ, List.getElem?_cons_zero]; rfl) (fun K hK => ?_) AllReadyH.nil
        rw [if_pos (by rfl)]
        refine wp_store28 (.tmp 7) (.tmp 20) rfl g7 rfl (fstP p id) ov (.slice none 0 0) rfl zeroPk (.slice none 0 0) (.slice none 0 0) (by exact hb7) HFA.out ⟨rfl, rfl⟩ HOV1.out rfl ?_
        intro y4 hc7 haw
        have hS : Away [] w1 y4 := hHeld.next haw (fun x hx => .inr (by simp at hx; omega))
        replace hown := hown.away haw (fun k hk => by have := hcv7 k hk; simpa using this)
        replace hb8 := hb8.away haw (by simp; omega)
        clear haw
        refine hK.out _ _ hS (fun hHeld => ?_)
        clear hK K
        try simp only [Act.put]
        refine wpAnyH_ready (rs := [12]) (by kernel_rfl) (by simp) ?_
        refine AllReadyH.cons (by simp only [List.getElem?_toArray, List.getElem?_cons_succ, List.getElem?_cons_zero]; rfl) (fun K hK => ?_) AllReadyH.nil
        rw [if_pos (by rfl)]
        refine wp_store28 (.tmp 8) (.tmp 21) rfl g8 rfl (latP p id) cv (.slice none 0 0) rfl zeroPk (.slice none 0 0) (.slice none 0 0) (by exact hb8) HLA.out ⟨rfl, rfl⟩ hown.one rfl ?_
        intro y5 hc8 haw
        have hS : Away [] w1 y5 := hHeld.next haw (fun x hx => .inr (by simp at hx; omega))
        replace hown := hown.away haw (fun k hk => by have := hcv8 k hk; simpa using this)
        replace hc7 := hc7.away haw (by simp; omega)
        clear haw
        refine hK.out _ _ hS (fun hHeld => ?_)
        clear hK K
        try simp only [Act.put]
        refine wpAnyH_done (by kernel_rfl) ?_ _
        go_wp2_with fail
        go_meet
        exact ⟨g7, g8, cv, rfl, rfl, hc7, hc8, hown, hcv7, hHeld, hz7, hz8, hne⟩
    · rw [if_pos (by rfl)]
      refine wp_alloc28 rfl ?_
      intro g7 y1 hg7 hb7 haw
      have hS := hHeld.on haw
      have hz7 : w1.heap.size ≤ g7 := Nat.le_trans hHeld.size hg7
      have hlt7 := hb7.lt
      clear haw hg7
      refine hK.out _ _ hS (fun hHeld => ?_)
      clear hK K
      try simp only [Act.put, List.setIfInBounds_toArray, List.set_cons_zero, List.set_cons_succ]
      refine wpAnyH_ready (rs := [5, 10]) (by kernel_rfl) (by simp) ?_
      refine AllReadyH.cons (by simp only [List.getElem?_toArray, List.getElem?_cons_succ, List.getElem?_cons_zero]; rfl) (fun K hK => ?_) (AllReadyH.cons (by simp only [List.getElem?_toArray, List.getElem?_cons_succ, List.getElem?_cons_zero]; rfl) (fun K hK => ?_) AllReadyH.nil)
      · go_simp
        refine (KF.out _ (HA.out.on hHeld)).mono ?_
        rintro E y2 ⟨cv, rfl, hown, hnew, haw⟩
        have hS := hHeld.on haw
        have hq7 := hb7.lt
        replace hb7 := hb7.on haw
        have hcvl := hown.lt
        have hcv7 : ∀ k, cv.ownBlock = some k → k ≠ g7 := fun k hk => by have := hnew k hk; omega
        clear haw hnew
        go_wp2_with fail
        refine hK.out _ _ hS (fun hHeld => ?_)
        clear hK K
        try simp only [Act.put, List.setIfInBounds_toArray, List.set_cons_zero, List.set_cons_succ]
        refine wpAnyH_take (i := 6) (v := ?_) (by simp only [List.getElem?_toArray, List.getElem?_cons_succ, List.getElem?_cons_zero]; rfl) (by kernel_rfl) (by kernel_rfl) (by kernel_rfl) (by exact fun _ _ _ h => h) (Or.inl ⟨by rfl, ?_⟩) (by assumption) ?_
        rotate_left
        · intro wq hSw
          (try dsimp only at hSw)
          go_simp
          all_goals (with_reducible rfl)
        try simp only [Act.put, List.setIfInBounds_toArray, List.set_cons_zero, List.set_cons_succ]
        refine wpAnyH_take (i := 7) (v := ?_) (by simp only [List.getElem?_toArray, List.getElem?_cons_succ, List.getElem?_cons_zero]; rfl) (by kernel_rfl) (by kernel_rfl) (by kernel_rfl) (by exact fun _ _ _ h => h) (Or.inl ⟨by rfl, ?_⟩) (by assumption) ?_
        rotate_left
        · intro wq hSw
          (try dsimp only at hSw)
          go_simp
          all_goals (with_reducible rfl)
        try simp only [Act.put, List.setIfInBounds_toArray, List.set_cons_zero, List.set_cons_succ]
        refine wpAnyH_take (i := 8) (v := ?_) (by simp only [List.getElem?_toArray, List.getElem?_cons_succ, List.getElem?_cons_zero]; rfl) (by kernel_rfl) (by kernel_rfl) (by kernel_rfl) (by exact fun _ _ _ h => h) (Or.inl ⟨by rfl, ?_⟩) (by assumption) ?_
        rotate_left
        · intro wq hSw
          (try dsimp only at hSw)
          go_simp
          all_goals (with_reducible rfl)
        try simp only [Act.put, List.setIfInBounds_toArray, List.set_cons_zero, List.set_cons_succ]
        refine wpAnyH_ready (rs := [10]) (by kernel_rfl) (by simp) ?_
        refine AllReadyH.cons (by simp only [List.getElem?_toArray, List.getElem?_cons_succ, List.getElem?_cons_zero]; rfl) (fun K hK => ?_) AllReadyH.nil
        rw [if_pos (by rfl)]
        refine wp_alloc28 rfl ?_
        intro g8 y3 hg8 hb8 haw
        have hS := hHeld.on haw
        have hz8 : w1.heap.size ≤ g8 := Nat.le_trans hHeld.size hg8
        have hne : g7 ≠ g8 := by have := hb7.lt; omega
        have hcv8 : ∀ k, cv.ownBlock = some k → k ≠ g8 := fun k hk => by have := hown.lt k hk; omega
        replace hb7 := hb7.on haw
        replace hown := hown.on haw
        have hlt8 := hb8.lt
        clear haw hg8
        refine hK.out _ _ hS (fun hHeld => ?_)
        clear hK K
        try simp only [Act.put, List.setIfInBounds_toArray, List.set_cons_zero, List.set_cons_succ]
        refine wpAnyH_ready (rs := [11]) (by kernel_rfl) (by simp) ?_
        refine AllReadyH.cons (by simp only [List.getElem?_toArray, List.getElem?_cons_succ, List.getElem?_cons_zero]; rfl) (fun K hK => ?_) AllReadyH.nil
        rw [if_pos (by rfl)]
        refine wp_store28 (.tmp 7) (.tmp 20) rfl g7 rfl (fstP p id) ov (.slice none 0 0) rfl zeroPk (.slice none 0 0) (.slice none 0 0) (by exact hb7) HFA.out ⟨rfl, rfl⟩ HOV1.out rfl ?_
        intro y4 hc7 haw
        have hS : Away [] w1 y4 := hHeld.next haw (fun x hx => .inr (by simp at hx; omega))
        replace hown := hown.away haw (fun k hk => by have := hcv7 k hk; simpa using this)
        replace hb8 := hb8.away haw (by simp; omega)
        clear haw
        refine hK.out _ _ hS (fun hHeld => ?_)
        clear hK K
        try simp only [Act.put]
        refine wpAnyH_ready (rs := [12]) (by kernel_rfl) (by simp) ?_
        refine AllReadyH.cons (by simp only [List.getElem?_toArray, List.getElem?_cons_succ, List.getElem?_cons_zero]; rfl) (fun K hK => ?_) AllReadyH.nil
        rw [if_pos (by rfl)]
        refine wp_store28 (.tmp 8) (.tmp 21) rfl g8 rfl (latP p id) cv (.slice none 0 0) rfl zeroPk (.slice none 0 0) (.slice none 0 0) (by exact hb8) HLA.out ⟨rfl, rfl⟩ hown.one rfl ?_
        intro y5 hc8 haw
        have hS : Away [] w1 y5 := hHeld.next haw (fun x hx => .inr (by simp at hx; omega))
        replace hown := hown.away haw (fun k hk => by have := hcv8 k hk; simpa using this)
        replace hc7 := hc7.away haw (by simp; omega)
        clear haw
        refine hK.out _ _ hS (fun hHeld => ?_)
        clear hK K
        try simp only [Act.put]
        refine wpAnyH_done (by kernel_rfl) ?_ _
        go_wp2_with fail
        go_meet
        exact ⟨g7, g8, cv, rfl, rfl, hc7, hc8, hown, hcv7, hHeld, hz7, hz8, hne⟩
      · rw [if_pos (by rfl)]
        refine wp_alloc28 rfl ?_
        intro g8 y2 hg8 hb8 haw
        have hS := hHeld.on haw
        have hz8 : w1.heap.size ≤ g8 := Nat.le_trans hHeld.size hg8
        have hne : g7 ≠ g8 := by have := hb7.lt; omega
        replace hb7 := hb7.on haw
        have hlt8 := hb8.lt
        clear haw hg8
        refine hK.out _ _ hS (fun hHeld => ?_)
        clear hK K
        try simp only [Act.put, List.setIfInBounds_toArray, List.set_cons_zero, List.set_cons_succ]
        refine wpAnyH_ready (rs := [5]) (by kernel_rfl) (by simp) ?_
        refine AllReadyH.cons (by simp only [List.getElem?_toArray, List.getElem?_cons_succ, List.getElem?_cons_zero]; rfl) (fun K hK => ?_) AllReadyH.nil
        go_simp
        refine (KF.out _ (HA.out.on hHeld)).mono ?_
        rintro E y3 ⟨cv, rfl, hown, hnew, haw⟩
        have hS := hHeld.on haw
        have hq7 := hb7.lt
        have hq8 := hb8.lt
        replace hb7 := hb7.on haw
        replace hb8 := hb8.on haw
        have hcvl := hown.lt
        have hcv7 : ∀ k, cv.ownBlock = some k → k ≠ g7 := fun k hk => by have := hnew k hk; omega
        have hcv8 : ∀ k, cv.ownBlock = some k → k ≠ g8 := fun k hk => by have := hnew k hk; omega
        clear haw hnew
        go_wp2_with fail
        refine hK.out _ _ hS (fun hHeld => ?_)
        clear hK K
        try simp only [Act.put, List.setIfInBounds_toArray, List.set_cons_zero, List.set_cons_succ]
        refine wpAnyH_take (i := 6) (v := ?_) (by simp only [List.getElem?_toArray, List.getElem?_cons_succ, List.getElem?_cons_zero]; rfl) (by kernel_rfl) (by kernel_rfl) (by kernel_rfl) (by exact fun _ _ _ h => h) (Or.inl ⟨by rfl, ?_⟩) (by assumption) ?_
        rotate_left
        · intro wq hSw
          (try dsimp only at hSw)
          go_simp
          all_goals (with_reducible rfl)
        try simp only [Act.put, List.setIfInBounds_toArray, List.set_cons_zero, List.set_cons_succ]
        refine wpAnyH_take (i := 7) (v := ?_) (by simp only [List.getElem?_toArray, List.getElem?_cons_succ, List.getElem?_cons_zero]; rfl) (by kernel_rfl) (by kernel_rfl) (by kernel_rfl) (by exact fun _ _ _ h => h) (Or.inl ⟨by rfl, ?_⟩) (by assumption) ?_
        rotate_left
        · intro wq hSw
          (try dsimp only at hSw)
          go_simp
          all_goals (with_reducible rfl)
        try simp only [Act.put, List.setIfInBounds_toArray, List.set_cons_zero, List.set_cons_succ]
        refine wpAnyH_take (i := 8) (v := ?_) (by simp only [List.getElem?_toArray, List.getElem?_cons_succ, List.getElem?_cons_zero]; rfl) (by kernel_rfl) (by kernel_rfl) (by kernel_rfl) (by exact fun _ _ _ h => h) (Or.inl ⟨by rfl, ?_⟩) (by assumption) ?_
        rotate_left
        · intro wq hSw
          (try dsimp only at hSw)
          go_simp
          all_goals (with_reducible rfl)
        try simp only [Act.put, List.setIfInBounds_toArray, List.set_cons_zero, List.set_cons_succ]
        refine wpAnyH_ready (rs := [11]) (by kernel_rfl) (by simp) ?_
        refine AllReadyH.cons (by simp only [List.getElem?_toArray, List.getElem?_cons_succ, List.getElem?_cons_zero]; rfl) (fun K hK => ?_) AllReadyH.nil
        rw [if_pos (by rfl)]
        refine wp_store28 (.tmp 7) (.tmp 20) rfl g7 rfl (fstP p id) ov (.slice none 0 0) rfl zeroPk (.slice none 0 0) (.slice none 0 0) (by exact hb7) HFA.out ⟨rfl, rfl⟩ HOV1.out rfl ?_
        intro y4 hc7 haw
        have hS : Away [] w1 y4 := hHeld.next haw (fun x hx => .inr (by simp at hx; omega))
        replace hown := hown.away haw (fun k hk => by have := hcv7 k hk; simpa using this)
        replace hb8 := hb8.away haw (by simp; omega)
        clear haw
        refine hK.out _ _ hS (fun hHeld => ?_)
        clear hK K
        try simp only [Act.put]
        refine wpAnyH_ready (rs := [12]) (by kernel_rfl) (by simp) ?_
        refine AllReadyH.cons (by simp only [List.getElem?_toArray, List.getElem?_cons_succ, List.getElem?_cons_zero]; rfl) (fun K hK => ?_) AllReadyH.nil
        rw [if_pos (by rfl)]
        refine wp_store28 (.tmp 8) (.tmp 21) rfl g8 rfl (latP p id) cv (.slice none 0 0) rfl zeroPk (.slice none 0 0) (.slice none 0 0) (by exact hb8) HLA.out ⟨rfl, rfl⟩ hown.one rfl ?_
        intro y5 hc8 haw
        have hS : Away [] w1 y5 := hHeld.next haw (fun x hx => .inr (by simp at hx; omega))
        replace hown := hown.away haw (fun k hk => by have := hcv8 k hk; simpa using this)
        replace hc7 := hc7.away haw (by simp; omega)
        clear haw
        refine hK.out _ _ hS (fun hHeld => ?_)
        clear hK K
        try simp only [Act.put]
        refine wpAnyH_done (by kernel_rfl) ?_ _
        go_wp2_with fail
        go_meet
        exact ⟨g7, g8, cv, rfl, rfl, hc7, hc8, hown, hcv7, hHeld, hz7, hz8, hne⟩
    · rw [if_pos (by rfl)]
      refine wp_alloc28 rfl ?_
      intro g8 y1 hg8 hb8 haw
      have hS := hHeld.on haw
      have hz8 : w1.heap.size ≤ g8 := Nat.le_trans hHeld.size hg8
      have hlt8 := hb8.lt
      clear haw hg8
      refine hK.out _ _ hS (fun hHeld => ?_)
      clear hK K
      try simp only [Act.put, List.setIfInBounds_toArray, List.set_cons_zero, List.set_cons_succ]
      refine wpAnyH_ready (rs := [5, 9]) (by kernel_rfl) (by simp) ?_
      refine AllReadyH.cons (by simp only [List.getElem?_toArray, List.getElem?_cons_succ, List.getElem?_cons_zero]; rfl) (fun K hK => ?_) (AllReadyH.cons (by simp only [List.getElem?_toArray, List.getElem?_cons_succ, List.getElem?_cons_zero]; rfl) (fun K hK => ?_) AllReadyH.nil)
      · go_simp
        refine (KF.out _ (HA.out.on hHeld)).mono ?_
        rintro E y2 ⟨cv, rfl, hown, hnew, haw⟩
        have hS := hHeld.on haw
        have hq8 := hb8.lt
        replace hb8 := hb8.on haw
        have hcvl := hown.lt
        have hcv8 : ∀ k, cv.ownBlock = some k → k ≠ g8 := fun k hk => by have := hnew k hk; omega
        clear haw hnew
        go_wp2_with fail
        refine hK.out _ _ hS (fun hHeld => ?_)
        clear hK K
        try simp only [Act.put, List.setIfInBounds_toArray, List.set_cons_zero, List.set_cons_succ]
        refine wpAnyH_take (i := 6) (v := ?_) (by simp only [List.getElem?_toArray, List.getElem?_cons_succ, List.getElem?_cons_zero]; rfl) (by kernel_rfl) (by kernel_rfl) (by kernel_rfl) (by exact fun _ _ _ h => h) (Or.inl ⟨by rfl, ?_⟩) (by assumption) ?_
        rotate_left
        · intro wq hSw
          (try dsimp only at hSw)
          go_simp
          all_goals (with_reducible rfl)
        try simp only [Act.put, List.setIfInBounds_toArray, List.set_cons_zero, List.set_cons_succ]
        refine wpAnyH_take (i := 7) (v := ?_) (by simp only [List.getElem?_toArray, List.getElem?_cons_succ, List.getElem?_cons_zero]; rfl) (by kernel_rfl) (by kernel_rfl) (by kernel_rfl) (by exact fun _ _ _ h => h) (Or.inl ⟨by rfl, ?_⟩) (by assumption) ?_
        rotate_left
        · intro wq hSw
          (try dsimp only at hSw)
          go_simp
          all_goals (with_reducible rfl)
        try simp only [Act.put, List.setIfInBounds_toArray, List.set_cons_zero, List.set_cons_succ]
        refine wpAnyH_take (i := 8) (v := ?_) (by simp only [List.getElem?_toArray, List.getElem?_cons_succ, List.getElem?_cons_zero]; rfl) (by kernel_rfl) (by kernel_rfl) (by kernel_rfl) (by exact fun _ _ _ h => h) (Or.inl ⟨by rfl, ?_⟩) (by assumption) ?_
        rotate_left
        · intro wq hSw
          (try dsimp only at hSw)
          go_simp
          all_goals (with_reducible rfl)
        try simp only [Act.put, List.setIfInBounds_toArray, List.set_cons_zero, List.set_cons_succ]
        refine wpAnyH_ready (rs := [9]) (by kernel_rfl) (by simp) ?_
        refine AllReadyH.cons (by simp only [List.getElem?_toArray, List.getElem?_cons_succ, List.getElem?_cons_zero]; rfl) (fun K hK => ?_) AllReadyH.nil
        rw [if_pos (by rfl)]
        refine wp_alloc28 rfl ?_
        intro g7 y3 hg7 hb7 haw
        have hS := hHeld.on haw
        have hz7 : w1.heap.size ≤ g7 := Nat.le_trans hHeld.size hg7
        have hne : g7 ≠ g8 := by have := hb8.lt; omega
        have hcv7 : ∀ k, cv.ownBlock = some k → k ≠ g7 := fun k hk => by have := hown.lt k hk; omega
        replace hb8 := hb8.on haw
        replace hown := hown.on haw
        have hlt7 := hb7.lt
        clear haw hg7
        refine hK.out _ _ hS (fun hHeld => ?_)
        clear hK K
        try simp only [Act.put, List.setIfInBounds_toArray, List.set_cons_zero, List.set_cons_succ]
        refine wpAnyH_ready (rs := [11]) (by kernel_rfl) (by simp) ?_
        refine AllReadyH.cons (by simp only [List.getElem?_toArray, List.getElem?_cons_succ, List.getElem?_cons_zero]; rfl) (fun K hK => ?_) AllReadyH.nil
        rw [if_pos (by rfl)]
        refine wp_store28 (.tmp 7) (.tmp 20) rfl g7 rfl (fstP p id) ov (.slice none 0 0) rfl zeroPk (.slice none 0 0) (.slice none 0 0) (by exact hb7) HFA.out ⟨rfl, rfl⟩ HOV1.out rfl ?_
        intro y4 hc7 haw
        have hS : Away [] w1 y4 := hHeld.next haw (fun x hx => .inr (by simp at hx; omega))
        replace hown := hown.away haw (fun k hk => by have := hcv7 k hk; simpa using this)
        replace hb8 := hb8.away haw (by simp; omega)
        clear haw
        refine hK.out _ _ hS (fun hHeld => ?_)
        clear hK K
        try simp only [Act.put]
        refine wpAnyH_ready (rs := [12]) (by kernel_rfl) (by simp) ?_
        refine AllReadyH.cons (by simp only [List.getElem?_toArray, List.getElem?_cons_succ, List.getElem?_cons_zero]; rfl) (fun K hK => ?_) AllReadyH.nil
        rw [if_pos (by rfl)]
        refine wp_store28 (.tmp 8) (.tmp 21) rfl g8 rfl (latP p id) cv (.slice none 0 0) rfl zeroPk (.slice none 0 0) (.slice none 0 0) (by exact hb8) HLA.out ⟨rfl, rfl⟩ hown.one rfl ?_
        intro y5 hc8 haw
        have hS : Away [] w1 y5 := hHeld.next haw (fun x hx => .inr (by simp at hx; omega))
        replace hown := hown.away haw (fun k hk => by have := hcv8 k hk; simpa using this)
        replace hc7 := hc7.away haw (by simp; omega)
        clear haw
        refine hK.out _ _ hS (fun hHeld => ?_)
        clear hK K
        try simp only [Act.put]
        refine wpAnyH_done (by kernel_rfl) ?_ _
        go_wp2_with fail
        go_meet
        exact ⟨g7, g8, cv, rfl, rfl, hc7, hc8, hown, hcv7, hHeld, hz7, hz8, hne⟩
      · rw [if_pos (by rfl)]
        refine wp_alloc28 rfl ?_
        intro g7 y2 hg7 hb7 haw
        have hS := hHeld.on haw
        have hz7 : w1.heap.size ≤ g7 := Nat.le_trans hHeld.size hg7
        have hne : g7 ≠ g8 := by have := hb8.lt; omega
        replace hb8 := hb8.on haw
        have hlt7 := hb7.lt
        clear haw hg7
        refine hK.out _ _ hS (fun hHeld => ?_)
        clear hK K
        try simp only [Act.put, List.setIfInBounds_toArray, List.set_cons_zero, List.set_cons_succ]
        refine wpAnyH_ready (rs := [5]) (by kernel_rfl) (by simp) ?_
        refine AllReadyH.cons (by simp only [List.getElem?_toArray, List.getElem?_cons_succ, List.getElem?_cons_zero]; rfl) (fun K hK => ?_) AllReadyH.nil
        go_simp
        refine (KF.out _ (HA.out.on hHeld)).mono ?_
        rintro E y3 ⟨cv, rfl, hown, hnew, haw⟩
        have hS := hHeld.on haw
        have hq8 := hb8.lt
        have hq7 := hb7.lt
        replace hb8 := hb8.on haw
        replace hb7 := hb7.on haw
        have hcvl := hown.lt
        have hcv7 : ∀ k, cv.ownBlock = some k → k ≠ g7 := fun k hk => by have := hnew k hk; omega
        have hcv8 : ∀ k, cv.ownBlock = some k → k ≠ g8 := fun k hk => by have := hnew k hk; omega
        clear haw hnew
        go_wp2_with fail
        refine hK.out _ _ hS (fun hHeld => ?_)
        clear hK K
        try simp only [Act.put, List.setIfInBounds_toArray, List.set_cons_zero, List.set_cons_succ]
        refine wpAnyH_take (i := 6) (v := ?_) (by simp only [List.getElem?_toArray, List.getElem?_cons_succ, List.getElem?_cons_zero]; rfl) (by kernel_rfl) (by kernel_rfl) (by kernel_rfl) (by exact fun _ _ _ h => h) (Or.inl ⟨by rfl, ?_⟩) (by assumption) ?_
        rotate_left
        · intro wq hSw
          (try dsimp only at hSw)
          go_simp
          all_goals (with_reducible rfl)
        try simp only [Act.put, List.setIfInBounds_toArray, List.set_cons_zero, List.set_cons_succ]
        refine wpAnyH_take (i := 7) (v := ?_) (by simp only [List.getElem?_toArray, List.getElem?_cons_succ, List.getElem?_cons_zero]; rfl) (by kernel_rfl) (by kernel_rfl) (by kernel_rfl) (by exact fun _ _ _ h => h) (Or.inl ⟨by rfl, ?_⟩) (by assumption) ?_
        rotate_left
        · intro wq hSw
          (try dsimp only at hSw)
          go_simp
          all_goals (with_reducible rfl)
        try simp only [Act.put, List.setIfInBounds_toArray, List.set_cons_zero, List.set_cons_succ]
        refine wpAnyH_take (i := 8) (v := ?_) (by simp only [List.getElem?_toArray, List.getElem?_cons_succ, List.getElem?_cons_zero]; rfl) (by kernel_rfl) (by kernel_rfl) (by kernel_rfl) (by exact fun _ _ _ h => h) (Or.inl ⟨by rfl, ?_⟩) (by assumption) ?_
        rotate_left
        · intro wq hSw
          (try dsimp only at hSw)
          go_simp
          all_goals (with_reducible rfl)
        try simp only [Act.put, List.setIfInBounds_toArray, List.set_cons_zero, List.set_cons_succ]
        refine wpAnyH_ready (rs := [11]) (by kernel_rfl) (by simp) ?_
        refine AllReadyH.cons (by simp only [List.getElem?_toArray, List.getElem?_cons_succ, List.getElem?_cons_zero]; rfl) (fun K hK => ?_) AllReadyH.nil
        rw [if_pos (by rfl)]
        refine wp_store28 (.tmp 7) (.tmp 20) rfl g7 rfl (fstP p id) ov (.slice none 0 0) rfl zeroPk (.slice none 0 0) (.slice none 0 0) (by exact hb7) HFA.out ⟨rfl, rfl⟩ HOV1.out rfl ?_
        intro y4 hc7 haw
        have hS : Away [] w1 y4 := hHeld.next haw (fun x hx => .inr (by simp at hx; omega))
        replace hown := hown.away haw (fun k hk => by have := hcv7 k hk; simpa using this)
        replace hb8 := hb8.away haw (by simp; omega)
        clear haw
        refine hK.out _ _ hS (fun hHeld => ?_)
        clear hK K
        try simp only [Act.put]
        refine wpAnyH_ready (rs := [12]) (by kernel_rfl) (by simp) ?_
        refine AllReadyH.cons (by simp only [List.getElem?_toArray, List.getElem?_cons_succ, List.getElem?_cons_zero]; rfl) (fun K hK => ?_) AllReadyH.nil
        rw [if_pos (by rfl)]
        refine wp_store28 (.tmp 8) (.tmp 21) rfl g8 rfl (latP p id) cv (.slice none 0 0) rfl zeroPk (.slice none 0 0) (.slice none 0 0) (by exact hb8) HLA.out ⟨rfl, rfl⟩ hown.one rfl ?_
        intro y5 hc8 haw
        have hS : Away [] w1 y5 := hHeld.next haw (fun x hx => .inr (by simp at hx; omega))
        replace hown := hown.away haw (fun k hk => by have := hcv8 k hk; simpa using this)
        replace hc7 := hc7.away haw (by simp; omega)
        clear haw
        refine hK.out _ _ hS (fun hHeld => ?_)
        clear hK K
        try simp only [Act.put]
        refine wpAnyH_done (by kernel_rfl) ?_ _
        go_wp2_with fail
        go_meet
        exact ⟨g7, g8, cv, rfl, rfl, hc7, hc8, hown, hcv7, hHeld, hz7, hz8, hne⟩
  case rest =>
    obtain ⟨g7, g8, cv, rfl, rfl, hb7, hb8, hown, hcv7, haw, hz7, hz8, h78⟩ := hcut
    generalize wc = wb at *
    have HB7 := Lib.hid hb7; have HB8 := Lib.hid hb8
    replace HB3 := Lib.hid (HB3.out.on haw)
    replace HA := Lib.hid (HA.out.on haw)
    have hl7 := hb7.lt; have hl8 := hb8.lt
    have HCV1 := Lib.hid hown.one
    have HCS : Hid (Sl wb cv (carryP p.o)) := by
      have hc := carry_valid HW.out.o
      exact hown.sl hc.2.2.1 (by omega)
    have HCV7 := Lib.hid hcv7
    have hsb := haw.size
    clear hb7 hb8 hown hcv7 haw KF
    have HRB : Hid (Row wb ad p.d) := HR.out.on HA.out
    have HGB : Hid (Glob wb) := HG.out.on HA.out
    have HXB := Lib.hid (HX.out.on HA.out)
    have HS0 := Lib.hid (HOO.out.on HA.out)
    have HSZ : Hid (w.heap.size ≤ g3 ∧ g3 < g7 ∧ g3 < g8 ∧ g7 ≠ g8 ∧ g8 < wb.heap.size ∧ g7 < wb.heap.size ∧ w.heap.size ≤ wb.heap.size) := ⟨by omega, by omega, by omega, h78, by omega, by omega, by omega⟩
    clear hs1 hl3 hg3 hz7 hz8 h78 hl7 hl8 hsb
    go_wp2_with fail
    go_loopw [9, 24] (fun v i wr => ∃ (n k : Nat) (f : Pk) (fv : Value), v = .int .i64 (n : Int) ∧ i = .int .i64 (k : Int) ∧ n ≤ p.d.length ∧ k ≤ xs.length ∧ Frm p f ∧ Ad f ∧ BoxP wr g7 f fv (.slice none 0 0) ∧ Sl wb fv f.o ∧ (f.o ≠ [] → ∀ k, fv.ownBlock = some k → k ≠ g7) ∧ z = partP p m (latP p id) f n ((xs.drop k).map X.p) ∧ Away [g7] wb wr) (fun _ i _ => xs.length - (intOf i).toNat)
    case atStart =>
      have hz := HSZ.out
      refine ⟨0, 0, fstP p id, ov, rfl, rfl, by omega, by omega, HF1.out, HFA.out, HB7.out, ?_, ?_, HZ0.out, Away.refl _ _⟩
      · rw [fst_o]; exact HS0.out
      · rw [fst_o]; intro h k hk; have := HOL.out h k hk; omega
    case round =>
      obtain ⟨n, k, f, fv, rfl, rfl, hn, hk, hf, haf, hb7, hfs, hfo, hzz, haw⟩ := hrel
      have hsz := HSZ.out
      have HF := Lib.hid hf; have HAF := Lib.hid haf; have HB7r := Lib.hid hb7; have HFO := Lib.hid hfo; have HZ := Lib.hid hzz; have HAW := Lib.hid haw
      have HWF := Lib.hid (frm_wf HU.out HW.out hf)
      have hfsold : f.o ≠ [] → ∀ k, fv.ownBlock = some k → k < wb.heap.size := hfs.old
      have HFS := Lib.hid (hfs.away haw (fun h k hk => by have := hfo h k hk; simpa using this))
      have HB8r := Lib.hid (HB8.out.away haw (by simp; omega))
      have HB3r := Lib.hid (HB3.out.away haw (by simp; omega))
      have HGr : Hid (Glob wr) := HGB.out.away haw (by have := HG.out.pos; simp; omega)
      have hszr := haw.size
      clear hf haf hb7 hfs hfo hzz haw
      by_cases hlt : k < xs.length
      · obtain ⟨x, hxk, hxm⟩ := get_of hlt
        obtain ⟨b', o', hbo, hrx, -⟩ := HXB.out.at hxk
        have hxw := HX.out.2.1 x hxm
        obtain ⟨rfl, rfl⟩ : xb = b' ∧ xo = o' := by simpa using hbo
        have hrb : xb < w.heap.size := by
          obtain ⟨b2, o2, hb2, hr2, hk2⟩ := HX.out.at hxk
          obtain ⟨rfl, rfl⟩ : xb = b2 ∧ xo = o2 := by simpa using hb2
          have := hr2 0 (.int .i64 x.p.v) rfl
          exact block_lt_of_cell this
        have HRX : Hid (wr.rangeAt xb (xo + k * 46) x.cells) := range_away HAW.out (by simp; omega) hrx
        have HXW := Lib.hid hxw
        have HDC := Lib.hid (drop_cons hxk)
        clear hxm hbo hrx hxk hrb
        obtain ⟨q, qo, qd⟩ := x
        replace HXW : Hid (Pkt w q qo qd) := HXW.out
        have hqw := HXW.out.wf
        obtain ⟨qa, qc, hqd, -, -, -⟩ := HXW.out.d
        subst hqd
        have HOKr : Hid (Pkt wr q qo (.slice qa q.d.length qc)) := by
          have h1 : Pkt w q qo (.slice qa q.d.length qc) := HXW.out
          have hA' : Away [g7] w wr := (HA.out.mono (by simp)).trans HAW.out
          exact ⟨h1.wf, h1.o.away hA' (fun h k hk => by have := h1.o.old h k hk; simp; omega), h1.d.away hA' (fun h k hk => by have := h1.d.old h k hk; simp; omega)⟩
        have hqold : (q.o ≠ [] → ∀ k, qo.ownBlock = some k → k < wb.heap.size) ∧ (q.d ≠ [] → ∀ k, (Value.slice qa q.d.length qc).ownBlock = some k → k < wb.heap.size) := ⟨fun h k hk => by have := HXW.out.o.old h k hk; omega, fun h k hk => by have := HXW.out.d.old h k hk; omega⟩
        have HAQ := Lib.hid hqw.ad
        have hql := hqw.dn
        have i2 : 0 ≤ (k : Int) := by omega
        have i3 : (k : Int) < (xs.length : Int) := by omega
        have i4 : ((k : Int)).toNat = k := by omega
        have HZ2 : Hid (z = (fitsP q m && decide (n + q.d.length ≤ p.d.length) && dP q (plcP f n ((p.d.drop n).take q.d.length) (decide (k + 1 < xs.length))) && partP p m (latP p id) (latP p id) (n + q.d.length) ((xs.drop (k + 1)).map X.p))) := by
          show _ = _
          rw [HZ.out, HDC.out, List.map_cons, partP]
          congr 4
          rw [show (List.map X.p (xs.drop (k + 1))).isEmpty = (xs.drop (k + 1)).isEmpty from by cases xs.drop (k + 1) <;> rfl]
          by_cases hc : k + 1 < xs.length
          · cases hd : xs.drop (k + 1) with
            | nil => have := congrArg List.length hd; simp at this; omega
            | cons y r => simp [hc]
          · rw [List.drop_eq_nil_of_le (show xs.length ≤ k + 1 from by omega)]; simp [hc]
        clear HZ hqw HXW HDC
        go_wp2_with (first | (refine wpList_load28m rfl _ rfl xb (xo + k * 46) rfl q qo (.slice qa q.d.length qc) (by exact HRX.out) HAQ.out ?_) | (refine wpList_alloc28 rfl rfl ?_; refine Hid.out ?_))
        refine Lib.hid ?_
        intro g11 v1 hg11 hb11 haw
        have HB11 := Lib.hid hb11
        have hl11 := hb11.lt
        replace HB7r := Lib.hid (HB7r.out.on haw)
        replace HB8r := Lib.hid (HB8r.out.on haw)
        replace HB3r := Lib.hid (HB3r.out.on haw)
        replace HFS := Lib.hid (HFS.out.on haw)
        replace HOKr := Lib.hid (HOKr.out.on haw)
        replace HGr := Lib.hid (HGr.out.on haw)
        replace HAW := Lib.hid (HAW.out.next haw (by simp))
        have hv1 := haw.size
        clear hb11 haw HRX
        go_wp2_with (refine wpList_store28 rfl _ _ rfl g11 rfl q qo (.slice qa q.d.length qc) rfl zeroPk (.slice none 0 0) (.slice none 0 0) (by exact HB11.out) HAQ.out ⟨rfl, rfl⟩ HOKr.out.ov rfl ?_; refine Hid.out ?_)
        refine Lib.hid ?_
        intro v2 hb11 haw
        replace HB11 := Lib.hid hb11
        replace HB7r := Lib.hid (HB7r.out.away haw (by simp; omega))
        replace HB8r := Lib.hid (HB8r.out.away haw (by simp; omega))
        replace HB3r := Lib.hid (HB3r.out.away haw (by simp; omega))
        replace HFS := Lib.hid (HFS.out.away haw (fun h k hk => by have := hfsold h k hk; simp; omega))
        replace HOKr : Hid (Pkt v2 q qo (.slice qa q.d.length qc)) := ⟨HOKr.out.wf, HOKr.out.o.away haw (fun h k hk => by have := hqold.1 h k hk; simp; omega), HOKr.out.d.away haw (fun h k hk => by have := hqold.2 h k hk; simp; omega)⟩
        replace HGr := Lib.hid (HGr.out.away haw (by have := HG.out.pos; simp; omega))
        replace HAW := Lib.hid (HAW.out.next haw (fun x hx => .inr (by simp at hx; omega)))
        have hv2 := haw.size
        clear hb11 haw
        have c45 := (HB3r.out.cells HAD.out).d
        have d45 := (HB11.out.cells HAQ.out).d
        have KFI : Hid (∀ w', Away [] v2 w' → Calls Tryz.prog 80 #[.agg (csP q qo (.slice qa q.d.length qc)), .int .i64 m] w' fun E w'' => E = .returned (.bool (fitsP q m)) ∧ Away [] w' w'') := fun w' h => fits_c q qo _ m w' (HOKr.out.on h) (HGr.out.on h)
        go_wp2_with (refine wpList_load28 rfl _ rfl g11 rfl q _ _ (by exact HB11.out) HAQ.out ?_)
        refine (KFI.out _ (Away.refl _ _)).mono ?_
        rintro E v3 ⟨rfl, haw⟩
        replace HB11 := Lib.hid (HB11.out.on haw)
        replace HB7r := Lib.hid (HB7r.out.on haw)
        replace HB8r := Lib.hid (HB8r.out.on haw)
        replace HB3r := Lib.hid (HB3r.out.on haw)
        replace HFS := Lib.hid (HFS.out.on haw)
        replace HOKr := Lib.hid (HOKr.out.on haw)
        replace HAW := Lib.hid (HAW.out.next haw (by simp))
        have hv3 := haw.size
        clear haw KFI c45 d45 HGr
        have c45 := (HB3r.out.cells HAD.out).d
        have HEND : Hid (Away [] w v3) := HA.out.next HAW.out (fun x hx => .inr (by simp at hx; omega))
        generalize fitsP q m = bf at *
        cases bf
        · obtain rfl : z = false := by rw [HZ2.out]; rfl
          go_wp2_with fail
          go_ret
          exact ⟨rfl, HEND.out⟩
        by_cases hle : n + q.d.length ≤ p.d.length
        rotate_left
        · obtain rfl : z = false := by rw [HZ2.out, decide_eq_false hle]; rfl
          have hgt : (p.d.length : Int) < (n : Int) + q.d.length := by omega
          go_wp2_with fail
          go_ret
          exact ⟨rfl, HEND.out⟩
        rw [decide_eq_true hle] at HZ2
        have hle2 : (n : Int) + q.d.length ≤ (p.d.length : Int) := by omega
        obtain ⟨A, hA⟩ : ∃ A, A = if capd = n then ad else ad.map (·.add n) := ⟨_, rfl⟩
        have hcap := HCAP.out
        obtain ⟨s, hs⟩ : ∃ s, s = q.d.length := ⟨_, rfl⟩
        have HRr : Hid (Row v3 ad p.d) := by
          by_cases hd : p.d = []
          · show Row _ _ _; rw [hd]; exact Row.nil _ _
          · exact HRB.out.away HAW.out (fun x hx => by
              have := HR.out.lt hd x hx
              simp; omega)
        have HLN : Hid (((p.d.drop n).take s).length = s) := by show _ = _; simp; omega
        have HRA : Hid (Row v3 A ((p.d.drop n).take s)) := by
          show Row _ _ _
          rw [hA]; exact HRr.out.sub n s capd hcap.1 hn
        have HSD : Hid (Sl v3 (.slice A s (capd - n)) ((p.d.drop n).take s)) := ⟨A, capd - n, by rw [HLN.out], by rw [HLN.out]; omega, fun e => by
          rw [hA] at e
          have : ad = none := by
            by_cases hc : capd = n
            · rw [if_pos hc] at e; exact e
            · rw [if_neg hc] at e; simpa using e
          have := hcap.2 this; omega, HRA.out⟩
        have hs9 := fun wx => slice_lh ad A p.d.length capd n s (n : Int) ((n : Int) + q.d.length) hA rfl (by rw [hs]) (by omega) wx
        have HS9 := Lib.hid hs9
        clear hA hs9 hcap
        have HBD : Hid (decide (IntKind.i64.wrap ((k : Int) + 1) < (xs.length : Int)) = decide (k + 1 < xs.length)) := by
          show _ = _
          apply decide_eq_decide.2
          rw [IntKind.wrap_i64]; omega
        obtain ⟨b, hb⟩ : ∃ b, b = decide (IntKind.i64.wrap ((k : Int) + 1) < (xs.length : Int)) := ⟨_, rfl⟩
        rw [← hb] at HBD
        rw [← HBD.out, ← hs] at HZ2
        obtain ⟨l, hl⟩ : ∃ l, l = (p.d.drop n).take s := ⟨_, rfl⟩
        have HLL := Lib.hid hl
        rw [← hl] at HRA HSD HLN HZ2
        have HBY : Hid (Bytes l) := by show Bytes l; rw [HLL.out]; exact (HW.out.d.drop n).take s
        have HWQ : Hid (Wf (plcP f n l b)) := HF.out.wf HW.out n (by omega) l HBY.out (by rw [HLN.out]; omega) b
        have hfv1 := HFS.out.one
        have KP : Hid (∀ W, (Away [] v3 W ∧ BoxP W g11 q qo (.slice qa q.d.length qc) ∧ BoxP W g7 f fv (.slice none 0 0) ∧ BoxP W g3 p ov (.slice ad p.d.length capd)) → Calls Tryz.prog 94 #[.agg (csP f fv (.slice none 0 0)), .int .i64 n, .slice A s (capd - n), .bool b] W fun E w'' => E = .returned (.agg (csP (plcP f n l b) fv (.slice A s (capd - n)))) ∧ (Away [] v3 w'' ∧ BoxP w'' g11 q qo (.slice qa q.d.length qc) ∧ BoxP w'' g7 f fv (.slice none 0 0) ∧ BoxP w'' g3 p ov (.slice ad p.d.length capd))) := fun W hW =>
          (plc_c f fv (.slice none 0 0) n A l s (capd - n) b W HAF.out hfv1 rfl).mono fun E w'' h => ⟨h.1, hW.1.on h.2, hW.2.1.on h.2, hW.2.2.1.on h.2, hW.2.2.2.on h.2⟩
        have KE : Hid (∀ W, (Away [] v3 W ∧ BoxP W g11 q qo (.slice qa q.d.length qc) ∧ BoxP W g7 f fv (.slice none 0 0) ∧ BoxP W g3 p ov (.slice ad p.d.length capd)) → Calls Tryz.prog 83 #[.agg (csP q qo (.slice qa q.d.length qc)), .agg (csP (plcP f n l b) fv (.slice A s (capd - n)))] W fun E w'' => E = .returned (.bool (dP q (plcP f n l b))) ∧ (Away [] v3 w'' ∧ BoxP w'' g11 q qo (.slice qa q.d.length qc) ∧ BoxP w'' g7 f fv (.slice none 0 0) ∧ BoxP w'' g3 p ov (.slice ad p.d.length capd))) := fun W hW =>
          (equal_c q (plcP f n l b) qo _ fv _ W (HOKr.out.on hW.1) ⟨HWQ.out, HFS.out.on hW.1, HSD.out.on hW.1⟩).mono fun E w'' h => ⟨h.1, hW.1.on h.2, hW.2.1.on h.2, hW.2.2.1.on h.2, hW.2.2.2.on h.2⟩
        have HC : Hid (Away [] v3 v3.drew ∧ BoxP v3.drew g11 q qo (.slice qa q.d.length qc) ∧ BoxP v3.drew g7 f fv (.slice none 0 0) ∧ BoxP v3.drew g3 p ov (.slice ad p.d.length capd)) := ⟨(Away.refl [] v3).drew, HB11.out, HB7r.out, HB3r.out⟩
        have HB0 := Lib.hid hb
        clear hl hb hfv1
        go_wp2_with fail
        refine wp_region_cls (C := fun w' => Away [] v3 w' ∧ BoxP w' g11 q qo (.slice qa q.d.length qc) ∧ BoxP w' g7 f fv (.slice none 0 0) ∧ BoxP w' g3 p ov (.slice ad p.d.length capd)) (by kernel_rfl) (by kernel_rfl) HC.out ?_
        go_big_quiet_want; refine quiet_ld _ rfl (ad := ⟨g11, 0, none⟩) rfl (fun w' h => load28_run h.2.1 HAQ.out) ?_; go_simp; go_big_quiet_on
        go_big_quiet_want; refine quiet_ld _ rfl (ad := ⟨g7, 0, none⟩) rfl (fun w' h => load28_run h.2.2.1 HAF.out) ?_; go_simp; go_big_quiet_on
        go_big_quiet_want; (refine quiet_val ?_ ?_ ?_; rotate_left; (intro w; go_simp; rfl); go_simp; go_big_quiet_on)
        go_big_quiet_want; (refine quiet_val ?_ ?_ ?_; rotate_left; (intro w; go_simp; rfl); go_simp; go_big_quiet_on)
        go_big_quiet_want; refine quiet_ld _ rfl (ad := ⟨g3, 45, none⟩) rfl (fun w' h => ld26 (h.2.2.2.cells HAD.out).d) ?_; go_simp; go_big_quiet_on
        go_big_quiet_want; (refine quiet_val ?_ ?_ ?_; rotate_left; (intro w; go_simp; rfl); go_simp; go_big_quiet_on)
        go_big_quiet_want; (refine quiet_val ?_ ?_ ?_; rotate_left; (intro w; go_simp; rfl); go_simp; go_big_quiet_on)
        go_big_quiet_want; refine quiet_slh _ _ _ rfl rfl rfl rfl HS9.out ?_; go_simp; go_big_quiet_on
        go_big_quiet_want; (refine quiet_val ?_ ?_ ?_; rotate_left; (intro w; go_simp; rfl); go_simp; go_big_quiet_on)
        go_big_quiet_want; (refine quiet_val ?_ ?_ ?_; rotate_left; (intro w; go_simp; rfl); go_simp; go_big_quiet_on)
        go_big_quiet_want; (refine quiet_val ?_ ?_ ?_; rotate_left; (intro w; go_simp; rfl); go_simp; go_big_quiet_on)
        go_big_quiet_want; (refine quiet_val ?_ ?_ ?_; rotate_left; (intro w; go_simp; rfl); go_simp; go_big_quiet_on)
        go_big_quiet_want; (refine quiet_val ?_ ?_ ?_; rotate_left; (intro w; go_simp; rfl); go_simp; go_big_quiet_on)
        rw [← HB0.out]
        go_big_quiet_want; refine quiet_call 94 #[.agg (csP f fv (.slice none 0 0)), .int .i64 n, .slice A s (capd - n), .bool b] (.agg (csP (plcP f n l b) fv (.slice A s (capd - n)))) ?_ KP.out ?_
        · intro w; go_simp; all_goals (with_reducible rfl)
        go_simp; go_big_quiet_on
        go_big_quiet_want; refine quiet_call 83 #[.agg (csP q qo (.slice qa q.d.length qc)), .agg (csP (plcP f n l b) fv (.slice A s (capd - n)))] (.bool (dP q (plcP f n l b))) ?_ KE.out ?_
        · intro w; go_simp; all_goals (with_reducible rfl)
        go_simp; go_big_quiet_on
        go_big_quiet_want; (refine quiet_val ?_ ?_ ?_; rotate_left; (intro w; go_simp; rfl); go_simp; go_big_quiet_on)
        refine wpQuiet_nil ?_
        intro V hV
        have hVA := hV.1
        replace HB7r := Lib.hid hV.2.2.1
        replace HB8r := Lib.hid (HB8r.out.on hVA)
        replace HAW := Lib.hid (HAW.out.next hVA (by simp))
        have HENV : Hid (Away [] w V) := HEND.out.on hVA
        have hszV := hVA.size
        clear hV hVA KP KE HC HEND c45
        generalize dP q (plcP f n l b) = be at *
        cases be
        · obtain rfl : z = false := by rw [HZ2.out]; rfl
          go_wp2_with fail
          go_ret
          exact ⟨rfl, HENV.out⟩
        go_wp2_with fail
        refine wp_region_held_drew (S := (fun w' => BoxP w' g8 (latP p id) cv (.slice none 0 0))) (by kernel_rfl) HB8r.out (fun hHeld => ?_)
        refine wpAnyH_take (i := 0) (v := ?_) (by simp only [List.getElem?_toArray, List.getElem?_cons_zero]; rfl) (by kernel_rfl) (by kernel_rfl) (by kernel_rfl) (by exact fun _ _ _ h => h) (Or.inl ⟨by rfl, ?_⟩) (by assumption) ?_
        rotate_left
        · intro wq hSw
          (try dsimp only at hSw)
          go_simp
          all_goals (with_reducible rfl)
        try simp only [Act.put, List.setIfInBounds_toArray, List.set_cons_zero, List.set_cons_succ]
        refine wpAnyH_take (i := 1) (by simp only [List.getElem?_toArray, List.getElem?_cons_succ, List.getElem?_cons_zero]; rfl) (by kernel_rfl) (by kernel_rfl) (by kernel_rfl) (by exact fun _ _ _ h => h) (yields_ld (ad := ⟨g8, 0, none⟩) (by rfl) _ rfl rfl (fun w' h => load28_run h HLA.out)) (by assumption) ?_
        try simp only [Act.put, List.setIfInBounds_toArray, List.set_cons_zero, List.set_cons_succ]
        refine wpAnyH_take (i := 2) (v := ?_) (by simp only [List.getElem?_toArray, List.getElem?_cons_succ, List.getElem?_cons_zero]; rfl) (by kernel_rfl) (by kernel_rfl) (by kernel_rfl) (by exact fun _ _ _ h => h) (Or.inl ⟨by rfl, ?_⟩) (by assumption) ?_
        rotate_left
        · intro wq hSw
          (try dsimp only at hSw)
          go_simp
          all_goals (with_reducible rfl)
        try simp only [Act.put, List.setIfInBounds_toArray, List.set_cons_zero, List.set_cons_succ]
        refine wpAnyH_ready (rs := [3]) (by kernel_rfl) (by simp) ?_
        refine AllReadyH.cons (by simp only [List.getElem?_toArray, List.getElem?_cons_succ, List.getElem?_cons_zero]; rfl) (fun K hK => ?_) AllReadyH.nil
        rw [if_pos (by rfl)]
        refine wp_store28 (.tmp 7) (.tmp 62) rfl g7 rfl (latP p id) cv (.slice none 0 0) rfl f fv (.slice none 0 0) (by exact HB7r.out) HLA.out HAF.out HCV1.out rfl ?_
        intro y5 hb5 haw5
        have hS : BoxP y5 g8 (latP p id) cv (.slice none 0 0) := hHeld.away haw5 (by simp; omega)
        have HA5 : Hid (Away [g7] wb y5) := HAW.out.drew.trans haw5
        have HB75 := Lib.hid hb5
        clear haw5 hb5 HB7r
        refine hK.out _ _ hS (fun hHeld => ?_)
        clear hK K
        try simp only [Act.put]
        refine wpAnyH_done (by kernel_rfl) ?_ _
        clear hHeld hS
        go_wp2_with fail
        go_roundw
        case rel => exact ⟨n + q.d.length, k + 1, latP p id, cv, by push_cast; rfl, by go_num, hle, by omega, HF2.out, HLA.out, HB75.out, HCS.out, fun _ k hk => HCV7.out k hk, by rw [HZ2.out, hs]; rfl, HA5.out⟩
        case measure => simp [intOf]; omega
      · have hkk : k = xs.length := by omega
        have hlast : Hid (z = decide (n = p.d.length)) := by
          show _ = _
          rw [HZ.out, List.drop_eq_nil_of_le (by omega)]; rfl
        have c45 := (HB3r.out.cells HAD.out).d
        have HEND : Hid (Away [] w wr) := HA.out.next HAW.out (fun x hx => .inr (by simp at hx; omega))
        by_cases hnd : n = p.d.length
        · obtain rfl : z = true := by rw [hlast.out]; simp [hnd]
          go_wp2_with fail
          go_ret
          exact ⟨by simp [hnd], HEND.out⟩
        · obtain rfl : z = false := by rw [hlast.out]; simp [hnd]
          have hnb : decide ((n : Int) = (p.d.length : Int)) = false := by simp; omega
          go_wp2_with fail
          go_ret
          exact ⟨by simp; omega, HEND.out⟩
#print axioms parted_c
end Go.Proofs.YtaicckenpplceaaGreatDoor
