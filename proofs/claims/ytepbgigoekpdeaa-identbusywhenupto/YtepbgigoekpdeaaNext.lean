/-
  forget, Next, Busy, New.
-/
import Derived.Test.YtepbgigoekpdeaaNote
import Derived.Deep.RegionLaw
namespace Go.Proofs.Ytepbgigoekpdeaa
open Go.ChangeShapes Go.WideShapes Go.ChangeAt Go.RowKit
set_option linter.unusedVariables false

theorem size65 (wx : World) : (sizeOf (Try.prog.elem 55)).run Try.prog wx = .ok 2 wx := by kernel_rfl
theorem under55 : Try.prog.underlying 55 = some (.slice (Try.prog.elem 55)) := by kernel_rfl
theorem slice_l (a A : Option Addr) (len cap k : Nat) (lo : Int) (hA : A = if cap = k then a else a.map (·.add (k * 2))) (hlo : lo = k) (hm : k ≤ len) (wx : World) :
    (Instr.sliceAt 55 (.slice a len cap) (some (.int .i64 lo)) none none).run Try.prog wx = .ok (.slice A (len - k) (cap - k)) wx := by
  subst hlo; subst hA
  rw [run_sliceAt_slice (h := under55), run_slice_l (ht := under55) (h0 := by omega) (h1 := by omega), size65]
  simp only [Result.andThen, sliced]
  rw [show (k : Int).toNat = k from by omega]
/-- A source, its batches whatever they are. -/
def Sc (w : World) (g c : Nat) (v : Value) (sp li : Int) (G : List Int) : Prop := ∃ bs, Src w g c v sp li G bs
/-- It was asked, and is so now. -/
def Asked (w w' : World) (g c : Nat) (v : Value) (sp li : Int) (G : List Int) : Prop := ∃ v', Sc w' g c v' sp li G ∧ Moved w v v' ∧ Away (fp g v) w w'
set_option maxRecDepth 100000 in
set_option maxHeartbeats 4000000 in
theorem forget_c {w : World} {g c : Nat} {v : Value} {sp li : Int} {G : List Int} {bs : List Sp} (h : Src w g c v sp li G bs) :
    Calls Try.prog 22 #[.pointer (some ⟨g, 0, none⟩)] w fun E w' => E = .returned (.tuple #[]) ∧ Asked w w' g c v sp li G := by
  obtain ⟨a, cap, hv, hcap, hnone, hrow, hblk⟩ := h.slice
  subst hv
  have hlen := h.inv.len h.good
  have hg := lt_of_block h.cs.blk
  have hla := h.good.last
  have H := hidI h
  have k3 := h.cs.c3
  have HNN := hidI hnone
  have HCP := hidI hcap
  clear h hrow hblk hnone
  go_enter Try.func22, Try.ntmps22
  go_wp2_with fail
  refine (over_c (lastP G) H.out (by omega) (by omega)).mono ?_
  rintro E w2 ⟨m, rfl, hc, haw⟩
  have h2 := H.out.on haw
  have k4 := h2.cs.c4
  have f4 := h2.cs.free 4
  have hml := hc.1
  have HC := hidI hc
  have H2 := hidI h2
  have HA := hidI haw
  clear hc h2 haw
  by_cases hd : 2 * m ≤ bs.length
  · have t1 : 2 * (m : Int) ≤ (bs.length : Int) := by omega
    go_wp2_with fail
    (try simp only [Exit.inBlock, Exit.then])
    refine bodyPost_ret (results_none rfl _ _ _) rfl ?_
    exact ⟨rfl, _, ⟨bs, H2.out⟩, Moved.refl _ _, HA.out.mono (by simp)⟩
  · have t1 : ¬ (2 * (m : Int) ≤ (bs.length : Int)) := by omega
    obtain ⟨A, hA⟩ : ∃ A, A = if cap = m then a else (a : Option Addr).map (·.add (m * 2)) := ⟨_, rfl⟩
    have hs2 := slice_l a A bs.length cap m (m : Int) hA rfl hml
    have HRT : Hid (Row w2 A (bs.drop m)) := by
      rw [hA]
      obtain ⟨a', cap', hv', -, -, hrow2, -⟩ := H2.out.slice
      simp only [Value.slice.injEq] at hv'
      obtain ⟨rfl, -, rfl⟩ := hv'
      exact hrow2.tail m cap hcap hml
    have HNA : Hid (A = none → cap - m = 0) := fun h => by
      rw [hA] at h
      split at h
      · omega
      · have h2 : (a : Option Addr) = none := Option.map_eq_none_iff.1 h
        have := HNN.out h2
        omega
    have HDL : Hid ((bs.drop m).length = bs.length - m) := by show _ = _; simp
    clear hA hcap
    obtain ⟨D, hD⟩ : ∃ D, D = bs.drop m := ⟨_, rfl⟩
    rw [← hD] at HRT HDL
    have HD := hidI hD
    clear hD
    go_wp2_with (at_builtin; refine wpList_appL rfl _ _ rfl _ [] D rfl (by exact Lst.nil _) A (bs.length - m) (cap - m) rfl HDL.out HNA.out (by exact HRT.out) (by simp; omega) ?_)
    intro v5 w5 hown5 hgr5 hmov5
    have hz := HA.out.size
    have haw5 : Away [] w2 w5 := (Away.refl [] w2).grown hgr5 (fun k hk => by simp [Value.ownBlock] at hk)
    have hb5 := haw5.keep (by simp) H2.out.cs.blk
    have hc5 := haw5.keep (by simp) H2.out.cs.box
    have z4 : w5.cell? ⟨g, 4, none⟩ = some (Value.slice a bs.length cap) := (by simp [cell_of_block hb5])
    have g4 := free_of_block hb5 4
    have HB5 := hidI hb5
    have HC5 := hidI hc5
    have hnew : ∀ k, v5.ownBlock = some k → w2.heap.size ≤ k := fun k hk => by
      rcases hmov5 k hk with h1 | h1
      · simp [Value.ownBlock] at h1
      · exact h1
    obtain ⟨va, vn, vc, rfl⟩ := hown5.shape
    have HO5 := hidI hown5
    have HA5 := hidI haw5
    have HW5 := hidI hnew
    clear hown5 haw5 hgr5 hmov5 hb5 hc5 hnew
    go_wp2_with fail
    go_end0
    have haw6 : Away [g] w5 (w5.setCell ⟨g, 4, none⟩ (.slice va vn vc)) := (Away.refl [g] w5).setCell (.inl (by simp)) _
    refine ⟨rfl, .slice va vn vc, ⟨bs.drop m, ⟨⟨?_, ?_, H2.out.cs.gc, fun k hk => ?_⟩, ?_, H2.out.inv.drop HC.out, H2.out.good, H2.out.small⟩⟩, fun k hk => ?_, ?_⟩
    · rw [block_set HB5.out]; rfl
    · exact haw6.keep (by have := H2.out.cs.gc; simp; omega) HC5.out
    · have := HW5.out k hk; have := lt_of_block H2.out.cs.box; omega
    · rw [← HD.out]
      refine Lst.away (l := D) HO5.out haw6 (fun k hk => ?_)
      have := HW5.out k hk; simp; omega
    · exact .inr (by have := HW5.out k hk; omega)
    · exact ((HA.out.trans HA5.out).mono (by simp)).next haw6 (fun x hx => .inl (by simp at hx; subst hx; exact fp_self _ _))

theorem Asked.same {w : World} {g c : Nat} {v : Value} {sp li : Int} {G : List Int} (h : Sc w g c v sp li G) {w' : World} (hw : Away [] w w') : Asked w w' g c v sp li G := by
  obtain ⟨bs, h⟩ := h
  exact ⟨v, ⟨bs, h.on hw⟩, Moved.refl _ _, hw.mono (by simp)⟩
set_option maxHeartbeats 4000000 in
theorem bsy_c {w : World} {g c : Nat} {v : Value} {sp li : Int} {G : List Int} (now : Int) (h : Sc w g c v sp li G) :
    Calls Try.prog 11 #[.pointer (some ⟨g, 0, none⟩), .int .i64 now] w fun E w' => E = .returned (.tuple #[.int .i64 (busyN li G now), .int .i64 (busyE G now)]) ∧ Away [] w w' := by
  obtain ⟨bs, h⟩ := h
  have H := hidI h
  have k5 := h.cs.c5
  have HK := hidI (may_c now h.cs)
  clear h
  by_cases hm : mayP G now
  · have e1 : busyN li G now = cnt li now G := by unfold busyN; rw [if_pos hm]
    have e2 : busyE G now = 0 := by unfold busyE; rw [if_pos hm]
    rw [e1, e2]
    have HM := hidI hm
    clear e1 e2 hm
    go_enter Try.func11, Try.ntmps11
    go_wp2_with fail
    refine HK.out.mono ?_
    rintro E w2 ⟨rfl, rfl⟩
    rw [decide_eq_true (show lastP G ≤ now ∧ now ≤ 1099511627776 from HM.out)]
    go_wp2_with fail
    refine (busy_c now H.out HM.out.1 HM.out.2).mono ?_
    rintro E w3 ⟨rfl, haw⟩
    go_wp2_with fail
    go_ret2
    exact ⟨rfl, haw⟩
  · have e1 : busyN li G now = 0 := by unfold busyN; rw [if_neg hm]
    have e2 : busyE G now = 1 := by unfold busyE; rw [if_neg hm]
    rw [e1, e2]
    have HM := hidI hm
    clear e1 e2 hm
    go_enter Try.func11, Try.ntmps11
    go_wp2_with fail
    refine HK.out.mono ?_
    rintro E w2 ⟨rfl, rfl⟩
    rw [decide_eq_false (show ¬ (lastP G ≤ now ∧ now ≤ 1099511627776) from HM.out)]
    go_wp2_with fail
    go_ret2
    exact ⟨rfl, Away.refl _ _⟩
theorem Asked.next {w w' w'' : World} {g c : Nat} {v v' : Value} {sp li : Int} {G : List Int} (hm : Moved w v v') (ha : Away (fp g v) w w') (h : Asked w' w'' g c v' sp li G) : Asked w w'' g c v sp li G := by
  obtain ⟨v2, h1, h2, h3⟩ := h
  have hz := ha.size
  refine ⟨v2, h1, fun k hk => ?_, ha.next h3 (fun x hx => ?_)⟩
  · rcases h2 k hk with h | h
    · exact hm k h
    · exact .inr (by omega)
  · simp [fp] at hx
    rcases hx with rfl | hx
    · exact .inl (fp_self _ _)
    · rcases hm x hx with h | h
      · exact .inl (fp_own h)
      · exact .inr h
set_option maxRecDepth 100000 in
set_option maxHeartbeats 4000000 in
theorem next_c {w : World} {g c : Nat} {v : Value} {sp li : Int} {G : List Int} (now : Int) (h : Sc w g c v sp li G) (hs : G.length < 35184372088832) :
    Calls Try.prog 10 #[.pointer (some ⟨g, 0, none⟩), .int .i64 now] w fun E w' => E = .returned (.tuple #[.int .u32 (nextN sp li G now), .int .i64 (nextE sp li G now)]) ∧ Asked w w' g c v sp li (nextG sp li G now) := by
  obtain ⟨bs, h⟩ := h
  have H := hidI h
  have k0 := h.cs.c0
  have k5 := h.cs.c5
  have HK := hidI (may_c now h.cs)
  have hg := lt_of_block h.cs.blk
  have hsp1 := h.good.sp1
  have hsp2 := h.good.sp2
  clear h
  by_cases hm : mayP G now
  · by_cases hf : fullP sp li G now
    · have e1 : nextN sp li G now = 0 := by unfold nextN; rw [if_pos hm, if_pos hf]
      have e2 : nextE sp li G now = 120 := by unfold nextE; rw [if_pos hm, if_pos hf]
      have e3 : nextG sp li G now = G := by unfold nextG; rw [if_pos hm, if_pos hf]
      rw [e1, e2, e3]
      have HM := hidI hm
      have HF : Hid ((cnt li now G : Int) = sp) := hf
      clear e1 e2 e3 hm hf
      go_enter Try.func10, Try.ntmps10
      go_wp2_with fail
      refine HK.out.mono ?_
      rintro E w2 ⟨rfl, rfl⟩
      rw [decide_eq_true (show lastP G ≤ now ∧ now ≤ 1099511627776 from HM.out)]
      go_wp2_with fail
      have HC : Hid (∀ q, Calls Try.prog 20 #[.pointer (some ⟨g, 0, none⟩), .int .i64 now] (w2.drewN q) fun E w' => E = .returned (.int .i64 sp) ∧ Away [] w2 w') := fun q =>
        (busy_c now (H.out.on ((Away.refl _ _).drewN q)) HM.out.1 HM.out.2).mono (fun E w' h => ⟨by rw [← HF.out]; exact h.1, ((Away.refl [] w2).drewN q).trans h.2⟩)
      go_region_with (go_at_call 20; refine (HC.out 1).mono ?_; rintro E w3 ⟨rfl, haw⟩; have z0 := haw.cell (by simp) k0)
      all_goals
        go_wp2_with fail
        go_ret2
        exact ⟨rfl, Asked.same ⟨bs, H.out⟩ haw⟩
    · have e1 : nextN sp li G now = (G.length : Int) % sp := by unfold nextN; rw [if_pos hm, if_neg hf]
      have e2 : nextE sp li G now = 0 := by unfold nextE; rw [if_pos hm, if_neg hf]
      have e3 : nextG sp li G now = G ++ [now] := by unfold nextG; rw [if_pos hm, if_neg hf]
      rw [e1, e2, e3]
      obtain ⟨r, hr⟩ : ∃ r : Int, (G.length : Int) % sp = r := ⟨_, rfl⟩
      rw [hr]
      have q1 : (G.length : Int).tmod sp = r := by rw [Int.tmod_eq_emod_of_nonneg (by omega), hr]
      have q2 : 0 ≤ r := by rw [← hr]; exact Int.emod_nonneg _ (by omega)
      have q3 : r ≤ 4294967295 := by have := Int.emod_lt_of_pos (G.length : Int) (show 0 < sp by omega); omega
      have q4 : ¬ (sp = 0) := by omega
      have HWR : Hid (IntKind.u32.wrap r = r) := by show _ = _; rw [IntKind.wrap_u32]; omega
      clear hr
      have HM := hidI hm
      have HF := hidI hf
      clear e1 e2 e3 hm hf
      go_enter Try.func10, Try.ntmps10
      go_wp2_with fail
      refine HK.out.mono ?_
      rintro E w2 ⟨rfl, rfl⟩
      rw [decide_eq_true (show lastP G ≤ now ∧ now ≤ 1099511627776 from HM.out)]
      go_wp2_with fail
      obtain ⟨n, hn⟩ : ∃ n : Int, n = cnt li now G := ⟨_, rfl⟩
      have hnf : ¬ (n = sp) := by rw [hn]; exact HF.out
      have hnf2 : (n == sp) = false := by simp [hnf]
      have HC : Hid (∀ q, Calls Try.prog 20 #[.pointer (some ⟨g, 0, none⟩), .int .i64 now] (w2.drewN q) fun E w' => E = .returned (.int .i64 n) ∧ Away [] w2 w') := fun q =>
        (busy_c now (H.out.on ((Away.refl _ _).drewN q)) HM.out.1 HM.out.2).mono (fun E w' h => ⟨by rw [hn]; exact h.1, ((Away.refl [] w2).drewN q).trans h.2⟩)
      clear hn
      go_region_with (go_at_call 20; refine (HC.out 1).mono ?_; rintro E w3 ⟨rfl, haw⟩; have z0 := haw.cell (by simp) k0; have z2 := haw.cell (by simp) H.out.cs.c2)
      all_goals
        have HA := hidI haw
        clear haw
        go_wp2_with fail
        go_quiet (fail)
        go_wp2_with fail
        refine (note_c now (H.out.on (HA.out.drewN _)) HM.out HF.out hs).mono ?_
        rintro E w4 ⟨rfl, v4, h4, hmv4, haw4⟩
        go_wp2_with fail
        refine (forget_c h4).mono ?_
        rintro E w5 ⟨rfl, hask⟩
        go_wp2_with fail
        go_ret2
        have hz := HA.out.size
        refine ⟨by show Ending.returned (.tuple #[.int .u32 (IntKind.u32.wrap r), .int .i64 0]) = _; rw [HWR.out], Asked.next (w' := w4) (v' := v4) (fun k hk => ?_) (((HA.out.drewN _).mono (by simp)).trans haw4) hask⟩
        rcases hmv4 k hk with h1 | h1
        · exact .inl h1
        · exact .inr (Nat.le_trans hz h1)
  · have e1 : nextN sp li G now = 0 := by unfold nextN; rw [if_neg hm]
    have e2 : nextE sp li G now = 1 := by unfold nextE; rw [if_neg hm]
    have e3 : nextG sp li G now = G := by unfold nextG; rw [if_neg hm]
    rw [e1, e2, e3]
    have HM := hidI hm
    clear e1 e2 e3 hm
    go_enter Try.func10, Try.ntmps10
    go_wp2_with fail
    refine HK.out.mono ?_
    rintro E w2 ⟨rfl, rfl⟩
    rw [decide_eq_false (show ¬ (lastP G ≤ now ∧ now ≤ 1099511627776) from HM.out)]
    go_wp2_with fail
    go_ret2
    exact ⟨rfl, Asked.same ⟨bs, H.out⟩ (Away.refl _ _)⟩

theorem block_new' (w : World) (o p : Obj) : ((w.alloc o).alloc p).heap[w.heap.size + 1]? = some p := by
  have := block_new (w.alloc o) p
  rwa [show (w.alloc o).heap.size = w.heap.size + 1 from by simp] at this
/-- A source of its own, just made. -/
def Fresh (w w' : World) (g c : Nat) (sp li : Int) : Prop := Sc w' g c (.slice none 0 0) sp li [] ∧ w.heap.size ≤ g ∧ w.heap.size ≤ c ∧ Away [] w w'
set_option maxHeartbeats 4000000 in
theorem new_yes (sp li : Int) (w : World) (h1 : 1 ≤ sp) (h2 : sp ≤ 4294967296) (h3 : 0 ≤ li) (h4 : li ≤ 4294967296) :
    Calls Try.prog 9 #[.int .i64 sp, .int .i64 li] w fun E w' => ∃ g c, E = .returned (.tuple #[.pointer (some ⟨g, 0, none⟩), .int .i64 0]) ∧ Fresh w w' g c sp li := by
  have hmf : ∀ (fn : Fn) (first cap : Array Value) (w : World), (Instr.makeFunc fn first cap).run Try.prog w = .ok (.func fn first cap) w := fun _ _ _ _ => rfl
  go_enter Try.func9, Try.ntmps9
  go_wp2_with fail
  go_ret2
  refine ⟨w.heap.size, w.heap.size + 1, rfl, ⟨[], ⟨⟨?_, ?_, by omega, by simp [Value.ownBlock]⟩, Lst.nil _, Inv.nil _, Good.nil h1 h2 h3 h4, by simp⟩⟩, by omega, by omega, ?_⟩
  · exact (Below.heap_alloc _ _ _ (by simp)).trans (block_new w _)
  · exact block_new' w _ _
  · exact ((Away.refl [] w).alloc _).alloc _
set_option maxHeartbeats 4000000 in
theorem new_no (sp li : Int) (w : World) (h : ¬ (1 ≤ sp ∧ sp ≤ 4294967296 ∧ 0 ≤ li ∧ li ≤ 4294967296)) :
    Calls Try.prog 9 #[.int .i64 sp, .int .i64 li] w fun E w' => E = .returned (.tuple #[.pointer none, .int .i64 1]) ∧ w' = w := by
  by_cases h1 : 1 ≤ sp
  · by_cases h2 : sp ≤ 4294967296
    · by_cases h3 : 0 ≤ li
      · have h4 : ¬ (li ≤ 4294967296) := by omega
        clear h
        go_enter Try.func9, Try.ntmps9
        go_wp2_with fail
        go_ret2
        exact ⟨rfl, rfl⟩
      · clear h
        go_enter Try.func9, Try.ntmps9
        go_wp2_with fail
        go_ret2
        exact ⟨rfl, rfl⟩
    · clear h
      go_enter Try.func9, Try.ntmps9
      go_wp2_with fail
      go_ret2
      exact ⟨rfl, rfl⟩
  · clear h
    go_enter Try.func9, Try.ntmps9
    go_wp2_with fail
    go_ret2
    exact ⟨rfl, rfl⟩
end Go.Proofs.Ytepbgigoekpdeaa
