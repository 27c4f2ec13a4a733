/-
  The document's source.
-/
import Derived.Test.YtepbgigoekpdeaaSrcs
namespace Go.Proofs.Ytepbgigoekpdeaa
open Go.ChangeShapes Go.WideShapes Go.ChangeAt Go.RowKit
set_option linter.unusedVariables false

def LstI (w : World) (v : Value) (l : List Int) : Prop := w.ownsRow 0 2 1 v l.length (l.map (Value.int .i64))
theorem LstI.away {S : List Nat} {w w' : World} {v : Value} {l : List Int} (h : LstI w v l) (hw : Away S w w') (ha : ∀ k, v.ownBlock = some k → k ∉ S) : LstI w' v l := by
  obtain ⟨h1, h2⟩ := h
  refine ⟨h1, ?_⟩
  rcases h2 with h2 | ⟨g, cap, cur, rfl, hg, hh, r⟩
  · exact .inl h2
  · exact .inr ⟨g, cap, cur, rfl, hg, hw.keep (ha g rfl) hh, r⟩
theorem LstI.nil (w : World) : LstI w (.slice none 0 0) [] := World.ownsRow_nil _ _ _ _
theorem LstI.lt {w : World} {v : Value} {l : List Int} (h : LstI w v l) : ∀ k, v.ownBlock = some k → k < w.heap.size := fun k hk => (World.ownsRow.lt h k hk).2
theorem LstI.shape {w : World} {v : Value} {l : List Int} (h : LstI w v l) : ∃ a c, v = .slice a l.length c := by
  rcases h.2 with ⟨rfl, h2⟩ | ⟨g, cap, cur, rfl, hg, hh, hn, hc, hs, ht⟩
  · exact ⟨_, _, by rw [h2]⟩
  · exact ⟨_, _, rfl⟩
theorem LstI.at {w : World} {v : Value} {l : List Int} (h : LstI w v l) {i : Nat} {x : Int} (hx : l[i]? = some x) :
    ∃ b cap, v = .slice (some ⟨b, 0, none⟩) l.length cap ∧ w.cell? ⟨b, i, none⟩ = some (.int .i64 x) := by
  have h0 := h
  have hi := get_lt' hx
  rcases h.2 with ⟨rfl, h2⟩ | ⟨g, cap, cur, rfl, hg, hh, hn, hc, hs, ht⟩
  · omega
  · refine ⟨g, cap, rfl, ?_⟩
    rw [World.ownsRow.cellAt h0 i (by omega)]
    simp [hx]
theorem info2 : (Try.prog.info? 2).map (fun i => (i.zero, i.size, i.bytes)) = some (some (.int .i64 0), 1, 8) := by kernel_rfl
theorem wpList_appI {w : World} {ops : Array Oper} {rest : List Oper} {o : Oper} {a : Act} {Q : Exit → Act → World → Prop} (hgd : o.guard = none) (s t : Operand)
    (ho : o.op = .call { callee := .builtin .append, args := #[s, t], argTypes := #[33, 33] }) (v : Value) (l : List Int) (hs : a.eval s = v) (hown : LstI w v l)
    (ad : Addr) (c : Nat) (ht : a.eval t = .slice (some ad) 1 c) (x : Int) (hx : w.cell? ad = some (.int .i64 x)) (hk : l.length < 8796093022208)
    (h : ∀ v' w', LstI w' v' (l ++ [x]) → w.grownBy w' v.ownBlock → Moved w v v' → wpList Try.prog ops Q rest (a.put o.dst v') w') : wpList Try.prog ops Q (o :: rest) a w := by
  obtain ⟨i0, hi, hz0, hz1, hz2⟩ := info_parts info2
  obtain ⟨v', w', hrun, r1, r2, r3⟩ := run_appN 33 o.type 2 i0 _ 8 1 Try.underlying33 hi hz0 hz1 hz2 rfl (by decide) w v l.length (l.map (Value.int .i64)) hown ad 1 c [.int .i64 x] rfl (fun j u hj => by
    match j, hj with
    | 0, hj => simp at hj; subst hj; simpa [Addr.add] using hx
    | j + 1, hj => simp at hj) (by simp; rfl) (by unfold maxLen; omega) (by omega)
  refine wpList_plain hgd fun _ hK => ?_
  unfold Oper.wp
  simp [execOp, ho, resolve, invoke, builtin, hs, ht, hrun, Result.andThen]
  refine hK _ _ (h v' w' ?_ r2 r3)
  unfold LstI
  rw [List.length_append, List.map_append]
  exact r1
theorem cell_nd (w : World) (q : Nat) (v : Value) (t : TypeId) : ((w.drewN q).alloc (.cells #[v] t)).cell? ⟨w.heap.size, 0, none⟩ = some v := by
  show ((w.drewN q).alloc (.cells #[v] t)).cell? ⟨(w.drewN q).heap.size, 0, none⟩ = _
  rw [World.cell?_alloc_at (hn := rfl)]
  rfl
/-- The document's source at block g. -/
structure Rf (w : World) (g : Nat) (v : Value) (sp li : Int) (G : List Int) : Prop where
  blk : w.heap[g]? = some (.cells #[.int .i64 sp, .int .i64 li, v] 62 (0, 0))
  lst : LstI w v G
  own : ∀ k, v.ownBlock = some k → k ≠ g
theorem Rf.away {S : List Nat} {w w' : World} {g : Nat} {v : Value} {sp li : Int} {G : List Int} (h : Rf w g v sp li G) (hw : Away S w w') (hg : g ∉ S) (hv : ∀ k, v.ownBlock = some k → k ∉ S) : Rf w' g v sp li G :=
  ⟨hw.keep hg h.blk, h.lst.away hw hv, h.own⟩
def RAsked (w w' : World) (g : Nat) (v : Value) (sp li : Int) (G : List Int) : Prop := ∃ v', Rf w' g v' sp li G ∧ Moved w v v' ∧ Away (fp g v) w w'
set_option maxHeartbeats 2000000 in
theorem rnew_yes (sp li : Int) (w : World) (h1 : 1 ≤ sp) (h2 : sp ≤ 4294967296) (h3 : 0 ≤ li) (h4 : li ≤ 4294967296) :
    Calls Try.prog 15 #[.int .i64 sp, .int .i64 li] w fun E w' => ∃ g, E = .returned (.tuple #[.pointer (some ⟨g, 0, none⟩), .int .i64 0]) ∧ Rf w' g (.slice none 0 0) sp li [] ∧ w.heap.size ≤ g ∧ Away [] w w' := by
  go_enter Try.func15, Try.ntmps15
  go_wp2_with fail
  go_ret2
  exact ⟨w.heap.size, rfl, ⟨block_new w _, LstI.nil _, by simp [Value.ownBlock]⟩, by omega, (Away.refl [] w).alloc _⟩
set_option maxHeartbeats 4000000 in
theorem rnew_no (sp li : Int) (w : World) (h : ¬ (1 ≤ sp ∧ sp ≤ 4294967296 ∧ 0 ≤ li ∧ li ≤ 4294967296)) :
    Calls Try.prog 15 #[.int .i64 sp, .int .i64 li] w fun E w' => E = .returned (.tuple #[.pointer none, .int .i64 1]) ∧ w' = w := by
  by_cases h1 : 1 ≤ sp
  · by_cases h2 : sp ≤ 4294967296
    · by_cases h3 : 0 ≤ li
      · have h4 : ¬ (li ≤ 4294967296) := by omega
        clear h
        go_enter Try.func15, Try.ntmps15
        go_wp2_with fail
        go_ret2
        exact ⟨rfl, rfl⟩
      · clear h
        go_enter Try.func15, Try.ntmps15
        go_wp2_with fail
        go_ret2
        exact ⟨rfl, rfl⟩
    · clear h
      go_enter Try.func15, Try.ntmps15
      go_wp2_with fail
      go_ret2
      exact ⟨rfl, rfl⟩
  · clear h
    go_enter Try.func15, Try.ntmps15
    go_wp2_with fail
    go_ret2
    exact ⟨rfl, rfl⟩
set_option maxRecDepth 100000 in
set_option maxHeartbeats 4000000 in
theorem rmay_c {w : World} {g : Nat} {v : Value} {sp li : Int} {G : List Int} (now : Int) (h : Rf w g v sp li G) (hg : Good sp li G) (hs : G.length < 8796093022208) :
    Calls Try.prog 23 #[.pointer (some ⟨g, 0, none⟩), .int .i64 now] w fun E w' => E = .returned (.bool (decide (mayP G now))) ∧ w' = w := by
  have hla := hg.last
  obtain ⟨la, lc, hv⟩ := h.lst.shape
  subst hv
  have k2 : w.cell? ⟨g, 2, none⟩ = some (.slice la G.length lc) := by rw [cell_of_block h.blk]; rfl
  obtain ⟨z, hz⟩ : ∃ z, z = decide (mayP G now) := ⟨_, rfl⟩
  rw [← hz]
  have HZ := hidI hz
  clear hz
  rcases nil_or_snoc G with rfl | ⟨F, x, hF⟩
  · clear h hla
    by_cases m0 : 0 ≤ now
    · by_cases m2 : now ≤ 1099511627776
      · obtain rfl : z = true := by rw [HZ.out, decide_eq_true_eq]; exact ⟨m0, m2⟩
        go_enter Try.func23, Try.ntmps23
        go_wp2_with fail
        go_ret
        exact ⟨rfl, rfl⟩
      · obtain rfl : z = false := by rw [HZ.out, decide_eq_false_iff_not]; exact fun h => m2 h.2
        have d2 : decide (now ≤ 1099511627776) = false := decide_eq_false m2
        go_enter Try.func23, Try.ntmps23
        go_wp2_with fail
        go_ret
        exact ⟨rfl, rfl⟩
    · obtain rfl : z = false := by rw [HZ.out, decide_eq_false_iff_not]; exact fun h => m0 h.1
      go_enter Try.func23, Try.ntmps23
      go_wp2_with fail
      go_ret
      exact ⟨rfl, rfl⟩
  · have hL : lastP G = x := by rw [hF]; exact last_snoc _ _
    obtain ⟨b, cap', hv', c1⟩ := h.lst.at (show G[F.length]? = some x by rw [hF]; simp)
    simp only [Value.slice.injEq] at hv'
    obtain ⟨rfl, -, rfl⟩ := hv'
    have hGL : G.length = F.length + 1 := by rw [hF]; simp
    rw [hL] at hla
    have HM : Hid (z = decide (x ≤ now ∧ now ≤ 1099511627776)) := by show _ = _; rw [HZ.out, decide_eq_decide]; unfold mayP; rw [hL]
    obtain ⟨N, hN⟩ : ∃ N, N = G.length := ⟨_, rfl⟩
    rw [← hN] at k2 hs hGL
    have t1 : ¬ ((N : Int) = 0) := by omega
    have t1b : ((N : Int) == 0) = false := by simp; omega
    have t2 : 0 ≤ (N : Int) - 1 := by omega
    have t3 : (N : Int) - 1 < (N : Int) := by omega
    have t4 : ((N : Int) - 1).toNat = F.length := by omega
    clear h hF hL hGL hN hg HZ
    generalize F.length = q at *
    by_cases m0 : 0 ≤ now
    · by_cases m2 : now ≤ 1099511627776
      · by_cases m1 : x ≤ now
        · obtain rfl : z = true := by rw [HM.out]; simp; omega
          go_enter Try.func23, Try.ntmps23
          go_wp2_with fail
          go_ret
          exact ⟨rfl, rfl⟩
        · obtain rfl : z = false := by rw [HM.out]; simp; omega
          have d2 : decide (x ≤ now) = false := decide_eq_false m1
          go_enter Try.func23, Try.ntmps23
          go_wp2_with fail
          go_ret
          exact ⟨rfl, rfl⟩
      · obtain rfl : z = false := by rw [HM.out]; simp; omega
        have d2 : decide (now ≤ 1099511627776) = false := decide_eq_false m2
        go_enter Try.func23, Try.ntmps23
        go_wp2_with fail
        go_ret
        exact ⟨rfl, rfl⟩
    · obtain rfl : z = false := by rw [HM.out]; simp; omega
      go_enter Try.func23, Try.ntmps23
      go_wp2_with fail
      go_ret
      exact ⟨rfl, rfl⟩

theorem rapp {w w2 w5 : World} {g : Nat} {v v5 : Value} {sp li : Int} {G : List Int} (h : Rf w g v sp li G) (h2 : Away [] w w2) (hgr : w2.grownBy w5 v.ownBlock) (hm : Moved w2 v v5) :
    w5.heap[g]? = some (.cells #[.int .i64 sp, .int .i64 li, v] 62 (0, 0)) ∧ Away v.ownBlock.toList w w5 ∧ (∀ k, v5.ownBlock = some k → v.ownBlock = some k ∨ w.heap.size ≤ k) := by
  have hz := h2.size
  have h3 : Away v.ownBlock.toList w w5 := (h2.mono (by simp)).grown hgr (fun k hk => .inl (by simp [hk]))
  refine ⟨h3.keep (fun e => h.own g (by simpa using e) rfl) h.blk, h3, fun k hk => ?_⟩
  rcases hm k hk with h' | h'
  · exact .inl h'
  · exact .inr (by omega)
theorem rstored {w w5 : World} {g : Nat} {v v5 : Value} {sp li : Int} {G : List Int} (hl : LstI w5 v5 G) (hb : w5.heap[g]? = some (.cells #[.int .i64 sp, .int .i64 li, v] 62 (0, 0))) (ha : Away v.ownBlock.toList w w5) (hm : ∀ k, v5.ownBlock = some k → v.ownBlock = some k ∨ w.heap.size ≤ k)
    (hlt : g < w.heap.size) (hown : ∀ k, v.ownBlock = some k → k ≠ g) : RAsked w (w5.setCell ⟨g, 2, none⟩ v5) g v sp li G := by
  have hne : ∀ k, v5.ownBlock = some k → k ≠ g := fun k hk => by
    rcases hm k hk with h | h
    · exact hown k h
    · omega
  have h4 : Away [g] w5 (w5.setCell ⟨g, 2, none⟩ v5) := (Away.refl [g] w5).setCell (.inl (by simp)) _
  refine ⟨v5, ⟨?_, hl.away h4 (fun k hk => by simpa using hne k hk), hne⟩, hm, ?_⟩
  · rw [block_set hb]; rfl
  · exact (ha.mono (fun x hx => by simp [fp]; simp at hx; exact .inr hx)).next h4 (fun x hx => .inl (by simp at hx; subst hx; exact fp_self _ _))
set_option maxRecDepth 100000 in
set_option maxHeartbeats 8000000 in
theorem rnext_c {w : World} {g : Nat} {v : Value} {sp li : Int} {G : List Int} (now : Int) (h : Rf w g v sp li G) (hg : Good sp li G) (hs : G.length < 8796093022208) :
    Calls Try.prog 16 #[.pointer (some ⟨g, 0, none⟩), .int .i64 now] w fun E w' => E = .returned (.tuple #[.int .u32 (nextN sp li G now), .int .i64 (nextE sp li G now)]) ∧ RAsked w w' g v sp li (nextG sp li G now) := by
  have KM := hidI (rmay_c now h hg hs)
  have hsp1 := hg.sp1
  have hsp2 := hg.sp2
  have hli0 := hg.li0
  have hli1 := hg.li1
  obtain ⟨la, lc, hv⟩ := h.lst.shape
  subst hv
  have k0 : w.cell? ⟨g, 0, none⟩ = some (.int .i64 sp) := by rw [cell_of_block h.blk]; rfl
  have k1 : w.cell? ⟨g, 1, none⟩ = some (.int .i64 li) := by rw [cell_of_block h.blk]; rfl
  have k2 : w.cell? ⟨g, 2, none⟩ = some (.slice la G.length lc) := by rw [cell_of_block h.blk]; rfl
  have hlt := lt_of_block h.blk
  have hgb1 : ¬ (g = w.heap.size) := by omega
  have H := hidI h
  have HG := hidI hg
  clear h hg
  by_cases hm : mayP G now
  · have HFI := hidI (full_iff HG.out hm.1)
    have hnow : 0 ≤ now ∧ now ≤ 1099511627776 := ⟨by have := HG.out.last; have := hm.1; omega, hm.2⟩
    rw [decide_eq_true hm] at KM
    by_cases hf : fullP sp li G now
    · have e1 : nextN sp li G now = 0 := by unfold nextN; rw [if_pos hm, if_pos hf]
      have e2 : nextE sp li G now = 120 := by unfold nextE; rw [if_pos hm, if_pos hf]
      have e3 : nextG sp li G now = G := by unfold nextG; rw [if_pos hm, if_pos hf]
      rw [e1, e2, e3]
      obtain ⟨f1, x, hx, f2⟩ := HFI.out.1 hf
      obtain ⟨b, cap', hv', c1⟩ := H.out.lst.at hx
      simp only [Value.slice.injEq] at hv'
      obtain ⟨rfl, -, rfl⟩ := hv'
      have bx := HG.out.bd x (List.mem_of_getElem? hx)
      obtain ⟨N, hN⟩ : ∃ N, N = G.length := ⟨_, rfl⟩
      rw [← hN] at k2 hs f1 c1
      have t2 : 0 ≤ (N : Int) - sp := by omega
      have t3 : (N : Int) - sp < (N : Int) := by omega
      have t4 : ((N : Int) - sp).toNat = N - sp.toNat := by omega
      generalize N - sp.toNat = q at *
      clear e1 e2 e3 hf hm hx HFI hN
      go_enter Try.func16, Try.ntmps16
      go_wp2_with fail
      refine KM.out.mono ?_
      rintro E _ ⟨rfl, rfl⟩
      go_wp2_with fail
      go_quiet (fail)
      go_wp2_with fail
      go_ret2
      exact ⟨rfl, _, H.out.away ((Away.refl [] _).drewN _) (by simp) (by simp), Moved.refl _ _, (Away.refl _ _).drewN _⟩
    · have e1 : nextN sp li G now = (G.length : Int) % sp := by unfold nextN; rw [if_pos hm, if_neg hf]
      have e2 : nextE sp li G now = 0 := by unfold nextE; rw [if_pos hm, if_neg hf]
      have e3 : nextG sp li G now = G ++ [now] := by unfold nextG; rw [if_pos hm, if_neg hf]
      rw [e1, e2, e3]
      obtain ⟨r, hr⟩ : ∃ r : Int, (G.length : Int) % sp = r := ⟨_, rfl⟩
      rw [hr]
      have q1 : (G.length : Int).tmod sp = r := by rw [Int.tmod_eq_emod_of_nonneg (by omega), hr]
      have q2 : 0 ≤ r := by rw [← hr]; exact Int.emod_nonneg _ (by omega)
      have q3 : r ≤ 4294967295 := by have := Int.emod_lt_of_pos (G.length : Int) (show 0 < sp by omega); omega
      have q4 : ¬ (sp = 0) := by omega
      have HWR : Hid (IntKind.u32.wrap r = r) := by show _ = _; rw [IntKind.wrap_u32]; omega
      have HNF : Hid (¬ (sp ≤ G.length ∧ ∃ x, G[G.length - sp.toNat]? = some x ∧ now - x < li)) := fun h => hf (HFI.out.2 h)
      clear hr e1 e2 e3 hf hm HFI
      by_cases f1 : sp ≤ (G.length : Int)
      · obtain ⟨x, hx⟩ : ∃ x, G[G.length - sp.toNat]? = some x := ⟨G[G.length - sp.toNat]'(by omega), by simp⟩
        have f2 : ¬ (now - x < li) := fun h => HNF.out ⟨f1, x, hx, h⟩
        have d2 : decide (now - x < li) = false := decide_eq_false f2
        obtain ⟨b, cap', hv', c1⟩ := H.out.lst.at hx
        simp only [Value.slice.injEq] at hv'
        obtain ⟨rfl, -, rfl⟩ := hv'
        have bx := HG.out.bd x (List.mem_of_getElem? hx)
        obtain ⟨N, hN⟩ : ∃ N, N = G.length := ⟨_, rfl⟩
        rw [← hN] at k2 hs f1 c1 q1
        rw [← hN] at H ⊢
        have t2 : 0 ≤ (N : Int) - sp := by omega
        have t3 : (N : Int) - sp < (N : Int) := by omega
        have t4 : ((N : Int) - sp).toNat = N - sp.toNat := by omega
        have HNN := hidI hN
        generalize N - sp.toNat = q at *
        clear hx HNF hN
        go_enter Try.func16, Try.ntmps16
        go_wp2_with fail
        refine KM.out.mono ?_
        rintro E _ ⟨rfl, rfl⟩
        go_wp2_with fail
        go_quiet (fail)
        go_wp2_with (at_builtin; refine wpList_appI rfl _ _ rfl _ G rfl (by exact H.out.lst.away (((Away.refl [] _).drewN _).alloc _) (by simp)) ⟨_, 0, none⟩ 1 rfl now (by exact cell_nd _ _ _ _) (by first | assumption | (have := HNN.out; omega)) ?_)
        intro v5 w5 hown5 hgr5 hmov5
        obtain ⟨hb5, haw5, hmv5⟩ := rapp H.out (((Away.refl [] _).drewN _).alloc _) hgr5 hmov5
        have z0 : w5.cell? ⟨g, 0, none⟩ = some (.int .i64 sp) := by rw [cell_of_block hb5]; rfl
        have z2 := (show w5.cell? ⟨g, 2, none⟩ = some _ by rw [cell_of_block hb5]; rfl)
        have g2 := free_of_block hb5 2
        obtain ⟨va, vc, hv5⟩ := hown5.shape
        obtain ⟨M, hM⟩ : ∃ M, M = (G ++ [now]).length := ⟨_, rfl⟩
        rw [← hM] at hv5
        clear hM
        have HO5 := hidI hown5; have HB5 := hidI hb5; have HA5 := hidI haw5; have HM5 := hidI hmv5; have HV5 := hidI hv5
        subst hv5
        clear hown5 hgr5 hmov5 hb5 haw5 hmv5
        go_wp2_with fail
        go_ret2
        exact ⟨by first | rfl | (show Ending.returned (.tuple #[.int .u32 (IntKind.u32.wrap r), .int .i64 0]) = _; rw [HWR.out]), rstored HO5.out HB5.out HA5.out HM5.out hlt H.out.own⟩
      · obtain ⟨N, hN⟩ : ∃ N, N = G.length := ⟨_, rfl⟩
        rw [← hN] at k2 hs f1 q1
        rw [← hN] at H ⊢
        have HNN := hidI hN
        have d1 : decide (sp ≤ (N : Int)) = false := decide_eq_false f1
        clear HNF hN
        go_enter Try.func16, Try.ntmps16
        go_wp2_with fail
        refine KM.out.mono ?_
        rintro E _ ⟨rfl, rfl⟩
        go_wp2_with fail
        go_quiet (fail)
        go_wp2_with (at_builtin; refine wpList_appI rfl _ _ rfl _ G rfl (by exact H.out.lst.away (((Away.refl [] _).drewN _).alloc _) (by simp)) ⟨_, 0, none⟩ 1 rfl now (by exact cell_nd _ _ _ _) (by first | assumption | (have := HNN.out; omega)) ?_)
        intro v5 w5 hown5 hgr5 hmov5
        obtain ⟨hb5, haw5, hmv5⟩ := rapp H.out (((Away.refl [] _).drewN _).alloc _) hgr5 hmov5
        have z0 : w5.cell? ⟨g, 0, none⟩ = some (.int .i64 sp) := by rw [cell_of_block hb5]; rfl
        have z2 := (show w5.cell? ⟨g, 2, none⟩ = some _ by rw [cell_of_block hb5]; rfl)
        have g2 := free_of_block hb5 2
        obtain ⟨va, vc, hv5⟩ := hown5.shape
        obtain ⟨M, hM⟩ : ∃ M, M = (G ++ [now]).length := ⟨_, rfl⟩
        rw [← hM] at hv5
        clear hM
        have HO5 := hidI hown5; have HB5 := hidI hb5; have HA5 := hidI haw5; have HM5 := hidI hmv5; have HV5 := hidI hv5
        subst hv5
        clear hown5 hgr5 hmov5 hb5 haw5 hmv5
        go_wp2_with fail
        go_ret2
        exact ⟨by first | rfl | (show Ending.returned (.tuple #[.int .u32 (IntKind.u32.wrap r), .int .i64 0]) = _; rw [HWR.out]), rstored HO5.out HB5.out HA5.out HM5.out hlt H.out.own⟩
  · have e1 : nextN sp li G now = 0 := by unfold nextN; rw [if_neg hm]
    have e2 : nextE sp li G now = 1 := by unfold nextE; rw [if_neg hm]
    have e3 : nextG sp li G now = G := by unfold nextG; rw [if_neg hm]
    rw [e1, e2, e3]
    rw [decide_eq_false hm] at KM
    clear e1 e2 e3 hm
    go_enter Try.func16, Try.ntmps16
    go_wp2_with fail
    refine KM.out.mono ?_
    rintro E _ ⟨rfl, rfl⟩
    go_wp2_with fail
    go_ret2
    exact ⟨rfl, _, H.out, Moved.refl _ _, Away.refl _ _⟩

set_option maxRecDepth 100000 in
set_option maxHeartbeats 8000000 in
theorem rbusy_c {w : World} {g : Nat} {v : Value} {sp li : Int} {G : List Int} (now : Int) (h : Rf w g v sp li G) (hg : Good sp li G) (hs : G.length < 8796093022208) :
    Calls Try.prog 17 #[.pointer (some ⟨g, 0, none⟩), .int .i64 now] w fun E w' => E = .returned (.tuple #[.int .i64 (busyN li G now), .int .i64 (busyE G now)]) ∧ ∃ q, w' = w.drewN q := by
  have KM := hidI (rmay_c now h hg hs)
  have hsp1 := hg.sp1
  have hsp2 := hg.sp2
  have hli0 := hg.li0
  have hli1 := hg.li1
  obtain ⟨la, lc, hv⟩ := h.lst.shape
  subst hv
  have k0 : w.cell? ⟨g, 0, none⟩ = some (.int .i64 sp) := by rw [cell_of_block h.blk]; rfl
  have k1 : w.cell? ⟨g, 1, none⟩ = some (.int .i64 li) := by rw [cell_of_block h.blk]; rfl
  have k2 : w.cell? ⟨g, 2, none⟩ = some (.slice la G.length lc) := by rw [cell_of_block h.blk]; rfl
  have H := hidI h
  have HG := hidI hg
  clear h hg
  by_cases hm : mayP G now
  · have e1 : busyN li G now = cnt li now G := by unfold busyN; rw [if_pos hm]
    have e2 : busyE G now = 0 := by unfold busyE; rw [if_pos hm]
    rw [e1, e2]
    rw [decide_eq_true hm] at KM
    have hnow : 0 ≤ now ∧ now ≤ 1099511627776 := ⟨by have := HG.out.last; have := hm.1; omega, hm.2⟩
    have hcs := cnt_sp HG.out hm.1
    have hcl := cnt_le li now G
    obtain ⟨C, hC⟩ : ∃ C, C = cnt li now G := ⟨_, rfl⟩
    rw [← hC] at hcs hcl ⊢
    have HC := hidI hC
    obtain ⟨N, hN⟩ : ∃ N, N = G.length := ⟨_, rfl⟩
    rw [← hN] at k2 hs hcl
    have HN := hidI hN
    clear e1 e2 hm hC hN
    go_enter Try.func17, Try.ntmps17
    go_wp2_with fail
    refine KM.out.mono ?_
    rintro E W ⟨rfl, rfl⟩
    go_wp2_with fail
    go_loopw [7, 9] (fun bv i wr => ∃ (z q : Nat), i = .int .i64 ((z : Int) + 1) ∧ z ≤ N ∧ (z : Int) ≤ sp ∧ bv = .int .i64 ((min z C : Nat) : Int) ∧ wr = W.drewN q) (fun _ i _ => N + 1 - (intOf i).toNat)
    case atStart => exact ⟨0, 0, rfl, by omega, by omega, by simp, rfl⟩
    case round =>
      obtain ⟨z, q, rfl, hz1, hz2, rfl, rfl⟩ := hrel
      obtain ⟨y, hy⟩ : ∃ y, y = min z C := ⟨_, rfl⟩
      rw [← hy]
      have hyb : y ≤ N := by omega
      have HY := hidI hy
      clear hy
      by_cases hlt : z < N ∧ (z : Int) < sp
      · obtain ⟨a1, a2⟩ := hlt
        obtain ⟨x, hx⟩ : ∃ x, G[N - 1 - z]? = some x := ⟨G[N - 1 - z]'(by have := HN.out; omega), by simp⟩
        have hat := cnt_at li now G HG.out.up _ x hx
        rw [← HC.out, ← HN.out] at hat
        obtain ⟨b, cap', hv', c1⟩ := H.out.lst.at hx
        simp only [Value.slice.injEq] at hv'
        obtain ⟨rfl, -, rfl⟩ := hv'
        have bx := HG.out.bd x (List.mem_of_getElem? hx)
        have t1 : (z : Int) + 1 ≤ (N : Int) := by omega
        have t1b : (z : Int) + 1 ≤ sp := by omega
        have t2 : 0 ≤ (N : Int) - ((z : Int) + 1) := by omega
        have t3 : (N : Int) - ((z : Int) + 1) < (N : Int) := by omega
        have t4 : ((N : Int) - ((z : Int) + 1)).toNat = N - 1 - z := by omega
        clear hx
        obtain ⟨ix, hix⟩ : ∃ ix, ix = N - 1 - z := ⟨_, rfl⟩
        rw [← hix] at t4 c1
        have HIX := hidI hix
        have HAT := hidI hat
        clear hix hat
        by_cases hd : now - x < li
        · have d1 : decide (now - x < li) = true := decide_eq_true hd
          go_wp2_with fail
          go_quiet (fail)
          go_wp2_with fail
          go_roundw
          case rel => exact ⟨z + 1, _, by go_num, by omega, by omega, by have := HAT.out.1 hd; have := HY.out; have e : y + 1 = min (z + 1) C := by omega
                                                                         rw [← e]; go_num, rfl⟩
          case measure => simp [intOf]; omega
        · have d1 : decide (now - x < li) = false := decide_eq_false hd
          go_wp2_with fail
          go_quiet (fail)
          go_wp2_with fail
          go_roundw
          case rel => exact ⟨z + 1, _, by go_num, by omega, by omega, by have := (not_congr HAT.out).1 (by omega); have := HY.out; have e : y = min (z + 1) C := by omega
                                                                         rw [← e], rfl⟩
          case measure => simp [intOf]; omega
      · have hyC : y = C := by have := HY.out; omega
        subst hyC
        by_cases a1 : z < N
        · have a2 : ¬ ((z : Int) + 1 ≤ sp) := by omega
          have d1 : decide ((z : Int) + 1 ≤ sp) = false := decide_eq_false a2
          have t1 : (z : Int) + 1 ≤ (N : Int) := by omega
          clear hlt
          go_wp2_with fail
          go_ret2
          exact ⟨rfl, q, rfl⟩
        · have t1 : ¬ ((z : Int) + 1 ≤ (N : Int)) := by omega
          have d1 : decide ((z : Int) + 1 ≤ (N : Int)) = false := decide_eq_false t1
          clear hlt
          go_wp2_with fail
          go_ret2
          exact ⟨rfl, q, rfl⟩
  · have e1 : busyN li G now = 0 := by unfold busyN; rw [if_neg hm]
    have e2 : busyE G now = 1 := by unfold busyE; rw [if_neg hm]
    rw [e1, e2]
    rw [decide_eq_false hm] at KM
    clear e1 e2 hm
    go_enter Try.func17, Try.ntmps17
    go_wp2_with fail
    refine KM.out.mono ?_
    rintro E _ ⟨rfl, rfl⟩
    go_wp2_with fail
    go_ret2
    exact ⟨rfl, 0, rfl⟩
end Go.Proofs.Ytepbgigoekpdeaa
