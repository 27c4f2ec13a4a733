/-
  note.
-/
import Derived.Test.YtepbgigoekpdeaaFns
import Derived.Deep.RegionLaw
namespace Go.Proofs.Ytepbgigoekpdeaa
open Go.ChangeShapes Go.WideShapes Go.ChangeAt Go.RowKit
set_option linter.unusedVariables false

theorem hidI {p : Prop} (h : p) : Hid p := h
def fp (g : Nat) (v : Value) : List Nat := g :: v.ownBlock.toList
theorem fp_own {g k : Nat} {v : Value} (h : v.ownBlock = some k) : k ∈ fp g v := by simp [fp, h]
theorem fp_self (g : Nat) (v : Value) : g ∈ fp g v := by simp [fp]
theorem Lst.shape {w : World} {v : Value} {l : List Sp} (h : Lst w v l) : ∃ a n c, v = .slice a n c := by
  rcases h.2 with ⟨rfl, h2⟩ | ⟨g, cap, cur, rfl, hg, hh, hn, hc, hs, ht⟩
  · exact ⟨_, _, _, rfl⟩
  · exact ⟨_, _, _, rfl⟩
theorem step_app2 {ops : Array Oper} {o : Oper} {a : Act} {w : World} {K : Act → World → Prop} {Q : Exit → Act → World → Prop} {E : Prop} (hg : o.guard = none) (s t : Operand)
    (ho : o.op = .call { callee := .builtin .append, args := #[s, t], argTypes := #[55, 55] }) (v : Value) (l : List Sp) (hs : a.eval s = v) (hown : Lst w v l)
    (ad : Addr) (c : Nat) (ht : a.eval t = .slice (some ad) 1 c) (x : Sp) (hx : w.cell? ad = some (.int .i64 x.1)) (hy : w.cell? (ad.add 1) = some (.int .i64 x.2)) (hk : l.length < 8796093022208)
    (hK : ∀ v' w', Lst w' v' (l ++ [x]) → w.grownBy w' v.ownBlock → Moved w v v' → K (a.put o.dst v') w') :
    if Region.wanted o (yielded ops a.tmps) = true then Oper.wp Try.prog o a w K Q else E := by
  have hw : Region.wanted o (yielded ops a.tmps) = true := by simp [Region.wanted, hg]
  rw [if_pos hw]
  obtain ⟨v', w', hrun, r1, r2, r3⟩ := run_app2 o.type w v l.length (l.flatMap encS) hown ad c _ _ hx hy rfl rfl hk
  unfold Oper.wp
  simp [execOp, ho, resolve, invoke, builtin, hs, ht, hrun, Result.andThen]
  exact hK v' w' (Lst.snoc r1) r2 r3
/-- The source behind a note. -/
theorem Src.noted {w w2 : World} {g c : Nat} {v v2 : Value} {sp li now : Int} {G : List Int} {bs : List Sp} (h : Src w g c v sp li G bs) (hm : mayP G now) (hf : ¬ fullP sp li G now) (hs : G.length < 35184372088832)
    (hl : Lst w2 v2 (noteP bs G.length now)) (hv : ∀ k, v2.ownBlock = some k → k ≠ g ∧ k ≠ c)
    (hb : w2.heap[g]? = some (.cells #[.int .i64 sp, .int .i64 li, .int .i64 ((G.length : Int) + 1), .int .i64 now, v2, .func (.func 19) #[] #[.pointer (some ⟨c, 0, none⟩)]] 58 (0, 0)))
    (hc : w2.heap[c]? = some (.cells #[.pointer (some ⟨g, 0, none⟩)] 23 (0, 0))) : Src w2 g c v2 sp li (G ++ [now]) (noteP bs G.length now) := by
  refine ⟨⟨?_, hc, h.cs.gc, hv⟩, hl, h.inv.note h.good hm.1, h.good.snoc hm hf, by simp; omega⟩
  rw [last_snoc, hb]
  simp
def Noted (w w' : World) (g c : Nat) (v : Value) (sp li : Int) (G : List Int) (bs : List Sp) : Prop := ∃ v', Src w' g c v' sp li G bs ∧ Moved w v v' ∧ Away (fp g v) w w'
set_option maxRecDepth 100000 in
set_option maxHeartbeats 4000000 in
theorem note_c {w : World} {g c : Nat} {v : Value} {sp li : Int} {G : List Int} {bs : List Sp} (now : Int) (h : Src w g c v sp li G bs) (hm : mayP G now) (hf : ¬ fullP sp li G now) (hs : G.length < 35184372088832) :
    Calls Try.prog 21 #[.pointer (some ⟨g, 0, none⟩), .int .i64 now] w fun E w' => E = .returned (.tuple #[]) ∧ Noted w w' g c v sp li (G ++ [now]) (noteP bs G.length now) := by
  obtain ⟨a, cap, hv, hcap, hnone, hrow, hblk⟩ := h.slice
  subst hv
  have hlen := h.inv.len h.good
  have hg := lt_of_block h.cs.blk
  have H := hidI h
  have HM := hidI hm
  have HF := hidI hf
  have k2 := h.cs.c2
  have k3 := h.cs.c3
  have k4 := h.cs.c4
  have f2 := h.cs.free 2
  have f3 := h.cs.free 3
  have f4 := h.cs.free 4
  have hla := h.good.last
  have HGU : Hid (g ∉ (Value.slice a bs.length cap).ownBlock.toList ∧ c ∉ (Value.slice a bs.length cap).ownBlock.toList) := by
    constructor
    · intro hk; have := (h.cs.own g (by simpa using hk)).1; exact this rfl
    · intro hk; have := (h.cs.own c (by simpa using hk)).2; exact this rfl
  have HL := hidI h.lst
  obtain ⟨hm1, hm2⟩ := hm
  clear h hf
  by_cases hc : bs = [] ∨ (bs.getLast?.map (·.1)) ≠ some now
  · have HN : Hid (noteP bs G.length now = bs ++ [(now, (G.length : Int))]) := by show _ = _; unfold noteP; rw [if_pos hc]
    rcases nil_or_snoc bs with hb | ⟨F, y, hb⟩
    · obtain ⟨N, hN⟩ : ∃ N, N = bs.length := ⟨_, rfl⟩
      rw [← hN] at k4 hlen
      rw [← hN] at H
      rw [← hN] at HL
      rw [← hN] at HGU
      rw [← hN]
      have hN0 : N = 0 := by rw [hN, hb]; rfl
      subst hN0
      have hbl : bs.length < 8796093022208 := by omega
      clear hN hb hc
      clear hrow hcap hnone hblk
      go_enter Try.func21, Try.ntmps21
      go_wp2_with fail
      go_region_law ((refine step_app2 rfl (.tmp 29) (.tmp 36) rfl (.slice a 0 cap) bs (by simp [Act.eval]) (by exact HL.out.on (((Away.refl [] _).alloc _).drew)) ⟨w.heap.size, 0, none⟩ 1 (by simp [Act.eval]) (now, (G.length : Int)) (by simp) (by simp [Addr.add]) (by omega) ?_; intro v' w2 hown2 hgr hmov; have haw2 : Away (Value.slice a 0 cap).ownBlock.toList w w2 := (((Away.refl _ w).alloc _).drew).grown hgr (fun k hk => .inl (by simp [hk])); have hb2 := haw2.keep HGU.out.1 H.out.cs.blk; have hc2 := haw2.keep HGU.out.2 H.out.cs.box; have z2 : w2.cell? ⟨g, 2, none⟩ = some (.int .i64 (G.length : Int)) := (by simp [cell_of_block hb2]); have z3 : w2.cell? ⟨g, 3, none⟩ = some (.int .i64 (lastP G)) := (by simp [cell_of_block hb2]); have z4 : w2.cell? ⟨g, 4, none⟩ = some (Value.slice a 0 cap) := (by simp [cell_of_block hb2]); have g2 := free_of_block hb2 2; have g3 := free_of_block hb2 3; have g4 := free_of_block hb2 4; have HB2 := hidI hb2; have HC2 := hidI hc2; clear hb2 hc2; obtain ⟨va, vn, vc, rfl⟩ := hown2.shape))
      all_goals
        have HO2 := hidI hown2
        have HA2 := hidI haw2
        have HM2 := hidI hmov
        clear hown2 haw2 hmov hgr
        go_wp2_with fail
        go_end0
        have haw4 : Away [g] w2 (((w2.setCell ⟨g, 4, none⟩ (.slice va vn vc)).setCell ⟨g, 2, none⟩ (.int .i64 ((G.length : Int) + 1))).setCell ⟨g, 3, none⟩ (.int .i64 now)) :=
          (((Away.refl [g] w2).setCell (.inl (by simp)) _).setCell (.inl (by simp)) _).setCell (.inl (by simp)) _
        refine ⟨rfl, .slice va vn vc, H.out.noted HM.out HF.out hs ?_ (fun k hk => ?_) ?_ ?_, ?_, ?_⟩
        · rw [HN.out]
          refine HO2.out.away haw4 (fun k hk => ?_)
          rcases HM2.out k hk with h1 | h1
          · have := (H.out.cs.own k h1).1; simpa using this
          · simp at h1; simp; omega
        · rcases HM2.out k hk with h1 | h1
          · exact H.out.cs.own k h1
          · simp at h1; have := lt_of_block H.out.cs.box; omega
        · rw [block_set (block_set (block_set HB2.out _ _) _ _) _ _]; rfl
        · exact haw4.keep (by have := H.out.cs.gc; simp; omega) HC2.out
        · intro k hk
          rcases HM2.out k hk with h1 | h1
          · exact .inl h1
          · simp at h1; exact .inr (by omega)
        · exact (HA2.out.mono (fun x hx => by simp [fp]; simp at hx; exact .inr hx)).next haw4 (fun x hx => .inl (by simp at hx; subst hx; exact fp_self _ _))
    · have hyn : y.1 ≠ now := by
        rcases hc with e | e
        · rw [e] at hb; simp at hb
        · rw [hb] at e; simpa using e
      obtain ⟨b, off, rfl, d1, d2, -⟩ := hrow.at (show bs[F.length]? = some y by rw [hb]; simp)
      obtain ⟨N, hN⟩ : ∃ N, N = bs.length := ⟨_, rfl⟩
      have el : N = F.length + 1 := by rw [hN, hb]; simp
      rw [← hN] at k4 hlen
      rw [← hN] at H
      rw [← hN] at HL
      rw [← hN] at HGU
      rw [← hN]
      have hbl : bs.length < 8796093022208 := by omega
      obtain ⟨y1, y2⟩ := y
      simp only at hyn d1
      generalize F.length = k at *
      clear hN hb d2
      have t1 : ¬ ((N : Int) = 0) := by omega
      have t2 : 0 ≤ (N : Int) - 1 := by omega
      have t3 : (N : Int) - 1 < (N : Int) := by omega
      have t4 : ((N : Int) - 1).toNat = k := by omega
      have t5 : (y1 != now) = true := by simp [hyn]
      have t6 : ((N : Int) == 0) = false := by simp; omega
      clear el hc
      clear hrow hcap hnone hblk
      go_enter Try.func21, Try.ntmps21
      go_wp2_with fail
      go_region_law ((refine step_app2 rfl (.tmp 29) (.tmp 36) rfl (.slice (some ⟨b, off, none⟩) N cap) bs (by simp [Act.eval]) (by exact HL.out.on (((Away.refl [] _).alloc _).drew)) ⟨w.heap.size, 0, none⟩ 1 (by simp [Act.eval]) (now, (G.length : Int)) (by simp) (by simp [Addr.add]) (by omega) ?_; intro v' w2 hown2 hgr hmov; have haw2 : Away (Value.slice (some ⟨b, off, none⟩) N cap).ownBlock.toList w w2 := (((Away.refl _ w).alloc _).drew).grown hgr (fun k hk => .inl (by simp [hk])); have hb2 := haw2.keep HGU.out.1 H.out.cs.blk; have hc2 := haw2.keep HGU.out.2 H.out.cs.box; have z2 : w2.cell? ⟨g, 2, none⟩ = some (.int .i64 (G.length : Int)) := (by simp [cell_of_block hb2]); have z3 : w2.cell? ⟨g, 3, none⟩ = some (.int .i64 (lastP G)) := (by simp [cell_of_block hb2]); have z4 : w2.cell? ⟨g, 4, none⟩ = some (Value.slice (some ⟨b, off, none⟩) N cap) := (by simp [cell_of_block hb2]); have g2 := free_of_block hb2 2; have g3 := free_of_block hb2 3; have g4 := free_of_block hb2 4; have HB2 := hidI hb2; have HC2 := hidI hc2; clear hb2 hc2; obtain ⟨va, vn, vc, rfl⟩ := hown2.shape))
      all_goals
        have HO2 := hidI hown2
        have HA2 := hidI haw2
        have HM2 := hidI hmov
        clear hown2 haw2 hmov hgr
        go_wp2_with fail
        go_end0
        have haw4 : Away [g] w2 (((w2.setCell ⟨g, 4, none⟩ (.slice va vn vc)).setCell ⟨g, 2, none⟩ (.int .i64 ((G.length : Int) + 1))).setCell ⟨g, 3, none⟩ (.int .i64 now)) :=
          (((Away.refl [g] w2).setCell (.inl (by simp)) _).setCell (.inl (by simp)) _).setCell (.inl (by simp)) _
        refine ⟨rfl, .slice va vn vc, H.out.noted HM.out HF.out hs ?_ (fun k hk => ?_) ?_ ?_, ?_, ?_⟩
        · rw [HN.out]
          refine HO2.out.away haw4 (fun k hk => ?_)
          rcases HM2.out k hk with h1 | h1
          · have := (H.out.cs.own k h1).1; simpa using this
          · simp at h1; simp; omega
        · rcases HM2.out k hk with h1 | h1
          · exact H.out.cs.own k h1
          · simp at h1; have := lt_of_block H.out.cs.box; omega
        · rw [block_set (block_set (block_set HB2.out _ _) _ _) _ _]; rfl
        · exact haw4.keep (by have := H.out.cs.gc; simp; omega) HC2.out
        · intro k hk
          rcases HM2.out k hk with h1 | h1
          · exact .inl h1
          · simp at h1; exact .inr (by omega)
        · exact (HA2.out.mono (fun x hx => by simp [fp]; simp at hx; exact .inr hx)).next haw4 (fun x hx => .inl (by simp at hx; subst hx; exact fp_self _ _))
  · have HN : Hid (noteP bs G.length now = bs) := by show _ = _; unfold noteP; rw [if_neg hc]
    have hne : bs ≠ [] := fun e => hc (.inl e)
    obtain ⟨F, y, hb⟩ := (nil_or_snoc bs).resolve_left hne
    have hy : y.1 = now := by
      have : ¬ ((bs.getLast?.map (·.1)) ≠ some now) := fun e => hc (.inr e)
      rw [hb] at this
      simpa using this
    obtain ⟨b, off, rfl, d1, d2, -⟩ := hrow.at (show bs[F.length]? = some y by rw [hb]; simp)
    obtain ⟨N, hN⟩ : ∃ N, N = bs.length := ⟨_, rfl⟩
    have el : N = F.length + 1 := by rw [hN, hb]; simp
    rw [← hN] at k4 hlen
    rw [← hN] at H
    rw [← hN] at HL
    rw [← hN] at HGU
    rw [← hN]
    obtain ⟨y1, y2⟩ := y
    simp only at hy d1
    rw [hy] at d1
    generalize F.length = k at *
    clear hN hb d2 hne hy hc
    have t1 : ¬ ((N : Int) = 0) := by omega
    have t2 : 0 ≤ (N : Int) - 1 := by omega
    have t3 : (N : Int) - 1 < (N : Int) := by omega
    have t4 : ((N : Int) - 1).toNat = k := by omega
    clear el hrow hcap hnone hblk
    go_enter Try.func21, Try.ntmps21
    go_wp2_with fail
    go_end0
    have haw4 : Away [g] w ((w.setCell ⟨g, 2, none⟩ (.int .i64 ((G.length : Int) + 1))).setCell ⟨g, 3, none⟩ (.int .i64 now)) :=
      ((Away.refl [g] w).setCell (.inl (by simp)) _).setCell (.inl (by simp)) _
    refine ⟨rfl, _, H.out.noted HM.out HF.out hs ?_ H.out.cs.own ?_ ?_, Moved.refl _ _, ?_⟩
    · rw [HN.out]
      exact HL.out.away haw4 (fun q hq => by have := (H.out.cs.own q hq).1; simpa using this)
    · rw [block_set (block_set H.out.cs.blk _ _) _ _]; rfl
    · exact haw4.keep (by have := H.out.cs.gc; simp; omega) H.out.cs.box
    · exact haw4.mono (fun x hx => by simp at hx; subst hx; exact fp_self _ _)
end Go.Proofs.Ytepbgigoekpdeaa
