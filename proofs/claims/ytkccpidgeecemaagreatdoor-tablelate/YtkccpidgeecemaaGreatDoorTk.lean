/-
  take, Put.
-/
import Derived.Test.YtkccpidgeecemaaGreatDoorTkA
import Derived.Test.YtkccpidgeecemaaGreatDoorEnI
namespace Go.Proofs.YtkccpidgeecemaaGreatDoor
open Go.ChangeShapes Go.WideShapes Go.ChangeAt Go.RowKit
open S6 (wp_region_cls quiet_val quiet_call quiet_ld ld3 ld4 ld5 ld25 ld26 load28_run load24m_run)
set_option linter.unusedVariables false
set_option linter.unusedSimpArgs false
set_option maxRecDepth 20000
theorem EntG.list {w w' : World} {g : Nat} {s : Es} {lb : Nat} {lv lv' r dv ov : Value} {mb mn : Nat} {f c : List H.Sp} {e : Int} (h : EntG w g s lb lv dv ov mb mn) (t : H.Took w w' lb lv r lv' f c e) : EntG w' g { s with m := c, e := e } lb lv' dv ov mb mn := by
  have ap := h.ap
  have lt := h.lt
  have nS : ∀ x, x ≠ lb → lv.ownBlock ≠ some x → x ∉ lb :: lv.ownBlock.toList := fun x h1 h2 hx => by
    simp at hx
    rcases hx with hx | hx
    · exact h1 hx
    · exact h2 hx
  have mv : ∀ x, x ∈ fpE g lb lv dv ov mb → lv.ownBlock ≠ some x → lv'.ownBlock ≠ some x := fun x hx h1 e => by
    rcases t.moved x e with h2 | h2
    · exact h1 h2
    · have := lt x hx; omega
  refine ⟨t.aw.keep (nS g ap.gl ap.gv) h.blk, h.nb, h.kad, h.fad, t.hl, h.da.away t.aw (fun k hk => nS k (fun e => by subst e; exact ap.ld hk) (fun e => ap.vd k e hk)), h.oo.away t.aw (fun k hk => nS k (fun e => by subst e; exact ap.lo hk) (fun e => ap.vo k e hk)),
    h.mp.away t.aw (nS mb (fun e => ap.lm e.symm) ap.mv), { ap with gv := mv g (mem_fp.2 (by simp)) ap.gv, lw := fun e => t.hl.own lb e rfl, mv := mv mb (mem_fp.2 (by simp)) ap.mv, vd := fun k hk => ?_, vo := fun k hk => ?_ }⟩
  · rcases t.moved k hk with h2 | h2
    · exact ap.vd k h2
    · intro e; have := lt k (mem_fp.2 (by simp [e])); omega
  · rcases t.moved k hk with h2 | h2
    · exact ap.vo k h2
    · intro e; have := lt k (mem_fp.2 (by simp [e])); omega
section
variable {w : World} {g : Nat} {s : Es} {lb : Nat} {lv dv ov : Value} {mb mn : Nat}
theorem begin_c (h : EntG w g s lb lv dv ov mb mn) (p : Pk) (po pd : Value) (hp : Pkt w p po pd) (hq : Plc p) (hg : Glob w) (ho : Outs p po pd [g]) (hg0 : g ≠ 0) :
    Calls Tryz.prog 81 #[.pointer (some ⟨g, 0, none⟩), .agg (csP p po pd)] w (BegOut w g s p lb lv dv ov mb mn) := by
  by_cases hc : 0 < p.off ∨ 0 < s.fl
  · exact begin_no h p po pd hp hc
  · have := hq.o0
    exact begin_yes h p po pd hp hq hg ho hg0 (by omega) (by omega)
def TkOut (w : World) (g : Nat) (q : Int × Es) (fp : List Nat) (E : Ending) (w' : World) : Prop :=
  E = .returned (.int .i64 q.1) ∧ ∃ lb lv dv ov mb mn, EntG w' g q.2 lb lv dv ov mb mn ∧ mn ≤ q.2.h.toNat ∧ (∀ x ∈ fpE g lb lv dv ov mb, x ∈ fp ∨ w.heap.size ≤ x) ∧ Away fp w w'
theorem mn_ok {s2 : Es} {p : Pk} {fr : List H.Sp} {mn mn' : Nat} {h : Int} (h1 : mn ≤ h.toNat) (h2 : s2.h = h) (h3 : 0 ≤ h) (h4 : 0 ≤ H.lenP fr) (h5 : H.sizeP fr = H.lenP fr) (h6 : 1 ≤ p.d.length) (h7 : mn' = mn ∨ (mn' = mn + 1 ∧ H.sizeP fr = p.d.length)) : mn' ≤ (take6 s2 p fr).2.h.toNat := by
  unfold take6 at *
  split
  · rename_i hs
    show mn' ≤ (s2.h + H.lenP fr).toNat
    omega
  · rename_i hs
    have e : ∀ q : Int × Es, (q = (3, s2) ∨ q = (4, s2)) → q.2.h = s2.h := fun q hq => by rcases hq with rfl | rfl <;> rfl
    rw [e _ (by split <;> simp)]
    rcases h7 with h7 | ⟨h7, h8⟩
    · omega
    · exact absurd h8 hs
theorem mn_ok4 {s2 : Es} {p : Pk} {fr : List H.Sp} {mn : Nat} {h e0 : Int} (h1 : mn ≤ h.toNat) (h2 : s2.h = h) (h3 : 0 ≤ h) (h4 : 0 ≤ H.lenP fr) : mn ≤ (take4 e0 s2 p fr).2.h.toNat := by
  have e : (layS s2 p fr).h = s2.h + H.lenP fr := rfl
  unfold take4
  split
  · show mn ≤ s2.h.toNat; omega
  · split
    · show mn ≤ (layS s2 p fr).h.toNat; omega
    · split
      · show mn ≤ (layS s2 p fr).h.toNat; omega
      · show mn ≤ (layS s2 p fr).h.toNat; omega
set_option maxHeartbeats 16000000 in
theorem take_c (h : EntG w g s lb lv dv ov mb mn) (T : Int → Bool) (hi : Iv s T) (hmn : mn ≤ s.h.toNat) (p : Pk) (po pd : Value) (hp : Pkt w p po pd) (hq : Plc p) (hol : p.o.length ≤ 40) (hv : p.v = 4 ∨ p.v = 6) (hg : Glob w) (ho : Outs p po pd (fpE g lb lv dv ov mb)) (h0 : 0 ∉ fpE g lb lv dv ov mb) :
    Calls Tryz.prog 68 #[.pointer (some ⟨g, 0, none⟩), .agg (csP p po pd)] w (TkOut w g (takeS s p) (fpE g lb lv dv ov mb)) := by
  have HE := Lib.hid h
  have HP := Lib.hid hp
  have HQ := Lib.hid hq
  have HG := Lib.hid hg
  have HOU := Lib.hid ho
  have H0 := Lib.hid h0
  have HIV := Lib.hid hi
  have HMN := Lib.hid hmn
  have HAD := Lib.hid hp.wf.ad
  have HOL := Lib.hid hol
  have HAP := Lib.hid h.ap
  have HLT := Lib.hid h.lt
  have hcb := cnt_le T 65535
  rw [← hi.cnt] at hcb
  have HCB := Lib.hid hcb
  have HTE : Hid (takeS s p = if H.putOk s.m s.e p.off p.d.length p.more = false then (4, s) else if p.v = 6 then take6 (begS (listS s p) p) p (freshE s p) else take4 s.e (begS (listS s p) p) p (freshE s p)) := rfl
  have KEND : Hid (∀ W, Away [] w W → Calls Tryz.prog 71 #[.pointer (some ⟨lb, 0, none⟩)] W fun E w' => E = .returned (.int .i64 s.e) ∧ w' = W) := fun W hW => H.end_c (h.hl.on hW)
  have hI1 : H.I64 p.off := ⟨by have := hq.o0; omega, by have := hq.o1; omega⟩
  have hI2 : H.I64 (p.d.length : Int) := ⟨by omega, by have := hq.tt; have := hq.o0; omega⟩
  have KPUT : Hid (∀ W, Away [] w W → Calls Tryz.prog 80 #[.pointer (some ⟨lb, 0, none⟩), .int .i64 p.off, .int .i64 (p.d.length : Int), .bool p.more] W fun E w' => H.PutOut W lb lv s.m s.e p.off p.d.length p.more E w') := fun W hW => H.put_c' p.off p.d.length p.more (h.hl.on hW) hI1 hI2
  have c39 := h.cells.2.2.1
  obtain ⟨pa, pc, hpd, -, -, -⟩ := hp.d
  obtain ⟨pn, hpn⟩ : ∃ pn, pn = p.d.length := ⟨_, rfl⟩
  have HPN : Hid (p.d.length = pn) := hpn.symm
  rw [← hpn] at hpd KPUT
  subst hpd
  have HV := Lib.hid hv
  clear h hp hq hg ho h0 hi hmn hol hcb hI1 hI2 hpn hv
  go_enter Tryz.func68, Tryz.ntmps68
  go_wp2_with (refine wpList_box28 rfl _ rfl p _ _ rfl ?_; refine Hid.out ?_)
  refine Lib.hid ?_
  intro g3 w3 hg3 hb3 haw3
  have HB3 := Lib.hid hb3
  have HA3 := Lib.hid haw3
  have hl3 := hb3.lt
  have HG3 : Hid (∀ x ∈ fpE g lb lv dv ov mb, g3 ≠ x) := fun x hx e => by have := HLT.out x hx; omega
  replace c39 := haw3.cell (by simp) c39
  have K1 := Lib.hid (KEND.out w3 haw3)
  have K2 : Hid (∀ q, Calls Tryz.prog 80 #[.pointer (some ⟨lb, 0, none⟩), .int .i64 p.off, .int .i64 (pn : Int), .bool p.more] (w3.drewN q) fun E w' => H.PutOut (w3.drewN q) lb lv s.m s.e p.off pn p.more E w') := fun q => KPUT.out (w3.drewN q) (HA3.out.drewN q)
  replace HE := Lib.hid (HE.out.on haw3)
  replace HP := Lib.hid (HP.out.on haw3)
  replace HG := Lib.hid (HG.out.on haw3)
  have HW3 := Lib.hid haw3.size
  clear hb3 haw3 KPUT KEND
  go_wp2_with fail
  refine K1.out.mono ?_
  rintro E w3 ⟨rfl, rfl⟩
  go_wp2_with fail
  have S0 : Hid (BoxP w3.drew g3 p po (.slice pa pn pc) ∧ w3.drew.cell? ⟨g, 39, none⟩ = some (.pointer (some ⟨lb, 0, none⟩))) := ⟨HB3.out, c39⟩
  refine wp_region_held_drew (S := fun w' => BoxP w' g3 p po (.slice pa pn pc) ∧ w'.cell? ⟨g, 39, none⟩ = some (.pointer (some ⟨lb, 0, none⟩))) (by kernel_rfl) (by exact S0.out) (fun hHeld => ?_)
  refine tkA 0 (v := ?_) (by simp only [gA, g1, g0]; rfl) (by kernel_rfl) (by exact fun _ _ _ h => h) (Or.inl ⟨by rfl, ?_⟩) (by assumption) ?_; rotate_left; focus (intro wq hSw; (try dsimp only at hSw); go_simp; all_goals (with_reducible rfl))
  try simp only [Act.put, sA, List.set_cons_zero, List.set_cons_succ]
  refine tkA 1 (v := ?_) (by simp only [gA, g1, g0]; rfl) (by kernel_rfl) (by exact fun _ _ _ h => h) (Or.inl ⟨by rfl, ?_⟩) (by assumption) ?_; rotate_left; focus (intro wq hSw; (try dsimp only at hSw); go_simp; all_goals (with_reducible rfl))
  try simp only [Act.put, sA, List.set_cons_zero, List.set_cons_succ]
  refine tkA 2 (v := ?_) (by simp only [gA, g1, g0]; rfl) (by kernel_rfl) (by exact fun _ _ _ h => h) (Or.inl ⟨by rfl, ?_⟩) (by assumption) ?_; rotate_left; focus (intro wq hSw; (try dsimp only at hSw); go_simp; all_goals (with_reducible rfl))
  try simp only [Act.put, sA, List.set_cons_zero, List.set_cons_succ]
  refine tkA 3 (by simp only [gA, g1, g0]; rfl) (by kernel_rfl) (by exact fun _ _ _ h => h) (yields_ld (ad := ⟨g, 39, none⟩) (by rfl) _ rfl rfl (fun w' h => ld56 (z := .bool true) _ h.2)) (by assumption) ?_; try simp only [Act.put, sA, List.set_cons_zero, List.set_cons_succ]
  refine tkA 4 (v := ?_) (by simp only [gA, g1, g0]; rfl) (by kernel_rfl) (by exact fun _ _ _ h => h) (Or.inl ⟨by rfl, ?_⟩) (by assumption) ?_; rotate_left; focus (intro wq hSw; (try dsimp only at hSw); go_simp; all_goals (with_reducible rfl))
  try simp only [Act.put, sA, List.set_cons_zero, List.set_cons_succ]
  refine tkA 5 (by simp only [gA, g1, g0]; rfl) (by kernel_rfl) (by exact fun _ _ _ h => h) (yields_ld (ad := ⟨g3, 43, none⟩) (by rfl) _ rfl rfl (fun w' h => ld3 (BoxP.cells h.1 HAD.out).off)) (by assumption) ?_; try simp only [Act.put, sA, List.set_cons_zero, List.set_cons_succ]
  refine tkA 6 (v := ?_) (by simp only [gA, g1, g0]; rfl) (by kernel_rfl) (by exact fun _ _ _ h => h) (Or.inl ⟨by rfl, ?_⟩) (by assumption) ?_; rotate_left; focus (intro wq hSw; (try dsimp only at hSw); go_simp; all_goals (with_reducible rfl))
  try simp only [Act.put, sA, List.set_cons_zero, List.set_cons_succ]
  refine tkA 7 (by simp only [gA, g1, g0]; rfl) (by kernel_rfl) (by exact fun _ _ _ h => h) (yields_ld (ad := ⟨g3, 45, none⟩) (by rfl) _ rfl rfl (fun w' h => ld26 (BoxP.cells h.1 HAD.out).d)) (by assumption) ?_; try simp only [Act.put, sA, List.set_cons_zero, List.set_cons_succ]
  refine tkA 8 (v := ?_) (by simp only [gA, g1, g0]; rfl) (by kernel_rfl) (by exact fun _ _ _ h => h) (Or.inl ⟨by rfl, ?_⟩) (by assumption) ?_; rotate_left; focus (intro wq hSw; (try dsimp only at hSw); go_simp; all_goals (with_reducible rfl))
  try simp only [Act.put, sA, List.set_cons_zero, List.set_cons_succ]
  refine tkA 9 (v := ?_) (by simp only [gA, g1, g0]; rfl) (by kernel_rfl) (by exact fun _ _ _ h => h) (Or.inl ⟨by rfl, ?_⟩) (by assumption) ?_; rotate_left; focus (intro wq hSw; (try dsimp only at hSw); go_simp; all_goals (with_reducible rfl))
  try simp only [Act.put, sA, List.set_cons_zero, List.set_cons_succ]
  refine tkA 10 (by simp only [gA, g1, g0]; rfl) (by kernel_rfl) (by exact fun _ _ _ h => h) (yields_ld (ad := ⟨g3, 41, none⟩) (by rfl) _ rfl rfl (fun w' h => ld4 (BoxP.cells h.1 HAD.out).more)) (by assumption) ?_; try simp only [Act.put, sA, List.set_cons_zero, List.set_cons_succ]
  refine wpAnyH_ready (rs := [11]) (by kernel_rfl) (by simp) ?_
  refine AllReadyH.cons (by simp only [gA, g1, g0]; rfl) (fun K hK => ?_) AllReadyH.nil
  go_simp
  refine (K2.out 1).mono ?_
  rintro E w4 hout
  rcases hout with ⟨hok, r, lv', rfl, ht⟩ | ⟨hno, rfl, ha4⟩
  · have ht' : H.Took w3 w4 lb lv r lv' (H.freshP s.m (p.off, p.off + pn)) (H.putM s.m p.off pn p.more) (H.putE s.e p.off pn p.more) := ht.on ((Away.refl [] w3).drewN 1)
    have HTE2 : Hid (takeS s p = if p.v = 6 then take6 (begS (listS s p) p) p (freshE s p) else take4 s.e (begS (listS s p) p) p (freshE s p)) := by show _ = _; rw [HTE.out, HPN.out, if_neg (by rw [hok]; simp)]
    have HOK : Hid (H.putOk s.m s.e p.off p.d.length p.more = true) := by show _ = _; rw [HPN.out]; exact hok
    have HLS : Hid (listS s p = { s with m := H.putM s.m p.off pn p.more, e := H.putE s.e p.off pn p.more }) := by show _ = _; unfold listS; rw [HPN.out]
    have HFE : Hid (freshE s p = H.freshP s.m (p.off, p.off + pn)) := by show _ = _; unfold freshE; rw [HPN.out]
    have haw4 : Away (lb :: lv.ownBlock.toList) w3 w4 := ht'.aw
    have nS : ∀ x, x ≠ lb → lv.ownBlock ≠ some x → x ∉ lb :: lv.ownBlock.toList := fun x h1 h2 hx => by
      simp at hx
      rcases hx with hx | hx
      · exact h1 hx
      · exact h2 hx
    have HSUB : Hid (∀ x ∈ lb :: lv.ownBlock.toList, x ∈ fpE g lb lv dv ov mb) := fun x hx => by
      simp only [List.mem_cons, Option.mem_toList] at hx
      exact mem_fp.2 (by rcases hx with h | h <;> simp [h])
    have HB4 := Lib.hid (HB3.out.away haw4 (fun hm => HG3.out _ (HSUB.out _ hm) rfl))
    have S1 : Hid (BoxP w4 g3 p po (.slice pa pn pc) ∧ w4.cell? ⟨g, 39, none⟩ = some (.pointer (some ⟨lb, 0, none⟩))) := ⟨HB4.out, Away.cell haw4 (nS g HAP.out.gl HAP.out.gv) c39⟩
    have HE4 : Hid (EntG w4 g (listS s p) lb lv' dv ov mb mn) := by show EntG _ _ _ _ _ _ _ _ _; rw [HLS.out]; exact HE.out.list ht'
    have HP4 := Lib.hid (HP.out.away haw4 (HOU.out.mono HSUB.out))
    have HG4 := Lib.hid (HG.out.away haw4 (fun hm => H0.out (HSUB.out 0 hm)))
    have HA4 : Hid (Away (fpE g lb lv dv ov mb) w w4) := (HA3.out.mono (by simp)).trans (haw4.mono HSUB.out)
    have HFR : Hid (H.Lst w4 r (freshE s p)) := by show H.Lst _ _ _; rw [HFE.out]; exact ht'.fresh
    have HRN : Hid (∀ k, r.ownBlock = some k → w3.heap.size ≤ k ∧ k < w4.heap.size) := fun k hk => ⟨ht'.new k hk, ht'.fresh.lt k hk⟩
    have HMV : Hid (∀ x, lv'.ownBlock = some x → lv.ownBlock = some x ∨ w.heap.size ≤ x) := fun x hx => by
      rcases ht'.moved x hx with h | h
      · exact .inl h
      · exact .inr (by have := HW3.out; omega)
    have hs4 := haw4.size
    have KB : Hid (Calls Tryz.prog 81 #[.pointer (some ⟨g, 0, none⟩), .agg (csP p po (.slice pa pn pc))] w4 (BegOut w4 g (listS s p) p lb lv' dv ov mb mn)) := begin_c HE4.out p po _ HP4.out HQ.out HG4.out (HOU.out.mono (fun x hx => by simp at hx; exact mem_fp.2 (.inl hx))) (fun e => H0.out (mem_fp.2 (.inl e.symm)))
    clear ht ht' haw4 hok
    go_wp2_with fail
    refine hK.out _ _ (by exact S1.out) (fun hHeld => ?_)
    clear hK K
    try simp only [Act.put, sA, List.set_cons_zero, List.set_cons_succ]
    refine tkA 12 (v := ?_) (by simp only [gA, g1, g0]; rfl) (by kernel_rfl) (by exact fun _ _ _ h => h) (Or.inl ⟨by rfl, ?_⟩) (by assumption) ?_; rotate_left; focus (intro wq hSw; (try dsimp only at hSw); go_simp; all_goals (with_reducible rfl))
    try simp only [Act.put, sA, List.set_cons_zero, List.set_cons_succ]
    refine tkA 13 (v := ?_) (by simp only [gA, g1, g0]; rfl) (by kernel_rfl) (by exact fun _ _ _ h => h) (Or.inl ⟨by rfl, ?_⟩) (by assumption) ?_; rotate_left; focus (intro wq hSw; (try dsimp only at hSw); go_simp; all_goals (with_reducible rfl))
    try simp only [Act.put, sA, List.set_cons_zero, List.set_cons_succ]
    refine tkA 14 (v := ?_) (by simp only [gA, g1, g0]; rfl) (by kernel_rfl) (by exact fun _ _ _ h => h) (Or.inl ⟨by rfl, ?_⟩) (by assumption) ?_; rotate_left; focus (intro wq hSw; (try dsimp only at hSw); go_simp; all_goals (with_reducible rfl))
    try simp only [Act.put, sA, List.set_cons_zero, List.set_cons_succ]
    refine tkA 15 (v := ?_) (by simp only [gA, g1, g0]; rfl) (by kernel_rfl) (by exact fun _ _ _ h => h) (Or.inl ⟨by rfl, ?_⟩) (by assumption) ?_; rotate_left; focus (intro wq hSw; (try dsimp only at hSw); go_simp; all_goals (with_reducible rfl))
    try simp only [Act.put, sA, List.set_cons_zero, List.set_cons_succ]
    refine tkA 16 (v := ?_) (by simp only [gA, g1, g0]; rfl) (by kernel_rfl) (by exact fun _ _ _ h => h) (Or.inl ⟨by rfl, ?_⟩) (by assumption) ?_; rotate_left; focus (intro wq hSw; (try dsimp only at hSw); go_simp; all_goals (with_reducible rfl))
    try simp only [Act.put, sA, List.set_cons_zero, List.set_cons_succ]
    refine wpAnyH_done (by kernel_rfl) ?_ _
    clear hHeld S1 S0 c39
    go_wp2_with (refine wpList_load28 rfl _ rfl _ rfl p _ _ (by exact HB4.out) HAD.out ?_)
    refine KB.out.mono ?_
    rintro E w5 ⟨rfl, ov', he5, hm5, haw5⟩
    have HE5 := Lib.hid he5
    have HB5 := Lib.hid (HB4.out.away haw5 (by simpa using HG3.out g (mem_fp.2 (.inl rfl))))
    have HP5 := Lib.hid (HP4.out.away haw5 (HOU.out.mono (fun x hx => by simp at hx; exact mem_fp.2 (.inl hx))))
    have HA5 : Hid (Away (fpE g lb lv dv ov mb) w w5) := HA4.out.trans (haw5.mono (fun x hx => by simp at hx; exact mem_fp.2 (.inl hx)))
    have HMO : Hid (∀ x, ov'.ownBlock = some x → ov.ownBlock = some x ∨ w.heap.size ≤ x) := fun x hx => by
      rcases hm5 x hx with h | h
      · exact .inl h
      · exact .inr (by have := HW3.out; omega)
    have hfn := fresh_fin HIV.out.ho HOK.out HQ.out
    have hfl := fresh_len HIV.out.ho HOK.out HQ.out
    have hbe := beg_eq (listS s p) p
    have HLI : Hid (LayIn w5 g (begS (listS s p) p) dv p po (.slice pa pn pc) r (freshE s p)) := by
      have hgb : ∀ k, r.ownBlock = some k → k ≠ g ∧ dv.ownBlock ≠ some k := fun k hk => by
        have h1 := HRN.out k hk
        have h2 := HW3.out
        exact ⟨fun e => by have := HLT.out g (mem_fp.2 (.inl rfl)); omega, fun e => by have := HLT.out k (mem_fp.2 (by simp [e])); omega⟩
      refine ⟨HP5.out, HQ.out, HFR.out.away haw5 (fun k hk => by simpa using (hgb k hk).1), hfn.1, hfn.2.1, hgb, HOU.out.mono (fun x hx => by simp only [List.mem_cons, Option.mem_toList] at hx; exact mem_fp.2 (by rcases hx with h | h <;> simp [h])), ?_, ?_, ?_, ?_⟩
      · rw [hbe.2.2.1]; exact HIV.out.db
      · rw [hbe.2.2.1]; exact HIV.out.dl
      · rw [hbe.2.2.2.1]; exact HCB.out.1
      · rw [hbe.2.2.2.1]
        have h1 : s.h = H.cnt T 65535 := HIV.out.cnt
        have h2 := (cnt_le (TT T p) 65535).2
        have h3 := hfl.1
        show s.h + _ ≤ _
        omega
    have HHD : Hid (0 ≤ (begS (listS s p) p).hd ∧ (begS (listS s p) p).hd ≤ 60) := by
      show _ ∧ _
      unfold begS
      split
      · exact HIV.out.hd
      · exact hd_bd p HOL.out
    have HEN : Hid (-1 ≤ (begS (listS s p) p).e ∧ (begS (listS s p) p).e ≤ 65535) := by show _ ∧ _; rw [hbe.2.1]; exact put_en HIV.out.ho HOK.out
    have HPS : Hid (∀ o, ((begS (listS s p) p).ps o).1 ≤ (begS (listS s p) p).d.length) := by show ∀ o, _; rw [hbe.2.2.1, hbe.2.2.2.2.1]; exact HIV.out.ps
    have HH2 : Hid ((begS (listS s p) p).h = s.h) := hbe.2.2.2.1
    have HFP : Hid (∀ dv', Moved w5 dv dv' → ∀ x ∈ fpE g lb lv' dv' ov' mb, x ∈ fpE g lb lv dv ov mb ∨ w.heap.size ≤ x) := fun dv' hd x hx => by
      have hsz := HA5.out.size
      rcases mem_fp.1 hx with rfl | rfl | rfl | hx | hx | hx
      · exact .inl (mem_fp.2 (by simp))
      · exact .inl (mem_fp.2 (by simp))
      · exact .inl (mem_fp.2 (by simp))
      · rcases HMV.out x hx with h | h
        · exact .inl (mem_fp.2 (by simp [h]))
        · exact .inr h
      · rcases hd x hx with h | h
        · exact .inl (mem_fp.2 (by simp [h]))
        · exact .inr (by omega)
      · rcases HMO.out x hx with h | h
        · exact .inl (mem_fp.2 (by simp [h]))
        · exact .inr h
    have HLP : Hid (0 ≤ H.lenP (freshE s p) ∧ H.sizeP (freshE s p) = H.lenP (freshE s p)) := ⟨len_pos (fun x hx => (hfn.1 x hx).2.1), hfl.2⟩
    have HRM : Hid (∀ k, r.ownBlock = some k → k ≠ mb) := fun k hk e => by have h1 := HRN.out k hk; have h2 := HW3.out; have h3 := HLT.out mb (mem_fp.2 (by simp)); omega
    clear he5 hm5 haw5 hfn hfl hbe HE4 HB4 HP4
    by_cases hv6 : p.v = 6
    · have HTV : Hid (takeS s p = take6 (begS (listS s p) p) p (freshE s p)) := by show _ = _; rw [HTE2.out, if_pos hv6]
      have K6 : Hid (Calls Tryz.prog 82 #[.pointer (some ⟨g, 0, none⟩), .agg (csP p po (.slice pa pn pc)), r] w5 (Tk6Out w5 g (take6 (begS (listS s p) p) p (freshE s p)) lb lv' dv ov' mb mn (H.sizeP (freshE s p) = p.d.length))) := by
        by_cases hsz : H.sizeP (freshE s p) = p.d.length
        · exact take6_yes HE5.out p po _ r _ HLI.out hsz (by have := HMN.out; have := HCB.out; omega) (HOU.out.mono (fun x hx => by simp at hx; exact mem_fp.2 (by simp [hx]))) HRM.out
        · exact take6_no HE5.out p po _ r _ HLI.out hsz HPS.out
      have s0 : w5.cell? ⟨g3, 0, none⟩ = some (.int .i64 6) := by rw [← hv6]; exact (HB5.out.cells HAD.out).v
      have HV6 := Lib.hid hv6
      clear hv6
      go_wp2_with (refine wpList_load28 rfl _ rfl _ rfl p _ _ (by exact HB5.out) HAD.out ?_)
      refine K6.out.mono ?_
      rintro E w6 ⟨rfl, dv', mn', he6, hmn6, hmv6, haw6⟩
      have HF : Hid (TkOut w g (takeS s p) (fpE g lb lv dv ov mb) (.returned (.int .i64 (take6 (begS (listS s p) p) p (freshE s p)).1)) w6) := by
        refine ⟨by rw [HTV.out], lb, lv', dv', ov', mb, mn', by rw [HTV.out]; exact he6, ?_, HFP.out dv' hmv6, HA5.out.trans (haw6.mono (fun x hx => by simp only [List.mem_cons, Option.mem_toList] at hx; exact mem_fp.2 (by rcases hx with h | h | h <;> simp [h])))⟩
        rw [HTV.out]
        exact mn_ok HMN.out HH2.out HCB.out.1 HLP.out.1 HLP.out.2 HQ.out.n1 hmn6
      clear he6 hmn6 hmv6 haw6
      go_wp2_with fail
      go_ret
      exact HF.out
    · have HTV : Hid (takeS s p = take4 s.e (begS (listS s p) p) p (freshE s p)) := by show _ = _; rw [HTE2.out, if_neg hv6]
      obtain ⟨e2, he2⟩ : ∃ e2, e2 = (begS (listS s p) p).e := ⟨_, rfl⟩
      have K3 : Hid (∀ W, Away [] w5 W → Calls Tryz.prog 71 #[.pointer (some ⟨lb, 0, none⟩)] W fun E w' => E = .returned (.int .i64 e2) ∧ w' = W) := fun W hW => by rw [he2]; exact H.end_c (HE5.out.hl.on hW)
      have K4 : Hid (∀ eb : Bool, (eb = false ↔ e2 = s.e) → ∀ W, Away [] w5 W → Calls Tryz.prog 83 #[.pointer (some ⟨g, 0, none⟩), .agg (csP p po (.slice pa pn pc)), r, .bool eb] W (Tk4Out W g (take4 s.e (begS (listS s p) p) p (freshE s p)) lb lv' dv ov' mb mn)) := fun eb hb W hW =>
        take4_c (HE5.out.on hW) p po _ r _ (HLI.out.on hW) s.e eb (by rw [← he2]; exact hb) HHD.out HEN.out
      have hvb : (p.v == 6) = false := by simpa using hv6
      have s0 : w5.cell? ⟨g3, 0, none⟩ = some (.int .i64 p.v) := (HB5.out.cells HAD.out).v
      have h39 := HE5.out.cells.2.2.1
      clear he2 hv6
      go_wp2_with fail
      have T0 : Hid (BoxP w5.drew g3 p po (.slice pa pn pc) ∧ w5.drew.cell? ⟨g, 39, none⟩ = some (.pointer (some ⟨lb, 0, none⟩))) := ⟨HB5.out, h39⟩
      obtain ⟨e0, he0⟩ : ∃ e0, e0 = s.e := ⟨_, rfl⟩
      have HE0 := Lib.hid he0
      rw [← he0]
      by_cases hee : e2 = e0
      · have KK := Lib.hid (K4.out false (by rw [hee, he0]; simp))
        subst hee
        clear he0 K4
        refine wp_region_held_drew (S := fun w' => BoxP w' g3 p po (.slice pa pn pc) ∧ w'.cell? ⟨g, 39, none⟩ = some (.pointer (some ⟨lb, 0, none⟩))) (by kernel_rfl) (by exact T0.out) (fun hHeld => ?_)
        refine tkA 0 (v := ?_) (by simp only [gA, g1, g0]; rfl) (by kernel_rfl) (by exact fun _ _ _ h => h) (Or.inl ⟨by rfl, ?_⟩) (by assumption) ?_; rotate_left; focus (intro wq hSw; (try dsimp only at hSw); go_simp; all_goals (with_reducible rfl))
        try simp only [Act.put, sA, List.set_cons_zero, List.set_cons_succ]
        refine tkA 1 (by simp only [gA, g1, g0]; rfl) (by kernel_rfl) (by exact fun _ _ _ h => h) (yields_ld (ad := ⟨g3, 0, none⟩) (by rfl) _ rfl rfl (fun w' h => load28_run h.1 HAD.out)) (by assumption) ?_; try simp only [Act.put, sA, List.set_cons_zero, List.set_cons_succ]
        refine tkA 2 (v := ?_) (by simp only [gA, g1, g0]; rfl) (by kernel_rfl) (by exact fun _ _ _ h => h) (Or.inl ⟨by rfl, ?_⟩) (by assumption) ?_; rotate_left; focus (intro wq hSw; (try dsimp only at hSw); go_simp; all_goals (with_reducible rfl))
        try simp only [Act.put, sA, List.set_cons_zero, List.set_cons_succ]
        refine tkA 3 (v := ?_) (by simp only [gA, g1, g0]; rfl) (by kernel_rfl) (by exact fun _ _ _ h => h) (Or.inl ⟨by rfl, ?_⟩) (by assumption) ?_; rotate_left; focus (intro wq hSw; (try dsimp only at hSw); go_simp; all_goals (with_reducible rfl))
        try simp only [Act.put, sA, List.set_cons_zero, List.set_cons_succ]
        refine tkA 4 (v := ?_) (by simp only [gA, g1, g0]; rfl) (by kernel_rfl) (by exact fun _ _ _ h => h) (Or.inl ⟨by rfl, ?_⟩) (by assumption) ?_; rotate_left; focus (intro wq hSw; (try dsimp only at hSw); go_simp; all_goals (with_reducible rfl))
        try simp only [Act.put, sA, List.set_cons_zero, List.set_cons_succ]
        refine tkA 5 (v := ?_) (by simp only [gA, g1, g0]; rfl) (by kernel_rfl) (by exact fun _ _ _ h => h) (Or.inl ⟨by rfl, ?_⟩) (by assumption) ?_; rotate_left; focus (intro wq hSw; (try dsimp only at hSw); go_simp; all_goals (with_reducible rfl))
        try simp only [Act.put, sA, List.set_cons_zero, List.set_cons_succ]
        refine tkA 6 (by simp only [gA, g1, g0]; rfl) (by kernel_rfl) (by exact fun _ _ _ h => h) (yields_ld (ad := ⟨g, 39, none⟩) (by rfl) _ rfl rfl (fun w' h => ld56 (z := .bool true) _ h.2)) (by assumption) ?_; try simp only [Act.put, sA, List.set_cons_zero, List.set_cons_succ]
        refine tkA 8 (v := ?_) (by simp only [gA, g1, g0]; rfl) (by kernel_rfl) (by exact fun _ _ _ h => h) (Or.inl ⟨by rfl, ?_⟩) (by assumption) ?_; rotate_left; focus (intro wq hSw; (try dsimp only at hSw); go_simp; all_goals (with_reducible rfl))
        try simp only [Act.put, sA, List.set_cons_zero, List.set_cons_succ]
        refine wpAnyH_ready (rs := [7]) (by kernel_rfl) (by simp) ?_
        refine AllReadyH.cons (by simp only [gA, g1, g0]; rfl) (fun K hK => ?_) AllReadyH.nil
        go_simp
        refine (K3.out _ ((Away.refl [] w5).drew)).mono ?_
        rintro E y1 ⟨rfl, rfl⟩
        go_wp2_with fail
        refine hK.out _ _ (by exact T0.out) (fun hHeld => ?_)
        clear hK K
        try simp only [Act.put, sA, List.set_cons_zero, List.set_cons_succ]
        refine tkA 9 (v := ?_) (by simp only [gA, g1, g0]; rfl) (by kernel_rfl) (by exact fun _ _ _ h => h) (Or.inl ⟨by rfl, ?_⟩) (by assumption) ?_; rotate_left; focus (intro wq hSw; (try dsimp only at hSw); go_simp; all_goals (with_reducible rfl))
        try simp only [Act.put, sA, List.set_cons_zero, List.set_cons_succ]
        refine wpAnyH_ready (rs := [10]) (by kernel_rfl) (by simp) ?_
        refine AllReadyH.cons (by simp only [gA, g1, g0]; rfl) (fun K hK => ?_) AllReadyH.nil
        go_simp
        refine (KK.out _ ((Away.refl [] w5).drew)).mono ?_
        rintro E y2 ⟨rfl, dv', he6, hmv6, haw6⟩
        have hmv6' : Moved w5 dv dv' := hmv6
        have haw6' : Away (g :: dv.ownBlock.toList) w5 y2 := ⟨haw6.os, haw6.tape, haw6.output, haw6.size, haw6.block⟩
        have hsb : ∀ x ∈ g :: dv.ownBlock.toList, x ∈ fpE g lb lv dv ov mb := fun x hx => by simp only [List.mem_cons, Option.mem_toList] at hx; exact mem_fp.2 (by rcases hx with h | h <;> simp [h])
        have HF : Hid (TkOut w g (takeS s p) (fpE g lb lv dv ov mb) (.returned (.int .i64 (take4 s.e (begS (listS s p) p) p (freshE s p)).1)) y2) := by
          refine ⟨by rw [HTV.out], lb, lv', dv', ov', mb, mn, by rw [HTV.out]; exact he6, ?_, HFP.out dv' hmv6', HA5.out.trans (haw6'.mono hsb)⟩
          rw [HTV.out]
          exact mn_ok4 HMN.out HH2.out HCB.out.1 HLP.out.1
        have T1 : Hid (BoxP y2 g3 p po (.slice pa pn pc) ∧ y2.cell? ⟨g, 39, none⟩ = some (.pointer (some ⟨lb, 0, none⟩))) := ⟨BoxP.away HB5.out haw6' (fun hm => HG3.out _ (hsb _ hm) rfl), he6.cells.2.2.1⟩
        clear he6 hmv6 haw6 hmv6' haw6' hsb
        go_wp2_with fail
        refine hK.out _ _ (by exact T1.out) (fun hHeld => ?_)
        clear hK K
        try simp only [Act.put, sA, List.set_cons_zero, List.set_cons_succ]
        refine tkA 11 (v := ?_) (by simp only [gA, g1, g0]; rfl) (by kernel_rfl) (by exact fun _ _ _ h => h) (Or.inl ⟨by rfl, ?_⟩) (by assumption) ?_; rotate_left; focus (intro wq hSw; (try dsimp only at hSw); go_simp; all_goals (with_reducible rfl))
        try simp only [Act.put, sA, List.set_cons_zero, List.set_cons_succ]
        refine wpAnyH_done (by kernel_rfl) ?_ _
        go_wp2_with fail
        go_ret
        exact HF.out
      · have KK := Lib.hid (K4.out true (by constructor; (intro h; simp at h); (intro h; exact absurd (h.trans he0.symm) hee)))
        have hn1 : (e2 == e0) = false := by simpa using hee
        have hn2 : (e2 != e0) = true := by simp [hee]
        have hn3 : decide (e2 = e0) = false := by simpa using hee
        clear he0 K4
        refine wp_region_held_drew (S := fun w' => BoxP w' g3 p po (.slice pa pn pc) ∧ w'.cell? ⟨g, 39, none⟩ = some (.pointer (some ⟨lb, 0, none⟩))) (by kernel_rfl) (by exact T0.out) (fun hHeld => ?_)
        refine tkA 0 (v := ?_) (by simp only [gA, g1, g0]; rfl) (by kernel_rfl) (by exact fun _ _ _ h => h) (Or.inl ⟨by rfl, ?_⟩) (by assumption) ?_; rotate_left; focus (intro wq hSw; (try dsimp only at hSw); go_simp; all_goals (with_reducible rfl))
        try simp only [Act.put, sA, List.set_cons_zero, List.set_cons_succ]
        refine tkA 1 (by simp only [gA, g1, g0]; rfl) (by kernel_rfl) (by exact fun _ _ _ h => h) (yields_ld (ad := ⟨g3, 0, none⟩) (by rfl) _ rfl rfl (fun w' h => load28_run h.1 HAD.out)) (by assumption) ?_; try simp only [Act.put, sA, List.set_cons_zero, List.set_cons_succ]
        refine tkA 2 (v := ?_) (by simp only [gA, g1, g0]; rfl) (by kernel_rfl) (by exact fun _ _ _ h => h) (Or.inl ⟨by rfl, ?_⟩) (by assumption) ?_; rotate_left; focus (intro wq hSw; (try dsimp only at hSw); go_simp; all_goals (with_reducible rfl))
        try simp only [Act.put, sA, List.set_cons_zero, List.set_cons_succ]
        refine tkA 3 (v := ?_) (by simp only [gA, g1, g0]; rfl) (by kernel_rfl) (by exact fun _ _ _ h => h) (Or.inl ⟨by rfl, ?_⟩) (by assumption) ?_; rotate_left; focus (intro wq hSw; (try dsimp only at hSw); go_simp; all_goals (with_reducible rfl))
        try simp only [Act.put, sA, List.set_cons_zero, List.set_cons_succ]
        refine tkA 4 (v := ?_) (by simp only [gA, g1, g0]; rfl) (by kernel_rfl) (by exact fun _ _ _ h => h) (Or.inl ⟨by rfl, ?_⟩) (by assumption) ?_; rotate_left; focus (intro wq hSw; (try dsimp only at hSw); go_simp; all_goals (with_reducible rfl))
        try simp only [Act.put, sA, List.set_cons_zero, List.set_cons_succ]
        refine tkA 5 (v := ?_) (by simp only [gA, g1, g0]; rfl) (by kernel_rfl) (by exact fun _ _ _ h => h) (Or.inl ⟨by rfl, ?_⟩) (by assumption) ?_; rotate_left; focus (intro wq hSw; (try dsimp only at hSw); go_simp; all_goals (with_reducible rfl))
        try simp only [Act.put, sA, List.set_cons_zero, List.set_cons_succ]
        refine tkA 6 (by simp only [gA, g1, g0]; rfl) (by kernel_rfl) (by exact fun _ _ _ h => h) (yields_ld (ad := ⟨g, 39, none⟩) (by rfl) _ rfl rfl (fun w' h => ld56 (z := .bool true) _ h.2)) (by assumption) ?_; try simp only [Act.put, sA, List.set_cons_zero, List.set_cons_succ]
        refine tkA 8 (v := ?_) (by simp only [gA, g1, g0]; rfl) (by kernel_rfl) (by exact fun _ _ _ h => h) (Or.inl ⟨by rfl, ?_⟩) (by assumption) ?_; rotate_left; focus (intro wq hSw; (try dsimp only at hSw); go_simp; all_goals (with_reducible rfl))
        try simp only [Act.put, sA, List.set_cons_zero, List.set_cons_succ]
        refine wpAnyH_ready (rs := [7]) (by kernel_rfl) (by simp) ?_
        refine AllReadyH.cons (by simp only [gA, g1, g0]; rfl) (fun K hK => ?_) AllReadyH.nil
        go_simp
        refine (K3.out _ ((Away.refl [] w5).drew)).mono ?_
        rintro E y1 ⟨rfl, rfl⟩
        go_wp2_with fail
        refine hK.out _ _ (by exact T0.out) (fun hHeld => ?_)
        clear hK K
        try simp only [Act.put, sA, List.set_cons_zero, List.set_cons_succ]
        refine tkA 9 (v := ?_) (by simp only [gA, g1, g0]; rfl) (by kernel_rfl) (by exact fun _ _ _ h => h) (Or.inl ⟨by rfl, ?_⟩) (by assumption) ?_; rotate_left; focus (intro wq hSw; (try dsimp only at hSw); go_simp; all_goals (with_reducible rfl))
        try simp only [Act.put, sA, List.set_cons_zero, List.set_cons_succ]
        refine wpAnyH_ready (rs := [10]) (by kernel_rfl) (by simp) ?_
        refine AllReadyH.cons (by simp only [gA, g1, g0]; rfl) (fun K hK => ?_) AllReadyH.nil
        go_simp
        refine (KK.out _ ((Away.refl [] w5).drew)).mono ?_
        rintro E y2 ⟨rfl, dv', he6, hmv6, haw6⟩
        have hmv6' : Moved w5 dv dv' := hmv6
        have haw6' : Away (g :: dv.ownBlock.toList) w5 y2 := ⟨haw6.os, haw6.tape, haw6.output, haw6.size, haw6.block⟩
        have hsb : ∀ x ∈ g :: dv.ownBlock.toList, x ∈ fpE g lb lv dv ov mb := fun x hx => by simp only [List.mem_cons, Option.mem_toList] at hx; exact mem_fp.2 (by rcases hx with h | h <;> simp [h])
        have HF : Hid (TkOut w g (takeS s p) (fpE g lb lv dv ov mb) (.returned (.int .i64 (take4 s.e (begS (listS s p) p) p (freshE s p)).1)) y2) := by
          refine ⟨by rw [HTV.out], lb, lv', dv', ov', mb, mn, by rw [HTV.out]; exact he6, ?_, HFP.out dv' hmv6', HA5.out.trans (haw6'.mono hsb)⟩
          rw [HTV.out]
          exact mn_ok4 HMN.out HH2.out HCB.out.1 HLP.out.1
        have T1 : Hid (BoxP y2 g3 p po (.slice pa pn pc) ∧ y2.cell? ⟨g, 39, none⟩ = some (.pointer (some ⟨lb, 0, none⟩))) := ⟨BoxP.away HB5.out haw6' (fun hm => HG3.out _ (hsb _ hm) rfl), he6.cells.2.2.1⟩
        clear he6 hmv6 haw6 hmv6' haw6' hsb
        go_wp2_with fail
        refine hK.out _ _ (by exact T1.out) (fun hHeld => ?_)
        clear hK K
        try simp only [Act.put, sA, List.set_cons_zero, List.set_cons_succ]
        refine tkA 11 (v := ?_) (by simp only [gA, g1, g0]; rfl) (by kernel_rfl) (by exact fun _ _ _ h => h) (Or.inl ⟨by rfl, ?_⟩) (by assumption) ?_; rotate_left; focus (intro wq hSw; (try dsimp only at hSw); go_simp; all_goals (with_reducible rfl))
        try simp only [Act.put, sA, List.set_cons_zero, List.set_cons_succ]
        refine wpAnyH_done (by kernel_rfl) ?_ _
        go_wp2_with fail
        go_ret
        exact HF.out
  · have ha4' : Away [] w3 w4 := ⟨ha4.os, ha4.tape, ha4.output, ha4.size, ha4.block⟩
    have HA4 := Lib.hid ha4'
    have S1 : Hid (BoxP w4 g3 p po (.slice pa pn pc) ∧ w4.cell? ⟨g, 39, none⟩ = some (.pointer (some ⟨lb, 0, none⟩))) := ⟨BoxP.on HB3.out ha4', Away.cell ha4' (by simp) c39⟩
    have HT2 : Hid (takeS s p = (4, s)) := by show _ = _; rw [HTE.out, HPN.out, if_pos hno]
    clear ha4 ha4' hno
    go_wp2_with fail
    refine hK.out _ _ (by exact S1.out) (fun hHeld => ?_)
    clear hK K
    try simp only [Act.put, sA, List.set_cons_zero, List.set_cons_succ]
    refine tkA 12 (v := ?_) (by simp only [gA, g1, g0]; rfl) (by kernel_rfl) (by exact fun _ _ _ h => h) (Or.inl ⟨by rfl, ?_⟩) (by assumption) ?_; rotate_left; focus (intro wq hSw; (try dsimp only at hSw); go_simp; all_goals (with_reducible rfl))
    try simp only [Act.put, sA, List.set_cons_zero, List.set_cons_succ]
    refine tkA 13 (v := ?_) (by simp only [gA, g1, g0]; rfl) (by kernel_rfl) (by exact fun _ _ _ h => h) (Or.inl ⟨by rfl, ?_⟩) (by assumption) ?_; rotate_left; focus (intro wq hSw; (try dsimp only at hSw); go_simp; all_goals (with_reducible rfl))
    try simp only [Act.put, sA, List.set_cons_zero, List.set_cons_succ]
    refine tkA 14 (v := ?_) (by simp only [gA, g1, g0]; rfl) (by kernel_rfl) (by exact fun _ _ _ h => h) (Or.inl ⟨by rfl, ?_⟩) (by assumption) ?_; rotate_left; focus (intro wq hSw; (try dsimp only at hSw); go_simp; all_goals (with_reducible rfl))
    try simp only [Act.put, sA, List.set_cons_zero, List.set_cons_succ]
    refine tkA 15 (v := ?_) (by simp only [gA, g1, g0]; rfl) (by kernel_rfl) (by exact fun _ _ _ h => h) (Or.inl ⟨by rfl, ?_⟩) (by assumption) ?_; rotate_left; focus (intro wq hSw; (try dsimp only at hSw); go_simp; all_goals (with_reducible rfl))
    try simp only [Act.put, sA, List.set_cons_zero, List.set_cons_succ]
    refine tkA 16 (v := ?_) (by simp only [gA, g1, g0]; rfl) (by kernel_rfl) (by exact fun _ _ _ h => h) (Or.inl ⟨by rfl, ?_⟩) (by assumption) ?_; rotate_left; focus (intro wq hSw; (try dsimp only at hSw); go_simp; all_goals (with_reducible rfl))
    try simp only [Act.put, sA, List.set_cons_zero, List.set_cons_succ]
    refine wpAnyH_done (by kernel_rfl) ?_ _
    go_wp2_with fail
    go_ret
    exact ⟨ret_int (by rw [HT2.out]), lb, lv, dv, ov, mb, mn, by rw [HT2.out]; exact HE.out.on HA4.out, by rw [HT2.out]; exact HMN.out, fun x hx => .inl hx, (HA3.out.trans HA4.out).mono (by simp)⟩
end
end Go.Proofs.YtkccpidgeecemaaGreatDoor
