/-
  datagram.
-/
import Derived.Test.YtkccpidgeecemaaGreatDoorTbB
namespace Go.Proofs.YtkccpidgeecemaaGreatDoor
open Go.ChangeShapes Go.WideShapes Go.ChangeAt Go.RowKit
open S6 (wp_region_cls quiet_val quiet_call quiet_ld ld3 ld4 ld5 ld25 ld26 load28_run load24m_run)
set_option linter.unusedVariables false
set_option linter.unusedSimpArgs false
set_option maxRecDepth 100000
theorem wpList_load33 {ops : Array Oper} {rest : List Oper} {o : Oper} {a : Act} {w : World} {Q : Exit → Act → World → Prop} (hw : Region.wanted o (yielded ops a.tmps) = true) (x : Operand) (ho : o.op = .load 44 x)
    (g : Nat) (hx : a.eval x = .pointer (some ⟨g, 0, none⟩)) (n : Int) (wv lv gv : Value) (hb : BoxT w g n wv lv gv) (h : wpList Tryz.prog ops Q rest (a.put o.dst (.agg (csTo n wv lv gv))) w) : wpList Tryz.prog ops Q (o :: rest) a w :=
  BigFrame.wpList_want hw fun KK hK => wp_load_row 44 x ho g hx 44 _ (0, 0) _ hb Tryz.underlying44 rfl (by exact info33) (hK _ _ h)
theorem Cuts.away3 {S : List Nat} {w w' : World} {B C : Nat} {v : Value} {xs : List X} (h : Cuts w B v xs) (hw : Away S w w') (h1 : ∀ k, v.ownBlock = some k → k < C) (h2 : ∀ x ∈ xs, ∀ k, x.o.ownBlock = some k ∨ x.d.ownBlock = some k → k < C) (hS : ∀ k ∈ S, k < B ∨ C ≤ k) : Cuts w' B v xs :=
  ⟨h.lst.away hw (fun k hk e => by have h3 := h.new k hk; have h4 := h1 k hk; rcases hS k e with h5 | h5 <;> omega), h.new,
    fun x hx => ⟨(h.each x hx).1, (h.each x hx).2.away hw (fun k hk e => by have h3 := (h.each x hx).2.lto k hk; have h4 := h2 x hx k hk; rcases hS k e with h5 | h5 <;> omega)⟩, h.far, h.apart⟩
structure PutIn (w : World) (gt mb : Nat) (ov : Value) (q : Qo) (t0 : Int) (cs : List Cel) (p : Pk) (po pd : Value) : Prop where
  tab : Tab w gt mb ov q t0 cs
  glob : Glob w
  pkt : Pkt w p po pd
  outs : Outs p po pd (fpT gt mb ov cs)
  pos : 0 ∉ fpT gt mb ov cs
  born : ∀ c ∈ cs, 0 ≤ c.s.tb ∧ c.s.tb ≤ t0
  now : 0 ≤ t0 ∧ t0 ≤ 1099511627776
  quo : 0 ≤ q.e ∧ 0 ≤ q.b
  len : cs.length < 1000
theorem lstp_shp {w : World} {v : Value} {xs : List X} (h : LstP w v xs) : ∃ a n c, v = .slice a n c := by
  rcases h.2 with ⟨rfl, _⟩ | ⟨g, cap, cur, rfl, _⟩
  · exact ⟨_, _, _, rfl⟩
  · exact ⟨_, _, _, rfl⟩
theorem lstk_shp {w : World} {v : Value} {xs : List Pk} (h : K.LstK w v xs) : ∃ a n c, v = .slice a n c := by
  rcases h.2 with ⟨rfl, _⟩ | ⟨g, cap, cur, rfl, _⟩
  · exact ⟨_, _, _, rfl⟩
  · exact ⟨_, _, _, rfl⟩
theorem takeC_mem {q : Qo} {cs : List Cel} {i : Nat} {c : Cel} {p : Pk} {fp1 fp2 : List Nat} {d : Cel} (h : d ∈ (takeC q cs i c p fp1 fp2).cs) : d ∈ cs ∨ d.fp = fp1 ∨ d.fp = fp2 := by
  have hset : ∀ x : Cel, d ∈ cs.set i x → d ∈ cs ∨ d = x := fun x hx => List.mem_or_eq_of_mem_set hx
  unfold takeC at h
  split at h
  · rcases hset _ (List.mem_of_mem_eraseIdx h) with h1 | h1
    · exact .inl h1
    · exact .inr (.inl (by rw [h1]))
  · split at h
    · rcases hset _ (List.mem_of_mem_drop h) with h1 | h1
      · exact .inl h1
      · exact .inr (.inr (by rw [h1]))
    · rcases hset _ (List.mem_of_mem_drop h) with h1 | h1
      · exact .inl h1
      · exact .inr (.inl (by rw [h1]))
theorem dg_wf {p : Pk} (h : Wf p) : Wf (dgP p) := by
  unfold dgP
  split
  · exact ⟨h.v, h.tos, h.flow, h.sv, h.sl, h.sb, h.dv, h.dl, h.db, h.proto, h.ttl, by simp, by simp, h.off, h.o, h.ol, h.d, h.dn⟩
  · exact h
def Res (q : Qo) (now : Int) (cs : List Cel) (p : Pk) (n : Int) (wh ks : List Pk) (cs' : List Cel) : Prop :=
  (isWhP p = true ∧ n = 0 ∧ wh = [dgP p] ∧ ks = [] ∧ cs' = cs) ∨
  (isWhP p = false ∧ ∃ cs1 i c fp1 fp2, ((cs1 = cs ∧ cs[i]? = some c ∧ kyB p c.s.k = true) ∨ ((∀ d ∈ cs, kyB p d.s.k = false) ∧ ∃ g fp, c = ⟨newS p now, g, fp⟩ ∧ cs1 = cs ++ [c] ∧ i = cs.length)) ∧ takeC q cs1 i c p fp1 fp2 = ⟨n, wh, ks, cs'⟩)
def PutOut (w : World) (gt mb : Nat) (ov : Value) (q : Qo) (t0 now : Int) (cs : List Cel) (p : Pk) (E : Ending) (w' : World) : Prop :=
  ((rgt2 p = false ∨ now < t0 ∨ 1099511627776 < now) ∧ E = .returned (.tuple #[.agg (csTo 0 nilV nilV nilV), .int .i64 1]) ∧ Away [] w w') ∨
  ((rgt2 p = true ∧ t0 ≤ now ∧ now ≤ 1099511627776) ∧ ∃ n wv lv gv ov' xs ys ks cs', E = .returned (.tuple #[.agg (csTo n wv lv gv), .int .i64 0]) ∧ Cuts w' w.heap.size wv xs ∧ Cuts w' w.heap.size lv ys ∧ K.LstK w' gv ks ∧ New w.heap.size gv ∧
    ys.map X.p = toldL (cs.takeWhile (lateB q now)) ∧ Tab w' gt mb ov' q now cs' ∧ Res q now (cs.dropWhile (lateB q now)) p n (xs.map X.p) ks cs' ∧ (∀ z ∈ fpT gt mb ov' cs', z ∈ fpT gt mb ov cs ∨ w.heap.size ≤ z) ∧ Away (fpT gt mb ov cs) w w')
section
variable {w w' : World} {gt mb : Nat} {ov : Value} {q : Qo} {now : Int} {cs : List Cel}
set_option maxHeartbeats 16000000 in
theorem tput_c {t0 : Int} {p : Pk} {po pd : Value} (h : PutIn w gt mb ov q t0 cs p po pd) (now : Int) :
    Calls Tryz.prog 10 #[.pointer (some ⟨gt, 0, none⟩), .agg (csP p po pd), .int .i64 now] w (PutOut w gt mb ov q t0 now cs p) := by
  have HI := Lib.hid h
  have HAD := Lib.hid h.pkt.wf.ad
  have K19 : Hid (∀ W, Away [] w W → Calls Tryz.prog 30 #[.agg (csP p po pd)] W fun E w' => E = .returned (.bool (rightP p)) ∧ Away [] W w') := fun W hW => right_c p po pd W (h.pkt.on hW) (h.glob.on hW)
  have K20 : Hid (∀ W, Away [] w W → Calls Tryz.prog 31 #[.agg (csP p po pd)] W fun E w' => E = .returned (.bool (S6.rightP p)) ∧ Away [] W w') := fun W hW => S6.right_c p po pd W (h.pkt.on hW).six
  have HR : Hid (rgt2 p = (rightP p || S6.rightP p)) := rfl
  clear h
  generalize rightP p = r4 at *
  generalize S6.rightP p = r6 at *
  go_enter Tryz.func10, Tryz.ntmps10
  go_wp2_with (refine wpList_box28 rfl _ rfl p _ _ rfl ?_; refine Hid.out ?_)
  refine Lib.hid ?_
  intro g4 w1 hg4 hb4 haw1
  have HB4 := Lib.hid hb4
  have HG4 := Lib.hid hg4
  have HA := Lib.hid haw1
  clear hb4 haw1 hg4
  go_wp2_with (refine wpList_alloc33 rfl rfl ?_; refine Hid.out ?_)
  refine Lib.hid ?_
  intro g6 w2 hg6 hb6 haw2
  have HB6 := Lib.hid hb6
  have HG6 : Hid (w.heap.size ≤ g6) := Nat.le_trans HA.out.size hg6
  have HG46 : Hid (g4 ≠ g6) := by have h1 := HB4.out.lt; show _ ≠ _; omega
  replace HB4 := Lib.hid (HB4.out.on haw2)
  replace HA := Lib.hid (HA.out.trans haw2)
  clear hb6 haw2 hg6
  go_wp2_with (refine wpList_load28 rfl _ rfl _ rfl p _ _ (by exact HB4.out) HAD.out ?_)
  refine (K19.out w2 HA.out).mono ?_
  rintro E w3 ⟨rfl, haw3⟩
  replace HB4 := Lib.hid (HB4.out.on haw3)
  replace HB6 : Hid (BoxT w3 g6 0 nilV nilV nilV) := haw3.keep (by simp) HB6.out
  replace HA := Lib.hid (HA.out.trans haw3)
  clear haw3
  cases r4 with
  | true =>
    have HRT : Hid (rgt2 p = true) := by show _ = _; rw [HR.out]; rfl
    clear K20 K19 HR
    have K12 := Lib.hid (tick_c (HI.out.tab.on HA.out) HI.out.born HI.out.now now)
    go_wp2_with fail
    refine K12.out.mono ?_
    rintro E w5 htk
    rcases htk with ⟨hclk, rfl, haw5⟩ | ⟨hclk, lv, ys, ov1, rfl, hcu, hym, htab, hob, haw5⟩
    · replace HB6 : Hid (BoxT w5 g6 0 nilV nilV nilV) := haw5.keep (by simp) HB6.out
      replace HA := Lib.hid (HA.out.trans haw5)
      have HCK := Lib.hid hclk
      clear haw5 hclk K12
      go_wp2_with (refine wpList_alloc33 rfl rfl ?_; refine Hid.out ?_)
      refine Lib.hid ?_
      intro g8 w6 hg8 hb8 haw6
      have HB8 := Lib.hid hb8
      have HG8 : Hid (w5.heap.size ≤ g8) := hg8
      have HG68 : Hid (g6 ≠ g8) := by have h1 := lt_of_block HB6.out; show _ ≠ _; omega
      replace HB6 : Hid (BoxT w6 g6 0 nilV nilV nilV) := haw6.keep (by simp) HB6.out
      have HS5 : Hid (w.heap.size ≤ w5.heap.size) := HA.out.size
      replace HA := Lib.hid (HA.out.trans haw6)
      clear hb8 haw6 hg8
      go_wp2_with (refine wpList_store33 rfl _ _ rfl g8 rfl 0 nilV nilV nilV rfl 0 nilV nilV nilV (by exact HB8.out) rfl rfl rfl ?_; refine Hid.out ?_)
      refine Lib.hid ?_
      intro w7 hb8 haw7
      replace HB6 : Hid (BoxT w7 g6 0 nilV nilV nilV) := haw7.keep (by simpa using HG68.out) HB6.out
      replace HA : Hid (Away [] w w7) := HA.out.next haw7 (fun z hz => .inr (by simp at hz; rw [hz]; exact Nat.le_trans HS5.out HG8.out))
      clear hb8 haw7
      go_wp2_with (first | (refine wpList_b33 rfl rfl ?_) | (refine wpList_store33 rfl _ _ rfl g6 rfl 0 nilV nilV nilV rfl 0 nilV nilV nilV (by exact HB6.out) rfl rfl rfl ?_; refine Hid.out ?_))
      refine Lib.hid ?_
      intro wz hbz hawz
      have HBZ := Lib.hid hbz
      have HAZ : Hid (Away [] w wz) := HA.out.next hawz (fun z hz => .inr (by simp at hz; rw [hz]; exact HG6.out))
      clear hbz hawz
      go_wp2_with fail
      exact bodyPost_ret (result33t rfl _ _ _ _ _ _ _ _ rfl rfl HBZ.out) rfl (.inl ⟨.inr HCK.out, rfl, HAZ.out⟩)
    · have HCK := Lib.hid hclk
      obtain ⟨la, lc, hlv, -⟩ := hcu.pks (by
        have h3 : (ys.map X.p).length ≤ (cs.takeWhile (lateB q now)).length := by rw [hym]; exact List.length_filterMap_le _ _
        have h4 : (cs.takeWhile (lateB q now)).length ≤ cs.length := (List.takeWhile_sublist _).length_le
        have h5 := HI.out.len
        rw [List.length_map] at h3
        omega)
      obtain ⟨ln, hln⟩ : ∃ z, z = ys.length := ⟨_, rfl⟩
      rw [← hln] at hlv
      subst hlv
      have HSZ : Hid (w.heap.size ≤ w3.heap.size) := HA.out.size
      have HCU : Hid (Cuts w5 w3.heap.size (.slice la ln lc) ys) := hcu
      have HG6T : Hid (g6 < w3.heap.size) := lt_of_block HB6.out
      have HC1 : Hid (∀ k, (Value.slice la ln lc).ownBlock = some k → k < w5.heap.size) := hcu.lst.lt
      have HC2 : Hid (∀ x ∈ ys, ∀ k, x.o.ownBlock = some k ∨ x.d.ownBlock = some k → k < w5.heap.size) := fun x hx k hk => ((hcu.each x hx).2.lto k hk).1
      have HYM := Lib.hid hym
      have HT := Lib.hid htab
      have HOB := Lib.hid hob
      have HS0 : Hid (∀ z ∈ gt :: mb :: ov.ownBlock.toList, z ∈ fpT gt mb ov cs) := fun z hz => by
        simp only [List.mem_cons, Option.mem_toList] at hz
        exact mem_fpT.2 (hz.imp id (Or.imp id Or.inl))
      have HLT : Hid (∀ z ∈ fpT gt mb ov cs, z < w.heap.size) := HI.out.tab.lt
      have HAF : Hid (Away (fpT gt mb ov cs) w w5) := (HA.out.mono (by simp)).trans (haw5.mono HS0.out)
      replace HB4 : Hid (BoxP w5 g4 p po pd) := HB4.out.away haw5 (fun hm => by have h1 := HLT.out g4 (HS0.out g4 hm); have h2 := HG4.out; omega)
      replace HB6 : Hid (BoxT w5 g6 0 nilV nilV nilV) := haw5.keep (fun hm => by have h1 := HLT.out g6 (HS0.out g6 hm); have h2 := HG6.out; omega) HB6.out
      have HP5 : Hid (Pkt w5 p po pd) := HI.out.pkt.away HAF.out HI.out.outs
      have HGL : Hid (Glob w5) := HI.out.glob.away HAF.out HI.out.pos
      obtain ⟨csL, hcsl⟩ : ∃ z, z = cs.dropWhile (lateB q now) := ⟨_, rfl⟩
      rw [← hcsl] at HT
      have HCL := Lib.hid hcsl
      have HFT : Hid (∀ z ∈ fpT gt mb ov1 csL, z ∈ fpT gt mb ov cs) := fun z hz => by
        rcases mem_fpT.1 hz with e | e | e | ⟨d, hd, e⟩
        · exact mem_fpT.2 (.inl e)
        · exact mem_fpT.2 (.inr (.inl e))
        · exact mem_fpT.2 (.inr (.inr (.inl (by rw [← HOB.out]; exact e))))
        · exact mem_fpT.2 (.inr (.inr (.inr ⟨d, (List.dropWhile_sublist _).mem (by rw [← HCL.out]; exact hd), e⟩)))
      have HLL : Hid (csL.length < 1000) := by
        have h1 : csL.length ≤ cs.length := by rw [hcsl]; exact (List.dropWhile_sublist _).length_le
        have h2 := HI.out.len
        show _ < _; omega
      clear hcu hym htab hob haw5 hclk K12 hcsl hln HA
      have HS5 : Hid (w.heap.size ≤ w5.heap.size) := HAF.out.size
      go_wp2_with (refine wpList_alloc33 rfl rfl ?_; refine Hid.out ?_)
      refine Lib.hid ?_
      intro g8 w6 hg8 hb8 haw6
      have HB8 := Lib.hid hb8
      have HG8 : Hid (w5.heap.size ≤ g8) := hg8
      have HA6 := Lib.hid haw6
      clear hb8 haw6 hg8
      go_wp2_with (refine wpList_store33 rfl _ _ rfl g8 rfl 0 nilV (.slice la ln lc) nilV rfl 0 nilV nilV nilV (by exact HB8.out) rfl rfl rfl ?_; refine Hid.out ?_)
      refine Lib.hid ?_
      intro w7 hb8 haw7
      replace HB8 := Lib.hid hb8
      have HA7 : Hid (Away [] w5 w7) := HA6.out.next haw7 (fun z hz => .inr (by simp at hz; rw [hz]; exact HG8.out))
      clear hb8 haw7 HA6
      have HG68 : Hid (g6 ≠ g8) := by have h1 := lt_of_block HB6.out; have h2 := HG8.out; show _ ≠ _; omega
      replace HB4 := Lib.hid (HB4.out.on HA7.out)
      replace HB6 : Hid (BoxT w7 g6 0 nilV nilV nilV) := HA7.out.keep (by simp) HB6.out
      replace HP5 := Lib.hid (HP5.out.on HA7.out)
      replace HGL := Lib.hid (HGL.out.on HA7.out)
      replace HT := Lib.hid (HT.out.on HA7.out)
      replace HCU := Lib.hid (HCU.out.on HA7.out)
      replace HAF := Lib.hid (HAF.out.trans (HA7.out.mono (by simp)))
      have K21 := Lib.hid (isWhole_c p po pd w7 HAD.out)
      go_wp2_with (refine wpList_load28 rfl _ rfl _ rfl p _ _ (by exact HB4.out) HAD.out ?_)
      refine K21.out.mono ?_
      rintro E w8 ⟨rfl, haw8⟩
      replace HB4 := Lib.hid (HB4.out.on haw8)
      replace HB6 : Hid (BoxT w8 g6 0 nilV nilV nilV) := haw8.keep (by simp) HB6.out
      replace HB8 : Hid (BoxT w8 g8 0 nilV (.slice la ln lc) nilV) := haw8.keep (by simp) HB8.out
      replace HP5 := Lib.hid (HP5.out.on haw8)
      replace HGL := Lib.hid (HGL.out.on haw8)
      replace HT := Lib.hid (HT.out.on haw8)
      replace HCU := Lib.hid (HCU.out.on haw8)
      replace HAF := Lib.hid (HAF.out.trans (haw8.mono (by simp)))
      have HS58a : Hid (w5.heap.size ≤ w8.heap.size) := Nat.le_trans HA7.out.size haw8.size
      clear haw8 K21 HA7
      have HS8 : Hid (w.heap.size ≤ w8.heap.size) := HAF.out.size
      have HS58 : Hid (w5.heap.size ≤ w8.heap.size) := HS58a.out
      have HG8T : Hid (g8 < w8.heap.size) := lt_of_block HB8.out
      have HG6L : Hid (g6 < w8.heap.size) := lt_of_block HB6.out
      obtain ⟨iw, hiw⟩ : ∃ z, z = isWhP p := ⟨_, rfl⟩
      rw [← hiw]
      have HIW := Lib.hid hiw
      clear hiw
      cases iw with
      | true =>
        have K22 := Lib.hid (dgm_c p po pd w8 HP5.out)
        go_wp2_with (refine wpList_load28 rfl _ rfl _ rfl p _ _ (by exact HB4.out) HAD.out ?_)
        refine K22.out.mono ?_
        rintro E w9 ⟨qo, qd, rfl, hmi, haw9⟩
        have HDW : Hid (Wf (dgP p)) := dg_wf HI.out.pkt.wf
        have HMI := Lib.hid hmi
        have HO1 := Lib.hid hmi.o.one
        have HD1 := Lib.hid hmi.d.one
        replace HB6 : Hid (BoxT w9 g6 0 nilV nilV nilV) := haw9.keep (by simp) HB6.out
        replace HB8 : Hid (BoxT w9 g8 0 nilV (.slice la ln lc) nilV) := haw9.keep (by simp) HB8.out
        replace HT := Lib.hid (HT.out.on haw9)
        replace HCU := Lib.hid (HCU.out.on haw9)
        replace HAF := Lib.hid (HAF.out.trans (haw9.mono (by simp)))
        have HS89' : Hid (w8.heap.size ≤ w9.heap.size) := haw9.size
        clear hmi haw9 K22 HB4
        obtain ⟨dq, hdq⟩ : ∃ z, z = dgP p := ⟨_, rfl⟩
        rw [← hdq] at HDW HMI ⊢
        have HDQ := Lib.hid hdq
        clear hdq
        go_wp2_with (refine wpList_build28 rfl _ rfl dq qo qd rfl HDW.out.ad ?_; refine Hid.out ?_)
        refine Lib.hid ?_
        intro gq w10 hgq hbq haw10
        have HLM : Hid (∀ k, qo.ownBlock = some k ∨ qd.ownBlock = some k → k < w9.heap.size) := fun k hk => (HMI.out.lto k hk).1
        have HS9 : Hid (w.heap.size ≤ w9.heap.size) := HAF.out.size
        have HS89 : Hid (w8.heap.size ≤ w9.heap.size) := HS89'.out
        have HCW : Hid (Cuts w10 w8.heap.size (.slice (some ⟨gq, 0, none⟩) 1 1) [⟨dq, qo, qd⟩]) := Cuts.one hbq HDW.out (HMI.out.on haw10) (Nat.le_trans HS89.out hgq) (fun k hk e => by have h1 := HLM.out k hk; omega)
        have HW1 : Hid (∀ k, (Value.slice (some ⟨gq, 0, none⟩) 1 1).ownBlock = some k → g6 ≠ k ∧ g8 ≠ k) := fun k hk => by
          simp [Value.ownBlock] at hk; subst hk
          have h1 := lt_of_block HB6.out
          have h2 := lt_of_block HB8.out
          exact ⟨by omega, by omega⟩
        replace HB6 : Hid (BoxT w10 g6 0 nilV nilV nilV) := haw10.keep (by simp) HB6.out
        replace HB8 : Hid (BoxT w10 g8 0 nilV (.slice la ln lc) nilV) := haw10.keep (by simp) HB8.out
        replace HT := Lib.hid (HT.out.on haw10)
        replace HCU := Lib.hid (HCU.out.on haw10)
        replace HAF := Lib.hid (HAF.out.trans (haw10.mono (by simp)))
        clear hbq haw10 hgq
        have c1 : w10.cell? ⟨g8, 1, none⟩ = some (.slice none 0 0) := cell_of_block HB8.out 1
        have f1 : w10.frozen? ⟨g8, 1, none⟩ = false := free_of_block HB8.out 1
        go_upto_region 9 with fail
        have HA11 := away_one' w10 g8 1 (.slice (some ⟨gq, 0, none⟩) 1 1)
        have HB11 := HB8.out.whole (.slice (some ⟨gq, 0, none⟩) 1 1)
        obtain ⟨w11, hw11⟩ : ∃ z, z = w10.setCell ⟨g8, 1, none⟩ (.slice (some ⟨gq, 0, none⟩) 1 1) := ⟨_, rfl⟩
        rw [← hw11] at HA11 HB11 ⊢
        have HG8L : Hid (g8 < w8.heap.size) := HG8T.out
        have HG68T : Hid (g6 < w8.heap.size) := HG6L.out
        replace HCW := Lib.hid (HCW.out.away HA11 (fun z hz => by simp at hz; rw [hz]; exact HG8L.out))
        replace HCU := Lib.hid (HCU.out.away3 HA11 HC1.out HC2.out (fun z hz => by simp at hz; rw [hz]; exact .inr HG8.out))
        replace HT := Lib.hid (HT.out.away HA11 (fun z hz hm => by simp at hm; have h1 := HLT.out z (HFT.out z hz); have h2 := HG8.out; have h3 := HS5.out; omega))
        replace HB6 : Hid (BoxT w11 g6 0 nilV nilV nilV) := HA11.keep (by simpa using HG68.out) HB6.out
        replace HB8 := Lib.hid HB11
        replace HAF := Lib.hid (HAF.out.next HA11 (fun z hz => .inr (by simp at hz; rw [hz]; exact Nat.le_trans HS5.out HG8.out)))
        have HGK : Hid (K.LstK w11 nilV []) := K.LstK.nil _
        have HNK : Hid (New w8.heap.size nilV) := New.nil _
        have HFX : Hid (∀ z ∈ fpT gt mb ov1 csL, z ∈ fpT gt mb ov cs ∨ w8.heap.size ≤ z) := fun z hz => .inl (HFT.out z hz)
        have HRES : Hid (Res q now (cs.dropWhile (lateB q now)) p 0 ([(⟨dq, qo, qd⟩ : X)].map X.p) [] csL) := .inl ⟨HIW.out.symm, rfl, by rw [← HDQ.out]; rfl, rfl, HCL.out⟩
        clear HA11 HB11 hw11 c1 f1
        go_wp2_with (first | (refine wpList_load33 rfl _ rfl g8 rfl 0 (.slice (some ⟨gq, 0, none⟩) 1 1) (.slice la ln lc) nilV (by exact HB8.out) ?_) | (refine wpList_store33 rfl _ _ rfl g6 rfl 0 (.slice (some ⟨gq, 0, none⟩) 1 1) (.slice la ln lc) nilV rfl 0 nilV nilV nilV (by exact HB6.out) rfl rfl rfl ?_; refine Hid.out ?_))
        refine Lib.hid ?_
        intro wz hbz hawz
        have HBZ := Lib.hid hbz
        have HAZ := Lib.hid hawz
        clear hbz hawz
        go_wp2_with fail
        have z1 := HG6T.out
        have z2 := HG68T.out
        have z3 := HG6.out
        exact bodyPost_ret (result33t rfl _ _ _ _ _ _ _ _ rfl rfl HBZ.out) rfl (.inr ⟨⟨HRT.out, HCK.out.1, HCK.out.2⟩, 0, (.slice (some ⟨gq, 0, none⟩) 1 1), .slice la ln lc, nilV, ov1, [⟨dq, qo, qd⟩], ys, [], csL, rfl, (HCW.out.away HAZ.out (fun z hz => by simp at hz; omega)).mono HS8.out, (HCU.out.away HAZ.out (fun z hz => by simp at hz; omega)).mono HSZ.out, HGK.out.away HAZ.out (fun z hz hm => by simp at hm; have h1 := HNK.out z hz; omega), HNK.out.mono HS8.out, HYM.out, HT.out.away HAZ.out (fun z hz hm => by simp at hm; rcases HFX.out z hz with h1 | h1; (have h2 := HLT.out z h1; omega); omega), HRES.out, fun z hz => (HFX.out z hz).imp id (fun h1 => Nat.le_trans HS8.out h1), HAF.out.next HAZ.out (fun z hz => .inr (by simp at hz; omega))⟩)
      | false =>
        have HFAR : Hid (g8 ∉ fpT gt mb ov1 csL) := fun hm => by have h1 := HLT.out g8 (HFT.out g8 hm); have h2 := HG8.out; have h3 := HS5.out; omega
        have HTI : Hid (TakeIn w8 gt mb ov1 q now csL p po pd g8 (.slice la ln lc)) := by
          refine ⟨HT.out, HGL.out, HP5.out, HB8.out, HFAR.out, ⟨fun e z hz hm => ?_, fun e z hz hm => ?_⟩, fun hm => HI.out.pos (HFT.out 0 hm)⟩
          · have h1 := HI.out.pkt.o.old e z hz
            rcases List.mem_cons.1 hm with h2 | h2
            · have h3 := HG8.out; have h4 := HS5.out; omega
            · exact HI.out.outs.o e z hz (HFT.out z h2)
          · have h1 := HI.out.pkt.d.old e z hz
            rcases List.mem_cons.1 hm with h2 | h2
            · have h3 := HG8.out; have h4 := HS5.out; omega
            · exact HI.out.outs.d e z hz (HFT.out z h2)
        have HG68T : Hid (g6 < w8.heap.size) := HG6L.out
        rcases Classical.em (∃ (i : Nat) (c : Cel), csL[i]? = some c ∧ kyB p c.s.k = true) with ⟨i, c, hc, hky⟩ | hno
        · have HC := Lib.hid hc
          have HKY := Lib.hid hky
          have K23 := Lib.hid (take_old HTI.out hc hky HI.out.quo)
          clear hc hky
          go_wp2_with (refine wpList_load28 rfl _ rfl _ rfl p _ _ (by exact HB4.out) HAD.out ?_)
          refine K23.out.mono ?_
          rintro E w9 ⟨rfl, fp1, fp2, wv, gv, ov', xs, hfn, hbox, hcw, hxm, hgk, hnk, htab, hob', haw9⟩
          have HCM := Lib.hid (List.mem_of_getElem? HC.out)
          have HS83 : Hid (w8.heap.size ≤ w8.heap.size) := Nat.le_refl _
          replace HB6 : Hid (BoxT w9 g6 0 nilV nilV nilV) := haw9.keep (fun hm => by
            rcases List.mem_cons.1 hm with h1 | h1
            · exact HG68.out h1
            · have h2 := HLT.out g6 (HFT.out g6 h1); have h3 := HG6.out; omega) HB6.out
          replace HCU := Lib.hid (HCU.out.away3 haw9 HC1.out HC2.out (fun z hz => by
            rcases List.mem_cons.1 hz with h1 | h1
            · rw [h1]; exact .inr HG8.out
            · have h2 := HLT.out z (HFT.out z h1); have h3 := HSZ.out; exact .inl (by omega)))
          replace HAF := Lib.hid (HAF.out.next haw9 (fun z hz => by
            rcases List.mem_cons.1 hz with h1 | h1
            · rw [h1]; exact .inr (Nat.le_trans HS5.out HG8.out)
            · exact .inl (HFT.out z h1)))
          clear haw9 K23 HB4
          obtain ⟨wa, wn, wc', hwv⟩ := lstp_shp hcw.lst
          obtain ⟨ga, gn, gc, hgv⟩ := lstk_shp hgk
          subst hwv
          subst hgv
          obtain ⟨tk, htk⟩ : ∃ z, z = takeC q csL i c p fp1 fp2 := ⟨_, rfl⟩
          rw [← htk] at hbox hxm hgk htab
          have HFX : Hid (∀ z ∈ fpT gt mb ov' tk.cs, z ∈ fpT gt mb ov cs ∨ w8.heap.size ≤ z) := fun z hz => by
            rcases mem_fpT.1 hz with e | e | e | ⟨d, hd, e⟩
            · exact .inl (mem_fpT.2 (.inl e))
            · exact .inl (mem_fpT.2 (.inr (.inl e)))
            · rw [hob'] at e
              exact .inl (HFT.out z (mem_fpT.2 (.inr (.inr (.inl e)))))
            · rw [htk] at hd
              rcases takeC_mem hd with h1 | h1 | h1
              · exact .inl (HFT.out z (mem_fpT.2 (.inr (.inr (.inr ⟨d, h1, e⟩)))))
              · rw [h1] at e
                rcases hfn.1 z e with h2 | h2
                · exact .inl (HFT.out z (mem_fpT.2 (.inr (.inr (.inr ⟨c, HCM.out, h2⟩)))))
                · exact .inr (Nat.le_trans HS83.out h2)
              · rw [h1] at e
                rcases hfn.2 z e with h2 | h2
                · exact .inl (HFT.out z (mem_fpT.2 (.inr (.inr (.inr ⟨c, HCM.out, h2⟩)))))
                · exact .inr (Nat.le_trans HS83.out h2)
          have HRES : Hid (Res q now (cs.dropWhile (lateB q now)) p tk.n (xs.map X.p) tk.gone tk.cs) := .inr ⟨HIW.out.symm, csL, i, c, fp1, fp2, .inl ⟨HCL.out, by rw [← HCL.out]; exact HC.out, HKY.out⟩, by rw [← htk, hxm]⟩
          have HCW : Hid (Cuts w9 w8.heap.size (.slice wa wn wc') xs) := hcw.mono HS83.out
          have HGK := Lib.hid hgk
          have HNK : Hid (New w8.heap.size (.slice ga gn gc)) := hnk.mono HS83.out
          replace HB8 := Lib.hid hbox
          replace HT := Lib.hid htab
          clear hcw hgk hnk hbox htab hxm hob' hfn htk
          go_wp2_with (first | (refine wpList_load33 rfl _ rfl g8 rfl tk.n (.slice wa wn wc') (.slice la ln lc) (.slice ga gn gc) (by exact HB8.out) ?_) | (refine wpList_store33 rfl _ _ rfl g6 rfl tk.n (.slice wa wn wc') (.slice la ln lc) (.slice ga gn gc) rfl 0 nilV nilV nilV (by exact HB6.out) rfl rfl rfl ?_; refine Hid.out ?_))
          refine Lib.hid ?_
          intro wz hbz hawz
          have HBZ := Lib.hid hbz
          have HAZ := Lib.hid hawz
          clear hbz hawz
          go_wp2_with fail
          have z1 := HG6T.out
          have z2 := HG68T.out
          have z3 := HG6.out
          exact bodyPost_ret (result33t rfl _ _ _ _ _ _ _ _ rfl rfl HBZ.out) rfl (.inr ⟨⟨HRT.out, HCK.out.1, HCK.out.2⟩, tk.n, .slice wa wn wc', .slice la ln lc, .slice ga gn gc, ov', xs, ys, tk.gone, tk.cs, rfl, (HCW.out.away HAZ.out (fun z hz => by simp at hz; omega)).mono HS8.out, (HCU.out.away HAZ.out (fun z hz => by simp at hz; omega)).mono HSZ.out, HGK.out.away HAZ.out (fun z hz hm => by simp at hm; have h1 := HNK.out z hz; omega), HNK.out.mono HS8.out, HYM.out, HT.out.away HAZ.out (fun z hz hm => by simp at hm; rcases HFX.out z hz with h1 | h1; (have h2 := HLT.out z h1; omega); omega), HRES.out, fun z hz => (HFX.out z hz).imp id (fun h1 => Nat.le_trans HS8.out h1), HAF.out.next HAZ.out (fun z hz => .inr (by simp at hz; omega))⟩)
        · have HNO : Hid (∀ d ∈ csL, kyB p d.s.k = false) := fun d hd => by
            rw [Bool.eq_false_iff]
            intro hk
            obtain ⟨i, hi⟩ := List.mem_iff_getElem?.1 hd
            exact hno ⟨i, d, hi, hk⟩
          have K23 := Lib.hid (take_new HTI.out HNO.out HI.out.quo HLL.out (fun E w' => ∃ w3 g fp ov2, Tab w3 gt mb ov2 q now (csL ++ [⟨newS p now, g, fp⟩]) ∧ (∀ z ∈ fp, w8.heap.size ≤ z) ∧ (∀ z, ov2.ownBlock = some z → ov1.ownBlock = some z ∨ w8.heap.size ≤ z) ∧ Away (gt :: mb :: ov1.ownBlock.toList) w8 w3 ∧ TakeOut w3 gt mb ov2 q now (csL ++ [⟨newS p now, g, fp⟩]) csL.length ⟨newS p now, g, fp⟩ p g8 (.slice la ln lc) E w') (fun w3 g fp ov2 h1 h2 h3 h4 E w' h5 => ⟨w3, g, fp, ov2, h1, h2, h3, h4, h5⟩))
          clear hno
          go_wp2_with (refine wpList_load28 rfl _ rfl _ rfl p _ _ (by exact HB4.out) HAD.out ?_)
          refine K23.out.mono ?_
          rintro E w9 ⟨wn3, g, fp, ov2, htab3, hfp, hov, haw3, rfl, fp1, fp2, wv, gv, ov', xs, hfn, hbox, hcw, hxm, hgk, hnk, htab, hob', haw9⟩
          have HS83 : Hid (w8.heap.size ≤ wn3.heap.size) := haw3.size
          obtain ⟨c, hce⟩ : ∃ z, z = (⟨newS p now, g, fp⟩ : Cel) := ⟨_, rfl⟩
          obtain ⟨i, hie⟩ : ∃ z, z = csL.length := ⟨_, rfl⟩
          obtain ⟨cs1, hc1⟩ : ∃ z, z = csL ++ [(⟨newS p now, g, fp⟩ : Cel)] := ⟨_, rfl⟩
          have HN2 : Hid (∀ z ∈ fpT gt mb ov2 cs1, z ∈ fpT gt mb ov cs ∨ w8.heap.size ≤ z) := fun z hz => by
            rw [hc1] at hz
            rcases mem_fpT.1 hz with e | e | e | ⟨d, hd, e⟩
            · exact .inl (mem_fpT.2 (.inl e))
            · exact .inl (mem_fpT.2 (.inr (.inl e)))
            · rcases hov z e with h1 | h1
              · exact .inl (HFT.out z (mem_fpT.2 (.inr (.inr (.inl h1)))))
              · exact .inr h1
            · rcases List.mem_append.1 hd with hd | hd
              · exact .inl (HFT.out z (mem_fpT.2 (.inr (.inr (.inr ⟨d, hd, e⟩)))))
              · simp at hd; subst hd; exact .inr (hfp z e)
          have HCM : Hid (c ∈ cs1) := by rw [hc1, hce]; exact List.mem_append.2 (.inr (by simp))
          have HNR : Hid ((∀ d ∈ cs.dropWhile (lateB q now), kyB p d.s.k = false) ∧ ∃ g fp, c = ⟨newS p now, g, fp⟩ ∧ cs1 = cs.dropWhile (lateB q now) ++ [c] ∧ i = (cs.dropWhile (lateB q now)).length) := by
            rw [← HCL.out]
            exact ⟨HNO.out, g, fp, hce, by rw [hc1, hce], hie⟩
          rw [← hce, ← hie] at hbox hxm hgk htab
          rw [← hce] at hfn
          rw [← hc1] at haw9
          have hc1' : csL ++ [c] = cs1 := by rw [hc1, hce]
          rw [hc1'] at hbox hxm hgk htab
          have HS1 : Hid (∀ z ∈ gt :: mb :: ov1.ownBlock.toList, z ∈ fpT gt mb ov cs) := fun z hz => by
            simp only [List.mem_cons, Option.mem_toList] at hz
            exact HFT.out z (mem_fpT.2 (hz.imp id (Or.imp id Or.inl)))
          have HB63 : Hid (BoxT wn3 g6 0 nilV nilV nilV) := haw3.keep (fun hm => by have h2 := HLT.out g6 (HS1.out g6 hm); have h3 := HG6.out; omega) HB6.out
          replace HB6 : Hid (BoxT w9 g6 0 nilV nilV nilV) := haw9.keep (fun hm => by
            rcases List.mem_cons.1 hm with h1 | h1
            · exact HG68.out h1
            · have h4 := HG68T.out
              rcases HN2.out g6 h1 with h2 | h2
              · have h2 := HLT.out g6 h2; have h3 := HG6.out; omega
              · omega) HB63.out
          replace HCU := Lib.hid (HCU.out.away haw3 (fun z hz => by have h2 := HLT.out z (HS1.out z hz); have h3 := HSZ.out; omega))
          replace HCU := Lib.hid (HCU.out.away3 haw9 HC1.out HC2.out (fun z hz => by
            rcases List.mem_cons.1 hz with h1 | h1
            · rw [h1]; exact .inr HG8.out
            · rcases HN2.out z h1 with h2 | h2
              · have h2 := HLT.out z h2; have h3 := HSZ.out; exact .inl (by omega)
              · have h3 := HS58.out; exact .inr (by omega)))
          replace HAF := Lib.hid (HAF.out.trans (haw3.mono HS1.out))
          replace HAF := Lib.hid (HAF.out.next haw9 (fun z hz => by
            rcases List.mem_cons.1 hz with h1 | h1
            · rw [h1]; exact .inr (Nat.le_trans HS5.out HG8.out)
            · exact (HN2.out z h1).imp id (fun h2 => Nat.le_trans HS8.out h2)))
          clear haw9 haw3 htab3 hov hfp K23 HB4 HB63 hce hie hc1 hc1'
          obtain ⟨wa, wn, wc', hwv⟩ := lstp_shp hcw.lst
          obtain ⟨ga, gn, gc, hgv⟩ := lstk_shp hgk
          subst hwv
          subst hgv
          obtain ⟨tk, htk⟩ : ∃ z, z = takeC q cs1 i c p fp1 fp2 := ⟨_, rfl⟩
          rw [← htk] at hbox hxm hgk htab
          have HFX : Hid (∀ z ∈ fpT gt mb ov' tk.cs, z ∈ fpT gt mb ov cs ∨ w8.heap.size ≤ z) := fun z hz => by
            rcases mem_fpT.1 hz with e | e | e | ⟨d, hd, e⟩
            · exact .inl (mem_fpT.2 (.inl e))
            · exact .inl (mem_fpT.2 (.inr (.inl e)))
            · rw [hob'] at e
              exact HN2.out z (mem_fpT.2 (.inr (.inr (.inl e))))
            · rw [htk] at hd
              rcases takeC_mem hd with h1 | h1 | h1
              · exact HN2.out z (mem_fpT.2 (.inr (.inr (.inr ⟨d, h1, e⟩))))
              · rw [h1] at e
                rcases hfn.1 z e with h2 | h2
                · exact HN2.out z (mem_fpT.2 (.inr (.inr (.inr ⟨c, HCM.out, h2⟩))))
                · exact .inr (Nat.le_trans HS83.out h2)
              · rw [h1] at e
                rcases hfn.2 z e with h2 | h2
                · exact HN2.out z (mem_fpT.2 (.inr (.inr (.inr ⟨c, HCM.out, h2⟩))))
                · exact .inr (Nat.le_trans HS83.out h2)
          have HRES : Hid (Res q now (cs.dropWhile (lateB q now)) p tk.n (xs.map X.p) tk.gone tk.cs) := .inr ⟨HIW.out.symm, cs1, i, c, fp1, fp2, .inr HNR.out, by rw [← htk, hxm]⟩
          have HCW : Hid (Cuts w9 w8.heap.size (.slice wa wn wc') xs) := hcw.mono HS83.out
          have HGK := Lib.hid hgk
          have HNK : Hid (New w8.heap.size (.slice ga gn gc)) := hnk.mono HS83.out
          replace HB8 := Lib.hid hbox
          replace HT := Lib.hid htab
          clear hcw hgk hnk hbox htab hxm hob' hfn htk
          go_wp2_with (first | (refine wpList_load33 rfl _ rfl g8 rfl tk.n (.slice wa wn wc') (.slice la ln lc) (.slice ga gn gc) (by exact HB8.out) ?_) | (refine wpList_store33 rfl _ _ rfl g6 rfl tk.n (.slice wa wn wc') (.slice la ln lc) (.slice ga gn gc) rfl 0 nilV nilV nilV (by exact HB6.out) rfl rfl rfl ?_; refine Hid.out ?_))
          refine Lib.hid ?_
          intro wz hbz hawz
          have HBZ := Lib.hid hbz
          have HAZ := Lib.hid hawz
          clear hbz hawz
          go_wp2_with fail
          have z1 := HG6T.out
          have z2 := HG68T.out
          have z3 := HG6.out
          exact bodyPost_ret (result33t rfl _ _ _ _ _ _ _ _ rfl rfl HBZ.out) rfl (.inr ⟨⟨HRT.out, HCK.out.1, HCK.out.2⟩, tk.n, .slice wa wn wc', .slice la ln lc, .slice ga gn gc, ov', xs, ys, tk.gone, tk.cs, rfl, (HCW.out.away HAZ.out (fun z hz => by simp at hz; omega)).mono HS8.out, (HCU.out.away HAZ.out (fun z hz => by simp at hz; omega)).mono HSZ.out, HGK.out.away HAZ.out (fun z hz hm => by simp at hm; have h1 := HNK.out z hz; omega), HNK.out.mono HS8.out, HYM.out, HT.out.away HAZ.out (fun z hz hm => by simp at hm; rcases HFX.out z hz with h1 | h1; (have h2 := HLT.out z h1; omega); omega), HRES.out, fun z hz => (HFX.out z hz).imp id (fun h1 => Nat.le_trans HS8.out h1), HAF.out.next HAZ.out (fun z hz => .inr (by simp at hz; omega))⟩)
  | false =>
    go_wp2_with (refine wpList_load28 rfl _ rfl _ rfl p _ _ (by exact HB4.out) HAD.out ?_)
    refine (K20.out w3 HA.out).mono ?_
    rintro E w4 ⟨rfl, haw4⟩
    replace HB4 := Lib.hid (HB4.out.on haw4)
    replace HB6 : Hid (BoxT w4 g6 0 nilV nilV nilV) := haw4.keep (by simp) HB6.out
    replace HA := Lib.hid (HA.out.trans haw4)
    clear haw4
    cases r6 with
    | true =>
      have HRT : Hid (rgt2 p = true) := by show _ = _; rw [HR.out]; rfl
      clear K20 K19 HR
      have K12 := Lib.hid (tick_c (HI.out.tab.on HA.out) HI.out.born HI.out.now now)
      go_wp2_with fail
      refine K12.out.mono ?_
      rintro E w5 htk
      rcases htk with ⟨hclk, rfl, haw5⟩ | ⟨hclk, lv, ys, ov1, rfl, hcu, hym, htab, hob, haw5⟩
      · replace HB6 : Hid (BoxT w5 g6 0 nilV nilV nilV) := haw5.keep (by simp) HB6.out
        replace HA := Lib.hid (HA.out.trans haw5)
        have HCK := Lib.hid hclk
        clear haw5 hclk K12
        go_wp2_with (refine wpList_alloc33 rfl rfl ?_; refine Hid.out ?_)
        refine Lib.hid ?_
        intro g8 w6 hg8 hb8 haw6
        have HB8 := Lib.hid hb8
        have HG8 : Hid (w5.heap.size ≤ g8) := hg8
        have HG68 : Hid (g6 ≠ g8) := by have h1 := lt_of_block HB6.out; show _ ≠ _; omega
        replace HB6 : Hid (BoxT w6 g6 0 nilV nilV nilV) := haw6.keep (by simp) HB6.out
        have HS5 : Hid (w.heap.size ≤ w5.heap.size) := HA.out.size
        replace HA := Lib.hid (HA.out.trans haw6)
        clear hb8 haw6 hg8
        go_wp2_with (refine wpList_store33 rfl _ _ rfl g8 rfl 0 nilV nilV nilV rfl 0 nilV nilV nilV (by exact HB8.out) rfl rfl rfl ?_; refine Hid.out ?_)
        refine Lib.hid ?_
        intro w7 hb8 haw7
        replace HB6 : Hid (BoxT w7 g6 0 nilV nilV nilV) := haw7.keep (by simpa using HG68.out) HB6.out
        replace HA : Hid (Away [] w w7) := HA.out.next haw7 (fun z hz => .inr (by simp at hz; rw [hz]; exact Nat.le_trans HS5.out HG8.out))
        clear hb8 haw7
        go_wp2_with (first | (refine wpList_b33 rfl rfl ?_) | (refine wpList_store33 rfl _ _ rfl g6 rfl 0 nilV nilV nilV rfl 0 nilV nilV nilV (by exact HB6.out) rfl rfl rfl ?_; refine Hid.out ?_))
        refine Lib.hid ?_
        intro wz hbz hawz
        have HBZ := Lib.hid hbz
        have HAZ : Hid (Away [] w wz) := HA.out.next hawz (fun z hz => .inr (by simp at hz; rw [hz]; exact HG6.out))
        clear hbz hawz
        go_wp2_with fail
        exact bodyPost_ret (result33t rfl _ _ _ _ _ _ _ _ rfl rfl HBZ.out) rfl (.inl ⟨.inr HCK.out, rfl, HAZ.out⟩)
      · have HCK := Lib.hid hclk
        obtain ⟨la, lc, hlv, -⟩ := hcu.pks (by
          have h3 : (ys.map X.p).length ≤ (cs.takeWhile (lateB q now)).length := by rw [hym]; exact List.length_filterMap_le _ _
          have h4 : (cs.takeWhile (lateB q now)).length ≤ cs.length := (List.takeWhile_sublist _).length_le
          have h5 := HI.out.len
          rw [List.length_map] at h3
          omega)
        obtain ⟨ln, hln⟩ : ∃ z, z = ys.length := ⟨_, rfl⟩
        rw [← hln] at hlv
        subst hlv
        have HSZ : Hid (w.heap.size ≤ w4.heap.size) := HA.out.size
        have HCU : Hid (Cuts w5 w4.heap.size (.slice la ln lc) ys) := hcu
        have HG6T : Hid (g6 < w4.heap.size) := lt_of_block HB6.out
        have HC1 : Hid (∀ k, (Value.slice la ln lc).ownBlock = some k → k < w5.heap.size) := hcu.lst.lt
        have HC2 : Hid (∀ x ∈ ys, ∀ k, x.o.ownBlock = some k ∨ x.d.ownBlock = some k → k < w5.heap.size) := fun x hx k hk => ((hcu.each x hx).2.lto k hk).1
        have HYM := Lib.hid hym
        have HT := Lib.hid htab
        have HOB := Lib.hid hob
        have HS0 : Hid (∀ z ∈ gt :: mb :: ov.ownBlock.toList, z ∈ fpT gt mb ov cs) := fun z hz => by
          simp only [List.mem_cons, Option.mem_toList] at hz
          exact mem_fpT.2 (hz.imp id (Or.imp id Or.inl))
        have HLT : Hid (∀ z ∈ fpT gt mb ov cs, z < w.heap.size) := HI.out.tab.lt
        have HAF : Hid (Away (fpT gt mb ov cs) w w5) := (HA.out.mono (by simp)).trans (haw5.mono HS0.out)
        replace HB4 : Hid (BoxP w5 g4 p po pd) := HB4.out.away haw5 (fun hm => by have h1 := HLT.out g4 (HS0.out g4 hm); have h2 := HG4.out; omega)
        replace HB6 : Hid (BoxT w5 g6 0 nilV nilV nilV) := haw5.keep (fun hm => by have h1 := HLT.out g6 (HS0.out g6 hm); have h2 := HG6.out; omega) HB6.out
        have HP5 : Hid (Pkt w5 p po pd) := HI.out.pkt.away HAF.out HI.out.outs
        have HGL : Hid (Glob w5) := HI.out.glob.away HAF.out HI.out.pos
        obtain ⟨csL, hcsl⟩ : ∃ z, z = cs.dropWhile (lateB q now) := ⟨_, rfl⟩
        rw [← hcsl] at HT
        have HCL := Lib.hid hcsl
        have HFT : Hid (∀ z ∈ fpT gt mb ov1 csL, z ∈ fpT gt mb ov cs) := fun z hz => by
          rcases mem_fpT.1 hz with e | e | e | ⟨d, hd, e⟩
          · exact mem_fpT.2 (.inl e)
          · exact mem_fpT.2 (.inr (.inl e))
          · exact mem_fpT.2 (.inr (.inr (.inl (by rw [← HOB.out]; exact e))))
          · exact mem_fpT.2 (.inr (.inr (.inr ⟨d, (List.dropWhile_sublist _).mem (by rw [← HCL.out]; exact hd), e⟩)))
        have HLL : Hid (csL.length < 1000) := by
          have h1 : csL.length ≤ cs.length := by rw [hcsl]; exact (List.dropWhile_sublist _).length_le
          have h2 := HI.out.len
          show _ < _; omega
        clear hcu hym htab hob haw5 hclk K12 hcsl hln HA
        have HS5 : Hid (w.heap.size ≤ w5.heap.size) := HAF.out.size
        go_wp2_with (refine wpList_alloc33 rfl rfl ?_; refine Hid.out ?_)
        refine Lib.hid ?_
        intro g8 w6 hg8 hb8 haw6
        have HB8 := Lib.hid hb8
        have HG8 : Hid (w5.heap.size ≤ g8) := hg8
        have HA6 := Lib.hid haw6
        clear hb8 haw6 hg8
        go_wp2_with (refine wpList_store33 rfl _ _ rfl g8 rfl 0 nilV (.slice la ln lc) nilV rfl 0 nilV nilV nilV (by exact HB8.out) rfl rfl rfl ?_; refine Hid.out ?_)
        refine Lib.hid ?_
        intro w7 hb8 haw7
        replace HB8 := Lib.hid hb8
        have HA7 : Hid (Away [] w5 w7) := HA6.out.next haw7 (fun z hz => .inr (by simp at hz; rw [hz]; exact HG8.out))
        clear hb8 haw7 HA6
        have HG68 : Hid (g6 ≠ g8) := by have h1 := lt_of_block HB6.out; have h2 := HG8.out; show _ ≠ _; omega
        replace HB4 := Lib.hid (HB4.out.on HA7.out)
        replace HB6 : Hid (BoxT w7 g6 0 nilV nilV nilV) := HA7.out.keep (by simp) HB6.out
        replace HP5 := Lib.hid (HP5.out.on HA7.out)
        replace HGL := Lib.hid (HGL.out.on HA7.out)
        replace HT := Lib.hid (HT.out.on HA7.out)
        replace HCU := Lib.hid (HCU.out.on HA7.out)
        replace HAF := Lib.hid (HAF.out.trans (HA7.out.mono (by simp)))
        have K21 := Lib.hid (isWhole_c p po pd w7 HAD.out)
        go_wp2_with (refine wpList_load28 rfl _ rfl _ rfl p _ _ (by exact HB4.out) HAD.out ?_)
        refine K21.out.mono ?_
        rintro E w8 ⟨rfl, haw8⟩
        replace HB4 := Lib.hid (HB4.out.on haw8)
        replace HB6 : Hid (BoxT w8 g6 0 nilV nilV nilV) := haw8.keep (by simp) HB6.out
        replace HB8 : Hid (BoxT w8 g8 0 nilV (.slice la ln lc) nilV) := haw8.keep (by simp) HB8.out
        replace HP5 := Lib.hid (HP5.out.on haw8)
        replace HGL := Lib.hid (HGL.out.on haw8)
        replace HT := Lib.hid (HT.out.on haw8)
        replace HCU := Lib.hid (HCU.out.on haw8)
        replace HAF := Lib.hid (HAF.out.trans (haw8.mono (by simp)))
        have HS58a : Hid (w5.heap.size ≤ w8.heap.size) := Nat.le_trans HA7.out.size haw8.size
        clear haw8 K21 HA7
        have HS8 : Hid (w.heap.size ≤ w8.heap.size) := HAF.out.size
        have HS58 : Hid (w5.heap.size ≤ w8.heap.size) := HS58a.out
        have HG8T : Hid (g8 < w8.heap.size) := lt_of_block HB8.out
        have HG6L : Hid (g6 < w8.heap.size) := lt_of_block HB6.out
        obtain ⟨iw, hiw⟩ : ∃ z, z = isWhP p := ⟨_, rfl⟩
        rw [← hiw]
        have HIW := Lib.hid hiw
        clear hiw
        cases iw with
        | true =>
          have K22 := Lib.hid (dgm_c p po pd w8 HP5.out)
          go_wp2_with (refine wpList_load28 rfl _ rfl _ rfl p _ _ (by exact HB4.out) HAD.out ?_)
          refine K22.out.mono ?_
          rintro E w9 ⟨qo, qd, rfl, hmi, haw9⟩
          have HDW : Hid (Wf (dgP p)) := dg_wf HI.out.pkt.wf
          have HMI := Lib.hid hmi
          have HO1 := Lib.hid hmi.o.one
          have HD1 := Lib.hid hmi.d.one
          replace HB6 : Hid (BoxT w9 g6 0 nilV nilV nilV) := haw9.keep (by simp) HB6.out
          replace HB8 : Hid (BoxT w9 g8 0 nilV (.slice la ln lc) nilV) := haw9.keep (by simp) HB8.out
          replace HT := Lib.hid (HT.out.on haw9)
          replace HCU := Lib.hid (HCU.out.on haw9)
          replace HAF := Lib.hid (HAF.out.trans (haw9.mono (by simp)))
          have HS89' : Hid (w8.heap.size ≤ w9.heap.size) := haw9.size
          clear hmi haw9 K22 HB4
          obtain ⟨dq, hdq⟩ : ∃ z, z = dgP p := ⟨_, rfl⟩
          rw [← hdq] at HDW HMI ⊢
          have HDQ := Lib.hid hdq
          clear hdq
          go_wp2_with (refine wpList_build28 rfl _ rfl dq qo qd rfl HDW.out.ad ?_; refine Hid.out ?_)
          refine Lib.hid ?_
          intro gq w10 hgq hbq haw10
          have HLM : Hid (∀ k, qo.ownBlock = some k ∨ qd.ownBlock = some k → k < w9.heap.size) := fun k hk => (HMI.out.lto k hk).1
          have HS9 : Hid (w.heap.size ≤ w9.heap.size) := HAF.out.size
          have HS89 : Hid (w8.heap.size ≤ w9.heap.size) := HS89'.out
          have HCW : Hid (Cuts w10 w8.heap.size (.slice (some ⟨gq, 0, none⟩) 1 1) [⟨dq, qo, qd⟩]) := Cuts.one hbq HDW.out (HMI.out.on haw10) (Nat.le_trans HS89.out hgq) (fun k hk e => by have h1 := HLM.out k hk; omega)
          have HW1 : Hid (∀ k, (Value.slice (some ⟨gq, 0, none⟩) 1 1).ownBlock = some k → g6 ≠ k ∧ g8 ≠ k) := fun k hk => by
            simp [Value.ownBlock] at hk; subst hk
            have h1 := lt_of_block HB6.out
            have h2 := lt_of_block HB8.out
            exact ⟨by omega, by omega⟩
          replace HB6 : Hid (BoxT w10 g6 0 nilV nilV nilV) := haw10.keep (by simp) HB6.out
          replace HB8 : Hid (BoxT w10 g8 0 nilV (.slice la ln lc) nilV) := haw10.keep (by simp) HB8.out
          replace HT := Lib.hid (HT.out.on haw10)
          replace HCU := Lib.hid (HCU.out.on haw10)
          replace HAF := Lib.hid (HAF.out.trans (haw10.mono (by simp)))
          clear hbq haw10 hgq
          have c1 : w10.cell? ⟨g8, 1, none⟩ = some (.slice none 0 0) := cell_of_block HB8.out 1
          have f1 : w10.frozen? ⟨g8, 1, none⟩ = false := free_of_block HB8.out 1
          go_upto_region 9 with fail
          have HA11 := away_one' w10 g8 1 (.slice (some ⟨gq, 0, none⟩) 1 1)
          have HB11 := HB8.out.whole (.slice (some ⟨gq, 0, none⟩) 1 1)
          obtain ⟨w11, hw11⟩ : ∃ z, z = w10.setCell ⟨g8, 1, none⟩ (.slice (some ⟨gq, 0, none⟩) 1 1) := ⟨_, rfl⟩
          rw [← hw11] at HA11 HB11 ⊢
          have HG8L : Hid (g8 < w8.heap.size) := HG8T.out
          have HG68T : Hid (g6 < w8.heap.size) := HG6L.out
          replace HCW := Lib.hid (HCW.out.away HA11 (fun z hz => by simp at hz; rw [hz]; exact HG8L.out))
          replace HCU := Lib.hid (HCU.out.away3 HA11 HC1.out HC2.out (fun z hz => by simp at hz; rw [hz]; exact .inr HG8.out))
          replace HT := Lib.hid (HT.out.away HA11 (fun z hz hm => by simp at hm; have h1 := HLT.out z (HFT.out z hz); have h2 := HG8.out; have h3 := HS5.out; omega))
          replace HB6 : Hid (BoxT w11 g6 0 nilV nilV nilV) := HA11.keep (by simpa using HG68.out) HB6.out
          replace HB8 := Lib.hid HB11
          replace HAF := Lib.hid (HAF.out.next HA11 (fun z hz => .inr (by simp at hz; rw [hz]; exact Nat.le_trans HS5.out HG8.out)))
          have HGK : Hid (K.LstK w11 nilV []) := K.LstK.nil _
          have HNK : Hid (New w8.heap.size nilV) := New.nil _
          have HFX : Hid (∀ z ∈ fpT gt mb ov1 csL, z ∈ fpT gt mb ov cs ∨ w8.heap.size ≤ z) := fun z hz => .inl (HFT.out z hz)
          have HRES : Hid (Res q now (cs.dropWhile (lateB q now)) p 0 ([(⟨dq, qo, qd⟩ : X)].map X.p) [] csL) := .inl ⟨HIW.out.symm, rfl, by rw [← HDQ.out]; rfl, rfl, HCL.out⟩
          clear HA11 HB11 hw11 c1 f1
          go_wp2_with (first | (refine wpList_load33 rfl _ rfl g8 rfl 0 (.slice (some ⟨gq, 0, none⟩) 1 1) (.slice la ln lc) nilV (by exact HB8.out) ?_) | (refine wpList_store33 rfl _ _ rfl g6 rfl 0 (.slice (some ⟨gq, 0, none⟩) 1 1) (.slice la ln lc) nilV rfl 0 nilV nilV nilV (by exact HB6.out) rfl rfl rfl ?_; refine Hid.out ?_))
          refine Lib.hid ?_
          intro wz hbz hawz
          have HBZ := Lib.hid hbz
          have HAZ := Lib.hid hawz
          clear hbz hawz
          go_wp2_with fail
          have z1 := HG6T.out
          have z2 := HG68T.out
          have z3 := HG6.out
          exact bodyPost_ret (result33t rfl _ _ _ _ _ _ _ _ rfl rfl HBZ.out) rfl (.inr ⟨⟨HRT.out, HCK.out.1, HCK.out.2⟩, 0, (.slice (some ⟨gq, 0, none⟩) 1 1), .slice la ln lc, nilV, ov1, [⟨dq, qo, qd⟩], ys, [], csL, rfl, (HCW.out.away HAZ.out (fun z hz => by simp at hz; omega)).mono HS8.out, (HCU.out.away HAZ.out (fun z hz => by simp at hz; omega)).mono HSZ.out, HGK.out.away HAZ.out (fun z hz hm => by simp at hm; have h1 := HNK.out z hz; omega), HNK.out.mono HS8.out, HYM.out, HT.out.away HAZ.out (fun z hz hm => by simp at hm; rcases HFX.out z hz with h1 | h1; (have h2 := HLT.out z h1; omega); omega), HRES.out, fun z hz => (HFX.out z hz).imp id (fun h1 => Nat.le_trans HS8.out h1), HAF.out.next HAZ.out (fun z hz => .inr (by simp at hz; omega))⟩)
        | false =>
          have HFAR : Hid (g8 ∉ fpT gt mb ov1 csL) := fun hm => by have h1 := HLT.out g8 (HFT.out g8 hm); have h2 := HG8.out; have h3 := HS5.out; omega
          have HTI : Hid (TakeIn w8 gt mb ov1 q now csL p po pd g8 (.slice la ln lc)) := by
            refine ⟨HT.out, HGL.out, HP5.out, HB8.out, HFAR.out, ⟨fun e z hz hm => ?_, fun e z hz hm => ?_⟩, fun hm => HI.out.pos (HFT.out 0 hm)⟩
            · have h1 := HI.out.pkt.o.old e z hz
              rcases List.mem_cons.1 hm with h2 | h2
              · have h3 := HG8.out; have h4 := HS5.out; omega
              · exact HI.out.outs.o e z hz (HFT.out z h2)
            · have h1 := HI.out.pkt.d.old e z hz
              rcases List.mem_cons.1 hm with h2 | h2
              · have h3 := HG8.out; have h4 := HS5.out; omega
              · exact HI.out.outs.d e z hz (HFT.out z h2)
          have HG68T : Hid (g6 < w8.heap.size) := HG6L.out
          rcases Classical.em (∃ (i : Nat) (c : Cel), csL[i]? = some c ∧ kyB p c.s.k = true) with ⟨i, c, hc, hky⟩ | hno
          · have HC := Lib.hid hc
            have HKY := Lib.hid hky
            have K23 := Lib.hid (take_old HTI.out hc hky HI.out.quo)
            clear hc hky
            go_wp2_with (refine wpList_load28 rfl _ rfl _ rfl p _ _ (by exact HB4.out) HAD.out ?_)
            refine K23.out.mono ?_
            rintro E w9 ⟨rfl, fp1, fp2, wv, gv, ov', xs, hfn, hbox, hcw, hxm, hgk, hnk, htab, hob', haw9⟩
            have HCM := Lib.hid (List.mem_of_getElem? HC.out)
            have HS83 : Hid (w8.heap.size ≤ w8.heap.size) := Nat.le_refl _
            replace HB6 : Hid (BoxT w9 g6 0 nilV nilV nilV) := haw9.keep (fun hm => by
              rcases List.mem_cons.1 hm with h1 | h1
              · exact HG68.out h1
              · have h2 := HLT.out g6 (HFT.out g6 h1); have h3 := HG6.out; omega) HB6.out
            replace HCU := Lib.hid (HCU.out.away3 haw9 HC1.out HC2.out (fun z hz => by
              rcases List.mem_cons.1 hz with h1 | h1
              · rw [h1]; exact .inr HG8.out
              · have h2 := HLT.out z (HFT.out z h1); have h3 := HSZ.out; exact .inl (by omega)))
            replace HAF := Lib.hid (HAF.out.next haw9 (fun z hz => by
              rcases List.mem_cons.1 hz with h1 | h1
              · rw [h1]; exact .inr (Nat.le_trans HS5.out HG8.out)
              · exact .inl (HFT.out z h1)))
            clear haw9 K23 HB4
            obtain ⟨wa, wn, wc', hwv⟩ := lstp_shp hcw.lst
            obtain ⟨ga, gn, gc, hgv⟩ := lstk_shp hgk
            subst hwv
            subst hgv
            obtain ⟨tk, htk⟩ : ∃ z, z = takeC q csL i c p fp1 fp2 := ⟨_, rfl⟩
            rw [← htk] at hbox hxm hgk htab
            have HFX : Hid (∀ z ∈ fpT gt mb ov' tk.cs, z ∈ fpT gt mb ov cs ∨ w8.heap.size ≤ z) := fun z hz => by
              rcases mem_fpT.1 hz with e | e | e | ⟨d, hd, e⟩
              · exact .inl (mem_fpT.2 (.inl e))
              · exact .inl (mem_fpT.2 (.inr (.inl e)))
              · rw [hob'] at e
                exact .inl (HFT.out z (mem_fpT.2 (.inr (.inr (.inl e)))))
              · rw [htk] at hd
                rcases takeC_mem hd with h1 | h1 | h1
                · exact .inl (HFT.out z (mem_fpT.2 (.inr (.inr (.inr ⟨d, h1, e⟩)))))
                · rw [h1] at e
                  rcases hfn.1 z e with h2 | h2
                  · exact .inl (HFT.out z (mem_fpT.2 (.inr (.inr (.inr ⟨c, HCM.out, h2⟩)))))
                  · exact .inr (Nat.le_trans HS83.out h2)
                · rw [h1] at e
                  rcases hfn.2 z e with h2 | h2
                  · exact .inl (HFT.out z (mem_fpT.2 (.inr (.inr (.inr ⟨c, HCM.out, h2⟩)))))
                  · exact .inr (Nat.le_trans HS83.out h2)
            have HRES : Hid (Res q now (cs.dropWhile (lateB q now)) p tk.n (xs.map X.p) tk.gone tk.cs) := .inr ⟨HIW.out.symm, csL, i, c, fp1, fp2, .inl ⟨HCL.out, by rw [← HCL.out]; exact HC.out, HKY.out⟩, by rw [← htk, hxm]⟩
            have HCW : Hid (Cuts w9 w8.heap.size (.slice wa wn wc') xs) := hcw.mono HS83.out
            have HGK := Lib.hid hgk
            have HNK : Hid (New w8.heap.size (.slice ga gn gc)) := hnk.mono HS83.out
            replace HB8 := Lib.hid hbox
            replace HT := Lib.hid htab
            clear hcw hgk hnk hbox htab hxm hob' hfn htk
            go_wp2_with (first | (refine wpList_load33 rfl _ rfl g8 rfl tk.n (.slice wa wn wc') (.slice la ln lc) (.slice ga gn gc) (by exact HB8.out) ?_) | (refine wpList_store33 rfl _ _ rfl g6 rfl tk.n (.slice wa wn wc') (.slice la ln lc) (.slice ga gn gc) rfl 0 nilV nilV nilV (by exact HB6.out) rfl rfl rfl ?_; refine Hid.out ?_))
            refine Lib.hid ?_
            intro wz hbz hawz
            have HBZ := Lib.hid hbz
            have HAZ := Lib.hid hawz
            clear hbz hawz
            go_wp2_with fail
            have z1 := HG6T.out
            have z2 := HG68T.out
            have z3 := HG6.out
            exact bodyPost_ret (result33t rfl _ _ _ _ _ _ _ _ rfl rfl HBZ.out) rfl (.inr ⟨⟨HRT.out, HCK.out.1, HCK.out.2⟩, tk.n, .slice wa wn wc', .slice la ln lc, .slice ga gn gc, ov', xs, ys, tk.gone, tk.cs, rfl, (HCW.out.away HAZ.out (fun z hz => by simp at hz; omega)).mono HS8.out, (HCU.out.away HAZ.out (fun z hz => by simp at hz; omega)).mono HSZ.out, HGK.out.away HAZ.out (fun z hz hm => by simp at hm; have h1 := HNK.out z hz; omega), HNK.out.mono HS8.out, HYM.out, HT.out.away HAZ.out (fun z hz hm => by simp at hm; rcases HFX.out z hz with h1 | h1; (have h2 := HLT.out z h1; omega); omega), HRES.out, fun z hz => (HFX.out z hz).imp id (fun h1 => Nat.le_trans HS8.out h1), HAF.out.next HAZ.out (fun z hz => .inr (by simp at hz; omega))⟩)
          · have HNO : Hid (∀ d ∈ csL, kyB p d.s.k = false) := fun d hd => by
              rw [Bool.eq_false_iff]
              intro hk
              obtain ⟨i, hi⟩ := List.mem_iff_getElem?.1 hd
              exact hno ⟨i, d, hi, hk⟩
            have K23 := Lib.hid (take_new HTI.out HNO.out HI.out.quo HLL.out (fun E w' => ∃ w3 g fp ov2, Tab w3 gt mb ov2 q now (csL ++ [⟨newS p now, g, fp⟩]) ∧ (∀ z ∈ fp, w8.heap.size ≤ z) ∧ (∀ z, ov2.ownBlock = some z → ov1.ownBlock = some z ∨ w8.heap.size ≤ z) ∧ Away (gt :: mb :: ov1.ownBlock.toList) w8 w3 ∧ TakeOut w3 gt mb ov2 q now (csL ++ [⟨newS p now, g, fp⟩]) csL.length ⟨newS p now, g, fp⟩ p g8 (.slice la ln lc) E w') (fun w3 g fp ov2 h1 h2 h3 h4 E w' h5 => ⟨w3, g, fp, ov2, h1, h2, h3, h4, h5⟩))
            clear hno
            go_wp2_with (refine wpList_load28 rfl _ rfl _ rfl p _ _ (by exact HB4.out) HAD.out ?_)
            refine K23.out.mono ?_
            rintro E w9 ⟨wn3, g, fp, ov2, htab3, hfp, hov, haw3, rfl, fp1, fp2, wv, gv, ov', xs, hfn, hbox, hcw, hxm, hgk, hnk, htab, hob', haw9⟩
            have HS83 : Hid (w8.heap.size ≤ wn3.heap.size) := haw3.size
            obtain ⟨c, hce⟩ : ∃ z, z = (⟨newS p now, g, fp⟩ : Cel) := ⟨_, rfl⟩
            obtain ⟨i, hie⟩ : ∃ z, z = csL.length := ⟨_, rfl⟩
            obtain ⟨cs1, hc1⟩ : ∃ z, z = csL ++ [(⟨newS p now, g, fp⟩ : Cel)] := ⟨_, rfl⟩
            have HN2 : Hid (∀ z ∈ fpT gt mb ov2 cs1, z ∈ fpT gt mb ov cs ∨ w8.heap.size ≤ z) := fun z hz => by
              rw [hc1] at hz
              rcases mem_fpT.1 hz with e | e | e | ⟨d, hd, e⟩
              · exact .inl (mem_fpT.2 (.inl e))
              · exact .inl (mem_fpT.2 (.inr (.inl e)))
              · rcases hov z e with h1 | h1
                · exact .inl (HFT.out z (mem_fpT.2 (.inr (.inr (.inl h1)))))
                · exact .inr h1
              · rcases List.mem_append.1 hd with hd | hd
                · exact .inl (HFT.out z (mem_fpT.2 (.inr (.inr (.inr ⟨d, hd, e⟩)))))
                · simp at hd; subst hd; exact .inr (hfp z e)
            have HCM : Hid (c ∈ cs1) := by rw [hc1, hce]; exact List.mem_append.2 (.inr (by simp))
            have HNR : Hid ((∀ d ∈ cs.dropWhile (lateB q now), kyB p d.s.k = false) ∧ ∃ g fp, c = ⟨newS p now, g, fp⟩ ∧ cs1 = cs.dropWhile (lateB q now) ++ [c] ∧ i = (cs.dropWhile (lateB q now)).length) := by
              rw [← HCL.out]
              exact ⟨HNO.out, g, fp, hce, by rw [hc1, hce], hie⟩
            rw [← hce, ← hie] at hbox hxm hgk htab
            rw [← hce] at hfn
            rw [← hc1] at haw9
            have hc1' : csL ++ [c] = cs1 := by rw [hc1, hce]
            rw [hc1'] at hbox hxm hgk htab
            have HS1 : Hid (∀ z ∈ gt :: mb :: ov1.ownBlock.toList, z ∈ fpT gt mb ov cs) := fun z hz => by
              simp only [List.mem_cons, Option.mem_toList] at hz
              exact HFT.out z (mem_fpT.2 (hz.imp id (Or.imp id Or.inl)))
            have HB63 : Hid (BoxT wn3 g6 0 nilV nilV nilV) := haw3.keep (fun hm => by have h2 := HLT.out g6 (HS1.out g6 hm); have h3 := HG6.out; omega) HB6.out
            replace HB6 : Hid (BoxT w9 g6 0 nilV nilV nilV) := haw9.keep (fun hm => by
              rcases List.mem_cons.1 hm with h1 | h1
              · exact HG68.out h1
              · have h4 := HG68T.out
                rcases HN2.out g6 h1 with h2 | h2
                · have h2 := HLT.out g6 h2; have h3 := HG6.out; omega
                · omega) HB63.out
            replace HCU := Lib.hid (HCU.out.away haw3 (fun z hz => by have h2 := HLT.out z (HS1.out z hz); have h3 := HSZ.out; omega))
            replace HCU := Lib.hid (HCU.out.away3 haw9 HC1.out HC2.out (fun z hz => by
              rcases List.mem_cons.1 hz with h1 | h1
              · rw [h1]; exact .inr HG8.out
              · rcases HN2.out z h1 with h2 | h2
                · have h2 := HLT.out z h2; have h3 := HSZ.out; exact .inl (by omega)
                · have h3 := HS58.out; exact .inr (by omega)))
            replace HAF := Lib.hid (HAF.out.trans (haw3.mono HS1.out))
            replace HAF := Lib.hid (HAF.out.next haw9 (fun z hz => by
              rcases List.mem_cons.1 hz with h1 | h1
              · rw [h1]; exact .inr (Nat.le_trans HS5.out HG8.out)
              · exact (HN2.out z h1).imp id (fun h2 => Nat.le_trans HS8.out h2)))
            clear haw9 haw3 htab3 hov hfp K23 HB4 HB63 hce hie hc1 hc1'
            obtain ⟨wa, wn, wc', hwv⟩ := lstp_shp hcw.lst
            obtain ⟨ga, gn, gc, hgv⟩ := lstk_shp hgk
            subst hwv
            subst hgv
            obtain ⟨tk, htk⟩ : ∃ z, z = takeC q cs1 i c p fp1 fp2 := ⟨_, rfl⟩
            rw [← htk] at hbox hxm hgk htab
            have HFX : Hid (∀ z ∈ fpT gt mb ov' tk.cs, z ∈ fpT gt mb ov cs ∨ w8.heap.size ≤ z) := fun z hz => by
              rcases mem_fpT.1 hz with e | e | e | ⟨d, hd, e⟩
              · exact .inl (mem_fpT.2 (.inl e))
              · exact .inl (mem_fpT.2 (.inr (.inl e)))
              · rw [hob'] at e
                exact HN2.out z (mem_fpT.2 (.inr (.inr (.inl e))))
              · rw [htk] at hd
                rcases takeC_mem hd with h1 | h1 | h1
                · exact HN2.out z (mem_fpT.2 (.inr (.inr (.inr ⟨d, h1, e⟩))))
                · rw [h1] at e
                  rcases hfn.1 z e with h2 | h2
                  · exact HN2.out z (mem_fpT.2 (.inr (.inr (.inr ⟨c, HCM.out, h2⟩))))
                  · exact .inr (Nat.le_trans HS83.out h2)
                · rw [h1] at e
                  rcases hfn.2 z e with h2 | h2
                  · exact HN2.out z (mem_fpT.2 (.inr (.inr (.inr ⟨c, HCM.out, h2⟩))))
                  · exact .inr (Nat.le_trans HS83.out h2)
            have HRES : Hid (Res q now (cs.dropWhile (lateB q now)) p tk.n (xs.map X.p) tk.gone tk.cs) := .inr ⟨HIW.out.symm, cs1, i, c, fp1, fp2, .inr HNR.out, by rw [← htk, hxm]⟩
            have HCW : Hid (Cuts w9 w8.heap.size (.slice wa wn wc') xs) := hcw.mono HS83.out
            have HGK := Lib.hid hgk
            have HNK : Hid (New w8.heap.size (.slice ga gn gc)) := hnk.mono HS83.out
            replace HB8 := Lib.hid hbox
            replace HT := Lib.hid htab
            clear hcw hgk hnk hbox htab hxm hob' hfn htk
            go_wp2_with (first | (refine wpList_load33 rfl _ rfl g8 rfl tk.n (.slice wa wn wc') (.slice la ln lc) (.slice ga gn gc) (by exact HB8.out) ?_) | (refine wpList_store33 rfl _ _ rfl g6 rfl tk.n (.slice wa wn wc') (.slice la ln lc) (.slice ga gn gc) rfl 0 nilV nilV nilV (by exact HB6.out) rfl rfl rfl ?_; refine Hid.out ?_))
            refine Lib.hid ?_
            intro wz hbz hawz
            have HBZ := Lib.hid hbz
            have HAZ := Lib.hid hawz
            clear hbz hawz
            go_wp2_with fail
            have z1 := HG6T.out
            have z2 := HG68T.out
            have z3 := HG6.out
            exact bodyPost_ret (result33t rfl _ _ _ _ _ _ _ _ rfl rfl HBZ.out) rfl (.inr ⟨⟨HRT.out, HCK.out.1, HCK.out.2⟩, tk.n, .slice wa wn wc', .slice la ln lc, .slice ga gn gc, ov', xs, ys, tk.gone, tk.cs, rfl, (HCW.out.away HAZ.out (fun z hz => by simp at hz; omega)).mono HS8.out, (HCU.out.away HAZ.out (fun z hz => by simp at hz; omega)).mono HSZ.out, HGK.out.away HAZ.out (fun z hz hm => by simp at hm; have h1 := HNK.out z hz; omega), HNK.out.mono HS8.out, HYM.out, HT.out.away HAZ.out (fun z hz hm => by simp at hm; rcases HFX.out z hz with h1 | h1; (have h2 := HLT.out z h1; omega); omega), HRES.out, fun z hz => (HFX.out z hz).imp id (fun h1 => Nat.le_trans HS8.out h1), HAF.out.next HAZ.out (fun z hz => .inr (by simp at hz; omega))⟩)
    | false =>
      have HRF : Hid (rgt2 p = false) := by show _ = _; rw [HR.out]; rfl
      go_wp2_with (first | (refine wpList_b33 rfl rfl ?_) | (refine wpList_store33 rfl _ _ rfl g6 rfl 0 nilV nilV nilV rfl 0 nilV nilV nilV (by exact HB6.out) rfl rfl rfl ?_; refine Hid.out ?_))
      refine Lib.hid ?_
      intro wz hbz hawz
      have HBZ := Lib.hid hbz
      have HAZ : Hid (Away [] w wz) := HA.out.next hawz (fun z hz => .inr (by simp at hz; rw [hz]; exact HG6.out))
      clear hbz hawz
      go_wp2_with fail
      exact bodyPost_ret (result33t rfl _ _ _ _ _ _ _ _ rfl rfl HBZ.out) rfl (.inl ⟨.inl HRF.out, rfl, HAZ.out⟩)
end
def KeysOut (w : World) (ks : List Pk) (E : Ending) (w' : World) : Prop := ∃ v, E = .returned v ∧ K.LstK w' v ks ∧ New w.heap.size v ∧ Away [] w w'
theorem wpList_appKL {ops : Array Oper} {rest : List Oper} {o : Oper} {a : Act} {w : World} {Q : Exit → Act → World → Prop} (hgd : o.guard = none) (s t : Operand)
    (ho : o.op = .call { callee := .builtin .append, args := #[s, t], argTypes := #[31, 31] }) (v : Value) (g cap : Nat) (xs : List Pk) (hs : a.eval s = v) (hown : K.LstK w v []) (ht : a.eval t = .slice (some ⟨g, 0, none⟩) xs.length cap) (h0 : K.LstK w (.slice (some ⟨g, 0, none⟩) xs.length cap) xs) (hA : ∀ x ∈ xs, Ad x) (hk : xs.length < 100000)
    (h : ∀ v' w', K.LstK w' v' xs → w.grownBy w' v.ownBlock → Moved w v v' → wpList Tryz.prog ops Q rest (a.put o.dst v') w') : wpList Tryz.prog ops Q (o :: rest) a w :=
  wpList_plain hgd fun KK hK => by
    obtain ⟨v', w', hrun, r1, r2, r3⟩ := K.run_appL o.type w v g cap xs hown h0 hA hk
    unfold Oper.wp
    simp [execOp, ho, resolve, invoke, builtin, hs, ht, hrun, Result.andThen]
    exact hK _ _ (h v' w' r1 r2 r3)
theorem eqnilK_some (a : Addr) (n c : Nat) (w : World) : (binOp .eql 31 (.slice (some a) n c) (.slice none 0 0)).run Tryz.prog w = .ok (.bool false) w := by kernel_rfl
theorem eqnilK_none (n c : Nat) (w : World) : (binOp .eql 31 (.slice none n c) (.slice none 0 0)).run Tryz.prog w = .ok (.bool true) w := by kernel_rfl
set_option maxHeartbeats 4000000 in
theorem kclone_c (w : World) (v : Value) (ks : List Pk) (h : K.LstK w v ks) (hA : ∀ x ∈ ks, Ad x) (hl : ks.length ≤ 1000) : Calls Tryz.prog 35 #[v] w (KeysOut w ks) := by
  rcases h.shp with ⟨rfl, rfl⟩ | ⟨g, cap, rfl⟩
  · have he := eqnilK_none
    go_enter Tryz.func35, Tryz.ntmps35
    go_wp2_with fail
    go_ret
    exact ⟨_, rfl, K.LstK.nil _, New.nil _, Away.refl _ _⟩
  · have HL := Lib.hid h
    have HA := Lib.hid hA
    have he := eqnilK_some ⟨g, 0, none⟩ ks.length cap
    clear h hA
    go_enter Tryz.func35, Tryz.ntmps35
    go_wp2_with (at_builtin; refine wpList_appKL rfl _ _ rfl _ g cap ks rfl (by exact (show K.Blk (w.alloc (.cells #[] 55)) w.heap.size 0 [] from ⟨block_new _ _, rfl⟩).lst (by simp) (by unfold maxLen; omega) rfl (Nat.le_refl _) rfl) rfl (by exact HL.out.on ((Away.refl [] w).alloc _)) HA.out (by omega) ?_)
    intro v' w2 hown2 hgr hmov
    go_wp2_with fail
    go_ret
    refine ⟨_, rfl, hown2, fun k hk => ?_, ?_⟩
    · rcases hmov k hk with h1 | h1
      · simp [Value.ownBlock] at h1; omega
      · simp at h1; omega
    · exact ((Away.refl _ _).alloc _).grown hgr (fun k hk => .inr (by simp [Value.ownBlock] at hk; omega))
set_option maxHeartbeats 4000000 in
theorem keys_c {w : World} {gt mb : Nat} {ov : Value} {q : Qo} {now : Int} {cs : List Cel} (h : Tab w gt mb ov q now cs) : Calls Tryz.prog 14 #[.pointer (some ⟨gt, 0, none⟩)] w (KeysOut w (cs.map (·.s.k))) := by
  have K24 := Lib.hid (kclone_c w ov (cs.map (·.s.k)) h.ord h.keys (by rw [List.length_map]; exact h.len))
  obtain ⟨oa, cap, rfl, -⟩ := h.shape
  obtain ⟨n, hn⟩ : ∃ n, n = cs.length := ⟨_, rfl⟩
  have c6 : w.cell? ⟨gt, 6, none⟩ = some (.slice oa n cap) := by rw [hn]; exact h.cell 6
  rw [← hn] at K24
  obtain ⟨ks, hks⟩ : ∃ z, z = cs.map (·.s.k) := ⟨_, rfl⟩
  rw [← hks] at K24 ⊢
  clear h hn hks
  go_enter Tryz.func14, Tryz.ntmps14
  go_wp2_with fail
  refine K24.out.mono ?_
  rintro E w2 ⟨v, rfl, hl, hn, haw⟩
  have HO : Hid (KeysOut w ks (.returned v) w2) := ⟨v, rfl, hl, hn, haw⟩
  clear hl hn haw K24
  go_wp2_with fail
  go_ret
  exact HO.out
theorem quiet_neK {o : Oper} {a : Act} {C : World → Prop} {KK : Act → Prop} (x y : Operand) (ho : o.op = .binOp .neq 55 x y 55) (c1 c2 : Array Value) (hx : a.eval x = .agg c1) (hy : a.eval y = .agg c2) (b : Bool) (hq : ∀ w, (Op.equalIn 10000 55 (.agg c1) (.agg c2)).run Tryz.prog w = .ok b w) (hk : KK (a.put o.dst (.bool (!b)))) : o.quiet Tryz.prog a C KK :=
  quiet_val (.bool (!b)) (fun w => by
    have hg := guard78
    unfold execOp
    simp only [ho, hx, hy]
    simp [go_sem, hq, hg]) hk
theorem shapeK {w : World} {v : Value} {ks : List Pk} (h : K.LstK w v ks) (hA : ∀ x ∈ ks, Ad x) : ∃ oa cap, v = .slice oa ks.length cap ∧ ∀ (i : Nat) (x : Pk), ks[i]? = some x → ∃ ob, oa = some ⟨ob, 0, none⟩ ∧ w.rangeAt ob (i * 37) (listK x) := by
  rcases h.shp with ⟨h1, rfl⟩ | ⟨g, cap, rfl⟩
  · exact ⟨none, 0, h1, fun i x hx => by simp at hx⟩
  · refine ⟨some ⟨g, 0, none⟩, cap, rfl, fun i x hx => ⟨g, rfl, ?_⟩⟩
    have h3 := K.LstK.at h hA hx
    rw [Nat.zero_add] at h3
    exact h3
set_option maxHeartbeats 8000000 in
theorem sameKeys_yes {w : World} {v1 v2 : Value} {k1 k2 : List Pk} (h1 : K.LstK w v1 k1) (h2 : K.LstK w v2 k2) (hA1 : ∀ x ∈ k1, Ad x) (hA2 : ∀ x ∈ k2, Ad x) (hl : k1.length = k2.length) (hn : k1.length ≤ 1000) (hk : ∀ (i : Nat) (x y : Pk), k1[i]? = some x → k2[i]? = some y → kyB x y = true) :
    Calls Tryz.prog 13 #[v1, v2] w fun E w' => E = .returned (.bool true) ∧ Away [] w w' := by
  obtain ⟨o1, c1, rfl, hs1⟩ := shapeK h1 hA1
  obtain ⟨o2, c2, rfl, hs2⟩ := shapeK h2 hA2
  have HS1 := Lib.hid hs1
  have HS2 := Lib.hid hs2
  have HA1 := Lib.hid hA1
  have HA2 := Lib.hid hA2
  have HK := Lib.hid hk
  rw [← hl]
  obtain ⟨n, hnn⟩ : ∃ n, n = k1.length := ⟨_, rfl⟩
  rw [← hnn] at hl hn ⊢
  have HN := Lib.hid hnn
  have HL := Lib.hid hl
  clear h1 h2 hA1 hA2 hs1 hs2 hk hnn hl
  go_enter Tryz.func13, Tryz.ntmps13
  go_wp2_with fail
  go_loopw [5] (fun i wr => ∃ k : Nat, k ≤ n ∧ i = .int .i64 (k : Int) ∧ Away [] w wr) (fun i _ => n - (intOf i).toNat)
  case atStart => exact ⟨0, by omega, rfl, Away.refl _ _⟩
  case round =>
    obtain ⟨k, hk, rfl, haw⟩ := hrel
    have HAW := Lib.hid haw
    clear haw
    by_cases hlt : k < n
    · have j1 : (k : Int) < (n : Int) := by omega
      have j2 : 0 ≤ (k : Int) := by omega
      have j3 : ((k : Int)).toNat = k := by omega
      obtain ⟨x, hx, hxm⟩ := get_of (show k < k1.length by rw [← HN.out]; exact hlt)
      obtain ⟨y, hy, hym⟩ := get_of (show k < k2.length by rw [← HL.out]; exact hlt)
      obtain ⟨b1, e1, hr1⟩ := HS1.out k x hx
      obtain ⟨b2, e2, hr2⟩ := HS2.out k y hy
      subst e1
      subst e2
      have HR1 := Lib.hid (range_away HAW.out (by simp) hr1)
      have HR2 := Lib.hid (range_away HAW.out (by simp) hr2)
      have HX := Lib.hid (HA1.out x hxm)
      have HY := Lib.hid (HA2.out y hym)
      have HQ : Hid (∀ w, (Op.equalIn 10000 55 (.agg (csK x)) (.agg (csK y))).run Tryz.prog w = .ok true w) := fun w => by
        have h := eq78 x y HX.out HY.out w
        rw [key_ky, HK.out k x y hx hy] at h
        exact h
      have HC : Hid (Away [] wr wr.drew) := (Away.refl _ _).drew
      clear hx hxm hy hym hr1 hr2
      go_wp2_with fail
      refine wp_region_cls (C := fun w' => Away [] wr w') (by kernel_rfl) (by kernel_rfl) HC.out ?_
      iterate 3 (go_big_quiet_want; (refine quiet_val ?_ ?_ ?_; rotate_left; (intro w; go_simp; rfl); go_simp; go_big_quiet_on))
      go_big_quiet_want; refine quiet_ld _ rfl (ad := ⟨b1, k * 37, none⟩) rfl (fun w' h => load29_run (range_away h (by simp) HR1.out) HX.out) ?_; go_simp; go_big_quiet_on
      iterate 3 (go_big_quiet_want; (refine quiet_val ?_ ?_ ?_; rotate_left; (intro w; go_simp; rfl); go_simp; go_big_quiet_on))
      go_big_quiet_want; refine quiet_ld _ rfl (ad := ⟨b2, k * 37, none⟩) rfl (fun w' h => load29_run (range_away h (by simp) HR2.out) HY.out) ?_; go_simp; go_big_quiet_on
      go_big_quiet_want; refine quiet_neK _ _ rfl (csK x) (csK y) rfl rfl true HQ.out ?_; go_simp; go_big_quiet_on
      refine wpQuiet_nil ?_
      intro V hV
      go_wp2_with fail
      go_roundw
      case rel => exact ⟨k + 1, by omega, by go_num, HAW.out.trans hV⟩
      case measure => simp [intOf]; omega
    · have j1 : ¬ ((k : Int) < (n : Int)) := by omega
      go_wp2_with fail
      go_ret
      exact ⟨rfl, HAW.out⟩
theorem wpList_ne24 {ops : Array Oper} {rest : List Oper} {o : Oper} {a : Act} {w : World} {Q : Exit → Act → World → Prop} (x y : Operand) (ho : o.op = .binOp .neq 35 x y 35)
    (c1 c2 : Array Value) (hx : a.eval x = .agg c1) (hy : a.eval y = .agg c2) (b : Bool) (hq : ∀ w, (Op.equalIn 10000 35 (.agg c1) (.agg c2)).run Tryz.prog w = .ok b w) (hw : Region.wanted o (yielded ops a.tmps) = true)
    (h : wpList Tryz.prog ops Q rest (a.put o.dst (.bool (!b))) w) : wpList Tryz.prog ops Q (o :: rest) a w :=
  BigFrame.wpList_want hw fun KK hK => by
    have hg := guard24
    have e : (execOp a.eval o).run Tryz.prog w = .ok (.value (.bool (!b))) w := by
      unfold execOp
      simp only [ho, hx, hy]
      simp [go_sem, hq, hg]
    unfold Oper.wp
    rw [e, Oper.upon_value]
    exact hK _ _ h
set_option maxHeartbeats 8000000 in
theorem samePk_yes (p : Pk) (ov dv ou du : Value) (w : World) (hp : Pkt w p ov dv) (hq : Pkt w p ou du) : Calls Tryz.prog 24 #[.agg (csP p ov dv), .agg (csP p ou du)] w fun E w' => E = .returned (.bool true) ∧ Away [] w w' := by
  have HAD := Lib.hid hp.wf.ad
  have HP := Lib.hid hp
  have HQ := Lib.hid hq
  have H24A : Hid (∀ w, (Op.equalIn 10000 35 (.agg (csA p.sv p.sb)) (.agg (csA p.sv p.sb))).run Tryz.prog w = .ok true w) := fun w => by
    have h := eq24 p.sv p.sv p.sb p.sb hp.wf.sl hp.wf.sl w
    rw [show (decide (p.sv = p.sv) && eqL p.sb p.sb) = true from by simp [eqL]] at h
    exact h
  have H24B : Hid (∀ w, (Op.equalIn 10000 35 (.agg (csA p.dv p.db)) (.agg (csA p.dv p.db))).run Tryz.prog w = .ok true w) := fun w => by
    have h := eq24 p.dv p.dv p.db p.db hp.wf.dl hp.wf.dl w
    rw [show (decide (p.dv = p.dv) && eqL p.db p.db) = true from by simp [eqL]] at h
    exact h
  obtain ⟨oa, oc, ho, o1, o2, o3⟩ := hp.o
  obtain ⟨da, dc, hd, d1, d2, d3⟩ := hp.d
  obtain ⟨pa, pc, ho', p1, p2, p3⟩ := hq.o
  obtain ⟨qa, qc, hd', q1, q2, q3⟩ := hq.d
  have KO : Hid (∀ W, Away [] w W → Calls Tryz.prog 27 #[ov, ou] W fun E w' => E = .returned (.bool true) ∧ w' = W) := fun W hW => by
    rw [ho, ho']
    exact same_yes oa pa p.o p.o _ _ oc pc W rfl rfl o2 p2 (o3.away hW (by simp)) (p3.away hW (by simp)) rfl
  have KD : Hid (∀ W, Away [] w W → Calls Tryz.prog 27 #[dv, du] W fun E w' => E = .returned (.bool true) ∧ w' = W) := fun W hW => by
    rw [hd, hd']
    exact same_yes da qa p.d p.d _ _ dc qc W rfl rfl d2 q2 (d3.away hW (by simp)) (q3.away hW (by simp)) rfl
  clear o1 o2 o3 d1 d2 d3 p1 p2 p3 q1 q2 q3 hp hq HP HQ
  obtain ⟨lo, hlo⟩ : ∃ z, z = p.o.length := ⟨_, rfl⟩
  obtain ⟨ld, hld⟩ : ∃ z, z = p.d.length := ⟨_, rfl⟩
  rw [← hlo] at ho ho'
  rw [← hld] at hd hd'
  clear hlo hld
  subst ho
  subst hd
  subst ho'
  subst hd'
  go_enter Tryz.func24, Tryz.ntmps24
  go_wp2_with (refine wpList_box28 rfl _ rfl p _ _ rfl ?_; refine Hid.out ?_)
  refine Lib.hid ?_
  intro g2 w1 hg2 hb2 haw1
  have HB2 := Lib.hid hb2
  have HA := Lib.hid haw1
  clear hb2 haw1 hg2
  go_wp2_with (refine wpList_box28 rfl _ rfl p _ _ rfl ?_; refine Hid.out ?_)
  refine Lib.hid ?_
  intro g3 w2 hg3 hb3 haw2
  have HB3 := Lib.hid hb3
  replace HB2 := Lib.hid (HB2.out.on haw2)
  replace HA := Lib.hid (HA.out.trans haw2)
  clear hb3 haw2 hg3
  obtain ⟨a1, a2, a3, a4, a5, a6, a7, a8, a9, a10, a11, a12, a13, a14⟩ := HB2.out.cells HAD.out
  obtain ⟨e1, e2, e3, e4, e5, e6, e7, e8, e9, e10, e11, e12, e13, e14⟩ := HB3.out.cells HAD.out
  go_wp2_with (first
    | (refine wpList_load24m rfl _ rfl g2 3 rfl p.sv p.sb (by exact HB2.out.srow) HAD.out.1 ?_)
    | (refine wpList_load24m rfl _ rfl g2 20 rfl p.dv p.db (by exact HB2.out.drow HAD.out) HAD.out.2 ?_)
    | (refine wpList_load24m rfl _ rfl g3 3 rfl p.sv p.sb (by exact HB3.out.srow) HAD.out.1 ?_)
    | (refine wpList_load24m rfl _ rfl g3 20 rfl p.dv p.db (by exact HB3.out.drow HAD.out) HAD.out.2 ?_)
    | (refine wpList_ne24 _ _ rfl (csA p.sv p.sb) (csA p.sv p.sb) rfl rfl true H24A.out rfl ?_)
    | (refine wpList_ne24 _ _ rfl (csA p.dv p.db) (csA p.dv p.db) rfl rfl true H24B.out rfl ?_))
  refine (KO.out w2 HA.out).mono ?_
  rintro E w3 ⟨rfl, hw3⟩
  obtain rfl := hw3.symm
  clear hw3
  go_wp2_with fail
  refine (KD.out w2 HA.out).mono ?_
  rintro E w3 ⟨rfl, hw3⟩
  obtain rfl := hw3.symm
  clear hw3
  go_wp2_with fail
  go_ret
  exact ⟨rfl, HA.out⟩
theorem add_n (g o j : Nat) : (⟨g, o, none⟩ : Addr).add j = ⟨g, o + j, none⟩ := by unfold Addr.add; split <;> simp_all
def pieceP (p : Pk) (f t : Nat) : Pk := { p with off := (f : Int), more := decide (t < p.d.length), d := (p.d.drop f).take (t - f) }
def PieceOut (w : World) (p : Pk) (po : Value) (f t : Nat) (E : Ending) (w' : World) : Prop := ∃ dv, E = .returned (.agg (csP (pieceP p f t) po dv)) ∧ Owns w' dv ((p.d.drop f).take (t - f)) ∧ New w.heap.size dv ∧ Away [] w w'
set_option maxHeartbeats 8000000 in
theorem piece_c (p : Pk) (po pd : Value) (w : World) (hp : Pkt w p po pd) (f t : Nat) (hft : f < t) (ht : t ≤ p.d.length) (hl : p.d.length ≤ 100000) : Calls Tryz.prog 25 #[.agg (csP p po pd), .int .i64 (f : Int), .int .i64 (t : Int)] w (PieceOut w p po f t) := by
  have HAD := Lib.hid hp.wf.ad
  obtain ⟨da, dc, hd, d1, d2, d3⟩ := hp.d
  have HPO := Lib.hid hp.o.one
  obtain ⟨bd, od, hda, HDR⟩ : ∃ bd od, da = some ⟨bd, od, none⟩ ∧ Hid (∀ W, Away [] w W → ∀ i : Nat, i < p.d.length → W.cell? ⟨bd, od + i, none⟩ = some (.int .u8 (p.d[i]?.getD 0))) := by
    rcases d3.2.2 with h | ⟨bd, od, h1, h2⟩
    · rw [h] at ht; simp at ht; omega
    · exact ⟨bd, od, h1, fun W hW i hi => hW.cell (by simp) (h2 i hi)⟩
  subst hda
  obtain ⟨n, hn⟩ : ∃ n, n = p.d.length := ⟨_, rfl⟩
  rw [← hn] at hd d1 ht hl HDR
  have HN := Lib.hid hn
  subst hd
  clear hp d2 d3 hn
  go_enter Tryz.func25, Tryz.ntmps25
  go_wp2_with (refine wpList_box28 rfl _ rfl p _ _ rfl ?_; refine Hid.out ?_)
  refine Lib.hid ?_
  intro g3 w1 hg3 hb3 haw1
  have HB3 := Lib.hid hb3
  have HG3 := Lib.hid hg3
  have HA := Lib.hid haw1
  clear hb3 haw1 hg3
  go_wp2_with (refine wpList_alloc28 rfl rfl ?_; refine Hid.out ?_)
  refine Lib.hid ?_
  intro g6 w2 hg6 hb6 haw2
  have HB6 := Lib.hid hb6
  have HG36 : Hid (g3 ≠ g6) := by have h1 := HB3.out.lt; show _ ≠ _; omega
  replace HB3 := Lib.hid (HB3.out.on haw2)
  have HG6 : Hid (w.heap.size ≤ g6) := Nat.le_trans HA.out.size hg6
  replace HA := Lib.hid (HA.out.trans haw2)
  clear hb6 haw2 hg6
  go_wp2_with (first
    | (refine wpList_load28 rfl _ rfl _ rfl p _ _ (by exact HB3.out) HAD.out ?_)
    | (refine wpList_new28 rfl rfl rfl _ _ rfl p po (.slice (some ⟨bd, od, none⟩) n dc) (fun g => rfl) (fun g => rfl) HAD.out HPO.out rfl ?_; refine Hid.out ?_))
  refine Lib.hid ?_
  intro g7 w3 hg7 hb7 haw3
  have HB7 := Lib.hid hb7
  have HG7 : Hid (w.heap.size ≤ g7) := Nat.le_trans HA.out.size hg7
  have HG67 : Hid (g6 ≠ g7 ∧ g3 ≠ g7) := by have h1 := HB6.out.lt; have h2 := HB3.out.lt; exact ⟨by omega, by omega⟩
  replace HB3 := Lib.hid (HB3.out.on haw3)
  replace HB6 := Lib.hid (HB6.out.on haw3)
  replace HA := Lib.hid (HA.out.trans haw3)
  clear hb7 haw3 hg7
  have a43 := (HB7.out.cells HAD.out).off
  have f43 := HB7.out.free 43
  have a41 := (HB7.out.cells HAD.out).more
  have f41 := HB7.out.free 41
  have e45 := (HB3.out.cells HAD.out).d
  have HBZ : Hid (BoxP ((w3.setCell ⟨g7, 43, none⟩ (.int .i64 (f : Int))).setCell ⟨g7, 41, none⟩ (.bool (decide (t < n)))) g7 { p with off := (f : Int), more := decide (t < n) } po (.slice (some ⟨bd, od, none⟩) n dc)) :=
    (HB7.out.put 43 _ ((csP_set HAD.out _ _).2.2.2.2.2.2.2.2.2.2.2.1 (f : Int))).put 41 (.bool (decide (t < n))) ((csP_set (p := { p with off := (f : Int) }) HAD.out _ _).2.2.2.2.2.2.2.2.2.1 (decide (t < n)))
  have hA8 : Away [g7] w3 ((w3.setCell ⟨g7, 43, none⟩ (.int .i64 (f : Int))).setCell ⟨g7, 41, none⟩ (.bool (decide (t < n)))) := (away_put (w := w3) (g := g7) 43 _).trans (away_put (g := g7) 41 _)
  go_upto_region 4 with fail
  obtain ⟨w8, hw8⟩ : ∃ z, z = (w3.setCell ⟨g7, 43, none⟩ (.int .i64 (f : Int))).setCell ⟨g7, 41, none⟩ (.bool (decide (t < n))) := ⟨_, rfl⟩
  rw [← hw8] at HBZ hA8 ⊢
  have hg7 : w.heap.size ≤ g7 := HG7.out
  have hg67 := HG67.out
  replace HB7 := HBZ
  replace HB3 := Lib.hid (HB3.out.away hA8 (by simpa using hg67.2))
  replace HB6 := Lib.hid (HB6.out.away hA8 (by simpa using hg67.1))
  replace HA : Hid (Away [] w w8) := HA.out.next hA8 (fun x hx => .inr (by simp at hx; omega))
  have HAD2 : Hid (Ad { p with off := (f : Int), more := decide (t < n) }) := HAD.out
  clear hA8 hw8 HBZ a43 f43 a41 f41 e45
  have hsl := slice_lh (some ⟨bd, od, none⟩) (some ⟨bd, od + f, none⟩) n dc f (t - f) (f : Int) (t : Int) (by rw [if_neg (by omega)]; simp [add_n])  rfl (by omega) (by omega)
  have hAl : Away [] w8 (w8.alloc (.cells #[] 5)) := (Away.refl [] w8).alloc _
  have hown : Owns (w8.alloc (.cells #[] 5)) (.slice (some ⟨w8.heap.size, 0, none⟩) 0 0) [] := World.ownsRow_lit w8 #[] 0 (Nat.zero_le _) (Nat.zero_le _) rfl
  have e45 := ((HB3.out.on hAl).cells HAD.out).d
  have HLEN : Hid (((p.d.drop f).take (t - f)).length = t - f) := by have h := HN.out; show _ = _; rw [List.length_take, List.length_drop]; omega
  have HSRC : Hid (∀ j u, (((p.d.drop f).take (t - f)).map (Value.int .u8))[j]? = some u → (w8.alloc (.cells #[] 5)).cell? ((⟨bd, od + f, none⟩ : Addr).add j) = some u) := by
    intro j u hu
    have hj : j < t - f := by
      have h := (List.getElem?_eq_some_iff.mp hu).1
      rw [List.length_map, HLEN.out] at h; exact h
    have h2 := HDR.out _ (HA.out.trans hAl) (f + j) (by omega)
    rw [List.getElem?_map, List.getElem?_take, if_pos hj, List.getElem?_drop] at hu
    have h3 : p.d[f + j]? = some (p.d[f + j]?.getD 0) := by
      have h := HN.out
      rw [List.getElem?_eq_getElem (by omega)]; rfl
    rw [h3] at hu
    simp only [Option.map_some, Option.some.injEq] at hu
    rw [← hu]
    have : (⟨bd, od + f, none⟩ : Addr).add j = ⟨bd, od + (f + j), none⟩ := by rw [add_n, Nat.add_assoc]
    rw [this]; exact h2
  have HSZ := Lib.hid HA.out.size
  go_wp2_with (at_builtin; refine wpList_app rfl _ _ rfl _ [] ((p.d.drop f).take (t - f)) rfl hown ⟨bd, od + f, none⟩ (t - f) (dc - f) rfl HLEN.out HSRC.out (by simp; omega) ?_; refine Hid.out ?_)
  refine Lib.hid ?_
  intro v' w9 hown2 hgr hblk
  have hA9 : Away [] w8 w9 := hAl.grown hgr (fun k hk => by simp [Value.ownBlock] at hk; omega)
  have HNEW : Hid (∀ k, v'.ownBlock = some k → w8.heap.size ≤ k) := fun k hk => by
    rcases hblk k hk with h | h
    · simp [Value.ownBlock] at h; omega
    · have := hAl.size; omega
  have HO := Lib.hid hown2
  obtain ⟨a9, n9, k9, rfl⟩ := hown2.shp
  clear hown2 hgr hblk hown e45 hAl HSRC
  have h37 : g7 < w8.heap.size := HB7.out.lt
  have h36 : g6 < w8.heap.size := HB6.out.lt
  replace HB7 := Lib.hid (HB7.out.on hA9)
  replace HB6 := Lib.hid (HB6.out.on hA9)
  replace HA := Lib.hid (HA.out.trans hA9)
  clear hA9
  have a45 := (HB7.out.cells HAD2.out).d
  have f45 := HB7.out.free 45
  have HBZ : Hid (BoxP (w9.setCell ⟨g7, 45, none⟩ (.slice a9 n9 k9)) g7 { p with off := (f : Int), more := decide (t < n), d := (p.d.drop f).take (t - f) } po (.slice a9 n9 k9)) :=
    HB7.out.put 45 _ ((csP_set HAD2.out _ _).2.2.2.2.2.2.2.2.2.2.2.2.2 ((p.d.drop f).take (t - f)) (.slice a9 n9 k9))
  have hA8 := away_put (w := w9) (g := g7) 45 (.slice a9 n9 k9)
  go_upto_region 5 with fail
  obtain ⟨w10, hw10⟩ : ∃ z, z = w9.setCell ⟨g7, 45, none⟩ (.slice a9 n9 k9) := ⟨_, rfl⟩
  rw [← hw10] at HBZ hA8 ⊢
  replace HB7 := HBZ
  replace HB6 := Lib.hid (HB6.out.away hA8 (by simpa using hg67.1))
  replace HA : Hid (Away [] w w10) := HA.out.next hA8 (fun x hx => .inr (by simp at hx; omega))
  replace HO := Lib.hid (HO.out.away hA8 (fun k hk => by have := HNEW.out k hk; simp; omega))
  have HAD3 : Hid (Ad { p with off := (f : Int), more := decide (t < n), d := (p.d.drop f).take (t - f) }) := HAD.out
  clear hA8 hw10 HBZ a45 f45
  go_wp2_with (first
    | (refine wpList_load28 rfl _ rfl _ rfl { p with off := (f : Int), more := decide (t < n), d := (p.d.drop f).take (t - f) } _ _ (by exact HB7.out) HAD3.out ?_)
    | (refine wpList_store28 rfl _ _ rfl _ rfl { p with off := (f : Int), more := decide (t < n), d := (p.d.drop f).take (t - f) } po (.slice a9 n9 k9) rfl zeroPk (.slice none 0 0) (.slice none 0 0) (by exact HB6.out) HAD3.out ⟨rfl, rfl⟩ HPO.out rfl ?_; refine Hid.out ?_))
  refine Lib.hid ?_
  intro w11 hb11 haw11
  have HB11 := Lib.hid hb11
  have hg6 := HG6.out
  have HA11 : Hid (Away [] w w11) := HA.out.next haw11 (fun x hx => .inr (by simp at hx; omega))
  have HO11 := Lib.hid (HO.out.away haw11 (fun k hk => by have := HNEW.out k hk; simp; omega))
  have HNW : Hid (New w.heap.size (.slice a9 n9 k9)) := fun k hk => by have := HNEW.out k hk; have := HSZ.out; omega
  clear hb11 haw11
  go_wp2_with fail
  exact bodyPost_ret (result28 rfl _ _ _ _ _ _ rfl HB11.out HAD3.out) rfl ⟨_, by unfold pieceP; rw [← HN.out], HO11.out, HNW.out, HA11.out⟩
theorem wpList_storeSa {ops : Array Oper} {rest : List Oper} {o : Oper} {a : Act} {w : World} {Q : Exit → Act → World → Prop} (hg : o.guard = none) (x y : Operand) (ho : o.op = .store 35 x y)
    (g : Nat) (hx : a.eval x = .pointer (some ⟨g, 3, none⟩)) (v : Int) (l : List Int) (hy : a.eval y = .agg (csA v l)) (hl : l.length = 16) (p : Pk) (ov dv : Value) (hb : BoxP w g p ov dv) (ha : Ad p)
    (h : ∀ w1, BoxP w1 g { p with sv := v, sb := l } ov dv → Away [g] w w1 → wpList Tryz.prog ops Q rest (a.put o.dst undef) w1) : wpList Tryz.prog ops Q (o :: rest) a w := by
  have hw : Region.wanted o (yielded ops a.tmps) = true := by simp [Region.wanted, hg]
  have hlen : (cellsA v l).length = 17 := by simp [cellsA, hl]
  refine wpList_plain hg fun K hK => ?_
  have e : ((listP p ov dv).take 3 ++ cellsA v l ++ (listP p ov dv).drop (3 + (cellsA v l).length)) = listP { p with sv := v, sb := l } ov dv := by
    rw [hlen]
    obtain ⟨v0, tos, flow, sv, sb, dv', db, proto, ttl, id, df, more, frag, off, o, d⟩ := p
    obtain ⟨h1, h2⟩ := ha
    simp only at h1 h2
    obtain ⟨b0, b1, b2, b3, b4, b5, b6, b7, b8, b9, b10, b11, b12, b13, b14, b15, rfl⟩ := list16 h1
    obtain ⟨c0, c1, c2, c3, c4, c5, c6, c7, c8, c9, c10, c11, c12, c13, c14, c15, rfl⟩ := list16 h2
    obtain ⟨d0, d1, d2, d3, d4, d5, d6, d7, d8, d9, d10, d11, d12, d13, d14, d15, rfl⟩ := list16 hl
    rfl
  have hs := step_storeM (ops := ops) (Q := Q) (K := K) (E := False) hg 35 x y ho g 3 (cellsA v l) hx hy 39 (listP p ov dv) hb (by rw [hlen]; exact info24) (by rw [hlen, listP_len ha]; omega)
    (fun z hz => by simp only [cellsA, List.mem_cons, List.mem_map] at hz; rcases hz with rfl | ⟨_, _, rfl⟩ <;> rfl) (hK _ _ (h _ (by rw [e]; exact setRow_heap w g _ _ 39 (0, 0) hb) ((Away.refl [g] w).setRow (.inl (by simp)) _)))
  rwa [if_pos hw] at hs
theorem wpList_storeDa {ops : Array Oper} {rest : List Oper} {o : Oper} {a : Act} {w : World} {Q : Exit → Act → World → Prop} (hg : o.guard = none) (x y : Operand) (ho : o.op = .store 35 x y)
    (g : Nat) (hx : a.eval x = .pointer (some ⟨g, 20, none⟩)) (v : Int) (l : List Int) (hy : a.eval y = .agg (csA v l)) (hl : l.length = 16) (p : Pk) (ov dv : Value) (hb : BoxP w g p ov dv) (ha : Ad p)
    (h : ∀ w1, BoxP w1 g { p with dv := v, db := l } ov dv → Away [g] w w1 → wpList Tryz.prog ops Q rest (a.put o.dst undef) w1) : wpList Tryz.prog ops Q (o :: rest) a w := by
  have hw : Region.wanted o (yielded ops a.tmps) = true := by simp [Region.wanted, hg]
  have hlen : (cellsA v l).length = 17 := by simp [cellsA, hl]
  refine wpList_plain hg fun K hK => ?_
  have e : ((listP p ov dv).take 20 ++ cellsA v l ++ (listP p ov dv).drop (20 + (cellsA v l).length)) = listP { p with dv := v, db := l } ov dv := by
    rw [hlen]
    obtain ⟨v0, tos, flow, sv, sb, dv', db, proto, ttl, id, df, more, frag, off, o, d⟩ := p
    obtain ⟨h1, h2⟩ := ha
    simp only at h1 h2
    obtain ⟨b0, b1, b2, b3, b4, b5, b6, b7, b8, b9, b10, b11, b12, b13, b14, b15, rfl⟩ := list16 h1
    obtain ⟨c0, c1, c2, c3, c4, c5, c6, c7, c8, c9, c10, c11, c12, c13, c14, c15, rfl⟩ := list16 h2
    obtain ⟨d0, d1, d2, d3, d4, d5, d6, d7, d8, d9, d10, d11, d12, d13, d14, d15, rfl⟩ := list16 hl
    rfl
  have hs := step_storeM (ops := ops) (Q := Q) (K := K) (E := False) hg 35 x y ho g 20 (cellsA v l) hx hy 39 (listP p ov dv) hb (by rw [hlen]; exact info24) (by rw [hlen, listP_len ha]; omega)
    (fun z hz => by simp only [cellsA, List.mem_cons, List.mem_map] at hz; rcases hz with rfl | ⟨_, _, rfl⟩ <;> rfl) (hK _ _ (h _ (by rw [e]; exact setRow_heap w g _ _ 39 (0, 0) hb) ((Away.refl [g] w).setRow (.inl (by simp)) _)))
  rwa [if_pos hw] at hs
def upB : Nat → List Int
  | 0 => []
  | k + 1 => upB k ++ [(k : Int) + 1]
theorem upB_len : ∀ k, (upB k).length = k
  | 0 => rfl
  | k + 1 => by rw [upB, List.length_append, upB_len k]; rfl
def ten (z : Int) : List Int := [10, 0, 0, z, 0, 0, 0, 0, 0, 0, 0, 0, 0, 0, 0, 0]
def dataP (id : Int) (n : Nat) : Pk := ⟨4, 0, 0, 4, ten 1, 4, ten 2, 17, 64, id, false, false, false, 0, [], upB n⟩
theorem run_buildD (id : Int) (w : World) : (Instr.build 39 #[(0, .int .i64 4), (5, .int .i64 17), (6, .int .i64 64), (7, .int .u32 id)]).run Tryz.prog w = .ok (.agg (csP { zeroPk with v := 4, proto := 17, ttl := 64, id := id } (.slice none 0 0) (.slice none 0 0))) w := by kernel_rfl
theorem run_buildA (z : Int) (w : World) : (Instr.build 33 #[(0, .int .u8 10), (1, .int .u8 0), (2, .int .u8 0), (3, .int .u8 z)]).run Tryz.prog w = .ok (.agg ((ten z).map (Value.int .u8)).toArray) w := by kernel_rfl
theorem run_buildB (z : Int) (w : World) : (Instr.build 35 #[(0, .int .i64 4), (1, .agg ((ten z).map (Value.int .u8)).toArray)]).run Tryz.prog w = .ok (.agg (csA 4 (ten z))) w := by kernel_rfl
def DgrOut (w : World) (id : Int) (n : Nat) (E : Ending) (w' : World) : Prop := ∃ dv, E = .returned (.agg (csP (dataP id n) (.slice none 0 0) dv)) ∧ Owns w' dv (upB n) ∧ New w.heap.size dv ∧ Away [] w w'
set_option maxHeartbeats 8000000 in
theorem data_c (id : Int) (n : Nat) (hn : n ≤ 200) (w : World) : Calls Tryz.prog 26 #[.int .u32 id, .int .i64 (n : Int)] w (DgrOut w id n) := by
  have hbd := run_buildD id
  have hb36 := run_buildA
  have hb38 := run_buildB
  go_enter Tryz.func26, Tryz.ntmps26
  go_wp2_with (refine wpList_alloc28 rfl rfl ?_; refine Hid.out ?_)
  refine Lib.hid ?_
  intro g4 w1 hg4 hb4 haw1
  have HB4 := Lib.hid hb4
  have HA := Lib.hid haw1
  clear hb4 haw1
  go_wp2_with (refine wpList_new28 rfl rfl rfl _ _ rfl { zeroPk with v := 4, proto := 17, ttl := 64, id := id } (.slice none 0 0) (.slice none 0 0) (fun g => rfl) (fun g => rfl) ⟨rfl, rfl⟩ rfl rfl ?_; refine Hid.out ?_)
  refine Lib.hid ?_
  intro g5 w2 hg5 hb5 haw2
  have HB5 := Lib.hid hb5
  have h45 : g4 < g5 := by have := HB4.out.lt; omega
  have hw5 : w.heap.size ≤ g5 := by omega
  replace HB4 := Lib.hid (HB4.out.on haw2)
  replace HA := Lib.hid (HA.out.trans haw2)
  clear hb5 haw2 hg5
  go_wp2_with (refine wpList_storeSa rfl _ _ rfl g5 rfl 4 (ten 1) rfl rfl _ _ _ (by exact HB5.out) ⟨rfl, rfl⟩ ?_; refine Hid.out ?_)
  refine Lib.hid ?_
  intro w3 hb5 haw
  replace HB5 := Lib.hid hb5
  replace HB4 := Lib.hid (HB4.out.away haw (by simp; omega))
  replace HA : Hid (Away [] w w3) := HA.out.next haw (fun x hx => .inr (by simp at hx; omega))
  clear hb5 haw
  go_wp2_with (refine wpList_storeDa rfl _ _ rfl g5 rfl 4 (ten 2) rfl rfl _ _ _ (by exact HB5.out) ⟨rfl, rfl⟩ ?_; refine Hid.out ?_)
  refine Lib.hid ?_
  intro w4 hb5 haw
  replace HB5 : Hid (BoxP w4 g5 (dataP id 0) (.slice none 0 0) (.slice none 0 0)) := hb5
  replace HB4 := Lib.hid (HB4.out.away haw (by simp; omega))
  replace HA : Hid (Away [] w w4) := HA.out.next haw (fun x hx => .inr (by simp at hx; omega))
  clear hb5 haw hbd hb36 hb38
  go_wp2_with fail
  go_loopw [6] (fun i wr => ∃ (k : Nat) (dv : Value), k ≤ n ∧ i = .int .i64 (k : Int) ∧ BoxP wr g5 (dataP id k) (.slice none 0 0) dv ∧ Owns wr dv (upB k) ∧ (∀ b, dv.ownBlock = some b → w.heap.size ≤ b ∧ b ≠ g4 ∧ b ≠ g5) ∧ BoxP wr g4 zeroPk (.slice none 0 0) (.slice none 0 0) ∧ Away [] w wr) (fun i _ => n - (intOf i).toNat)
  case atStart => exact ⟨0, _, by omega, rfl, HB5.out, Owns.nil _, by simp [Value.ownBlock], HB4.out, HA.out⟩
  case round =>
    clear HB5 HB4 HA
    obtain ⟨k, dv, hk, rfl, hb5, hown, hsep, hb4, haw⟩ := hrel
    have HB5 := Lib.hid hb5
    have HB4 := Lib.hid hb4
    have HA := Lib.hid haw
    have HSEP := Lib.hid hsep
    have HO := Lib.hid hown
    obtain ⟨da, dn, dc, rfl⟩ := hown.shp
    clear hb5 hb4 haw hsep hown
    have HAD : Hid (∀ k, Ad (dataP id k)) := fun _ => ⟨rfl, rfl⟩
    by_cases hlt : k < n
    · have j1 : (k : Int) < (n : Int) := by omega
      have jw : IntKind.i64.wrap ((k : Int) + 1) = (k : Int) + 1 := by rw [IntKind.wrap_i64]; omega
      have jw8 : IntKind.u8.wrap ((k : Int) + 1) = (k : Int) + 1 := by rw [IntKind.wrap_u8]; omega
      have e45 := (HB5.out.cells (HAD.out k)).d
      have hAl : Away [] wr (wr.alloc (.cells #[.int .u8 ((k : Int) + 1)] 5)) := (Away.refl [] wr).alloc _
      have HOA := Lib.hid (HO.out.away hAl (by simp))
      have HLIT := Lib.hid (lit_cells wr [(k : Int) + 1] wr.heap.size rfl)
      have h5lt := HB5.out.lt
      have h4lt := HB4.out.lt
      go_wp2_with (at_builtin; refine wpList_app rfl _ _ rfl _ (upB k) [(k : Int) + 1] rfl HOA.out ⟨wr.heap.size, 0, none⟩ 1 1 rfl rfl HLIT.out (by rw [upB_len]; omega) ?_; refine Hid.out ?_)
      refine Lib.hid ?_
      intro v' w9 hown2 hgr hblk
      have hA9 : Away (Value.slice da dn dc).ownBlock.toList wr w9 := (hAl.mono (by simp)).grown hgr (fun x hx => .inl (by simp [hx]))
      have hsep := HSEP.out
      have HSEP2 : Hid (∀ b, v'.ownBlock = some b → w.heap.size ≤ b ∧ b ≠ g4 ∧ b ≠ g5) := fun b hb => by
        rcases hblk b hb with h | h
        · exact hsep b h
        · have h1 := hAl.size
          have h2 := HA.out.size
          exact ⟨by omega, by omega, by omega⟩
      have HO2 := Lib.hid hown2
      obtain ⟨a9, n9, k9, rfl⟩ := hown2.shp
      have n4 : g4 ∉ (Value.slice da dn dc).ownBlock.toList := fun h => by have h1 := hsep g4 (by simpa using h); omega
      have n5 : g5 ∉ (Value.slice da dn dc).ownBlock.toList := fun h => by have h1 := hsep g5 (by simpa using h); omega
      replace HB5 := Lib.hid (HB5.out.away hA9 n5)
      replace HB4 := Lib.hid (HB4.out.away hA9 n4)
      replace HA : Hid (Away [] w w9) := HA.out.next hA9 (fun x hx => .inr (hsep x (by simpa using hx)).1)
      clear hown2 hgr hblk e45 hAl HOA HLIT HO hA9 n4 n5 hsep HSEP
      have a45 := (HB5.out.cells (HAD.out k)).d
      have f45 := HB5.out.free 45
      have HBZ : Hid (BoxP (w9.setCell ⟨g5, 45, none⟩ (.slice a9 n9 k9)) g5 (dataP id (k + 1)) (.slice none 0 0) (.slice a9 n9 k9)) :=
        HB5.out.put 45 _ ((csP_set (HAD.out k) _ _).2.2.2.2.2.2.2.2.2.2.2.2.2 (upB (k + 1)) (.slice a9 n9 k9))
      have hA8 := away_put (w := w9) (g := g5) 45 (.slice a9 n9 k9)
      have HB4' := Lib.hid (HB4.out.away hA8 (by simp; omega))
      have HA' : Hid (Away [] w (w9.setCell ⟨g5, 45, none⟩ (.slice a9 n9 k9))) := HA.out.next hA8 (fun x hx => .inr (by simp at hx; omega))
      have HO' := Lib.hid (HO2.out.away hA8 (fun b hb => by have := HSEP2.out b hb; simp; omega))
      clear hA8
      go_wp2_with fail
      case roundEnd => exact ⟨⟨k + 1, _, by omega, by push_cast; rfl, HBZ.out, HO'.out, HSEP2.out, HB4'.out, HA'.out⟩, by simp [intOf]; omega⟩
    · have j1 : ¬ (k : Int) < (n : Int) := by omega
      obtain rfl : k = n := by omega
      go_wp2_with (first
        | (refine wpList_load28 rfl _ rfl _ rfl (dataP id k) _ _ (by exact HB5.out) (HAD.out k) ?_)
        | (refine wpList_store28 rfl _ _ rfl _ rfl (dataP id k) (.slice none 0 0) (.slice da dn dc) rfl zeroPk (.slice none 0 0) (.slice none 0 0) (by exact HB4.out) (HAD.out k) ⟨rfl, rfl⟩ rfl rfl ?_; refine Hid.out ?_))
      refine Lib.hid ?_
      intro w11 hb11 haw11
      have HB11 := Lib.hid hb11
      have HA11 : Hid (Away [] w w11) := HA.out.next haw11 (fun x hx => .inr (by simp at hx; omega))
      have HO11 := Lib.hid (HO.out.away haw11 (fun b hb => by have := HSEP.out b hb; simp; omega))
      clear hb11 haw11
      go_wp2_with fail
      exact bodyPost_ret (result28 rfl _ _ _ _ _ _ rfl HB11.out (HAD.out k)) rfl ⟨_, rfl, HO11.out, fun b hb => (HSEP.out b hb).1, HA11.out⟩
end Go.Proofs.YtkccpidgeecemaaGreatDoor
