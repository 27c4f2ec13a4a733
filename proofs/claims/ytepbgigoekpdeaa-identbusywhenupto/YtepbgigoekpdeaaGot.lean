/-
  What the law keeps of the answers; ask.
-/
import Derived.Test.YtepbgigoekpdeaaSrcs
namespace Go.Proofs.Ytepbgigoekpdeaa
open Go.ChangeShapes Go.WideShapes Go.ChangeAt Go.RowKit
set_option linter.unusedVariables false

def encG (x : Sp) : List Value := [.int .u32 x.1, .int .i64 x.2]
def LstG (w : World) (v : Value) (l : List Sp) : Prop := w.ownsRow 0 42 2 v l.length (l.flatMap encG)
theorem flatG_get : ∀ (l : List Sp) (i : Nat) (x : Sp), l[i]? = some x → (l.flatMap encG)[i * 2]? = some (.int .u32 x.1) ∧ (l.flatMap encG)[i * 2 + 1]? = some (.int .i64 x.2)
  | y :: r, 0, x, h => by simp at h; subst h; simp [encG]
  | y :: r, i + 1, x, h => by
    have := flatG_get r i x (by simpa using h)
    rw [List.flatMap_cons, List.getElem?_append_right (by simp [encG]; omega), List.getElem?_append_right (by simp [encG]; omega)]
    rw [show (i + 1) * 2 - (encG y).length = i * 2 from by simp [encG]; omega, show (i + 1) * 2 + 1 - (encG y).length = i * 2 + 1 from by simp [encG]; omega]
    exact this
theorem LstG.away {S : List Nat} {w w' : World} {v : Value} {l : List Sp} (h : LstG w v l) (hw : Away S w w') (ha : ∀ k, v.ownBlock = some k → k ∉ S) : LstG w' v l := by
  obtain ⟨h1, h2⟩ := h
  refine ⟨h1, ?_⟩
  rcases h2 with h2 | ⟨g, cap, cur, rfl, hg, hh, r⟩
  · exact .inl h2
  · exact .inr ⟨g, cap, cur, rfl, hg, hw.keep (ha g rfl) hh, r⟩
theorem LstG.on {w w' : World} {v : Value} {l : List Sp} (h : LstG w v l) (hw : Away [] w w') : LstG w' v l := h.away hw (by simp)
theorem LstG.nil (w : World) : LstG w (.slice none 0 0) [] := World.ownsRow_nil _ _ _ _
theorem LstG.lt {w : World} {v : Value} {l : List Sp} (h : LstG w v l) : ∀ k, v.ownBlock = some k → k < w.heap.size := fun k hk => (World.ownsRow.lt h k hk).2
theorem LstG.shape {w : World} {v : Value} {l : List Sp} (h : LstG w v l) : ∃ a c, v = .slice a l.length c := by
  rcases h.2 with ⟨rfl, h2⟩ | ⟨g, cap, cur, rfl, hg, hh, hn, hc, hs, ht⟩
  · exact ⟨_, _, by rw [h2]⟩
  · exact ⟨_, _, rfl⟩
theorem LstG.at {w : World} {v : Value} {l : List Sp} (h : LstG w v l) {i : Nat} {x : Sp} (hx : l[i]? = some x) :
    ∃ b cap, v = .slice (some ⟨b, 0, none⟩) l.length cap ∧ w.cell? ⟨b, i * 2, none⟩ = some (.int .u32 x.1) ∧ w.cell? ⟨b, i * 2 + 1, none⟩ = some (.int .i64 x.2) := by
  have h0 := h
  have hi := get_lt hx
  rcases h.2 with ⟨rfl, h2⟩ | ⟨g, cap, cur, rfl, hg, hh, hn, hc, hs, ht⟩
  · omega
  · refine ⟨g, cap, rfl, ?_⟩
    have := flatG_get l i x hx
    rw [World.ownsRow.cellAt h0 (i * 2) (by omega), World.ownsRow.cellAt h0 (i * 2 + 1) (by omega)]
    exact this
theorem info42 : (Try.prog.info? 42).map (fun i => (i.zero, i.size, i.bytes)) = some (some (.agg #[.int .u32 0, .int .i64 0]), 2, 16) := by kernel_rfl
theorem wpList_appG {w : World} {ops : Array Oper} {rest : List Oper} {o : Oper} {a : Act} {Q : Exit → Act → World → Prop} (hgd : o.guard = none) (s t : Operand)
    (ho : o.op = .call { callee := .builtin .append, args := #[s, t], argTypes := #[38, 38] }) (v : Value) (l : List Sp) (hs : a.eval s = v) (hown : LstG w v l)
    (ad : Addr) (c : Nat) (ht : a.eval t = .slice (some ad) 1 c) (x : Sp) (hx : w.cell? ad = some (.int .u32 x.1)) (hy : w.cell? (ad.add 1) = some (.int .i64 x.2)) (hk : l.length < 8796093022208)
    (h : ∀ v' w', LstG w' v' (l ++ [x]) → w.grownBy w' v.ownBlock → Moved w v v' → wpList Try.prog ops Q rest (a.put o.dst v') w') : wpList Try.prog ops Q (o :: rest) a w := by
  obtain ⟨i0, hi, hz0, hz1, hz2⟩ := info_parts info42
  obtain ⟨v', w', hrun, r1, r2, r3⟩ := run_appN 38 o.type 42 i0 _ 16 2 Try.underlying38 hi hz0 hz1 hz2 rfl (by decide) w v l.length (l.flatMap encG) hown ad 1 c [.int .u32 x.1, .int .i64 x.2] rfl (fun j u hj => by
    match j, hj with
    | 0, hj => simp at hj; subst hj; simpa [Addr.add] using hx
    | 1, hj => simp at hj; subst hj; exact hy
    | j + 2, hj => simp at hj) (by simp; exact ⟨rfl, rfl⟩) (by unfold maxLen; omega) (by omega)
  refine wpList_plain hgd fun _ hK => ?_
  unfold Oper.wp
  simp [execOp, ho, resolve, invoke, builtin, hs, ht, hrun, Result.andThen]
  refine hK _ _ (h v' w' ?_ r2 r3)
  unfold LstG
  rw [List.length_append, List.flatMap_append]
  exact r1

/-- What was given, as the law keeps it. -/
def gotL (sp : Int) (G : List Int) : List Sp := G.zipIdx.map (fun p => ((p.2 : Int) % sp, p.1))
theorem gotL_len (sp : Int) (G : List Int) : (gotL sp G).length = G.length := by simp [gotL]
theorem gotL_snoc (sp : Int) (G : List Int) (x : Int) : gotL sp (G ++ [x]) = gotL sp G ++ [((G.length : Int) % sp, x)] := by simp [gotL, List.zipIdx_append]
theorem gotL_get (sp : Int) (G : List Int) (i : Nat) (t : Int) (h : G[i]? = some t) : (gotL sp G)[i]? = some ((i : Int) % sp, t) := by simp [gotL, h]
/-- A source, and what it gave, side by side. -/
structure AskS (B w : World) (g c : Nat) (vs v : Value) (sp li : Int) (G : List Int) : Prop where
  sc : Sc w g c vs sp li G
  l : LstG w v (gotL sp G)
  apart : ∀ k, v.ownBlock = some k → k ≠ g ∧ k ≠ c ∧ vs.ownBlock ≠ some k
  ng : B.heap.size ≤ g
  nc : B.heap.size ≤ c
  nvs : New B.heap.size vs
  nv : New B.heap.size v
  aw : Away [] B w
theorem AskS.on {B w w' : World} {g c : Nat} {vs v : Value} {sp li : Int} {G : List Int} (h : AskS B w g c vs v sp li G) (hw : Away [] w w') : AskS B w' g c vs v sp li G := by
  obtain ⟨bs, hs⟩ := h.sc
  exact ⟨⟨bs, hs.on hw⟩, h.l.on hw, h.apart, h.ng, h.nc, h.nvs, h.nv, h.aw.trans hw⟩
/-- The source was asked: the list stays. -/
theorem AskS.asked {B w w' : World} {g c : Nat} {vs v : Value} {sp li : Int} {G G' : List Int} (h : AskS B w g c vs v sp li G) (ha : Asked w w' g c vs sp li G') :
    ∃ vs', Sc w' g c vs' sp li G' ∧ LstG w' v (gotL sp G) ∧ (∀ k, v.ownBlock = some k → k ≠ g ∧ k ≠ c ∧ vs'.ownBlock ≠ some k) ∧ New B.heap.size vs' ∧ Away [] B w' := by
  obtain ⟨vs', h1, h2, h3⟩ := ha
  have hz := h.aw.size
  have hn : ∀ k, v.ownBlock = some k → k ∉ fp g vs := fun k hk hf => by
    simp only [fp, List.mem_cons, Option.mem_toList] at hf
    rcases hf with hf | hf
    · exact (h.apart k hk).1 hf
    · exact (h.apart k hk).2.2 hf
  refine ⟨vs', h1, h.l.away h3 hn, fun k hk => ⟨(h.apart k hk).1, (h.apart k hk).2.1, fun e => ?_⟩, h.nvs.moved h2 hz, h.aw.next h3 (fun x hx => .inr ?_)⟩
  · rcases h2 k e with h' | h'
    · exact (h.apart k hk).2.2 h'
    · have := h.l.lt k hk; omega
  · simp only [fp, List.mem_cons, Option.mem_toList] at hx
    rcases hx with rfl | hx
    · exact h.ng
    · exact h.nvs x hx
/-- One more was kept. -/
theorem AskS.kept {B w w2 w' : World} {g c : Nat} {vs v v' : Value} {sp li : Int} {G : List Int} {now : Int} (hs : Sc w g c vs sp li (G ++ [now])) (ha : ∀ k, v.ownBlock = some k → k ≠ g ∧ k ≠ c ∧ vs.ownBlock ≠ some k)
    (hg : B.heap.size ≤ g) (hc : B.heap.size ≤ c) (hvs : New B.heap.size vs) (hv : New B.heap.size v) (haw : Away [] B w) (h2 : Away [] w w2)
    (hl : LstG w' v' (gotL sp G ++ [((G.length : Int) % sp, now)])) (hgr : w2.grownBy w' v.ownBlock) (hm : Moved w2 v v') : AskS B w' g c vs v' sp li (G ++ [now]) := by
  have hz := haw.size
  have hz2 := h2.size
  have h3 : Away v.ownBlock.toList w w' := (h2.mono (by simp)).grown hgr (fun k hk => .inl (by simp [hk]))
  obtain ⟨bs, hs⟩ := hs
  refine ⟨⟨bs, hs.away h3 (fun e => ?_) (fun e => ?_) (fun k hk e => ?_)⟩, by rw [gotL_snoc]; exact hl, fun k hk => ?_, hg, hc, hvs, ?_, haw.next h3 (fun x hx => .inr (hv x (by simpa using hx)))⟩
  · exact (ha g (by simpa using e)).1 rfl
  · exact (ha c (by simpa using e)).2.1 rfl
  · exact (ha k (by simpa using e)).2.2 hk
  · rcases hm k hk with h' | h'
    · exact ha k h'
    · have h4 := lt_of_block hs.cs.blk
      have h5 := lt_of_block hs.cs.box
      refine ⟨by omega, by omega, fun e => ?_⟩
      have := hs.lst.lt k e
      omega
  · intro k hk
    rcases hm k hk with h' | h'
    · exact hv k h'
    · omega
set_option maxRecDepth 100000 in
set_option maxHeartbeats 8000000 in
theorem ask_c {B w : World} {g c : Nat} {vs v : Value} {sp li : Int} {G : List Int} (now : Int) (h : AskS B w g c vs v sp li G) (hs : G.length < 2097152) :
    Calls Try.prog 14 #[.pointer (some ⟨g, 0, none⟩), v, .int .i64 now] w fun E w' => ∃ vs' v', E = .returned (.tuple #[v', .int .i64 (nextE sp li G now), .bool true]) ∧ AskS B w' g c vs' v' sp li (nextG sp li G now) := by
  have hsp : 1 ≤ sp ∧ sp ≤ 4294967296 := by obtain ⟨bs, h⟩ := h.sc; exact ⟨h.good.sp1, h.good.sp2⟩
  have HK := hidI (next_c now h.sc (by omega))
  have H := hidI h
  obtain ⟨la, lc, hv⟩ := h.l.shape
  rw [gotL_len] at hv
  subst hv
  clear h
  rcases nil_or_snoc G with rfl | ⟨F, x, hF⟩
  · have hLast : lastP [] = 0 := rfl
    by_cases hm : mayP [] now
    · have hm0 := hm
      obtain ⟨m1, m2⟩ := hm
      rw [hLast] at m1
      by_cases hf : fullP sp li [] now
      · have e1 : nextN sp li [] now = 0 := by unfold nextN; rw [if_pos hm0, if_pos hf]
        have e2 : nextE sp li [] now = 120 := by unfold nextE; rw [if_pos hm0, if_pos hf]
        have e3 : nextG sp li [] now = [] := by unfold nextG; rw [if_pos hm0, if_pos hf]
        rw [e1, e2, e3] at HK
        rw [e2, e3]
        clear e1 e2 e3 hf hm0 hLast
        go_enter Try.func14, Try.ntmps14
        go_wp2_with fail
        refine HK.out.mono ?_
        rintro E w2 ⟨rfl, hask⟩
        obtain ⟨vs2, hs2, hl2, hap2, hn2, haw2⟩ := H.out.asked hask
        have HS2 := hidI hs2; have HL2 := hidI hl2; have HP2 := hidI hap2; have HN2 := hidI hn2; have HA2 := hidI haw2
        clear hask hs2 hl2 hap2 hn2 haw2
        go_wp2_with fail
        go_ret3
        exact ⟨vs2, _, rfl, HS2.out, HL2.out, HP2.out, H.out.ng, H.out.nc, HN2.out, H.out.nv, HA2.out⟩
      · have e1 : nextN sp li [] now = (([] : List Int).length : Int) % sp := by unfold nextN; rw [if_pos hm0, if_neg hf]
        have e2 : nextE sp li [] now = 0 := by unfold nextE; rw [if_pos hm0, if_neg hf]
        have e3 : nextG sp li [] now = [] ++ [now] := by unfold nextG; rw [if_pos hm0, if_neg hf]
        obtain ⟨r, hr⟩ : ∃ r : Int, (([] : List Int).length : Int) % sp = r := ⟨_, rfl⟩
        have HRR := hidI hr
        rw [e1, e2, e3, hr] at HK
        rw [e2, e3]
        clear e1 e2 e3 hf hm0 hr hLast
        go_enter Try.func14, Try.ntmps14
        go_wp2_with fail
        refine HK.out.mono ?_
        rintro E w2 ⟨rfl, hask⟩
        obtain ⟨vs2, hs2, hl2, hap2, hn2, haw2⟩ := H.out.asked hask
        have HS2 := hidI hs2; have HL2 := hidI hl2; have HP2 := hidI hap2; have HN2 := hidI hn2; have HA2 := hidI haw2
        clear hask hs2 hl2 hap2 hn2 haw2
        go_wp2_with (at_builtin; refine wpList_appG rfl _ _ rfl _ (gotL sp []) rfl (by exact HL2.out.on ((Away.refl [] _).alloc _)) ⟨_, 0, none⟩ 1 rfl (r, now) (by rw [World.cell?_alloc_at (hn := rfl)]; rfl) (by rw [add_plain, World.cell?_alloc_at (hn := rfl)]; rfl) (by first | assumption | (rw [gotL_len]; omega)) ?_)
        intro v' w3 hown hgr hmv
        have HF : Hid (AskS B w3 g c vs2 v' sp li ([] ++ [now])) := AskS.kept HS2.out HP2.out H.out.ng H.out.nc HN2.out H.out.nv HA2.out ((Away.refl [] _).alloc _) (by rw [HRR.out]; exact hown) hgr hmv
        clear hown hgr hmv
        go_wp2_with fail
        go_ret3
        exact ⟨vs2, v', rfl, HF.out⟩
    · have e1 : nextN sp li [] now = 0 := by unfold nextN; rw [if_neg hm]
      have e2 : nextE sp li [] now = 1 := by unfold nextE; rw [if_neg hm]
      have e3 : nextG sp li [] now = [] := by unfold nextG; rw [if_neg hm]
      rw [e1, e2, e3] at HK
      rw [e2, e3]
      clear e1 e2 e3
      by_cases m1 : 0 ≤ now
      · have m2 : ¬ (now ≤ 1099511627776) := fun h => hm ⟨by rw [hLast]; exact m1, h⟩
        have d2 : decide (now ≤ 1099511627776) = false := decide_eq_false m2
        clear hm hLast
        go_enter Try.func14, Try.ntmps14
        go_wp2_with fail
        refine HK.out.mono ?_
        rintro E w2 ⟨rfl, hask⟩
        obtain ⟨vs2, hs2, hl2, hap2, hn2, haw2⟩ := H.out.asked hask
        have HS2 := hidI hs2; have HL2 := hidI hl2; have HP2 := hidI hap2; have HN2 := hidI hn2; have HA2 := hidI haw2
        clear hask hs2 hl2 hap2 hn2 haw2
        go_wp2_with fail
        go_ret3
        exact ⟨vs2, _, rfl, HS2.out, HL2.out, HP2.out, H.out.ng, H.out.nc, HN2.out, H.out.nv, HA2.out⟩
      · clear hm hLast
        go_enter Try.func14, Try.ntmps14
        go_wp2_with fail
        refine HK.out.mono ?_
        rintro E w2 ⟨rfl, hask⟩
        obtain ⟨vs2, hs2, hl2, hap2, hn2, haw2⟩ := H.out.asked hask
        have HS2 := hidI hs2; have HL2 := hidI hl2; have HP2 := hidI hap2; have HN2 := hidI hn2; have HA2 := hidI haw2
        clear hask hs2 hl2 hap2 hn2 haw2
        go_wp2_with fail
        go_ret3
        exact ⟨vs2, _, rfl, HS2.out, HL2.out, HP2.out, H.out.ng, H.out.nc, HN2.out, H.out.nv, HA2.out⟩
  · have hLast : lastP G = x := by rw [hF]; exact last_snoc _ _
    have hLen : (gotL sp G).length = F.length + 1 := by rw [gotL_len, hF]; simp
    have hGL : G.length = F.length + 1 := by rw [hF]; simp
    obtain ⟨N, hN⟩ : ∃ N, N = F.length + 1 := ⟨_, rfl⟩
    rw [hGL, ← hN] at H ⊢
    rw [← hN] at hLen hGL
    have t1 : (0 : Int) < (N : Int) := by omega
    have t2 : 0 ≤ (N : Int) - 1 := by omega
    have t3 : (N : Int) - 1 < (N : Int) := by omega
    have t4 : ((N : Int) - 1).toNat = F.length := by omega
    have HGL := hidI hGL
    have hGs : (gotL sp G).length < 8796093022208 := by rw [gotL_len]; omega
    have hNb : N ≤ 2097152 := by omega
    clear hN hGL
    by_cases hm : mayP G now
    · have hm0 := hm
      obtain ⟨m1, m2⟩ := hm
      rw [hLast] at m1
      by_cases hf : fullP sp li G now
      · have e1 : nextN sp li G now = 0 := by unfold nextN; rw [if_pos hm0, if_pos hf]
        have e2 : nextE sp li G now = 120 := by unfold nextE; rw [if_pos hm0, if_pos hf]
        have e3 : nextG sp li G now = G := by unfold nextG; rw [if_pos hm0, if_pos hf]
        rw [e1, e2, e3] at HK
        rw [e2, e3]
        clear e1 e2 e3 hf hm0 hLast
        go_enter Try.func14, Try.ntmps14
        go_wp2_with fail
        refine HK.out.mono ?_
        rintro E w2 ⟨rfl, hask⟩
        obtain ⟨vs2, hs2, hl2, hap2, hn2, haw2⟩ := H.out.asked hask
        have HS2 := hidI hs2; have HL2 := hidI hl2; have HP2 := hidI hap2; have HN2 := hidI hn2; have HA2 := hidI haw2
        clear hask hs2 hl2 hap2 hn2 haw2
        obtain ⟨b', cap', hv', -, c2⟩ := HL2.out.at (gotL_get sp _ F.length x (by rw [hF]; simp))
        rw [hLen] at hv'
        simp only [Value.slice.injEq] at hv'
        obtain ⟨rfl, -, rfl⟩ := hv'
        clear hF hLen
        go_wp2_with fail
        go_ret3
        exact ⟨vs2, _, rfl, HS2.out, HL2.out, HP2.out, H.out.ng, H.out.nc, HN2.out, H.out.nv, HA2.out⟩
      · have e1 : nextN sp li G now = (G.length : Int) % sp := by unfold nextN; rw [if_pos hm0, if_neg hf]
        have e2 : nextE sp li G now = 0 := by unfold nextE; rw [if_pos hm0, if_neg hf]
        have e3 : nextG sp li G now = G ++ [now] := by unfold nextG; rw [if_pos hm0, if_neg hf]
        obtain ⟨r, hr⟩ : ∃ r : Int, (G.length : Int) % sp = r := ⟨_, rfl⟩
        have HRR := hidI hr
        rw [e1, e2, e3, hr] at HK
        rw [e2, e3]
        clear e1 e2 e3 hf hm0 hr hLast
        go_enter Try.func14, Try.ntmps14
        go_wp2_with fail
        refine HK.out.mono ?_
        rintro E w2 ⟨rfl, hask⟩
        obtain ⟨vs2, hs2, hl2, hap2, hn2, haw2⟩ := H.out.asked hask
        have HS2 := hidI hs2; have HL2 := hidI hl2; have HP2 := hidI hap2; have HN2 := hidI hn2; have HA2 := hidI haw2
        clear hask hs2 hl2 hap2 hn2 haw2
        obtain ⟨b', cap', hv', -, c2⟩ := HL2.out.at (gotL_get sp _ F.length x (by rw [hF]; simp))
        rw [hLen] at hv'
        simp only [Value.slice.injEq] at hv'
        obtain ⟨rfl, -, rfl⟩ := hv'
        clear hF hLen
        go_wp2_with (at_builtin; refine wpList_appG rfl _ _ rfl _ (gotL sp G) rfl (by exact HL2.out.on ((Away.refl [] _).alloc _)) ⟨_, 0, none⟩ 1 rfl (r, now) (by rw [World.cell?_alloc_at (hn := rfl)]; rfl) (by rw [add_plain, World.cell?_alloc_at (hn := rfl)]; rfl) (by first | assumption | (rw [gotL_len]; omega)) ?_)
        intro v' w3 hown hgr hmv
        have HF : Hid (AskS B w3 g c vs2 v' sp li (G ++ [now])) := AskS.kept HS2.out HP2.out H.out.ng H.out.nc HN2.out H.out.nv HA2.out ((Away.refl [] _).alloc _) (by rw [HRR.out]; exact hown) hgr hmv
        clear hown hgr hmv
        go_wp2_with fail
        go_ret3
        exact ⟨vs2, v', rfl, HF.out⟩
    · have e1 : nextN sp li G now = 0 := by unfold nextN; rw [if_neg hm]
      have e2 : nextE sp li G now = 1 := by unfold nextE; rw [if_neg hm]
      have e3 : nextG sp li G now = G := by unfold nextG; rw [if_neg hm]
      rw [e1, e2, e3] at HK
      rw [e2, e3]
      clear e1 e2 e3
      by_cases m1 : x ≤ now
      · have m2 : ¬ (now ≤ 1099511627776) := fun h => hm ⟨by rw [hLast]; exact m1, h⟩
        have d2 : decide (now ≤ 1099511627776) = false := decide_eq_false m2
        clear hm hLast
        go_enter Try.func14, Try.ntmps14
        go_wp2_with fail
        refine HK.out.mono ?_
        rintro E w2 ⟨rfl, hask⟩
        obtain ⟨vs2, hs2, hl2, hap2, hn2, haw2⟩ := H.out.asked hask
        have HS2 := hidI hs2; have HL2 := hidI hl2; have HP2 := hidI hap2; have HN2 := hidI hn2; have HA2 := hidI haw2
        clear hask hs2 hl2 hap2 hn2 haw2
        obtain ⟨b', cap', hv', -, c2⟩ := HL2.out.at (gotL_get sp _ F.length x (by rw [hF]; simp))
        rw [hLen] at hv'
        simp only [Value.slice.injEq] at hv'
        obtain ⟨rfl, -, rfl⟩ := hv'
        clear hF hLen
        go_wp2_with fail
        go_ret3
        exact ⟨vs2, _, rfl, HS2.out, HL2.out, HP2.out, H.out.ng, H.out.nc, HN2.out, H.out.nv, HA2.out⟩
      · clear hm hLast
        go_enter Try.func14, Try.ntmps14
        go_wp2_with fail
        refine HK.out.mono ?_
        rintro E w2 ⟨rfl, hask⟩
        obtain ⟨vs2, hs2, hl2, hap2, hn2, haw2⟩ := H.out.asked hask
        have HS2 := hidI hs2; have HL2 := hidI hl2; have HP2 := hidI hap2; have HN2 := hidI hn2; have HA2 := hidI haw2
        clear hask hs2 hl2 hap2 hn2 haw2
        obtain ⟨b', cap', hv', -, c2⟩ := HL2.out.at (gotL_get sp _ F.length x (by rw [hF]; simp))
        rw [hLen] at hv'
        simp only [Value.slice.injEq] at hv'
        obtain ⟨rfl, -, rfl⟩ := hv'
        clear hF hLen
        go_wp2_with fail
        go_ret3
        exact ⟨vs2, _, rfl, HS2.out, HL2.out, HP2.out, H.out.ng, H.out.nc, HN2.out, H.out.nv, HA2.out⟩
#print axioms ask_c
end Go.Proofs.Ytepbgigoekpdeaa
