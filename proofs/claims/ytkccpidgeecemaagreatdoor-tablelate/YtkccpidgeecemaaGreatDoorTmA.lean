/-
  A table of a wide quota that holds one key's entry at most, in memory: Put, Tick.
-/
import Derived.Test.YtkccpidgeecemaaGreatDoorTwA
import Derived.Test.YtkccpidgeecemaaGreatDoorTbD
import Derived.Test.YtkccpidgeecemaaGreatDoorTbC
import Derived.Test.YtkccpidgeecemaaGreatDoorTwB
import Derived.Test.YtkccpidgeecemaaGreatDoorJtB
namespace Go.Proofs.YtkccpidgeecemaaGreatDoor
open Go.ChangeShapes Go.WideShapes Go.ChangeAt Go.RowKit
set_option linter.unusedVariables false
set_option linter.unusedSimpArgs false
set_option maxRecDepth 100000
structure T4 where
  g : Nat
  m : Nat
  o : Value
  cs : List Cel
def T4.fp (T : T4) : List Nat := fpT T.g T.m T.o T.cs
structure Tw (w : World) (N : Nat) (T : T4) (a b : Option Es) : Prop where
  tab : ∃ t, (t = 1 ∨ (t = 0 ∧ T.cs = [])) ∧ Tab w T.g T.m T.o wideQ t T.cs
  new : ∀ z ∈ T.fp, N ≤ z
  mix : Mix (T.cs.map (·.s)) a b
section
variable {w w' : World} {N : Nat} {T : T4} {a b : Option Es}
theorem Tw.away {S : List Nat} (h : Tw w N T a b) (hw : Away S w w') (hS : ∀ z ∈ T.fp, z ∉ S) : Tw w' N T a b := by
  obtain ⟨t, h1, h2⟩ := h.tab
  exact ⟨⟨t, h1, h2.away hw hS⟩, h.new, h.mix⟩
theorem Tw.on (h : Tw w N T a b) (hw : Away [] w w') : Tw w' N T a b := h.away hw (by simp)
theorem Tw.lt (h : Tw w N T a b) : ∀ z ∈ T.fp, z < w.heap.size := by
  obtain ⟨t, h1, h2⟩ := h.tab
  exact h2.lt
theorem Tw.any (h : Tw w N T a b) : ∃ t, Tab w T.g T.m T.o wideQ t T.cs := by
  obtain ⟨t, h1, h2⟩ := h.tab
  exact ⟨t, h2⟩
def TputO (w : World) (N : Nat) (T : T4) (b : Option Es) (r : Int × List Pk × Option Es) (E : Ending) (w' : World) : Prop :=
  ∃ wa wc la lc ga gc xs T', E = .returned (.tuple #[.agg (csTo r.1 (.slice wa xs.length wc) (.slice la 0 lc) (.slice ga 0 gc)), .int .i64 0]) ∧ Cuts w' w.heap.size (.slice wa xs.length wc) xs ∧ xs.map X.p = r.2.1 ∧ xs.length ≤ 1 ∧ T'.g = T.g ∧
    Tw w' N T' r.2.2 b ∧ (∀ z ∈ T'.fp, z ∈ T.fp ∨ w.heap.size ≤ z) ∧ Away T.fp w w'
theorem apN_len (a : Option Es) (p : Pk) : (apN a p).2.1.length ≤ 1 := by
  unfold apN
  split
  · simp
  · split
    · simp
    · split <;> simp
theorem Tw.put (h : Tw w N T a b) (hN : 0 < N) (hg : Glob w) (hs : ∀ s, a = some s ∨ b = some s → Hs s ∧ s.tb = 1) {p : Pk} {po pd : Value} (hk : Pkt w p po pd) (ho : p.o = []) (hd : ∀ k, pd.ownBlock = some k → k ∉ T.fp) (hr : rgt2 p = true)
    (ha : ∀ s, a = some s → isWhP p = false → kyB p s.k = true) (hb : ∀ s, b = some s → kyB p s.k = false) :
    Calls Tryz.prog 10 #[.pointer (some ⟨T.g, 0, none⟩), .agg (csP p po pd), .int .i64 1] w (TputO w N T b (apN a p)) := by
  obtain ⟨t, ht, htab⟩ := h.tab
  have htb : ∀ c ∈ T.cs, c.s.tb = 1 := fun c hc => (hs c.s ((mix_mem h.mix c.s).1 (List.mem_map_of_mem hc))).2
  have hlen : T.cs.length ≤ 2 := by simpa using mix_len h.mix
  have hin : PutIn w T.g T.m T.o wideQ t T.cs p po pd := ⟨htab, hg, hk, ⟨fun e => absurd ho e, fun _ k hk => hd k hk⟩, fun hm => by have := h.new 0 hm; omega, fun c hc => by
    have h1 := htb c hc
    rcases ht with rfl | ⟨rfl, e⟩
    · omega
    · rw [e] at hc; simp at hc, by rcases ht with rfl | ⟨rfl, -⟩ <;> omega, ⟨by decide, by decide⟩, by omega⟩
  refine (tput_c hin 1).mono ?_
  rintro E w' (⟨hx, -⟩ | ⟨-, n', wv, lv, gv, ov', xs, ys, ks, cs', rfl, hcw, hcl, hgk, hgn, hys, htab', hres, hfp, haw⟩)
  · rcases hx with h1 | h1 | h1
    · rw [hr] at h1; simp at h1
    · rcases ht with rfl | ⟨rfl, -⟩ <;> omega
    · omega
  · have hl : ∀ c ∈ T.cs, lateB wideQ 1 c = false := fun c hc => by
      unfold lateB
      rw [htb c hc]; decide
    have e1 : T.cs.takeWhile (lateB wideQ 1) = [] := by
      cases hcs : T.cs with
      | nil => rfl
      | cons c r => rw [List.takeWhile_cons, hl c (by rw [hcs]; simp)]; rfl
    have e2 : T.cs.dropWhile (lateB wideQ 1) = T.cs := by
      cases hcs : T.cs with
      | nil => rfl
      | cons c r => rw [List.dropWhile_cons, hl c (by rw [hcs]; simp)]; rfl
    rw [e1] at hys
    rw [e2] at hres
    obtain ⟨rfl, hwh, rfl, hmix⟩ := res_mix h.mix ha hb (fun s e => (hs s e).1) hk.wf hres
    have hy0 : ys = [] := by
      have : (ys.map X.p).length = 0 := by rw [hys]; rfl
      rw [List.length_map] at this
      exact List.eq_nil_of_length_eq_zero this
    subst hy0
    have hxl : xs.length ≤ 1 := by
      have h1 := apN_len a p
      rw [← hwh, List.length_map] at h1
      exact h1
    obtain ⟨a1, c1, rfl, -⟩ := hcw.pks (by omega)
    obtain ⟨a2, c2, rfl, -⟩ := hcl.pks (by simp)
    obtain ⟨a3, c3, rfl⟩ : ∃ a3 c3, gv = .slice a3 0 c3 := by
      rcases hgk.shp with ⟨e, -⟩ | ⟨g, cap, e⟩
      · exact ⟨_, _, e⟩
      · exact ⟨_, _, e⟩
    refine ⟨a1, c1, a2, c2, a3, c3, xs, ⟨T.g, T.m, ov', cs'⟩, rfl, hcw, hwh, hxl, rfl, ⟨⟨1, .inl rfl, htab'⟩, fun z hz => ?_, hmix⟩, hfp, haw⟩
    rcases hfp z hz with h1 | h1
    · exact h.new z h1
    · have h2 := h.new T.g (mem_fpT.2 (.inl rfl))
      have h3 := h.lt T.g (mem_fpT.2 (.inl rfl))
      omega
structure Tri (w : World) (N : Nat) (B X Y : T4) (a b : Option Es) : Prop where
  both : Tw w N B a b
  x : Tw w N X a none
  y : Tw w N Y b none
  bx : ∀ z ∈ B.fp, z ∉ X.fp
  by' : ∀ z ∈ B.fp, z ∉ Y.fp
  xy : ∀ z ∈ X.fp, z ∉ Y.fp
theorem Tw.symm (h : Tw w N T a b) : Tw w N T b a := ⟨h.tab, h.new, h.mix.symm⟩
theorem Tri.on {B X Y : T4} (h : Tri w N B X Y a b) (hw : Away [] w w') : Tri w' N B X Y a b := ⟨h.both.on hw, h.x.on hw, h.y.on hw, h.bx, h.by', h.xy⟩
theorem Tri.symm {B X Y : T4} (h : Tri w N B X Y a b) : Tri w N B Y X b a := ⟨h.both.symm, h.y, h.x, h.by', h.bx, fun z h1 h2 => h.xy z h2 h1⟩
end
theorem step_alloc44 {ops : Array Oper} {o : Oper} {a : Act} {w : World} {K : Act → World → Prop} {Q : Exit → Act → World → Prop} {E : Prop} (hg : o.guard = none) (ho : o.op = .alloc 44)
    (hK : ∀ g w1, w.heap.size ≤ g → BoxT w1 g 0 nilV nilV nilV → Away [] w w1 → K (a.put o.dst (.pointer (some ⟨g, 0, none⟩))) w1) : if Region.wanted o (yielded ops a.tmps) = true then Oper.wp Tryz.prog o a w K Q else E := by
  have hw : Region.wanted o (yielded ops a.tmps) = true := by simp [Region.wanted, hg]
  rw [if_pos hw]
  unfold Oper.wp execOp
  simp only [ho, Instr.alloc, newVar, newRow, Sem.run_bind, zero33 w, run_newObj_alloc, Sem.run_pure, Result.andThen_ok]
  exact hK w.heap.size _ (Nat.le_refl _) (block_new _ _) ((Away.refl [] w).alloc _)
theorem step_store44 {ops : Array Oper} {o : Oper} {a : Act} {w : World} {K : Act → World → Prop} {Q : Exit → Act → World → Prop} {E : Prop} (hg : o.guard = none) (x y : Operand) (ho : o.op = .store 44 x y)
    (g : Nat) (hx : a.eval x = .pointer (some ⟨g, 0, none⟩)) (n : Int) (wv lv gv : Value) (hy : a.eval y = .agg (csTo n wv lv gv)) (n' : Int) (wv' lv' gv' : Value) (hb : BoxT w g n' wv' lv' gv') (h1 : wv.oneCell' = true) (h2 : lv.oneCell' = true) (h3 : gv.oneCell' = true)
    (hK : ∀ w1, BoxT w1 g n wv lv gv → Away [g] w w1 → K (a.put o.dst undef) w1) : if Region.wanted o (yielded ops a.tmps) = true then Oper.wp Tryz.prog o a w K Q else E := by
  have hw : Region.wanted o (yielded ops a.tmps) = true := by simp [Region.wanted, hg]
  rw [if_pos hw]
  exact wp_store_row 44 x y ho g (csTo n wv lv gv) hx hy 44 (csTo n' wv' lv' gv') hb (by exact info33) (by rfl) (csTo_one h1 h2 h3) (hK _ (by
    unfold BoxT at hb ⊢; simp [World.setRow, Array.getElem?_modify, hb]) ((Away.refl [g] w).setRow (.inl (by simp)) _))
theorem BoxT.lt {w : World} {g : Nat} {n : Int} {a b c : Value} (h : BoxT w g n a b c) : g < w.heap.size := lt_of_block h
theorem BoxT.keep {w w' : World} {S : List Nat} {g : Nat} {n : Int} {a b c : Value} (h : BoxT w g n a b c) (hw : Away S w w') (hg : g ∉ S) : BoxT w' g n a b c := hw.keep hg h
structure Sd (wN : World) (gB gP gQ g15 s : Nat) (l m : List Pk) (B P Q : T4) (aB aP b : Option Es) (w : World) : Prop where
  eB : B.g = gB
  eP : P.g = gP
  eQ : Q.g = gQ
  both : Tw w wN.heap.size B aB b
  x : Tw w wN.heap.size P aP none
  y : Tw w wN.heap.size Q b none
  bx : ∀ z ∈ B.fp, z ∉ P.fp
  by' : ∀ z ∈ B.fp, z ∉ Q.fp
  xy : ∀ z ∈ P.fp, z ∉ Q.fp
  sB : Si l aB
  sP : Si l aP
  sb : Si m b
  fB : g15 ∉ B.fp
  fP : g15 ∉ P.fp
  fQ : g15 ∉ Q.fp
  lt : g15 < w.heap.size
  new : wN.heap.size ≤ g15
  aw : Away [] wN w
  cP : w.cell? ⟨g15, s, none⟩ = some (.pointer (some ⟨gP, 0, none⟩))
  cQ : w.cell? ⟨g15, 1 - s, none⟩ = some (.pointer (some ⟨gQ, 0, none⟩))
section
variable {wN w w' : World} {gB gP gQ g15 s : Nat} {l m : List Pk} {B P Q : T4} {aB aP b : Option Es} {p : Pk}
theorem Sd.on (h : Sd wN gB gP gQ g15 s l m B P Q aB aP b w) (hw : Away [] w w') : Sd wN gB gP gQ g15 s l m B P Q aB aP b w' :=
  ⟨h.eB, h.eP, h.eQ, h.both.on hw, h.x.on hw, h.y.on hw, h.bx, h.by', h.xy, h.sB, h.sP, h.sb, h.fB, h.fP, h.fQ, Nat.lt_of_lt_of_le h.lt hw.size, h.new, h.aw.trans hw, hw.cell (by simp) h.cP, hw.cell (by simp) h.cQ⟩
theorem Sd.other (h : Sd wN gB gP gQ g15 s l m B P Q aB aP b w) {g : Nat} (hw : Away [g] w w') (hg : wN.heap.size ≤ g) (h1 : g ∉ B.fp) (h2 : g ∉ P.fp) (h3 : g ∉ Q.fp) (h4 : g ≠ g15) : Sd wN gB gP gQ g15 s l m B P Q aB aP b w' :=
  ⟨h.eB, h.eP, h.eQ, h.both.away hw (fun z hz e => by simp at e; subst e; exact h1 hz), h.x.away hw (fun z hz e => by simp at e; subst e; exact h2 hz), h.y.away hw (fun z hz e => by simp at e; subst e; exact h3 hz), h.bx, h.by', h.xy, h.sB, h.sP, h.sb, h.fB, h.fP, h.fQ, Nat.lt_of_lt_of_le h.lt hw.size, h.new,
    h.aw.next hw (fun z hz => by simp at hz; subst hz; exact .inr hg), hw.cell (by simpa using fun e => h4 e.symm) h.cP, hw.cell (by simpa using fun e => h4 e.symm) h.cQ⟩
end
end Go.Proofs.YtkccpidgeecemaaGreatDoor
namespace Go.Proofs.YtkccpidgeecemaaGreatDoor
set_option linter.unusedVariables false
set_option linter.unusedSimpArgs false
set_option maxRecDepth 20000
def Leav (q : Qo) (now : Int) (cs : List Cel) (p : Pk) (put : Bool) (cs' : List Cel) : Prop :=
  ∀ k c', cs'[k]? = some c' → (∃ c ∈ cs, c.s.k = c'.s.k ∧ c.s.tb = c'.s.tb ∧ now - c'.s.tb < q.t) ∨
    (put = true ∧ k + 1 = cs'.length ∧ c'.s.tb = now ∧ c'.s.k = p ∧ ∀ c ∈ cs, kyB c.s.k p = true → q.t ≤ now - c.s.tb)
theorem take_late {q : Qo} {now : Int} : ∀ {cs : List Cel}, ∀ c ∈ cs, c ∈ cs.dropWhile (lateB q now) ∨ q.t ≤ now - c.s.tb
  | [], c, h => by simp at h
  | a :: r, c, h => by
    rw [List.dropWhile_cons]
    split
    · rename_i hl
      rcases List.mem_cons.1 h with rfl | h
      · right
        simpa [lateB] using hl
      · exact take_late c h
    · exact .inl h
theorem leav_put {q : Qo} {t now : Int} {cs cs' : List Cel} {p : Pk} {n : Int} {wh ks : List Pk} (h : Keep q t cs) (hr : Res q now (cs.dropWhile (lateB q now)) p n wh ks cs') (hf : From q now cs p cs') : Leav q now cs p true cs' := by
  have hsub := List.dropWhile_sublist (lateB q now) (l := cs)
  have hy := drop_late (t := t) (now := now) (q := q) h.srt
  have old : ∀ d ∈ cs.dropWhile (lateB q now), ∀ c' : Cel, d.s.k = c'.s.k → d.s.tb = c'.s.tb → (∃ c ∈ cs, c.s.k = c'.s.k ∧ c.s.tb = c'.s.tb ∧ now - c'.s.tb < q.t) := fun d hd c' h1 h2 =>
    ⟨d, hsub.subset hd, h1, h2, by rw [← h2]; exact hy d hd⟩
  intro k c' hc
  rcases hf k c' hc with ⟨c, h1, h2, h3, h4⟩ | ⟨h1, h2, h3⟩
  · exact .inl ⟨c, h1, h2, h3, by rw [← h3]; exact h4⟩
  · rcases hr with ⟨-, -, -, -, rfl⟩ | ⟨-, cs1, i, c, fp1, fp2, hcc, htk⟩
    · exact .inl (old c' (List.mem_of_getElem? hc) c' rfl rfl)
    · rcases hcc with ⟨rfl, h4, h5⟩ | ⟨h4, -⟩
      · have hcm := List.mem_of_getElem? h4
        have hkt := put_kt c.s p
        have key : ∀ x : Cel, x.s.k = c.s.k → x.s.tb = c.s.tb → ∀ d ∈ (cs.dropWhile (lateB q now)).set i x, (∃ e ∈ cs.dropWhile (lateB q now), e.s.k = d.s.k ∧ e.s.tb = d.s.tb) := fun x h6 h7 d hd => by
          rcases List.mem_or_eq_of_mem_set hd with h8 | rfl
          · exact ⟨d, h8, rfl, rfl⟩
          · exact ⟨c, hcm, h6.symm, h7.symm⟩
        have hm := List.mem_of_getElem? hc
        have fin : (∃ e ∈ cs.dropWhile (lateB q now), e.s.k = c'.s.k ∧ e.s.tb = c'.s.tb) := by
          unfold takeC at htk
          split at htk
          · simp only [Tk.mk.injEq] at htk
            obtain ⟨-, -, -, rfl⟩ := htk
            exact key _ hkt.1 hkt.2 c' (List.mem_of_mem_eraseIdx hm)
          · split at htk
            · simp only [Tk.mk.injEq] at htk
              obtain ⟨-, -, -, rfl⟩ := htk
              exact key ⟨poisS (putS c.s p).2, c.g, fp2⟩ hkt.1 hkt.2 c' (List.mem_of_mem_drop hm)
            · simp only [Tk.mk.injEq] at htk
              obtain ⟨-, -, -, rfl⟩ := htk
              exact key ⟨(putS c.s p).2, c.g, fp1⟩ hkt.1 hkt.2 c' (List.mem_of_mem_drop hm)
        obtain ⟨e, h6, h7, h8⟩ := fin
        exact .inl (old e h6 c' h7 h8)
      · refine .inr ⟨rfl, h1, h2, h3, fun c hc hk => ?_⟩
        rcases take_late (q := q) (now := now) c hc with h5 | h5
        · have h6 := h4 c h5
          rw [ky_symm] at h6
          rw [h6] at hk; simp at hk
        · exact h5
theorem res_len {q : Qo} {now : Int} {cs cs' : List Cel} {p : Pk} {n : Int} {wh ks : List Pk} (h : Res q now cs p n wh ks cs') : wh.length ≤ 1 := by
  rcases h with ⟨-, -, rfl, -, -⟩ | ⟨-, cs1, i, c, fp1, fp2, -, ht⟩
  · simp
  · unfold takeC at ht
    split at ht
    · simp only [Tk.mk.injEq] at ht; rw [← ht.2.1]; simp
    · split at ht
      · simp only [Tk.mk.injEq] at ht; rw [← ht.2.1]; simp
      · simp only [Tk.mk.injEq] at ht; rw [← ht.2.1]; simp
theorem told_len (q : Qo) (now : Int) (cs : List Cel) : (toldL (cs.takeWhile (lateB q now))).length ≤ cs.length := by
  unfold toldL
  exact Nat.le_trans (List.length_filterMap_le _ _) (List.takeWhile_sublist _).length_le
end Go.Proofs.YtkccpidgeecemaaGreatDoor
namespace Go.Proofs.YtkccpidgeecemaaGreatDoor
open Go.ChangeShapes Go.WideShapes Go.ChangeAt Go.RowKit
set_option linter.unusedVariables false
set_option linter.unusedSimpArgs false
set_option maxRecDepth 100000
structure Ts (w : World) (N : Nat) (T : T4) (q : Qo) (t : Int) (a : Option Es) : Prop where
  tab : Tab w T.g T.m T.o q t T.cs
  new : ∀ z ∈ T.fp, N ≤ z
  one : T.cs.map (·.s) = a.toList
  tb : ∀ s, a = some s → 0 ≤ s.tb ∧ s.tb ≤ t
  hs : ∀ s, a = some s → Hs s
section
variable {w w' : World} {N : Nat} {T : T4} {q : Qo} {t now : Int} {a : Option Es}
theorem Ts.away {S : List Nat} (h : Ts w N T q t a) (hw : Away S w w') (hS : ∀ z ∈ T.fp, z ∉ S) : Ts w' N T q t a := ⟨h.tab.away hw hS, h.new, h.one, h.tb, h.hs⟩
theorem Ts.on (h : Ts w N T q t a) (hw : Away [] w w') : Ts w' N T q t a := h.away hw (by simp)
theorem Ts.mem (h : Ts w N T q t a) {c : Cel} (hc : c ∈ T.cs) : a = some c.s := by
  have h1 : c.s ∈ T.cs.map (·.s) := List.mem_map_of_mem hc
  rw [h.one] at h1
  simpa using h1
theorem Ts.len (h : Ts w N T q t a) : T.cs.length = a.toList.length := by rw [← h.one, List.length_map]
theorem toList_le (a : Option Es) : a.toList.length ≤ 1 := by cases a <;> simp
def TsputO (w : World) (N : Nat) (T : T4) (q : Qo) (now : Int) (r : Int × List Pk × Option Es) (E : Ending) (w' : World) : Prop :=
  ∃ wa wc la lc ga gc xs T', E = .returned (.tuple #[.agg (csTo r.1 (.slice wa xs.length wc) (.slice la 0 lc) (.slice ga 0 gc)), .int .i64 0]) ∧ Cuts w' w.heap.size (.slice wa xs.length wc) xs ∧ xs.map X.p = r.2.1 ∧ T'.g = T.g ∧
    Ts w' N T' q now r.2.2 ∧ (∀ z ∈ T'.fp, z ∈ T.fp ∨ w.heap.size ≤ z) ∧ Away T.fp w w'
theorem apQ_tb {now : Int} {a : Option Es} {p : Pk} (h : ∀ s, a = some s → 0 ≤ s.tb ∧ s.tb ≤ now) (h0 : 0 ≤ now) : ∀ s, (apQ now a p).2.2 = some s → 0 ≤ s.tb ∧ s.tb ≤ now := by
  have h1 : 0 ≤ (a.getD (newS p now)).tb ∧ (a.getD (newS p now)).tb ≤ now := by
    cases a with
    | none => exact ⟨h0, Int.le_refl _⟩
    | some s => exact h s rfl
  have hkt := put_kt (a.getD (newS p now)) p
  intro s hs
  unfold apQ at hs
  split at hs
  · exact h s hs
  · split at hs
    · simp at hs
    · split at hs
      · injection hs with hs; rw [← hs]; show 0 ≤ (putS _ p).2.tb ∧ _; rw [show (poisS (putS (a.getD (newS p now)) p).2).tb = (putS (a.getD (newS p now)) p).2.tb from rfl, hkt.2]; exact h1
      · injection hs with hs; rw [← hs, hkt.2]; exact h1
theorem apQ_hs {now : Int} {a : Option Es} {p : Pk} (h : ∀ s, a = some s → Hs s) (hw : Wf p) : ∀ s, (apQ now a p).2.2 = some s → Hs s := by
  have h1 : Hs (a.getD (newS p now)) := by
    cases a with
    | none => exact hs_new p now
    | some s => exact h s rfl
  intro s hs
  unfold apQ at hs
  split at hs
  · exact h s hs
  · split at hs
    · simp at hs
    · split at hs
      · injection hs with hs; rw [← hs]; exact hs_pois _
      · injection hs with hs; rw [← hs]; exact hs_put h1 hw
theorem Ts.put (h : Ts w N T q t a) (hq : 2 ≤ q.e ∧ 131070 ≤ q.b ∧ q.h = 8192) (ht : 0 ≤ t ∧ t ≤ now ∧ now ≤ 1099511627776) (hN : 0 < N) (hg : Glob w) {p : Pk} {po pd : Value} (hk : Pkt w p po pd) (ho : p.o = []) (hd : ∀ k, pd.ownBlock = some k → k ∉ T.fp) (hr : rgt2 p = true)
    (hl : ∀ s, a = some s → now - s.tb < q.t) (ha : ∀ s, a = some s → isWhP p = false → kyB p s.k = true) :
    Calls Tryz.prog 10 #[.pointer (some ⟨T.g, 0, none⟩), .agg (csP p po pd), .int .i64 now] w (TsputO w N T q now (apQ now a p)) := by
  have hlen : T.cs.length ≤ 1 := by rw [h.len]; exact toList_le a
  have hin : PutIn w T.g T.m T.o q t T.cs p po pd := ⟨h.tab, hg, hk, ⟨fun e => absurd ho e, fun _ k hk => hd k hk⟩, fun hm => by have := h.new 0 hm; omega, fun c hc => h.tb c.s (h.mem hc), by omega, by omega, by omega⟩
  refine (tput_c hin now).mono ?_
  rintro E w' (⟨hx, -⟩ | ⟨-, n', wv, lv, gv, ov', xs, ys, ks, cs', rfl, hcw, hcl, hgk, hgn, hys, htab', hres, hfp, haw⟩)
  · rcases hx with h1 | h1 | h1
    · rw [hr] at h1; simp at h1
    · omega
    · omega
  · have hlf : ∀ c ∈ T.cs, lateB q now c = false := fun c hc => by
      have := hl c.s (h.mem hc)
      unfold lateB
      exact decide_eq_false (by omega)
    have e1 : T.cs.takeWhile (lateB q now) = [] := by
      cases hcs : T.cs with
      | nil => rfl
      | cons c r => rw [List.takeWhile_cons, hlf c (by rw [hcs]; simp)]; rfl
    have e2 : T.cs.dropWhile (lateB q now) = T.cs := by
      cases hcs : T.cs with
      | nil => rfl
      | cons c r => rw [List.dropWhile_cons, hlf c (by rw [hcs]; simp)]; rfl
    rw [e1] at hys
    rw [e2] at hres
    obtain ⟨rfl, hwh, rfl, hmix⟩ := res_mixQ hq (mix_one h.one) ha (by simp) (fun s e => by rcases e with e | e; exact h.hs s e; simp at e) hk.wf hres
    have hy0 : ys = [] := by
      have : (ys.map X.p).length = 0 := by rw [hys]; rfl
      rw [List.length_map] at this
      exact List.eq_nil_of_length_eq_zero this
    subst hy0
    have hxl : xs.length ≤ 1 := by have := res_len hres; rwa [List.length_map] at this
    obtain ⟨a1, c1, rfl, -⟩ := hcw.pks (by omega)
    obtain ⟨a2, c2, rfl, -⟩ := hcl.pks (by simp)
    obtain ⟨a3, c3, rfl⟩ : ∃ a3 c3, gv = .slice a3 0 c3 := by
      rcases hgk.shp with ⟨e, -⟩ | ⟨g, cap, e⟩
      · exact ⟨_, _, e⟩
      · exact ⟨_, _, e⟩
    refine ⟨a1, c1, a2, c2, a3, c3, xs, ⟨T.g, T.m, ov', cs'⟩, rfl, hcw, hwh, rfl, ⟨htab', fun z hz => ?_, hmix.one, apQ_tb (fun s e => ⟨(h.tb s e).1, by have := (h.tb s e).2; omega⟩) (by omega), apQ_hs h.hs hk.wf⟩, hfp, haw⟩
    rcases hfp z hz with h1 | h1
    · exact h.new z h1
    · have h2 := h.new T.g (mem_fpT.2 (.inl rfl))
      have h3 := h.tab.lt T.g (mem_fpT.2 (.inl rfl))
      omega
theorem Ts.tick (h : Ts w N T q t a) (ht : 0 ≤ t ∧ t ≤ now ∧ now ≤ 1099511627776) :
    Calls Tryz.prog 15 #[.pointer (some ⟨T.g, 0, none⟩), .int .i64 now] w fun E w' => ∃ la lc xs T', E = .returned (.tuple #[.agg (csTo 0 nilV (.slice la xs.length lc) nilV), .int .i64 0]) ∧ Cuts w' w.heap.size (.slice la xs.length lc) xs ∧ T'.g = T.g ∧
      (((∀ s, a = some s → now - s.tb < q.t) ∧ xs = [] ∧ Ts w' N T' q now a) ∨ ((∃ s, a = some s ∧ q.t ≤ now - s.tb ∧ xs.map X.p = if (firstP s).2 = true then [(firstP s).1] else []) ∧ Ts w' N T' q now none)) ∧ (∀ z ∈ T'.fp, z ∈ T.fp ∨ w.heap.size ≤ z) ∧ Away T.fp w w' := by
  refine (tick_c h.tab (fun c hc => h.tb c.s (h.mem hc)) (by omega) now).mono ?_
  rintro E w' (⟨h1, -⟩ | ⟨-, v, xs, ov', rfl, hcu, hm, htab, hob, haw⟩)
  · omega
  · have haw' : Away T.fp w w' := haw.mono (fun z hz => by
      simp only [List.mem_cons, Option.mem_toList] at hz
      rcases hz with rfl | rfl | hz
      · exact mem_fpT.2 (.inl rfl)
      · exact mem_fpT.2 (.inr (.inl rfl))
      · exact mem_fpT.2 (.inr (.inr (.inl hz))))
    have hf : ∀ z ∈ fpT T.g T.m ov' (T.cs.dropWhile (lateB q now)), z ∈ T.fp ∨ w.heap.size ≤ z := fun z hz => by
      rcases mem_fpT.1 hz with rfl | rfl | h1 | ⟨c, hc, h1⟩
      · exact .inl (mem_fpT.2 (.inl rfl))
      · exact .inl (mem_fpT.2 (.inr (.inl rfl)))
      · rw [hob] at h1; exact .inl (mem_fpT.2 (.inr (.inr (.inl h1))))
      · exact .inl (mem_fpT.2 (.inr (.inr (.inr ⟨c, (List.dropWhile_sublist _).subset hc, h1⟩))))
    have hnew : ∀ z ∈ fpT T.g T.m ov' (T.cs.dropWhile (lateB q now)), N ≤ z := fun z hz => by
      rcases hf z hz with h1 | h1
      · exact h.new z h1
      · have h2 := h.new T.g (mem_fpT.2 (.inl rfl))
        have h3 := h.tab.lt T.g (mem_fpT.2 (.inl rfl))
        omega
    have hxl : xs.length ≤ 1 := by
      have h1 := congrArg List.length hm
      rw [List.length_map] at h1
      have h2 := told_len q now T.cs
      have h3 := h.len
      have h4 := toList_le a
      omega
    obtain ⟨a1, c1, rfl, -⟩ := hcu.pks (by omega)
    refine ⟨a1, c1, xs, ⟨T.g, T.m, ov', T.cs.dropWhile (lateB q now)⟩, rfl, hcu, rfl, ?_, hf, haw'⟩
    cases hcs : T.cs with
    | nil =>
      have ha : a = none := by
        have := h.one
        rw [hcs] at this
        cases a with
        | none => rfl
        | some s => simp at this
      subst ha
      rw [hcs] at hm htab hnew
      left
      refine ⟨by simp, by simpa [toldL] using hm, ?_⟩
      exact ⟨by simpa using htab, fun z hz => hnew z (by simpa [T4.fp] using hz), by simp, by simp, by simp⟩
    | cons c r =>
      have hr0 : r = [] := by
        have h1 := h.len
        have h2 := toList_le a
        rw [hcs] at h1
        simp only [List.length_cons] at h1
        exact List.eq_nil_of_length_eq_zero (by omega)
      subst hr0
      have ha : a = some c.s := h.mem (by rw [hcs]; simp)
      subst ha
      rw [hcs] at hm htab hnew
      by_cases hlt : q.t ≤ now - c.s.tb
      · have hl : lateB q now c = true := decide_eq_true hlt
        rw [List.takeWhile_cons, hl] at hm
        rw [List.dropWhile_cons, hl] at htab hnew
        right
        refine ⟨⟨c.s, rfl, hlt, ?_⟩, ?_⟩
        · rw [hm]
          unfold toldL
          simp only [if_true, List.takeWhile_nil, List.filterMap_cons, List.filterMap_nil]
          split <;> simp_all
        · rw [List.dropWhile_cons, hl]
          exact ⟨by simpa using htab, fun z hz => hnew z (by simpa [T4.fp] using hz), by simp, by simp, by simp⟩
      · have hl : lateB q now c = false := decide_eq_false hlt
        rw [List.takeWhile_cons, hl] at hm
        rw [List.dropWhile_cons, hl] at htab hnew
        left
        refine ⟨fun s e => by injection e with e; rw [← e]; omega, by simpa [toldL] using hm, ?_⟩
        rw [List.dropWhile_cons, hl]
        exact ⟨by simpa using htab, fun z hz => hnew z (by simpa [T4.fp] using hz), by simp, fun s e => by have := h.tb s e; omega, h.hs⟩
end
end Go.Proofs.YtkccpidgeecemaaGreatDoor
