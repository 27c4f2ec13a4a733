/-
  isRight, New, isWhole, Holes, Poisoned.
-/
import Derived.Test.YtkccpidgeecemaaGreatDoorKkA
import Derived.Test.YtkccpidgeecemaaGreatDoorEPut
namespace Go.Proofs.YtkccpidgeecemaaGreatDoor
open Go.ChangeShapes Go.WideShapes Go.ChangeAt Go.RowKit
set_option linter.unusedVariables false
set_option linter.unusedSimpArgs false
set_option maxRecDepth 20000
structure Qo where
  e : Int
  b : Int
  h : Int
  t : Int
structure Cel where
  s : Es
  g : Nat
  fp : List Nat
def lookC (cs : List Cel) (p : Pk) : Option Nat := (cs.find? (fun c => kyB p c.s.k)).map (·.g)
def csT (q : Qo) (now : Int) (mb : Nat) (ov : Value) : Array Value := #[.int .i64 q.e, .int .i64 q.b, .int .i64 q.h, .int .i64 q.t, .int .i64 now, .map (some mb), ov]
structure Tab (w : World) (gt mb : Nat) (ov : Value) (q : Qo) (now : Int) (cs : List Cel) : Prop where
  blk : w.heap[gt]? = some (.cells (csT q now mb ov) 78 (0, 0))
  mp : MapT w mb cs.length (lookC cs)
  ord : K.LstK w ov (cs.map (·.s.k))
  ent : ∀ c ∈ cs, Ey w c.g c.s c.fp
  kwf : ∀ c ∈ cs, Wf c.s.k
  dist : cs.Pairwise (fun a b => kyB a.s.k b.s.k = false)
  sep : cs.Pairwise (fun a b => ∀ z ∈ a.fp, z ∉ b.fp)
  og : ∀ c ∈ cs, gt ∉ c.fp
  om : ∀ c ∈ cs, mb ∉ c.fp
  oo : ∀ c ∈ cs, ∀ k, ov.ownBlock = some k → k ∉ c.fp
  gm : gt ≠ mb
  go : ov.ownBlock ≠ some gt
  mo : ov.ownBlock ≠ some mb
  len : cs.length ≤ 1000
def fpT (gt mb : Nat) (ov : Value) (cs : List Cel) : List Nat := gt :: mb :: (ov.ownBlock.toList ++ cs.flatMap (·.fp))
theorem mem_fpT {gt mb z : Nat} {ov : Value} {cs : List Cel} : z ∈ fpT gt mb ov cs ↔ z = gt ∨ z = mb ∨ ov.ownBlock = some z ∨ ∃ c ∈ cs, z ∈ c.fp := by
  simp [fpT, List.mem_flatMap]
section
variable {w w' : World} {gt mb : Nat} {ov : Value} {q : Qo} {now : Int} {cs : List Cel}
theorem ky_symm (a b : Pk) : kyB a b = kyB b a := by
  rw [Bool.eq_iff_iff]
  simp only [kyB, Bool.and_eq_true, decide_eq_true_eq]
  constructor <;> (rintro ⟨h1, ⟨h2, h3⟩, ⟨h4, h5⟩, h6, h7⟩; exact ⟨h1.symm, ⟨h2.symm, h3.symm⟩, ⟨h4.symm, h5.symm⟩, h6.symm, h7.symm⟩)
theorem ky_self (a : Pk) : kyB a a = true := by simp [kyB]
theorem ky_trans {a b c : Pk} (h1 : kyB a b = true) (h2 : kyB b c = true) : kyB a c = true := by
  simp only [kyB, Bool.and_eq_true, decide_eq_true_eq] at h1 h2 ⊢
  obtain ⟨a1, ⟨a2, a3⟩, ⟨a4, a5⟩, a6, a7⟩ := h1
  obtain ⟨b1, ⟨b2, b3⟩, ⟨b4, b5⟩, b6, b7⟩ := h2
  exact ⟨a1.trans b1, ⟨a2.trans b2, a3.trans b3⟩, ⟨a4.trans b4, a5.trans b5⟩, a6.trans b6, a7.trans b7⟩
theorem Tab.lt (h : Tab w gt mb ov q now cs) : ∀ z ∈ fpT gt mb ov cs, z < w.heap.size := fun z hz => by
  rcases mem_fpT.1 hz with rfl | rfl | hz | ⟨c, hc, hz⟩
  · exact lt_of_block h.blk
  · exact h.mp.lt
  · exact h.ord.lt z hz
  · exact (h.ent c hc).ent.lt z hz
theorem Tab.away {S : List Nat} (h : Tab w gt mb ov q now cs) (hw : Away S w w') (hS : ∀ z ∈ fpT gt mb ov cs, z ∉ S) : Tab w' gt mb ov q now cs :=
  ⟨hw.keep (hS gt (mem_fpT.2 (.inl rfl))) h.blk, h.mp.away hw (hS mb (mem_fpT.2 (.inr (.inl rfl)))), h.ord.away hw (fun k hk => hS k (mem_fpT.2 (.inr (.inr (.inl hk))))),
    fun c hc => (h.ent c hc).away hw (fun z hz => hS z (mem_fpT.2 (.inr (.inr (.inr ⟨c, hc, hz⟩))))), h.kwf, h.dist, h.sep, h.og, h.om, h.oo, h.gm, h.go, h.mo, h.len⟩
theorem Tab.on (h : Tab w gt mb ov q now cs) (hw : Away [] w w') : Tab w' gt mb ov q now cs := h.away hw (by simp)
theorem Tab.cell (h : Tab w gt mb ov q now cs) (i : Nat) : w.cell? ⟨gt, i, none⟩ = (csT q now mb ov)[i]? := cell_of_block h.blk i
theorem Tab.free (h : Tab w gt mb ov q now cs) (i : Nat) : w.frozen? ⟨gt, i, none⟩ = false := free_of_block h.blk i
theorem Tab.keys (h : Tab w gt mb ov q now cs) : ∀ x ∈ cs.map (·.s.k), Ad x := fun x hx => by
  obtain ⟨c, hc, rfl⟩ := List.mem_map.1 hx
  exact (h.kwf c hc).ad
theorem look_at {i : Nat} {c : Cel} (hd : cs.Pairwise (fun a b => kyB a.s.k b.s.k = false)) (hc : cs[i]? = some c) {p : Pk} (hp : kyB p c.s.k = true) : lookC cs p = some c.g := by
  unfold lookC
  have : cs.find? (fun c => kyB p c.s.k) = some c := by
    induction cs generalizing i with
    | nil => simp at hc
    | cons a r ih =>
      cases i with
      | zero =>
        simp at hc
        subst hc
        simp [hp]
      | succ i =>
        simp at hc
        obtain ⟨h1, h2⟩ := List.pairwise_cons.1 hd
        have hm := List.mem_of_getElem? hc
        have : kyB p a.s.k = false := by
          rw [Bool.eq_false_iff]
          intro hpa
          have h3 := ky_trans (by rw [ky_symm]; exact hpa) hp
          rw [h1 c hm] at h3
          simp at h3
        rw [List.find?_cons_of_neg (by simpa using this)]
        exact ih h2 hc
  rw [this]; rfl
theorem look_none {p : Pk} (h : ∀ c ∈ cs, kyB p c.s.k = false) : lookC cs p = none := by
  unfold lookC
  rw [List.find?_eq_none.2 (fun c hc => by rw [h c hc]; simp)]; rfl
theorem look_erase (hd : cs.Pairwise (fun a b => kyB a.s.k b.s.k = false)) {i : Nat} {c : Cel} (hc : cs[i]? = some c) (p : Pk) : lookC (cs.eraseIdx i) p = if kyB p c.s.k = true then none else lookC cs p := by
  induction cs generalizing i with
  | nil => simp at hc
  | cons a r ih =>
    obtain ⟨h1, h2⟩ := List.pairwise_cons.1 hd
    cases i with
    | zero =>
      simp at hc
      subst hc
      simp only [List.eraseIdx_zero, List.tail_cons]
      split
      · rename_i hp
        refine look_none fun b hb => ?_
        rw [Bool.eq_false_iff]
        intro hpb
        have h3 := ky_trans (by rw [ky_symm]; exact hp) hpb
        rw [h1 b hb] at h3
        simp at h3
      · rename_i hp
        unfold lookC
        rw [List.find?_cons_of_neg (by simpa using hp)]
    | succ i =>
      simp at hc
      have hm := List.mem_of_getElem? hc
      simp only [List.eraseIdx_cons_succ]
      by_cases ha : kyB p a.s.k = true
      · have : ¬ (kyB p c.s.k = true) := fun hpc => by
          have h3 := ky_trans (by rw [ky_symm]; exact ha) hpc
          rw [h1 c hm] at h3
          simp at h3
        rw [if_neg this]
        unfold lookC
        rw [List.find?_cons_of_pos (by simpa using ha), List.find?_cons_of_pos (by simpa using ha)]
      · have e := ih h2 hc
        unfold lookC at e ⊢
        rw [List.find?_cons_of_neg (by simpa using ha), List.find?_cons_of_neg (by simpa using ha)]
        exact e
theorem look_snoc {c : Cel} (p : Pk) (hn : ∀ x ∈ cs, kyB c.s.k x.s.k = false) : lookC (cs ++ [c]) p = if kyB p c.s.k = true then some c.g else lookC cs p := by
  unfold lookC
  rw [List.find?_append]
  split
  · rename_i hp
    have : cs.find? (fun c => kyB p c.s.k) = none := List.find?_eq_none.2 (fun x hx => by
      have h1 := hn x hx
      intro hpx
      have h3 := ky_trans (by rw [ky_symm]; exact hp) hpx
      rw [h1] at h3
      simp at h3)
    rw [this]
    simp [hp]
  · rename_i hp
    have : [c].find? (fun c => kyB p c.s.k) = none := by simpa using hp
    rw [this]
    simp
end
end Go.Proofs.YtkccpidgeecemaaGreatDoor
namespace Go.Proofs.YtkccpidgeecemaaGreatDoor
open Go.ChangeShapes Go.WideShapes Go.ChangeAt Go.RowKit
open S6 (wp_region_cls quiet_val quiet_call quiet_ld ld3 ld4 ld5 ld25 ld26 load28_run load24m_run)
set_option linter.unusedVariables false
set_option linter.unusedSimpArgs false
set_option maxRecDepth 100000
theorem ldM {w : World} {ad : Addr} {z : Option Nat} (h : w.cell? ad = some (.map z)) : (Instr.loadAt 76 (.pointer (some ad))).run Tryz.prog w = .ok (.map z) w := by
  simp [go_sem, Instr.loadAt, Instr.sureAddr, h]
theorem ldS {w : World} {ad : Addr} {a : Option Addr} {n c : Nat} (h : w.cell? ad = some (.slice a n c)) : (Instr.loadAt 31 (.pointer (some ad))).run Tryz.prog w = .ok (.slice a n c) w := by
  simp [go_sem, Instr.loadAt, Instr.sureAddr, h]
theorem quiet_lk {o : Oper} {a : Act} {C : World → Prop} {K : Act → Prop} {v : Value} (m x : Operand) (c : Bool) (ho : o.op = .lookup 76 m x c) (mv kv : Value) (hm : a.eval m = mv) (hx : a.eval x = kv) (hC : ∀ w, C w → (Instr.lookup 76 mv kv c).run Tryz.prog w = .ok v w) (hk : K (a.put o.dst v)) : o.quiet Tryz.prog a C K := by
  refine ⟨v, fun w hw => ?_, hk⟩
  unfold Oper.quietAt execOp
  simp only [ho, hm, hx, Sem.run_bind, hC w hw, Result.andThen_ok]
  exact ⟨rfl, rfl⟩
theorem step_del {ops : Array Oper} {o : Oper} {a : Act} {w : World} {K : Act → World → Prop} {Q : Exit → Act → World → Prop} {E : Prop} (hg : o.guard = none) (m x : Operand) (ho : o.op = .call { callee := .builtin .delete, args := #[m, x], argTypes := #[76, 55] })
    (b n : Nat) (f : Pk → Option Nat) (p : Pk) (hm : a.eval m = .map (some b)) (hx : a.eval x = .agg (csK p)) (h : MapT w b n f) (hp : Wf p)
    (hk : ∀ w', MapT w' b (n - if (f p).isSome then 1 else 0) (fun q => if kyB q p = true then none else f q) → Away [b] w w' → K (a.put o.dst (.tuple #[])) w') : if Region.wanted o (yielded ops a.tmps) = true then Oper.wp Tryz.prog o a w K Q else E := by
  have hw : Region.wanted o (yielded ops a.tmps) = true := by simp [Region.wanted, hg]
  rw [if_pos hw]
  obtain ⟨w', hrun, r1, r2⟩ := h.del hp o.type
  unfold Oper.wp
  simp [execOp, ho, resolve, invoke, builtin, hm, hx, hrun, Result.andThen]
  exact hk w' r1 r2
section
variable {w w' : World} {gt mb : Nat} {ov : Value} {q : Qo} {now : Int} {cs : List Cel}
theorem Tab.ob (h : Tab w gt mb ov q now cs) (hc : cs ≠ []) : ∃ ob cap, ov = .slice (some ⟨ob, 0, none⟩) cs.length cap := by
  rcases h.ord.shp with ⟨-, h2⟩ | ⟨g, cap, h2⟩
  · exact absurd (List.map_eq_nil_iff.1 h2) hc
  · rw [List.length_map] at h2; exact ⟨g, cap, h2⟩
set_option maxHeartbeats 4000000 in
theorem oldest_c {c : Cel} {r : List Cel} (h : Tab w gt mb ov q now (c :: r)) : Calls Tryz.prog 57 #[.pointer (some ⟨gt, 0, none⟩)] w fun E w' => E = .returned (.pointer (some ⟨c.g, 0, none⟩)) ∧ Away [] w w' := by
  obtain ⟨ob, cap, rfl⟩ := h.ob (by simp)
  have HT := Lib.hid h
  have HRG : Hid (w.rangeAt ob 0 (listK c.s.k)) := by
    have h1 := h.ord
    have h2 := K.LstK.at (w := w) (g := ob) (cap := cap) (xs := (c :: r).map (·.s.k)) (by rw [List.length_map]; exact h1) h.keys (i := 0) (x := c.s.k) (by simp)
    simp at h2
    exact h2
  have HKW := Lib.hid (h.kwf c (by simp))
  have HLK : Hid (∀ W, Away [] w W → (Instr.lookup 76 (.map (some mb)) (.agg (csK c.s.k)) false).run Tryz.prog W = .ok (.pointer (some ⟨c.g, 0, none⟩)) W) := fun W hW => by
    have h1 := (HT.out.mp.on hW).look HKW.out
    rw [look_at (i := 0) (c := c) HT.out.dist (by simp) (ky_self _)] at h1
    exact h1
  obtain ⟨n, hn⟩ : ∃ n, n = (c :: r).length := ⟨_, rfl⟩
  have hn0 : 0 < n := by rw [hn]; simp
  have HC5 : Hid (w.cell? ⟨gt, 5, none⟩ = some (.map (some mb))) := h.cell 5
  have HC6 : Hid (w.cell? ⟨gt, 6, none⟩ = some (.slice (some ⟨ob, 0, none⟩) n cap)) := by rw [hn]; exact h.cell 6
  have HC0 : Hid (Away [] w w.drew) := (Away.refl _ _).drew
  have j1 : (0 : Int) < (n : Int) := by omega
  clear h hn
  go_enter Tryz.func57, Tryz.ntmps57
  go_wp2_with fail
  refine wp_region_cls (C := fun w' => Away [] w w') (by kernel_rfl) (by kernel_rfl) HC0.out ?_
  iterate 3 (go_big_quiet_want; (refine quiet_val ?_ ?_ ?_; rotate_left; (intro w; go_simp; rfl); go_simp; go_big_quiet_on))
  go_big_quiet_want; refine quiet_ld _ rfl (ad := ⟨gt, 5, none⟩) rfl (fun w' h => ldM (h.cell (by simp) HC5.out)) ?_; go_simp; go_big_quiet_on
  iterate 3 (go_big_quiet_want; (refine quiet_val ?_ ?_ ?_; rotate_left; (intro w; go_simp; rfl); go_simp; go_big_quiet_on))
  go_big_quiet_want; refine quiet_ld _ rfl (ad := ⟨gt, 6, none⟩) rfl (fun w' h => ldS (h.cell (by simp) HC6.out)) ?_; go_simp; go_big_quiet_on
  go_big_quiet_want; (refine quiet_val ?_ ?_ ?_; rotate_left; (intro w; go_simp; rfl); go_simp; go_big_quiet_on)
  go_big_quiet_want; refine quiet_ld _ rfl (ad := ⟨ob, 0, none⟩) rfl (fun w' h => load29_run (range_away h (by simp) HRG.out) HKW.out.ad) ?_; go_simp; go_big_quiet_on
  go_big_quiet_want; refine quiet_lk _ _ false rfl (.map (some mb)) (.agg (csK c.s.k)) rfl rfl HLK.out ?_; go_simp; go_big_quiet_on
  go_big_quiet_want; (refine quiet_val ?_ ?_ ?_; rotate_left; (intro w; go_simp; rfl); go_simp; go_big_quiet_on)
  refine wpQuiet_nil ?_
  intro V hV
  go_wp2_with fail
  go_ret
  exact ⟨rfl, hV⟩
theorem csT_set (q : Qo) (now : Int) (mb : Nat) (ov u : Value) : (csT q now mb ov).setIfInBounds 6 u = csT q now mb u := rfl
theorem csT_now (q : Qo) (now t : Int) (mb : Nat) (ov : Value) : (csT q now mb ov).setIfInBounds 4 (.int .i64 t) = csT q t mb ov := rfl
theorem away_one' (w : World) (g i : Nat) (u : Value) : Away [g] w (w.setCell ⟨g, i, none⟩ u) := (Away.refl _ _).setCell (.inl (by simp)) u
theorem pw_erase {R : Cel → Cel → Prop} (h : cs.Pairwise R) (i : Nat) : (cs.eraseIdx i).Pairwise R := h.sublist (List.eraseIdx_sublist _ _)
theorem Tab.erase {ob n n' cap : Nat} (h : Tab w gt mb (.slice (some ⟨ob, 0, none⟩) n cap) q now cs) (i : Nat) (hw : Away [gt, mb, ob] w w') (hb : w'.heap[gt]? = some (.cells (csT q now mb (.slice (some ⟨ob, 0, none⟩) n' cap)) 78 (0, 0)))
    (hm : MapT w' mb (cs.eraseIdx i).length (lookC (cs.eraseIdx i))) (ho : K.LstK w' (.slice (some ⟨ob, 0, none⟩) n' cap) ((cs.eraseIdx i).map (·.s.k))) : Tab w' gt mb (.slice (some ⟨ob, 0, none⟩) n' cap) q now (cs.eraseIdx i) := by
  have hs : ∀ c ∈ cs.eraseIdx i, c ∈ cs := fun c hc => List.mem_of_mem_eraseIdx hc
  refine ⟨hb, hm, ho, fun c hc => (h.ent c (hs c hc)).away hw (fun z hz hm => ?_), fun c hc => h.kwf c (hs c hc), pw_erase h.dist i, pw_erase h.sep i, fun c hc => h.og c (hs c hc), fun c hc => h.om c (hs c hc), fun c hc => h.oo c (hs c hc), h.gm, h.go, h.mo, ?_⟩
  · simp only [List.mem_cons, List.not_mem_nil, or_false] at hm
    rcases hm with rfl | rfl | rfl
    · exact h.og c (hs c hc) hz
    · exact h.om c (hs c hc) hz
    · exact h.oo c (hs c hc) _ rfl hz
  · have h1 := h.len
    have h2 := List.length_eraseIdx_le cs i
    omega
set_option maxHeartbeats 8000000 in
theorem drop_c {i : Nat} {c : Cel} (h : Tab w gt mb ov q now cs) (hc : cs[i]? = some c) (k : Pk) (hk : Wf k) (hky : kyB k c.s.k = true) :
    Calls Tryz.prog 53 #[.pointer (some ⟨gt, 0, none⟩), .agg (csK k)] w fun E w' => E = .returned (.tuple #[]) ∧ ∃ ov', Tab w' gt mb ov' q now (cs.eraseIdx i) ∧ ov'.ownBlock = ov.ownBlock ∧ Away (gt :: mb :: ov.ownBlock.toList) w w' := by
  have hi := lt_of_get hc
  obtain ⟨ob, cap, rfl⟩ := h.ob (fun e => by rw [e] at hi; simp at hi)
  have HT := Lib.hid h
  have HK := Lib.hid hk
  have HC := Lib.hid hc
  have HKY := Lib.hid hky
  have hlen := h.len
  obtain ⟨n, hn⟩ : ∃ n, n = cs.length := ⟨_, rfl⟩
  obtain ⟨m, hm⟩ : ∃ m, n = i + 1 + m := ⟨n - (i + 1), by omega⟩
  rw [← hn] at hlen hi
  have HN := Lib.hid hn
  have HM := Lib.hid hm
  have HNE : Hid (gt ≠ mb ∧ gt ≠ ob ∧ mb ≠ ob) := ⟨h.gm, fun e => h.go (by rw [e]; rfl), fun e => h.mo (by rw [e]; rfl)⟩
  have hb3 : BoxK (w.alloc (.cells (csK k) 55)) w.heap.size (csK k) := block_new _ _
  have haw3 : Away [] w (w.alloc (.cells (csK k) 55)) := (Away.refl _ _).alloc _
  have HLT : Hid (gt < w.heap.size ∧ mb < w.heap.size ∧ ob < w.heap.size) := ⟨lt_of_block h.blk, h.mp.lt, h.ord.lt _ rfl⟩
  clear h hk hc hky hn hm
  go_enter Tryz.func53, Tryz.ntmps53
  go_wp2_with fail
  obtain ⟨g3, hg3⟩ : ∃ z, z = w.heap.size := ⟨_, rfl⟩
  obtain ⟨w1, hw1⟩ : ∃ z, z = w.alloc (.cells (csK k) 55) := ⟨_, rfl⟩
  rw [← hg3, ← hw1] at hb3 ⊢
  rw [← hw1] at haw3
  have HB := Lib.hid hb3
  have HW := Lib.hid haw3
  have HG3 : Hid (g3 ≠ gt ∧ g3 ≠ mb ∧ g3 ≠ ob) := by have h1 := HLT.out; rw [hg3]; exact ⟨by omega, by omega, by omega⟩
  clear hb3 haw3 hg3 hw1
  have HT1 := Lib.hid (HT.out.on HW.out)
  refine wp_region_held_drew (S := fun w' => w'.heap[gt]? = some (.cells (csT q now mb (.slice (some ⟨ob, 0, none⟩) cs.length cap)) 78 (0, 0)) ∧ BoxK w' g3 (csK k)) (by kernel_rfl) (by exact ⟨HT1.out.blk, HB.out⟩) (fun hHeld => ?_)
  refine tkA 0 (v := ?_) (by simp only [gA, g1, g0]; rfl) (by kernel_rfl) (by exact fun _ _ _ h => h) (Or.inl ⟨by rfl, ?_⟩) (by assumption) ?_; rotate_left; focus (intro wq hSw; (try dsimp only at hSw); go_simp; all_goals (with_reducible rfl))
  try simp only [Act.put, sA, s0, s1]
  refine tkA 1 (v := ?_) (by simp only [gA, g1, g0]; rfl) (by kernel_rfl) (by exact fun _ _ _ h => h) (Or.inl ⟨by rfl, ?_⟩) (by assumption) ?_; rotate_left; focus (intro wq hSw; (try dsimp only at hSw); go_simp; all_goals (with_reducible rfl))
  try simp only [Act.put, sA, s0, s1]
  refine tkA 2 (v := ?_) (by simp only [gA, g1, g0]; rfl) (by kernel_rfl) (by exact fun _ _ _ h => h) (Or.inl ⟨by rfl, ?_⟩) (by assumption) ?_; rotate_left; focus (intro wq hSw; (try dsimp only at hSw); go_simp; all_goals (with_reducible rfl))
  try simp only [Act.put, sA, s0, s1]
  refine tkA 3 (by simp only [gA, g1, g0]; rfl) (by kernel_rfl) (by exact fun _ _ _ h => h) (yields_ld (ad := ⟨gt, 5, none⟩) (by rfl) _ rfl rfl (fun w' h => ldM (cell_of_block h.1 5))) (by assumption) ?_; try simp only [Act.put, sA, s0, s1]
  refine tkA 4 (by simp only [gA, g1, g0]; rfl) (by kernel_rfl) (by exact fun _ _ _ h => h) (yields_ld (ad := ⟨g3, 0, none⟩) (by rfl) _ rfl rfl (fun w' h => load29_run (boxK_range h.2) HK.out.ad)) (by assumption) ?_; try simp only [Act.put, sA, s0, s1]
  refine wpAnyH_ready (rs := [5]) (by kernel_rfl) (by simp) ?_
  refine AllReadyH.cons (by simp only [gA, g1, g0]; rfl) (fun K hK => ?_) AllReadyH.nil
  refine step_del rfl _ _ rfl mb n (lookC cs) k rfl rfl (by have h1 := HT1.out.mp; rw [← HN.out] at h1; exact h1) HK.out ?_
  intro w2 hm2 haw2
  have HM2 := Lib.hid hm2
  have HA2 : Hid (Away [mb] w1 w2) := ⟨haw2.os, haw2.tape, haw2.output, haw2.size, haw2.block⟩
  clear hm2 haw2
  refine hK.out _ _ (by exact ⟨(HA2.out.keep (by simpa using HNE.out.1) HT1.out.blk), (HA2.out.keep (by simpa using HG3.out.2.1) HB.out)⟩) (fun hHeld => ?_)
  clear hK K
  try simp only [Act.put, sA, s0, s1]
  refine wpAnyH_done (by kernel_rfl) ?_ _
  have HL2 : Hid (K.LstK w2 (.slice (some ⟨ob, 0, none⟩) (cs.map (·.s.k)).length cap) (cs.map (·.s.k))) := by
    have h1 := HT1.out.ord.away HA2.out (fun z hz => by simp [Value.ownBlock] at hz; subst hz; simpa using fun e => HNE.out.2.2 e.symm)
    rw [List.length_map]; exact h1
  have HKL : Hid ((cs.map (·.s.k)).length = n) := by show _ = _; rw [List.length_map, HN.out]
  have K61 : Hid (∀ W, Away [] w2 W → Calls Tryz.prog 72 #[.slice (some ⟨ob, 0, none⟩) n cap, .agg (csK k)] W fun E w' => E = .returned (.int .i64 (i : Int)) ∧ Away [] w2 w') := fun W hW => by
    have h1 := K.index_c W ob cap (cs.map (·.s.k)) k c.s.k i (HL2.out.on hW) HT1.out.keys HK.out.ad (by rw [HKL.out]; omega) (by rw [List.getElem?_map, HC.out]; rfl) HKY.out (fun j y hj hy => by
      rw [List.getElem?_map] at hy
      cases hcj : cs[j]? with
      | none => rw [hcj] at hy; simp at hy
      | some d =>
        rw [hcj] at hy
        simp only [Option.map_some, Option.some.injEq] at hy
        subst hy
        rw [Bool.eq_false_iff]
        intro hkd
        have h2 := List.pairwise_iff_getElem.1 HT1.out.dist j i (lt_of_get hcj) (lt_of_get HC.out) hj
        have e1 : cs[j]'(lt_of_get hcj) = d := (List.getElem?_eq_some_iff.1 hcj).2
        have e2 : cs[i]'(lt_of_get HC.out) = c := (List.getElem?_eq_some_iff.1 HC.out).2
        rw [e1, e2] at h2
        have h3 := ky_trans (by rw [ky_symm]; exact hkd) HKY.out
        rw [h2] at h3
        simp at h3)
    rw [HKL.out] at h1
    exact h1.mono fun E w' h => ⟨h.1, hW.trans h.2⟩
  have HB2 : Hid (BoxK w2 g3 (csK k)) := HA2.out.keep (by simpa using HG3.out.2.1) HB.out
  have HT2 : Hid (w2.heap[gt]? = some (.cells (csT q now mb (.slice (some ⟨ob, 0, none⟩) n cap)) 78 (0, 0))) := by have h1 := HA2.out.keep (by simpa using HNE.out.1) HT1.out.blk; rw [← HN.out] at h1; exact h1
  have HCC : Hid (Away [] w2 w2.drew) := (Away.refl _ _).drew
  clear hHeld
  go_wp2_with fail
  refine wp_region_cls (C := fun w' => Away [] w2 w') (by kernel_rfl) (by kernel_rfl) HCC.out ?_
  iterate 3 (go_big_quiet_want; (refine quiet_val ?_ ?_ ?_; rotate_left; (intro w; go_simp; rfl); go_simp; go_big_quiet_on))
  go_big_quiet_want; refine quiet_ld _ rfl (ad := ⟨gt, 6, none⟩) rfl (fun w' h => ldS (h.cell (by simp) (cell_of_block HT2.out 6))) ?_; go_simp; go_big_quiet_on
  go_big_quiet_want; refine quiet_ld _ rfl (ad := ⟨g3, 0, none⟩) rfl (fun w' h => load29_run (boxK_range (h.keep (by simp) HB2.out)) HK.out.ad) ?_; go_simp; go_big_quiet_on
  go_big_quiet_want; refine quiet_call 72 #[.slice (some ⟨ob, 0, none⟩) n cap, .agg (csK k)] (.int .i64 (i : Int)) ?_ K61.out ?_
  · intro w; go_simp; all_goals (with_reducible rfl)
  go_simp; go_big_quiet_on
  go_big_quiet_want; (refine quiet_val ?_ ?_ ?_; rotate_left; (intro w; go_simp; rfl); go_simp; go_big_quiet_on)
  refine wpQuiet_nil ?_
  intro V hV
  have HV := Lib.hid hV
  clear hV
  have c6 : V.cell? ⟨gt, 6, none⟩ = some (.slice (some ⟨ob, 0, none⟩) n cap) := HV.out.cell (by simp) (cell_of_block HT2.out 6)
  have K62 : Hid (Calls Tryz.prog 73 #[.slice (some ⟨ob, 0, none⟩) n cap, .int .i64 (i : Int), .int .i64 ((i : Int) + 1)] V fun E w' => E = .returned (.slice (some ⟨ob, 0, none⟩) (i + m) cap) ∧ K.LstK w' (.slice (some ⟨ob, 0, none⟩) (i + m) cap) ((cs.map (·.s.k)).eraseIdx i) ∧ Away [ob] V w') := by
    have h1 := K.delete_c V ob cap (cs.map (·.s.k)) i m (HL2.out.on HV.out) HT1.out.keys (by rw [HKL.out]; omega) (by rw [HKL.out]; exact HM.out)
    rw [HKL.out] at h1
    exact h1
  go_wp2_with fail
  refine K62.out.mono ?_
  rintro E w4 ⟨rfl, hl4, haw4⟩
  have HL4 := Lib.hid hl4
  have HA4 := Lib.hid haw4
  have HT4 : Hid (w4.heap[gt]? = some (.cells (csT q now mb (.slice (some ⟨ob, 0, none⟩) n cap)) 78 (0, 0))) := haw4.keep (by simpa using HNE.out.2.1) (HV.out.keep (by simp) HT2.out)
  have c6' : w4.cell? ⟨gt, 6, none⟩ = some (.slice (some ⟨ob, 0, none⟩) n cap) := cell_of_block HT4.out 6
  have f6' : w4.frozen? ⟨gt, 6, none⟩ = false := free_of_block HT4.out 6
  clear hl4 haw4 K62 c6
  go_wp2_with fail
  go_end0
  refine ⟨rfl, .slice (some ⟨ob, 0, none⟩) (i + m) cap, ?_, rfl, ?_⟩
  · refine HT.out.erase i ?_ ?_ ?_ ?_
    · have a1 : Away [gt, mb, ob] w w2 := (HW.out.mono (by simp)).trans (HA2.out.mono (by simp))
      exact ((a1.trans (HV.out.mono (by simp))).trans (HA4.out.mono (by simp))).trans ((away_one' w4 gt 6 _).mono (by simp))
    · have h1 := block_set HT4.out 6 (.slice (some ⟨ob, 0, none⟩) (i + m) cap)
      rw [csT_set] at h1
      exact h1
    · have h1 : MapT w2 mb (cs.eraseIdx i).length (lookC (cs.eraseIdx i)) := by
        have h2 := HM2.out
        have h3 : lookC cs k = some c.g := look_at HT1.out.dist HC.out HKY.out
        rw [h3] at h2
        have h4 : (cs.eraseIdx i).length = n - 1 := by rw [List.length_eraseIdx, if_pos (lt_of_get HC.out), HN.out]
        rw [h4]
        have h5 : (fun p => if kyB p k = true then none else lookC cs p) = lookC (cs.eraseIdx i) := funext fun p => by
          rw [look_erase HT1.out.dist HC.out p]
          have : kyB p k = kyB p c.s.k := by
            rw [Bool.eq_iff_iff]
            exact ⟨fun h => ky_trans h HKY.out, fun h => ky_trans h (by rw [ky_symm]; exact HKY.out)⟩
          rw [this]
        rw [h5] at h2
        simpa using h2
      exact ((h1.on HV.out).away HA4.out (by simpa using HNE.out.2.2)).away (away_one' w4 gt 6 _) (by simpa using fun e => HNE.out.1 e.symm)
    · have h1 : (cs.map (·.s.k)).eraseIdx i = (cs.eraseIdx i).map (·.s.k) := by simp [List.eraseIdx_eq_take_drop_succ]
      rw [h1] at HL4
      exact HL4.out.away (away_one' w4 gt 6 _) (fun z hz => by simp [Value.ownBlock] at hz; subst hz; simpa using fun e => HNE.out.2.1 e.symm)
  · have a1 : Away [gt, mb, ob] w w2 := (HW.out.mono (by simp)).trans (HA2.out.mono (by simp))
    exact ((a1.trans (HV.out.mono (by simp))).trans (HA4.out.mono (by simp))).trans ((away_one' w4 gt 6 _).mono (by simp))
end
def sumC (cs : List Cel) : Int := (cs.map (·.s.h)).sum
theorem ey_h {w : World} {g : Nat} {s : Es} {fp : List Nat} (h : Ey w g s fp) : 0 ≤ s.h ∧ s.h ≤ 65535 := by
  cases hb : s.bad with
  | true =>
    rcases h.ent with ⟨⟨-, -, h3, -⟩, -⟩ | ⟨lb, lv, dv, ov, mb, mn, h1, h2, h3⟩
    · rw [h3]; simp [poisS]
    · have := h1.nb; rw [hb] at this; simp at this
  | false =>
    obtain ⟨T, hT⟩ := h.iv hb
    have h1 := hT.cnt
    have h2 := cnt_le T 65535
    omega
theorem sumC_bd : ∀ {cs : List Cel}, (∀ c ∈ cs, 0 ≤ c.s.h ∧ c.s.h ≤ 65535) → 0 ≤ sumC cs ∧ sumC cs ≤ 65535 * cs.length
  | [], _ => by simp [sumC]
  | c :: r, h => by
    have h1 := h c (by simp)
    have h2 := sumC_bd (fun x hx => h x (by simp [hx])) (cs := r)
    simp only [sumC, List.map_cons, List.sum_cons, List.length_cons] at h2 ⊢
    omega
theorem sumC_take {cs : List Cel} {k : Nat} {c : Cel} (hc : cs[k]? = some c) : sumC (cs.take (k + 1)) = sumC (cs.take k) + c.s.h := by
  have hk := lt_of_get hc
  rw [List.take_succ_eq_append_getElem hk]
  have : cs[k] = c := (List.getElem?_eq_some_iff.1 hc).2
  simp [sumC, this]
section
variable {w w' : World} {gt mb : Nat} {ov : Value} {q : Qo} {now : Int} {cs : List Cel}
theorem Tab.shape (h : Tab w gt mb ov q now cs) : ∃ oa cap, ov = .slice oa cs.length cap ∧ ∀ i c, cs[i]? = some c → ∃ ob, oa = some ⟨ob, 0, none⟩ ∧ w.rangeAt ob (i * 37) (listK c.s.k) := by
  rcases h.ord.shp with ⟨h1, h2⟩ | ⟨g, cap, h2⟩
  · have : cs = [] := List.map_eq_nil_iff.1 h2
    subst this
    exact ⟨none, 0, h1, fun i c hc => by simp at hc⟩
  · rw [List.length_map] at h2
    refine ⟨some ⟨g, 0, none⟩, cap, h2, fun i c hc => ⟨g, rfl, ?_⟩⟩
    have h1 := h.ord
    rw [h2] at h1
    have h3 := K.LstK.at (w := w) (g := g) (cap := cap) (xs := cs.map (·.s.k)) (by rw [List.length_map]; exact h1) h.keys (i := i) (x := c.s.k) (by rw [List.getElem?_map, hc]; rfl)
    rw [Nat.zero_add] at h3
    exact h3
set_option maxHeartbeats 8000000 in
theorem tbytes_c (h : Tab w gt mb ov q now cs) : Calls Tryz.prog 16 #[.pointer (some ⟨gt, 0, none⟩)] w fun E w' => E = .returned (.int .i64 (sumC cs)) ∧ Away [] w w' := by
  obtain ⟨oa, cap, rfl, hsh⟩ := h.shape
  have HT := Lib.hid h
  have HSH := Lib.hid hsh
  have hlen := h.len
  have HBD : Hid (∀ c ∈ cs, 0 ≤ c.s.h ∧ c.s.h ≤ 65535) := fun c hc => ey_h (h.ent c hc)
  obtain ⟨n, hn⟩ : ∃ n, n = cs.length := ⟨_, rfl⟩
  have c5 : w.cell? ⟨gt, 5, none⟩ = some (.map (some mb)) := h.cell 5
  have c6 : w.cell? ⟨gt, 6, none⟩ = some (.slice oa n cap) := by rw [hn]; exact h.cell 6
  have C5 := Lib.hid c5
  rw [← hn] at hlen
  have HN := Lib.hid hn
  clear h hsh hn
  go_enter Tryz.func16, Tryz.ntmps16
  go_wp2_with fail
  go_loopw [3, 11] (fun sv i wr => ∃ k : Nat, k ≤ n ∧ sv = .int .i64 (sumC (cs.take k)) ∧ i = .int .i64 (k : Int) ∧ Away [] w wr) (fun _ i _ => n - (intOf i).toNat)
  case atStart => exact ⟨0, by omega, by simp [sumC], rfl, Away.refl _ _⟩
  case round =>
    obtain ⟨k, hk, rfl, rfl, haw⟩ := hrel
    have HAW := Lib.hid haw
    clear haw
    by_cases hlt : k < n
    · have j1 : (k : Int) < (n : Int) := by omega
      have j2 : 0 ≤ (k : Int) := by omega
      have j3 : ((k : Int)).toNat = k := by omega
      obtain ⟨c, hc, hcm⟩ := get_of (show k < cs.length by rw [← HN.out]; exact hlt)
      obtain ⟨ob, hob, hrg⟩ := HSH.out k c hc
      subst hob
      have HRG : Hid (wr.rangeAt ob (k * 37) (listK c.s.k)) := range_away HAW.out (by simp) hrg
      have HKW := Lib.hid (HT.out.kwf c hcm)
      have HST : Hid (sumC (cs.take (k + 1)) = sumC (cs.take k) + c.s.h) := sumC_take hc
      have hb1 := sumC_bd (cs := cs.take k) (fun x hx => HBD.out x (List.mem_of_mem_take hx))
      have hb2 := HBD.out c hcm
      have hb3 : (cs.take k).length ≤ 1000 := by rw [List.length_take]; have := HN.out; omega
      have HEY := Lib.hid (HT.out.ent c hcm)
      have HLK0 : Hid (lookC cs c.s.k = some c.g) := look_at HT.out.dist hc (ky_self _)
      clear hc hcm hrg
      obtain ⟨sm, hsm⟩ : ∃ z, z = sumC (cs.take k) := ⟨_, rfl⟩
      rw [← hsm] at hb1 HST ⊢
      clear hsm
      have jw : IntKind.i64.wrap (sm + c.s.h) = sm + c.s.h := by rw [IntKind.wrap_i64]; omega
      go_wp2_with (first | (refine wpList_load29m rfl _ rfl ob (k * 37) rfl c.s.k (by exact HRG.out) HKW.out.ad ?_) | (refine wpList_alloc78 rfl rfl ?_; refine Hid.out ?_))
      refine Lib.hid ?_
      intro g5 w2 hg5 hb5 haw5
      have HB5 := Lib.hid hb5
      have HG5 : Hid (w.heap.size ≤ g5) := Nat.le_trans HAW.out.size hg5
      replace HAW := Lib.hid (HAW.out.trans haw5)
      clear hb5 haw5 hg5
      go_wp2_with (refine wpList_store78 rfl _ _ rfl g5 rfl c.s.k HKW.out.ad rfl (by exact HB5.out) ?_; refine Hid.out ?_)
      refine Lib.hid ?_
      intro w3 hb5 haw5
      replace HB5 := Lib.hid hb5
      replace HAW : Hid (Away [] w w3) := HAW.out.next haw5 (fun z hz => .inr (by simp at hz; rw [hz]; exact HG5.out))
      clear hb5 haw5
      have HC : Hid (Away [] w3 w3.drew) := (Away.refl _ _).drew
      have HLK : Hid (∀ W, Away [] w3 W → (Instr.lookup 76 (.map (some mb)) (.agg (csK c.s.k)) false).run Tryz.prog W = .ok (.pointer (some ⟨c.g, 0, none⟩)) W) := fun W hW => by
        have h1 := (HT.out.mp.on (HAW.out.trans hW)).look HKW.out
        rw [HLK0.out] at h1
        exact h1
      have Q25 : Hid (∀ W, Away [] w3 W → Calls Tryz.prog 37 #[.pointer (some ⟨c.g, 0, none⟩)] W fun E w' => E = .returned (.int .i64 c.s.h) ∧ Away [] w3 w') := fun W hW => (bytes_c (HEY.out.on (HAW.out.trans hW)).ent).mono (fun E w' h => ⟨h.1, by rw [h.2]; exact hW⟩)
      obtain ⟨ch, hch⟩ : ∃ z, z = c.s.h := ⟨_, rfl⟩
      rw [← hch] at HST Q25 jw hb2
      clear hch
      go_wp2_with fail
      refine wp_region_cls (C := fun w' => Away [] w3 w') (by kernel_rfl) (by kernel_rfl) HC.out ?_
      iterate 4 (go_big_quiet_want; (refine quiet_val ?_ ?_ ?_; rotate_left; (intro w; go_simp; rfl); go_simp; go_big_quiet_on))
      go_big_quiet_want; refine quiet_ld _ rfl (ad := ⟨gt, 5, none⟩) rfl (fun w' h => ldM ((HAW.out.trans h).cell (by simp) C5.out)) ?_; go_simp; go_big_quiet_on
      go_big_quiet_want; refine quiet_ld _ rfl (ad := ⟨g5, 0, none⟩) rfl (fun w' h => load29_run (boxK_range (h.keep (by simp) HB5.out)) HKW.out.ad) ?_; go_simp; go_big_quiet_on
      go_big_quiet_want; refine quiet_lk _ _ false rfl (.map (some mb)) (.agg (csK c.s.k)) rfl rfl HLK.out ?_; go_simp; go_big_quiet_on
      go_big_quiet_want; refine quiet_call 37 #[.pointer (some ⟨c.g, 0, none⟩)] (.int .i64 ch) ?_ Q25.out ?_
      · intro w; go_simp; all_goals (with_reducible rfl)
      go_simp; go_big_quiet_on
      go_big_quiet_want; (refine quiet_val ?_ ?_ ?_; rotate_left; (intro w; go_simp; rfl); go_simp; go_big_quiet_on)
      go_big_quiet_want; (refine quiet_val ?_ ?_ ?_; rotate_left; (intro w; go_simp; rfl); go_simp; go_big_quiet_on)
      refine wpQuiet_nil ?_
      intro V hV
      go_wp2_with fail
      go_roundw
      case rel => exact ⟨k + 1, by omega, by rw [HST.out], by go_num, HAW.out.trans hV⟩
      case measure => simp [intOf]; omega
    · obtain rfl : n = k := by omega
      have j1 : ¬ ((n : Int) < (n : Int)) := by omega
      have HF : Hid (sumC (cs.take n) = sumC cs) := by show _ = _; rw [List.take_of_length_le (by rw [HN.out]; exact Nat.le_refl _)]
      obtain ⟨sm, hsm⟩ : ∃ z, z = sumC (cs.take n) := ⟨_, rfl⟩
      rw [← hsm] at HF ⊢
      clear hsm
      go_wp2_with fail
      go_ret
      exact ⟨by rw [HF.out]; rfl, HAW.out⟩
end
theorem step_upd {ops : Array Oper} {o : Oper} {a : Act} {w : World} {K : Act → World → Prop} {Q : Exit → Act → World → Prop} {E : Prop} (hg : o.guard = none) (m x y : Operand) (ho : o.op = .mapUpdate 76 m x y)
    (b n g : Nat) (f : Pk → Option Nat) (p : Pk) (hm : a.eval m = .map (some b)) (hx : a.eval x = .agg (csK p)) (hy : a.eval y = .pointer (some ⟨g, 0, none⟩)) (h : MapT w b n f) (hp : Wf p) (hn : n < maxLen)
    (hk : ∀ w', MapT w' b (if (f p).isSome then n else n + 1) (fun q => if kyB q p = true then some g else f q) → Away [b] w w' → K (a.put o.dst undef) w') : if Region.wanted o (yielded ops a.tmps) = true then Oper.wp Tryz.prog o a w K Q else E := by
  have hw : Region.wanted o (yielded ops a.tmps) = true := by simp [Region.wanted, hg]
  rw [if_pos hw]
  obtain ⟨w', hrun, r1, r2⟩ := h.put hn hp g
  unfold Oper.wp
  simp [execOp, ho, hm, hx, hy, hrun, Result.andThen]
  exact hk w' r1 r2
theorem step_buildK {ops : Array Oper} {o : Oper} {a : Act} {w : World} {KK : Act → World → Prop} {Q : Exit → Act → World → Prop} {E : Prop} (hg : o.guard = none) (x : Operand) (ho : o.op = .buildSlice 31 1 #[(0, x)]) (p : Pk) (hx : a.eval x = .agg (csK p)) (ha : Ad p)
    (h : ∀ g w1, w.heap.size ≤ g → BoxK w1 g (csK p) → Away [] w w1 → KK (a.put o.dst (.slice (some ⟨g, 0, none⟩) 1 1)) w1) : if Region.wanted o (yielded ops a.tmps) = true then Oper.wp Tryz.prog o a w KK Q else E := by
  have hw : Region.wanted o (yielded ops a.tmps) = true := by simp [Region.wanted, hg]
  rw [if_pos hw]
  unfold Oper.wp execOp
  simp only [ho, List.map_toArray, List.map_cons, List.map_nil, hx, K.run_buildK w p ha, Sem.run_bind, Result.andThen_ok, Sem.run_pure]
  exact h w.heap.size _ (Nat.le_refl _) (block_new _ _) ((Away.refl [] w).alloc _)
theorem step_appK {ops : Array Oper} {o : Oper} {a : Act} {w : World} {KK : Act → World → Prop} {Q : Exit → Act → World → Prop} {E : Prop} (hg : o.guard = none) (s t : Operand) (ho : o.op = .call { callee := .builtin .append, args := #[s, t], argTypes := #[31, 31] })
    (v : Value) (xs : List Pk) (g c : Nat) (p : Pk) (hs : a.eval s = v) (ht : a.eval t = .slice (some ⟨g, 0, none⟩) 1 c) (hown : K.LstK w v xs) (hb : BoxK w g (csK p)) (ha : Ad p) (hk : xs.length < 100000)
    (h : ∀ v' w', K.LstK w' v' (xs ++ [p]) → w.grownBy w' v.ownBlock → Moved w v v' → KK (a.put o.dst v') w') : if Region.wanted o (yielded ops a.tmps) = true then Oper.wp Tryz.prog o a w KK Q else E := by
  have hw : Region.wanted o (yielded ops a.tmps) = true := by simp [Region.wanted, hg]
  rw [if_pos hw]
  obtain ⟨v', w', hrun, r1, r2, r3⟩ := K.run_appK o.type w v xs hown g c p hb ha hk
  unfold Oper.wp
  simp [execOp, ho, resolve, invoke, builtin, hs, ht, hrun, Result.andThen]
  exact h v' w' r1 r2 r3
theorem step_storeS {ops : Array Oper} {o : Oper} {a : Act} {w : World} {K : Act → World → Prop} {Q : Exit → Act → World → Prop} {E : Prop} (hg : o.guard = none) (s r : Nat)
    (ho : o.op = .store 31 (.tmp s) (.tmp r)) (g i : Nat) (hx : a.tmps[s]?.getD undef = .pointer (some ⟨g, i, none⟩)) (b : Option Addr) (n c : Nat) (hy : a.tmps[r]?.getD undef = .slice b n c) (u : Value) (hc : w.cell? ⟨g, i, none⟩ = some u) (hf : w.frozen? ⟨g, i, none⟩ = false)
    (hK : K (a.put o.dst undef) (w.setCell ⟨g, i, none⟩ (.slice b n c))) :
    if Region.wanted o (yielded ops a.tmps) = true then Oper.wp Tryz.prog o a w K Q else E := by
  have hw : Region.wanted o (yielded ops a.tmps) = true := by simp [Region.wanted, hg]
  rw [if_pos hw]
  obtain ⟨d, op, ty, ps, af, gd⟩ := o
  simp only at ho
  subst ho
  go_simp
  exact hK
section
variable {w w' : World} {gt mb : Nat} {ov : Value} {q : Qo} {now : Int} {cs : List Cel}
set_option maxHeartbeats 8000000 in
theorem entryOf_old {i : Nat} {c : Cel} (h : Tab w gt mb ov q now cs) (hc : cs[i]? = some c) (k : Pk) (hk : Wf k) (hky : kyB k c.s.k = true) :
    Calls Tryz.prog 49 #[.pointer (some ⟨gt, 0, none⟩), .agg (csK k)] w fun E w' => E = .returned (.pointer (some ⟨c.g, 0, none⟩)) ∧ Away [] w w' := by
  have HT := Lib.hid h
  have HK := Lib.hid hk
  have HLK0 : Hid (lookC cs k = some c.g) := look_at h.dist hc hky
  have hb3 : BoxK (w.alloc (.cells (csK k) 55)) w.heap.size (csK k) := block_new _ _
  have haw3 : Away [] w (w.alloc (.cells (csK k) 55)) := (Away.refl _ _).alloc _
  clear h hk hc hky
  go_enter Tryz.func49, Tryz.ntmps49
  go_wp2_with fail
  obtain ⟨g3, hg3⟩ : ∃ z, z = w.heap.size := ⟨_, rfl⟩
  obtain ⟨w1, hw1⟩ : ∃ z, z = w.alloc (.cells (csK k) 55) := ⟨_, rfl⟩
  rw [← hg3, ← hw1] at hb3 ⊢
  rw [← hw1] at haw3
  have HB := Lib.hid hb3
  have HW := Lib.hid haw3
  clear hb3 haw3 hg3 hw1
  have HC : Hid (Away [] w1 w1.drew) := (Away.refl _ _).drew
  have HLK : Hid (∀ W, Away [] w1 W → (Instr.lookup 76 (.map (some mb)) (.agg (csK k)) true).run Tryz.prog W = .ok (.tuple #[.pointer (some ⟨c.g, 0, none⟩), .bool true]) W) := fun W hW => by
    have h1 := (HT.out.mp.on (HW.out.trans hW)).look_ok HK.out
    rw [HLK0.out] at h1
    exact h1
  refine wp_region_cls (C := fun w' => Away [] w1 w') (by kernel_rfl) (by kernel_rfl) HC.out ?_
  iterate 3 (go_big_quiet_want; (refine quiet_val ?_ ?_ ?_; rotate_left; (intro w; go_simp; rfl); go_simp; go_big_quiet_on))
  go_big_quiet_want; refine quiet_ld _ rfl (ad := ⟨gt, 5, none⟩) rfl (fun w' h => ldM ((HW.out.trans h).cell (by simp) (HT.out.cell 5))) ?_; go_simp; go_big_quiet_on
  go_big_quiet_want; refine quiet_ld _ rfl (ad := ⟨g3, 0, none⟩) rfl (fun w' h => load29_run (boxK_range (h.keep (by simp) HB.out)) HK.out.ad) ?_; go_simp; go_big_quiet_on
  go_big_quiet_want; refine quiet_lk _ _ true rfl (.map (some mb)) (.agg (csK k)) rfl rfl HLK.out ?_; go_simp; go_big_quiet_on
  iterate 5 (go_big_quiet_want; (refine quiet_val ?_ ?_ ?_; rotate_left; (intro w; go_simp; rfl); go_simp; go_big_quiet_on))
  refine wpQuiet_nil ?_
  intro V hV
  go_wp2_with fail
  go_ret
  exact ⟨rfl, HW.out.trans hV⟩
theorem Tab.snoc {c : Cel} {ov' : Value} (h : Tab w gt mb ov q now cs) (hw : Away (gt :: mb :: ov.ownBlock.toList) w w') (hb : w'.heap[gt]? = some (.cells (csT q now mb ov') 78 (0, 0)))
    (hm : MapT w' mb (cs.length + 1) (lookC (cs ++ [c]))) (ho : K.LstK w' ov' ((cs ++ [c]).map (·.s.k))) (he : Ey w' c.g c.s c.fp) (hk : Wf c.s.k) (hn : ∀ x ∈ cs, kyB c.s.k x.s.k = false) (hf : ∀ z ∈ c.fp, w.heap.size ≤ z) (hv : ∀ z, ov'.ownBlock = some z → z ∉ c.fp ∧ (ov.ownBlock = some z ∨ w.heap.size ≤ z)) (hl : cs.length < 1000) :
    Tab w' gt mb ov' q now (cs ++ [c]) := by
  have hlt := h.lt
  have l1 : gt < w.heap.size := hlt gt (mem_fpT.2 (.inl rfl))
  have l2 : mb < w.heap.size := hlt mb (mem_fpT.2 (.inr (.inl rfl)))
  have l3 : ∀ x ∈ cs, ∀ z ∈ x.fp, z < w.heap.size := fun x hx z hz => hlt z (mem_fpT.2 (.inr (.inr (.inr ⟨x, hx, hz⟩))))
  have hmem : ∀ x ∈ cs ++ [c], x ∈ cs ∨ x = c := fun x hx => by simpa using hx
  refine ⟨hb, by rw [List.length_append]; exact hm, ho, fun x hx => ?_, fun x hx => ?_, ?_, ?_, fun x hx hz => ?_, fun x hx hz => ?_, fun x hx z hz hm' => ?_, h.gm, fun e => ?_, fun e => ?_, by simp; omega⟩
  · rcases hmem x hx with hx | rfl
    · refine (h.ent x hx).away hw (fun z hz hm' => ?_)
      simp only [List.mem_cons, Option.mem_toList] at hm'
      rcases hm' with rfl | rfl | hm'
      · exact h.og x hx hz
      · exact h.om x hx hz
      · exact h.oo x hx z hm' hz
    · exact he
  · rcases hmem x hx with hx | rfl
    · exact h.kwf x hx
    · exact hk
  · refine List.pairwise_append.2 ⟨h.dist, by simp, fun a ha b hb' => ?_⟩
    simp at hb'
    subst hb'
    rw [ky_symm]; exact hn a ha
  · refine List.pairwise_append.2 ⟨h.sep, by simp, fun a ha b hb' z hz hz' => ?_⟩
    simp at hb'
    subst hb'
    have h1 := l3 a ha z hz
    have h2 := hf z hz'
    omega
  · rcases hmem x hx with hx | rfl
    · exact h.og x hx hz
    · have := hf _ hz; omega
  · rcases hmem x hx with hx | rfl
    · exact h.om x hx hz
    · have := hf _ hz; omega
  · rcases hmem x hx with hx | rfl
    · rcases (hv z hz).2 with h1 | h1
      · exact h.oo x hx z h1 hm'
      · have := l3 x hx z hm'; omega
    · exact (hv z hz).1 hm'
  · rcases (hv gt e).2 with h1 | h1
    · exact h.go h1
    · omega
  · rcases (hv mb e).2 with h1 | h1
    · exact h.mo h1
    · omega
set_option maxHeartbeats 8000000 in
theorem entryOf_new (h : Tab w gt mb ov q now cs) (k : Pk) (hk : Wf k) (hno : ∀ c ∈ cs, kyB k c.s.k = false) (hl : cs.length < 1000) :
    Calls Tryz.prog 49 #[.pointer (some ⟨gt, 0, none⟩), .agg (csK k)] w fun E w' => ∃ g fp ov', E = .returned (.pointer (some ⟨g, 0, none⟩)) ∧ Tab w' gt mb ov' q now (cs ++ [⟨newS k now, g, fp⟩]) ∧ (∀ z ∈ fp, w.heap.size ≤ z) ∧ (∀ z, ov'.ownBlock = some z → ov.ownBlock = some z ∨ w.heap.size ≤ z) ∧ Away (gt :: mb :: ov.ownBlock.toList) w w' := by
  obtain ⟨oa, cap, rfl, -⟩ := h.shape
  have HT := Lib.hid h
  have HK := Lib.hid hk
  have HNO := Lib.hid hno
  have HL := Lib.hid hl
  have HLK0 : Hid (lookC cs k = none) := look_none hno
  have HLT : Hid (gt < w.heap.size ∧ mb < w.heap.size ∧ ∀ z, (Value.slice oa cs.length cap).ownBlock = some z → z < w.heap.size) := ⟨lt_of_block h.blk, h.mp.lt, h.ord.lt⟩
  have HNE : Hid (gt ≠ mb ∧ (∀ z, (Value.slice oa cs.length cap).ownBlock = some z → gt ≠ z ∧ mb ≠ z)) := ⟨h.gm, fun z hz => ⟨fun e => h.go (by rw [e]; exact hz), fun e => h.mo (by rw [e]; exact hz)⟩⟩
  obtain ⟨n, hn⟩ : ∃ n, n = cs.length := ⟨_, rfl⟩
  rw [← hn] at HT HLT HNE ⊢
  have HN := Lib.hid hn
  have hb3 : BoxK (w.alloc (.cells (csK k) 55)) w.heap.size (csK k) := block_new _ _
  have haw3 : Away [] w (w.alloc (.cells (csK k) 55)) := (Away.refl _ _).alloc _
  clear h hk hno hl hn
  go_enter Tryz.func49, Tryz.ntmps49
  go_wp2_with fail
  obtain ⟨g3, hg3⟩ : ∃ z, z = w.heap.size := ⟨_, rfl⟩
  obtain ⟨w1, hw1⟩ : ∃ z, z = w.alloc (.cells (csK k) 55) := ⟨_, rfl⟩
  rw [← hg3, ← hw1] at hb3 ⊢
  rw [← hw1] at haw3
  have HG3 : Hid (g3 = w.heap.size) := hg3
  have HB := Lib.hid hb3
  have HW := Lib.hid haw3
  clear hb3 haw3 hg3 hw1
  have HC : Hid (Away [] w1 w1.drew) := (Away.refl _ _).drew
  have HLK : Hid (∀ W, Away [] w1 W → (Instr.lookup 76 (.map (some mb)) (.agg (csK k)) true).run Tryz.prog W = .ok (.tuple #[.pointer none, .bool false]) W) := fun W hW => by
    have h1 := (HT.out.mp.on (HW.out.trans hW)).look_ok HK.out
    rw [HLK0.out] at h1
    exact h1
  refine wp_region_cls (C := fun w' => Away [] w1 w') (by kernel_rfl) (by kernel_rfl) HC.out ?_
  iterate 3 (go_big_quiet_want; (refine quiet_val ?_ ?_ ?_; rotate_left; (intro w; go_simp; rfl); go_simp; go_big_quiet_on))
  go_big_quiet_want; refine quiet_ld _ rfl (ad := ⟨gt, 5, none⟩) rfl (fun w' h => ldM ((HW.out.trans h).cell (by simp) (HT.out.cell 5))) ?_; go_simp; go_big_quiet_on
  go_big_quiet_want; refine quiet_ld _ rfl (ad := ⟨g3, 0, none⟩) rfl (fun w' h => load29_run (boxK_range (h.keep (by simp) HB.out)) HK.out.ad) ?_; go_simp; go_big_quiet_on
  go_big_quiet_want; refine quiet_lk _ _ true rfl (.map (some mb)) (.agg (csK k)) rfl rfl HLK.out ?_; go_simp; go_big_quiet_on
  iterate 5 (go_big_quiet_want; (refine quiet_val ?_ ?_ ?_; rotate_left; (intro w; go_simp; rfl); go_simp; go_big_quiet_on))
  refine wpQuiet_nil ?_
  intro V hV
  replace HW := Lib.hid (HW.out.trans hV)
  replace HB : Hid (BoxK V g3 (csK k)) := hV.keep (by simp) HB.out
  clear hV HC HLK
  go_wp2_with fail
  have HT1 := Lib.hid (HT.out.on HW.out)
  refine wp_region_held_drew (S := fun w' => BoxK w' g3 (csK k) ∧ w'.heap[gt]? = some (.cells (csT q now mb (.slice oa n cap)) 78 (0, 0))) (by kernel_rfl) (by exact ⟨HB.out, HT1.out.blk⟩) (fun hHeld => ?_)
  refine tkA 0 (by simp only [gA, g1, g0]; rfl) (by kernel_rfl) (by exact fun _ _ _ h => h) (yields_ld (ad := ⟨g3, 0, none⟩) (by rfl) _ rfl rfl (fun w' h => load29_run (boxK_range h.1) HK.out.ad)) (by assumption) ?_; try simp only [Act.put, sA, List.set_cons_zero, List.set_cons_succ]
  refine tkA 1 (v := ?_) (by simp only [gA, g1, g0]; rfl) (by kernel_rfl) (by exact fun _ _ _ h => h) (Or.inl ⟨by rfl, ?_⟩) (by assumption) ?_; rotate_left; focus (intro wq hSw; (try dsimp only at hSw); go_simp; all_goals (with_reducible rfl))
  try simp only [Act.put, sA, List.set_cons_zero, List.set_cons_succ]
  refine tkA 2 (v := ?_) (by simp only [gA, g1, g0]; rfl) (by kernel_rfl) (by exact fun _ _ _ h => h) (Or.inl ⟨by rfl, ?_⟩) (by assumption) ?_; rotate_left; focus (intro wq hSw; (try dsimp only at hSw); go_simp; all_goals (with_reducible rfl))
  try simp only [Act.put, sA, List.set_cons_zero, List.set_cons_succ]
  refine tkA 3 (v := ?_) (by simp only [gA, g1, g0]; rfl) (by kernel_rfl) (by exact fun _ _ _ h => h) (Or.inl ⟨by rfl, ?_⟩) (by assumption) ?_; rotate_left; focus (intro wq hSw; (try dsimp only at hSw); go_simp; all_goals (with_reducible rfl))
  try simp only [Act.put, sA, List.set_cons_zero, List.set_cons_succ]
  refine tkA 4 (by simp only [gA, g1, g0]; rfl) (by kernel_rfl) (by exact fun _ _ _ h => h) (yields_ld (ad := ⟨gt, 4, none⟩) (by rfl) _ rfl rfl (fun w' h => ld2 (cell_of_block h.2 4))) (by assumption) ?_; try simp only [Act.put, sA, List.set_cons_zero, List.set_cons_succ]
  refine wpAnyH_ready (rs := [5]) (by kernel_rfl) (by simp) ?_
  refine AllReadyH.cons (by simp only [gA, g1, g0]; rfl) (fun K hK => ?_) AllReadyH.nil
  go_simp
  refine (new_c _ k now HK.out.ad).mono ?_
  rintro E y3 ⟨g, fp, rfl, hent, hfp, haw3⟩
  have HE : Hid (Ey y3 g (newS k now) fp) := ⟨hent, fun _ => ⟨_, iv_new k now⟩⟩
  have haw3' : Away [] V y3 := ⟨haw3.os, haw3.tape, haw3.output, haw3.size, haw3.block⟩
  have HFP : Hid (∀ z ∈ fp, w.heap.size ≤ z ∧ z ≠ g3) := fun z hz => by
    have h1 := hfp z hz
    have h2 : V.heap.size ≤ z := h1
    have h3 := lt_of_block HB.out
    have h4 := HW.out.size
    exact ⟨by omega, by omega⟩
  have HA3 := Lib.hid haw3'
  have HB3 : Hid (BoxK y3 g3 (csK k)) := haw3'.keep (by simp) HB.out
  have HT3 := Lib.hid (HT1.out.on haw3')
  clear hent hfp haw3 haw3'
  go_wp2_with fail
  refine hK.out _ _ (by exact ⟨HB3.out, HT3.out.blk⟩) (fun hHeld => ?_)
  clear hK K
  try simp only [Act.put, sA, List.set_cons_zero, List.set_cons_succ]
  refine tkA 6 (v := ?_) (by simp only [gA, g1, g0]; rfl) (by kernel_rfl) (by exact fun _ _ _ h => h) (Or.inl ⟨by rfl, ?_⟩) (by assumption) ?_; rotate_left; focus (intro wq hSw; (try dsimp only at hSw); go_simp; all_goals (with_reducible rfl))
  try simp only [Act.put, sA, List.set_cons_zero, List.set_cons_succ]
  refine wpAnyH_done (by kernel_rfl) ?_ _
  clear hHeld
  go_wp2_with fail
  refine wp_region_held_drew (S := fun w' => BoxK w' g3 (csK k) ∧ w'.heap[gt]? = some (.cells (csT q now mb (.slice oa n cap)) 78 (0, 0))) (by kernel_rfl) (by exact ⟨HB3.out, HT3.out.blk⟩) (fun hHeld => ?_)
  refine tkA 0 (v := ?_) (by simp only [gA, g1, g0]; rfl) (by kernel_rfl) (by exact fun _ _ _ h => h) (Or.inl ⟨by rfl, ?_⟩) (by assumption) ?_; rotate_left; focus (intro wq hSw; (try dsimp only at hSw); go_simp; all_goals (with_reducible rfl))
  try simp only [Act.put, sA, List.set_cons_zero, List.set_cons_succ]
  refine tkA 1 (v := ?_) (by simp only [gA, g1, g0]; rfl) (by kernel_rfl) (by exact fun _ _ _ h => h) (Or.inl ⟨by rfl, ?_⟩) (by assumption) ?_; rotate_left; focus (intro wq hSw; (try dsimp only at hSw); go_simp; all_goals (with_reducible rfl))
  try simp only [Act.put, sA, List.set_cons_zero, List.set_cons_succ]
  refine tkA 2 (v := ?_) (by simp only [gA, g1, g0]; rfl) (by kernel_rfl) (by exact fun _ _ _ h => h) (Or.inl ⟨by rfl, ?_⟩) (by assumption) ?_; rotate_left; focus (intro wq hSw; (try dsimp only at hSw); go_simp; all_goals (with_reducible rfl))
  try simp only [Act.put, sA, List.set_cons_zero, List.set_cons_succ]
  refine tkA 3 (by simp only [gA, g1, g0]; rfl) (by kernel_rfl) (by exact fun _ _ _ h => h) (yields_ld (ad := ⟨gt, 5, none⟩) (by rfl) _ rfl rfl (fun w' h => ldM (cell_of_block h.2 5))) (by assumption) ?_; try simp only [Act.put, sA, List.set_cons_zero, List.set_cons_succ]
  refine tkA 4 (by simp only [gA, g1, g0]; rfl) (by kernel_rfl) (by exact fun _ _ _ h => h) (yields_ld (ad := ⟨g3, 0, none⟩) (by rfl) _ rfl rfl (fun w' h => load29_run (boxK_range h.1) HK.out.ad)) (by assumption) ?_; try simp only [Act.put, sA, List.set_cons_zero, List.set_cons_succ]
  refine tkA 5 (v := ?_) (by simp only [gA, g1, g0]; rfl) (by kernel_rfl) (by exact fun _ _ _ h => h) (Or.inl ⟨by rfl, ?_⟩) (by assumption) ?_; rotate_left; focus (intro wq hSw; (try dsimp only at hSw); go_simp; all_goals (with_reducible rfl))
  try simp only [Act.put, sA, List.set_cons_zero, List.set_cons_succ]
  refine wpAnyH_ready (rs := [6]) (by kernel_rfl) (by simp) ?_
  refine AllReadyH.cons (by simp only [gA, g1, g0]; rfl) (fun K hK => ?_) AllReadyH.nil
  refine step_upd rfl _ _ _ rfl mb n g (lookC cs) k rfl rfl rfl (by have h1 := HT3.out.mp; rw [← HN.out] at h1; exact h1) HK.out (by have h1 := HL.out; have h2 := HN.out; unfold maxLen; omega) ?_
  intro y4 hm4 haw4
  have HM4 := Lib.hid hm4
  have HA4 : Hid (Away [mb] y3 y4) := ⟨haw4.os, haw4.tape, haw4.output, haw4.size, haw4.block⟩
  have HG3M : Hid (g3 ≠ mb) := by have h1 := HG3.out; have h2 := HLT.out.2.1; show _ ≠ _; omega
  have HB4 : Hid (BoxK y4 g3 (csK k)) := HA4.out.keep (by simpa using HG3M.out) HB3.out
  have HT4 : Hid (y4.heap[gt]? = some (.cells (csT q now mb (.slice oa n cap)) 78 (0, 0))) := HA4.out.keep (by simpa using HNE.out.1) HT3.out.blk
  clear hm4 haw4
  refine hK.out _ _ (by exact ⟨HB4.out, HT4.out⟩) (fun hHeld => ?_)
  clear hK K
  try simp only [Act.put, sA, List.set_cons_zero, List.set_cons_succ]
  refine wpAnyH_done (by kernel_rfl) ?_ _
  clear hHeld
  have HL5 : Hid (∀ y5, Away [] y4 y5 → K.LstK y5 (.slice oa n cap) (cs.map (·.s.k))) := fun y5 h5 => by
    have h1 := HT3.out.ord.away HA4.out (fun z hz => by have h2 := (HNE.out.2 z hz).2; simpa using fun e => h2 e.symm)
    exact h1.on h5
  have c6a : y4.cell? ⟨gt, 6, none⟩ = some (.slice oa n cap) := cell_of_block HT4.out 6
  go_wp2_with fail
  refine wp_region_held_drew (S := fun w' => BoxK w' g3 (csK k)) (by kernel_rfl) (by exact HB4.out) (fun hHeld => ?_)
  refine tkA 0 (v := ?_) (by simp only [gA, g1, g0]; rfl) (by kernel_rfl) (by exact fun _ _ _ h => h) (Or.inl ⟨by rfl, ?_⟩) (by assumption) ?_; rotate_left; focus (intro wq hSw; (try dsimp only at hSw); go_simp; all_goals (with_reducible rfl))
  try simp only [Act.put, sA, List.set_cons_zero, List.set_cons_succ]
  refine tkA 1 (v := ?_) (by simp only [gA, g1, g0]; rfl) (by kernel_rfl) (by exact fun _ _ _ h => h) (Or.inl ⟨by rfl, ?_⟩) (by assumption) ?_; rotate_left; focus (intro wq hSw; (try dsimp only at hSw); go_simp; all_goals (with_reducible rfl))
  try simp only [Act.put, sA, List.set_cons_zero, List.set_cons_succ]
  refine tkA 2 (v := ?_) (by simp only [gA, g1, g0]; rfl) (by kernel_rfl) (by exact fun _ _ _ h => h) (Or.inl ⟨by rfl, ?_⟩) (by assumption) ?_; rotate_left; focus (intro wq hSw; (try dsimp only at hSw); go_simp; all_goals (with_reducible rfl))
  try simp only [Act.put, sA, List.set_cons_zero, List.set_cons_succ]
  refine tkA 3 (v := ?_) (by simp only [gA, g1, g0]; rfl) (by kernel_rfl) (by exact fun _ _ _ h => h) (Or.inl ⟨by rfl, ?_⟩) (by assumption) ?_; rotate_left; focus (intro wq hSw; (try dsimp only at hSw); go_simp; all_goals (with_reducible rfl))
  try simp only [Act.put, sA, List.set_cons_zero, List.set_cons_succ]
  refine tkA 5 (by simp only [gA, g1, g0]; rfl) (by kernel_rfl) (by exact fun _ _ _ h => h) (yields_ld (ad := ⟨g3, 0, none⟩) (by rfl) _ rfl rfl (fun w' h => load29_run (boxK_range h) HK.out.ad)) (by assumption) ?_; try simp only [Act.put, sA, List.set_cons_zero, List.set_cons_succ]
  refine wpAnyH_ready (rs := [4, 6]) (by kernel_rfl) (by simp) ?_
  refine AllReadyH.cons (by simp only [gA, g1, g0]; rfl) (fun K hK => ?_) (AllReadyH.cons (by simp only [gA, g1, g0]; rfl) (fun K hK => ?_) AllReadyH.nil)
  · go_simp
    refine hK.out _ _ (by exact HB4.out) (fun hHeld => ?_)
    clear hK K
    try simp only [Act.put, sA, List.set_cons_zero, List.set_cons_succ]
    refine wpAnyH_ready (rs := [6]) (by kernel_rfl) (by simp) ?_
    refine AllReadyH.cons (by simp only [gA, g1, g0]; rfl) (fun K hK => ?_) AllReadyH.nil
    refine step_buildK rfl _ rfl k rfl HK.out.ad ?_
    intro gb y5 hgb hb5 haw5
    have haw5' : Away [] y4 y5 := ⟨haw5.os, haw5.tape, haw5.output, haw5.size, haw5.block⟩
    have HGB : Hid (y4.heap.size ≤ gb) := hgb
    have HBB := Lib.hid hb5
    have HA5 := Lib.hid haw5'
    have HB5 : Hid (BoxK y5 g3 (csK k)) := haw5'.keep (by simp) HB4.out
    have HT5 : Hid (y5.heap[gt]? = some (.cells (csT q now mb (.slice oa n cap)) 78 (0, 0))) := haw5'.keep (by simp) HT4.out
    have c6b : y5.cell? ⟨gt, 6, none⟩ = some (.slice oa n cap) := cell_of_block HT5.out 6
    clear hgb hb5 haw5 haw5'
    refine hK.out _ _ (by exact HB5.out) (fun hHeld => ?_)
    clear hK K
    try simp only [Act.put, sA, List.set_cons_zero, List.set_cons_succ]
    refine wpAnyH_ready (rs := [7]) (by kernel_rfl) (by simp) ?_
    refine AllReadyH.cons (by simp only [gA, g1, g0]; rfl) (fun K hK => ?_) AllReadyH.nil
    refine step_appK rfl _ _ rfl (.slice oa n cap) (cs.map (·.s.k)) gb 1 k rfl rfl (by exact HL5.out _ HA5.out) (by exact HBB.out) HK.out.ad (by rw [List.length_map]; have h1 := HL.out; omega) ?_
    intro ov' y6 hl6 hgr6 hmv6
    have HL6 := Lib.hid hl6
    have HA6 : Hid (Away (Value.slice oa n cap).ownBlock.toList y5 y6) := (Away.refl _ _).grown hgr6 (fun z hz => .inl (by simp [hz]))
    have HMV := Lib.hid hmv6
    obtain ⟨oa', n', cap', hov⟩ : ∃ oa' n' cap', ov' = .slice oa' n' cap' := by
      rcases HL6.out.shp with ⟨h1, -⟩ | ⟨g', c', h1⟩
      · exact ⟨_, _, _, h1⟩
      · exact ⟨_, _, _, h1⟩
    subst hov
    have HB6 : Hid (BoxK y6 g3 (csK k)) := HA6.out.keep (fun hm => by have h1 := HLT.out.2.2 g3 (by simpa using hm); have h2 := HG3.out; omega) HB5.out
    have HT6 : Hid (y6.heap[gt]? = some (.cells (csT q now mb (.slice oa n cap)) 78 (0, 0))) := HA6.out.keep (fun hm => (HNE.out.2 gt (by simpa using hm)).1 rfl) HT5.out
    clear hl6 hgr6 hmv6
    refine hK.out _ _ (by exact HB6.out) (fun hHeld => ?_)
    clear hK K
    try simp only [Act.put, sA, List.set_cons_zero, List.set_cons_succ]
    refine tkA 8 (v := ?_) (by simp only [gA, g1, g0]; rfl) (by kernel_rfl) (by exact fun _ _ _ h => h) (Or.inl ⟨by rfl, ?_⟩) (by assumption) ?_; rotate_left; focus (intro wq hSw; (try dsimp only at hSw); go_simp; all_goals (with_reducible rfl))
    try simp only [Act.put, sA, List.set_cons_zero, List.set_cons_succ]
    refine tkA 9 (v := ?_) (by simp only [gA, g1, g0]; rfl) (by kernel_rfl) (by exact fun _ _ _ h => h) (Or.inl ⟨by rfl, ?_⟩) (by assumption) ?_; rotate_left; focus (intro wq hSw; (try dsimp only at hSw); go_simp; all_goals (with_reducible rfl))
    try simp only [Act.put, sA, List.set_cons_zero, List.set_cons_succ]
    refine wpAnyH_ready (rs := [10]) (by kernel_rfl) (by simp) ?_
    refine AllReadyH.cons (by simp only [gA, g1, g0]; rfl) (fun K hK => ?_) AllReadyH.nil
    refine step_storeS rfl 39 37 rfl gt 6 rfl oa' n' cap' rfl _ (by exact cell_of_block HT6.out 6) (by exact free_of_block HT6.out 6) ?_
    have HT7 : Hid ((y6.setCell ⟨gt, 6, none⟩ (.slice oa' n' cap')).heap[gt]? = some (.cells (csT q now mb (.slice oa' n' cap')) 78 (0, 0))) := by
      have h1 := block_set HT6.out 6 (.slice oa' n' cap')
      rw [csT_set] at h1
      exact h1
    have HA7 := Lib.hid (away_one' y6 gt 6 (.slice oa' n' cap'))
    have HG3T : Hid (g3 ≠ gt) := by have h1 := HG3.out; have h2 := HLT.out.1; show _ ≠ _; omega
    have HB7 : Hid (BoxK (y6.setCell ⟨gt, 6, none⟩ (.slice oa' n' cap')) g3 (csK k)) := HA7.out.keep (by simpa using HG3T.out) HB6.out
    refine hK.out _ _ (by exact HB7.out) (fun hHeld => ?_)
    clear hK K
    try simp only [Act.put]
    refine wpAnyH_done (by kernel_rfl) ?_ _
    clear hHeld
    go_wp2_with fail
    go_ret
    have a1 : Away (gt :: mb :: (Value.slice oa n cap).ownBlock.toList) w (y6.setCell ⟨gt, 6, none⟩ (.slice oa' n' cap')) :=
      (((((HW.out.mono (by simp)).trans (HA3.out.mono (by simp))).trans (HA4.out.mono (by simp))).trans (HA5.out.mono (by simp))).trans (HA6.out.mono (fun z hz => by simp only [List.mem_cons]; exact .inr (.inr hz)))).trans (HA7.out.mono (by simp))
    have s1 := HW.out.size
    have s2 := HA3.out.size
    have s3 := HA4.out.size
    have s4 := HA5.out.size
    have l1 := HLT.out.1
    have l2 := HLT.out.2.1
    have hmv : ∀ z, (Value.slice oa' n' cap').ownBlock = some z → (Value.slice oa n cap).ownBlock = some z ∨ w.heap.size ≤ z := fun z hz => by
      rcases HMV.out z hz with h1 | h1
      · exact .inl h1
      · exact .inr (by omega)
    have hof : ∀ z, (Value.slice oa n cap).ownBlock = some z → z ∉ fp := fun z hz hm => by
      have h1 := HLT.out.2.2 z hz
      have h2 := (HFP.out z hm).1
      omega
    refine ⟨g, fp, .slice oa' n' cap', rfl, ?_, fun z hz => (HFP.out z hz).1, hmv, a1⟩
    refine HT.out.snoc a1 HT7.out ?_ ?_ ?_ HK.out HNO.out (fun z hz => (HFP.out z hz).1) (fun z hz => ⟨fun hm => ?_, hmv z hz⟩) HL.out
    · have h1 : MapT y4 mb (cs.length + 1) (lookC (cs ++ [⟨newS k now, g, fp⟩])) := by
        have h2 := HM4.out
        rw [HLK0.out, HN.out] at h2
        have h3 : (fun p => if kyB p k = true then some g else lookC cs p) = lookC (cs ++ [⟨newS k now, g, fp⟩]) := funext fun p => by
          rw [look_snoc p HNO.out]; rfl
        rw [h3] at h2
        exact h2
      exact ((h1.on HA5.out).away HA6.out (fun hm => (HNE.out.2 mb (by simpa using hm)).2 rfl)).away HA7.out (by simpa using fun e => HNE.out.1 e.symm)
    · have h1 := HL6.out.away HA7.out (fun z hz => by
        simp only [List.mem_cons, List.not_mem_nil, or_false]
        intro e
        rcases HMV.out z hz with h1 | h1
        · exact (HNE.out.2 z h1).1 e.symm
        · omega)
      rw [List.map_append]
      exact h1
    · refine (((HE.out.away HA4.out (fun z hz hm => ?_)).on HA5.out).away HA6.out (fun z hz hm => hof z (by simpa using hm) hz)).away HA7.out (fun z hz hm => ?_)
      · simp at hm; have := (HFP.out z hz).1; omega
      · simp at hm; have := (HFP.out z hz).1; omega
    · rcases HMV.out z hz with h1 | h1
      · exact hof z h1 hm
      · have := HE.out.ent.lt z hm; omega
  · refine step_buildK rfl _ rfl k rfl HK.out.ad ?_
    intro gb y5 hgb hb5 haw5
    have haw5' : Away [] y4 y5 := ⟨haw5.os, haw5.tape, haw5.output, haw5.size, haw5.block⟩
    have HGB : Hid (y4.heap.size ≤ gb) := hgb
    have HBB := Lib.hid hb5
    have HA5 := Lib.hid haw5'
    have HB5 : Hid (BoxK y5 g3 (csK k)) := haw5'.keep (by simp) HB4.out
    have HT5 : Hid (y5.heap[gt]? = some (.cells (csT q now mb (.slice oa n cap)) 78 (0, 0))) := haw5'.keep (by simp) HT4.out
    have c6b : y5.cell? ⟨gt, 6, none⟩ = some (.slice oa n cap) := cell_of_block HT5.out 6
    clear hgb hb5 haw5 haw5'
    refine hK.out _ _ (by exact HB5.out) (fun hHeld => ?_)
    clear hK K
    try simp only [Act.put, sA, List.set_cons_zero, List.set_cons_succ]
    refine wpAnyH_ready (rs := [4]) (by kernel_rfl) (by simp) ?_
    refine AllReadyH.cons (by simp only [gA, g1, g0]; rfl) (fun K hK => ?_) AllReadyH.nil
    go_simp
    refine hK.out _ _ (by exact HB5.out) (fun hHeld => ?_)
    clear hK K
    try simp only [Act.put, sA, List.set_cons_zero, List.set_cons_succ]
    refine wpAnyH_ready (rs := [7]) (by kernel_rfl) (by simp) ?_
    refine AllReadyH.cons (by simp only [gA, g1, g0]; rfl) (fun K hK => ?_) AllReadyH.nil
    refine step_appK rfl _ _ rfl (.slice oa n cap) (cs.map (·.s.k)) gb 1 k rfl rfl (by exact HL5.out _ HA5.out) (by exact HBB.out) HK.out.ad (by rw [List.length_map]; have h1 := HL.out; omega) ?_
    intro ov' y6 hl6 hgr6 hmv6
    have HL6 := Lib.hid hl6
    have HA6 : Hid (Away (Value.slice oa n cap).ownBlock.toList y5 y6) := (Away.refl _ _).grown hgr6 (fun z hz => .inl (by simp [hz]))
    have HMV := Lib.hid hmv6
    obtain ⟨oa', n', cap', hov⟩ : ∃ oa' n' cap', ov' = .slice oa' n' cap' := by
      rcases HL6.out.shp with ⟨h1, -⟩ | ⟨g', c', h1⟩
      · exact ⟨_, _, _, h1⟩
      · exact ⟨_, _, _, h1⟩
    subst hov
    have HB6 : Hid (BoxK y6 g3 (csK k)) := HA6.out.keep (fun hm => by have h1 := HLT.out.2.2 g3 (by simpa using hm); have h2 := HG3.out; omega) HB5.out
    have HT6 : Hid (y6.heap[gt]? = some (.cells (csT q now mb (.slice oa n cap)) 78 (0, 0))) := HA6.out.keep (fun hm => (HNE.out.2 gt (by simpa using hm)).1 rfl) HT5.out
    clear hl6 hgr6 hmv6
    refine hK.out _ _ (by exact HB6.out) (fun hHeld => ?_)
    clear hK K
    try simp only [Act.put, sA, List.set_cons_zero, List.set_cons_succ]
    refine tkA 8 (v := ?_) (by simp only [gA, g1, g0]; rfl) (by kernel_rfl) (by exact fun _ _ _ h => h) (Or.inl ⟨by rfl, ?_⟩) (by assumption) ?_; rotate_left; focus (intro wq hSw; (try dsimp only at hSw); go_simp; all_goals (with_reducible rfl))
    try simp only [Act.put, sA, List.set_cons_zero, List.set_cons_succ]
    refine tkA 9 (v := ?_) (by simp only [gA, g1, g0]; rfl) (by kernel_rfl) (by exact fun _ _ _ h => h) (Or.inl ⟨by rfl, ?_⟩) (by assumption) ?_; rotate_left; focus (intro wq hSw; (try dsimp only at hSw); go_simp; all_goals (with_reducible rfl))
    try simp only [Act.put, sA, List.set_cons_zero, List.set_cons_succ]
    refine wpAnyH_ready (rs := [10]) (by kernel_rfl) (by simp) ?_
    refine AllReadyH.cons (by simp only [gA, g1, g0]; rfl) (fun K hK => ?_) AllReadyH.nil
    refine step_storeS rfl 39 37 rfl gt 6 rfl oa' n' cap' rfl _ (by exact cell_of_block HT6.out 6) (by exact free_of_block HT6.out 6) ?_
    have HT7 : Hid ((y6.setCell ⟨gt, 6, none⟩ (.slice oa' n' cap')).heap[gt]? = some (.cells (csT q now mb (.slice oa' n' cap')) 78 (0, 0))) := by
      have h1 := block_set HT6.out 6 (.slice oa' n' cap')
      rw [csT_set] at h1
      exact h1
    have HA7 := Lib.hid (away_one' y6 gt 6 (.slice oa' n' cap'))
    have HG3T : Hid (g3 ≠ gt) := by have h1 := HG3.out; have h2 := HLT.out.1; show _ ≠ _; omega
    have HB7 : Hid (BoxK (y6.setCell ⟨gt, 6, none⟩ (.slice oa' n' cap')) g3 (csK k)) := HA7.out.keep (by simpa using HG3T.out) HB6.out
    refine hK.out _ _ (by exact HB7.out) (fun hHeld => ?_)
    clear hK K
    try simp only [Act.put]
    refine wpAnyH_done (by kernel_rfl) ?_ _
    clear hHeld
    go_wp2_with fail
    go_ret
    have a1 : Away (gt :: mb :: (Value.slice oa n cap).ownBlock.toList) w (y6.setCell ⟨gt, 6, none⟩ (.slice oa' n' cap')) :=
      (((((HW.out.mono (by simp)).trans (HA3.out.mono (by simp))).trans (HA4.out.mono (by simp))).trans (HA5.out.mono (by simp))).trans (HA6.out.mono (fun z hz => by simp only [List.mem_cons]; exact .inr (.inr hz)))).trans (HA7.out.mono (by simp))
    have s1 := HW.out.size
    have s2 := HA3.out.size
    have s3 := HA4.out.size
    have s4 := HA5.out.size
    have l1 := HLT.out.1
    have l2 := HLT.out.2.1
    have hmv : ∀ z, (Value.slice oa' n' cap').ownBlock = some z → (Value.slice oa n cap).ownBlock = some z ∨ w.heap.size ≤ z := fun z hz => by
      rcases HMV.out z hz with h1 | h1
      · exact .inl h1
      · exact .inr (by omega)
    have hof : ∀ z, (Value.slice oa n cap).ownBlock = some z → z ∉ fp := fun z hz hm => by
      have h1 := HLT.out.2.2 z hz
      have h2 := (HFP.out z hm).1
      omega
    refine ⟨g, fp, .slice oa' n' cap', rfl, ?_, fun z hz => (HFP.out z hz).1, hmv, a1⟩
    refine HT.out.snoc a1 HT7.out ?_ ?_ ?_ HK.out HNO.out (fun z hz => (HFP.out z hz).1) (fun z hz => ⟨fun hm => ?_, hmv z hz⟩) HL.out
    · have h1 : MapT y4 mb (cs.length + 1) (lookC (cs ++ [⟨newS k now, g, fp⟩])) := by
        have h2 := HM4.out
        rw [HLK0.out, HN.out] at h2
        have h3 : (fun p => if kyB p k = true then some g else lookC cs p) = lookC (cs ++ [⟨newS k now, g, fp⟩]) := funext fun p => by
          rw [look_snoc p HNO.out]; rfl
        rw [h3] at h2
        exact h2
      exact ((h1.on HA5.out).away HA6.out (fun hm => (HNE.out.2 mb (by simpa using hm)).2 rfl)).away HA7.out (by simpa using fun e => HNE.out.1 e.symm)
    · have h1 := HL6.out.away HA7.out (fun z hz => by
        simp only [List.mem_cons, List.not_mem_nil, or_false]
        intro e
        rcases HMV.out z hz with h1 | h1
        · exact (HNE.out.2 z h1).1 e.symm
        · omega)
      rw [List.map_append]
      exact h1
    · refine (((HE.out.away HA4.out (fun z hz hm => ?_)).on HA5.out).away HA6.out (fun z hz hm => hof z (by simpa using hm) hz)).away HA7.out (fun z hz hm => ?_)
      · simp at hm; have := (HFP.out z hz).1; omega
      · simp at hm; have := (HFP.out z hz).1; omega
    · rcases HMV.out z hz with h1 | h1
      · exact hof z h1 hm
      · have := HE.out.ent.lt z hm; omega
end
end Go.Proofs.YtkccpidgeecemaaGreatDoor
namespace Go.Proofs.YtkccpidgeecemaaGreatDoor
open Go.ChangeShapes Go.WideShapes Go.ChangeAt Go.RowKit
open S6 (wp_region_cls quiet_val quiet_call quiet_ld ld3 ld4 ld5 ld25 ld26 load28_run load24m_run)
set_option linter.unusedVariables false
set_option linter.unusedSimpArgs false
set_option maxRecDepth 100000
set_option maxHeartbeats 1000000
theorem Cuts.snoc {w w' : World} {B : Nat} {v v' : Value} {xs : List X} {x : X} (h : Cuts w B v xs) (hx : Wf x.p ∧ Mine w B x.p x.o x.d) (hnew : ∀ y ∈ xs, ∀ k, y.o.ownBlock = some k ∨ y.d.ownBlock = some k → x.o.ownBlock ≠ some k ∧ x.d.ownBlock ≠ some k)
    (hv : ∀ k, x.o.ownBlock = some k ∨ x.d.ownBlock = some k → v.ownBlock ≠ some k) (hl : LstP w' v' (xs ++ [x])) (hgr : w.grownBy w' v.ownBlock) (hmv : Moved w v v') (hB : B ≤ w.heap.size) : Cuts w' B v' (xs ++ [x]) := by
  have hA : ∀ S : List Nat, (∀ k, v.ownBlock = some k → k ∈ S) → Away S w w' := fun S hS => (Away.refl S w).grown hgr (fun k hk => .inl (hS k hk))
  have keep : ∀ y : X, (∀ k, y.o.ownBlock = some k ∨ y.d.ownBlock = some k → v.ownBlock ≠ some k) → Mine w B y.p y.o y.d → Mine w' B y.p y.o y.d := fun y hy hm => by
    cases hb : v.ownBlock with
    | none => exact hm.on (hA [] (fun k hk => by rw [hb] at hk; simp at hk))
    | some g => exact hm.away (hA [g] (fun k hk => by rw [hb] at hk; simp at hk; simp [hk])) (fun k hk e => by simp at e; subst e; exact hy k hk hb)
  refine ⟨hl, h.new.moved hmv hB, fun y hy => ?_, fun y hy k hk e => ?_, List.pairwise_append.2 ⟨h.apart, by simp, fun y hy z hz => ?_⟩⟩
  · rcases List.mem_append.1 hy with hy | hy
    · exact ⟨(h.each y hy).1, keep y (h.far y hy) (h.each y hy).2⟩
    · simp at hy; subst hy; exact ⟨hx.1, keep y hv hx.2⟩
  · rcases hmv k e with e | e
    · rcases List.mem_append.1 hy with hy | hy
      · exact h.far y hy k hk e
      · simp at hy; subst hy; exact hv k hk e
    · have : k < w.heap.size := by
        rcases List.mem_append.1 hy with hy | hy
        · exact ((h.each y hy).2.lto k hk).1
        · simp at hy; subst hy; exact (hx.2.lto k hk).1
      omega
  · simp at hz; subst hz; exact fun k hk => hnew y hy k hk
theorem Cuts.away {S : List Nat} {w w' : World} {B : Nat} {v : Value} {xs : List X} (h : Cuts w B v xs) (hw : Away S w w') (hS : ∀ k ∈ S, k < B) : Cuts w' B v xs :=
  ⟨h.lst.away hw (fun k hk e => by have := h.new k hk; have := hS k e; omega), h.new, fun x hx => ⟨(h.each x hx).1, (h.each x hx).2.away hw (fun k hk e => by have := ((h.each x hx).2.lto k hk).2; have := hS k e; omega)⟩, h.far, h.apart⟩
set_option maxHeartbeats 200000
theorem first_wf {s : Es} {T : Int → Bool} (h : Iv s T) : Wf (firstP s).1 := by
  unfold firstP
  split
  · exact zero_wf
  · have h1 := h.fw
    have h2 := h.db.take s.fl
    have h3 := h.dl
    exact ⟨h1.v, h1.tos, h1.flow, h1.sv, h1.sl, h1.sb, h1.dv, h1.dl, h1.db, h1.proto, h1.ttl, h1.id0, h1.id1, h1.off, h1.o, h1.ol, h2, by show (s.d.take s.fl).length ≤ _; rw [List.length_take]; omega⟩
theorem ey_first {w : World} {g : Nat} {s : Es} {fp : List Nat} (h : Ey w g s fp) : Wf (firstP s).1 := by
  cases hb : s.bad with
  | true =>
    rcases h.ent with ⟨⟨-, -, h3, -⟩, -⟩ | ⟨lb, lv, dv, ov, mb, mn, h1, h2, h3⟩
    · rw [h3]; exact zero_wf
    · have := h1.nb; rw [hb] at this; simp at this
  | false =>
    obtain ⟨T, hT⟩ := h.iv hb
    exact first_wf hT
def lateB (q : Qo) (now : Int) (c : Cel) : Bool := decide (q.t ≤ now - c.s.tb)
def toldL (cs : List Cel) : List Pk := cs.filterMap (fun c => if (firstP c.s).2 = true then some (firstP c.s).1 else none)
def ordN (w : World) (gt : Nat) : Nat := match w.cell? ⟨gt, 6, none⟩ with | some (.slice _ n _) => n | _ => 0
section
variable {w w' : World} {gt mb : Nat} {ov : Value} {q : Qo} {now : Int} {cs : List Cel}
theorem Tab.ordN (h : Tab w gt mb ov q now cs) : ordN w gt = cs.length := by
  obtain ⟨oa, cap, rfl, -⟩ := h.shape
  have h1 : w.cell? ⟨gt, 6, none⟩ = some (.slice oa cs.length cap) := h.cell 6
  unfold Go.Proofs.YtkccpidgeecemaaGreatDoor.ordN
  rw [h1]
theorem split_at {j : Nat} (hj : ∀ i c, i < j → cs[i]? = some c → lateB q now c = true) (hj2 : j ≤ cs.length) (hn : ∀ c, cs[j]? = some c → lateB q now c = false) : cs.takeWhile (lateB q now) = cs.take j ∧ cs.dropWhile (lateB q now) = cs.drop j := by
  induction cs generalizing j with
  | nil => simp at hj2; subst hj2; simp
  | cons a r ih =>
    cases j with
    | zero =>
      have := hn a (by simp)
      simp [List.takeWhile_cons, List.dropWhile_cons, this]
    | succ j =>
      have h0 := hj 0 a (by omega) (by simp)
      obtain ⟨h1, h2⟩ := ih (j := j) (fun i c hi hc => hj (i + 1) c (by omega) (by simpa using hc)) (by simpa using hj2) (fun c hc => hn c (by simpa using hc))
      simp [List.takeWhile_cons, List.dropWhile_cons, h0, h1, h2]
theorem told_snoc {j : Nat} {c : Cel} (hc : cs[j]? = some c) : toldL (cs.take (j + 1)) = toldL (cs.take j) ++ (if (firstP c.s).2 = true then [(firstP c.s).1] else []) := by
  have hk := lt_of_get hc
  rw [List.take_succ_eq_append_getElem hk]
  have : cs[j] = c := (List.getElem?_eq_some_iff.1 hc).2
  unfold toldL
  rw [List.filterMap_append, this]
  congr 1
  by_cases h : (firstP c.s).2 = true <;> simp [h]
def LateOut (w : World) (gt mb : Nat) (ov : Value) (q : Qo) (now : Int) (cs : List Cel) (E : Ending) (w' : World) : Prop :=
  ∃ v xs ov', E = .returned v ∧ Cuts w' w.heap.size v xs ∧ xs.map X.p = toldL (cs.takeWhile (lateB q now)) ∧ Tab w' gt mb ov' q now (cs.dropWhile (lateB q now)) ∧ ov'.ownBlock = ov.ownBlock ∧ Away (gt :: mb :: ov.ownBlock.toList) w w'
set_option maxHeartbeats 8000000 in
theorem late_c (h : Tab w gt mb ov q now cs) (hb : ∀ c ∈ cs, 0 ≤ c.s.tb ∧ c.s.tb ≤ now) (hnow : 0 ≤ now ∧ now ≤ 1099511627776) : Calls Tryz.prog 36 #[.pointer (some ⟨gt, 0, none⟩)] w (LateOut w gt mb ov q now cs) := by
  have HT0 := Lib.hid h
  have HB := Lib.hid hb
  have hlen := h.len
  have HSLT : Hid (∀ z ∈ gt :: mb :: ov.ownBlock.toList, z < w.heap.size) := fun z hz => h.lt z (by
    simp only [List.mem_cons, Option.mem_toList] at hz
    exact mem_fpT.2 (hz.imp id (Or.imp id Or.inl)))
  obtain ⟨S, hS⟩ : ∃ S, S = gt :: mb :: ov.ownBlock.toList := ⟨_, rfl⟩
  rw [← hS] at HSLT
  have HS := Lib.hid hS
  obtain ⟨N, hN⟩ : ∃ N, N = cs.length := ⟨_, rfl⟩
  rw [← hN] at hlen
  have HN := Lib.hid hN
  have HAT : Hid (Tab w gt mb ov q now (cs.drop 0)) := by rw [List.drop_zero]; exact h
  clear h hb hS hN
  go_enter Tryz.func36, Tryz.ntmps36
  go_wp2_with fail
  go_loopw [3] (fun lv wr => ∃ (j : Nat) (xs : List X) (ov' : Value), j ≤ N ∧ (∀ i c, i < j → cs[i]? = some c → lateB q now c = true) ∧ Cuts wr w.heap.size lv xs ∧ xs.map X.p = toldL (cs.take j) ∧ Tab wr gt mb ov' q now (cs.drop j) ∧ ov'.ownBlock = ov.ownBlock ∧ Away S w wr) (fun _ wr => ordN wr gt)
  case atStart => exact ⟨0, [], ov, by omega, fun i c hi => by omega, Cuts.nil _ _, rfl, HAT.out, rfl, Away.refl _ _⟩
  case round =>
    clear HAT
    obtain ⟨j, xs, ov', hj, hjl, hcu, hxm, htab, hob, haw⟩ := hrel
    obtain ⟨oa, cap, rfl, -⟩ := htab.shape
    have HJ := Lib.hid hjl
    have HCU := Lib.hid hcu
    have HXM := Lib.hid hxm
    have HT := Lib.hid htab
    have HOB := Lib.hid hob
    have HAW := Lib.hid haw
    have HON := Lib.hid htab.ordN
    obtain ⟨n, hn⟩ : ∃ n, n = (cs.drop j).length := ⟨_, rfl⟩
    rw [← hn] at HT HOB HON
    have HN2 : Hid (n = N - j) := by show _ = _; rw [hn, List.length_drop, HN.out]
    have c6 : wr.cell? ⟨gt, 6, none⟩ = some (.slice oa n cap) := HT.out.cell 6
    clear hjl hcu hxm htab hob haw hn
    by_cases hpos : 0 < n
    · have j1 : (0 : Int) < (n : Int) := by omega
      obtain ⟨c, hc, hcm⟩ := get_of (show j < cs.length by have h1 := HN2.out; have h2 := HN.out; omega)
      have HC := Lib.hid hc
      have HDR : Hid (cs.drop j = c :: cs.drop (j + 1)) := by
        show _ = _
        rw [List.drop_eq_getElem_cons (lt_of_get hc), (List.getElem?_eq_some_iff.1 hc).2]
      have htb := HB.out c hcm
      clear hc hcm
      have K46 : Hid (Calls Tryz.prog 57 #[.pointer (some ⟨gt, 0, none⟩)] wr fun E w' => E = .returned (.pointer (some ⟨c.g, 0, none⟩)) ∧ Away [] wr w') := oldest_c (r := cs.drop (j + 1)) (by rw [← HDR.out]; exact HT.out)
      go_wp2_with fail
      refine K46.out.mono ?_
      rintro E w2 ⟨rfl, haw2⟩
      replace HT := Lib.hid (HT.out.on haw2)
      replace HCU := Lib.hid (HCU.out.on haw2)
      replace HAW := Lib.hid (HAW.out.trans (haw2.mono (by simp)))
      clear haw2 K46 c6
      have HEY : Hid (Ey w2 c.g c.s c.fp) := HT.out.ent c (by rw [HDR.out]; simp)
      have HKW : Hid (Wf c.s.k) := HT.out.kwf c (by rw [HDR.out]; simp)
      have Q47 : Hid (∀ W, Away [] w2 W → Calls Tryz.prog 58 #[.pointer (some ⟨c.g, 0, none⟩)] W fun E w' => E = .returned (.int .i64 c.s.tb) ∧ Away [] w2 w') := fun W hW => (born_c (HEY.out.on hW).ent).mono (fun E w' h => ⟨h.1, by rw [h.2]; exact hW⟩)
      have HC0 : Hid (Away [] w2 w2.drew) := (Away.refl _ _).drew
      have HLB : Hid (lateB q now c = decide (q.t ≤ now - c.s.tb)) := rfl
      obtain ⟨tb, htbe⟩ : ∃ z, z = c.s.tb := ⟨_, rfl⟩
      rw [← htbe] at htb Q47 HLB
      clear htbe
      have jw : IntKind.i64.wrap (now - tb) = now - tb := by rw [IntKind.wrap_i64]; omega
      obtain ⟨qt, hqt⟩ : ∃ z, z = q.t := ⟨_, rfl⟩
      rw [← hqt] at HLB
      have C3 : Hid (w2.cell? ⟨gt, 3, none⟩ = some (.int .i64 qt)) := by rw [hqt]; exact HT.out.cell 3
      have C4 : Hid (w2.cell? ⟨gt, 4, none⟩ = some (.int .i64 now)) := HT.out.cell 4
      clear hqt
      by_cases hl : now - tb < qt
      · have hl2 : decide (now - tb < qt) = true := by simpa using hl
        go_wp2_with fail
        refine wp_region_cls (C := fun w' => Away [] w2 w') (by kernel_rfl) (by kernel_rfl) HC0.out ?_
        iterate 3 (go_big_quiet_want; (refine quiet_val ?_ ?_ ?_; rotate_left; (intro w; go_simp; rfl); go_simp; go_big_quiet_on))
        go_big_quiet_want; refine quiet_ld _ rfl (ad := ⟨gt, 4, none⟩) rfl (fun w' h => ld2 (h.cell (by simp) C4.out)) ?_; go_simp; go_big_quiet_on
        go_big_quiet_want; (refine quiet_val ?_ ?_ ?_; rotate_left; (intro w; go_simp; rfl); go_simp; go_big_quiet_on)
        go_big_quiet_want; refine quiet_call 58 #[.pointer (some ⟨c.g, 0, none⟩)] (.int .i64 tb) ?_ Q47.out ?_
        · intro w; go_simp; all_goals (with_reducible rfl)
        go_simp; go_big_quiet_on
        iterate 5 (go_big_quiet_want; (refine quiet_val ?_ ?_ ?_; rotate_left; (intro w; go_simp; rfl); go_simp; go_big_quiet_on))
        go_big_quiet_want; refine quiet_ld _ rfl (ad := ⟨gt, 3, none⟩) rfl (fun w' h => ld2 (h.cell (by simp) C3.out)) ?_; go_simp; go_big_quiet_on
        go_big_quiet_want; (refine quiet_val ?_ ?_ ?_; rotate_left; (intro w; go_simp; rfl); go_simp; go_big_quiet_on)
        refine wpQuiet_nil ?_
        intro V hV
        have HF : Hid (lateB q now c = false) := by show _ = _; rw [HLB.out]; simp; omega
        obtain ⟨e1, e2⟩ := split_at (q := q) (now := now) (cs := cs) (j := j) HJ.out (by rw [← HN.out]; exact hj) (fun d hd => by rw [HC.out] at hd; simp at hd; rw [← hd]; exact HF.out)
        have HE1 := Lib.hid e1
        have HE2 := Lib.hid e2
        replace HT := Lib.hid (HT.out.on hV)
        replace HCU := Lib.hid (HCU.out.on hV)
        replace HAW := Lib.hid (HAW.out.trans (hV.mono (by simp)))
        clear hV e1 e2
        go_wp2_with fail
        go_ret
        exact ⟨_, xs, _, rfl, HCU.out, by rw [HE1.out]; exact HXM.out, by rw [HE2.out]; exact HT.out, HOB.out, by rw [← HS.out]; exact HAW.out⟩
      · have hl2 : decide (now - tb < qt) = false := by simpa using hl
        go_wp2_with fail
        refine wp_region_cls (C := fun w' => Away [] w2 w') (by kernel_rfl) (by kernel_rfl) HC0.out ?_
        iterate 3 (go_big_quiet_want; (refine quiet_val ?_ ?_ ?_; rotate_left; (intro w; go_simp; rfl); go_simp; go_big_quiet_on))
        go_big_quiet_want; refine quiet_ld _ rfl (ad := ⟨gt, 4, none⟩) rfl (fun w' h => ld2 (h.cell (by simp) C4.out)) ?_; go_simp; go_big_quiet_on
        go_big_quiet_want; (refine quiet_val ?_ ?_ ?_; rotate_left; (intro w; go_simp; rfl); go_simp; go_big_quiet_on)
        go_big_quiet_want; refine quiet_call 58 #[.pointer (some ⟨c.g, 0, none⟩)] (.int .i64 tb) ?_ Q47.out ?_
        · intro w; go_simp; all_goals (with_reducible rfl)
        go_simp; go_big_quiet_on
        iterate 5 (go_big_quiet_want; (refine quiet_val ?_ ?_ ?_; rotate_left; (intro w; go_simp; rfl); go_simp; go_big_quiet_on))
        go_big_quiet_want; refine quiet_ld _ rfl (ad := ⟨gt, 3, none⟩) rfl (fun w' h => ld2 (h.cell (by simp) C3.out)) ?_; go_simp; go_big_quiet_on
        go_big_quiet_want; (refine quiet_val ?_ ?_ ?_; rotate_left; (intro w; go_simp; rfl); go_simp; go_big_quiet_on)
        refine wpQuiet_nil ?_
        intro V hV
        replace HT := Lib.hid (HT.out.on hV)
        replace HEY := Lib.hid (HEY.out.on hV)
        replace HCU := Lib.hid (HCU.out.on hV)
        replace HAW := Lib.hid (HAW.out.trans (hV.mono (by simp)))
        have HTL : Hid (lateB q now c = true) := by show _ = _; rw [HLB.out]; simp; omega
        clear hV Q47 HC0 HLB C3 C4
        have KF := Lib.hid (efirst_c HEY.out)
        go_wp2_with fail
        refine KF.out.mono ?_
        rintro E w4 ⟨fo, fd, rfl, hm1, haw1⟩
        have HFW : Hid (Wf (firstP c.s).1) := ey_first HEY.out
        have HM1 := Lib.hid hm1
        have HO1 := Lib.hid hm1.o.one
        have HD1 := Lib.hid hm1.d.one
        have HVL : Hid (∀ k, u3.ownBlock = some k → k < V.heap.size) := HCU.out.lst.lt
        have HLT : Hid (∀ y ∈ xs, ∀ k, y.o.ownBlock = some k ∨ y.d.ownBlock = some k → k < V.heap.size) := fun y hy k hk => ((HCU.out.each y hy).2.lto k hk).1
        have HSV : Hid (w.heap.size ≤ V.heap.size) := HAW.out.size
        replace HT := Lib.hid (HT.out.on haw1)
        replace HCU := Lib.hid (HCU.out.on haw1)
        replace HAW := Lib.hid (HAW.out.trans (haw1.mono (by simp)))
        have HAV := Lib.hid haw1
        clear hm1 haw1 KF HEY
        have HTS : Hid (toldL (cs.take (j + 1)) = toldL (cs.take j) ++ (if (firstP c.s).2 = true then [(firstP c.s).1] else [])) := told_snoc HC.out
        obtain ⟨fq, hfq⟩ : ∃ z, z = (firstP c.s).1 := ⟨_, rfl⟩
        obtain ⟨fb, hfb⟩ : ∃ z, z = (firstP c.s).2 := ⟨_, rfl⟩
        rw [← hfq] at HFW HM1 HTS ⊢
        rw [← hfb] at HTS ⊢
        clear hfq hfb
        go_wp2_with (refine wpList_new28 rfl rfl rfl _ _ rfl fq fo fd (fun g => rfl) (fun g => rfl) HFW.out.ad HO1.out HD1.out ?_; refine Hid.out ?_)
        refine Lib.hid ?_
        intro g5 w5 hg5 hb5 haw5
        have HB5 := Lib.hid hb5
        replace HT := Lib.hid (HT.out.on haw5)
        replace HCU := Lib.hid (HCU.out.on haw5)
        replace HM1 := Lib.hid (HM1.out.on haw5)
        replace HAW := Lib.hid (HAW.out.trans (haw5.mono (by simp)))
        clear hb5 haw5 hg5
        cases fb with
        | true =>
          go_wp2_with (first | (refine wpList_load28 rfl _ rfl _ rfl fq _ _ (by exact HB5.out) HFW.out.ad ?_) | (refine wpList_build28 rfl _ rfl fq fo fd rfl HFW.out.ad ?_; refine Hid.out ?_))
          refine Lib.hid ?_
          intro gq w6 hgq hbq haw6
          replace HT := Lib.hid (HT.out.on haw6)
          replace HCU := Lib.hid (HCU.out.on haw6)
          replace HM1 := Lib.hid (HM1.out.on haw6)
          replace HAW := Lib.hid (HAW.out.trans (haw6.mono (by simp)))
          have HBQ := Lib.hid hbq
          have HXL : Hid (xs.length ≤ 1000) := by
            have h1 : (xs.map X.p).length ≤ (cs.take j).length := by rw [HXM.out]; exact List.length_filterMap_le _ _
            rw [List.length_map, List.length_take] at h1
            have h2 := HN.out
            show _ ≤ _
            omega
          clear haw6 hbq hgq
          go_wp2_with (at_builtin; refine wpList_appP rfl _ _ rfl _ xs rfl (by exact HCU.out.lst) gq 1 rfl fq fo fd (by exact HBQ.out) HFW.out.ad HO1.out HD1.out (by have h1 := HXL.out; omega) ?_; refine Hid.out ?_)
          refine Lib.hid ?_
          intro v' w7 hl7 hgr hmv
          have HS6 : Hid (w.heap.size ≤ w6.heap.size) := HAW.out.size
          have HCU7 : Hid (Cuts w7 w.heap.size v' (xs ++ [⟨fq, fo, fd⟩])) := HCU.out.snoc ⟨HFW.out, HM1.out.mono (by have h1 := HSV.out; exact h1)⟩ (fun y hy k hk => by
            have h1 := HLT.out y hy k hk
            exact ⟨fun e => by have h2 := (HM1.out.lto k (.inl e)).2; omega, fun e => by have h2 := (HM1.out.lto k (.inr e)).2; omega⟩) (fun k hk e => by have h1 := (HM1.out.lto k hk).2; have h2 := HVL.out k e; omega) hl7 hgr hmv HS6.out
          have HNB : Hid (∀ k, u3.ownBlock = some k → k ∉ fpT gt mb (.slice oa n cap) (cs.drop j)) := fun k hk hm => by
            have h1 := HCU.out.new k hk
            have h2 : k < w.heap.size := by
              rcases mem_fpT.1 hm with e | e | hz | ⟨d, hd, hz⟩
              · exact HT0.out.lt k (mem_fpT.2 (.inl e))
              · exact HT0.out.lt k (mem_fpT.2 (.inr (.inl e)))
              · exact HT0.out.lt k (mem_fpT.2 (.inr (.inr (.inl (by rw [← HOB.out]; exact hz)))))
              · exact HT0.out.lt k (mem_fpT.2 (.inr (.inr (.inr ⟨d, List.mem_of_mem_drop hd, hz⟩))))
            omega
          have HA7 : Hid (Away u3.ownBlock.toList w6 w7) := (Away.refl _ _).grown hgr (fun k hk => .inl (by simp [hk]))
          replace HT := Lib.hid (HT.out.away HA7.out (fun z hz hm => HNB.out z (by simpa using hm) hz))
          replace HAW : Hid (Away S w w7) := HAW.out.next HA7.out (fun z hz => .inr (HCU.out.new z (by simpa using hz)))
          have HX7 : Hid ((xs ++ [(⟨fq, fo, fd⟩ : X)]).map X.p = toldL (cs.take (j + 1))) := by show _ = _; rw [List.map_append, HXM.out, HTS.out]; rfl
          clear hl7 hgr hmv HCU HM1 HA7 HNB
          have HEZ : Hid (Ey w7 c.g c.s c.fp) := HT.out.ent c (by rw [HDR.out]; simp)
          have K43 := Lib.hid (ekey_c HEZ.out.ent)
          go_wp2_with fail
          refine K43.out.mono ?_
          rintro E w8 ⟨rfl, haw8⟩
          replace HT := Lib.hid (HT.out.on haw8)
          replace HCU7 := Lib.hid (HCU7.out.on haw8)
          replace HAW := Lib.hid (HAW.out.trans (haw8.mono (by simp)))
          clear haw8 K43 HEZ
          have K42 := Lib.hid (drop_c HT.out (i := 0) (c := c) (by rw [HDR.out]; rfl) c.s.k HKW.out (ky_self _))
          go_wp2_with fail
          refine K42.out.mono ?_
          rintro E w9 ⟨rfl, ov9, htab9, hob9, haw9⟩
          have HT9 : Hid (Tab w9 gt mb ov9 q now (cs.drop (j + 1))) := by have h1 := htab9; rw [HDR.out] at h1; exact h1
          have HOB9 : Hid (ov9.ownBlock = ov.ownBlock) := hob9.trans HOB.out
          have HAS : Hid (Away S w8 w9) := by rw [HS.out]; have h1 := haw9; rw [HOB.out] at h1; exact h1
          have HCU9 : Hid (Cuts w9 w.heap.size v' (xs ++ [⟨fq, fo, fd⟩])) := HCU7.out.away HAS.out HSLT.out
          replace HAW := Lib.hid (HAW.out.trans HAS.out)
          have HON9 : Hid (ordN w9 gt = N - (j + 1)) := by show _ = _; rw [HT9.out.ordN, List.length_drop, HN.out]
          have HJ9 : Hid (∀ i d, i < j + 1 → cs[i]? = some d → lateB q now d = true) := fun i d hi hd => by
            by_cases he : i = j
            · subst he; rw [HC.out] at hd; simp at hd; rw [← hd]; exact HTL.out
            · exact HJ.out i d (by omega) hd
          clear htab9 hob9 haw9 K42
          go_wp2_with fail
          go_roundw
          case rel => exact ⟨j + 1, _, ov9, by have h1 := HN2.out; omega, HJ9.out, HCU9.out, HX7.out, HT9.out, HOB9.out, HAW.out⟩
          case measure => rw [HON9.out, HON.out]; have h1 := HN2.out; omega
        | false =>
          have HX7 : Hid (xs.map X.p = toldL (cs.take (j + 1))) := by show _ = _; rw [HXM.out, HTS.out]; simp
          have HEZ : Hid (Ey w5 c.g c.s c.fp) := HT.out.ent c (by rw [HDR.out]; simp)
          have K43 := Lib.hid (ekey_c HEZ.out.ent)
          go_wp2_with fail
          refine K43.out.mono ?_
          rintro E w8 ⟨rfl, haw8⟩
          replace HT := Lib.hid (HT.out.on haw8)
          replace HCU := Lib.hid (HCU.out.on haw8)
          replace HAW := Lib.hid (HAW.out.trans (haw8.mono (by simp)))
          clear haw8 K43 HEZ
          have K42 := Lib.hid (drop_c HT.out (i := 0) (c := c) (by rw [HDR.out]; rfl) c.s.k HKW.out (ky_self _))
          go_wp2_with fail
          refine K42.out.mono ?_
          rintro E w9 ⟨rfl, ov9, htab9, hob9, haw9⟩
          have HT9 : Hid (Tab w9 gt mb ov9 q now (cs.drop (j + 1))) := by have h1 := htab9; rw [HDR.out] at h1; exact h1
          have HOB9 : Hid (ov9.ownBlock = ov.ownBlock) := hob9.trans HOB.out
          have HAS : Hid (Away S w8 w9) := by rw [HS.out]; have h1 := haw9; rw [HOB.out] at h1; exact h1
          have HCU9 : Hid (Cuts w9 w.heap.size u3 xs) := HCU.out.away HAS.out HSLT.out
          replace HAW := Lib.hid (HAW.out.trans HAS.out)
          have HON9 : Hid (ordN w9 gt = N - (j + 1)) := by show _ = _; rw [HT9.out.ordN, List.length_drop, HN.out]
          have HJ9 : Hid (∀ i d, i < j + 1 → cs[i]? = some d → lateB q now d = true) := fun i d hi hd => by
            by_cases he : i = j
            · subst he; rw [HC.out] at hd; simp at hd; rw [← hd]; exact HTL.out
            · exact HJ.out i d (by omega) hd
          clear htab9 hob9 haw9 K42
          go_wp2_with fail
          go_roundw
          case rel => exact ⟨j + 1, _, ov9, by have h1 := HN2.out; omega, HJ9.out, HCU9.out, HX7.out, HT9.out, HOB9.out, HAW.out⟩
          case measure => rw [HON9.out, HON.out]; have h1 := HN2.out; omega
    · obtain rfl : n = 0 := by omega
      have HF := Lib.hid (split_at (q := q) (now := now) (cs := cs) (j := j) HJ.out (by rw [← HN.out]; exact hj) (fun d hd => by have h1 := lt_of_get hd; have h2 := HN2.out; have h3 := HN.out; omega))
      go_wp2_with fail
      go_ret
      exact ⟨_, xs, _, rfl, HCU.out, by rw [HF.out.1]; exact HXM.out, by rw [HF.out.2]; exact HT.out, HOB.out, by rw [← HS.out]; exact HAW.out⟩
end
theorem wpList_buildK {ops : Array Oper} {rest : List Oper} {o : Oper} {a : Act} {w : World} {Q : Exit → Act → World → Prop} (hg : o.guard = none) (x : Operand) (ho : o.op = .buildSlice 31 1 #[(0, x)]) (p : Pk) (hx : a.eval x = .agg (csK p)) (ha : Ad p)
    (h : ∀ g w1, w.heap.size ≤ g → BoxK w1 g (csK p) → Away [] w w1 → wpList Tryz.prog ops Q rest (a.put o.dst (.slice (some ⟨g, 0, none⟩) 1 1)) w1) : wpList Tryz.prog ops Q (o :: rest) a w :=
  wpList_plain hg fun KK hK => by
    unfold Oper.wp execOp
    simp only [ho, List.map_toArray, List.map_cons, List.map_nil, hx, K.run_buildK w p ha, Sem.run_bind, Result.andThen_ok, Sem.run_pure]
    exact hK _ _ (h w.heap.size _ (Nat.le_refl _) (block_new _ _) ((Away.refl [] w).alloc _))
theorem wpList_appK {ops : Array Oper} {rest : List Oper} {o : Oper} {a : Act} {w : World} {Q : Exit → Act → World → Prop} (hgd : o.guard = none) (s t : Operand)
    (ho : o.op = .call { callee := .builtin .append, args := #[s, t], argTypes := #[31, 31] }) (v : Value) (xs : List Pk) (hs : a.eval s = v) (hown : K.LstK w v xs) (g c : Nat) (ht : a.eval t = .slice (some ⟨g, 0, none⟩) 1 c) (p : Pk) (hb : BoxK w g (csK p)) (ha : Ad p) (hk : xs.length < 100000)
    (h : ∀ v' w', K.LstK w' v' (xs ++ [p]) → w.grownBy w' v.ownBlock → Moved w v v' → wpList Tryz.prog ops Q rest (a.put o.dst v') w') : wpList Tryz.prog ops Q (o :: rest) a w :=
  wpList_plain hgd fun KK hK => by
    obtain ⟨v', w', hrun, r1, r2, r3⟩ := K.run_appK o.type w v xs hown g c p hb ha hk
    unfold Oper.wp
    simp [execOp, ho, resolve, invoke, builtin, hs, ht, hrun, Result.andThen]
    exact hK _ _ (h v' w' r1 r2 r3)
def overB (q : Qo) (cs : List Cel) : Bool := decide (q.e < (cs.length : Int)) || decide (q.b < sumC cs)
def pushN (q : Qo) : List Cel → Nat
  | [] => 0
  | c :: r => if overB q (c :: r) = true then pushN q r + 1 else 0
theorem push_at {q : Qo} : ∀ {cs : List Cel} {j : Nat}, (∀ i, i < j → overB q (cs.drop i) = true) → j ≤ cs.length → (j = cs.length ∨ overB q (cs.drop j) = false) → pushN q cs = j
  | [], j, _, hj, _ => by simp at hj; subst hj; rfl
  | c :: r, 0, _, _, hf => by
    rcases hf with hf | hf
    · simp at hf
    · simp only [List.drop_zero] at hf
      unfold pushN
      rw [if_neg (by rw [hf]; simp)]
  | c :: r, j + 1, h, hj, hf => by
    have h0 := h 0 (by omega)
    simp only [List.drop_zero] at h0
    unfold pushN
    rw [if_pos h0, push_at (cs := r) (j := j) (fun i hi => by have := h (i + 1) (by omega); simpa using this) (by simpa using hj) (by simpa using hf)]
section
variable {w w' : World} {gt mb : Nat} {ov : Value} {q : Qo} {now : Int} {cs : List Cel}
def PushOut (w : World) (gt mb : Nat) (ov : Value) (q : Qo) (now : Int) (cs : List Cel) (E : Ending) (w' : World) : Prop :=
  ∃ v ov', E = .returned v ∧ K.LstK w' v ((cs.take (pushN q cs)).map (·.s.k)) ∧ New w.heap.size v ∧ Tab w' gt mb ov' q now (cs.drop (pushN q cs)) ∧ ov'.ownBlock = ov.ownBlock ∧ Away (gt :: mb :: ov.ownBlock.toList) w w'
set_option maxHeartbeats 8000000 in
theorem push_c (h : Tab w gt mb ov q now cs) (hq : 0 ≤ q.e ∧ 0 ≤ q.b) : Calls Tryz.prog 56 #[.pointer (some ⟨gt, 0, none⟩)] w (PushOut w gt mb ov q now cs) := by
  have HT0 := Lib.hid h
  have hlen := h.len
  have HSLT : Hid (∀ z ∈ gt :: mb :: ov.ownBlock.toList, z < w.heap.size) := fun z hz => h.lt z (by
    simp only [List.mem_cons, Option.mem_toList] at hz
    exact mem_fpT.2 (hz.imp id (Or.imp id Or.inl)))
  obtain ⟨S, hS⟩ : ∃ S, S = gt :: mb :: ov.ownBlock.toList := ⟨_, rfl⟩
  rw [← hS] at HSLT
  have HS := Lib.hid hS
  obtain ⟨N, hN⟩ : ∃ N, N = cs.length := ⟨_, rfl⟩
  rw [← hN] at hlen
  have HN := Lib.hid hN
  have HAT : Hid (Tab w gt mb ov q now (cs.drop 0)) := by rw [List.drop_zero]; exact h
  have HQ := Lib.hid hq
  clear h hS hN hq
  go_enter Tryz.func56, Tryz.ntmps56
  go_wp2_with fail
  go_loopw [3] (fun gv wr => ∃ (j : Nat) (ov' : Value), j ≤ N ∧ (∀ i, i < j → overB q (cs.drop i) = true) ∧ K.LstK wr gv ((cs.take j).map (·.s.k)) ∧ New w.heap.size gv ∧ Tab wr gt mb ov' q now (cs.drop j) ∧ ov'.ownBlock = ov.ownBlock ∧ Away S w wr) (fun _ wr => ordN wr gt)
  case atStart => exact ⟨0, ov, by omega, fun i hi => by omega, K.LstK.nil _, New.nil _, HAT.out, rfl, Away.refl _ _⟩
  case round =>
    clear HAT
    obtain ⟨j, ov', hj, hjl, hcu, hnew, htab, hob, haw⟩ := hrel
    obtain ⟨oa, cap, rfl, -⟩ := htab.shape
    have HJ := Lib.hid hjl
    have HCU := Lib.hid hcu
    have HNW := Lib.hid hnew
    have HT := Lib.hid htab
    have HOB := Lib.hid hob
    have HAW := Lib.hid haw
    have HON := Lib.hid htab.ordN
    obtain ⟨n, hn⟩ : ∃ n, n = (cs.drop j).length := ⟨_, rfl⟩
    have HOVB : Hid (overB q (cs.drop j) = (decide (q.e < (n : Int)) || decide (q.b < sumC (cs.drop j)))) := by rw [hn]; rfl
    rw [← hn] at HT HOB HON
    have HN2 : Hid (n = N - j) := by show _ = _; rw [hn, List.length_drop, HN.out]
    have HSB : Hid (0 ≤ sumC (cs.drop j) ∧ sumC (cs.drop j) ≤ 65535 * n) := by rw [hn]; exact sumC_bd (fun c hc => ey_h (HT.out.ent c hc))
    have HS0 : Hid (n = 0 → sumC (cs.drop j) = 0) := fun e => by have h1 := HSB.out; rw [e] at h1; omega
    obtain ⟨qe, hqe⟩ : ∃ z, z = q.e := ⟨_, rfl⟩
    obtain ⟨qb, hqb⟩ : ∃ z, z = q.b := ⟨_, rfl⟩
    obtain ⟨sm, hsm⟩ : ∃ z, z = sumC (cs.drop j) := ⟨_, rfl⟩
    have hq0 := HQ.out
    rw [← hqe, ← hqb] at hq0
    rw [← hqe, ← hqb, ← hsm] at HOVB
    rw [← hsm] at HSB HS0
    have C0 : Hid (wr.cell? ⟨gt, 0, none⟩ = some (.int .i64 qe)) := by rw [hqe]; exact HT.out.cell 0
    have C1 : Hid (wr.cell? ⟨gt, 1, none⟩ = some (.int .i64 qb)) := by rw [hqb]; exact HT.out.cell 1
    have C6 : Hid (wr.cell? ⟨gt, 6, none⟩ = some (.slice oa n cap)) := HT.out.cell 6
    have Q11 : Hid (∀ W, Away [] wr W → Calls Tryz.prog 16 #[.pointer (some ⟨gt, 0, none⟩)] W fun E w' => E = .returned (.int .i64 sm) ∧ Away [] wr w') := fun W hW => by
      rw [hsm]
      exact (tbytes_c (HT.out.on hW)).mono (fun E w' h => ⟨h.1, hW.trans h.2⟩)
    have HC0 : Hid (Away [] wr wr.drew) := (Away.refl _ _).drew
    clear hjl hcu hnew htab hob haw hn hqe hqb hsm
    by_cases h1 : qe < (n : Int)
    · have h1b : decide (qe < (n : Int)) = true := by simpa using h1
      have hpos : 0 < n := by omega
      have HOV : Hid (overB q (cs.drop j) = true) := by show _ = _; rw [HOVB.out, h1b]; rfl
      clear HOVB HSB HS0 hq0
      go_wp2_with fail
      refine wp_region_cls (C := fun w' => Away [] wr w') (by kernel_rfl) (by kernel_rfl) HC0.out ?_
      iterate 3 (go_big_quiet_want; (refine quiet_val ?_ ?_ ?_; rotate_left; (intro w; go_simp; rfl); go_simp; go_big_quiet_on))
      go_big_quiet_want; refine quiet_ld _ rfl (ad := ⟨gt, 6, none⟩) rfl (fun w' h => ldS (h.cell (by simp) C6.out)) ?_; go_simp; go_big_quiet_on
      iterate 5 (go_big_quiet_want; (refine quiet_val ?_ ?_ ?_; rotate_left; (intro w; go_simp; rfl); go_simp; go_big_quiet_on))
      go_big_quiet_want; refine quiet_ld _ rfl (ad := ⟨gt, 0, none⟩) rfl (fun w' h => ld3 (h.cell (by simp) C0.out)) ?_; go_simp; go_big_quiet_on
      go_big_quiet_want; (refine quiet_val ?_ ?_ ?_; rotate_left; (intro w; go_simp; rfl); go_simp; go_big_quiet_on)
      go_big_quiet_want; (refine quiet_val ?_ ?_ ?_; rotate_left; (intro w; go_simp; rfl); go_simp; go_big_quiet_on)
      iterate 8 (go_big_quiet_skip)
      go_big_quiet_want; (refine quiet_val ?_ ?_ ?_; rotate_left; (intro w; go_simp; rfl); go_simp; go_big_quiet_on)
      refine wpQuiet_nil ?_
      intro V hV
      replace HT := Lib.hid (HT.out.on hV)
      replace HCU := Lib.hid (HCU.out.on hV)
      replace HAW := Lib.hid (HAW.out.trans (hV.mono (by simp)))
      clear hV C0 C1 C6 Q11 HC0
      obtain ⟨c, hc, hcm⟩ := get_of (show j < cs.length by have h1 := HN2.out; have h2 := HN.out; omega)
      have HC := Lib.hid hc
      have HDR : Hid (cs.drop j = c :: cs.drop (j + 1)) := by
        show _ = _
        rw [List.drop_eq_getElem_cons (lt_of_get hc), (List.getElem?_eq_some_iff.1 hc).2]
      clear hc hcm
      have K46 : Hid (Calls Tryz.prog 57 #[.pointer (some ⟨gt, 0, none⟩)] V fun E w' => E = .returned (.pointer (some ⟨c.g, 0, none⟩)) ∧ Away [] V w') := oldest_c (r := cs.drop (j + 1)) (by rw [← HDR.out]; exact HT.out)
      go_wp2_with fail
      refine K46.out.mono ?_
      rintro E w2 ⟨rfl, haw2⟩
      replace HT := Lib.hid (HT.out.on haw2)
      replace HCU := Lib.hid (HCU.out.on haw2)
      replace HAW := Lib.hid (HAW.out.trans (haw2.mono (by simp)))
      clear haw2 K46
      have HEY : Hid (Ey w2 c.g c.s c.fp) := HT.out.ent c (by rw [HDR.out]; simp)
      have HKW : Hid (Wf c.s.k) := HT.out.kwf c (by rw [HDR.out]; simp)
      have K43 := Lib.hid (ekey_c HEY.out.ent)
      go_wp2_with fail
      refine K43.out.mono ?_
      rintro E w3 ⟨rfl, haw3⟩
      replace HT := Lib.hid (HT.out.on haw3)
      replace HCU := Lib.hid (HCU.out.on haw3)
      replace HAW := Lib.hid (HAW.out.trans (haw3.mono (by simp)))
      clear haw3 K43 HEY
      go_wp2_with (refine wpList_alloc78 rfl rfl ?_; refine Hid.out ?_)
      refine Lib.hid ?_
      intro g4 w4 hg4 hb4 haw4
      have HB4 := Lib.hid hb4
      have HG4 : Hid (w3.heap.size ≤ g4) := hg4
      have HS3 : Hid (w.heap.size ≤ w3.heap.size) := HAW.out.size
      have HT3 := HT
      have HVL : Hid (∀ z, u3.ownBlock = some z → z ≠ g4) := fun z hz e => by have h1 := HCU.out.lt z hz; have h2 := HG4.out; omega
      replace HT := Lib.hid (HT.out.on haw4)
      replace HCU := Lib.hid (HCU.out.on haw4)
      replace HAW := Lib.hid (HAW.out.trans (haw4.mono (by simp)))
      clear hb4 haw4 hg4
      go_wp2_with (refine wpList_store78 rfl _ _ rfl g4 rfl c.s.k HKW.out.ad rfl (by exact HB4.out) ?_; refine Hid.out ?_)
      refine Lib.hid ?_
      intro w5 hb5 haw5
      replace HB4 := Lib.hid hb5
      replace HT := Lib.hid (HT.out.away haw5 (fun z hz hm => by simp at hm; have h1 := HT3.out.lt z hz; have h2 := HG4.out; omega))
      replace HCU := Lib.hid (HCU.out.away haw5 (fun z hz => by simpa using HVL.out z hz))
      replace HAW : Hid (Away S w w5) := HAW.out.next haw5 (fun z hz => .inr (by simp at hz; rw [hz]; exact Nat.le_trans HS3.out HG4.out))
      clear hb5 haw5 HT3
      have K42 := Lib.hid (drop_c HT.out (i := 0) (c := c) (by rw [HDR.out]; rfl) c.s.k HKW.out (ky_self _))
      go_wp2_with (refine wpList_load29m rfl _ rfl g4 0 rfl c.s.k (by exact boxK_range HB4.out) HKW.out.ad ?_)
      refine K42.out.mono ?_
      rintro E w6 ⟨rfl, ov9, htab9, hob9, haw9⟩
      have HT9 : Hid (Tab w6 gt mb ov9 q now (cs.drop (j + 1))) := by have h1 := htab9; rw [HDR.out] at h1; exact h1
      have HOB9 : Hid (ov9.ownBlock = ov.ownBlock) := hob9.trans HOB.out
      have HAS : Hid (Away S w5 w6) := by rw [HS.out]; have h1 := haw9; rw [HOB.out] at h1; exact h1
      replace HB4 : Hid (BoxK w6 g4 (csK c.s.k)) := HAS.out.keep (fun hm => by have h1 := HSLT.out g4 hm; have h2 := HG4.out; have h3 := HS3.out; omega) HB4.out
      replace HCU := Lib.hid (HCU.out.away HAS.out (fun z hz hm => by have h1 := HSLT.out z hm; have h2 := HNW.out z hz; omega))
      replace HAW := Lib.hid (HAW.out.trans HAS.out)
      clear htab9 hob9 haw9 K42 HT
      go_wp2_with (first | (refine wpList_load29m rfl _ rfl g4 0 rfl c.s.k (by exact boxK_range HB4.out) HKW.out.ad ?_) | (refine wpList_buildK rfl _ rfl c.s.k rfl HKW.out.ad ?_; refine Hid.out ?_))
      refine Lib.hid ?_
      intro gq w7 hgq hbq haw7
      replace HT9 := Lib.hid (HT9.out.on haw7)
      replace HCU := Lib.hid (HCU.out.on haw7)
      replace HAW := Lib.hid (HAW.out.trans (haw7.mono (by simp)))
      have HBQ := Lib.hid hbq
      have HXL : Hid (((cs.take j).map (·.s.k)).length ≤ 1000) := by show _ ≤ _; rw [List.length_map, List.length_take]; have h1 := HN.out; omega
      clear haw7 hbq hgq
      go_wp2_with (at_builtin; refine wpList_appK rfl _ _ rfl _ ((cs.take j).map (·.s.k)) rfl (by exact HCU.out) gq 1 rfl c.s.k (by exact HBQ.out) HKW.out.ad (by have h1 := HXL.out; omega) ?_; refine Hid.out ?_)
      refine Lib.hid ?_
      intro v' w8 hl8 hgr hmv
      have HA8 : Hid (Away u3.ownBlock.toList w7 w8) := (Away.refl _ _).grown hgr (fun k hk => .inl (by simp [hk]))
      have HL8 : Hid (K.LstK w8 v' ((cs.take (j + 1)).map (·.s.k))) := by
        have h1 : (cs.take (j + 1)).map (·.s.k) = (cs.take j).map (·.s.k) ++ [c.s.k] := by
          rw [List.take_succ_eq_append_getElem (lt_of_get HC.out), List.map_append, (List.getElem?_eq_some_iff.1 HC.out).2]; rfl
        show K.LstK _ _ _
        rw [h1, List.map_take]; exact hl8
      have HS7 : Hid (w.heap.size ≤ w7.heap.size) := HAW.out.size
      have HNW8 : Hid (New w.heap.size v') := HNW.out.moved hmv HS7.out
      replace HT9 := Lib.hid (HT9.out.away HA8.out (fun z hz hm => by
        have h1 := HNW.out z (by simpa using hm)
        have h2 : z < w.heap.size := by
          rcases mem_fpT.1 hz with e | e | hz | ⟨d, hd, hz⟩
          · exact HT0.out.lt z (mem_fpT.2 (.inl e))
          · exact HT0.out.lt z (mem_fpT.2 (.inr (.inl e)))
          · exact HT0.out.lt z (mem_fpT.2 (.inr (.inr (.inl (by rw [← HOB9.out]; exact hz)))))
          · exact HT0.out.lt z (mem_fpT.2 (.inr (.inr (.inr ⟨d, List.mem_of_mem_drop hd, hz⟩))))
        omega))
      replace HAW : Hid (Away S w w8) := HAW.out.next HA8.out (fun z hz => .inr (HNW.out z (by simpa using hz)))
      have HON9 : Hid (ordN w8 gt = N - (j + 1)) := by show _ = _; rw [HT9.out.ordN, List.length_drop, HN.out]
      have HJ9 : Hid (∀ i, i < j + 1 → overB q (cs.drop i) = true) := fun i hi => by
        by_cases he : i = j
        · subst he; exact HOV.out
        · exact HJ.out i (by omega)
      clear hl8 hgr hmv HA8 HCU
      go_wp2_with fail
      go_roundw
      case rel => exact ⟨j + 1, ov9, by have h1 := HN2.out; omega, HJ9.out, HL8.out, HNW8.out, HT9.out, HOB9.out, HAW.out⟩
      case measure => rw [HON9.out, HON.out]; have h1 := HN2.out; omega
    · have h1b : decide (qe < (n : Int)) = false := by simpa using h1
      by_cases h2 : qb < sm
      · have h2b : decide (qb < sm) = true := by simpa using h2
        have hpos : 0 < n := by
          rcases Nat.eq_zero_or_pos n with e | e
          · have h3 := HS0.out e; omega
          · exact e
        have HOV : Hid (overB q (cs.drop j) = true) := by show _ = _; rw [HOVB.out, h2b]; simp
        clear HOVB HSB HS0 hq0
        go_wp2_with fail
        refine wp_region_cls (C := fun w' => Away [] wr w') (by kernel_rfl) (by kernel_rfl) HC0.out ?_
        iterate 3 (go_big_quiet_want; (refine quiet_val ?_ ?_ ?_; rotate_left; (intro w; go_simp; rfl); go_simp; go_big_quiet_on))
        go_big_quiet_want; refine quiet_ld _ rfl (ad := ⟨gt, 6, none⟩) rfl (fun w' h => ldS (h.cell (by simp) C6.out)) ?_; go_simp; go_big_quiet_on
        iterate 5 (go_big_quiet_want; (refine quiet_val ?_ ?_ ?_; rotate_left; (intro w; go_simp; rfl); go_simp; go_big_quiet_on))
        go_big_quiet_want; refine quiet_ld _ rfl (ad := ⟨gt, 0, none⟩) rfl (fun w' h => ld3 (h.cell (by simp) C0.out)) ?_; go_simp; go_big_quiet_on
        iterate 3 (go_big_quiet_want; (refine quiet_val ?_ ?_ ?_; rotate_left; (intro w; go_simp; rfl); go_simp; go_big_quiet_on))
        go_big_quiet_want; refine quiet_call 16 #[.pointer (some ⟨gt, 0, none⟩)] (.int .i64 sm) ?_ Q11.out ?_
        · intro w; go_simp; all_goals (with_reducible rfl)
        go_simp; go_big_quiet_on
        iterate 4 (go_big_quiet_want; (refine quiet_val ?_ ?_ ?_; rotate_left; (intro w; go_simp; rfl); go_simp; go_big_quiet_on))
        go_big_quiet_want; refine quiet_ld _ rfl (ad := ⟨gt, 1, none⟩) rfl (fun w' h => ld3 (h.cell (by simp) C1.out)) ?_; go_simp; go_big_quiet_on
        go_big_quiet_want; (refine quiet_val ?_ ?_ ?_; rotate_left; (intro w; go_simp; rfl); go_simp; go_big_quiet_on)
        go_big_quiet_want; (refine quiet_val ?_ ?_ ?_; rotate_left; (intro w; go_simp; rfl); go_simp; go_big_quiet_on)
        refine wpQuiet_nil ?_
        intro V hV
        replace HT := Lib.hid (HT.out.on hV)
        replace HCU := Lib.hid (HCU.out.on hV)
        replace HAW := Lib.hid (HAW.out.trans (hV.mono (by simp)))
        clear hV C0 C1 C6 Q11 HC0
        obtain ⟨c, hc, hcm⟩ := get_of (show j < cs.length by have h1 := HN2.out; have h2 := HN.out; omega)
        have HC := Lib.hid hc
        have HDR : Hid (cs.drop j = c :: cs.drop (j + 1)) := by
          show _ = _
          rw [List.drop_eq_getElem_cons (lt_of_get hc), (List.getElem?_eq_some_iff.1 hc).2]
        clear hc hcm
        have K46 : Hid (Calls Tryz.prog 57 #[.pointer (some ⟨gt, 0, none⟩)] V fun E w' => E = .returned (.pointer (some ⟨c.g, 0, none⟩)) ∧ Away [] V w') := oldest_c (r := cs.drop (j + 1)) (by rw [← HDR.out]; exact HT.out)
        go_wp2_with fail
        refine K46.out.mono ?_
        rintro E w2 ⟨rfl, haw2⟩
        replace HT := Lib.hid (HT.out.on haw2)
        replace HCU := Lib.hid (HCU.out.on haw2)
        replace HAW := Lib.hid (HAW.out.trans (haw2.mono (by simp)))
        clear haw2 K46
        have HEY : Hid (Ey w2 c.g c.s c.fp) := HT.out.ent c (by rw [HDR.out]; simp)
        have HKW : Hid (Wf c.s.k) := HT.out.kwf c (by rw [HDR.out]; simp)
        have K43 := Lib.hid (ekey_c HEY.out.ent)
        go_wp2_with fail
        refine K43.out.mono ?_
        rintro E w3 ⟨rfl, haw3⟩
        replace HT := Lib.hid (HT.out.on haw3)
        replace HCU := Lib.hid (HCU.out.on haw3)
        replace HAW := Lib.hid (HAW.out.trans (haw3.mono (by simp)))
        clear haw3 K43 HEY
        go_wp2_with (refine wpList_alloc78 rfl rfl ?_; refine Hid.out ?_)
        refine Lib.hid ?_
        intro g4 w4 hg4 hb4 haw4
        have HB4 := Lib.hid hb4
        have HG4 : Hid (w3.heap.size ≤ g4) := hg4
        have HS3 : Hid (w.heap.size ≤ w3.heap.size) := HAW.out.size
        have HT3 := HT
        have HVL : Hid (∀ z, u3.ownBlock = some z → z ≠ g4) := fun z hz e => by have h1 := HCU.out.lt z hz; have h2 := HG4.out; omega
        replace HT := Lib.hid (HT.out.on haw4)
        replace HCU := Lib.hid (HCU.out.on haw4)
        replace HAW := Lib.hid (HAW.out.trans (haw4.mono (by simp)))
        clear hb4 haw4 hg4
        go_wp2_with (refine wpList_store78 rfl _ _ rfl g4 rfl c.s.k HKW.out.ad rfl (by exact HB4.out) ?_; refine Hid.out ?_)
        refine Lib.hid ?_
        intro w5 hb5 haw5
        replace HB4 := Lib.hid hb5
        replace HT := Lib.hid (HT.out.away haw5 (fun z hz hm => by simp at hm; have h1 := HT3.out.lt z hz; have h2 := HG4.out; omega))
        replace HCU := Lib.hid (HCU.out.away haw5 (fun z hz => by simpa using HVL.out z hz))
        replace HAW : Hid (Away S w w5) := HAW.out.next haw5 (fun z hz => .inr (by simp at hz; rw [hz]; exact Nat.le_trans HS3.out HG4.out))
        clear hb5 haw5 HT3
        have K42 := Lib.hid (drop_c HT.out (i := 0) (c := c) (by rw [HDR.out]; rfl) c.s.k HKW.out (ky_self _))
        go_wp2_with (refine wpList_load29m rfl _ rfl g4 0 rfl c.s.k (by exact boxK_range HB4.out) HKW.out.ad ?_)
        refine K42.out.mono ?_
        rintro E w6 ⟨rfl, ov9, htab9, hob9, haw9⟩
        have HT9 : Hid (Tab w6 gt mb ov9 q now (cs.drop (j + 1))) := by have h1 := htab9; rw [HDR.out] at h1; exact h1
        have HOB9 : Hid (ov9.ownBlock = ov.ownBlock) := hob9.trans HOB.out
        have HAS : Hid (Away S w5 w6) := by rw [HS.out]; have h1 := haw9; rw [HOB.out] at h1; exact h1
        replace HB4 : Hid (BoxK w6 g4 (csK c.s.k)) := HAS.out.keep (fun hm => by have h1 := HSLT.out g4 hm; have h2 := HG4.out; have h3 := HS3.out; omega) HB4.out
        replace HCU := Lib.hid (HCU.out.away HAS.out (fun z hz hm => by have h1 := HSLT.out z hm; have h2 := HNW.out z hz; omega))
        replace HAW := Lib.hid (HAW.out.trans HAS.out)
        clear htab9 hob9 haw9 K42 HT
        go_wp2_with (first | (refine wpList_load29m rfl _ rfl g4 0 rfl c.s.k (by exact boxK_range HB4.out) HKW.out.ad ?_) | (refine wpList_buildK rfl _ rfl c.s.k rfl HKW.out.ad ?_; refine Hid.out ?_))
        refine Lib.hid ?_
        intro gq w7 hgq hbq haw7
        replace HT9 := Lib.hid (HT9.out.on haw7)
        replace HCU := Lib.hid (HCU.out.on haw7)
        replace HAW := Lib.hid (HAW.out.trans (haw7.mono (by simp)))
        have HBQ := Lib.hid hbq
        have HXL : Hid (((cs.take j).map (·.s.k)).length ≤ 1000) := by show _ ≤ _; rw [List.length_map, List.length_take]; have h1 := HN.out; omega
        clear haw7 hbq hgq
        go_wp2_with (at_builtin; refine wpList_appK rfl _ _ rfl _ ((cs.take j).map (·.s.k)) rfl (by exact HCU.out) gq 1 rfl c.s.k (by exact HBQ.out) HKW.out.ad (by have h1 := HXL.out; omega) ?_; refine Hid.out ?_)
        refine Lib.hid ?_
        intro v' w8 hl8 hgr hmv
        have HA8 : Hid (Away u3.ownBlock.toList w7 w8) := (Away.refl _ _).grown hgr (fun k hk => .inl (by simp [hk]))
        have HL8 : Hid (K.LstK w8 v' ((cs.take (j + 1)).map (·.s.k))) := by
          have h1 : (cs.take (j + 1)).map (·.s.k) = (cs.take j).map (·.s.k) ++ [c.s.k] := by
            rw [List.take_succ_eq_append_getElem (lt_of_get HC.out), List.map_append, (List.getElem?_eq_some_iff.1 HC.out).2]; rfl
          show K.LstK _ _ _
          rw [h1, List.map_take]; exact hl8
        have HS7 : Hid (w.heap.size ≤ w7.heap.size) := HAW.out.size
        have HNW8 : Hid (New w.heap.size v') := HNW.out.moved hmv HS7.out
        replace HT9 := Lib.hid (HT9.out.away HA8.out (fun z hz hm => by
          have h1 := HNW.out z (by simpa using hm)
          have h2 : z < w.heap.size := by
            rcases mem_fpT.1 hz with e | e | hz | ⟨d, hd, hz⟩
            · exact HT0.out.lt z (mem_fpT.2 (.inl e))
            · exact HT0.out.lt z (mem_fpT.2 (.inr (.inl e)))
            · exact HT0.out.lt z (mem_fpT.2 (.inr (.inr (.inl (by rw [← HOB9.out]; exact hz)))))
            · exact HT0.out.lt z (mem_fpT.2 (.inr (.inr (.inr ⟨d, List.mem_of_mem_drop hd, hz⟩))))
          omega))
        replace HAW : Hid (Away S w w8) := HAW.out.next HA8.out (fun z hz => .inr (HNW.out z (by simpa using hz)))
        have HON9 : Hid (ordN w8 gt = N - (j + 1)) := by show _ = _; rw [HT9.out.ordN, List.length_drop, HN.out]
        have HJ9 : Hid (∀ i, i < j + 1 → overB q (cs.drop i) = true) := fun i hi => by
          by_cases he : i = j
          · subst he; exact HOV.out
          · exact HJ.out i (by omega)
        clear hl8 hgr hmv HA8 HCU
        go_wp2_with fail
        go_roundw
        case rel => exact ⟨j + 1, ov9, by have h1 := HN2.out; omega, HJ9.out, HL8.out, HNW8.out, HT9.out, HOB9.out, HAW.out⟩
        case measure => rw [HON9.out, HON.out]; have h1 := HN2.out; omega
      · have h2b : decide (qb < sm) = false := by simpa using h2
        have HOV : Hid (overB q (cs.drop j) = false) := by show _ = _; rw [HOVB.out, h1b, h2b]; rfl
        have HPN : Hid (pushN q cs = j) := push_at HJ.out (by rw [← HN.out]; exact hj) (.inr HOV.out)
        go_wp2_with fail
        refine wp_region_cls (C := fun w' => Away [] wr w') (by kernel_rfl) (by kernel_rfl) HC0.out ?_
        iterate 3 (go_big_quiet_want; (refine quiet_val ?_ ?_ ?_; rotate_left; (intro w; go_simp; rfl); go_simp; go_big_quiet_on))
        go_big_quiet_want; refine quiet_ld _ rfl (ad := ⟨gt, 6, none⟩) rfl (fun w' h => ldS (h.cell (by simp) C6.out)) ?_; go_simp; go_big_quiet_on
        iterate 5 (go_big_quiet_want; (refine quiet_val ?_ ?_ ?_; rotate_left; (intro w; go_simp; rfl); go_simp; go_big_quiet_on))
        go_big_quiet_want; refine quiet_ld _ rfl (ad := ⟨gt, 0, none⟩) rfl (fun w' h => ld3 (h.cell (by simp) C0.out)) ?_; go_simp; go_big_quiet_on
        iterate 3 (go_big_quiet_want; (refine quiet_val ?_ ?_ ?_; rotate_left; (intro w; go_simp; rfl); go_simp; go_big_quiet_on))
        go_big_quiet_want; refine quiet_call 16 #[.pointer (some ⟨gt, 0, none⟩)] (.int .i64 sm) ?_ Q11.out ?_
        · intro w; go_simp; all_goals (with_reducible rfl)
        go_simp; go_big_quiet_on
        iterate 4 (go_big_quiet_want; (refine quiet_val ?_ ?_ ?_; rotate_left; (intro w; go_simp; rfl); go_simp; go_big_quiet_on))
        go_big_quiet_want; refine quiet_ld _ rfl (ad := ⟨gt, 1, none⟩) rfl (fun w' h => ld3 (h.cell (by simp) C1.out)) ?_; go_simp; go_big_quiet_on
        go_big_quiet_want; (refine quiet_val ?_ ?_ ?_; rotate_left; (intro w; go_simp; rfl); go_simp; go_big_quiet_on)
        go_big_quiet_want; (refine quiet_val ?_ ?_ ?_; rotate_left; (intro w; go_simp; rfl); go_simp; go_big_quiet_on)
        refine wpQuiet_nil ?_
        intro V hV
        replace HT := Lib.hid (HT.out.on hV)
        replace HCU := Lib.hid (HCU.out.on hV)
        replace HAW := Lib.hid (HAW.out.trans (hV.mono (by simp)))
        clear hV
        go_wp2_with fail
        go_ret
        exact ⟨_, _, rfl, by rw [HPN.out]; exact HCU.out, HNW.out, by rw [HPN.out]; exact HT.out, HOB.out, by rw [← HS.out]; exact HAW.out⟩
end
def rightQ (q : Qo) : Bool := decide (1 ≤ q.e) && decide (q.e ≤ 64) && decide (0 ≤ q.b) && decide (q.b ≤ 1048576) && decide (1 ≤ q.h) && decide (q.h ≤ 8192) && decide (1 ≤ q.t) && decide (q.t ≤ 1099511627776)
def valQ (q : Qo) : Value := .agg #[.int .i64 q.e, .int .i64 q.b, .int .i64 q.h, .int .i64 q.t]
set_option maxHeartbeats 4000000 in
theorem isRight_c (w : World) (q : Qo) : Calls Tryz.prog 29 #[valQ q] w fun E w' => E = .returned (.bool (rightQ q)) ∧ Away [] w w' := by
  unfold valQ
  go_enter Tryz.func29, Tryz.ntmps29
  by_cases h0 : 1 ≤ q.e
  · have b0 : decide (1 ≤ q.e) = true := by simpa using h0
    by_cases h1 : q.e ≤ 64
    · have b1 : decide (q.e ≤ 64) = true := by simpa using h1
      by_cases h2 : 0 ≤ q.b
      · have b2 : decide (0 ≤ q.b) = true := by simpa using h2
        by_cases h3 : q.b ≤ 1048576
        · have b3 : decide (q.b ≤ 1048576) = true := by simpa using h3
          by_cases h4 : 1 ≤ q.h
          · have b4 : decide (1 ≤ q.h) = true := by simpa using h4
            by_cases h5 : q.h ≤ 8192
            · have b5 : decide (q.h ≤ 8192) = true := by simpa using h5
              by_cases h6 : 1 ≤ q.t
              · have b6 : decide (1 ≤ q.t) = true := by simpa using h6
                by_cases h7 : q.t ≤ 1099511627776
                · have b7 : decide (q.t ≤ 1099511627776) = true := by simpa using h7
                  go_wp2_with fail
                  go_ret
                  exact ⟨by simp [rightQ, h0, h1, h2, h3, h4, h5, h6, h7], (Away.refl _ _).alloc _⟩
                · have b7 : decide (q.t ≤ 1099511627776) = false := by simpa using h7
                  go_wp2_with fail
                  go_ret
                  exact ⟨congrArg (fun b => Ending.returned (Value.bool b)) (by unfold rightQ; cases hd : decide (q.t ≤ 1099511627776) with | false => simp | true => exfalso; simp at hd; omega), (Away.refl _ _).alloc _⟩
              · have b6 : decide (1 ≤ q.t) = false := by simpa using h6
                go_wp2_with fail
                go_ret
                exact ⟨congrArg (fun b => Ending.returned (Value.bool b)) (by unfold rightQ; cases hd : decide (1 ≤ q.t) with | false => simp | true => exfalso; simp at hd; omega), (Away.refl _ _).alloc _⟩
            · have b5 : decide (q.h ≤ 8192) = false := by simpa using h5
              go_wp2_with fail
              go_ret
              exact ⟨congrArg (fun b => Ending.returned (Value.bool b)) (by unfold rightQ; cases hd : decide (q.h ≤ 8192) with | false => simp | true => exfalso; simp at hd; omega), (Away.refl _ _).alloc _⟩
          · have b4 : decide (1 ≤ q.h) = false := by simpa using h4
            go_wp2_with fail
            go_ret
            exact ⟨congrArg (fun b => Ending.returned (Value.bool b)) (by unfold rightQ; cases hd : decide (1 ≤ q.h) with | false => simp | true => exfalso; simp at hd; omega), (Away.refl _ _).alloc _⟩
        · have b3 : decide (q.b ≤ 1048576) = false := by simpa using h3
          go_wp2_with fail
          go_ret
          exact ⟨congrArg (fun b => Ending.returned (Value.bool b)) (by unfold rightQ; cases hd : decide (q.b ≤ 1048576) with | false => simp | true => exfalso; simp at hd; omega), (Away.refl _ _).alloc _⟩
      · have b2 : decide (0 ≤ q.b) = false := by simpa using h2
        go_wp2_with fail
        go_ret
        exact ⟨congrArg (fun b => Ending.returned (Value.bool b)) (by unfold rightQ; cases hd : decide (0 ≤ q.b) with | false => simp | true => exfalso; simp at hd; omega), (Away.refl _ _).alloc _⟩
    · have b1 : decide (q.e ≤ 64) = false := by simpa using h1
      go_wp2_with fail
      go_ret
      exact ⟨congrArg (fun b => Ending.returned (Value.bool b)) (by unfold rightQ; cases hd : decide (q.e ≤ 64) with | false => simp | true => exfalso; simp at hd; omega), (Away.refl _ _).alloc _⟩
  · have b0 : decide (1 ≤ q.e) = false := by simpa using h0
    go_wp2_with fail
    go_ret
    exact ⟨congrArg (fun b => Ending.returned (Value.bool b)) (by unfold rightQ; cases hd : decide (1 ≤ q.e) with | false => simp | true => exfalso; simp at hd; omega), (Away.refl _ _).alloc _⟩
theorem wpList_mkM {ops : Array Oper} {rest : List Oper} {o : Oper} {a : Act} {w : World} {Q : Exit → Act → World → Prop} (hg : o.guard = none) (ho : o.op = .makeMap 76 none)
    (h : wpList Tryz.prog ops Q rest (a.put o.dst (.map (some w.heap.size))) (w.alloc (.map #[] 0))) : wpList Tryz.prog ops Q (o :: rest) a w :=
  wpList_plain hg fun KK hK => by
    have hr : (Instr.makeMap 76 none).run Tryz.prog w = .ok (.map (some w.heap.size)) (w.alloc (.map #[] 0)) := by kernel_rfl
    unfold Oper.wp
    simp [execOp, ho, hr, Result.andThen]
    exact hK _ _ h
theorem run_buildT (q : Qo) (mb : Nat) (w : World) : (Instr.build 78 #[(0, .agg #[.int .i64 q.e, .int .i64 q.b, .int .i64 q.h, .int .i64 q.t]), (2, .map (some mb))]).run Tryz.prog w = .ok (.agg (csT q 0 mb (.slice none 0 0))) w := by kernel_rfl
def NewOut (w : World) (q : Qo) (E : Ending) (w' : World) : Prop :=
  (rightQ q = false ∧ E = .returned (.tuple #[.pointer none, .int .i64 1]) ∧ Away [] w w') ∨
  (rightQ q = true ∧ ∃ gt mb, E = .returned (.tuple #[.pointer (some ⟨gt, 0, none⟩), .int .i64 0]) ∧ Tab w' gt mb (.slice none 0 0) q 0 [] ∧ w.heap.size ≤ gt ∧ w.heap.size ≤ mb ∧ Away [] w w')
set_option maxHeartbeats 4000000 in
theorem tnew_c (w : World) (q : Qo) : Calls Tryz.prog 9 #[valQ q] w (NewOut w q) := by
  have K18 : Hid (∀ W, Calls Tryz.prog 29 #[.agg #[.int .i64 q.e, .int .i64 q.b, .int .i64 q.h, .int .i64 q.t]] W fun E w' => E = .returned (.bool (rightQ q)) ∧ Away [] W w') := fun W => isRight_c W q
  have hbd := run_buildT q
  have HBD := Lib.hid hbd
  unfold valQ
  clear hbd
  obtain ⟨rb, hrb⟩ : ∃ z, z = rightQ q := ⟨_, rfl⟩
  rw [← hrb] at K18
  have HRB := Lib.hid hrb
  clear hrb
  go_enter Tryz.func9, Tryz.ntmps9
  go_wp2_with fail
  refine (K18.out _).mono ?_
  rintro E w2 ⟨rfl, haw2⟩
  have hc0 := haw2.keep (by simp) (block_new w (.cells #[.int .i64 q.e, .int .i64 q.b, .int .i64 q.h, .int .i64 q.t] 23))
  have HA2 : Hid (Away [] w w2) := ((Away.refl [] w).alloc _).trans haw2
  clear haw2
  cases rb with
  | false =>
    go_wp2_with fail
    go_ret2
    exact .inl ⟨HRB.out.symm, rfl, HA2.out⟩
  | true =>
    obtain ⟨g1, hg1⟩ : ∃ z, z = w.heap.size := ⟨_, rfl⟩
    rw [← hg1] at hc0 ⊢
    have HC0 := Lib.hid hc0
    clear hc0 hg1
    have e0 : w2.cell? ⟨g1, 0, none⟩ = some (.int .i64 q.e) := cell_of_block HC0.out 0
    have e1 : w2.cell? ⟨g1, 1, none⟩ = some (.int .i64 q.b) := cell_of_block HC0.out 1
    have e2 : w2.cell? ⟨g1, 2, none⟩ = some (.int .i64 q.h) := cell_of_block HC0.out 2
    have e3 : w2.cell? ⟨g1, 3, none⟩ = some (.int .i64 q.t) := cell_of_block HC0.out 3
    have HM := Lib.hid (MapT.made w2)
    have HM2 : Hid (Away [] w2 (w2.alloc (.map #[] 0))) := (Away.refl _ _).alloc _
    go_wp2_with (refine wpList_mkM rfl rfl ?_; refine Hid.out ?_)
    refine Lib.hid ?_
    obtain ⟨mb, hmb⟩ : ∃ z, z = w2.heap.size := ⟨_, rfl⟩
    obtain ⟨w3, hw3⟩ : ∃ z, z = w2.alloc (.map #[] 0) := ⟨_, rfl⟩
    rw [← hmb, ← hw3] at HM ⊢
    rw [← hw3] at HM2
    have HMB : Hid (mb = w2.heap.size) := hmb
    clear hmb hw3
    have hbd := HBD.out mb
    have HA3 : Hid (Away [] w w3) := HA2.out.trans HM2.out
    have HLM := Lib.hid HM.out.lt
    go_wp2_with fail
    go_ret2
    have s1 := HA2.out.size
    have s2 := HA3.out.size
    have s3 := HLM.out
    have s4 := HMB.out
    refine .inr ⟨HRB.out.symm, w3.heap.size, mb, rfl, ⟨block_new w3 _, HM.out.on ((Away.refl _ _).alloc _), K.LstK.nil _, by simp, by simp, .nil, .nil, by simp, by simp, by simp, by omega, by simp [Value.ownBlock], by simp [Value.ownBlock], by simp⟩, s2, by omega, HA3.out.alloc _⟩
section
variable {w w' : World} {gt mb : Nat} {ov : Value} {q : Qo} {now : Int} {cs : List Cel}
def holesOf (cs : List Cel) (k : Pk) : Int := match cs.find? (fun c => kyB k c.s.k) with | some c => holesN c.s | none => -1
def poisOf (cs : List Cel) (k : Pk) : Bool := match cs.find? (fun c => kyB k c.s.k) with | some c => c.s.bad | none => false
set_option maxHeartbeats 4000000 in
theorem tholes_c (h : Tab w gt mb ov q now cs) (k : Pk) (hk : Wf k) : Calls Tryz.prog 19 #[.pointer (some ⟨gt, 0, none⟩), .agg (csK k)] w fun E w' => E = .returned (.int .i64 (holesOf cs k)) ∧ Away [] w w' := by
  have HT := Lib.hid h
  have HK := Lib.hid hk
  have hb3 : BoxK (w.alloc (.cells (csK k) 55)) w.heap.size (csK k) := block_new _ _
  have haw3 : Away [] w (w.alloc (.cells (csK k) 55)) := (Away.refl _ _).alloc _
  clear h hk
  go_enter Tryz.func19, Tryz.ntmps19
  go_wp2_with fail
  obtain ⟨g3, hg3⟩ : ∃ z, z = w.heap.size := ⟨_, rfl⟩
  obtain ⟨w1, hw1⟩ : ∃ z, z = w.alloc (.cells (csK k) 55) := ⟨_, rfl⟩
  rw [← hg3, ← hw1] at hb3 ⊢
  rw [← hw1] at haw3
  have HB := Lib.hid hb3
  have HW := Lib.hid haw3
  clear hb3 haw3 hg3 hw1
  have HC : Hid (Away [] w1 w1.drew) := (Away.refl _ _).drew
  cases hf : cs.find? (fun c => kyB k c.s.k) with
  | none =>
    have HV : Hid (holesOf cs k = -1) := by show _ = _; unfold holesOf; rw [hf]
    have HLK : Hid (∀ W, Away [] w1 W → (Instr.lookup 76 (.map (some mb)) (.agg (csK k)) true).run Tryz.prog W = .ok (.tuple #[.pointer none, .bool false]) W) := fun W hW => by
      have h1 := (HT.out.mp.on (HW.out.trans hW)).look_ok HK.out
      have h2 : lookC cs k = none := by unfold lookC; rw [hf]; rfl
      rw [h2] at h1
      exact h1
    clear hf
    refine wp_region_cls (C := fun w' => Away [] w1 w') (by kernel_rfl) (by kernel_rfl) HC.out ?_
    iterate 3 (go_big_quiet_want; (refine quiet_val ?_ ?_ ?_; rotate_left; (intro w; go_simp; rfl); go_simp; go_big_quiet_on))
    go_big_quiet_want; refine quiet_ld _ rfl (ad := ⟨gt, 5, none⟩) rfl (fun w' h => ldM ((HW.out.trans h).cell (by simp) (HT.out.cell 5))) ?_; go_simp; go_big_quiet_on
    go_big_quiet_want; refine quiet_ld _ rfl (ad := ⟨g3, 0, none⟩) rfl (fun w' h => load29_run (boxK_range (h.keep (by simp) HB.out)) HK.out.ad) ?_; go_simp; go_big_quiet_on
    go_big_quiet_want; refine quiet_lk _ _ true rfl (.map (some mb)) (.agg (csK k)) rfl rfl HLK.out ?_; go_simp; go_big_quiet_on
    iterate 5 (go_big_quiet_want; (refine quiet_val ?_ ?_ ?_; rotate_left; (intro w; go_simp; rfl); go_simp; go_big_quiet_on))
    refine wpQuiet_nil ?_
    intro V hV
    go_wp2_with fail
    go_ret
    exact ⟨by rw [HV.out]; rfl, HW.out.trans hV⟩
  | some c =>
    have HV : Hid (holesOf cs k = holesN c.s) := by show _ = _; unfold holesOf; rw [hf]
    have HLK : Hid (∀ W, Away [] w1 W → (Instr.lookup 76 (.map (some mb)) (.agg (csK k)) true).run Tryz.prog W = .ok (.tuple #[.pointer (some ⟨c.g, 0, none⟩), .bool true]) W) := fun W hW => by
      have h1 := (HT.out.mp.on (HW.out.trans hW)).look_ok HK.out
      have h2 : lookC cs k = some c.g := by unfold lookC; rw [hf]; rfl
      rw [h2] at h1
      exact h1
    have HEY : Hid (Ey w c.g c.s c.fp) := HT.out.ent c (List.mem_of_find?_eq_some hf)
    clear hf
    refine wp_region_cls (C := fun w' => Away [] w1 w') (by kernel_rfl) (by kernel_rfl) HC.out ?_
    iterate 3 (go_big_quiet_want; (refine quiet_val ?_ ?_ ?_; rotate_left; (intro w; go_simp; rfl); go_simp; go_big_quiet_on))
    go_big_quiet_want; refine quiet_ld _ rfl (ad := ⟨gt, 5, none⟩) rfl (fun w' h => ldM ((HW.out.trans h).cell (by simp) (HT.out.cell 5))) ?_; go_simp; go_big_quiet_on
    go_big_quiet_want; refine quiet_ld _ rfl (ad := ⟨g3, 0, none⟩) rfl (fun w' h => load29_run (boxK_range (h.keep (by simp) HB.out)) HK.out.ad) ?_; go_simp; go_big_quiet_on
    go_big_quiet_want; refine quiet_lk _ _ true rfl (.map (some mb)) (.agg (csK k)) rfl rfl HLK.out ?_; go_simp; go_big_quiet_on
    iterate 5 (go_big_quiet_want; (refine quiet_val ?_ ?_ ?_; rotate_left; (intro w; go_simp; rfl); go_simp; go_big_quiet_on))
    refine wpQuiet_nil ?_
    intro V hV
    have K27 := Lib.hid (eholes_c (HEY.out.on (HW.out.trans hV)).ent)
    have HHV := Lib.hid (HW.out.trans hV)
    clear hV
    go_wp2_with fail
    refine K27.out.mono ?_
    rintro E w3 ⟨rfl, haw3⟩
    have HH3 := Lib.hid (HHV.out.trans haw3)
    clear haw3
    go_wp2_with fail
    go_ret
    exact ⟨by rw [HV.out]; rfl, HH3.out⟩
set_option maxHeartbeats 4000000 in
theorem tpois_c (h : Tab w gt mb ov q now cs) (k : Pk) (hk : Wf k) : Calls Tryz.prog 23 #[.pointer (some ⟨gt, 0, none⟩), .agg (csK k)] w fun E w' => E = .returned (.bool (poisOf cs k)) ∧ Away [] w w' := by
  have HT := Lib.hid h
  have HK := Lib.hid hk
  have hb3 : BoxK (w.alloc (.cells (csK k) 55)) w.heap.size (csK k) := block_new _ _
  have haw3 : Away [] w (w.alloc (.cells (csK k) 55)) := (Away.refl _ _).alloc _
  clear h hk
  go_enter Tryz.func23, Tryz.ntmps23
  go_wp2_with fail
  obtain ⟨g3, hg3⟩ : ∃ z, z = w.heap.size := ⟨_, rfl⟩
  obtain ⟨w1, hw1⟩ : ∃ z, z = w.alloc (.cells (csK k) 55) := ⟨_, rfl⟩
  rw [← hg3, ← hw1] at hb3 ⊢
  rw [← hw1] at haw3
  have HB := Lib.hid hb3
  have HW := Lib.hid haw3
  clear hb3 haw3 hg3 hw1
  have HC : Hid (Away [] w1 w1.drew) := (Away.refl _ _).drew
  cases hf : cs.find? (fun c => kyB k c.s.k) with
  | none =>
    have HV : Hid (poisOf cs k = false) := by show _ = _; unfold poisOf; rw [hf]
    have HLK : Hid (∀ W, Away [] w1 W → (Instr.lookup 76 (.map (some mb)) (.agg (csK k)) true).run Tryz.prog W = .ok (.tuple #[.pointer none, .bool false]) W) := fun W hW => by
      have h1 := (HT.out.mp.on (HW.out.trans hW)).look_ok HK.out
      have h2 : lookC cs k = none := by unfold lookC; rw [hf]; rfl
      rw [h2] at h1
      exact h1
    clear hf
    refine wp_region_cls (C := fun w' => Away [] w1 w') (by kernel_rfl) (by kernel_rfl) HC.out ?_
    iterate 3 (go_big_quiet_want; (refine quiet_val ?_ ?_ ?_; rotate_left; (intro w; go_simp; rfl); go_simp; go_big_quiet_on))
    go_big_quiet_want; refine quiet_ld _ rfl (ad := ⟨gt, 5, none⟩) rfl (fun w' h => ldM ((HW.out.trans h).cell (by simp) (HT.out.cell 5))) ?_; go_simp; go_big_quiet_on
    go_big_quiet_want; refine quiet_ld _ rfl (ad := ⟨g3, 0, none⟩) rfl (fun w' h => load29_run (boxK_range (h.keep (by simp) HB.out)) HK.out.ad) ?_; go_simp; go_big_quiet_on
    go_big_quiet_want; refine quiet_lk _ _ true rfl (.map (some mb)) (.agg (csK k)) rfl rfl HLK.out ?_; go_simp; go_big_quiet_on
    iterate 5 (go_big_quiet_want; (refine quiet_val ?_ ?_ ?_; rotate_left; (intro w; go_simp; rfl); go_simp; go_big_quiet_on))
    refine wpQuiet_nil ?_
    intro V hV
    go_wp2_with fail
    go_ret
    exact ⟨by rw [HV.out]; rfl, HW.out.trans hV⟩
  | some c =>
    have HV : Hid (poisOf cs k = c.s.bad) := by show _ = _; unfold poisOf; rw [hf]
    have HLK : Hid (∀ W, Away [] w1 W → (Instr.lookup 76 (.map (some mb)) (.agg (csK k)) true).run Tryz.prog W = .ok (.tuple #[.pointer (some ⟨c.g, 0, none⟩), .bool true]) W) := fun W hW => by
      have h1 := (HT.out.mp.on (HW.out.trans hW)).look_ok HK.out
      have h2 : lookC cs k = some c.g := by unfold lookC; rw [hf]; rfl
      rw [h2] at h1
      exact h1
    have HEY : Hid (Ey w c.g c.s c.fp) := HT.out.ent c (List.mem_of_find?_eq_some hf)
    clear hf
    refine wp_region_cls (C := fun w' => Away [] w1 w') (by kernel_rfl) (by kernel_rfl) HC.out ?_
    iterate 3 (go_big_quiet_want; (refine quiet_val ?_ ?_ ?_; rotate_left; (intro w; go_simp; rfl); go_simp; go_big_quiet_on))
    go_big_quiet_want; refine quiet_ld _ rfl (ad := ⟨gt, 5, none⟩) rfl (fun w' h => ldM ((HW.out.trans h).cell (by simp) (HT.out.cell 5))) ?_; go_simp; go_big_quiet_on
    go_big_quiet_want; refine quiet_ld _ rfl (ad := ⟨g3, 0, none⟩) rfl (fun w' h => load29_run (boxK_range (h.keep (by simp) HB.out)) HK.out.ad) ?_; go_simp; go_big_quiet_on
    go_big_quiet_want; refine quiet_lk _ _ true rfl (.map (some mb)) (.agg (csK k)) rfl rfl HLK.out ?_; go_simp; go_big_quiet_on
    iterate 5 (go_big_quiet_want; (refine quiet_val ?_ ?_ ?_; rotate_left; (intro w; go_simp; rfl); go_simp; go_big_quiet_on))
    refine wpQuiet_nil ?_
    intro V hV
    have K29 := Lib.hid (isP_c (HEY.out.on (HW.out.trans hV)).ent)
    have HHV := Lib.hid (HW.out.trans hV)
    clear hV
    go_wp2_with fail
    refine K29.out.mono ?_
    rintro E w3 ⟨rfl, hw3⟩
    obtain rfl := hw3.symm
    clear hw3
    go_wp2_with fail
    go_ret
    exact ⟨by rw [HV.out]; rfl, HHV.out⟩
end
end Go.Proofs.YtkccpidgeecemaaGreatDoor
