/-
  Queues of kind KT: in memory; their functions.
-/
import Derived.Test.YtdgkkbiodhbmeaaKTL
import Derived.Test.YtdgkkbiodhbmeaaUntil
import Derived.Lib.MinMax
import Derived.BigQuiet
import Derived.Deep.DeepCutAuto
import Derived.Deep.CutBlock
namespace Go.Proofs.Ytdgkkbiodhbmeaa.KT
open Go.ChangeShapes Go.WideShapes Go.ChangeAt Go.RowKit
set_option linter.unusedVariables false
set_option linter.unusedSimpArgs false
set_option maxRecDepth 100000

/-- The cells of a queue. -/
def Cel (w : World) (g : Nat) (c b : Int) (F : Nat) (v : Value) (h : Int) : Prop := w.heap[g]? = some (.cells #[.int .i64 c, .int .i64 b, .func (.func F) #[] #[], v, .int .i64 h] 81 (0, 0))
theorem Cel.c0 {w : World} {g : Nat} {c b : Int} {F : Nat} {v : Value} {h : Int} (k : Cel w g c b F v h) : w.cell? ⟨g, 0, none⟩ = some (.int .i64 c) := by rw [cell_of_block k]; rfl
theorem Cel.c1 {w : World} {g : Nat} {c b : Int} {F : Nat} {v : Value} {h : Int} (k : Cel w g c b F v h) : w.cell? ⟨g, 1, none⟩ = some (.int .i64 b) := by rw [cell_of_block k]; rfl
theorem Cel.c2 {w : World} {g : Nat} {c b : Int} {F : Nat} {v : Value} {h : Int} (k : Cel w g c b F v h) : w.cell? ⟨g, 2, none⟩ = some (.func (.func F) #[] #[]) := by rw [cell_of_block k]; rfl
theorem Cel.c3 {w : World} {g : Nat} {c b : Int} {F : Nat} {v : Value} {h : Int} (k : Cel w g c b F v h) : w.cell? ⟨g, 3, none⟩ = some (v) := by rw [cell_of_block k]; rfl
theorem Cel.c4 {w : World} {g : Nat} {c b : Int} {F : Nat} {v : Value} {h : Int} (k : Cel w g c b F v h) : w.cell? ⟨g, 4, none⟩ = some (.int .i64 h) := by rw [cell_of_block k]; rfl
theorem Cel.free {w : World} {g : Nat} {c b : Int} {F : Nat} {v : Value} {h : Int} (k : Cel w g c b F v h) (i : Nat) : w.frozen? ⟨g, i, none⟩ = false := free_of_block k i
theorem Cel.lt {w : World} {g : Nat} {c b : Int} {F : Nat} {v : Value} {h : Int} (k : Cel w g c b F v h) : g < w.heap.size := lt_of_block k
theorem Cel.away {S : List Nat} {w w' : World} {g : Nat} {c b : Int} {F : Nat} {v : Value} {h : Int} (k : Cel w g c b F v h) (hw : Away S w w') (hg : g ∉ S) : Cel w' g c b F v h := hw.keep hg k
theorem Cel.line {w : World} {g : Nat} {c b : Int} {F : Nat} {v : Value} {h : Int} (k : Cel w g c b F v h) (v' : Value) : Cel (w.setCell ⟨g, 3, none⟩ v') g c b F v' h := by
  unfold Cel at k ⊢; rw [block_set k]; rfl
theorem Cel.held {w : World} {g : Nat} {c b : Int} {F : Nat} {v : Value} {h : Int} (k : Cel w g c b F v h) (h' : Int) : Cel (w.setCell ⟨g, 4, none⟩ (.int .i64 h')) g c b F v h' := by
  unfold Cel at k ⊢; rw [block_set k]; rfl
/-- A queue in memory. -/
structure Qu (w : World) (g : Nat) (v : Value) (c b : Int) (F : Nat) (L : List Th) : Prop where
  cel : Cel w g c b F v (sumT L)
  lst : LstD w v L
  ok : ∀ t ∈ L, Okd t
  ne : ∀ k, v.ownBlock = some k → k ≠ g
  bnd : Bnd c b L
theorem Qu.away {S : List Nat} {w w' : World} {g : Nat} {v : Value} {c b : Int} {F : Nat} {L : List Th} (h : Qu w g v c b F L) (hw : Away S w w') (hg : g ∉ S) (hv : ∀ k, v.ownBlock = some k → k ∉ S) : Qu w' g v c b F L :=
  ⟨h.cel.away hw hg, h.lst.away hw hv, h.ok, h.ne, h.bnd⟩
theorem Qu.on {w w' : World} {g : Nat} {v : Value} {c b : Int} {F : Nat} {L : List Th} (h : Qu w g v c b F L) (hw : Away [] w w') : Qu w' g v c b F L := h.away hw (by simp) (by simp)
def fp (g : Nat) (v : Value) : List Nat := g :: v.ownBlock.toList
theorem LstD.sl {w : World} {v : Value} {L : List Th} (h : LstD w v L) : ∃ a cap, v = .slice a L.length cap ∧ L.length ≤ cap := by
  rcases h.shp with ⟨rfl, rfl⟩ | ⟨g, cap, rfl⟩
  · exact ⟨none, 0, rfl, by simp⟩
  · exact ⟨_, cap, rfl, by obtain ⟨_, _, _, h1, _⟩ := h.blk; exact h1⟩

/-! An append of one thing. -/
theorem flat_snoc (L : List Th) (t : Th) : (L ++ [t]).flatMap listD = L.flatMap listD ++ listD t := by simp
theorem run_app1 (ty : TypeId) (w : World) (v : Value) (L : List Th) (hown : LstD w v L) (ad : Addr) (cp : Nat) (t : Th) (ht : Okd t) (hc : ∀ j u, (listD t)[j]? = some u → w.cell? (ad.add j) = some u) (hk : L.length ≤ 64) :
    ∃ v' w', (Builtin.append_ #[79, 79] ty #[v, .slice (some ad) 1 cp]).run Try.prog w = .ok v' w' ∧ LstD w' v' (L ++ [t]) ∧ w.grownBy w' v.ownBlock ∧ Moved w v v' := by
  obtain ⟨i0, hi, hz0, hz1, hz2⟩ := info_parts infoK
  obtain ⟨v', w', h1, h2, h3, h4⟩ := run_appN 79 ty 101 i0 _ 56 4 Try.underlying79 hi hz0 hz1 hz2 rfl (by decide) w v L.length (L.flatMap listD) hown ad 1 cp (listD t) (by rw [listD_len ht]) hc (listD_one ht) (by unfold maxLen; omega) (by omega)
  refine ⟨v', w', h1, ?_, h3, h4⟩
  unfold LstD
  rw [List.length_append, flat_snoc]
  exact h2
theorem wpList_app1 {w : World} {ops : Array Oper} {rest : List Oper} {o : Oper} {a : Act} {Q : Exit → Act → World → Prop} (hgd : o.guard = none) (s t : Operand)
    (ho : o.op = .call { callee := .builtin .append, args := #[s, t], argTypes := #[79, 79] }) (v : Value) (L : List Th) (hs : a.eval s = v) (hown : LstD w v L)
    (ad : Addr) (cp : Nat) (ht : a.eval t = .slice (some ad) 1 cp) (x : Th) (hx : Okd x) (hc : ∀ j u, (listD x)[j]? = some u → w.cell? (ad.add j) = some u) (hk : L.length ≤ 64)
    (h : ∀ v' w', LstD w' v' (L ++ [x]) → w.grownBy w' v.ownBlock → Moved w v v' → wpList Try.prog ops Q rest (a.put o.dst v') w') : wpList Try.prog ops Q (o :: rest) a w := by
  obtain ⟨v', w', hrun, r1, r2, r3⟩ := run_app1 o.type w v L hown ad cp x hx hc hk
  refine wpList_plain hgd fun _ hK => ?_
  unfold Oper.wp
  simp [execOp, ho, resolve, invoke, builtin, hs, ht, hrun, Result.andThen]
  exact hK _ _ (h v' w' r1 r2 r3)
theorem step_app1 {ops : Array Oper} {o : Oper} {a : Act} {w : World} {K : Act → World → Prop} {Q : Exit → Act → World → Prop} {E : Prop} (hg : o.guard = none) (s t : Operand)
    (ho : o.op = .call { callee := .builtin .append, args := #[s, t], argTypes := #[79, 79] }) (v : Value) (L : List Th) (hs : a.eval s = v) (hown : LstD w v L)
    (ad : Addr) (cp : Nat) (ht : a.eval t = .slice (some ad) 1 cp) (x : Th) (hx : Okd x) (hc : ∀ j u, (listD x)[j]? = some u → w.cell? (ad.add j) = some u) (hk : L.length ≤ 64)
    (hK : ∀ v' w', LstD w' v' (L ++ [x]) → w.grownBy w' v.ownBlock → Moved w v v' → K (a.put o.dst v') w') :
    if Region.wanted o (yielded ops a.tmps) = true then Oper.wp Try.prog o a w K Q else E := by
  have hw : Region.wanted o (yielded ops a.tmps) = true := by simp [Region.wanted, hg]
  rw [if_pos hw]
  obtain ⟨v', w', hrun, r1, r2, r3⟩ := run_app1 o.type w v L hown ad cp x hx hc hk
  unfold Oper.wp
  simp [execOp, ho, resolve, invoke, builtin, hs, ht, hrun, Result.andThen]
  exact hK v' w' r1 r2 r3

theorem ldF {w : World} {ad : Addr} {F : Nat} (h : w.cell? ad = some (.func (.func F) #[] #[])) : (Instr.loadAt 64 (.pointer (some ad))).run Try.prog w = .ok (.func (.func F) #[] #[]) w := by
  simp [go_sem, Instr.loadAt, Instr.sureAddr, h]
theorem ldL {w : World} {ad : Addr} {a : Option Addr} {n c : Nat} (h : w.cell? ad = some (.slice a n c)) : (Instr.loadAt 79 (.pointer (some ad))).run Try.prog w = .ok (.slice a n c) w := by
  simp [go_sem, Instr.loadAt, Instr.sureAddr, h]
theorem infoX : (Try.prog.info? 32).map (·.size) = some 3 := by kernel_rfl
theorem ldX {w : World} {g : Nat} {s0 : ByteArray} {a1 : Int} {a2 : Option Addr} {n2 c2 : Nat} (h : w.heap[g]? = some (.cells #[.string s0, .int .i64 a1, .slice a2 n2 c2] 32 (0, 0))) : (Instr.loadAt 32 (.pointer (some ⟨g, 0, none⟩))).run Try.prog w = .ok (.agg #[.string s0, .int .i64 a1, .slice a2 n2 c2]) w := by
  simp only [Instr.loadAt, Instr.sureAddr, Sem.run_bind, Sem.run_pure, Result.andThen]
  rw [run_loadVar_row w g 32 32 #[.string s0, .int .i64 a1, .slice a2 n2 c2] (0, 0) _ h Try.underlying32 rfl infoX]

/-! New. -/
theorem new_yes (c b : Int) (F : Nat) (w : World) (c0 : 0 ≤ c) (c1 : c ≤ 64) (b0 : 0 ≤ b) (b1 : b ≤ 9223372036854775807) :
    Calls Try.prog 10 #[.int .i64 c, .int .i64 b, .func (.func F) #[] #[]] w fun E w' => ∃ g, E = .returned (.tuple #[.pointer (some ⟨g, 0, none⟩), .int .i64 0]) ∧ Qu w' g (.slice none 0 0) c b F [] ∧ Away [] w w' ∧ w.heap.size ≤ g := by
  have k1 : decide (c < 0) = false := by simp; omega
  have k2 : decide (64 < c) = false := by simp; omega
  have k3 : decide (b < 0) = false := by simp; omega
  have HB := Lib.hid (Bnd.nil c0 c1 b0 b1)
  go_enter Try.func10, Try.ntmps10
  go_wp2_with (refine wpList_eqF rfl (by decide) _ rfl F rfl ?_)
  go_ret2
  exact ⟨_, rfl, ⟨block_new w _, LstD.nil _, by simp, by simp [Value.ownBlock], HB.out⟩, (Away.refl [] w).alloc _, Nat.le_refl _⟩
theorem new_no (c b : Int) (F : Nat) (w : World) (h : ¬ (0 ≤ c ∧ c ≤ 64 ∧ 0 ≤ b)) :
    Calls Try.prog 10 #[.int .i64 c, .int .i64 b, .func (.func F) #[] #[]] w fun E w' => E = .returned (.tuple #[.pointer none, .int .i64 1]) ∧ w' = w := by
  by_cases h1 : c < 0
  · have k1 : decide (c < 0) = true := by simp; omega
    clear h h1
    go_enter Try.func10, Try.ntmps10
    go_wp2_with fail
    go_ret2
    exact ⟨rfl, rfl⟩
  · have k1 : decide (c < 0) = false := by simp; omega
    by_cases h2 : 64 < c
    · have k2 : decide (64 < c) = true := by simp; omega
      clear h h1 h2
      go_enter Try.func10, Try.ntmps10
      go_wp2_with fail
      go_ret2
      exact ⟨rfl, rfl⟩
    · have k2 : decide (64 < c) = false := by simp; omega
      have k3 : decide (b < 0) = true := by simp; omega
      clear h h1 h2
      go_enter Try.func10, Try.ntmps10
      go_wp2_with fail
      go_ret2
      exact ⟨rfl, rfl⟩
theorem new_nil (c b : Int) (w : World) :
    Calls Try.prog 10 #[.int .i64 c, .int .i64 b, .nilFunc] w fun E w' => E = .returned (.tuple #[.pointer none, .int .i64 1]) ∧ w' = w := by
  by_cases h1 : c < 0
  · have k1 : decide (c < 0) = true := by simp; omega
    clear h1
    go_enter Try.func10, Try.ntmps10
    go_wp2_with fail
    go_ret2
    exact ⟨rfl, rfl⟩
  · have k1 : decide (c < 0) = false := by simp; omega
    by_cases h2 : 64 < c
    · have k2 : decide (64 < c) = true := by simp; omega
      clear h1 h2
      go_enter Try.func10, Try.ntmps10
      go_wp2_with fail
      go_ret2
      exact ⟨rfl, rfl⟩
    · have k2 : decide (64 < c) = false := by simp; omega
      by_cases h3 : b < 0
      · have k3 : decide (b < 0) = true := by simp; omega
        clear h1 h2 h3
        go_enter Try.func10, Try.ntmps10
        go_wp2_with fail
        go_ret2
        exact ⟨rfl, rfl⟩
      · have k3 : decide (b < 0) = false := by simp; omega
        clear h1 h2 h3
        go_enter Try.func10, Try.ntmps10
        go_wp2_with (refine wpList_eqN rfl (by decide) _ rfl rfl ?_)
        go_ret2
        exact ⟨rfl, rfl⟩

/-! Len, Bytes. -/
theorem len_c {w : World} {g : Nat} {v : Value} {c b : Int} {F : Nat} {L : List Th} (h : Qu w g v c b F L) : Calls Try.prog 38 #[.pointer (some ⟨g, 0, none⟩)] w fun E w' => E = .returned (.int .i64 (L.length : Int)) ∧ w' = w := by
  obtain ⟨a, cap, rfl, -⟩ := h.lst.sl
  have k3 := h.cel.c3
  clear h
  go_enter Try.func38, Try.ntmps38
  go_wp2_with fail
  go_ret
  exact ⟨rfl, rfl⟩

/-! Push. -/
theorem Qu.pushed {w w' : World} {g : Nat} {v v' : Value} {c b : Int} {F : Nat} {L : List Th} {t : Th} (h : Qu w g v c b F L) (ht : Okd t) (hn : 0 ≤ t.n) (hr : roomP c b L t.n = true) (hg : g < w.heap.size) (hc : Cel w' g c b F v' (sumT L + t.n)) (hl : LstD w' v' (L ++ [t])) (hm : Moved w v v') : Qu w' g v' c b F (L ++ [t]) :=
  ⟨by rw [sumT_snoc]; exact hc, hl, fun u hu => by
    rcases List.mem_append.1 hu with h2 | h2
    · exact h.ok u h2
    · simp at h2; subst h2; exact ht, fun k hk => by
    rcases hm k hk with h1 | h1
    · exact h.ne k h1
    · omega, h.bnd.push hn hr⟩
def PushOut (w : World) (g : Nat) (v : Value) (c b : Int) (F : Nat) (L : List Th) (t : Th) (E : Ending) (w' : World) : Prop :=
  E = .returned (.bool (roomP c b L t.n)) ∧ ∃ v', Qu w' g v' c b F (if roomP c b L t.n = true then L ++ [t] else L) ∧ Away (fp g v) w w' ∧ Moved w v v'
theorem PushOut.no {w w' : World} {g : Nat} {v : Value} {c b : Int} {F : Nat} {L : List Th} {t : Th} (h : Qu w' g v c b F L) (hr : roomP c b L t.n = false) (ha : Away [] w w') : PushOut w g v c b F L t (.returned (.bool false)) w' :=
  ⟨by rw [hr], v, by rw [hr]; exact h, ha.mono (by simp), Moved.refl _ _⟩
set_option maxHeartbeats 4000000 in
theorem push30 {w : World} {g : Nat} {v : Value} {c b : Int} {L : List Th} (s0 : ByteArray) (a1 : Int) (a2 : Option Addr) (n2 c2 : Nat) (n m : Int) (h : Qu w g v c b 30 L) (hm : m = max n 0) (hn : n ≤ 9223372036854775807)
    (hs : ∀ w, Calls Try.prog 30 #[(.agg #[.string s0, .int .i64 a1, .slice a2 n2 c2])] w fun E w' => E = .returned (.int .i64 n) ∧ Away [] w w') :
    Calls Try.prog 34 #[.pointer (some ⟨g, 0, none⟩), (.agg #[.string s0, .int .i64 a1, .slice a2 n2 c2])] w fun E w' => PushOut w g v c b 30 L ⟨[.string s0, .int .i64 a1, .slice a2 n2 c2], m⟩ E w' := by
  have HS := Lib.hid hs
  have H := Lib.hid h
  have HM := Lib.hid hm
  have hg := h.cel.lt
  have h0 : 0 ≤ m := by omega
  have h1 : m ≤ 9223372036854775807 := by omega
  have HT : Hid (Okd ⟨[.string s0, .int .i64 a1, .slice a2 n2 c2], m⟩) := ⟨rfl, by simp [Value.oneCell']⟩
  clear hs h hm hn
  go_enter Try.func34, Try.ntmps34
  have HA : Hid (Away [] w (w.alloc (.cells #[.string s0, .int .i64 a1, .slice a2 n2 c2] 32))) := (Away.refl [] w).alloc _
  have HBX : Hid ((w.alloc (.cells #[.string s0, .int .i64 a1, .slice a2 n2 c2] 32)).heap[w.heap.size]? = some (.cells #[.string s0, .int .i64 a1, .slice a2 n2 c2] 32 (0, 0))) := block_new w _
  have HGB : Hid (∀ k, v.ownBlock = some k → k ≠ w.heap.size) := fun k hk => by have h1 := H.out.lst.lt k hk; omega
  replace H := Lib.hid (H.out.on HA.out)
  go_wp2_with fail
  have hgb : g ≠ w.heap.size := by omega
  generalize w.heap.size = gb at HBX HGB hgb ⊢
  generalize w.alloc (.cells #[.string s0, .int .i64 a1, .slice a2 n2 c2] 32) = w0 at *
  refine wp_region_held_drew (S := (fun w' => Cel w' g c b 30 v (sumT L) ∧ w'.heap[gb]? = some (.cells #[.string s0, .int .i64 a1, .slice a2 n2 c2] 32 (0, 0)))) (by kernel_rfl) ⟨by exact H.out.cel, by exact HBX.out⟩ (fun hHeld => ?_)
  have haw := (Away.refl [] w0).drew
  replace H := Lib.hid (H.out.on haw)
  replace HA := Lib.hid (HA.out.trans haw)
  clear haw HBX
  refine wpAnyH_take (i := 0) (v := ?_) (by simp only [List.getElem?_toArray, List.getElem?_cons_zero]; rfl) (by kernel_rfl) (by kernel_rfl) (by kernel_rfl) (by exact fun _ _ _ h => h) (Or.inl ⟨by rfl, ?_⟩) (by assumption) ?_
  rotate_left
  · intro wq hSw
    (try dsimp only at hSw)
    go_simp
    all_goals (with_reducible rfl)
  try simp only [Act.put, List.setIfInBounds_toArray, List.set_cons_zero, List.set_cons_succ]
  refine wpAnyH_take (i := 1) (v := ?_) (by simp only [List.getElem?_toArray, List.getElem?_cons_succ, List.getElem?_cons_zero]; rfl) (by kernel_rfl) (by kernel_rfl) (by kernel_rfl) (by exact fun _ _ _ h => h) (Or.inl ⟨by rfl, ?_⟩) (by assumption) ?_
  rotate_left
  · intro wq hSw
    (try dsimp only at hSw)
    go_simp
    all_goals (with_reducible rfl)
  try simp only [Act.put, List.setIfInBounds_toArray, List.set_cons_zero, List.set_cons_succ]
  refine wpAnyH_take (i := 2) (v := ?_) (by simp only [List.getElem?_toArray, List.getElem?_cons_succ, List.getElem?_cons_zero]; rfl) (by kernel_rfl) (by kernel_rfl) (by kernel_rfl) (by exact fun _ _ _ h => h) (Or.inl ⟨by rfl, ?_⟩) (by assumption) ?_
  rotate_left
  · intro wq hSw
    (try dsimp only at hSw)
    go_simp
    all_goals (with_reducible rfl)
  try simp only [Act.put, List.setIfInBounds_toArray, List.set_cons_zero, List.set_cons_succ]
  refine wpAnyH_take (i := 3) (by simp only [List.getElem?_toArray, List.getElem?_cons_succ, List.getElem?_cons_zero]; rfl) (by kernel_rfl) (by kernel_rfl) (by kernel_rfl) (by exact fun _ _ _ h => h) (yields_ld (ad := ⟨g, 2, none⟩) (by rfl) _ rfl rfl (fun w' h => ldF h.1.c2)) (by assumption) ?_
  try simp only [Act.put, List.setIfInBounds_toArray, List.set_cons_zero, List.set_cons_succ]
  refine wpAnyH_take (i := 4) (by simp only [List.getElem?_toArray, List.getElem?_cons_succ, List.getElem?_cons_zero]; rfl) (by kernel_rfl) (by kernel_rfl) (by kernel_rfl) (by exact fun _ _ _ h => h) (yields_ld (ad := ⟨gb, 0, none⟩) (by rfl) _ rfl rfl (fun w' h => ldX h.2)) (by assumption) ?_
  try simp only [Act.put, List.setIfInBounds_toArray, List.set_cons_zero, List.set_cons_succ]
  refine wpAnyH_ready (rs := [5]) (by kernel_rfl) (by simp) ?_
  refine AllReadyH.cons (by simp only [List.getElem?_toArray, List.getElem?_cons_succ, List.getElem?_cons_zero]; rfl) (fun K hK => ?_) AllReadyH.nil
  go_simp
  refine (HS.out _).mono ?_
  rintro E w1 ⟨rfl, haw⟩
  have hS : Cel w1 g c b 30 v (sumT L) ∧ w1.heap[gb]? = some (.cells #[.string s0, .int .i64 a1, .slice a2 n2 c2] 32 (0, 0)) := ⟨hHeld.1.away haw (by simp), haw.keep (by simp) hHeld.2⟩
  replace H := Lib.hid (H.out.on haw)
  replace HA : Hid (Away [] w w1) := HA.out.trans haw
  clear haw hHeld
  go_wp2_with fail
  refine hK.out _ _ hS (fun hHeld => ?_)
  clear hK K
  try simp only [Act.put, List.setIfInBounds_toArray, List.set_cons_zero, List.set_cons_succ]
  clear hS
  refine wpAnyH_ready (rs := [6]) (by kernel_rfl) (by simp) ?_
  refine AllReadyH.cons (by simp only [List.getElem?_toArray, List.getElem?_cons_succ, List.getElem?_cons_zero]; rfl) (fun K hK => ?_) AllReadyH.nil
  go_simp
  refine hK.out _ _ hHeld (fun hHeld => ?_)
  clear hK K
  try simp only [Act.put, List.setIfInBounds_toArray, List.set_cons_zero, List.set_cons_succ]
  refine wpAnyH_take (i := 7) (v := ?_) (by simp only [List.getElem?_toArray, List.getElem?_cons_succ, List.getElem?_cons_zero]; rfl) (by kernel_rfl) (by kernel_rfl) (by kernel_rfl) (by exact fun _ _ _ h => h) (Or.inl ⟨by rfl, ?_⟩) (by assumption) ?_
  rotate_left
  · intro wq hSw
    (try dsimp only at hSw)
    go_simp
    all_goals (with_reducible rfl)
  try simp only [Act.put, List.setIfInBounds_toArray, List.set_cons_zero, List.set_cons_succ]
  have HBX := Lib.hid hHeld.2
  clear hHeld
  refine wpAnyH_done (by kernel_rfl) ?_ _
  go_wp2_with fail
  rw [← HM.out]
  clear HM
  obtain ⟨la, cap, hv, hcap⟩ := H.out.lst.sl
  subst hv
  have e0 := H.out.cel.c0
  have e1 := H.out.cel.c1
  have e3 := H.out.cel.c3
  have e4 := H.out.cel.c4
  have f3 := H.out.cel.free 3
  have f4 := H.out.cel.free 4
  have hb := H.out.bnd
  have hl1 := hb.len
  have hc1 := hb.c1
  have hs0 := sumT_pos hb.pos
  have hs1 := hb.sum
  have hb1 := hb.b1
  clear hb
  generalize hH : sumT L = hd at e4 hs0 hs1
  have HH := Lib.hid hH
  clear hH
  by_cases hfull : (L.length : Int) = c
  · have HR : Hid (roomP c b L m = false) := by unfold roomP; exact decide_eq_false (by omega)
    have d1 : ((L.length : Int) == c) = true := by simp [hfull]
    have HFU := Lib.hid hfull
    clear hfull
    go_quiet (fail)
    go_wp2_with fail
    go_ret
    exact PushOut.no (H.out.on ((Away.refl _ _).drewN _)) HR.out (HA.out.drewN _)
  · have d1 : ((L.length : Int) == c) = false := by simp [hfull]
    clear hfull
    by_cases hbig : b - hd < m
    · have HR : Hid (roomP c b L m = false) := by unfold roomP; rw [HH.out]; exact decide_eq_false (by omega)
      have d2 : decide (b - hd < m) = true := decide_eq_true hbig
      clear hbig
      go_quiet (fail)
      go_wp2_with fail
      go_ret
      exact PushOut.no (H.out.on ((Away.refl _ _).drewN _)) HR.out (HA.out.drewN _)
    · have HR : Hid (roomP c b L m = true) := by unfold roomP; rw [HH.out]; exact decide_eq_true (by simp at d1; omega)
      have d2 : decide (b - hd < m) = false := decide_eq_false hbig
      have hsum : hd + m ≤ 9223372036854775807 := by omega
      go_quiet (fail)
      have haw := (Away.refl [] w1).drewN nq
      replace H := Lib.hid (H.out.on haw)
      replace HA := Lib.hid (HA.out.drewN nq)
      clear haw e0 e1 e3 e4 f3 f4
      replace HBX : Hid ((w1.drewN nq).heap[gb]? = some (.cells #[.string s0, .int .i64 a1, .slice a2 n2 c2] 32 (0, 0))) := HBX.out
      generalize w1.drewN nq = w2 at *
      have e3 := H.out.cel.c3
      have hg2 := H.out.cel.lt
      go_wp2_with fail
      have haw := (Away.refl [] w2).drew
      replace H := Lib.hid (H.out.on haw)
      replace HA := Lib.hid (HA.out.trans haw)
      have hs : Cel w2.drew g c b 30 (.slice la L.length cap) (sumT L) ∧ w2.drew.heap[gb]? = some (.cells #[.string s0, .int .i64 a1, .slice a2 n2 c2] 32 (0, 0)) := ⟨H.out.cel, HBX.out⟩
      refine wp_region_U 12 (fun w' => Cel w' g c b 30 (.slice la L.length cap) (sumT L) ∧ w'.heap[gb]? = some (.cells #[.string s0, .int .i64 a1, .slice a2 n2 c2] 32 (0, 0))) (by kernel_rfl) ?_
      have HBW : Hid (w2.drew.heap[gb]? = some (.cells #[.string s0, .int .i64 a1, .slice a2 n2 c2] 32 (0, 0))) := HBX.out
      clear haw e3 HBX hg2
      generalize w2.drew = w2 at *
      have e3 := H.out.cel.c3
      have hg2 := H.out.cel.lt
      refine wpAnyU_take (i := 0) (v := ?_) (by simp only [List.getElem?_toArray, List.getElem?_cons_zero]; rfl) (by kernel_rfl) (by kernel_rfl) (by kernel_rfl) (by decide) (by kernel_rfl) (by kernel_rfl) (by exact fun _ _ _ h => h) (Or.inl ⟨by rfl, ?_⟩) (by exact hs) ?_
      rotate_left
      · intro wq hSw
        clear hSw
        go_simp
        all_goals (with_reducible rfl)
      try simp only [Act.put, List.setIfInBounds_toArray, List.set_cons_zero, List.set_cons_succ]
      refine wpAnyU_take (i := 1) (v := ?_) (by simp only [List.getElem?_toArray, List.getElem?_cons_succ, List.getElem?_cons_zero]; rfl) (by kernel_rfl) (by kernel_rfl) (by kernel_rfl) (by decide) (by kernel_rfl) (by kernel_rfl) (by exact fun _ _ _ h => h) (Or.inl ⟨by rfl, ?_⟩) (by exact hs) ?_
      rotate_left
      · intro wq hSw
        clear hSw
        go_simp
        all_goals (with_reducible rfl)
      try simp only [Act.put, List.setIfInBounds_toArray, List.set_cons_zero, List.set_cons_succ]
      refine wpAnyU_take (i := 2) (v := ?_) (by simp only [List.getElem?_toArray, List.getElem?_cons_succ, List.getElem?_cons_zero]; rfl) (by kernel_rfl) (by kernel_rfl) (by kernel_rfl) (by decide) (by kernel_rfl) (by kernel_rfl) (by exact fun _ _ _ h => h) (Or.inl ⟨by rfl, ?_⟩) (by exact hs) ?_
      rotate_left
      · intro wq hSw
        clear hSw
        go_simp
        all_goals (with_reducible rfl)
      try simp only [Act.put, List.setIfInBounds_toArray, List.set_cons_zero, List.set_cons_succ]
      refine wpAnyU_take (i := 3) (v := ?_) (by simp only [List.getElem?_toArray, List.getElem?_cons_succ, List.getElem?_cons_zero]; rfl) (by kernel_rfl) (by kernel_rfl) (by kernel_rfl) (by decide) (by kernel_rfl) (by kernel_rfl) (by exact fun _ _ _ h => h) (Or.inl ⟨by rfl, ?_⟩) (by exact hs) ?_
      rotate_left
      · intro wq hSw
        clear hSw
        go_simp
        all_goals (with_reducible rfl)
      try simp only [Act.put, List.setIfInBounds_toArray, List.set_cons_zero, List.set_cons_succ]
      refine wpAnyU_take (i := 4) (by simp only [List.getElem?_toArray, List.getElem?_cons_succ, List.getElem?_cons_zero]; rfl) (by kernel_rfl) (by kernel_rfl) (by kernel_rfl) (by decide) (by kernel_rfl) (by kernel_rfl) (by exact fun _ _ _ h => h) (yields_ld (ad := ⟨g, 3, none⟩) (by rfl) _ rfl rfl (fun w' h => ldL h.1.c3)) (by exact hs) ?_
      try simp only [Act.put, List.setIfInBounds_toArray, List.set_cons_zero, List.set_cons_succ]
      refine wpAnyU_take (i := 5) (by simp only [List.getElem?_toArray, List.getElem?_cons_succ, List.getElem?_cons_zero]; rfl) (by kernel_rfl) (by kernel_rfl) (by kernel_rfl) (by decide) (by kernel_rfl) (by kernel_rfl) (by exact fun _ _ _ h => h) (yields_ld (ad := ⟨gb, 0, none⟩) (by rfl) _ rfl rfl (fun w' h => ldX h.2)) (by exact hs) ?_
      try simp only [Act.put, List.setIfInBounds_toArray, List.set_cons_zero, List.set_cons_succ]
      refine wpAnyU_take (i := 6) (v := ?_) (by simp only [List.getElem?_toArray, List.getElem?_cons_succ, List.getElem?_cons_zero]; rfl) (by kernel_rfl) (by kernel_rfl) (by kernel_rfl) (by decide) (by kernel_rfl) (by kernel_rfl) (by exact fun _ _ _ h => h) (Or.inl ⟨by rfl, ?_⟩) (by exact hs) ?_
      rotate_left
      · intro wq hSw
        clear hSw
        go_simp
        all_goals (with_reducible rfl)
      try simp only [Act.put, List.setIfInBounds_toArray, List.set_cons_zero, List.set_cons_succ]
      refine wpAnyU_take (i := 7) (v := ?_) (by simp only [List.getElem?_toArray, List.getElem?_cons_succ, List.getElem?_cons_zero]; rfl) (by kernel_rfl) (by kernel_rfl) (by kernel_rfl) (by decide) (by kernel_rfl) (by kernel_rfl) (by exact fun _ _ _ h => h) (Or.inl ⟨by rfl, ?_⟩) (by exact hs) ?_
      rotate_left
      · intro wq hSw
        clear hSw
        go_simp
        all_goals (with_reducible rfl)
      try simp only [Act.put, List.setIfInBounds_toArray, List.set_cons_zero, List.set_cons_succ]
      have hac := (Away.refl [] w2).alloc (.cells #[.string s0, .int .i64 a1, .slice a2 n2 c2, .int .i64 m] 101)
      have HAC := Lib.hid hac
      have HLA := Lib.hid (H.out.lst.on hac)
      have HNC : Hid (∀ j u, (listD ⟨[.string s0, .int .i64 a1, .slice a2 n2 c2], m⟩)[j]? = some u → (w2.alloc (.cells #[.string s0, .int .i64 a1, .slice a2 n2 c2, .int .i64 m] 101)).cell? ((⟨w2.heap.size, 0, none⟩ : Addr).add j) = some u) := fun j u hj => by rw [new_cells]; simpa [listD] using hj
      clear hac
      have hs1 : Cel (w2.alloc (.cells #[.string s0, .int .i64 a1, .slice a2 n2 c2, .int .i64 m] 101)) g c b 30 (.slice la L.length cap) (sumT L) ∧ (w2.alloc (.cells #[.string s0, .int .i64 a1, .slice a2 n2 c2, .int .i64 m] 101)).heap[gb]? = some (.cells #[.string s0, .int .i64 a1, .slice a2 n2 c2] 32 (0, 0)) := ⟨hs.1.away HAC.out (by simp), HAC.out.keep (by simp) hs.2⟩
      clear hs
      refine wpAnyU_ready (rs := [8]) (by kernel_rfl) (by simp) ?_
      refine ReadyU.cons (by simp only [List.getElem?_toArray, List.getElem?_cons_succ, List.getElem?_cons_zero]; rfl) (fun K hK => ?_) ReadyU.nil
      go_simp
      refine hK.out _ _ (fun _ => by exact hs1) ?_
      clear hK K
      try simp only [Act.put, List.setIfInBounds_toArray, List.set_cons_zero, List.set_cons_succ]
      refine wpAnyU_ready (rs := [9]) (by kernel_rfl) (by simp) ?_
      refine ReadyU.cons (by simp only [List.getElem?_toArray, List.getElem?_cons_succ, List.getElem?_cons_zero]; rfl) (fun K hK => ?_) ReadyU.nil
      refine step_app1 rfl _ _ rfl (.slice la L.length cap) L rfl (by exact HLA.out) ⟨w2.heap.size, 0, none⟩ 1 rfl ⟨[.string s0, .int .i64 a1, .slice a2 n2 c2], m⟩ HT.out (by exact HNC.out) (by omega) (fun v' w3 hl hgr hmv => ?_)
      have hgo : g ∉ (Value.slice la L.length cap).ownBlock.toList := fun hc => H.out.ne g (by simpa using hc) rfl
      have haw : Away (Value.slice la L.length cap).ownBlock.toList w2 w3 := (HAC.out.mono (by simp)).trans (Away.grow hgr)
      have HC3 := Lib.hid (H.out.cel.away haw hgo)
      have HB3 := Lib.hid (haw.keep (fun hc => HGB.out gb (by simpa using hc) rfl) (show w2.heap[gb]? = some (.cells #[.string s0, .int .i64 a1, .slice a2 n2 c2] 32 (0, 0)) from HBW.out))
      have HL := Lib.hid hl
      have HMV : Hid (Moved w (.slice la L.length cap) v') := fun k hk => by
        rcases hmv k hk with h1 | h1
        · exact .inl h1
        · refine .inr (Nat.le_trans (Nat.le_trans HA.out.size HAC.out.size) h1)
      have HMV2 : Hid (Moved w2 (.slice la L.length cap) v') := fun k hk => by
        rcases hmv k hk with h1 | h1
        · exact .inl h1
        · exact .inr (Nat.le_trans HAC.out.size h1)
      have HA3 : Hid (Away (fp g (.slice la L.length cap)) w w3) := (HA.out.mono (by simp)).next haw (fun x hx => .inl (by simp [fp]; exact .inr (by simpa using hx)))
      have HVG : Hid (∀ k, v'.ownBlock = some k → k ≠ g) := fun k hk => by
        rcases HMV2.out k hk with h1 | h1
        · exact H.out.ne k h1
        · omega
      clear hl hgr hmv haw e3 hgo HLA HNC HAC
      obtain ⟨va, vn, vc, hv2⟩ : ∃ a n c, v' = .slice a n c := by obtain ⟨a, c, h1, -⟩ := HL.out.sl; exact ⟨a, _, c, h1⟩
      subst hv2
      have e3 := HC3.out.c3
      have f3 := HC3.out.free 3
      have hs := And.intro HC3.out HB3.out
      refine hK.out _ _ (fun _ => by exact hs) ?_
      clear hK K
      try simp only [Act.put, List.setIfInBounds_toArray, List.set_cons_zero, List.set_cons_succ]
      refine wpAnyU_ready (rs := [10]) (by kernel_rfl) (by simp) ?_
      refine ReadyU.cons (by simp only [List.getElem?_toArray, List.getElem?_cons_succ, List.getElem?_cons_zero]; rfl) (fun K hK => ?_) ReadyU.nil
      go_simp
      refine hK.out _ _ (fun _ => by exact hs) ?_
      clear hK K
      try simp only [Act.put, List.setIfInBounds_toArray, List.set_cons_zero, List.set_cons_succ]
      refine wpAnyU_ready (rs := [11]) (by kernel_rfl) (by simp) ?_
      refine ReadyU.cons (by simp only [List.getElem?_toArray, List.getElem?_cons_succ, List.getElem?_cons_zero]; rfl) (fun K hK => ?_) ReadyU.nil
      go_simp
      refine hK.out _ _ (fun _ => by exact hs) ?_
      clear hK K
      try simp only [Act.put, List.setIfInBounds_toArray, List.set_cons_zero, List.set_cons_succ]
      refine wpAnyU_ready (rs := [12]) (by kernel_rfl) (by simp) ?_
      refine ReadyU.cons (by simp only [List.getElem?_toArray, List.getElem?_cons_succ, List.getElem?_cons_zero]; rfl) (fun K hK => ?_) ReadyU.nil
      go_simp
      refine hK.out _ _ (fun h => absurd h (by decide)) ?_
      clear hK K hs
      refine wpAnyU_done (by kernel_rfl) ?_ _
      go_upto_region 5 with fail
      have HC4 := Lib.hid (HC3.out.line (.slice va vn vc))
      have haw := (Away.refl [g] w3).setCell (p := ⟨g, 3, none⟩) (.inl (by simp)) (.slice va vn vc)
      replace HL := Lib.hid (HL.out.away haw (fun k hk => by simp; exact HVG.out k hk))
      replace HA3 := Lib.hid (HA3.out.next haw (fun x hx => .inl (by simp at hx; simp [fp, hx])))
      clear haw e3 f3 HC3
      generalize World.setCell w3 ⟨g, 3, none⟩ (.slice va vn vc) = w4 at *
      have e4 := HC4.out.c4
      rw [HH.out] at e4
      have f4 := HC4.out.free 4
      go_wp2_with fail
      have HC5 := Lib.hid (HC4.out.held (hd + m))
      have haw := (Away.refl [g] w4).setCell (p := ⟨g, 4, none⟩) (.inl (by simp)) (.int .i64 (hd + m))
      replace HL := Lib.hid (HL.out.away haw (fun k hk => by simp; exact HVG.out k hk))
      replace HA3 := Lib.hid (HA3.out.next haw (fun x hx => .inl (by simp at hx; simp [fp, hx])))
      clear haw e4 f4 HC4
      generalize World.setCell w4 ⟨g, 4, none⟩ (.int .i64 (hd + m)) = w5 at *
      go_ret
      refine ⟨by rw [HR.out]; rfl, _, ?_, HA3.out, HMV.out⟩
      rw [HR.out]
      exact Qu.pushed H.out HT.out h0 HR.out hg2 (by rw [HH.out]; exact HC5.out) HL.out HMV2.out
end Go.Proofs.Ytdgkkbiodhbmeaa.KT
