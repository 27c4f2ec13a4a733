/-
  Print.
-/
import Derived.Test.YtoifolmcdkfniabGreatDoorSplit
import Derived.Test.YtoifolmcdkfniabGreatDoorPrn
import Derived.Test.YtoifolmcdkfniabGreatDoorLeaf
import Derived.Deep.RegionHeld3
namespace Go.Proofs.YtoifolmcdkfniabGreatDoor
open Go.ChangeShapes Go.WideShapes Go.ChangeAt Go.RowKit
set_option linter.unusedVariables false
set_option maxHeartbeats 4000000
set_option maxRecDepth 100000

theorem rowAt_box {w : World} {g : Nat} {cs : Array Value} (h : rowAt w g = some cs) : ∃ t, w.heap[g]? = some (.cells cs t (0, 0)) := by
  obtain ⟨t, h1, _⟩ := rowAt_some h
  exact ⟨t, h1⟩
theorem rowAt_v {w : World} {g : Nat} {v : Int} {l : List Int} (h : rowAt w g = some (csA v l)) : w.cell? ⟨g, 0, none⟩ = some (.int .i64 v) := by
  obtain ⟨t, h1, _⟩ := rowAt_some h
  simp [World.cell?, h1, csA, cellsA]
def printS (gs : List Nat) (f t : Nat) : List UInt8 := if t - f < 2 then printG gs else printG (gs.take f) ++ ([58, 58] ++ printG (gs.drop t))
def printP (v : Int) (l : List Int) : List UInt8 :=
  if validP v l = false then [] else if v = 4 then printD (l.take 4) else printS (grpOf l) (zst (grpOf l) 8).1 (zst (grpOf l) 8).2.1
theorem slice54h (g f : Nat) (hf : f ≤ 8) (W : World) : (Instr.sliceAt 65 (.pointer (some ⟨g, 0, none⟩)) none (some (.int .i64 (f : Int))) none).run Tryz.prog W = .ok (.slice (some ⟨g, 0, none⟩) f 8) W := by
  have ht : Tryz.prog.underlying 65 = some (.array (Tryz.prog.arrayLen 65) (Tryz.prog.elem 65)) := by kernel_rfl
  have hal : Tryz.prog.arrayLen 65 = 8 := by kernel_rfl
  have hel : Tryz.prog.elem 65 = 64 := by kernel_rfl
  have hz : (sizeOf 64).run Tryz.prog W = .ok 1 W := by kernel_rfl
  have h := run_sliceAt_array_h (P := Tryz.prog) W 65 ⟨g, 0, none⟩ ht .i64 (f : Int) (by omega) (by rw [hal]; omega)
  rw [hal, hel, hz] at h
  rw [h]
  simp [Result.andThen, slicedAt, add_plain]
theorem slice54l (g t : Nat) (ht8 : t ≤ 8) : ∃ dp : Option Addr, (0 < 8 - t → dp = some ⟨g, t, none⟩) ∧ ∀ W : World, (Instr.sliceAt 65 (.pointer (some ⟨g, 0, none⟩)) (some (.int .i64 (t : Int))) none none).run Tryz.prog W = .ok (.slice dp (8 - t) (8 - t)) W := by
  have ht : Tryz.prog.underlying 65 = some (.array (Tryz.prog.arrayLen 65) (Tryz.prog.elem 65)) := by kernel_rfl
  have hal : Tryz.prog.arrayLen 65 = 8 := by kernel_rfl
  have hel : Tryz.prog.elem 65 = 64 := by kernel_rfl
  refine ⟨some (if 8 = t then ⟨g, 0, none⟩ else ⟨g, t, none⟩), fun h => by rw [if_neg (by omega)], fun W => ?_⟩
  have hz : (sizeOf 64).run Tryz.prog W = .ok 1 W := by kernel_rfl
  have h := run_sliceAt_array_l (P := Tryz.prog) W 65 ⟨g, 0, none⟩ ht .i64 (t : Int) (by omega) (by rw [hal]; omega)
  rw [hal, hel, hz] at h
  rw [h]
  simp only [Result.andThen, slicedAt, add_plain]
  rw [Int.toNat_natCast, Nat.mul_one, Nat.zero_add]
/-- What the two halves of a text are read from. -/
def SP (w0 : World) (g : Nat) (cg : Array Value) (w : World) : Prop := w.heap[g]? = some (.cells cg 65 (0, 0)) ∧ Glob w ∧ Below w0.heap.size w0 w
theorem SP.drew {w0 : World} {g : Nat} {cg : Array Value} {w : World} (h : SP w0 g cg w) : SP w0 g cg w.drew := ⟨h.1, h.2.1.drewN 1, h.2.2.drew⟩
theorem SP.on {w0 : World} {g : Nat} {cg : Array Value} {w w' : World} (h : SP w0 g cg w) (hb : Below w.heap.size w w') : SP w0 g cg w' := by
  have hlt : g < w.heap.size := by
    rcases Nat.lt_or_ge g w.heap.size with h' | h'
    · exact h'
    · have := h.1; rw [Array.getElem?_eq_none h'] at this; simp at this
  exact ⟨(hb.block g hlt).trans h.1, h.2.1.on hb, h.2.2.trans (hb.mono h.2.2.size)⟩
theorem SP.made {w0 w3 : World} (z cg : Array Value) (hg : Glob w3) (hb : Below w0.heap.size w0 w3) : SP w0 w3.heap.size cg ((w3.alloc (.cells z 65)).setRow w3.heap.size cg) := by
  have h3 : (w3.alloc (.cells z 65)).heap[w3.heap.size]? = some (.cells z 65 (0, 0)) := heap_alloc_new w3 _
  have hw : Below w3.heap.size w3 ((w3.alloc (.cells z 65)).setRow w3.heap.size cg) := below_setRow ((Below.refl _ _).alloc (Nat.le_refl _) _) (Nat.le_refl _) _
  refine ⟨?_, hg.on hw, hb.trans (hw.mono hb.size)⟩
  simp only [World.setRow, Array.getElem?_modify, if_pos, h3]
  rfl
theorem SP.cell {w0 : World} {g : Nat} {gs : List Nat} {w : World} (h : SP w0 g (csG gs) w) (j x : Nat) (hj : gs[j]? = some x) : w.cell? ⟨g, j, none⟩ = some (.int .u16 (x : Int)) := by
  simp [World.cell?, h.1, csG, hj]
theorem concat_c (a b : List UInt8) (h : a.length + b.length ≤ 100000) (W : World) : (Op.stringOp .add ⟨a.toArray⟩ ⟨b.toArray⟩).run Tryz.prog W = .ok (.string ⟨(a ++ b).toArray⟩) W :=
  run_string_add_lists W a b (by omega) (by omega)
theorem printG_len (gs : List Nat) (h : gs.length ≤ 8) : (printG gs).length ≤ 300 := by
  have h2 : ∀ r : List (List UInt8), (∀ t ∈ r, t.length ≤ 30) → (Lib.joinTail [58] r).length ≤ 31 * r.length := by
    intro r
    induction r with
    | nil => intro _; simp [Lib.joinTail]
    | cons y r ih =>
      intro hr
      have := ih (fun t ht => hr t (List.mem_cons_of_mem _ ht))
      have hy := hr y (by simp)
      simp only [Lib.joinTail, List.map_cons, List.flatten_cons, List.length_append, List.length_cons, List.length_nil] at this ⊢
      omega
  unfold printG
  cases gs with
  | nil => simp [Lib.join_nil]
  | cons x r =>
    rw [List.map_cons, Lib.join_cons]
    have h3 := h2 (r.map hx) (by intro t ht; simp at ht; obtain ⟨a, _, rfl⟩ := ht; exact hx_len a)
    have h4 := hx_len x
    simp only [List.length_append, List.length_map, List.length_cons] at h3 h ⊢
    omega
theorem print_c (v : Int) (l : List Int) (hl : l.length = 16) (hb : ∀ x ∈ l, 0 ≤ x ∧ x ≤ 255) (w : World) (hg : Glob w) :
    Calls Tryz.prog 10 #[.agg (csA v l)] w fun e w' => e = .returned (.string ⟨(printP v l).toArray⟩) ∧ Below w.heap.size w w' := by
  obtain ⟨cs, hcs⟩ : ∃ c, c = csA v l := ⟨_, rfl⟩
  have r1 : rowAt (w.alloc (.cells cs 37)) w.heap.size = some cs := rowAt_new w _ 37 (by rw [hcs]; exact csA_size hl)
  obtain ⟨e1, he1⟩ : ∃ e1, e1 = validP v l := ⟨_, rfl⟩
  have HV : Hid (∀ W, Calls Tryz.prog 31 #[.agg cs] W fun e w' => e = .returned (.bool e1) ∧ Below W.heap.size W w') := Lib.hid (fun W => by rw [hcs, he1]; exact valid_c v l hl W)
  have G0 : Hid (Glob (w.alloc (.cells cs 37))) := Lib.hid (hg.alloc _)
  have HB0 : Hid (Below w.heap.size w (w.alloc (.cells cs 37))) := Lib.hid ((Below.refl _ _).alloc (Nat.le_refl _) _)
  have hs0 : w.heap.size < (w.alloc (.cells cs 37)).heap.size := by simp
  obtain ⟨res, hres⟩ : ∃ r, r = printP v l := ⟨_, rfl⟩
  rw [← hcs, ← hres]
  have HCS := Lib.hid hcs
  clear hcs hg
  cases e1
  · have hr : res = [] := by rw [hres, printP, if_pos he1.symm]
    subst hr
    clear hres he1
    go_enter Tryz.func10, Tryz.ntmps10
    go_wp2_with (first
      | (refine wpList_load24 rfl _ rfl _ rfl _ r1 ?_)
      | (go_at_call 31; refine (HV.out _).mono ?_; rintro e w2 ⟨rfl, hb2⟩))
    go_ret
    exact ⟨rfl, HB0.out.trans (hb2.mono (Nat.le_of_lt hs0))⟩
  · by_cases h4 : v = 4
    · subst h4
      have hr : res = printD (l.take 4) := by rw [hres, printP, if_neg (by rw [← he1]; simp), if_pos rfl]
      have HP : Hid (∀ W, Glob W → rowAt W w.heap.size = some (csA 4 l) → Calls Tryz.prog 32 #[.slice (some ⟨w.heap.size, 1, none⟩) 4 16] W fun e w' => e = .returned (.string ⟨res.toArray⟩) ∧ Below W.heap.size W w') := Lib.hid (fun W hW hr1 => by
        rw [hr]
        have h4l : (l.take 4).length = 4 := by simp [hl]
        have := print4_c (l.take 4) (by omega) (fun x hx => hb x (List.mem_of_mem_take hx)) w.heap.size 1 16 W hW (fun j x hj => rowAt_bytes hr1 j x (by
          rw [List.getElem?_take] at hj
          split at hj
          · exact hj
          · simp at hj))
        rwa [h4l] at this)
      clear hres hr he1
      go_enter Tryz.func10, Tryz.ntmps10
      go_wp2_with (first
        | (refine wpList_load24 rfl _ rfl _ rfl _ r1 ?_)
        | (go_at_call 31; refine (HV.out _).mono ?_; rintro e w2 ⟨rfl, hb2⟩; have d1 := rowAt_below r1 hb2 hs0; rw [HCS.out] at d1; have D1 := Lib.hid d1; have v1 : w2.cell? ⟨w.heap.size, 0, none⟩ = some (.int .i64 4) := rowAt_v d1; have G2 := Lib.hid (G0.out.on hb2); have B2 := Lib.hid (HB0.out.trans (hb2.mono (Nat.le_of_lt hs0))); clear d1 hb2)
        | (go_at_call 32; refine (HP.out _ G2.out D1.out).mono ?_; rintro e w3 ⟨rfl, hb3⟩))
      go_ret
      exact ⟨rfl, B2.out.trans (hb3.mono B2.out.size)⟩
    · have hne : (v == 4) = false := by simp [h4]
      obtain ⟨gs, hgs⟩ : ∃ gs, gs = grpOf l := ⟨_, rfl⟩
      have hgl : gs.length = 8 := by rw [hgs]; exact grpOf_length hl
      have hgb : ∀ g ∈ gs, g < 65536 := by rw [hgs]; exact grpOf_lt l hb
      obtain ⟨f, hf⟩ : ∃ f, f = (zst gs 8).1 := ⟨_, rfl⟩
      obtain ⟨t, ht⟩ : ∃ t, t = (zst gs 8).2.1 := ⟨_, rfl⟩
      have hle := zst_le gs 8
      rw [← hf, ← ht] at hle
      have hr : res = printS gs f t := by rw [hres, printP, if_neg (by rw [← he1]; simp), if_neg h4, hf, ht, hgs]
      obtain ⟨cg, hcg⟩ : ∃ c, c = csG gs := ⟨_, rfl⟩
      have HSP : Hid (∀ W, Calls Tryz.prog 33 #[.agg cs] W fun e w' => e = .returned (.agg cg) ∧ Below W.heap.size W w') := Lib.hid (fun W => by rw [HCS.out, hcg, hgs]; exact split_c v l hl hb W)
      have HZ : Hid (∀ W, Calls Tryz.prog 34 #[.agg cg] W fun e w' => e = .returned (.tuple #[.int .i64 (f : Int), .int .i64 (t : Int)]) ∧ Below W.heap.size W w') := Lib.hid (fun W => by rw [hcg, hf, ht]; exact zeros_c gs hgl hgb W)
      have hcz : cg.size = 8 := by rw [hcg]; simp [csG, hgl]
      have hco : cg.all (·.oneCell') = true := by rw [hcg]; exact csG_one gs
      have hz8 : (csG z8').size = 8 := rfl
      have e8 : csG z8' = #[.int .u16 0, .int .u16 0, .int .u16 0, .int .u16 0, .int .u16 0, .int .u16 0, .int .u16 0, .int .u16 0] := rfl
      rw [e8] at hz8
      have HCG := Lib.hid hcg
      have HR := Lib.hid hr
      clear hres hr he1 hf ht hcg hgs
      by_cases h2 : t - f < 2
      · have hr2 : res = printG gs := by rw [HR.out, printS, if_pos h2]
        have i1 : decide ((t : Int) - (f : Int) < 2) = true := by simp; omega
        have i2 : (t : Int) - (f : Int) < 2 := by omega
        obtain ⟨hle1, hle2, _⟩ := hle
        go_enter Tryz.func10, Tryz.ntmps10
        go_wp2_with (first
          | (refine wpList_load24 rfl _ rfl _ rfl _ (by assumption) ?_)
          | (go_at_call 31; refine (HV.out _).mono ?_; rintro e w2 ⟨rfl, hb2⟩; have d1 := rowAt_below r1 hb2 hs0; have v1 : w2.cell? ⟨w.heap.size, 0, none⟩ = some (.int .i64 v) := rowAt_v (HCS.out ▸ d1); have G2 := Lib.hid (G0.out.on hb2); have B2 := Lib.hid (HB0.out.trans (hb2.mono (Nat.le_of_lt hs0))); clear hb2)
          | (go_at_call 33; refine (HSP.out _).mono ?_; rintro e w3 ⟨rfl, hb3⟩; have h3 : (w3.alloc (.cells #[.int .u16 0, .int .u16 0, .int .u16 0, .int .u16 0, .int .u16 0, .int .u16 0, .int .u16 0, .int .u16 0] 65)).heap[w3.heap.size]? = some (.cells #[.int .u16 0, .int .u16 0, .int .u16 0, .int .u16 0, .int .u16 0, .int .u16 0, .int .u16 0, .int .u16 0] 65 (0, 0)) := heap_alloc_new w3 _; have G3 := Lib.hid (G2.out.on hb3); have B3 := Lib.hid (B2.out.trans (hb3.mono B2.out.size)); clear hb3)
          | (refine wpList_store54o rfl _ _ rfl _ rfl _ _ _ h3 hz8 rfl hcz hco ?_; have hsp := SP.made (cg := cg) #[.int .u16 0, .int .u16 0, .int .u16 0, .int .u16 0, .int .u16 0, .int .u16 0, .int .u16 0, .int .u16 0] G3.out B3.out; have SP4 := Lib.hid hsp; have h4b := hsp.1; clear hsp h3; generalize World.setRow _ _ _ = W4 at *)
          | (refine wpList_load54 rfl _ rfl _ rfl _ _ h4b hcz ?_)
          | (go_at_call 34; refine (HZ.out _).mono ?_; rintro e w5 ⟨rfl, hb5⟩; have SP5 := Lib.hid (SP4.out.on hb5); clear hb5 h4b; refine Hid.out ?_))
        refine Lib.hid ?_
        have HP : Hid (Calls Tryz.prog 35 #[.slice (some ⟨w3.heap.size, 0, none⟩) 8 8] w5 fun e w' => e = .returned (.string ⟨res.toArray⟩) ∧ Below w5.heap.size w5 w') := Lib.hid (by
          rw [hr2]
          have := print6_c gs (by omega) hgb (some ⟨w3.heap.size, 0, none⟩) 8 w5 SP5.out.2.1 (fun _ => ⟨_, _, rfl, fun j x hj => by rw [Nat.zero_add]; exact SP.cell (HCG.out ▸ SP5.out) j x hj⟩)
          rwa [hgl] at this)
        have B5 := Lib.hid SP5.out.2.2
        clear hr2 SP5 SP4
        go_wp2_with (go_at_call 35; refine HP.out.mono ?_; rintro e w6 ⟨rfl, hb6⟩)
        go_ret
        exact ⟨rfl, B5.out.trans (hb6.mono B5.out.size)⟩
      · have hr2 : res = printG (gs.take f) ++ ([58, 58] ++ printG (gs.drop t)) := by rw [HR.out, printS, if_neg h2]
        have i1 : decide ((t : Int) - (f : Int) < 2) = false := by simp; omega
        have i2 : (2 : Int) ≤ (t : Int) - (f : Int) := by omega
        obtain ⟨hle1, hle2, _⟩ := hle
        go_enter Tryz.func10, Tryz.ntmps10
        go_wp2_with (first
          | (refine wpList_load24 rfl _ rfl _ rfl _ (by assumption) ?_)
          | (go_at_call 31; refine (HV.out _).mono ?_; rintro e w2 ⟨rfl, hb2⟩; have d1 := rowAt_below r1 hb2 hs0; have v1 : w2.cell? ⟨w.heap.size, 0, none⟩ = some (.int .i64 v) := rowAt_v (HCS.out ▸ d1); have G2 := Lib.hid (G0.out.on hb2); have B2 := Lib.hid (HB0.out.trans (hb2.mono (Nat.le_of_lt hs0))); clear hb2)
          | (go_at_call 33; refine (HSP.out _).mono ?_; rintro e w3 ⟨rfl, hb3⟩; have h3 : (w3.alloc (.cells #[.int .u16 0, .int .u16 0, .int .u16 0, .int .u16 0, .int .u16 0, .int .u16 0, .int .u16 0, .int .u16 0] 65)).heap[w3.heap.size]? = some (.cells #[.int .u16 0, .int .u16 0, .int .u16 0, .int .u16 0, .int .u16 0, .int .u16 0, .int .u16 0, .int .u16 0] 65 (0, 0)) := heap_alloc_new w3 _; have G3 := Lib.hid (G2.out.on hb3); have B3 := Lib.hid (B2.out.trans (hb3.mono B2.out.size)); clear hb3)
          | (refine wpList_store54o rfl _ _ rfl _ rfl _ _ _ h3 hz8 rfl hcz hco ?_; have hsp := SP.made (cg := cg) #[.int .u16 0, .int .u16 0, .int .u16 0, .int .u16 0, .int .u16 0, .int .u16 0, .int .u16 0, .int .u16 0] G3.out B3.out; have SP4 := Lib.hid hsp; have h4b := hsp.1; clear hsp h3; generalize World.setRow _ _ _ = W4 at *)
          | (refine wpList_load54 rfl _ rfl _ rfl _ _ h4b hcz ?_)
          | (go_at_call 34; refine (HZ.out _).mono ?_; rintro e w5 ⟨rfl, hb5⟩; have SP5 := Lib.hid (SP4.out.on hb5); clear hb5 h4b; refine Hid.out ?_))
        refine Lib.hid ?_
        have hslh := slice54h w3.heap.size f (by omega)
        obtain ⟨dp, hdp, hsl⟩ := slice54l w3.heap.size t hle2
        obtain ⟨p1, hp1⟩ : ∃ p, p = printG (gs.take f) := ⟨_, rfl⟩
        obtain ⟨p2, hp2⟩ : ∃ p, p = printG (gs.drop t) := ⟨_, rfl⟩
        have hfl : (gs.take f).length = f := by simp [hgl]; omega
        have htl : (gs.drop t).length = 8 - t := by simp [hgl]
        have HPX : Hid (∀ (k : Bool) (W : World) (a : Option Addr) (n c : Nat), SP w w3.heap.size cg W → (bif k then (a = some ⟨w3.heap.size, 0, none⟩ ∧ n = f ∧ c = 8) else (a = dp ∧ n = 8 - t ∧ c = 8 - t)) → Calls Tryz.prog 35 #[.slice a n c] W fun e w' => e = .returned (.string ⟨(bif k then p1 else p2).toArray⟩) ∧ SP w w3.heap.size cg w') := Lib.hid (by
          intro k W a n c hsp hk
          cases k
          · obtain ⟨rfl, rfl, rfl⟩ := hk
            have := print6_c (gs.drop t) (by omega) (fun g hg => hgb g (List.mem_of_mem_drop hg)) a (8 - t) W hsp.2.1 (fun h0 => ⟨_, t, hdp (by omega), fun j x hj => by
              rw [List.getElem?_drop] at hj
              exact SP.cell (HCG.out ▸ hsp) _ x hj⟩)
            rw [htl] at this
            refine this.mono ?_
            rintro e w' ⟨rfl, hb'⟩
            exact ⟨by rw [hp2]; rfl, hsp.on hb'⟩
          · obtain ⟨rfl, rfl, rfl⟩ := hk
            have := print6_c (gs.take n) (by omega) (fun g hg => hgb g (List.mem_of_mem_take hg)) (some ⟨w3.heap.size, 0, none⟩) 8 W hsp.2.1 (fun h0 => ⟨_, 0, rfl, fun j x hj => by
              rw [List.getElem?_take] at hj
              split at hj
              · rw [Nat.zero_add]; exact SP.cell (HCG.out ▸ hsp) j x hj
              · simp at hj⟩)
            rw [hfl] at this
            refine this.mono ?_
            rintro e w' ⟨rfl, hb'⟩
            exact ⟨by rw [hp1]; rfl, hsp.on hb'⟩)
        have HR2 : Hid (res = p1 ++ ([58, 58] ++ p2)) := Lib.hid (by rw [hr2, hp1, hp2])
        have hl1 : p1.length ≤ 300 := by rw [hp1]; exact printG_len _ (by omega)
        have hl2 : p2.length ≤ 300 := by rw [hp2]; exact printG_len _ (by omega)
        have hc1 : ∀ W, (Op.stringOp .add ⟨p1.toArray⟩ ⟨#[58, 58]⟩).run Tryz.prog W = .ok (.string ⟨(p1 ++ [58, 58]).toArray⟩) W := fun W => concat_c _ _ (by simp; omega) W
        have hc2 : ∀ W, (Op.stringOp .add ⟨(p1 ++ [58, 58]).toArray⟩ ⟨p2.toArray⟩).run Tryz.prog W = .ok (.string ⟨((p1 ++ [58, 58]) ++ p2).toArray⟩) W := fun W => concat_c _ _ (by simp; omega) W
        obtain ⟨q1, hq1⟩ : ∃ q, q = p1 ++ [58, 58] := ⟨_, rfl⟩
        obtain ⟨q2, hq2⟩ : ∃ q, q = q1 ++ p2 := ⟨_, rfl⟩
        rw [← hq1] at hc1 hc2
        rw [← hq2] at hc2
        have HR3 : Hid (res = q2) := Lib.hid (by rw [HR2.out, hq2, hq1]; simp)
        have HPX1 : Hid (∀ W, SP w w3.heap.size cg W → Calls Tryz.prog 35 #[.slice (some ⟨w3.heap.size, 0, none⟩) f 8] W fun e w' => e = .returned (.string ⟨p1.toArray⟩) ∧ SP w w3.heap.size cg w') := Lib.hid (fun W h => HPX.out true W _ _ _ h ⟨rfl, rfl, rfl⟩)
        have HPX2 : Hid (∀ W, SP w w3.heap.size cg W → Calls Tryz.prog 35 #[.slice dp (8 - t) (8 - t)] W fun e w' => e = .returned (.string ⟨p2.toArray⟩) ∧ SP w w3.heap.size cg w') := Lib.hid (fun W h => HPX.out false W _ _ _ h ⟨rfl, rfl, rfl⟩)
        clear HPX
        have hspw := SP5.out
        clear HR2 hq1 hq2 hl1 hl2
        clear hr2 hp1 hp2 hdp SP5 SP4 hfl htl HR
        go_wp2_with fail
        go_region_held3 (fun w' => SP w w3.heap.size cg w') (first | assumption | exact SP.drew (by assumption))
          (first
            | (go_at_call 35; have hsp8 := hsp6; refine (HPX2.out _ (by assumption)).mono ?_; rintro E w7 ⟨rfl, hsp7⟩)
            | (go_at_call 35; refine (HPX1.out _ (by assumption)).mono ?_; rintro E w6 ⟨rfl, hsp6⟩))
        go_wp2_with fail
        go_ret
        have hfin : SP w w3.heap.size cg w7 := hsp7
        first
          | exact ⟨(by rw [HR3.out]; rfl), hfin.2.2⟩
          | exact ⟨(by rw [HR3.out]; rfl), hfin.drew.2.2⟩
          | exact ⟨(by rw [HR3.out]; rfl), (show SP w w3.heap.size cg _ from by assumption).2.2⟩
end Go.Proofs.YtoifolmcdkfniabGreatDoor
