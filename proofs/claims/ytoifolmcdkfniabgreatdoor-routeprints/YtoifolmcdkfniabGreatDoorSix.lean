/-
  parse6.
-/
import Derived.Test.YtoifolmcdkfniabGreatDoorGrps
import Derived.Test.YtoifolmcdkfniabGreatDoorJoin
import Derived.Laws.CopyOwn
namespace Go.Proofs.YtoifolmcdkfniabGreatDoor
open Go.ChangeShapes Go.WideShapes Go.ChangeAt Go.RowKit
set_option linter.unusedVariables false
set_option maxHeartbeats 4000000
set_option maxRecDepth 100000

def six (r : Option (List Nat)) : Array Value := match r with | some g => csA 6 (unG g) | none => csA 0 z16
def SixPost (r : Option (List Nat)) (w : World) (e : Ending) (w' : World) : Prop := e = .returned (.tuple #[.agg (six r), .bool r.isSome]) ∧ Below w.heap.size w w'
theorem parse6_eq (l : List UInt8) : parse6P l = match grps8 (Lib.cut l [58, 58]).1, grps8 (Lib.cut l [58, 58]).2.1 with
    | some x, some y => if 8 < x.length + y.length ∨ (Lib.cut l [58, 58]).2.2 = decide (x.length + y.length = 8) then none else some (joinG x y)
    | _, _ => none := by
  unfold parse6P grps8
  cases grps (Lib.cut l [58, 58]).1 with
  | none => rfl
  | some x =>
    cases grps (Lib.cut l [58, 58]).2.1 with
    | none => by_cases h : x.length ≤ 8 <;> simp [h]
    | some y =>
      by_cases hx : x.length ≤ 8
      · by_cases hy : y.length ≤ 8
        · simp only [hx, hy, if_true]
          cases (Lib.cut l [58, 58]).2.2
          · by_cases h : x.length + y.length = 8
            · simp [h]
            · simp [h]
          · by_cases h : x.length + y.length < 8
            · rw [if_neg (show ¬ (8 < x.length + y.length ∨ true = decide (x.length + y.length = 8)) from by simp; omega)]
              simp [h]
            · rw [if_pos (show 8 < x.length + y.length ∨ true = decide (x.length + y.length = 8) from by simp; omega)]
              simp [h]
        · simp only [hx, hy, if_true, if_false]
          rw [if_neg (show ¬ x.length + y.length < 8 by omega), if_neg (show ¬ x.length + y.length = 8 by omega)]
          simp
      · simp only [hx, if_false]
        rw [if_neg (show ¬ x.length + y.length < 8 by omega), if_neg (show ¬ x.length + y.length = 8 by omega)]
        simp
def z8 : List Nat := [0, 0, 0, 0, 0, 0, 0, 0]
theorem splice_join (x y : List Nat) (h : x.length + y.length ≤ 8) : splice (splice (u16s z8) 0 (u16s x)) (8 - y.length) (u16s y) = u16s (joinG x y) := by
  have e1 : splice (u16s z8) 0 (u16s x) = u16s (x ++ List.replicate (8 - x.length) 0) := by
    have : u16s z8 = u16s (List.replicate 8 0) := rfl
    rw [this]
    simp only [splice, u16s, List.take_zero, List.nil_append, List.map_append, List.length_map, Nat.zero_add, List.map_replicate, List.drop_replicate]
  rw [e1]
  unfold splice joinG
  have hx : (u16s (x ++ List.replicate (8 - x.length) 0)).length = 8 := by simp [u16s]; omega
  rw [show (u16s (x ++ List.replicate (8 - x.length) 0)).drop (8 - y.length + (u16s y).length) = [] from List.drop_eq_nil_of_le (by rw [hx]; simp [u16s]; omega)]
  have : (u16s (x ++ List.replicate (8 - x.length) 0)).take (8 - y.length) = u16s (x ++ List.replicate (8 - (x.length + y.length)) 0) := by
    simp only [u16s, List.map_append, List.map_replicate, List.take_append, List.length_map, List.take_replicate]
    rw [List.take_of_length_le (by simp; omega)]
    congr 2
    omega
  rw [this]
  simp [u16s]
theorem joinG_length (x y : List Nat) (h : x.length + y.length ≤ 8) : (joinG x y).length = 8 := by simp [joinG]; omega
theorem alls_all {α β : Type} (f : α → Option β) (p : β → Prop) : ∀ (l : List α), (∀ a b, f a = some b → p b) → ∀ {r : List β}, alls f l = some r → ∀ b ∈ r, p b
  | [], _, r, h => by simp [alls] at h; subst h; simp
  | x :: l, hf, r, h => by
    simp only [alls] at h
    split at h
    · rename_i y s h1 h2
      simp only [Option.some.injEq] at h
      subst h
      intro b hb
      rcases List.mem_cons.1 hb with rfl | hb
      · exact hf _ _ h1
      · exact alls_all f p l hf h2 b hb
    · simp at h
theorem grps8_lt {l : List UInt8} {gs : List Nat} (h : grps8 l = some gs) : gs.length ≤ 8 ∧ ∀ g ∈ gs, g < 65536 := by
  unfold grps8 at h
  cases hg : grps l with
  | none => simp [hg] at h
  | some r =>
    simp only [hg] at h
    split at h
    · rename_i h8
      simp only [Option.some.injEq] at h
      subst h
      refine ⟨h8, ?_⟩
      unfold grps at hg
      split at hg
      · simp only [Option.some.injEq] at hg; subst hg; simp
      · exact alls_all _ _ _ (fun _ _ h => numOf_lt h) hg
    · simp at h
theorem own_src {w : World} {B n c : Nat} {a : Option Addr} {xs : List Value} (h : w.ownsRow B 64 1 (.slice a n c) n xs) : 0 < xs.length → ∃ ad, a = some ad ∧ ∀ j v, xs[j]? = some v → w.cell? (ad.add j) = some v := by
  intro hpos
  have hl : xs.length = n := by simpa using h.1
  rcases h.2 with ⟨_, h0⟩ | ⟨g, cap, cur, hv, hg, hh, hn, hc, hs, ht⟩
  · omega
  · simp only [Value.slice.injEq] at hv
    obtain ⟨rfl, _, rfl⟩ := hv
    refine ⟨_, rfl, fun j v hj => ?_⟩
    have hjl : j < xs.length := (List.getElem?_eq_some_iff.1 hj).1
    rw [add_plain, Nat.zero_add, World.ownsRow.cellAt h j (by omega)]
    exact hj
theorem own_srcX {w : World} {B n c : Nat} {a : Option Addr} {x : List Nat} {X : List Value} (hX : X = u16s x) (h : w.ownsRow B 64 1 (.slice a n c) n (u16s x)) : 0 < X.length → ∃ ad, a = some ad ∧ ∀ j v, X[j]? = some v → w.cell? (ad.add j) = some v := by
  subst hX
  exact fun h0 => own_src h h0
theorem u16s_one (x : List Nat) : ∀ v ∈ u16s x, v.oneCell' = true := by
  intro v hv
  simp only [u16s, List.mem_map] at hv
  obtain ⟨n, _, rfl⟩ := hv
  rfl
theorem info53s : (Tryz.prog.info? 64).map (·.size) = some 1 := by kernel_rfl
theorem slice54 (g : Nat) (l : Nat) (hl : l ≤ 8) : ∃ dp : Option Addr, (0 < l → dp = some ⟨g, 8 - l, none⟩) ∧ ∀ W : World, (Instr.sliceAt 65 (.pointer (some ⟨g, 0, none⟩)) (some (.int .i64 (8 - (l : Int)))) none none).run Tryz.prog W = .ok (.slice dp l l) W := by
  have ht : Tryz.prog.underlying 65 = some (.array (Tryz.prog.arrayLen 65) (Tryz.prog.elem 65)) := by kernel_rfl
  have hal : Tryz.prog.arrayLen 65 = 8 := by kernel_rfl
  have hel : Tryz.prog.elem 65 = 64 := by kernel_rfl
  refine ⟨some (if 8 = 8 - l then ⟨g, 0, none⟩ else ⟨g, 8 - l, none⟩), fun h => by rw [if_neg (by omega)], fun W => ?_⟩
  have hz : (sizeOf 64).run Tryz.prog W = .ok 1 W := by kernel_rfl
  have h := run_sliceAt_array_l (P := Tryz.prog) W 65 ⟨g, 0, none⟩ ht .i64 (8 - (l : Int)) (by omega) (by rw [hal]; omega)
  rw [hal, hel, hz] at h
  rw [h]
  simp only [Result.andThen, slicedAt, add_plain]
  rw [show (8 - (l : Int)).toNat = 8 - l from by omega, Nat.mul_one, Nat.zero_add, show 8 - (8 - l) = l from by omega]
theorem parse6_c (s : ByteArray) (hs : s.size < 4294967281) (w : World) (hg : Glob w) : Calls Tryz.prog 83 #[.string s] w (SixPost (parse6P s.data.toList) w) := by
  obtain ⟨l, hl⟩ : ∃ l, l = s.data.toList := ⟨_, rfl⟩
  have hlen : s.size = l.length := by rw [hl]; exact Lib.size_eq s
  obtain ⟨a, ha⟩ : ∃ p, p = (Lib.cut l [58, 58]).1 := ⟨_, rfl⟩
  obtain ⟨b, hb⟩ : ∃ p, p = (Lib.cut l [58, 58]).2.1 := ⟨_, rfl⟩
  obtain ⟨sh, hsh⟩ : ∃ p, p = (Lib.cut l [58, 58]).2.2 := ⟨_, rfl⟩
  have hal : a.length ≤ l.length := by rw [ha]; exact (cut_len l [58, 58]).1
  have hbl : b.length ≤ l.length := by rw [hb]; exact (cut_len l [58, 58]).2
  obtain ⟨res, hres⟩ : ∃ r, r = parse6P l := ⟨_, rfl⟩
  have hres2 := hres
  rw [parse6_eq, ← ha, ← hb, ← hsh] at hres2
  have HCUT : Hid (∀ W, Glob W → Calls Tryz.prog 44 #[.string s, .string ⟨#[58, 58]⟩] W fun e w' => e = .returned (.tuple #[.string ⟨a.toArray⟩, .string ⟨b.toArray⟩, .bool sh]) ∧ ∃ n, w' = W.drewN n) := Lib.hid (fun W hW => by
    have := cut_c s ⟨#[58, 58]⟩ hs W hW
    rw [← hl] at this
    simpa [ha, hb, hsh] using this)
  have HA : Hid (∀ W, Glob W → Calls Tryz.prog 100 #[.string ⟨a.toArray⟩] W (GrpPost (grps8 a) W)) := Lib.hid (fun W hW => groups_c ⟨a.toArray⟩ (by rw [Lib.size_eq]; simp; omega) W hW)
  have HBB : Hid (∀ W, Glob W → Calls Tryz.prog 100 #[.string ⟨b.toArray⟩] W (GrpPost (grps8 b) W)) := Lib.hid (fun W hW => groups_c ⟨b.toArray⟩ (by rw [Lib.size_eq]; simp; omega) W hW)
  rw [← hl, ← hres]
  have HR := Lib.hid hres2
  have r0 : rowAt (w.alloc (.cells (csA 0 z16) 37)) w.heap.size = some (csA 0 z16) := rowAt_new w _ 37 rfl
  have g0 : Glob (w.alloc (.cells (csA 0 z16) 37)) := hg.alloc _
  have hz3 := csA_one 0 z16
  have hz1 : (csA 0 z16).size = 17 := rfl
  have HFAIL : Hid (∀ W, Below (w.alloc (.cells (csA 0 z16) 37)).heap.size (w.alloc (.cells (csA 0 z16) 37)) W → rowAt W w.heap.size = some (csA 0 z16) ∧ Below w.heap.size w (W.setRow w.heap.size (csA 0 z16)) ∧ rowAt (W.setRow w.heap.size (csA 0 z16)) w.heap.size = some (csA 0 z16)) := Lib.hid (fun W h =>
    have h1 := rowAt_below r0 h (by simp)
    ⟨h1, below_setRow (((Below.refl _ _).alloc (Nat.le_refl _) _).trans (h.mono (by simp))) (Nat.le_refl _) _, rowAt_setRow h1 _ rfl⟩)
  have G0 := Lib.hid g0
  rw [csA_z] at hz3 hz1 HFAIL G0
  clear hres hres2 hl ha hb hsh hal hbl hlen r0 hg g0
  cases h1 : grps8 a with
  | none =>
    have hr : res = none := by rw [HR.out, h1]
    subst hr
    rw [h1] at HA
    clear HR h1
    go_enter Tryz.func83, Tryz.ntmps83
    go_wp2_with (first
      | (go_at_call 44; refine (HCUT.out _ G0.out).mono ?_; rintro e w2 ⟨rfl, n1, rfl⟩)
      | (go_at_call 100; refine (HA.out _ (G0.out.drewN n1)).mono ?_; rintro e w3 ⟨hb3, v3, rfl, _⟩; obtain ⟨d3, k1, k2⟩ := HFAIL.out w3 ((below_drewN (Below.refl _ _) n1).trans hb3); have K1 := Lib.hid k1; have K2 := Lib.hid k2; clear k1 k2)
      | (refine wpList_store24o rfl _ _ rfl _ rfl _ _ d3 rfl hz1 hz3 ?_))
    refine bodyPost_ret (v := .tuple #[.agg (csA 0 z16), .bool false]) ?_ rfl ⟨rfl, K1.out⟩
    exact result24t rfl _ _ _ _ _ rfl rfl K2.out
  | some x =>
    obtain ⟨hx8, hxb⟩ := grps8_lt h1
    rw [h1] at HA
    cases h2 : grps8 b with
    | none =>
      have hr : res = none := by rw [HR.out, h1, h2]
      subst hr
      rw [h2] at HBB
      clear HR h1 h2
      go_enter Tryz.func83, Tryz.ntmps83
      go_wp2_with (first
        | (go_at_call 44; refine (HCUT.out _ G0.out).mono ?_; rintro e w2 ⟨rfl, n1, rfl⟩)
        | (go_at_call 100; refine (HA.out _ (G0.out.drewN n1)).mono ?_; rintro e w3 ⟨hb3, v3, rfl, ho3⟩; obtain ⟨a3, c3, rfl, _, _⟩ := own_shape (ho3 x rfl); have G3 := Lib.hid ((G0.out.drewN n1).on hb3); have B3 := Lib.hid ((below_drewN (Below.refl _ _) n1).trans hb3); clear hb3 ho3; refine Hid.out ?_))
      refine Lib.hid ?_
      go_wp2_with (first
        | (go_at_call 100; refine (HBB.out _ G3.out).mono ?_; rintro e w4 ⟨hb4, v4, rfl, _⟩; obtain ⟨d4, k1, k2⟩ := HFAIL.out w4 (B3.out.trans (hb4.mono B3.out.size)); have K1 := Lib.hid k1; have K2 := Lib.hid k2; clear k1 k2)
        | (refine wpList_store24o rfl _ _ rfl _ rfl _ _ d4 rfl hz1 hz3 ?_))
      refine bodyPost_ret (v := .tuple #[.agg (csA 0 z16), .bool false]) ?_ rfl ⟨rfl, K1.out⟩
      exact result24t rfl _ _ _ _ _ rfl rfl K2.out
    | some y =>
      obtain ⟨hy8, hyb⟩ := grps8_lt h2
      rw [h2] at HBB
      have hr : res = if 8 < x.length + y.length ∨ sh = decide (x.length + y.length = 8) then none else some (joinG x y) := by rw [HR.out, h1, h2]
      clear HR h1 h2
      have e0 : (x.length : Int) + (y.length : Int) = ((x.length + y.length : Nat) : Int) := by omega
      by_cases hbad : 8 < x.length + y.length ∨ sh = decide (x.length + y.length = 8)
      · rw [if_pos hbad] at hr
        subst hr
        obtain ⟨q, hq⟩ : ∃ q : Int, q = (x.length : Int) + (y.length : Int) := ⟨_, rfl⟩
        by_cases h9 : 8 < x.length + y.length
        · have i1 : decide (8 < (x.length : Int) + (y.length : Int)) = true := by simp; omega
          have i2 : (8 : Int) < (x.length : Int) + (y.length : Int) := by omega
          clear hbad e0
          go_enter Tryz.func83, Tryz.ntmps83
          go_wp2_with (first
            | (go_at_call 44; refine (HCUT.out _ G0.out).mono ?_; rintro e w2 ⟨rfl, n1, rfl⟩)
            | (go_at_call 100; refine (HA.out _ (G0.out.drewN n1)).mono ?_; rintro e w3 ⟨hb3, v3, rfl, ho3⟩; obtain ⟨a3, c3, rfl, _, _⟩ := own_shape (ho3 x rfl); have G3 := Lib.hid ((G0.out.drewN n1).on hb3); have B3 := Lib.hid ((below_drewN (Below.refl _ _) n1).trans hb3); clear hb3 ho3; refine Hid.out ?_))
          refine Lib.hid ?_
          go_wp2_with (first
            | (go_at_call 100; refine (HBB.out _ G3.out).mono ?_; rintro e w4 ⟨hb4, v4, rfl, ho4⟩; obtain ⟨a4, c4, rfl, _, _⟩ := own_shape (ho4 y rfl); obtain ⟨d4, k1, k2⟩ := HFAIL.out w4 (B3.out.trans (hb4.mono B3.out.size)); have K1 := Lib.hid k1; have K2 := Lib.hid k2; clear k1 k2 ho4)
            | (refine wpList_store24o rfl _ _ rfl _ rfl _ _ d4 rfl hz1 hz3 ?_))
          refine bodyPost_ret (v := .tuple #[.agg (csA 0 z16), .bool false]) ?_ rfl ⟨rfl, K1.out⟩
          exact result24t rfl _ _ _ _ _ rfl rfl K2.out
        · have i1 : decide (8 < (x.length : Int) + (y.length : Int)) = false := by simp; omega
          have i2 : (x.length : Int) + (y.length : Int) ≤ 8 := by omega
          have hsh := hbad.resolve_left h9
          have i3 : ((x.length : Int) + (y.length : Int) == 8) = sh := by rw [hsh, Bool.eq_iff_iff]; simp; omega
          clear hbad e0 hsh
          go_enter Tryz.func83, Tryz.ntmps83
          go_wp2_with (first
            | (go_at_call 44; refine (HCUT.out _ G0.out).mono ?_; rintro e w2 ⟨rfl, n1, rfl⟩)
            | (go_at_call 100; refine (HA.out _ (G0.out.drewN n1)).mono ?_; rintro e w3 ⟨hb3, v3, rfl, ho3⟩; obtain ⟨a3, c3, rfl, _, _⟩ := own_shape (ho3 x rfl); have G3 := Lib.hid ((G0.out.drewN n1).on hb3); have B3 := Lib.hid ((below_drewN (Below.refl _ _) n1).trans hb3); clear hb3 ho3; refine Hid.out ?_))
          refine Lib.hid ?_
          go_wp2_with (first
            | (go_at_call 100; refine (HBB.out _ G3.out).mono ?_; rintro e w4 ⟨hb4, v4, rfl, ho4⟩; obtain ⟨a4, c4, rfl, _, _⟩ := own_shape (ho4 y rfl); obtain ⟨d4, k1, k2⟩ := HFAIL.out w4 (B3.out.trans (hb4.mono B3.out.size)); have K1 := Lib.hid k1; have K2 := Lib.hid k2; clear k1 k2 ho4)
            | (refine wpList_store24o rfl _ _ rfl _ rfl _ _ d4 rfl hz1 hz3 ?_))
          refine bodyPost_ret (v := .tuple #[.agg (csA 0 z16), .bool false]) ?_ rfl ⟨rfl, K1.out⟩
          exact result24t rfl _ _ _ _ _ rfl rfl K2.out
      · rw [if_neg hbad] at hr
        subst hr
        have i1 : decide (8 < (x.length : Int) + (y.length : Int)) = false := by simp; omega
        have i2 : (x.length : Int) + (y.length : Int) ≤ 8 := by omega
        have i3 : ((x.length : Int) + (y.length : Int) == 8) = !sh := by
          have h9 : ¬ sh = decide (x.length + y.length = 8) := fun h => hbad (.inr h)
          rw [e0]
          cases sh
          · simp at h9; simp; omega
          · simp at h9; simp; omega
        have hxy : x.length + y.length ≤ 8 := by omega
        have HJ : Hid (∀ W, Calls Tryz.prog 101 #[.agg (csG (joinG x y))] W fun e w' => e = .returned (.agg (csA 6 (unG (joinG x y)))) ∧ Below W.heap.size W w') := Lib.hid (fun W => join_c (joinG x y) (joinG_length x y hxy) (fun g hg => by
          unfold joinG at hg
          simp only [List.mem_append, List.mem_replicate] at hg
          rcases hg with h | ⟨_, rfl⟩ | h
          · exact hxb g h
          · omega
          · exact hyb g h) W)
        obtain ⟨X1, hX1⟩ : ∃ c, c = u16s x := ⟨_, rfl⟩
        obtain ⟨Y1, hY1⟩ : ∃ c, c = u16s y := ⟨_, rfl⟩
        have hX1n : 0 + X1.length = x.length := by rw [hX1]; simp [u16s]
        have hX1l : X1.length = Nat.min x.length 8 := by rw [hX1, show Nat.min x.length 8 = x.length from Nat.min_eq_left hx8]; simp [u16s]
        have hX1o : ∀ v ∈ X1, v.oneCell' = true := by rw [hX1]; exact u16s_one x
        have HX1 := Lib.hid hX1; have HY1 := Lib.hid hY1
        clear hX1 hY1
        clear hbad e0
        go_enter Tryz.func83, Tryz.ntmps83
        go_wp2_with (first
          | (go_at_call 44; refine (HCUT.out _ G0.out).mono ?_; rintro e w2 ⟨rfl, n1, rfl⟩)
          | (go_at_call 100; refine (HA.out _ (G0.out.drewN n1)).mono ?_; rintro e w3 ⟨hb3, v3, rfl, ho3⟩; have o3 := ho3 x rfl; obtain ⟨a3, c3, rfl, _, _⟩ := own_shape o3; have O3 := Lib.hid o3; have G3 := Lib.hid ((G0.out.drewN n1).on hb3); have B3 := Lib.hid ((below_drewN (Below.refl _ _) n1).trans hb3); clear hb3 ho3 o3; refine Hid.out ?_))
        refine Lib.hid ?_
        go_wp2_with (first
          | (go_at_call 100; refine (HBB.out _ G3.out).mono ?_; rintro e w4 ⟨hb4, v4, rfl, ho4⟩; have o4 := ho4 y rfl; obtain ⟨a4, c4, rfl, _, _⟩ := own_shape o4; have O4 := Lib.hid o4; have HB4 := Lib.hid hb4; have O3b := Lib.hid (own_below O3.out hb4); clear hb4 ho4 o4; have H8 := Lib.hid (show (w4.alloc (.cells (u16s z8).toArray 65)).heap[w4.heap.size]? = some (.cells (u16s z8).toArray 65 (0, 0)) from heap_alloc_new w4 _); have S3 := Lib.hid (own_srcX HX1.out (own_below O3b.out (show Below w4.heap.size w4 (w4.alloc (.cells (u16s z8).toArray 65)) from (Below.refl _ _).alloc (Nat.le_refl _) _))); have B5 := Lib.hid (show Below w4.heap.size w4 (w4.alloc (.cells (u16s z8).toArray 65)) from (Below.refl _ _).alloc (Nat.le_refl _) _))
          | (refine wpList_copy_splice rfl _ _ 70 70 rfl 64 Tryz.underlying70 info53s _ _ 8 8 x.length c3 rfl rfl w4.heap.size 0 (u16s z8) 65 H8.out X1 hX1l (fun h => ⟨rfl, S3.out h⟩) (by rw [hX1n]; exact hx8) hX1o w4.heap.size w4 B5.out (Nat.le_refl _) ?_; intro w5 h5 b5; have S5 := Lib.hid h5; have B6 := Lib.hid b5; clear h5 b5; refine Hid.out ?_))
        refine Lib.hid ?_
        have j1 : (0 : Int) ≤ 8 - (y.length : Int) := by omega
        have j2 : 8 - (y.length : Int) ≤ 8 := by omega
        have j3 : (8 - (y.length : Int)).toNat = 8 - y.length := by omega
        have hY1l : Y1.length = Nat.min y.length y.length := by rw [HY1.out, show Nat.min y.length y.length = y.length from Nat.min_self _]; simp [u16s]
        have hY1p : Y1.length = y.length := by rw [HY1.out]; simp [u16s]
        have hY1n : (8 - y.length) + Y1.length ≤ (splice (u16s z8) 0 X1).length := by
          rw [length_splice _ _ _ (by rw [hX1n]; exact hx8), HY1.out]
          simp [u16s, z8]; omega
        have hY1o : ∀ v ∈ Y1, v.oneCell' = true := by rw [HY1.out]; exact u16s_one y
        obtain ⟨dp, hdp, hsl⟩ := slice54 w4.heap.size y.length hy8
        have HDP := Lib.hid hdp; clear hdp
        have S4 := Lib.hid (own_srcX HY1.out (own_below O4.out B6.out))
        have hsp : splice (splice (u16s z8) 0 X1) (8 - y.length) Y1 = u16s (joinG x y) := by rw [HX1.out, HY1.out]; exact splice_join x y hxy
        have HSP := Lib.hid hsp
        have hs6 : (csA 6 (unG (joinG x y))).size = 17 := csA_size (by rw [unG_length, joinG_length x y hxy])
        have ho6 := csA_one 6 (unG (joinG x y))
        obtain ⟨cz, hcz⟩ : ∃ c, c = csA 6 (unG (joinG x y)) := ⟨_, rfl⟩
        rw [← hcz] at hs6 ho6 HJ
        have HCZ := Lib.hid hcz
        have hgz : (csG (joinG x y)).size = 8 := by simp [csG, joinG_length x y hxy]
        obtain ⟨cg, hcg⟩ : ∃ c, c = csG (joinG x y) := ⟨_, rfl⟩
        rw [← hcg] at HJ hgz
        have HCG := Lib.hid hcg
        have hw4 : Below (w.alloc (.cells (csA 0 z16) 37)).heap.size (w.alloc (.cells (csA 0 z16) 37)) w4 := by
          have h1 := B3.out.trans (HB4.out.mono B3.out.size)
          rwa [← csA_z] at h1
        have HW4 := Lib.hid hw4
        clear hsp hcz hcg hw4
        go_wp2_with (first
          | (refine wpList_copy_splice rfl _ _ 70 70 rfl 64 Tryz.underlying70 info53s _ _ y.length y.length y.length c4 rfl rfl w4.heap.size (8 - y.length) (splice (u16s z8) 0 X1) 65 S5.out Y1 hY1l (fun h => ⟨HDP.out (by rw [← hY1p]; exact h), S4.out h⟩) hY1n hY1o w4.heap.size w4 B6.out (Nat.le_refl _) ?_; intro w6 h6 b6; rw [HSP.out] at h6; have S6 := Lib.hid h6.out; have B7 := Lib.hid b6; clear h6 b6; refine Hid.out ?_))
        refine Lib.hid ?_
        have s6 : w6.heap[w4.heap.size]? = some (.cells cg 65 (0, 0)) := by rw [HCG.out]; exact S6.out
        have S7 := Lib.hid s6
        clear s6
        go_wp2_with (first
          | (refine wpList_load54 rfl _ rfl _ rfl _ _ S7.out hgz ?_)
          | (go_at_call 101; refine (HJ.out _).mono ?_; rintro e w7 ⟨rfl, hb7⟩; obtain ⟨d7, _, _⟩ := HFAIL.out w7 (by rw [← csA_z]; exact HW4.out.trans ((B7.out.trans (hb7.mono B7.out.size)).mono HW4.out.size)); have hb8 : Below w.heap.size w w7 := ((Below.refl _ _).alloc (Nat.le_refl _) _).trans ((HW4.out.trans ((B7.out.trans (hb7.mono B7.out.size)).mono HW4.out.size)).mono (by simp)); have K1 := Lib.hid (below_setRow hb8 (Nat.le_refl _) cz); have K2 := Lib.hid (rowAt_setRow d7 cz hs6); clear hb8 hb7)
          | (refine wpList_store24o rfl _ _ rfl _ rfl _ _ d7 rfl hs6 ho6 ?_))
        refine bodyPost_ret (v := .tuple #[.agg cz, .bool true]) ?_ rfl ⟨by rw [HCZ.out]; rfl, K1.out⟩
        exact result24t rfl _ _ _ _ _ rfl rfl K2.out
end Go.Proofs.YtoifolmcdkfniabGreatDoor
