/-
  Lists of ints; free, place, Find, All, New.
-/
import Derived.Test.YtemdgggpfadecaaF1
import Derived.Laws.ByValue
namespace Go.Proofs.Ytemdgggpfadecaa
open Go.ChangeShapes Go.WideShapes Go.ChangeAt Go.RowKit
set_option linter.unusedVariables false
set_option linter.unusedSimpArgs false
set_option maxRecDepth 100000

/-- A list of ints of its own. -/
def LI (w : World) (v : Value) (l : List Int) : Prop := w.ownsRow 0 3 1 v l.length (l.map (Value.int .i64))
theorem LI.away {S : List Nat} {w w' : World} {v : Value} {l : List Int} (h : LI w v l) (hw : Away S w w') (ha : ∀ k, v.ownBlock = some k → k ∉ S) : LI w' v l := Lv.away (e := 3) (sz := 1) h hw ha
theorem LI.on {w w' : World} {v : Value} {l : List Int} (h : LI w v l) (hw : Away [] w w') : LI w' v l := h.away hw (by simp)
theorem LI.nil (w : World) : LI w (.slice none 0 0) [] := World.ownsRow_nil _ _ _ _
theorem LI.lt {w : World} {v : Value} {l : List Int} (h : LI w v l) : ∀ k, v.ownBlock = some k → k < w.heap.size := fun k hk => (World.ownsRow.lt h k hk).2
theorem LI.shp {w : World} {v : Value} {l : List Int} (h : LI w v l) : (v = .slice none 0 0 ∧ l = []) ∨ ∃ g cap, v = .slice (some ⟨g, 0, none⟩) l.length cap ∧ l.length ≤ cap := by
  rcases h.2 with ⟨rfl, h2⟩ | ⟨g, cap, cur, rfl, hg, hh, hn, -⟩
  · exact .inl ⟨rfl, by simpa using h2⟩
  · exact .inr ⟨g, cap, rfl, hn⟩
theorem LI.sl {w : World} {v : Value} {l : List Int} (h : LI w v l) : ∃ a cap, v = .slice a l.length cap ∧ l.length ≤ cap ∧ ∀ (i : Nat) (x : Int), l[i]? = some x → ∃ g, a = some ⟨g, 0, none⟩ ∧ w.cell? ⟨g, i, none⟩ = some (.int .i64 x) := by
  rcases h.shp with ⟨rfl, rfl⟩ | ⟨g, cap, rfl, hc⟩
  · exact ⟨none, 0, rfl, by simp, by simp⟩
  · refine ⟨_, cap, rfl, hc, fun i x hx => ⟨g, rfl, ?_⟩⟩
    have hi : i < l.length := (List.getElem?_eq_some_iff.1 hx).1
    rw [World.ownsRow.cellAt h i (by simpa using hi)]
    simp [hx]
theorem infoI : (Try.prog.info? 3).map (fun i => (i.zero, i.size, i.bytes)) = some (some (.int .i64 0), 1, 8) := by kernel_rfl
theorem run_appI (ty : TypeId) (w : World) (v : Value) (l : List Int) (hown : LI w v l) (ad : Addr) (m cp : Nat) (M : List Int) (hM : M.length = m) (hc : ∀ (j : Nat) (x : Int), M[j]? = some x → w.cell? (ad.add j) = some (.int .i64 x)) (hk : l.length + m ≤ 17592186044416) :
    ∃ v' w', (Builtin.append_ #[37, 37] ty #[v, .slice (some ad) m cp]).run Try.prog w = .ok v' w' ∧ LI w' v' (l ++ M) ∧ w.grownBy w' v.ownBlock ∧ Moved w v v' := by
  obtain ⟨i0, hi, hz0, hz1, hz2⟩ := info_parts infoI
  obtain ⟨v', w', h1, h2, h3, h4⟩ := run_appN 37 ty 3 i0 _ 8 1 Try.underlying37 hi hz0 hz1 hz2 rfl (by decide) w v l.length (l.map (Value.int .i64)) hown ad m cp (M.map (Value.int .i64)) (by simp [hM]) (fun j u hj => by
    simp only [List.getElem?_map, Option.map_eq_some_iff] at hj
    obtain ⟨x, hx, rfl⟩ := hj
    exact hc j x hx) (fun u hu => by simp at hu; obtain ⟨x, -, rfl⟩ := hu; rfl) (by unfold maxLen; omega) (by omega)
  refine ⟨v', w', h1, ?_, h3, h4⟩
  unfold LI
  rw [List.length_append, List.map_append, hM]
  exact h2
theorem wpList_appI {w : World} {ops : Array Oper} {rest : List Oper} {o : Oper} {a : Act} {Q : Exit → Act → World → Prop} (hgd : o.guard = none) (s t : Operand)
    (ho : o.op = .call { callee := .builtin .append, args := #[s, t], argTypes := #[37, 37] }) (v : Value) (l : List Int) (hs : a.eval s = v) (hown : LI w v l)
    (ad : Addr) (m cp : Nat) (ht : a.eval t = .slice (some ad) m cp) (M : List Int) (hM : M.length = m) (hc : ∀ (j : Nat) (x : Int), M[j]? = some x → w.cell? (ad.add j) = some (.int .i64 x)) (hk : l.length + m ≤ 17592186044416)
    (h : ∀ v' w', LI w' v' (l ++ M) → w.grownBy w' v.ownBlock → Moved w v v' → wpList Try.prog ops Q rest (a.put o.dst v') w') : wpList Try.prog ops Q (o :: rest) a w := by
  obtain ⟨v', w', hrun, r1, r2, r3⟩ := run_appI o.type w v l hown ad m cp M hM hc hk
  refine wpList_plain hgd fun _ hK => ?_
  unfold Oper.wp
  simp [execOp, ho, resolve, invoke, builtin, hs, ht, hrun, Result.andThen]
  exact hK _ _ (h v' w' r1 r2 r3)

theorem anyOf_c (v : Int) (w : World) : Calls Try.prog 29 #[.int .i64 v] w fun E w' => E = .returned (.agg (csA v z16)) ∧ Away [] w w' := by
  go_enter Try.func29, Try.ntmps29
  go_wp2
  refine bodyPost_ret (v := .agg (csA v z16)) ?_ rfl ⟨rfl, (Away.refl _ _).alloc _⟩
  exact result24 rfl _ _ _ _ rfl (rowAt_new w (csA v z16) 32 rfl)
theorem four_c (d : Int) (w : World) : Calls Try.prog 10 #[.int .u8 d] w fun E w' => E = .returned (.agg (csA 4 [10, 0, 0, d, 0, 0, 0, 0, 0, 0, 0, 0, 0, 0, 0, 0])) ∧ Away [] w w' := by
  go_enter Try.func10, Try.ntmps10
  go_wp2
  refine bodyPost_ret (v := .agg (csA 4 [10, 0, 0, d, 0, 0, 0, 0, 0, 0, 0, 0, 0, 0, 0, 0])) ?_ rfl ⟨rfl, (Away.refl _ _).alloc _⟩
  exact result24 rfl _ _ _ _ rfl (rowAt_new w (csA 4 [10, 0, 0, d, 0, 0, 0, 0, 0, 0, 0, 0, 0, 0, 0, 0]) 32 rfl)
theorem mayBind_c (v : Int) (l : List Int) (hl : l.length = 16) (w : World) : Calls Try.prog 21 #[.agg (csA v l)] w fun E w' => E = .returned (.bool (mayP v l)) ∧ Away [] w w' := by
  have HL := Lib.hid hl
  clear hl
  go_enter Try.func21, Try.ntmps21
  go_wp2_with (refine wpList_box32 rfl _ rfl v l rfl ?_; refine Hid.out ?_)
  refine Lib.hid ?_
  intro g1 w1 hg hb haw
  have HA := Lib.hid haw
  have HB := Lib.hid hb
  clear hb haw hg
  go_wp2_with (refine wpList_load32 rfl _ rfl g1 rfl v l HL.out HB.out ?_)
  refine (kind_c v l HL.out _).mono ?_
  rintro E w2 ⟨rfl, hbl⟩
  replace HA := Lib.hid (HA.out.trans (Away.of_below hbl))
  clear hbl
  obtain ⟨k, hk⟩ : ∃ k, k = kindP v l := ⟨_, rfl⟩
  have HM : Hid (mayP v l = (decide (k = 1) || decide (k = 5))) := by rw [hk]; rfl
  rw [← hk]
  clear hk
  by_cases h1 : k = 1
  · have e1 : (k == 1) = true := by simpa using h1
    go_wp2_with fail
    go_ret
    exact ⟨by rw [HM.out, h1]; rfl, HA.out⟩
  · have e1 : (k == 1) = false := by simpa using h1
    go_wp2_with fail
    go_ret
    refine ⟨?_, HA.out⟩
    rw [HM.out]
    simp [h1, Bool.beq_eq_decide_eq]
open KB in
set_option maxHeartbeats 4000000 in
theorem find_c {w : World} {g : Nat} {v : Value} {t : Tb} (h : Tm w g v t) (av : Int) (al : List Int) (hl : al.length = 16) (p : Int) :
    Calls Try.prog 16 #[.pointer (some ⟨g, 0, none⟩), .agg (csA av al), .int .i64 p] w fun E w' => E = .returned (.int .i64 (findP t.bs av al p)) ∧ Away [] w w' := by
  have HL := Lib.hid hl
  have K1 : Hid (∀ W, Away [] w W → Calls Try.prog 22 #[.pointer (some ⟨g, 0, none⟩), .agg (csA av al), .int .i64 p] W fun E w' => E = .returned (.int .i64 (justP t.bs av al p)) ∧ Away [] W w') := fun W hW => just_c (h.on hW) av al hl p
  have K2 : Hid (∀ W, Away [] w W → Calls Try.prog 22 #[.pointer (some ⟨g, 0, none⟩), .agg (csA av z16), .int .i64 p] W fun E w' => E = .returned (.int .i64 (justP t.bs av z16 p)) ∧ Away [] W w') := fun W hW => just_c (h.on hW) av z16 rfl p
  obtain ⟨a1, h1⟩ : ∃ z, z = justP t.bs av al p := ⟨_, rfl⟩
  obtain ⟨a2, h2⟩ : ∃ z, z = justP t.bs av z16 p := ⟨_, rfl⟩
  have HF : Hid (findP t.bs av al p = if a1 = 0 then a2 else a1) := by show _ = _; rw [h1, h2]; rfl
  rw [← h1] at K1
  rw [← h2] at K2
  clear h h1 h2 hl
  go_enter Try.func16, Try.ntmps16
  go_wp2_with (refine wpList_box32 rfl _ rfl av al rfl ?_; refine Hid.out ?_)
  refine Lib.hid ?_
  intro g4 w1 hg hb haw
  have HA := Lib.hid haw
  have HB := Lib.hid hb
  clear hb haw hg
  go_wp2_with (refine wpList_load32 rfl _ rfl g4 rfl av al HL.out HB.out ?_)
  refine (K1.out _ HA.out).mono ?_
  rintro E w2 ⟨rfl, haw⟩
  replace HA := Lib.hid (HA.out.trans haw)
  replace HB := Lib.hid (HB.out.on haw (by simp))
  clear haw
  by_cases h0 : a1 = 0
  · have e0 : (a1 != 0) = false := by simp [h0]
    have cv := HB.out.v
    have HF2 : Hid (findP t.bs av al p = a2) := by show _ = _; rw [HF.out, if_pos h0]
    clear h0
    go_wp2_with fail
    refine (anyOf_c av _).mono ?_
    rintro E w3 ⟨rfl, haw⟩
    replace HA := Lib.hid (HA.out.trans haw)
    clear haw
    go_wp2_with fail
    refine (K2.out _ HA.out).mono ?_
    rintro E w4 ⟨rfl, haw⟩
    replace HA := Lib.hid (HA.out.trans haw)
    clear haw
    go_wp2_with fail
    go_ret
    exact ⟨ret_int HF2.out.symm, HA.out⟩
  · have e0 : (a1 != 0) = true := by simpa using h0
    have HF2 : Hid (findP t.bs av al p = a1) := by show _ = _; rw [HF.out, if_neg h0]
    go_wp2_with fail
    go_ret
    exact ⟨ret_int HF2.out.symm, HA.out⟩
open KB in
set_option maxHeartbeats 4000000 in
theorem free_c {w : World} {g : Nat} {v : Value} {t : Tb} (h : Tm w g v t) (av : Int) (al : List Int) (hl : al.length = 16) :
    Calls Try.prog 23 #[.pointer (some ⟨g, 0, none⟩), .agg (csA av al)] w fun E w' => E = .returned (.int .i64 (freeP t.bs av al)) ∧ Away [] w w' := by
  have HL := Lib.hid hl
  have K1 : Hid (∀ W p, Away [] w W → Calls Try.prog 22 #[.pointer (some ⟨g, 0, none⟩), .agg (csA av al), .int .i64 p] W fun E w' => E = .returned (.int .i64 (justP t.bs av al p)) ∧ Away [] W w') := fun W p hW => just_c (h.on hW) av al hl p
  have hfp := freeP_is h.wf av al
  have HFA : Hid (∀ k : Int, 49152 ≤ k → justP t.bs av al k = 0 → (∀ q, 49152 ≤ q → q < k → justP t.bs av al q ≠ 0) → freeP t.bs av al = k) := fun k h0 h1 h2 => freeP_at h.wf h0 h1 h2
  obtain ⟨f, hf⟩ : ∃ z, z = freeP t.bs av al := ⟨_, rfl⟩
  rw [← hf] at hfp HFA ⊢
  have HFP := Lib.hid hfp
  clear h hf hfp hl
  go_enter Try.func23, Try.ntmps23
  go_wp2_with (refine wpList_box32 rfl _ rfl av al rfl ?_; refine Hid.out ?_)
  refine Lib.hid ?_
  intro g3 w1 hg hb haw
  have HA := Lib.hid haw
  have HB := Lib.hid hb
  clear hb haw hg
  go_wp2_with fail
  go_loopw [5] (fun i wr => ∃ k : Int, i = .int .i64 k ∧ 49152 ≤ k ∧ k ≤ 65535 ∧ Away [] w wr ∧ BoxA wr g3 av al ∧ ∀ q, 49152 ≤ q → q < k → justP t.bs av al q ≠ 0) (fun i _ => (65536 - intOf i).toNat)
  case atStart => exact ⟨49152, rfl, by omega, by omega, HA.out, HB.out, fun q h1 h2 => by omega⟩
  case round =>
    clear HA HB
    obtain ⟨k, rfl, hk0, hk1, haw, hb, hno⟩ := hrel
    have HA := Lib.hid haw
    have HB := Lib.hid hb
    have HNO := Lib.hid hno
    clear haw hb hno
    have j1 : decide (k ≤ 65535) = true := by simpa using hk1
    go_wp2_with (refine wpList_load32 rfl _ rfl g3 rfl av al HL.out HB.out ?_)
    refine (K1.out _ k HA.out).mono ?_
    rintro E w2 ⟨rfl, haw⟩
    replace HA := Lib.hid (HA.out.trans haw)
    replace HB := Lib.hid (HB.out.on haw (by simp))
    clear haw
    obtain ⟨z, hz⟩ : ∃ z, z = justP t.bs av al k := ⟨_, rfl⟩
    rw [← hz]
    have HZ := Lib.hid hz
    clear hz
    by_cases h0 : z = 0
    · have e0 : (z == 0) = true := by simpa using h0
      have HF : Hid (f = k) := HFA.out k hk0 (by rw [← HZ.out]; exact h0) HNO.out
      clear h0
      go_wp2_with fail
      go_ret
      exact ⟨ret_int HF.out.symm, HA.out⟩
    · have e0 : (z == 0) = false := by simpa using h0
      have HZ0 : Hid (justP t.bs av al k ≠ 0) := by rw [← HZ.out]; exact h0
      have hkf : k < f := by
        obtain ⟨h1, h2, h3, h4⟩ := HFP.out
        rcases Int.lt_trichotomy k f with h5 | h5 | h5
        · exact h5
        · rw [← h5] at h3; exact absurd h3 HZ0.out
        · exact absurd h3 (HNO.out f h1 h5)
      have hf2 := HFP.out.2.1
      clear h0
      go_wp2_with fail
      go_roundw
      case rel => exact ⟨k + 1, by go_num, by omega, by omega, HA.out, HB.out, fun q h1 h2 => by
        by_cases hq : q = k
        · rw [hq]; exact HZ0.out
        · exact HNO.out q h1 (by omega)⟩
      case measure => simp [intOf]; omega
theorem cell_keep {w w' : World} {g : Nat} {i : Nat} {u : Value} (h : Away [] w w') (hc : w.cell? ⟨g, i, none⟩ = some u) : w'.cell? ⟨g, i, none⟩ = some u := h.cell (by simp) hc
open KB in
theorem isN_c (d : Bd) (hd : Okd d) (gc : Nat) (n : Int) (w : World) (hc : w.cell? ⟨gc, 0, none⟩ = some (.int .i64 n)) :
    Calls Try.prog 36 #[.agg (csD d), .pointer (some ⟨gc, 0, none⟩)] w fun E w' => E = .returned (.bool (isN n d)) ∧ Away [] w w' := by
  have HC := Lib.hid hc
  clear hc
  go_enter Try.func36, Try.ntmps36
  go_wp2_with (refine wpList_boxE rfl _ rfl d rfl ?_; refine Hid.out ?_)
  refine Lib.hid ?_
  intro g2 w1 hg hb haw
  have c0 := range_n hb.range
  have c1 := haw.cell (by simp) HC.out
  have HA := Lib.hid haw
  clear hb haw hg
  go_wp2_with fail
  go_ret
  exact ⟨rfl, HA.out⟩
/-- A place, or -1. -/
def plc : Option Nat → Int
  | some i => (i : Int)
  | none => -1
open KB in
set_option maxHeartbeats 4000000 in
theorem index_c {w : World} {v : Value} {bs : List Bd} (h : LstD w v bs) (hA : ∀ x ∈ bs, Okd x) (hl : bs.length ≤ 32) (gc : Nat) (n : Int) (hc : w.cell? ⟨gc, 0, none⟩ = some (.int .i64 n)) :
    Calls Try.prog 35 #[v, .func (.func 36) #[] #[.pointer (some ⟨gc, 0, none⟩)]] w fun E w' => E = .returned (.int .i64 (plc (idxP (isN n) bs))) ∧ Away [] w w' := by
  obtain ⟨la, lc, rfl, hat⟩ := h.shape hA
  have HAT := Lib.hid hat
  have HOK := Lib.hid hA
  have HC := Lib.hid hc
  obtain ⟨m, hm⟩ : ∃ n, n = bs.length := ⟨_, rfl⟩
  rw [← hm] at hl ⊢
  have HM := Lib.hid hm
  obtain ⟨ans, hans⟩ : ∃ z, z = plc (idxP (isN n) bs) := ⟨_, rfl⟩
  rw [← hans]
  have HJ := Lib.hid hans
  clear h hat hm hans hc hA
  go_enter Try.func35, Try.ntmps35
  go_wp2_with fail
  go_loopw [8] (fun i wr => ∃ k : Nat, i = .int .i64 (k : Int) ∧ k ≤ m ∧ Away [] w wr ∧ ∀ (j : Nat) (z : Bd), j < k → bs[j]? = some z → isN n z = false) (fun i _ => m - (intOf i).toNat)
  case atStart => exact ⟨0, rfl, Nat.zero_le _, Away.refl _ _, fun j z hj => by omega⟩
  case round =>
    obtain ⟨k, rfl, hk, haw, hno⟩ := hrel
    have HA1 := Lib.hid haw
    have HNO := Lib.hid hno
    clear haw hno
    by_cases hkn : k < m
    · have j1 : decide (k < m) = true := by simp; omega
      have j0 : (k : Int) < (m : Int) := by omega
      have j2 : 0 ≤ (k : Int) := by omega
      have j3 : ((k : Int)).toNat = k := by omega
      obtain ⟨y, hy, hym⟩ := get_of (show k < bs.length by rw [← HM.out]; omega)
      have HY := Lib.hid hy
      have HYO := Lib.hid (HOK.out y hym)
      obtain ⟨b, hb, hrg⟩ := HAT.out k y hy
      subst hb
      have HRG := Lib.hid (range_away HA1.out (by simp) hrg)
      clear hrg hy hym hkn
      go_wp2_with (refine wpList_loadE rfl _ rfl b (k * 19) rfl y HYO.out (by exact HRG.out) ?_)
      refine (isN_c y HYO.out gc n _ (HA1.out.cell (by simp) HC.out)).mono ?_
      rintro E w2 ⟨rfl, haw⟩
      replace HA1 := Lib.hid (HA1.out.trans haw)
      clear haw
      obtain ⟨q, hq⟩ : ∃ q, q = isN n y := ⟨_, rfl⟩
      rw [← hq]
      have HQ := Lib.hid hq
      clear hq
      cases q
      · go_wp2_with fail
        go_roundw
        case rel => exact ⟨k + 1, by go_num, by omega, HA1.out, fun j z hj hz => by
          rcases Nat.lt_or_ge j k with h1 | h1
          · exact HNO.out j z h1 hz
          · rw [show j = k from by omega, HY.out] at hz
            simp only [Option.some.injEq] at hz
            rw [← hz]; exact HQ.out.symm⟩
        case measure => simp [intOf]; omega
      · have HANS : Hid (ans = (k : Int)) := by
          show _ = _
          rw [HJ.out, idx_some HY.out HQ.out.symm HNO.out]; rfl
        go_wp2_with fail
        go_ret
        exact ⟨ret_int HANS.out.symm, HA1.out⟩
    · have j1 : decide (k < m) = false := by simp; omega
      have HANS : Hid (ans = -1) := by
        show _ = _
        rw [HJ.out, idx_none (fun j z hz => HNO.out j z (by have := (List.getElem?_eq_some_iff.1 hz).1; rw [← HM.out] at this; omega) hz)]; rfl
      clear hkn
      go_wp2_with fail
      go_ret
      exact ⟨ret_int HANS.out.symm, HA1.out⟩
open KB in
set_option maxHeartbeats 4000000 in
theorem place_c {w : World} {g : Nat} {v : Value} {t : Tb} (h : Tm w g v t) (n : Int) :
    Calls Try.prog 24 #[.pointer (some ⟨g, 0, none⟩), .int .i64 n] w fun E w' => E = .returned (.int .i64 (plc (idxP (isN n) t.bs))) ∧ Away [] w w' := by
  have H := Lib.hid h
  obtain ⟨la, lc, rfl, -⟩ := h.shape
  have haw : Away [] w (w.alloc (.cells #[.int .i64 n] 3)) := (Away.refl _ _).alloc _
  have HA := Lib.hid haw
  have HN : Hid ((w.alloc (.cells #[.int .i64 n] 3)).cell? ⟨w.heap.size, 0, none⟩ = some (.int .i64 n)) := by rw [cell_of_block (block_new _ _)]; rfl
  have c2 := haw.cell (by simp) h.c2
  have hmf : ∀ (fn : Fn) (first cap : Array Value) (w : World), (Instr.makeFunc fn first cap).run Try.prog w = .ok (.func fn first cap) w := fun _ _ _ _ => rfl
  clear h haw
  go_enter Try.func24, Try.ntmps24
  go_wp2_with fail
  refine (index_c (H.out.lst.on HA.out) H.out.wf.okd H.out.wf.le _ n HN.out).mono ?_
  rintro E w2 ⟨rfl, haw⟩
  replace HA := Lib.hid (HA.out.trans haw)
  clear haw
  go_wp2_with fail
  go_ret
  exact ⟨rfl, HA.out⟩
open KB in
set_option maxHeartbeats 4000000 in
theorem all_c {w : World} {g : Nat} {v : Value} {t : Tb} (h : Tm w g v t) :
    Calls Try.prog 12 #[.pointer (some ⟨g, 0, none⟩)] w fun E w' => ∃ r, E = .returned r ∧ LI w' r (t.bs.map (·.n)) ∧ New w.heap.size r ∧ Away [] w w' := by
  have H := Lib.hid h
  obtain ⟨la, lc, rfl, hat⟩ := h.shape
  have HAT := Lib.hid hat
  obtain ⟨n, hn⟩ : ∃ n, n = t.bs.length := ⟨_, rfl⟩
  have hn32 : n ≤ 32 := by have := h.wf.le; omega
  have HOK := Lib.hid h.wf.okd
  have c2 := h.c2
  rw [← hn] at H c2
  have HN := Lib.hid hn
  clear h hat hn
  go_enter Try.func12, Try.ntmps12
  go_wp2_with fail
  clear c2
  go_loopw [3, 11] (fun r i wr => ∃ k : Nat, i = .int .i64 (k : Int) ∧ k ≤ n ∧ Away [] w wr ∧ LI wr r ((t.bs.take k).map (·.n)) ∧ New w.heap.size r) (fun _ i _ => n - (intOf i).toNat)
  case atStart => exact ⟨0, rfl, Nat.zero_le _, Away.refl _ _, LI.nil _, New.nil _⟩
  case round =>
    obtain ⟨k, rfl, hk, haw, hli, hnw⟩ := hrel
    have HA1 := Lib.hid haw
    have HLI := Lib.hid hli
    have HNW := Lib.hid hnw
    clear haw hli hnw
    by_cases hkn : k < n
    · have j1 : decide (k < n) = true := by simp; omega
      have j0 : (k : Int) < (n : Int) := by omega
      have j2 : 0 ≤ (k : Int) := by omega
      have j3 : ((k : Int)).toNat = k := by omega
      obtain ⟨y, hy, hym⟩ := get_of (show k < t.bs.length by rw [← HN.out]; omega)
      have HTK : Hid ((t.bs.take (k + 1)).map (·.n) = (t.bs.take k).map (·.n) ++ [y.n]) := by
        show _ = _
        rw [List.take_add_one, hy]; simp
      have HYO := Lib.hid (HOK.out y hym)
      obtain ⟨b, hb, hrg⟩ := HAT.out k y hy
      subst hb
      have HRG := Lib.hid (range_away HA1.out (by simp) hrg)
      have hlen : ((t.bs.take k).map (·.n)).length = k := by rw [List.length_map, List.length_take, ← HN.out]; omega
      clear hrg hy hym hkn
      go_wp2_with (first
        | (refine wpList_loadE rfl _ rfl b (k * 19) rfl y HYO.out (by exact HRG.out) ?_)
        | (refine wpList_allocE rfl rfl ?_; refine Hid.out ?_))
      refine Lib.hid ?_
      intro g5 w2 hg5 hbx haw
      have hs1 := HA1.out.size
      have HBX := Lib.hid hbx
      replace HA1 := Lib.hid (HA1.out.trans haw)
      have hlt := HLI.out.lt
      have HLN : Hid (∀ x, u3.ownBlock = some x → x ≠ g5) := fun x hx => by have := hlt x hx; omega
      replace HLI := Lib.hid (HLI.out.on haw)
      clear haw hbx hlt
      go_wp2_with (refine wpList_storeE rfl _ _ rfl g5 rfl y zeroD HYO.out zeroD_ok rfl HBX.out ?_; refine Hid.out ?_)
      refine Lib.hid ?_
      intro w3 hbx haw
      have c0 := range_n hbx.range
      replace HLI := Lib.hid (HLI.out.away haw (fun x hx => by simp; exact HLN.out x hx))
      have HA2 : Hid (Away [] w w3) := HA1.out.next haw (fun x hx => .inr (by simp at hx; subst hx; omega))
      clear haw hbx HA1 hg5 HBX HLN
      have hac := (Away.refl [] w3).alloc (.cells #[.int .i64 y.n] 3)
      replace HLI := Lib.hid (HLI.out.on hac)
      have HNC : Hid (∀ (j : Nat) (x : Int), [y.n][j]? = some x → (w3.alloc (.cells #[.int .i64 y.n] 3)).cell? ((⟨w3.heap.size, 0, none⟩ : Addr).add j) = some (.int .i64 x)) := fun j x hj => by
        rw [new_cells]
        rcases j with _ | j
        · simp at hj; simp [hj]
        · simp at hj
      have hs3 := HA2.out.size
      replace HA2 := Lib.hid (HA2.out.trans hac)
      clear hac
      go_wp2_with (at_builtin; refine wpList_appI rfl _ _ rfl u3 _ rfl (by exact HLI.out) ⟨w3.heap.size, 0, none⟩ 1 1 rfl [y.n] rfl (by exact HNC.out) (by rw [hlen]; omega) ?_; refine Hid.out ?_)
      refine Lib.hid ?_
      intro v' w4 hl hgr hmv
      have HA3 := Lib.hid (HA2.out.step hgr HNW.out)
      have HNW2 : Hid (New w.heap.size v') := HNW.out.moved hmv HA2.out.size
      have hl : LI w4 v' ((t.bs.take (k + 1)).map (·.n)) := by rw [HTK.out, List.map_take]; exact hl
      have HL := Lib.hid hl
      clear hl hgr hmv HA2 HNW HLI HNC
      go_wp2_with fail
      go_roundw
      case rel => exact ⟨k + 1, by go_num, by omega, HA3.out, HL.out, HNW2.out⟩
      case measure => simp [intOf]; omega
    · have j1 : decide (k < n) = false := by simp; omega
      have hkk : k = t.bs.length := by rw [← HN.out]; omega
      rw [hkk, List.take_length] at HLI
      clear hkn hkk
      go_wp2_with fail
      go_ret
      exact ⟨_, rfl, HLI.out, HNW.out, HA1.out⟩
def NewOut (w : World) (n : Int) (E : Ending) (w' : World) : Prop :=
  ((n < 1 ∨ 32 < n) ∧ E = .returned (.tuple #[.pointer none, .int .i64 1]) ∧ Away [] w w') ∨
  ((1 ≤ n ∧ n ≤ 32) ∧ ∃ g, E = .returned (.tuple #[.pointer (some ⟨g, 0, none⟩), .int .i64 0]) ∧ w.heap.size ≤ g ∧ KB.Tm w' g (.slice none 0 0) ⟨n, 0, []⟩ ∧ Away [] w w')
theorem new_c (n : Int) (w : World) : Calls Try.prog 8 #[.int .i64 n] w (NewOut w n) := by
  have hbx := block_new w (.cells #[.int .i64 n, .int .i64 0, .slice none 0 0] 61)
  have haw0 : Away [] w (w.alloc (.cells #[.int .i64 n, .int .i64 0, .slice none 0 0] 61)) := (Away.refl _ _).alloc _
  have HBX := Lib.hid hbx
  have HAW := Lib.hid haw0
  clear hbx haw0
  by_cases h0 : n < 1
  · have e0 : decide (n < 1) = true := by simpa using h0
    go_enter Try.func8, Try.ntmps8
    go_wp2_with fail
    go_ret2
    exact .inl ⟨.inl h0, rfl, Away.refl _ _⟩
  · have e0 : decide (n < 1) = false := by simpa using h0
    by_cases h1 : 32 < n
    · have e1 : decide (32 < n) = true := by simpa using h1
      go_enter Try.func8, Try.ntmps8
      go_wp2_with fail
      go_ret2
      exact .inl ⟨.inr h1, rfl, Away.refl _ _⟩
    · have e1 : decide (32 < n) = false := by simpa using h1
      go_enter Try.func8, Try.ntmps8
      go_wp2_with fail
      go_ret2
      exact .inr ⟨⟨by omega, by omega⟩, _, rfl, Nat.le_refl _, ⟨HBX.out, KB.LstD.nil _, by simp [Value.ownBlock], WfT.new (by omega) (by omega)⟩, HAW.out⟩
end Go.Proofs.Ytemdgggpfadecaa
