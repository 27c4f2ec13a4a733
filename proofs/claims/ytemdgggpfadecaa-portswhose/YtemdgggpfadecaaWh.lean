/-
  The law's book.
-/
import Derived.Test.YtemdgggpfadecaaRc
namespace Go.Proofs.Ytemdgggpfadecaa
open Go.ChangeShapes Go.WideShapes Go.ChangeAt Go.RowKit
set_option linter.unusedVariables false
set_option linter.unusedSimpArgs false
set_option maxRecDepth 100000

namespace KO
/-- The cells behind a key that goes. -/
theorem flat_split (ks : List Bd) (i : Nat) : ks.flatMap listD = (ks.take i).flatMap listD ++ (ks.drop i).flatMap listD := by
  rw [← List.flatMap_append, List.take_append_drop]
theorem flat_take {ks : List Bd} (hA : ∀ x ∈ ks, Okd x) {i : Nat} (hi : i ≤ ks.length) : (ks.flatMap listD).take (i * 19) = (ks.take i).flatMap listD := by
  have hl : ((ks.take i).flatMap listD).length = i * 19 := by rw [flatD_len _ (fun x hx => hA x (List.mem_of_mem_take hx)), List.length_take]; rw [Nat.min_eq_left hi]
  rw [flat_split ks i, List.take_append_of_le_length (by omega), List.take_of_length_le (by omega)]
theorem flat_drop {ks : List Bd} (hA : ∀ x ∈ ks, Okd x) {i : Nat} (hi : i ≤ ks.length) : (ks.flatMap listD).drop (i * 19) = (ks.drop i).flatMap listD := by
  have hl : ((ks.take i).flatMap listD).length = i * 19 := by rw [flatD_len _ (fun x hx => hA x (List.mem_of_mem_take hx)), List.length_take]; rw [Nat.min_eq_left hi]
  rw [flat_split ks i, List.drop_append, List.drop_of_length_le (by omega), hl, Nat.sub_self]; simp
theorem erase_flat (ks : List Bd) (i : Nat) : (ks.eraseIdx i).flatMap listD = (ks.take i).flatMap listD ++ (ks.drop (i + 1)).flatMap listD := by
  rw [List.eraseIdx_eq_take_drop_succ, List.flatMap_append]
theorem step_appB {ops : Array Oper} {o : Oper} {a : Act} {w : World} {K : Act → World → Prop} {Q : Exit → Act → World → Prop} {E : Prop} (hg : o.guard = none) (s x : Operand) (ho : o.op = .call { callee := .builtin .append, args := #[s, x], argTypes := #[41, 41] })
    (g cap i m c : Nat) (cur xs : List Value) (ad : Addr) (hs : a.eval s = .slice (some ⟨g, 0, none⟩) i cap) (hx : a.eval x = .slice (some ad) m c) (hb : Blk w g cap cur) (hr : i + m ≤ cap) (hl : xs.length = m * 19) (hsr : ∀ j u, xs[j]? = some u → w.cell? (ad.add j) = some u) (h1 : ∀ u ∈ xs, u.oneCell' = true)
    (h : ∀ w', Blk w' g cap (over cur i xs) → Away [g] w w' → K (a.put o.dst (.slice (some ⟨g, 0, none⟩) (i + m) cap)) w') : if Region.wanted o (yielded ops a.tmps) = true then Oper.wp Try.prog o a w K Q else E := by
  have hw : Region.wanted o (yielded ops a.tmps) = true := by simp [Region.wanted, hg]
  rw [if_pos hw]
  obtain ⟨w', hrun, r1, r2⟩ := run_appB w o.type g cap i m c cur xs ad hb hr hl hsr h1
  unfold Oper.wp
  simp [execOp, ho, resolve, invoke, builtin, hs, hx, hrun, Result.andThen]
  exact h w' r1 r2
theorem run_del (ty : TypeId) (w : World) (g cap i m : Nat) (ks : List Bd) (h : LstD w (.slice (some ⟨g, 0, none⟩) ks.length cap) ks) (hA : ∀ x ∈ ks, Okd x) (hn : ks.length = i + 1 + m) (D : Option Addr) (hD : D = fromA g cap (i + 1)) (c : Nat) :
    ∃ w', (Builtin.append_ #[41, 41] ty #[.slice (some ⟨g, 0, none⟩) i cap, .slice D m c]).run Try.prog w = .ok (.slice (some ⟨g, 0, none⟩) (i + m) cap) w' ∧ LstD w' (.slice (some ⟨g, 0, none⟩) (i + m) cap) (ks.eraseIdx i) ∧ Away [g] w w' := by
  obtain ⟨cur, hb, hcm, hnc, htk, -⟩ := h.blk
  rw [hn] at hnc htk
  have hl : ((ks.drop (i + 1)).flatMap listD).length = m * 19 := by rw [flatD_len _ (fun x hx => hA x (List.mem_of_mem_drop hx)), List.length_drop, hn, show i + 1 + m - (i + 1) = m from by omega]
  obtain ⟨ad, had, had2⟩ : ∃ ad, D = some ad ∧ (m = 0 ∨ ad = ⟨g, (i + 1) * 19, none⟩) := by
    rw [hD]
    unfold fromA
    split
    · exact ⟨_, rfl, .inl (by omega)⟩
    · exact ⟨_, rfl, .inr rfl⟩
  subst had
  obtain ⟨w', hrun, r1, r2⟩ := run_appB w ty g cap i m c cur ((ks.drop (i + 1)).flatMap listD) ad hb (by omega) hl (fun k u hk => by
    have hk' : k < m * 19 := by have := (List.getElem?_eq_some_iff.1 hk).1; rw [hl] at this; exact this
    rcases had2 with h0 | h0
    · omega
    · rw [h0, add_plain, hb.cell]
      rw [← flat_drop hA (by rw [hn]; omega), ← htk, List.getElem?_drop, List.getElem?_take] at hk
      rw [if_pos (by omega)] at hk
      exact hk) (flatD_one _ (fun x hx => hA x (List.mem_of_mem_drop hx)))
  refine ⟨w', hrun, r1.lst (fun x hx => hA x (List.mem_of_mem_eraseIdx hx)) hcm (by rw [List.length_eraseIdx, if_pos (by omega), hn]; omega) (by omega) ?_, r2⟩
  have h1 : cur.take (i * 19) = (ks.take i).flatMap listD := by
    rw [← flat_take hA (by omega), ← htk, List.take_take]; congr 1; omega
  have h2 : ((ks.take i).flatMap listD).length = i * 19 := by rw [← h1, List.length_take]; have := hb.2; omega
  rw [erase_flat]
  unfold over
  rw [h1, List.append_assoc, ← List.append_assoc, List.take_append_of_le_length (by rw [List.length_append, h2, hl]; omega), List.take_of_length_le (by rw [List.length_append, h2, hl]; omega)]
theorem step_del {ops : Array Oper} {o : Oper} {a : Act} {w : World} {K : Act → World → Prop} {Q : Exit → Act → World → Prop} {E : Prop} (hg : o.guard = none) (s x : Operand) (ho : o.op = .call { callee := .builtin .append, args := #[s, x], argTypes := #[41, 41] })
    (g cap i m n : Nat) (ks : List Bd) (h : LstD w (.slice (some ⟨g, 0, none⟩) n cap) ks) (hnn : n = ks.length) (hA : ∀ x ∈ ks, Okd x) (hn : n = i + 1 + m) (D : Option Addr) (hD : D = fromA g cap (i + 1)) (c : Nat) (hs : a.eval s = .slice (some ⟨g, 0, none⟩) i cap) (hx : a.eval x = .slice D m c)
    (hK : ∀ w', LstD w' (.slice (some ⟨g, 0, none⟩) (i + m) cap) (ks.eraseIdx i) → Away [g] w w' → K (a.put o.dst (.slice (some ⟨g, 0, none⟩) (i + m) cap)) w') : if Region.wanted o (yielded ops a.tmps) = true then Oper.wp Try.prog o a w K Q else E := by
  have hw : Region.wanted o (yielded ops a.tmps) = true := by simp [Region.wanted, hg]
  rw [if_pos hw]
  subst hnn
  obtain ⟨w', hrun, r1, r2⟩ := run_del o.type w g cap i m ks h hA hn D hD c
  unfold Oper.wp
  simp [execOp, ho, resolve, invoke, builtin, hs, hx, hrun, Result.andThen]
  exact hK w' r1 r2
theorem yields_ixE {ops : Array Oper} {S : World → Prop} {op : Oper} {a : Act} (hw : Region.wanted op (yielded ops a.tmps) = true) (x ix : Operand) (ho : op.op = .indexAddr 41 x ix) (gb n cap i : Nat) (hx : a.eval x = .slice (some ⟨gb, 0, none⟩) n cap) (hix : a.eval ix = .int .i64 (i : Int)) (hi : i < n) : YieldsIf Try.prog ops S op (.pointer (some ⟨gb, i * 19, none⟩)) a :=
  .inl ⟨hw, fun w hw' => by
    have he : Try.prog.elem 41 = 45 := by kernel_rfl
    have hsz : (sizeOf 45).run Try.prog w = .ok 19 w := by kernel_rfl
    unfold execOp
    simp only [ho, hx, hix, Sem.run_bind]
    rw [run_indexAt_slice w 41 ⟨gb, 0, none⟩ n cap .i64 (i : Int) underK, he, if_pos ⟨by omega, by omega⟩, hsz]
    simp only [Result.andThen, add_plain, Int.toNat_natCast, Nat.zero_add]
    rfl⟩
end KO
/-- The book, whose block is k's. -/
def Bk (o : Nat → Nat) (k : Nat) (w : World) (v : Value) (bs : List Bd) : Prop := KO.LstD w v bs ∧ ∀ x, v.ownBlock = some x → o x = k
theorem Bk.on {o : Nat → Nat} {k : Nat} {w w' : World} {v : Value} {l : List Bd} (h : Bk o k w v l) (hw : Away [] w w') : Bk o k w' v l := ⟨h.1.on hw, h.2⟩
theorem Bk.kp {o : Nat → Nat} {j k : Nat} {w w' : World} {v : Value} {l : List Bd} (h : Bk o j w v l) (hc : Chg o k w w') (hj : j ≠ k) : Bk o j w' v l := by
  obtain ⟨S, ha, hS⟩ := hc
  exact ⟨h.1.away ha (fun x hx hm => hj (by rw [← h.2 x hx]; exact hS x hm)), h.2⟩
theorem Bk.keep {o : Nat → Nat} {j k : Nat} {w w' : World} {v : Value} {l : List Bd} (h : Bk o j w v l) (hc : Chg o k w w') (hj : j ≠ k) : Bk (give o w k) j w' v l := by
  obtain ⟨S, ha, hS⟩ := hc
  exact ⟨h.1.away ha (fun x hx hm => hj (by rw [← h.2 x hx]; exact hS x hm)), fun x hx => by rw [give_old (h.1.lt x hx)]; exact h.2 x hx⟩
theorem Bk.give {o : Nat → Nat} {k : Nat} {w w' : World} {v : Value} {l : List Bd} (h : Bk o k w v l) (j : Nat) (ha : Away [] w w') : Bk (Ytemdgggpfadecaa.give o w j) k w' v l := ⟨h.1.on ha, fun x hx => by rw [give_old (h.1.lt x hx)]; exact h.2 x hx⟩
theorem Bk.app {o : Nat → Nat} {k : Nat} {w w' : World} {v v' : Value} {l l' : List Bd} (h : Bk o k w v l) (hl : KO.LstD w' v' l') (hg : w.grownBy w' v.ownBlock) (hm : Moved w v v') : Bk (Ytemdgggpfadecaa.give o w k) k w' v' l' ∧ Chg o k w w' := by
  refine ⟨⟨hl, fun x hx => ?_⟩, v.ownBlock.toList, Away.grow hg, fun s hs => h.2 s (by simpa using hs)⟩
  rcases hm x hx with h1 | h1
  · rw [give_old (h.1.lt x h1)]; exact h.2 x h1
  · exact give_new h1
set_option maxHeartbeats 8000000 in
theorem ljust_c {w : World} {v : Value} {bs : List Bd} (h : KO.LstD w v bs) (hA : ∀ x ∈ bs, Okd x) (hle : bs.length ≤ 32) (av : Int) (al : List Int) (hl : al.length = 16) (p : Int) :
    Calls Try.prog 15 #[v, .agg (csA av al), .int .i64 p] w fun E w' => E = .returned (.int .i64 (justP bs av al p)) ∧ Away [] w w' := by
  have HL := Lib.hid hl
  obtain ⟨la, lc, rfl, hat⟩ := h.shape hA
  have HAT := Lib.hid hat
  obtain ⟨n, hn⟩ : ∃ n, n = bs.length := ⟨_, rfl⟩
  rw [← hn] at hle ⊢
  have HOK := Lib.hid hA
  have HN := Lib.hid hn
  obtain ⟨ans, hans⟩ : ∃ z, z = justP bs av al p := ⟨_, rfl⟩
  rw [← hans]
  have HJ := Lib.hid hans
  clear h hat hn hans hl hA
  go_enter Try.func15, Try.ntmps15
  go_wp2_with (refine wpList_box32 rfl _ rfl av al rfl ?_; refine Hid.out ?_)
  refine Lib.hid ?_
  intro g4 w1 hg4 hb haw
  have HA := Lib.hid haw
  have HB := Lib.hid hb
  clear hg4 hb haw
  go_wp2_with fail
  go_loopw [7] (fun i wr => ∃ k : Nat, i = .int .i64 (k : Int) ∧ k ≤ n ∧ Away [] w1 wr ∧ ∀ (j : Nat) (z : Bd), j < k → bs[j]? = some z → hit av al p z = false) (fun i _ => n - (intOf i).toNat)
  case atStart => exact ⟨0, rfl, Nat.zero_le _, Away.refl _ _, fun j z hj => by omega⟩
  case round =>
    obtain ⟨k, rfl, hk, haw, hno⟩ := hrel
    have HA1 := Lib.hid haw
    have HNO := Lib.hid hno
    clear haw hno
    by_cases hkn : k < n
    · have j1 : decide (k < n) = true := by simp; omega
      have j0 : (k : Int) < (n : Int) := by omega
      have j2 : 0 ≤ (k : Int) := by omega
      have j3 : ((k : Int)).toNat = k := by omega
      obtain ⟨y, hy, hym⟩ := get_of (show k < bs.length by rw [← HN.out]; omega)
      have HY := Lib.hid hy
      have HYO := Lib.hid (HOK.out y hym)
      obtain ⟨b, hb, hrg⟩ := HAT.out k y hy
      subst hb
      have HRG := Lib.hid (range_away (HA.out.trans HA1.out) (by simp) hrg)
      have HB2 := Lib.hid (HB.out.on HA1.out (by simp))
      clear hrg hy hym hkn
      obtain ⟨q, hq⟩ : ∃ q, q = (decide (y.v = av) && eqL y.l al) := ⟨_, rfl⟩
      have hqe := fun w => eq32 y.v av y.l al HYO.out HL.out w
      rw [← hq] at hqe
      have HQ := Lib.hid hq
      clear hq
      have hgd := guard24
      cases q
      · have HH : Hid (hit av al p y = false) := by show _ = _; unfold hit; rw [← HQ.out]; rfl
        go_upto_region 4 with fail
        refine wp_region_held_drew (S := (fun w' => w'.rangeAt b (k * 19) (listD y) ∧ BoxA w' g4 av al)) (by kernel_rfl) ⟨by exact HRG.out, by exact HB2.out⟩ (fun hHeld => ?_)
        replace HA1 := Lib.hid (HA1.out.drew)
        refine wpAnyH_take (i := 0) (v := ?_) (by simp only [List.getElem?_toArray, List.getElem?_cons_zero]; rfl) (by kernel_rfl) (by kernel_rfl) (by kernel_rfl) (by exact fun _ _ _ h => h) (Or.inl ⟨by rfl, ?_⟩) (by assumption) ?_
        rotate_left
        · intro wq hSw
          (try dsimp only at hSw)
          go_simp
          all_goals (with_reducible rfl)
        try simp only [Act.put, List.setIfInBounds_toArray, List.set_cons_zero, List.set_cons_succ]
        refine wpAnyH_take (i := 1) (v := ?_) (by simp only [List.getElem?_toArray, List.getElem?_cons_succ, List.getElem?_cons_zero]; rfl) (by kernel_rfl) (by kernel_rfl) (by kernel_rfl) (by exact fun _ _ _ h => h) (Or.inl ⟨by rfl, ?_⟩) (by assumption) ?_
        rotate_left
        · intro wq hSw
          (try dsimp only at hSw)
          go_simp
          all_goals (with_reducible rfl)
        try simp only [Act.put, List.setIfInBounds_toArray, List.set_cons_zero, List.set_cons_succ]
        refine wpAnyH_take (i := 2) (by simp only [List.getElem?_toArray, List.getElem?_cons_succ, List.getElem?_cons_zero]; rfl) (by kernel_rfl) (by kernel_rfl) (by kernel_rfl) (by exact fun _ _ _ h => h) (KO.yields_ixE (by rfl) _ _ rfl b n lc k rfl rfl (by omega)) (by assumption) ?_
        try simp only [Act.put, List.setIfInBounds_toArray, List.set_cons_zero, List.set_cons_succ]
        refine wpAnyH_take (i := 3) (v := ?_) (by simp only [List.getElem?_toArray, List.getElem?_cons_succ, List.getElem?_cons_zero]; rfl) (by kernel_rfl) (by kernel_rfl) (by kernel_rfl) (by exact fun _ _ _ h => h) (Or.inl ⟨by rfl, ?_⟩) (by assumption) ?_
        rotate_left
        · intro wq hSw
          (try dsimp only at hSw)
          go_simp
          all_goals (with_reducible rfl)
        try simp only [Act.put, List.setIfInBounds_toArray, List.set_cons_zero, List.set_cons_succ]
        refine wpAnyH_take (i := 4) (by simp only [List.getElem?_toArray, List.getElem?_cons_succ, List.getElem?_cons_zero]; rfl) (by kernel_rfl) (by kernel_rfl) (by kernel_rfl) (by exact fun _ _ _ h => h) (yields_ld (ad := ⟨b, k * 19 + 1, none⟩) (by rfl) _ rfl rfl (fun w' h => load32m_run (range_a h.1 HYO.out) HYO.out)) (by assumption) ?_
        try simp only [Act.put, List.setIfInBounds_toArray, List.set_cons_zero, List.set_cons_succ]
        refine wpAnyH_take (i := 5) (by simp only [List.getElem?_toArray, List.getElem?_cons_succ, List.getElem?_cons_zero]; rfl) (by kernel_rfl) (by kernel_rfl) (by kernel_rfl) (by exact fun _ _ _ h => h) (yields_ld (ad := ⟨g4, 0, none⟩) (by rfl) _ rfl rfl (fun w' h => load32m_run h.2.range HL.out)) (by assumption) ?_
        try simp only [Act.put, List.setIfInBounds_toArray, List.set_cons_zero, List.set_cons_succ]
        refine wpAnyH_take (i := 6) (v := ?_) (by simp only [List.getElem?_toArray, List.getElem?_cons_succ, List.getElem?_cons_zero]; rfl) (by kernel_rfl) (by kernel_rfl) (by kernel_rfl) (by exact fun _ _ _ h => h) (Or.inl ⟨by rfl, ?_⟩) (by assumption) ?_
        rotate_left
        · intro wq hSw
          (try dsimp only at hSw)
          go_simp
          all_goals (with_reducible rfl)
        try simp only [Act.put, List.setIfInBounds_toArray, List.set_cons_zero, List.set_cons_succ]
        refine wpAnyH_take (i := 7) (v := ?_) (by simp only [List.getElem?_toArray, List.getElem?_cons_succ, List.getElem?_cons_zero]; rfl) (by kernel_rfl) (by kernel_rfl) (by kernel_rfl) (by exact fun _ _ _ h => h) (Or.inl ⟨by rfl, ?_⟩) (by assumption) ?_
        rotate_left
        · intro wq hSw
          (try dsimp only at hSw)
          go_simp
          all_goals (with_reducible rfl)
        try simp only [Act.put, List.setIfInBounds_toArray, List.set_cons_zero, List.set_cons_succ]
        refine wpAnyH_take (i := 8) (v := undef) (by simp only [List.getElem?_toArray, List.getElem?_cons_succ, List.getElem?_cons_zero]; rfl) (by kernel_rfl) (by kernel_rfl) (by kernel_rfl) (by exact fun _ _ _ h => h) (Or.inr ⟨by rfl, rfl⟩) (by assumption) ?_
        try simp only [Act.put, List.setIfInBounds_toArray, List.set_cons_zero, List.set_cons_succ]
        refine wpAnyH_take (i := 9) (v := undef) (by simp only [List.getElem?_toArray, List.getElem?_cons_succ, List.getElem?_cons_zero]; rfl) (by kernel_rfl) (by kernel_rfl) (by kernel_rfl) (by exact fun _ _ _ h => h) (Or.inr ⟨by rfl, rfl⟩) (by assumption) ?_
        try simp only [Act.put, List.setIfInBounds_toArray, List.set_cons_zero, List.set_cons_succ]
        refine wpAnyH_take (i := 10) (v := undef) (by simp only [List.getElem?_toArray, List.getElem?_cons_succ, List.getElem?_cons_zero]; rfl) (by kernel_rfl) (by kernel_rfl) (by kernel_rfl) (by exact fun _ _ _ h => h) (Or.inr ⟨by rfl, rfl⟩) (by assumption) ?_
        try simp only [Act.put, List.setIfInBounds_toArray, List.set_cons_zero, List.set_cons_succ]
        refine wpAnyH_take (i := 11) (v := undef) (by simp only [List.getElem?_toArray, List.getElem?_cons_succ, List.getElem?_cons_zero]; rfl) (by kernel_rfl) (by kernel_rfl) (by kernel_rfl) (by exact fun _ _ _ h => h) (Or.inr ⟨by rfl, rfl⟩) (by assumption) ?_
        try simp only [Act.put, List.setIfInBounds_toArray, List.set_cons_zero, List.set_cons_succ]
        refine wpAnyH_take (i := 12) (v := undef) (by simp only [List.getElem?_toArray, List.getElem?_cons_succ, List.getElem?_cons_zero]; rfl) (by kernel_rfl) (by kernel_rfl) (by kernel_rfl) (by exact fun _ _ _ h => h) (Or.inr ⟨by rfl, rfl⟩) (by assumption) ?_
        try simp only [Act.put, List.setIfInBounds_toArray, List.set_cons_zero, List.set_cons_succ]
        refine wpAnyH_take (i := 13) (v := undef) (by simp only [List.getElem?_toArray, List.getElem?_cons_succ, List.getElem?_cons_zero]; rfl) (by kernel_rfl) (by kernel_rfl) (by kernel_rfl) (by exact fun _ _ _ h => h) (Or.inr ⟨by rfl, rfl⟩) (by assumption) ?_
        try simp only [Act.put, List.setIfInBounds_toArray, List.set_cons_zero, List.set_cons_succ]
        refine wpAnyH_take (i := 14) (v := undef) (by simp only [List.getElem?_toArray, List.getElem?_cons_succ, List.getElem?_cons_zero]; rfl) (by kernel_rfl) (by kernel_rfl) (by kernel_rfl) (by exact fun _ _ _ h => h) (Or.inr ⟨by rfl, rfl⟩) (by assumption) ?_
        try simp only [Act.put, List.setIfInBounds_toArray, List.set_cons_zero, List.set_cons_succ]
        refine wpAnyH_take (i := 15) (v := ?_) (by simp only [List.getElem?_toArray, List.getElem?_cons_succ, List.getElem?_cons_zero]; rfl) (by kernel_rfl) (by kernel_rfl) (by kernel_rfl) (by exact fun _ _ _ h => h) (Or.inl ⟨by rfl, ?_⟩) (by assumption) ?_
        rotate_left
        · intro wq hSw
          (try dsimp only at hSw)
          go_simp
          all_goals (with_reducible rfl)
        try simp only [Act.put, List.setIfInBounds_toArray, List.set_cons_zero, List.set_cons_succ]
        clear hHeld
        refine wpAnyH_done (by kernel_rfl) ?_ _
        go_wp2_with fail
        go_roundw
        case rel => exact ⟨k + 1, by go_num, by omega, HA1.out, fun j z hj hz => by
          rcases Nat.lt_or_ge j k with h1 | h1
          · exact HNO.out j z h1 hz
          · rw [show j = k from by omega, HY.out] at hz
            simp only [Option.some.injEq] at hz
            rw [← hz]; exact HH.out⟩
        case measure => simp [intOf]; omega
      · by_cases hp : y.p = p
        · have HH : Hid (hit av al p y = true) := by show _ = _; unfold hit; rw [← HQ.out, hp]; simp
          have hpe : (y.p == p) = true := by simpa using hp
          have HANS : Hid (ans = y.n) := by
            show _ = _
            rw [HJ.out, justP, idx_some HY.out HH.out HNO.out]
            simp only [numAt, HY.out]
          clear hp
          go_upto_region 4 with fail
          refine wp_region_held_drew (S := (fun w' => w'.rangeAt b (k * 19) (listD y) ∧ BoxA w' g4 av al)) (by kernel_rfl) ⟨by exact HRG.out, by exact HB2.out⟩ (fun hHeld => ?_)
          replace HA1 := Lib.hid (HA1.out.drew)
          refine wpAnyH_take (i := 0) (v := ?_) (by simp only [List.getElem?_toArray, List.getElem?_cons_zero]; rfl) (by kernel_rfl) (by kernel_rfl) (by kernel_rfl) (by exact fun _ _ _ h => h) (Or.inl ⟨by rfl, ?_⟩) (by assumption) ?_
          rotate_left
          · intro wq hSw
            (try dsimp only at hSw)
            go_simp
            all_goals (with_reducible rfl)
          try simp only [Act.put, List.setIfInBounds_toArray, List.set_cons_zero, List.set_cons_succ]
          refine wpAnyH_take (i := 1) (v := ?_) (by simp only [List.getElem?_toArray, List.getElem?_cons_succ, List.getElem?_cons_zero]; rfl) (by kernel_rfl) (by kernel_rfl) (by kernel_rfl) (by exact fun _ _ _ h => h) (Or.inl ⟨by rfl, ?_⟩) (by assumption) ?_
          rotate_left
          · intro wq hSw
            (try dsimp only at hSw)
            go_simp
            all_goals (with_reducible rfl)
          try simp only [Act.put, List.setIfInBounds_toArray, List.set_cons_zero, List.set_cons_succ]
          refine wpAnyH_take (i := 2) (by simp only [List.getElem?_toArray, List.getElem?_cons_succ, List.getElem?_cons_zero]; rfl) (by kernel_rfl) (by kernel_rfl) (by kernel_rfl) (by exact fun _ _ _ h => h) (KO.yields_ixE (by rfl) _ _ rfl b n lc k rfl rfl (by omega)) (by assumption) ?_
          try simp only [Act.put, List.setIfInBounds_toArray, List.set_cons_zero, List.set_cons_succ]
          refine wpAnyH_take (i := 3) (v := ?_) (by simp only [List.getElem?_toArray, List.getElem?_cons_succ, List.getElem?_cons_zero]; rfl) (by kernel_rfl) (by kernel_rfl) (by kernel_rfl) (by exact fun _ _ _ h => h) (Or.inl ⟨by rfl, ?_⟩) (by assumption) ?_
          rotate_left
          · intro wq hSw
            (try dsimp only at hSw)
            go_simp
            all_goals (with_reducible rfl)
          try simp only [Act.put, List.setIfInBounds_toArray, List.set_cons_zero, List.set_cons_succ]
          refine wpAnyH_take (i := 4) (by simp only [List.getElem?_toArray, List.getElem?_cons_succ, List.getElem?_cons_zero]; rfl) (by kernel_rfl) (by kernel_rfl) (by kernel_rfl) (by exact fun _ _ _ h => h) (yields_ld (ad := ⟨b, k * 19 + 1, none⟩) (by rfl) _ rfl rfl (fun w' h => load32m_run (range_a h.1 HYO.out) HYO.out)) (by assumption) ?_
          try simp only [Act.put, List.setIfInBounds_toArray, List.set_cons_zero, List.set_cons_succ]
          refine wpAnyH_take (i := 5) (by simp only [List.getElem?_toArray, List.getElem?_cons_succ, List.getElem?_cons_zero]; rfl) (by kernel_rfl) (by kernel_rfl) (by kernel_rfl) (by exact fun _ _ _ h => h) (yields_ld (ad := ⟨g4, 0, none⟩) (by rfl) _ rfl rfl (fun w' h => load32m_run h.2.range HL.out)) (by assumption) ?_
          try simp only [Act.put, List.setIfInBounds_toArray, List.set_cons_zero, List.set_cons_succ]
          refine wpAnyH_take (i := 6) (v := ?_) (by simp only [List.getElem?_toArray, List.getElem?_cons_succ, List.getElem?_cons_zero]; rfl) (by kernel_rfl) (by kernel_rfl) (by kernel_rfl) (by exact fun _ _ _ h => h) (Or.inl ⟨by rfl, ?_⟩) (by assumption) ?_
          rotate_left
          · intro wq hSw
            (try dsimp only at hSw)
            go_simp
            all_goals (with_reducible rfl)
          try simp only [Act.put, List.setIfInBounds_toArray, List.set_cons_zero, List.set_cons_succ]
          refine wpAnyH_take (i := 7) (v := ?_) (by simp only [List.getElem?_toArray, List.getElem?_cons_succ, List.getElem?_cons_zero]; rfl) (by kernel_rfl) (by kernel_rfl) (by kernel_rfl) (by exact fun _ _ _ h => h) (Or.inl ⟨by rfl, ?_⟩) (by assumption) ?_
          rotate_left
          · intro wq hSw
            (try dsimp only at hSw)
            go_simp
            all_goals (with_reducible rfl)
          try simp only [Act.put, List.setIfInBounds_toArray, List.set_cons_zero, List.set_cons_succ]
          refine wpAnyH_take (i := 8) (v := ?_) (by simp only [List.getElem?_toArray, List.getElem?_cons_succ, List.getElem?_cons_zero]; rfl) (by kernel_rfl) (by kernel_rfl) (by kernel_rfl) (by exact fun _ _ _ h => h) (Or.inl ⟨by rfl, ?_⟩) (by assumption) ?_
          rotate_left
          · intro wq hSw
            (try dsimp only at hSw)
            go_simp
            all_goals (with_reducible rfl)
          try simp only [Act.put, List.setIfInBounds_toArray, List.set_cons_zero, List.set_cons_succ]
          refine wpAnyH_take (i := 9) (v := ?_) (by simp only [List.getElem?_toArray, List.getElem?_cons_succ, List.getElem?_cons_zero]; rfl) (by kernel_rfl) (by kernel_rfl) (by kernel_rfl) (by exact fun _ _ _ h => h) (Or.inl ⟨by rfl, ?_⟩) (by assumption) ?_
          rotate_left
          · intro wq hSw
            (try dsimp only at hSw)
            go_simp
            all_goals (with_reducible rfl)
          try simp only [Act.put, List.setIfInBounds_toArray, List.set_cons_zero, List.set_cons_succ]
          refine wpAnyH_take (i := 10) (by simp only [List.getElem?_toArray, List.getElem?_cons_succ, List.getElem?_cons_zero]; rfl) (by kernel_rfl) (by kernel_rfl) (by kernel_rfl) (by exact fun _ _ _ h => h) (KO.yields_ixE (by rfl) _ _ rfl b n lc k rfl rfl (by omega)) (by assumption) ?_
          try simp only [Act.put, List.setIfInBounds_toArray, List.set_cons_zero, List.set_cons_succ]
          refine wpAnyH_take (i := 11) (v := ?_) (by simp only [List.getElem?_toArray, List.getElem?_cons_succ, List.getElem?_cons_zero]; rfl) (by kernel_rfl) (by kernel_rfl) (by kernel_rfl) (by exact fun _ _ _ h => h) (Or.inl ⟨by rfl, ?_⟩) (by assumption) ?_
          rotate_left
          · intro wq hSw
            (try dsimp only at hSw)
            go_simp
            all_goals (with_reducible rfl)
          try simp only [Act.put, List.setIfInBounds_toArray, List.set_cons_zero, List.set_cons_succ]
          refine wpAnyH_take (i := 12) (by simp only [List.getElem?_toArray, List.getElem?_cons_succ, List.getElem?_cons_zero]; rfl) (by kernel_rfl) (by kernel_rfl) (by kernel_rfl) (by exact fun _ _ _ h => h) (yields_ld (ad := ⟨b, k * 19 + 18, none⟩) (by rfl) _ rfl rfl (fun w' h => ld3 (range_p h.1 HYO.out))) (by assumption) ?_
          try simp only [Act.put, List.setIfInBounds_toArray, List.set_cons_zero, List.set_cons_succ]
          refine wpAnyH_take (i := 13) (v := ?_) (by simp only [List.getElem?_toArray, List.getElem?_cons_succ, List.getElem?_cons_zero]; rfl) (by kernel_rfl) (by kernel_rfl) (by kernel_rfl) (by exact fun _ _ _ h => h) (Or.inl ⟨by rfl, ?_⟩) (by assumption) ?_
          rotate_left
          · intro wq hSw
            (try dsimp only at hSw)
            go_simp
            all_goals (with_reducible rfl)
          try simp only [Act.put, List.setIfInBounds_toArray, List.set_cons_zero, List.set_cons_succ]
          refine wpAnyH_take (i := 14) (v := ?_) (by simp only [List.getElem?_toArray, List.getElem?_cons_succ, List.getElem?_cons_zero]; rfl) (by kernel_rfl) (by kernel_rfl) (by kernel_rfl) (by exact fun _ _ _ h => h) (Or.inl ⟨by rfl, ?_⟩) (by assumption) ?_
          rotate_left
          · intro wq hSw
            (try dsimp only at hSw)
            go_simp
            all_goals (with_reducible rfl)
          try simp only [Act.put, List.setIfInBounds_toArray, List.set_cons_zero, List.set_cons_succ]
          refine wpAnyH_take (i := 15) (v := ?_) (by simp only [List.getElem?_toArray, List.getElem?_cons_succ, List.getElem?_cons_zero]; rfl) (by kernel_rfl) (by kernel_rfl) (by kernel_rfl) (by exact fun _ _ _ h => h) (Or.inl ⟨by rfl, ?_⟩) (by assumption) ?_
          rotate_left
          · intro wq hSw
            (try dsimp only at hSw)
            go_simp
            all_goals (with_reducible rfl)
          try simp only [Act.put, List.setIfInBounds_toArray, List.set_cons_zero, List.set_cons_succ]
          clear hHeld
          refine wpAnyH_done (by kernel_rfl) ?_ _
          have c0 := range_n (show wr.drew.rangeAt b (k * 19) (listD y) from HRG.out)
          go_wp2_with fail
          go_ret
          exact ⟨ret_int HANS.out.symm, HA.out.trans HA1.out⟩
        · have HH : Hid (hit av al p y = false) := by show _ = _; unfold hit; rw [← HQ.out]; simpa using hp
          have hpe : (y.p == p) = false := by simpa using hp
          clear hp
          go_upto_region 4 with fail
          refine wp_region_held_drew (S := (fun w' => w'.rangeAt b (k * 19) (listD y) ∧ BoxA w' g4 av al)) (by kernel_rfl) ⟨by exact HRG.out, by exact HB2.out⟩ (fun hHeld => ?_)
          replace HA1 := Lib.hid (HA1.out.drew)
          refine wpAnyH_take (i := 0) (v := ?_) (by simp only [List.getElem?_toArray, List.getElem?_cons_zero]; rfl) (by kernel_rfl) (by kernel_rfl) (by kernel_rfl) (by exact fun _ _ _ h => h) (Or.inl ⟨by rfl, ?_⟩) (by assumption) ?_
          rotate_left
          · intro wq hSw
            (try dsimp only at hSw)
            go_simp
            all_goals (with_reducible rfl)
          try simp only [Act.put, List.setIfInBounds_toArray, List.set_cons_zero, List.set_cons_succ]
          refine wpAnyH_take (i := 1) (v := ?_) (by simp only [List.getElem?_toArray, List.getElem?_cons_succ, List.getElem?_cons_zero]; rfl) (by kernel_rfl) (by kernel_rfl) (by kernel_rfl) (by exact fun _ _ _ h => h) (Or.inl ⟨by rfl, ?_⟩) (by assumption) ?_
          rotate_left
          · intro wq hSw
            (try dsimp only at hSw)
            go_simp
            all_goals (with_reducible rfl)
          try simp only [Act.put, List.setIfInBounds_toArray, List.set_cons_zero, List.set_cons_succ]
          refine wpAnyH_take (i := 2) (by simp only [List.getElem?_toArray, List.getElem?_cons_succ, List.getElem?_cons_zero]; rfl) (by kernel_rfl) (by kernel_rfl) (by kernel_rfl) (by exact fun _ _ _ h => h) (KO.yields_ixE (by rfl) _ _ rfl b n lc k rfl rfl (by omega)) (by assumption) ?_
          try simp only [Act.put, List.setIfInBounds_toArray, List.set_cons_zero, List.set_cons_succ]
          refine wpAnyH_take (i := 3) (v := ?_) (by simp only [List.getElem?_toArray, List.getElem?_cons_succ, List.getElem?_cons_zero]; rfl) (by kernel_rfl) (by kernel_rfl) (by kernel_rfl) (by exact fun _ _ _ h => h) (Or.inl ⟨by rfl, ?_⟩) (by assumption) ?_
          rotate_left
          · intro wq hSw
            (try dsimp only at hSw)
            go_simp
            all_goals (with_reducible rfl)
          try simp only [Act.put, List.setIfInBounds_toArray, List.set_cons_zero, List.set_cons_succ]
          refine wpAnyH_take (i := 4) (by simp only [List.getElem?_toArray, List.getElem?_cons_succ, List.getElem?_cons_zero]; rfl) (by kernel_rfl) (by kernel_rfl) (by kernel_rfl) (by exact fun _ _ _ h => h) (yields_ld (ad := ⟨b, k * 19 + 1, none⟩) (by rfl) _ rfl rfl (fun w' h => load32m_run (range_a h.1 HYO.out) HYO.out)) (by assumption) ?_
          try simp only [Act.put, List.setIfInBounds_toArray, List.set_cons_zero, List.set_cons_succ]
          refine wpAnyH_take (i := 5) (by simp only [List.getElem?_toArray, List.getElem?_cons_succ, List.getElem?_cons_zero]; rfl) (by kernel_rfl) (by kernel_rfl) (by kernel_rfl) (by exact fun _ _ _ h => h) (yields_ld (ad := ⟨g4, 0, none⟩) (by rfl) _ rfl rfl (fun w' h => load32m_run h.2.range HL.out)) (by assumption) ?_
          try simp only [Act.put, List.setIfInBounds_toArray, List.set_cons_zero, List.set_cons_succ]
          refine wpAnyH_take (i := 6) (v := ?_) (by simp only [List.getElem?_toArray, List.getElem?_cons_succ, List.getElem?_cons_zero]; rfl) (by kernel_rfl) (by kernel_rfl) (by kernel_rfl) (by exact fun _ _ _ h => h) (Or.inl ⟨by rfl, ?_⟩) (by assumption) ?_
          rotate_left
          · intro wq hSw
            (try dsimp only at hSw)
            go_simp
            all_goals (with_reducible rfl)
          try simp only [Act.put, List.setIfInBounds_toArray, List.set_cons_zero, List.set_cons_succ]
          refine wpAnyH_take (i := 7) (v := ?_) (by simp only [List.getElem?_toArray, List.getElem?_cons_succ, List.getElem?_cons_zero]; rfl) (by kernel_rfl) (by kernel_rfl) (by kernel_rfl) (by exact fun _ _ _ h => h) (Or.inl ⟨by rfl, ?_⟩) (by assumption) ?_
          rotate_left
          · intro wq hSw
            (try dsimp only at hSw)
            go_simp
            all_goals (with_reducible rfl)
          try simp only [Act.put, List.setIfInBounds_toArray, List.set_cons_zero, List.set_cons_succ]
          refine wpAnyH_take (i := 8) (v := ?_) (by simp only [List.getElem?_toArray, List.getElem?_cons_succ, List.getElem?_cons_zero]; rfl) (by kernel_rfl) (by kernel_rfl) (by kernel_rfl) (by exact fun _ _ _ h => h) (Or.inl ⟨by rfl, ?_⟩) (by assumption) ?_
          rotate_left
          · intro wq hSw
            (try dsimp only at hSw)
            go_simp
            all_goals (with_reducible rfl)
          try simp only [Act.put, List.setIfInBounds_toArray, List.set_cons_zero, List.set_cons_succ]
          refine wpAnyH_take (i := 9) (v := ?_) (by simp only [List.getElem?_toArray, List.getElem?_cons_succ, List.getElem?_cons_zero]; rfl) (by kernel_rfl) (by kernel_rfl) (by kernel_rfl) (by exact fun _ _ _ h => h) (Or.inl ⟨by rfl, ?_⟩) (by assumption) ?_
          rotate_left
          · intro wq hSw
            (try dsimp only at hSw)
            go_simp
            all_goals (with_reducible rfl)
          try simp only [Act.put, List.setIfInBounds_toArray, List.set_cons_zero, List.set_cons_succ]
          refine wpAnyH_take (i := 10) (by simp only [List.getElem?_toArray, List.getElem?_cons_succ, List.getElem?_cons_zero]; rfl) (by kernel_rfl) (by kernel_rfl) (by kernel_rfl) (by exact fun _ _ _ h => h) (KO.yields_ixE (by rfl) _ _ rfl b n lc k rfl rfl (by omega)) (by assumption) ?_
          try simp only [Act.put, List.setIfInBounds_toArray, List.set_cons_zero, List.set_cons_succ]
          refine wpAnyH_take (i := 11) (v := ?_) (by simp only [List.getElem?_toArray, List.getElem?_cons_succ, List.getElem?_cons_zero]; rfl) (by kernel_rfl) (by kernel_rfl) (by kernel_rfl) (by exact fun _ _ _ h => h) (Or.inl ⟨by rfl, ?_⟩) (by assumption) ?_
          rotate_left
          · intro wq hSw
            (try dsimp only at hSw)
            go_simp
            all_goals (with_reducible rfl)
          try simp only [Act.put, List.setIfInBounds_toArray, List.set_cons_zero, List.set_cons_succ]
          refine wpAnyH_take (i := 12) (by simp only [List.getElem?_toArray, List.getElem?_cons_succ, List.getElem?_cons_zero]; rfl) (by kernel_rfl) (by kernel_rfl) (by kernel_rfl) (by exact fun _ _ _ h => h) (yields_ld (ad := ⟨b, k * 19 + 18, none⟩) (by rfl) _ rfl rfl (fun w' h => ld3 (range_p h.1 HYO.out))) (by assumption) ?_
          try simp only [Act.put, List.setIfInBounds_toArray, List.set_cons_zero, List.set_cons_succ]
          refine wpAnyH_take (i := 13) (v := ?_) (by simp only [List.getElem?_toArray, List.getElem?_cons_succ, List.getElem?_cons_zero]; rfl) (by kernel_rfl) (by kernel_rfl) (by kernel_rfl) (by exact fun _ _ _ h => h) (Or.inl ⟨by rfl, ?_⟩) (by assumption) ?_
          rotate_left
          · intro wq hSw
            (try dsimp only at hSw)
            go_simp
            all_goals (with_reducible rfl)
          try simp only [Act.put, List.setIfInBounds_toArray, List.set_cons_zero, List.set_cons_succ]
          refine wpAnyH_take (i := 14) (v := ?_) (by simp only [List.getElem?_toArray, List.getElem?_cons_succ, List.getElem?_cons_zero]; rfl) (by kernel_rfl) (by kernel_rfl) (by kernel_rfl) (by exact fun _ _ _ h => h) (Or.inl ⟨by rfl, ?_⟩) (by assumption) ?_
          rotate_left
          · intro wq hSw
            (try dsimp only at hSw)
            go_simp
            all_goals (with_reducible rfl)
          try simp only [Act.put, List.setIfInBounds_toArray, List.set_cons_zero, List.set_cons_succ]
          refine wpAnyH_take (i := 15) (v := ?_) (by simp only [List.getElem?_toArray, List.getElem?_cons_succ, List.getElem?_cons_zero]; rfl) (by kernel_rfl) (by kernel_rfl) (by kernel_rfl) (by exact fun _ _ _ h => h) (Or.inl ⟨by rfl, ?_⟩) (by assumption) ?_
          rotate_left
          · intro wq hSw
            (try dsimp only at hSw)
            go_simp
            all_goals (with_reducible rfl)
          try simp only [Act.put, List.setIfInBounds_toArray, List.set_cons_zero, List.set_cons_succ]
          clear hHeld
          refine wpAnyH_done (by kernel_rfl) ?_ _
          go_wp2_with fail
          go_roundw
          case rel => exact ⟨k + 1, by go_num, by omega, HA1.out, fun j z hj hz => by
            rcases Nat.lt_or_ge j k with h1 | h1
            · exact HNO.out j z h1 hz
            · rw [show j = k from by omega, HY.out] at hz
              simp only [Option.some.injEq] at hz
              rw [← hz]; exact HH.out⟩
          case measure => simp [intOf]; omega
    · have j1 : decide (k < n) = false := by simp; omega
      have HANS : Hid (ans = 0) := by
        show _ = _
        rw [HJ.out]
        refine justP_none (idx_none fun j z hz => HNO.out j z ?_ hz)
        have := (List.getElem?_eq_some_iff.1 hz).1
        rw [← HN.out] at this
        omega
      clear hkn
      go_wp2_with fail
      go_ret
      exact ⟨ret_int HANS.out.symm, HA.out.trans HA1.out⟩
theorem ljust_o {o : Nat → Nat} {k : Nat} {w : World} {v : Value} {t : Tb} (h : Bk o k w v t.bs) (ht : WfT t) (av : Int) (al : List Int) (hl : al.length = 16) (p : Int) :
    Calls Try.prog 15 #[v, .agg (csA av al), .int .i64 p] w fun E w' => E = .returned (.int .i64 (justP t.bs av al p)) ∧ Away [] w w' := ljust_c h.1 ht.okd ht.le av al hl p
/-! A call in a variable of its own. -/
theorem info35 : (Try.prog.info? 35).map (·.size) = some 20 := by kernel_rfl
theorem listO_len {x : Opr} (hx : OkO x) : (listO x).length = 20 := by simp [listO, cellsA, hx.2.2.2.2.1]
theorem csO_size {x : Opr} (hx : OkO x) : (csO x).size = 20 := by simpa [csO] using listO_len hx
theorem csO_one (x : Opr) : (csO x).all (·.oneCell') = true := by
  simp only [Array.all_eq_true_iff_forall_mem]
  intro u hu
  simp only [csO, listO, cellsA, List.mem_toArray, List.mem_append, List.mem_cons, List.mem_map, List.not_mem_nil, or_false] at hu
  rcases hu with (rfl | rfl | rfl) | rfl | ⟨n, _, rfl⟩ <;> rfl
theorem load35m_run {w : World} {g k : Nat} {x : Opr} (hc : w.rangeAt g k (listO x)) (hx : OkO x) : (Instr.loadAt 35 (.pointer (some ⟨g, k, none⟩))).run Try.prog w = .ok (.agg (csO x)) w := by
  have := run_loadVar_mid (P := Try.prog) w g k 35 (listO x) _ hc Try.underlying35 rfl (by rw [listO_len hx]; exact info35)
  simp only [Instr.loadAt, Instr.sureAddr, Sem.run_bind, Sem.run_pure, Result.andThen]
  rw [this]; rfl
theorem wpList_load35 {ops : Array Oper} {rest : List Oper} {o : Oper} {a : Act} {w : World} {Q : Exit → Act → World → Prop} (hw : Region.wanted o (yielded ops a.tmps) = true) (z : Operand) (ho : o.op = .load 35 z)
    (g k : Nat) (hz : a.eval z = .pointer (some ⟨g, k, none⟩)) (x : Opr) (hx : OkO x) (hr : w.rangeAt g k (listO x)) (h : wpList Try.prog ops Q rest (a.put o.dst (.agg (csO x))) w) : wpList Try.prog ops Q (o :: rest) a w := by
  refine BigFrame.wpList_want hw fun K hK => ?_
  unfold Oper.wp execOp
  simp only [ho, hz, Sem.run_bind, load35m_run hr hx, Result.andThen_ok, Sem.run_pure]
  exact hK _ _ h
def zeroO : Opr := ⟨0, 0, 0, 0, z16⟩
theorem zeroO_ok : OkO zeroO := ⟨by simp [zeroO, I64], by simp [zeroO, I64], by simp [zeroO, I64], by simp [zeroO, I64], z16_byt⟩
theorem zero35 : (Try.prog.info? 35).bind (·.zero) = some (.agg (csO zeroO)) := by kernel_rfl
theorem wpList_alloc35 {ops : Array Oper} {rest : List Oper} {o : Oper} {a : Act} {w : World} {Q : Exit → Act → World → Prop} (hg : o.guard = none) (ho : o.op = .alloc 35)
    (h : ∀ g w1, w.heap.size ≤ g → BoxO w1 g zeroO → Away [] w w1 → wpList Try.prog ops Q rest (a.put o.dst (.pointer (some ⟨g, 0, none⟩))) w1) : wpList Try.prog ops Q (o :: rest) a w := by
  have hz : (zeroValue 35).run Try.prog w = .ok (.agg (csO zeroO)) w := by
    have := zero35
    cases hi : Try.prog.info? 35 with
    | none => rw [hi] at this; simp at this
    | some i => rw [hi] at this; simp at this; simp [zeroValue, typeInfo, hi, this]
  refine wpList_plain hg fun K hK => ?_
  unfold Oper.wp execOp
  simp only [ho, Sem.run_bind, Instr.alloc, hz, newVar, newRow, run_newObj_alloc, Sem.run_pure, Result.andThen_ok]
  exact hK _ _ (h w.heap.size _ (Nat.le_refl _) (block_new _ _) ((Away.refl [] w).alloc _))
theorem wpList_store35 {ops : Array Oper} {rest : List Oper} {o : Oper} {a : Act} {w : World} {Q : Exit → Act → World → Prop} (hw : Region.wanted o (yielded ops a.tmps) = true) (z y : Operand) (ho : o.op = .store 35 z y)
    (g : Nat) (hz : a.eval z = .pointer (some ⟨g, 0, none⟩)) (x e : Opr) (hx : OkO x) (he : OkO e) (hy : a.eval y = .agg (csO x)) (hb : BoxO w g e)
    (h : ∀ w1, BoxO w1 g x → Away [g] w w1 → wpList Try.prog ops Q rest (a.put o.dst undef) w1) : wpList Try.prog ops Q (o :: rest) a w :=
  BigFrame.wpList_want hw fun K hK => wp_store_row 35 z y ho g (csO x) hz hy 35 (csO e) hb (by rw [csO_size hx]; exact info35) (by rw [csO_size hx, csO_size he]) (csO_one x) (hK _ _ (h _ (by
    unfold BoxO at hb ⊢; simp [World.setRow, Array.getElem?_modify, hb]) ((Away.refl [g] w).setRow (.inl (by simp)) _)))
end Go.Proofs.Ytemdgggpfadecaa
