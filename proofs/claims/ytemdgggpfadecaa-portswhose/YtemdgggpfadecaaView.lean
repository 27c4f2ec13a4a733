/-
  What a table tells: view.
-/
import Derived.Test.YtemdgggpfadecaaLis
namespace Go.Proofs.Ytemdgggpfadecaa
open Go.ChangeShapes Go.WideShapes Go.ChangeAt Go.RowKit
set_option linter.unusedVariables false
set_option linter.unusedSimpArgs false
set_option maxRecDepth 100000

theorem step_appI {ops : Array Oper} {o : Oper} {a : Act} {w : World} {K : Act → World → Prop} {Q : Exit → Act → World → Prop} {E : Prop} (hgd : o.guard = none) (s t : Operand)
    (ho : o.op = .call { callee := .builtin .append, args := #[s, t], argTypes := #[37, 37] }) (v : Value) (l : List Int) (hs : a.eval s = v) (hown : LI w v l)
    (ad : Addr) (m cp : Nat) (ht : a.eval t = .slice (some ad) m cp) (M : List Int) (hM : M.length = m) (hc : ∀ (j : Nat) (x : Int), M[j]? = some x → w.cell? (ad.add j) = some (.int .i64 x)) (hk : l.length + m ≤ 17592186044416)
    (h : ∀ v' w', LI w' v' (l ++ M) → w.grownBy w' v.ownBlock → Moved w v v' → K (a.put o.dst v') w') : if Region.wanted o (yielded ops a.tmps) = true then Oper.wp Try.prog o a w K Q else E := by
  have hw : Region.wanted o (yielded ops a.tmps) = true := by simp [Region.wanted, hgd]
  rw [if_pos hw]
  obtain ⟨v', w', hrun, r1, r2, r3⟩ := run_appI o.type w v l hown ad m cp M hM hc hk
  unfold Oper.wp
  simp [execOp, ho, resolve, invoke, builtin, hs, ht, hrun, Result.andThen]
  exact h v' w' r1 r2 r3
def five (y : Bd) : List Int := [y.p, y.v, y.l.getD 0 0, y.l.getD 3 0, y.l.getD 15 0]
def viewP (bs : List Bd) (ops : List Opr) : List Int := bs.map (·.n) ++ bs.flatMap five ++ ops.map (fun x => findP bs x.v x.l x.n)
theorem idx_num {t : Tb} (h : WfT t) {i : Nat} {y : Bd} (hy : t.bs[i]? = some y) : idxP (isN y.n) t.bs = some i :=
  idx_some hy (by simp [isN]) (fun j z hj hz => by
    have := h.up j i z y hj hz hy
    simp [isN]; omega)
theorem at_num {t : Tb} (h : WfT t) {i : Nat} {y : Bd} (hy : t.bs[i]? = some y) : atP t y.n = (y.v, y.l, y.p, 0) := by
  unfold atP; rw [idx_num h hy]; simp only [hy]
open KB in
set_option maxHeartbeats 16000000 in
theorem view_c {w : World} {g : Nat} {v : Value} {t : Tb} (h : Tm w g v t) (sa : Option Addr) (l : List Opr) (cap : Nat) (hr : RowO w sa l) (hl : l.length ≤ 2932031007402) :
    Calls Try.prog 18 #[.pointer (some ⟨g, 0, none⟩), .slice sa l.length cap] w fun E w' => ∃ r, E = .returned r ∧ LI w' r (viewP t.bs l) ∧ New w.heap.size r ∧ Away [] w w' := by
  have H := Lib.hid h
  have HR := Lib.hid hr
  obtain ⟨n, hn⟩ : ∃ n, n = l.length := ⟨_, rfl⟩
  rw [← hn] at hl ⊢
  have HN := Lib.hid hn
  obtain ⟨m, hm⟩ : ∃ n, n = t.bs.length := ⟨_, rfl⟩
  have hm32 : m ≤ 32 := by have := h.wf.le; omega
  have HM := Lib.hid hm
  have HF : Hid (∀ k, ((t.bs.take k).flatMap five).length = 5 * min k m) := fun k => by
    rw [List.length_flatMap, hm, ← List.length_take]
    generalize t.bs.take k = q
    induction q with
    | nil => rfl
    | cons a r ih => simp only [List.map_cons, List.sum_cons, ih, List.length_cons]; show 5 + _ = _; omega
  clear h hn hm hr
  go_enter Try.func18, Try.ntmps18
  go_wp2_with fail
  refine (all_c H.out).mono ?_
  rintro E w1 ⟨r, rfl, hli, hnw, haw⟩
  have HA := Lib.hid haw
  have HLI := Lib.hid hli
  have HNW := Lib.hid hnw
  obtain ⟨ra, rc, rfl, -, -⟩ := hli.sl
  rw [List.length_map, ← HM.out] at HLI HNW ⊢
  clear hli hnw haw
  go_wp2_with fail
  go_loopw [5, 7] (fun r i wr => ∃ k : Nat, i = .int .i64 (k : Int) ∧ k ≤ m ∧ Away [] w wr ∧ LI wr r (t.bs.map (·.n) ++ (t.bs.take k).flatMap five) ∧ New w.heap.size r) (fun _ i _ => m - (intOf i).toNat)
  case atStart => exact ⟨0, rfl, Nat.zero_le _, HA.out, by simpa using HLI.out, HNW.out⟩
  case round =>
    clear HA HLI HNW
    obtain ⟨k, rfl, hk, haw, hli, hnw⟩ := hrel
    have HA1 := Lib.hid haw
    have HLI := Lib.hid hli
    have HNW := Lib.hid hnw
    clear haw hli hnw
    have hlen : (t.bs.map (·.n) ++ (t.bs.take k).flatMap five).length = m + 5 * k := by rw [List.length_append, List.length_map, HF.out, ← HM.out]; omega
    by_cases hkn : k < m
    · have j1 : decide (k < m) = true := by simp; omega
      have j2 : 0 ≤ (k : Int) := by omega
      have j3 : ((k : Int)).toNat = k := by omega
      obtain ⟨y, hy, hym⟩ := get_of (show k < t.bs.length by rw [← HM.out]; omega)
      have HYO := Lib.hid (H.out.wf.ok y hym)
      have HAT := Lib.hid (at_num H.out.wf hy)
      obtain ⟨ua, uc, hu, -, hcl⟩ := HLI.out.sl
      rw [hlen] at hu
      subst hu
      have j0 : (k : Int) < (m + 5 * k : Nat) := by omega
      have j4 : (k : Int) < (m : Int) + 5 * (k : Int) := by omega
      obtain ⟨gu, rfl, hcu⟩ := hcl k y.n (by rw [List.getElem?_append_left (by rw [List.length_map, ← HM.out]; omega)]; simp [hy])
      have HTK : Hid ((t.bs.take (k + 1)).flatMap five = (t.bs.take k).flatMap five ++ five y) := by
        show _ = _
        rw [List.take_add_one, hy]; simp
      clear hcl hy hym
      have KAT : Hid (Calls Try.prog 17 #[.pointer (some ⟨g, 0, none⟩), .int .i64 y.n] wr fun E w' => E = .returned (.tuple #[.agg (csA y.v y.l), .int .i64 y.p, .int .i64 0]) ∧ Away [] wr w') := by
        have := at_c (H.out.on HA1.out) y.n
        rw [HAT.out] at this
        exact this
      go_wp2_with fail
      refine KAT.out.mono ?_
      rintro E w2 ⟨rfl, haw⟩
      replace HLI := Lib.hid (HLI.out.on haw)
      replace HA1 := Lib.hid (HA1.out.trans haw)
      clear haw hcu KAT
      go_wp2_with (refine wpList_alloc32 rfl rfl ?_; refine Hid.out ?_)
      refine Lib.hid ?_
      intro g8 w3 hg8 hr8 haw
      have HR8 := Lib.hid hr8
      have hs1 := HA1.out.size
      replace HA1 := Lib.hid (HA1.out.trans haw)
      have hlt := HLI.out.lt
      have hne : gu ≠ g8 := by have := hlt gu rfl; omega
      replace HLI := Lib.hid (HLI.out.on haw)
      clear haw hr8 hlt
      go_wp2_with (refine wpList_store32 rfl _ _ rfl g8 rfl y.v y.l HYO.out.1 rfl _ HR8.out ?_; refine Hid.out ?_)
      refine Lib.hid ?_
      intro w4 hr4 haw
      replace HLI := Lib.hid (HLI.out.away haw (fun x hx => by simp [Value.ownBlock] at hx; subst hx; simpa using hne))
      replace HA1 : Hid (Away [] w w4) := HA1.out.next haw (fun x hx => .inr (by simp at hx; subst hx; omega))
      obtain ⟨tt, hbk, -⟩ := rowAt_some hr4
      obtain ⟨b0, b1, b2, b3, b4, b5, b6, b7, b8, b9, b10, b11, b12, b13, b14, b15, hyl⟩ := list16 HYO.out.1
      have c0 : w4.cell? ⟨g8, 0, none⟩ = some (.int .i64 y.v) := by rw [cell_of_block hbk]; rfl
      have c1 : w4.cell? ⟨g8, 1, none⟩ = some (.int .u8 b0) := by rw [cell_of_block hbk, hyl]; rfl
      have c4 : w4.cell? ⟨g8, 4, none⟩ = some (.int .u8 b3) := by rw [cell_of_block hbk, hyl]; rfl
      have c16 : w4.cell? ⟨g8, 16, none⟩ = some (.int .u8 b15) := by rw [cell_of_block hbk, hyl]; rfl
      have q0 := HYO.out.2 b0 (by rw [hyl]; simp)
      have q3 := HYO.out.2 b3 (by rw [hyl]; simp)
      have q15 := HYO.out.2 b15 (by rw [hyl]; simp)
      obtain ⟨q0a, q0b⟩ := q0
      obtain ⟨q3a, q3b⟩ := q3
      obtain ⟨q15a, q15b⟩ := q15
      have HFV : Hid (five y = [y.p, y.v, b0, b3, b15]) := by show _ = _; unfold five; rw [hyl]; rfl
      clear haw hr4 hbk hyl hne hg8 HR8 hs1
      have hac := (Away.refl [] w4).alloc (.cells #[.int .i64 y.p, .int .i64 y.v, .int .i64 b0, .int .i64 b3, .int .i64 b15] 3)
      replace HLI := Lib.hid (HLI.out.on hac)
      have HNC : Hid (∀ (j : Nat) (x : Int), [y.p, y.v, b0, b3, b15][j]? = some x → (w4.alloc (.cells #[.int .i64 y.p, .int .i64 y.v, .int .i64 b0, .int .i64 b3, .int .i64 b15] 3)).cell? ((⟨w4.heap.size, 0, none⟩ : Addr).add j) = some (.int .i64 x)) := fun j x hj => by
        rw [new_cells]
        rcases j with _ | _ | _ | _ | _ | j <;> simp at hj <;> simp [hj]
      replace HA1 := Lib.hid (HA1.out.trans hac)
      clear hac
      go_wp2_with (at_builtin; refine wpList_appI rfl _ _ rfl (.slice (some ⟨gu, 0, none⟩) (m + 5 * k) uc) _ rfl (by exact HLI.out) ⟨w4.heap.size, 0, none⟩ 5 5 rfl [y.p, y.v, b0, b3, b15] rfl (by exact HNC.out) (by rw [hlen]; omega) ?_; refine Hid.out ?_)
      refine Lib.hid ?_
      intro v' w5 hl2 hgr hmv
      have HA2 := Lib.hid (HA1.out.step hgr HNW.out)
      have HNW2 : Hid (New w.heap.size v') := HNW.out.moved hmv HA1.out.size
      have hl3 : LI w5 v' (t.bs.map (·.n) ++ (t.bs.take (k + 1)).flatMap five) := by rw [HTK.out, HFV.out, ← List.append_assoc]; simpa using hl2
      have HL := Lib.hid hl3
      clear hl2 hl3 hgr hmv HA1 HNW HLI HNC
      go_wp2_with fail
      go_roundw
      case rel => exact ⟨k + 1, by go_num, by omega, HA2.out, HL.out, HNW2.out⟩
      case measure => simp [intOf]; omega
    have j1 : decide (k < m) = false := by simp; omega
    have hkk : k = t.bs.length := by rw [← HM.out]; omega
    rw [hkk, List.take_length] at HLI
    have hlen0 : (t.bs.map (·.n) ++ t.bs.flatMap five).length = 6 * m := by rw [hkk, List.take_length] at hlen; omega
    clear hkn hlen hkk
    go_wp2_with fail
    go_loopw [5, 11] (fun r i wr => ∃ k : Nat, i = .int .i64 (k : Int) ∧ k ≤ n ∧ Away [] w wr ∧ LI wr r (t.bs.map (·.n) ++ t.bs.flatMap five ++ (l.take k).map (fun x => findP t.bs x.v x.l x.n)) ∧ New w.heap.size r) (fun _ i _ => n - (intOf i).toNat)
    case atStart => exact ⟨0, rfl, Nat.zero_le _, HA1.out, by simpa using HLI.out, HNW.out⟩
    case round =>
      clear HA1 HLI HNW hk j1
      obtain ⟨k, rfl, hk, haw, hli, hnw⟩ := hrel
      have HA1 := Lib.hid haw
      have HLI := Lib.hid hli
      have HNW := Lib.hid hnw
      clear haw hli hnw
      have hlen : (t.bs.map (·.n) ++ t.bs.flatMap five ++ (l.take k).map (fun x => findP t.bs x.v x.l x.n)).length = 6 * m + k := by rw [List.length_append, hlen0, List.length_map, List.length_take, ← HN.out]; omega
      by_cases hkn : k < n
      · have j1 : decide (k < n) = true := by simp; omega
        have j0 : (k : Int) < (n : Int) := by omega
        have j2 : 0 ≤ (k : Int) := by omega
        have j3 : ((k : Int)).toNat = k := by omega
        obtain ⟨x, hx, -⟩ := get_of (show k < l.length by rw [← HN.out]; omega)
        have HTK : Hid ((l.take (k + 1)).map (fun x => findP t.bs x.v x.l x.n) = (l.take k).map (fun x => findP t.bs x.v x.l x.n) ++ [findP t.bs x.v x.l x.n]) := by
          show _ = _
          rw [List.take_add_one, hx]; simp
        obtain ⟨b, off, hb, hbl, hrg, hox⟩ := HR.out.at hx
        subst hb
        have HX := Lib.hid hox
        have HRG := Lib.hid (range_away HA1.out (by simp) hrg)
        clear hrg hox hx hkn
        go_wp2_with fail
        refine wp_region_held_drew (S := (fun w' => w'.rangeAt b (off + k * 20) (listO x))) (by kernel_rfl) (by exact HRG.out) (fun hHeld => ?_)
        have haw := (Away.refl [] wr).drew
        replace HLI := Lib.hid (HLI.out.on haw)
        replace HA1 := Lib.hid (HA1.out.trans haw)
        clear haw HRG
        refine wpAnyH_take (i := 0) (v := ?_) (by simp only [List.getElem?_toArray, List.getElem?_cons_zero]; rfl) (by kernel_rfl) (by kernel_rfl) (by kernel_rfl) (by exact fun _ _ _ h => h) (Or.inl ⟨by rfl, ?_⟩) (by assumption) ?_
        rotate_left
        · intro wq hSw
          (try dsimp only at hSw)
          go_simp
          all_goals (with_reducible rfl)
        try simp only [Act.put, List.setIfInBounds_toArray, List.set_cons_zero, List.set_cons_succ]
        refine wpAnyH_take (i := 1) (v := ?_) (by simp only [List.getElem?_toArray, List.getElem?_cons_succ, List.getElem?_cons_zero]; rfl) (by kernel_rfl) (by kernel_rfl) (by kernel_rfl) (by exact fun _ _ _ h => h) (Or.inl ⟨by rfl, ?_⟩) (by assumption) ?_
        rotate_left
        · intro wq hSw
          (try dsimp only at hSw)
          go_simp
          all_goals (with_reducible rfl)
        try simp only [Act.put, List.setIfInBounds_toArray, List.set_cons_zero, List.set_cons_succ]
        refine wpAnyH_take (i := 2) (v := ?_) (by simp only [List.getElem?_toArray, List.getElem?_cons_succ, List.getElem?_cons_zero]; rfl) (by kernel_rfl) (by kernel_rfl) (by kernel_rfl) (by exact fun _ _ _ h => h) (Or.inl ⟨by rfl, ?_⟩) (by assumption) ?_
        rotate_left
        · intro wq hSw
          (try dsimp only at hSw)
          go_simp
          all_goals (with_reducible rfl)
        try simp only [Act.put, List.setIfInBounds_toArray, List.set_cons_zero, List.set_cons_succ]
        refine wpAnyH_take (i := 3) (v := ?_) (by simp only [List.getElem?_toArray, List.getElem?_cons_succ, List.getElem?_cons_zero]; rfl) (by kernel_rfl) (by kernel_rfl) (by kernel_rfl) (by exact fun _ _ _ h => h) (Or.inl ⟨by rfl, ?_⟩) (by assumption) ?_
        rotate_left
        · intro wq hSw
          (try dsimp only at hSw)
          go_simp
          all_goals (with_reducible rfl)
        try simp only [Act.put, List.setIfInBounds_toArray, List.set_cons_zero, List.set_cons_succ]
        refine wpAnyH_take (i := 4) (by simp only [List.getElem?_toArray, List.getElem?_cons_succ, List.getElem?_cons_zero]; rfl) (by kernel_rfl) (by kernel_rfl) (by kernel_rfl) (by exact fun _ _ _ h => h) (yields_ixO (by rfl) _ _ rfl b off n cap k rfl rfl (by omega)) (by assumption) ?_
        try simp only [Act.put, List.setIfInBounds_toArray, List.set_cons_zero, List.set_cons_succ]
        refine wpAnyH_take (i := 5) (v := ?_) (by simp only [List.getElem?_toArray, List.getElem?_cons_succ, List.getElem?_cons_zero]; rfl) (by kernel_rfl) (by kernel_rfl) (by kernel_rfl) (by exact fun _ _ _ h => h) (Or.inl ⟨by rfl, ?_⟩) (by assumption) ?_
        rotate_left
        · intro wq hSw
          (try dsimp only at hSw)
          go_simp
          all_goals (with_reducible rfl)
        try simp only [Act.put, List.setIfInBounds_toArray, List.set_cons_zero, List.set_cons_succ]
        refine wpAnyH_take (i := 6) (by simp only [List.getElem?_toArray, List.getElem?_cons_succ, List.getElem?_cons_zero]; rfl) (by kernel_rfl) (by kernel_rfl) (by kernel_rfl) (by exact fun _ _ _ h => h) (yields_ld (ad := ⟨b, off + k * 20 + 3, none⟩) (by rfl) _ rfl rfl (fun w' h => load32m_run (rangeO h).2.2.2 HX.out.2.2.2.2.1)) (by assumption) ?_
        try simp only [Act.put, List.setIfInBounds_toArray, List.set_cons_zero, List.set_cons_succ]
        refine wpAnyH_take (i := 7) (v := ?_) (by simp only [List.getElem?_toArray, List.getElem?_cons_succ, List.getElem?_cons_zero]; rfl) (by kernel_rfl) (by kernel_rfl) (by kernel_rfl) (by exact fun _ _ _ h => h) (Or.inl ⟨by rfl, ?_⟩) (by assumption) ?_
        rotate_left
        · intro wq hSw
          (try dsimp only at hSw)
          go_simp
          all_goals (with_reducible rfl)
        try simp only [Act.put, List.setIfInBounds_toArray, List.set_cons_zero, List.set_cons_succ]
        refine wpAnyH_take (i := 8) (v := ?_) (by simp only [List.getElem?_toArray, List.getElem?_cons_succ, List.getElem?_cons_zero]; rfl) (by kernel_rfl) (by kernel_rfl) (by kernel_rfl) (by exact fun _ _ _ h => h) (Or.inl ⟨by rfl, ?_⟩) (by assumption) ?_
        rotate_left
        · intro wq hSw
          (try dsimp only at hSw)
          go_simp
          all_goals (with_reducible rfl)
        try simp only [Act.put, List.setIfInBounds_toArray, List.set_cons_zero, List.set_cons_succ]
        refine wpAnyH_take (i := 9) (by simp only [List.getElem?_toArray, List.getElem?_cons_succ, List.getElem?_cons_zero]; rfl) (by kernel_rfl) (by kernel_rfl) (by kernel_rfl) (by exact fun _ _ _ h => h) (yields_ixO (by rfl) _ _ rfl b off n cap k rfl rfl (by omega)) (by assumption) ?_
        try simp only [Act.put, List.setIfInBounds_toArray, List.set_cons_zero, List.set_cons_succ]
        refine wpAnyH_take (i := 10) (v := ?_) (by simp only [List.getElem?_toArray, List.getElem?_cons_succ, List.getElem?_cons_zero]; rfl) (by kernel_rfl) (by kernel_rfl) (by kernel_rfl) (by exact fun _ _ _ h => h) (Or.inl ⟨by rfl, ?_⟩) (by assumption) ?_
        rotate_left
        · intro wq hSw
          (try dsimp only at hSw)
          go_simp
          all_goals (with_reducible rfl)
        try simp only [Act.put, List.setIfInBounds_toArray, List.set_cons_zero, List.set_cons_succ]
        refine wpAnyH_take (i := 11) (by simp only [List.getElem?_toArray, List.getElem?_cons_succ, List.getElem?_cons_zero]; rfl) (by kernel_rfl) (by kernel_rfl) (by kernel_rfl) (by exact fun _ _ _ h => h) (yields_ld (ad := ⟨b, off + k * 20 + 2, none⟩) (by rfl) _ rfl rfl (fun w' h => ld3 (rangeO h).2.2.1)) (by assumption) ?_
        try simp only [Act.put, List.setIfInBounds_toArray, List.set_cons_zero, List.set_cons_succ]
        refine wpAnyH_ready (rs := [12]) (by kernel_rfl) (by simp) ?_
        refine AllReadyH.cons (by simp only [List.getElem?_toArray, List.getElem?_cons_succ, List.getElem?_cons_zero]; rfl) (fun K hK => ?_) AllReadyH.nil
        go_simp
        refine (find_c (H.out.on HA1.out) x.v x.l HX.out.2.2.2.2.1 x.n).mono ?_
        rintro E w3 ⟨rfl, haw⟩
        have hS : w3.rangeAt b (off + k * 20) (listO x) := range_away haw (by simp) hHeld
        replace HLI := Lib.hid (HLI.out.on haw)
        replace HA1 := Lib.hid (HA1.out.trans haw)
        clear haw hHeld
        go_wp2_with fail
        obtain ⟨fv, hfv⟩ : ∃ z, z = findP t.bs x.v x.l x.n := ⟨_, rfl⟩
        rw [← hfv]
        have HFV := Lib.hid hfv
        clear hfv
        refine hK.out _ _ hS (fun hHeld => ?_)
        clear hK K
        try simp only [Act.put, List.setIfInBounds_toArray, List.set_cons_zero, List.set_cons_succ]
        clear hS
        refine wpAnyH_ready (rs := [13]) (by kernel_rfl) (by simp) ?_
        refine AllReadyH.cons (by simp only [List.getElem?_toArray, List.getElem?_cons_succ, List.getElem?_cons_zero]; rfl) (fun K hK => ?_) AllReadyH.nil
        go_simp
        have hac := (Away.refl [] w3).alloc (.cells #[.int .i64 fv] 3)
        have hS : (w3.alloc (.cells #[.int .i64 fv] 3)).rangeAt b (off + k * 20) (listO x) := range_away hac (by simp) hHeld
        replace HLI := Lib.hid (HLI.out.on hac)
        replace HA1 := Lib.hid (HA1.out.trans hac)
        have HNC : Hid (∀ (j : Nat) (x : Int), [fv][j]? = some x → (w3.alloc (.cells #[.int .i64 fv] 3)).cell? ((⟨w3.heap.size, 0, none⟩ : Addr).add j) = some (.int .i64 x)) := fun j x hj => by
          rw [new_cells]
          rcases j with _ | j
          · simp at hj; simp [hj]
          · simp at hj
        clear hac hHeld
        refine hK.out _ _ hS (fun hHeld => ?_)
        clear hK K
        try simp only [Act.put, List.setIfInBounds_toArray, List.set_cons_zero, List.set_cons_succ]
        clear hS
        refine wpAnyH_ready (rs := [14]) (by kernel_rfl) (by simp) ?_
        refine AllReadyH.cons (by simp only [List.getElem?_toArray, List.getElem?_cons_succ, List.getElem?_cons_zero]; rfl) (fun K hK => ?_) AllReadyH.nil
        refine step_appI rfl _ _ rfl u5 _ rfl (by exact HLI.out) ⟨w3.heap.size, 0, none⟩ 1 1 rfl [fv] rfl (by exact HNC.out) (by rw [hlen]; omega) (fun v' w4 hl2 hgr hmv => ?_)
        have haw : Away u5.ownBlock.toList (w3.alloc (.cells #[.int .i64 fv] 3)) w4 := Away.grow hgr
        have hS : w4.rangeAt b (off + k * 20) (listO x) := range_away haw (fun hm => by have := HNW.out b (by simpa using hm); omega) hHeld
        have HA2 := Lib.hid (HA1.out.step hgr HNW.out)
        have HNW2 : Hid (New w.heap.size v') := HNW.out.moved hmv HA1.out.size
        have HL2 := Lib.hid hl2
        clear haw hl2 hgr hmv hHeld
        refine hK.out _ _ hS (fun hHeld => ?_)
        clear hK K
        try simp only [Act.put, List.setIfInBounds_toArray, List.set_cons_zero, List.set_cons_succ]
        clear hS
        refine wpAnyH_take (i := 15) (v := ?_) (by simp only [List.getElem?_toArray, List.getElem?_cons_succ, List.getElem?_cons_zero]; rfl) (by kernel_rfl) (by kernel_rfl) (by kernel_rfl) (by exact fun _ _ _ h => h) (Or.inl ⟨by rfl, ?_⟩) (by assumption) ?_
        rotate_left
        · intro wq hSw
          (try dsimp only at hSw)
          go_simp
          all_goals (with_reducible rfl)
        try simp only [Act.put, List.setIfInBounds_toArray, List.set_cons_zero, List.set_cons_succ]
        clear hHeld
        refine wpAnyH_done (by kernel_rfl) ?_ _
        have HL := Lib.hid (show LI w4 v' (t.bs.map (·.n) ++ t.bs.flatMap five ++ (l.take (k + 1)).map (fun x => findP t.bs x.v x.l x.n)) from by rw [HTK.out, ← HFV.out, ← List.append_assoc]; simpa using HL2.out)
        clear HA1 HNW HLI HNC HL2
        go_wp2_with fail
        go_roundw
        case rel => exact ⟨k + 1, by go_num, by omega, HA2.out, HL.out, HNW2.out⟩
        case measure => simp [intOf]; omega
      have j1 : decide (k < n) = false := by simp; omega
      have hkk : k = l.length := by rw [← HN.out]; omega
      rw [hkk, List.take_length] at HLI
      clear hkn hkk
      go_wp2_with fail
      go_ret
      exact ⟨_, rfl, HLI.out, HNW.out, HA1.out⟩
end Go.Proofs.Ytemdgggpfadecaa
