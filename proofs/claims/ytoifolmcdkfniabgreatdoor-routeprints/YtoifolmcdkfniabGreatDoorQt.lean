/-
  Quiet steps over routes in a region that draws its order; hasTwins; Clone.
-/
import Derived.Test.YtoifolmcdkfniabGreatDoorF1
import Derived.Test.YtoifolmcdkfniabGreatDoorDrawn
namespace Go.Proofs.YtoifolmcdkfniabGreatDoor
open Go.ChangeShapes Go.WideShapes Go.ChangeAt Go.RowKit
set_option linter.unusedVariables false
set_option linter.unusedSimpArgs false
set_option maxRecDepth 100000

theorem quiet_ldAm {o : Oper} {a : Act} {C : World → Prop} {K : Act → Prop} (x : Operand) (ho : o.op = .load 37 x) (g k : Nat) (hx : a.eval x = .pointer (some ⟨g, k, none⟩)) (v : Int) (l : List Int) (hl : l.length = 16) (hC : ∀ w, C w → w.rangeAt g k (cellsA v l)) (hk : K (a.put o.dst (.agg (csA v l)))) : o.quiet Tryz.prog a C K := by
  refine ⟨.agg (csA v l), fun w hw => ?_, hk⟩
  unfold Oper.quietAt execOp
  simp only [ho, hx, Sem.run_bind, load32m_run (hC w hw) hl, Result.andThen_ok]
  exact ⟨rfl, rfl⟩
theorem quiet_ldR {o : Oper} {a : Act} {C : World → Prop} {K : Act → Prop} (x : Operand) (ho : o.op = .load 39 x) (g k : Nat) (hx : a.eval x = .pointer (some ⟨g, k, none⟩)) (d : Rt) (hd : Okr d) (hC : ∀ w, C w → w.rangeAt g k (listD d)) (hk : K (a.put o.dst (.agg (csD d)))) : o.quiet Tryz.prog a C K := by
  refine ⟨.agg (csD d), fun w hw => ?_, hk⟩
  unfold Oper.quietAt execOp
  simp only [ho, hx, Sem.run_bind, loadE_run (hC w hw) hd, Result.andThen_ok]
  exact ⟨rfl, rfl⟩
theorem quiet_ld3 {o : Oper} {a : Act} {C : World → Prop} {K : Act → Prop} (x : Operand) (ho : o.op = .load 3 x) (ad : Addr) (hx : a.eval x = .pointer (some ad)) (z : Int) (hC : ∀ w, C w → w.cell? ad = some (.int .i64 z)) (hk : K (a.put o.dst (.int .i64 z))) : o.quiet Tryz.prog a C K := by
  refine ⟨.int .i64 z, fun w hw => ?_, hk⟩
  unfold Oper.quietAt execOp
  simp only [ho, hx, Sem.run_bind, ld3 (hC w hw), Result.andThen_ok]
  exact ⟨rfl, rfl⟩
theorem quiet_ixR {o : Oper} {a : Act} {C : World → Prop} {K : Act → Prop} (x ix : Operand) (ho : o.op = .indexAddr 22 x ix) (gb go n cap i : Nat) (z : Int) (hx : a.eval x = .slice (some ⟨gb, go, none⟩) n cap) (hix : a.eval ix = .int .i64 z) (hz : z = (i : Int)) (hi : i < n) (hk : K (a.put o.dst (.pointer (some ⟨gb, go + i * 19, none⟩)))) : o.quiet Tryz.prog a C K := by
  refine ⟨.pointer (some ⟨gb, go + i * 19, none⟩), fun w hw => ?_, hk⟩
  have he : Tryz.prog.elem 22 = 39 := by kernel_rfl
  have hsz : (sizeOf 39).run Tryz.prog w = .ok 19 w := by kernel_rfl
  subst hz
  unfold Oper.quietAt execOp
  simp only [ho, hx, hix, Sem.run_bind]
  rw [run_indexAt_slice w 22 ⟨gb, go, none⟩ n cap .i64 (i : Int) underK, he, if_pos ⟨by omega, by omega⟩, hsz]
  simp only [Result.andThen, add_plain, Int.toNat_natCast]
  exact ⟨rfl, rfl⟩
theorem adj_false : ∀ S : List Rt, (∀ (j : Nat) (x y : Rt), S[j]? = some x → S[j + 1]? = some y → twin x y = false) → adj S = false
  | [], _ => rfl
  | [_], _ => rfl
  | x :: y :: r, h => by
    rw [adj, h 0 x y rfl rfl, adj_false (y :: r) (fun j a b ha hb => h (j + 1) a b (by simpa using ha) (by simpa using hb))]; rfl
theorem adj_true : ∀ (S : List Rt) (j : Nat) (x y : Rt), S[j]? = some x → S[j + 1]? = some y → twin x y = true → adj S = true
  | [], j, x, y, h, _, _ => by simp at h
  | [a], j, x, y, _, h, _ => by simp at h
  | a :: b :: r, 0, x, y, h1, h2, h => by
    simp at h1 h2; subst h1; subst h2
    rw [adj, h]; rfl
  | a :: b :: r, j + 1, x, y, h1, h2, h => by
    rw [adj, adj_true (b :: r) j x y (by simpa using h1) (by simpa using h2) h]; simp
set_option maxHeartbeats 4000000 in
theorem twins_c {w : World} {v : Value} {S : List Rt} (h : Rd w v S) (hl : S.length ≤ 1000) : Calls Tryz.prog 29 #[v] w fun E w' => E = .returned (.bool (adj S)) ∧ Away [] w w' := by
  obtain ⟨a, cap, rfl, hcap, hsh⟩ := h.shp
  have HOK := Lib.hid h.ok
  have HSH := Lib.hid hsh
  obtain ⟨n, hn⟩ : ∃ n, n = S.length := ⟨_, rfl⟩
  rw [← hn] at hcap hl ⊢
  have HN := Lib.hid hn
  obtain ⟨r, hr⟩ : ∃ r, r = adj S := ⟨_, rfl⟩
  rw [← hr]
  have HR := Lib.hid hr
  clear h hsh hn hr
  go_enter Tryz.func29, Tryz.ntmps29
  go_wp2_with fail
  go_loopw [3] (fun i wr => ∃ m : Nat, i = .int .i64 ((m : Int) + 1) ∧ m ≤ n ∧ Away [] w wr ∧ ∀ (j : Nat) (x y : Rt), j < m → S[j]? = some x → S[j + 1]? = some y → twin x y = false) (fun i _ => n - ((intOf i).toNat - 1))
  case atStart => exact ⟨0, rfl, Nat.zero_le _, Away.refl _ _, fun j x y hj => by omega⟩
  case round =>
    obtain ⟨m, rfl, hm, haw, hno⟩ := hrel
    have HA := Lib.hid haw
    have HNO := Lib.hid hno
    clear haw hno
    by_cases hkn : m + 1 < n
    · have j1 : decide ((m : Int) + 1 < (n : Int)) = true := by simp; omega
      have j0 : (m : Int) + 1 < (n : Int) := by omega
      have j2 : 0 ≤ (m : Int) + 1 := by omega
      obtain ⟨x, hx, hxm⟩ := get_of (show m < S.length by rw [← HN.out]; omega)
      obtain ⟨y, hy, hym⟩ := get_of (show m + 1 < S.length by rw [← HN.out]; omega)
      have HX := Lib.hid hx
      have HY := Lib.hid hy
      have HXO := Lib.hid (HOK.out x hxm)
      have HYO := Lib.hid (HOK.out y hym)
      rcases HSH.out with he | ⟨b, o, ha, hrg⟩
      · exfalso; rw [he] at hx; simp at hx
      subst ha
      have HRX := Lib.hid (hrg m x hx)
      have HRY := Lib.hid (hrg (m + 1) y hy)
      clear hrg hx hy hxm hym hkn
      obtain ⟨q, hq⟩ : ∃ q, q = (decide (x.v = y.v) && eqL x.l y.l) := ⟨_, rfl⟩
      have hqe := fun w => eqA x.v y.v x.l y.l HXO.out.1 HYO.out.1 w
      rw [← hq] at hqe
      have HQ := Lib.hid hq
      clear hq
      have hgd := guard24
      have HC : Hid (∀ w', Away [] w w' → w'.rangeAt b (o + m * 19) (listD x) ∧ w'.rangeAt b (o + (m + 1) * 19) (listD y)) := fun w' hw' => ⟨range_away hw' (by simp) HRX.out, range_away hw' (by simp) HRY.out⟩
      clear HRX HRY
      cases q
      · have HT : Hid (twin x y = false) := by
          show _ = _; unfold twin; rw [← Bool.and_assoc, ← HQ.out]; rfl
        go_wp2_with fail
        refine wp_region_cls (C := fun w' => Away [] w w') (by kernel_rfl) (by kernel_rfl) (by exact HA.out.drew) ?_
        repeat (first
          | go_big_quiet_skip
          | (go_big_quiet_want
             first
               | (refine quiet_ixR _ _ rfl b o n cap m _ rfl rfl (by first | omega | (rw [IntKind.wrap_i64] <;> omega)) (by omega) ?_; go_simp; go_big_quiet_on)
               | (refine quiet_ixR _ _ rfl b o n cap (m + 1) _ rfl rfl (by first | omega | (rw [IntKind.wrap_i64] <;> omega)) (by omega) ?_; go_simp; go_big_quiet_on)
               | (refine quiet_ldAm _ rfl b (o + m * 19) rfl x.v x.l HXO.out.1 (fun w' h => range_a (HC.out w' h).1 HXO.out) ?_; go_simp; go_big_quiet_on)
               | (refine quiet_ldAm _ rfl b (o + (m + 1) * 19) rfl y.v y.l HYO.out.1 (fun w' h => range_a (HC.out w' h).2 HYO.out) ?_; go_simp; go_big_quiet_on)
               | (refine quiet_ld3 _ rfl ⟨b, o + m * 19 + 17, none⟩ rfl x.b (fun w' h => range_b (HC.out w' h).1 HXO.out) ?_; go_simp; go_big_quiet_on)
               | (refine quiet_ld3 _ rfl ⟨b, o + (m + 1) * 19 + 17, none⟩ rfl y.b (fun w' h => range_b (HC.out w' h).2 HYO.out) ?_; go_simp; go_big_quiet_on)
               | (go_big_quiet_op; go_big_quiet_on)
               | (refine quiet_val ?_ ?_ ?_
                  rotate_left
                  · intro w; go_simp; rfl
                  go_simp; go_big_quiet_on)))
        refine wpQuiet_nil ?_
        intro V hV
        have HV := Lib.hid hV
        clear hV
        go_wp2_with fail
        go_roundw
        case rel => exact ⟨m + 1, by go_num, by omega, HV.out, fun j a c hj ha hc => by
          rcases Nat.lt_or_ge j m with h1 | h1
          · exact HNO.out j a c h1 ha hc
          · have e : j = m := by omega
            subst e
            rw [HX.out] at ha; rw [HY.out] at hc
            simp only [Option.some.injEq] at ha hc
            rw [← ha, ← hc]; exact HT.out⟩
        case measure => simp [intOf]; omega
      · by_cases hb : x.b = y.b
        · have HT : Hid (twin x y = true) := by
            show _ = _; unfold twin; rw [← Bool.and_assoc, ← HQ.out, hb]; simp
          have hbe : (x.b == y.b) = true := by simpa using hb
          clear hb
          go_wp2_with fail
          refine wp_region_cls (C := fun w' => Away [] w w') (by kernel_rfl) (by kernel_rfl) (by exact HA.out.drew) ?_
          repeat (first
            | go_big_quiet_skip
            | (go_big_quiet_want
               first
                 | (refine quiet_ixR _ _ rfl b o n cap m _ rfl rfl (by first | omega | (rw [IntKind.wrap_i64] <;> omega)) (by omega) ?_; go_simp; go_big_quiet_on)
                 | (refine quiet_ixR _ _ rfl b o n cap (m + 1) _ rfl rfl (by first | omega | (rw [IntKind.wrap_i64] <;> omega)) (by omega) ?_; go_simp; go_big_quiet_on)
                 | (refine quiet_ldAm _ rfl b (o + m * 19) rfl x.v x.l HXO.out.1 (fun w' h => range_a (HC.out w' h).1 HXO.out) ?_; go_simp; go_big_quiet_on)
                 | (refine quiet_ldAm _ rfl b (o + (m + 1) * 19) rfl y.v y.l HYO.out.1 (fun w' h => range_a (HC.out w' h).2 HYO.out) ?_; go_simp; go_big_quiet_on)
                 | (refine quiet_ld3 _ rfl ⟨b, o + m * 19 + 17, none⟩ rfl x.b (fun w' h => range_b (HC.out w' h).1 HXO.out) ?_; go_simp; go_big_quiet_on)
                 | (refine quiet_ld3 _ rfl ⟨b, o + (m + 1) * 19 + 17, none⟩ rfl y.b (fun w' h => range_b (HC.out w' h).2 HYO.out) ?_; go_simp; go_big_quiet_on)
                 | (go_big_quiet_op; go_big_quiet_on)
                 | (refine quiet_val ?_ ?_ ?_
                    rotate_left
                    · intro w; go_simp; rfl
                    go_simp; go_big_quiet_on)))
          refine wpQuiet_nil ?_
          intro V hV
          have HV := Lib.hid hV
          clear hV
          go_wp2_with fail
          go_ret
          exact ⟨ret_bool (by rw [HR.out]; exact (adj_true S m x y HX.out HY.out HT.out).symm), HV.out⟩
        · have HT : Hid (twin x y = false) := by
            show _ = _; unfold twin; rw [← Bool.and_assoc, ← HQ.out]; simpa using hb
          have hbe : (x.b == y.b) = false := by simpa using hb
          clear hb
          go_wp2_with fail
          refine wp_region_cls (C := fun w' => Away [] w w') (by kernel_rfl) (by kernel_rfl) (by exact HA.out.drew) ?_
          repeat (first
            | go_big_quiet_skip
            | (go_big_quiet_want
               first
                 | (refine quiet_ixR _ _ rfl b o n cap m _ rfl rfl (by first | omega | (rw [IntKind.wrap_i64] <;> omega)) (by omega) ?_; go_simp; go_big_quiet_on)
                 | (refine quiet_ixR _ _ rfl b o n cap (m + 1) _ rfl rfl (by first | omega | (rw [IntKind.wrap_i64] <;> omega)) (by omega) ?_; go_simp; go_big_quiet_on)
                 | (refine quiet_ldAm _ rfl b (o + m * 19) rfl x.v x.l HXO.out.1 (fun w' h => range_a (HC.out w' h).1 HXO.out) ?_; go_simp; go_big_quiet_on)
                 | (refine quiet_ldAm _ rfl b (o + (m + 1) * 19) rfl y.v y.l HYO.out.1 (fun w' h => range_a (HC.out w' h).2 HYO.out) ?_; go_simp; go_big_quiet_on)
                 | (refine quiet_ld3 _ rfl ⟨b, o + m * 19 + 17, none⟩ rfl x.b (fun w' h => range_b (HC.out w' h).1 HXO.out) ?_; go_simp; go_big_quiet_on)
                 | (refine quiet_ld3 _ rfl ⟨b, o + (m + 1) * 19 + 17, none⟩ rfl y.b (fun w' h => range_b (HC.out w' h).2 HYO.out) ?_; go_simp; go_big_quiet_on)
                 | (go_big_quiet_op; go_big_quiet_on)
                 | (refine quiet_val ?_ ?_ ?_
                    rotate_left
                    · intro w; go_simp; rfl
                    go_simp; go_big_quiet_on)))
          refine wpQuiet_nil ?_
          intro V hV
          have HV := Lib.hid hV
          clear hV
          go_wp2_with fail
          go_roundw
          case rel => exact ⟨m + 1, by go_num, by omega, HV.out, fun j a c hj ha hc => by
            rcases Nat.lt_or_ge j m with h1 | h1
            · exact HNO.out j a c h1 ha hc
            · have e : j = m := by omega
              subst e
              rw [HX.out] at ha; rw [HY.out] at hc
              simp only [Option.some.injEq] at ha hc
              rw [← ha, ← hc]; exact HT.out⟩
          case measure => simp [intOf]; omega
    · have j1 : decide ((m : Int) + 1 < (n : Int)) = false := by simp; omega
      have HF : Hid (r = false) := by
        show _ = _
        rw [HR.out]
        refine adj_false S fun j a c ha hc => HNO.out j a c ?_ ha hc
        have := (List.getElem?_eq_some_iff.1 hc).1
        rw [← HN.out] at this
        omega
      clear hkn
      go_wp2_with fail
      go_ret
      exact ⟨ret_bool HF.out.symm, HA.out⟩
/-! Clone. -/
/-- A list of its own. -/
def OwnOut (w : World) (L : List Rt) (E : Ending) (w' : World) : Prop := ∃ v, E = .returned v ∧ LstD w' v L ∧ New w.heap.size v ∧ Away [] w w'
theorem eqnil_some (a : Addr) (n c : Nat) (w : World) : (binOp .eql 22 (.slice (some a) n c) (.slice none 0 0)).run Tryz.prog w = .ok (.bool false) w := by kernel_rfl
theorem eqnil_none (n c : Nat) (w : World) : (binOp .eql 22 (.slice none n c) (.slice none 0 0)).run Tryz.prog w = .ok (.bool true) w := by kernel_rfl
/-- A list that is read, as its cells. -/
theorem Rd.flat {w : World} {L : List Rt} {b o n cap : Nat} (h : Rd w (.slice (some ⟨b, o, none⟩) n cap) L) : ∀ j u, (L.flatMap listD)[j]? = some u → w.cell? ((⟨b, o, none⟩ : Addr).add j) = some u := fun j u hj => by
  obtain ⟨a, c, e, -, hsh⟩ := h.shp
  simp only [Value.slice.injEq] at e
  obtain ⟨e, -, -⟩ := e
  rcases hsh with rfl | ⟨b', o', h1, h2⟩
  · simp at hj
  · rw [h1] at e
    simp only [Option.some.injEq, Addr.mk.injEq] at e
    obtain ⟨rfl, rfl, -⟩ := e
    have hlt := (List.getElem?_eq_some_iff.1 hj).1
    rw [flatD_len L h.ok] at hlt
    obtain ⟨x, hx, hxm⟩ := get_of (show j / 19 < L.length by omega)
    have hl := listD_len (h.ok x hxm)
    obtain ⟨u', hu', -⟩ := get_of (show j % 19 < (listD x).length by omega)
    have e1 := flatD_get L (j / 19) x h.ok hx (j % 19) u' hu'
    rw [show j / 19 * 19 + j % 19 = j from by omega, hj] at e1
    simp only [Option.some.injEq] at e1
    subst e1
    have := h2 (j / 19) x hx (j % 19) u hu'
    rw [add_plain, show o + j = o + j / 19 * 19 + j % 19 from by omega]
    exact this
set_option maxHeartbeats 4000000 in
theorem clone_c {w : World} {v : Value} {L : List Rt} (h : Rd w v L) (hl : L.length ≤ 3518437208790) : Calls Tryz.prog 24 #[v] w (OwnOut w L) := by
  obtain ⟨a, cap, rfl, hcap, hsh⟩ := h.shp
  rcases a with _ | ad
  · have hL : L = [] := by
      rcases hsh with h1 | ⟨b, o, h1, -⟩
      · exact h1
      · simp at h1
    subst hL
    have he := eqnil_none 0 cap
    clear h hcap hl hsh
    go_enter Tryz.func24, Tryz.ntmps24
    go_wp2_with fail
    go_ret
    exact ⟨_, rfl, LstD.nil _, New.nil _, Away.refl _ _⟩
  · have HC : Hid (∀ j u, (L.flatMap listD)[j]? = some u → (w.alloc (.cells #[] 39)).cell? (ad.add j) = some u) := fun j u hj => by
      rcases hsh with rfl | ⟨b, o, h1, -⟩
      · simp at hj
      · simp only [Option.some.injEq] at h1
        subst h1
        have h2 := h.flat j u hj
        rw [add_plain] at h2 ⊢
        exact ((Away.refl [] w).alloc _).cell (by simp) h2
    have HOK := Lib.hid h.ok
    obtain ⟨n, hn⟩ : ∃ n, n = L.length := ⟨_, rfl⟩
    rw [← hn] at hcap hl ⊢
    have HN := Lib.hid hn
    have he := eqnil_some ad n cap
    clear h hsh hn
    go_enter Tryz.func24, Tryz.ntmps24
    go_wp2_with (refine wpList_appL rfl _ _ rfl _ [] rfl (by exact (show Blk (w.alloc (.cells #[] 39)) w.heap.size 0 [] from ⟨block_new _ _, rfl⟩).lst (by simp) (by unfold maxLen; omega) rfl (Nat.le_refl _) rfl) ad n cap rfl L (by exact HN.out.symm) HOK.out HC.out (by simp; omega) ?_; refine Hid.out ?_)
    refine Lib.hid ?_
    intro v' w2 hown2 hgr hmov
    have HO := Lib.hid hown2
    have HG := Lib.hid hgr
    have HMV := Lib.hid hmov
    clear hown2 hgr hmov
    go_wp2_with fail
    go_ret
    refine ⟨_, rfl, by simpa using HO.out, fun k hk => ?_, ?_⟩
    · rcases HMV.out k hk with h1 | h1
      · simp [Value.ownBlock] at h1; omega
      · simp at h1; omega
    · exact ((Away.refl _ _).alloc _).grown HG.out (fun k hk => .inr (by simp [Value.ownBlock] at hk; omega))
end Go.Proofs.YtoifolmcdkfniabGreatDoor
