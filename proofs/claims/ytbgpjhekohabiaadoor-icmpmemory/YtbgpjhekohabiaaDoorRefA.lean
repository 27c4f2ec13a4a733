/-
  The document's own: get, own, Reserved, HeadOf, Part, sum, Sealed.
-/
import Derived.Test.YtbgpjhekohabiaaDoorStp
namespace Go.Proofs.YtbgpjhekohabiaaDoor
open Go.ChangeShapes Go.WideShapes Go.ChangeAt Go.RowKit Go.Deep Num
set_option linter.unusedVariables false
set_option maxHeartbeats 4000000
set_option maxRecDepth 100000

/-- One cell of a row. -/
theorem Row.at {w : World} {a : Option Addr} {l : List Int} (h : Row w a l) (i : Nat) (hi : i < l.length) : ∃ b off, a = some ⟨b, off, none⟩ ∧ w.cell? ⟨b, off + i, none⟩ = some (.int .u8 (gt l i)) := by
  rcases h.2.2 with h0 | ⟨b, off, rfl, hc⟩
  · rw [h0] at hi; simp at hi
  · exact ⟨b, off, rfl, hc i hi⟩
theorem rget_c (a : Option Addr) (l : List Int) (n cap i : Nat) (w : World) (hn : l.length = n) (hr : Row w a l) (hi : i + 1 < n) :
    Calls Tryd.prog 79 #[.slice a n cap, .int .i64 (i : Int)] w fun E w' => E = .returned (.int .i64 (w16 l i)) ∧ ∃ k, w' = w.drewN k := by
  subst hn
  have hlen := hr.1
  obtain ⟨b, off, rfl, c0⟩ := hr.at i (by omega)
  obtain ⟨b', off', he, c1⟩ := hr.at (i + 1) hi
  simp only [Option.some.injEq, Addr.mk.injEq, and_true] at he
  obtain ⟨rfl, rfl⟩ := he
  have x0 := gt_bd hr.2.1 i; have x1 := gt_bd hr.2.1 (i + 1)
  have HW : Hid (w16 l i = 256 * gt l i + gt l (i + 1)) := rfl
  clear hr
  generalize w16 l i = R at *
  generalize gt l i = x at *
  generalize gt l (i + 1) = y at *
  have i0 : (i : Int) < (l.length : Int) := by omega
  have i1 : (i : Int) + 1 < (l.length : Int) := by omega
  have i2 : ((i : Int) + 1).toNat = i + 1 := by omega
  have i3 : (0 : Int) ≤ (i : Int) := by omega
  have i4 : (0 : Int) ≤ (i : Int) + 1 := by omega
  go_enter Tryd.func79, Tryd.ntmps79
  go_wp2_with fail
  go_quiet (fail)
  go_wp2_with fail
  go_ret
  exact ⟨by rw [HW.out]; rfl, _, rfl⟩
theorem rres_c (a : Option Addr) (l : List Int) (n cap : Nat) (w : World) (hn : l.length = n) (hr : Row w a l) (hi : 6 < n) :
    Calls Tryd.prog 57 #[.slice a n cap] w fun E w' => E = .returned (.bool (decide (128 ≤ gt l 6))) ∧ w' = w := by
  subst hn
  obtain ⟨b, off, rfl, c0⟩ := hr.at 6 hi
  have x0 := gt_bd hr.2.1 6
  clear hr
  generalize gt l 6 = x at *
  have i0 : (6 : Int) < (l.length : Int) := by omega
  by_cases h : 128 ≤ x
  · rw [decide_eq_true h]
    go_enter Tryd.func57, Tryd.ntmps57
    go_wp2_with fail
    go_ret
    exact ⟨rfl, rfl⟩
  · rw [decide_eq_false h]
    go_enter Tryd.func57, Tryd.ntmps57
    go_wp2_with fail
    go_ret
    exact ⟨rfl, rfl⟩
theorem rown_c (a : Option Addr) (l : List Int) (n cap : Nat) (w : World) (hn : l.length = n) (ha : a = none → cap = 0) (hr : Row w a l) :
    Calls Tryd.prog 98 #[.slice a n cap] w fun E w' => ∃ v, E = .returned v ∧ Owns w' v l ∧ New w.heap.size v ∧ Away [] w w' := by
  subst hn
  have hlen := hr.1
  rcases a with _ | ad
  · have h0 : l = [] := by rcases hr.2.2 with h | ⟨_, _, h, _⟩ <;> simp_all
    subst h0
    obtain rfl := ha rfl
    go_enter Tryd.func98, Tryd.ntmps98
    go_wp2_with (at_builtin; refine wpList_app_none rfl _ _ rfl _ [] rfl (Owns.nil _) rfl ?_)
    go_wp2_with fail
    go_ret
    exact ⟨_, rfl, Owns.nil _, New.nil _, Away.refl _ _⟩
  · have HR := Lib.hid hr
    clear hr
    go_enter Tryd.func98, Tryd.ntmps98
    go_wp2_with (at_builtin; refine wpList_app rfl _ _ rfl _ [] l rfl (Owns.nil _) ad l.length cap rfl rfl HR.out.src (by simpa using hlen) ?_)
    intro v' w2 hown2 hgr hblk
    have HO := Lib.hid hown2
    have HA : Hid (Away [] w w2) := (Away.refl [] w).grown hgr (by simp [Value.ownBlock])
    have HN : Hid (New w.heap.size v') := fun k hk => by
      rcases hblk k hk with h | h
      · simp [Value.ownBlock] at h
      · exact h
    clear hown2 hgr hblk
    go_wp2_with fail
    go_ret
    exact ⟨v', rfl, HO.out, HN.out, HA.out⟩
/-- What the document says of a head's first byte. -/
def hofE (b : List Int) : Int := if b.length < 20 then 20 else if gt b 0 / 16 ≠ 4 ∨ headN b < 20 then 50 else if b.length < headN b then 20 else 0
def hofN (b : List Int) : Int := if hofE b = 0 then (headN b : Int) else 0
theorem rhead_c (a : Option Addr) (l : List Int) (n cap : Nat) (w : World) (hn : l.length = n) (hr : Row w a l) :
    Calls Tryd.prog 54 #[.slice a n cap] w fun E w' => E = .returned (.tuple #[.int .i64 (hofN l), .int .i64 (hofE l)]) ∧ w' = w := by
  subst hn
  have hlen := hr.1
  by_cases h20 : l.length < 20
  · have e : hofE l = 20 := by unfold hofE; rw [if_pos h20]
    have e2 : hofN l = 0 := by unfold hofN; rw [if_neg (by omega)]
    rw [e, e2]
    have h20' : (l.length : Int) < 20 := by omega
    go_enter Tryd.func54, Tryd.ntmps54
    go_wp2_with fail
    go_ret2
    exact ⟨rfl, rfl⟩
  · obtain ⟨b, off, rfl, c0⟩ := hr.at 0 (by omega)
    have x0 := gt_bd hr.2.1 0
    have hN : (headN l : Int) = gt l 0 % 16 * 4 := by unfold headN; omega
    have HE : Hid (hofE l = if gt l 0 / 16 ≠ 4 ∨ headN l < 20 then 50 else if l.length < headN l then 20 else 0) := by show _ = _; unfold hofE; rw [if_neg h20]
    have HN : Hid (hofN l = if hofE l = 0 then (headN l : Int) else 0) := rfl
    clear hr
    simp only [Nat.add_zero] at c0
    have h20' : ¬ (l.length : Int) < 20 := by omega
    have i0 : (0 : Int) < (l.length : Int) := by omega
    generalize headN l = N at *
    generalize hofN l = RN at *
    generalize hofE l = RE at *
    generalize gt l 0 = x at *
    by_cases h4 : x / 16 = 4
    · by_cases hk : N < 20
      · obtain rfl : RE = 50 := by rw [HE.out, if_pos (.inr hk)]
        obtain rfl : RN = 0 := by rw [HN.out, if_neg (by decide)]
        have hk' : x % 16 * 4 < 20 := by omega
        go_enter Tryd.func54, Tryd.ntmps54
        go_wp2_with fail
        go_ret2
        exact ⟨rfl, rfl⟩
      · have hk' : ¬ x % 16 * 4 < 20 := by omega
        by_cases hl : l.length < N
        · obtain rfl : RE = 20 := by rw [HE.out, if_neg (by omega), if_pos hl]
          obtain rfl : RN = 0 := by rw [HN.out, if_neg (by decide)]
          have hl' : (l.length : Int) < x % 16 * 4 := by omega
          go_enter Tryd.func54, Tryd.ntmps54
          go_wp2_with fail
          go_ret2
          exact ⟨rfl, rfl⟩
        · obtain rfl : RE = 0 := by rw [HE.out, if_neg (by omega), if_neg hl]
          obtain rfl : RN = x % 16 * 4 := by rw [HN.out, if_pos rfl, hN]
          have hl' : ¬ (l.length : Int) < x % 16 * 4 := by omega
          go_enter Tryd.func54, Tryd.ntmps54
          go_wp2_with fail
          go_ret2
          exact ⟨rfl, rfl⟩
    · obtain rfl : RE = 50 := by rw [HE.out, if_pos (.inl h4)]
      obtain rfl : RN = 0 := by rw [HN.out, if_neg (by decide)]
      go_enter Tryd.func54, Tryd.ntmps54
      go_wp2_with fail
      go_ret2
      exact ⟨rfl, rfl⟩
theorem fold_add {S w : Int} (hS : 0 ≤ S) (hw : 0 ≤ w) : fold (fold S + w) = fold (S + w) := by
  have b := fold_bd hS
  have m := @fold_mod S
  have z := @fold_zero S
  exact fold_congr (by omega) (by omega) (by omega) (by omega)
theorem fold_step {x w : Int} (hx : 0 ≤ x) (hx' : x ≤ 65535) (hw : 0 ≤ w) (hw' : w ≤ 65535) : fold (x + w) = if 65535 < x + w then x + w - 65535 else x + w := by
  split
  · have b := @fold_bd (x + w) (by omega)
    have m := @fold_mod (x + w)
    have z := @fold_zero (x + w)
    omega
  · exact fold_self (by omega) (by omega)
theorem ws_take2 (b : List Int) (k : Nat) (h : 2 * k + 1 < b.length) : ws true (b.take (2 * k + 2)) = ws true (b.take (2 * k)) + (256 * gt b (2 * k) + gt b (2 * k + 1)) := by
  have e1 : b.take (2 * k + 2) = b.take (2 * k) ++ [gt b (2 * k), gt b (2 * k + 1)] := by
    unfold gt
    rw [show 2 * k + 2 = 2 * k + 1 + 1 from rfl, List.take_succ_eq_append_getElem h, List.take_succ_eq_append_getElem (by omega : 2 * k < b.length), List.append_assoc, List.getElem?_eq_getElem h, List.getElem?_eq_getElem (by omega : 2 * k < b.length)]
    rfl
  have e2 : ((b.take (2 * k)).length % 2 == 0) = true := by
    rw [List.length_take, Nat.min_eq_left (by omega)]; simp
  rw [e1, ws_app, e2]
  simp [ws]
theorem rpart_c (a : Option Addr) (l : List Int) (n cap : Nat) (w : World) (hn : l.length = n) (hr : Row w a l) (h2 : n % 2 = 0) (h60 : n ≤ 60) :
    Calls Tryd.prog 96 #[.slice a n cap] w fun E w' => E = .returned (.int .i64 (pt l)) ∧ ∃ k, w' = w.drewN k := by
  subst hn
  have hlb := hr.2.1
  have HR := Lib.hid hr
  clear hr
  go_enter Tryd.func96, Tryd.ntmps96
  go_wp2_with fail
  go_loopw [3, 4] (fun s i wr => ∃ k m : Nat, 2 * k ≤ l.length ∧ i = .int .i64 (2 * (k : Int)) ∧ s = .int .i64 (fold (ws true (l.take (2 * k)))) ∧ wr = w.drewN m) (fun _ i _ => l.length - (intOf i).toNat)
  case atStart => exact ⟨0, 0, by omega, rfl, rfl, rfl⟩
  case round =>
    obtain ⟨k, m, hk, rfl, rfl, rfl⟩ := hrel
    by_cases hlt : 2 * k < l.length
    · obtain ⟨b, off, rfl, c0⟩ := HR.out.at (2 * k) hlt
      obtain ⟨b', off', he, c1⟩ := HR.out.at (2 * k + 1) (by omega)
      simp only [Option.some.injEq, Addr.mk.injEq, and_true] at he
      obtain ⟨rfl, rfl⟩ := he
      have x0 := gt_bd hlb (2 * k); have x1 := gt_bd hlb (2 * k + 1)
      have hw0 := (ws_bd true (l.take (2 * k)) (hlb.take _)).1
      have hf := fold_bd hw0
      have hS : fold (ws true (l.take (2 * k + 2))) = if 65535 < fold (ws true (l.take (2 * k))) + (256 * gt l (2 * k) + gt l (2 * k + 1)) then fold (ws true (l.take (2 * k))) + (256 * gt l (2 * k) + gt l (2 * k + 1)) - 65535 else fold (ws true (l.take (2 * k))) + (256 * gt l (2 * k) + gt l (2 * k + 1)) := by
        rw [ws_take2 l k (by omega), ← fold_add hw0 (by omega), fold_step hf.1 hf.2 (by omega) (by omega)]
      have HS := Lib.hid hS
      clear hS hw0
      generalize fold (ws true (l.take (2 * k))) = S at *
      generalize hS2 : fold (ws true (l.take (2 * k + 2))) = S2 at *
      have HS2 : Hid (fold (ws true (l.take (2 * (k + 1)))) = S2) := hS2
      clear hS2
      generalize gt l (2 * k) = x at *
      generalize gt l (2 * k + 1) = y at *
      have i0 : 2 * (k : Int) < (l.length : Int) := by omega
      have i1 : 2 * (k : Int) + 1 < (l.length : Int) := by omega
      have i2 : (2 * (k : Int) + 1).toNat = 2 * k + 1 := by omega
      have i3 : (2 * (k : Int)).toNat = 2 * k := by omega
      by_cases hbig : 65535 < S + 256 * x + y
      · obtain rfl : S2 = S + 256 * x + y - 65535 := by rw [HS.out, if_pos (by omega)]; omega
        go_wp2_with fail
        go_quiet (fail)
        go_wp2_with fail
        go_roundw
        case rel => exact ⟨k + 1, _, by omega, by go_num, by rw [HS2.out], rfl⟩
        case measure => simp [intOf]; omega
      · obtain rfl : S2 = S + 256 * x + y := by rw [HS.out, if_neg (by omega)]; omega
        go_wp2_with fail
        go_quiet (fail)
        go_wp2_with fail
        go_roundw
        case rel => exact ⟨k + 1, _, by omega, by go_num, by rw [HS2.out], rfl⟩
        case measure => simp [intOf]; omega
    · have i1 : ¬ 2 * (k : Int) + 1 < (l.length : Int) := by omega
      have e0 : l.take (2 * k) = l := List.take_of_length_le (by omega)
      rw [e0]
      have HP : Hid (fold (ws true l) = pt l) := rfl
      generalize fold (ws true l) = S at *
      go_wp2_with fail
      go_ret
      exact ⟨by rw [HP.out]; rfl, m, rfl⟩
#print axioms rpart_c
end Go.Proofs.YtbgpjhekohabiaaDoor
