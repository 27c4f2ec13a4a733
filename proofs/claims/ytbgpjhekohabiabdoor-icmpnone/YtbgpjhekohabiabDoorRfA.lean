/-
  The document's own: read.
-/
import Derived.Test.YtbgpjhekohabiabDoorStp
namespace Go.Proofs.YtbgpjhekohabiabDoor
open Go.ChangeShapes Go.WideShapes Go.ChangeAt Go.RowKit Go.Deep Num
set_option linter.unusedVariables false
set_option maxHeartbeats 4000000
set_option maxRecDepth 100000

/-- One cell of a row. -/
theorem Row.at {w : World} {a : Option Addr} {l : List Int} (h : Row w a l) (i : Nat) (hi : i < l.length) : ∃ b off, a = some ⟨b, off, none⟩ ∧ w.cell? ⟨b, off + i, none⟩ = some (.int .u8 (gt l i)) := by
  rcases h.2.2 with h0 | ⟨b, off, rfl, hc⟩
  · rw [h0] at hi; simp at hi
  · exact ⟨b, off, rfl, hc i hi⟩
theorem rget_c (a : Option Addr) (l : List Int) (n cap i : Nat) (w : World) (hn : l.length = n) (hr : Row w a l) (hi : i + 1 < n) :
    Calls Tryd.prog 75 #[.slice a n cap, .int .i64 (i : Int)] w fun E w' => E = .returned (.int .i64 (w16 l i)) ∧ ∃ k, w' = w.drewN k := by
  subst hn
  have hlen := hr.1
  obtain ⟨b, off, rfl, c0⟩ := hr.at i (by omega)
  obtain ⟨b', off', he, c1⟩ := hr.at (i + 1) hi
  simp only [Option.some.injEq, Addr.mk.injEq, and_true] at he
  obtain ⟨rfl, rfl⟩ := he
  have x0 := gt_bd hr.2.1 i; have x1 := gt_bd hr.2.1 (i + 1)
  have HW : Hid (w16 l i = 256 * gt l i + gt l (i + 1)) := rfl
  clear hr
  generalize w16 l i = R at *
  generalize gt l i = x at *
  generalize gt l (i + 1) = y at *
  have i0 : (i : Int) < (l.length : Int) := by omega
  have i1 : (i : Int) + 1 < (l.length : Int) := by omega
  have i2 : ((i : Int) + 1).toNat = i + 1 := by omega
  have i3 : (0 : Int) ≤ (i : Int) := by omega
  have i4 : (0 : Int) ≤ (i : Int) + 1 := by omega
  go_enter Tryd.func75, Tryd.ntmps75
  go_wp2_with fail
  go_quiet (fail)
  go_wp2_with fail
  go_ret
  exact ⟨by rw [HW.out]; rfl, _, rfl⟩
theorem rres_c (a : Option Addr) (l : List Int) (n cap : Nat) (w : World) (hn : l.length = n) (hr : Row w a l) (hi : 6 < n) :
    Calls Tryd.prog 78 #[.slice a n cap] w fun E w' => E = .returned (.bool (decide (128 ≤ gt l 6))) ∧ w' = w := by
  subst hn
  obtain ⟨b, off, rfl, c0⟩ := hr.at 6 hi
  have x0 := gt_bd hr.2.1 6
  clear hr
  generalize gt l 6 = x at *
  have i0 : (6 : Int) < (l.length : Int) := by omega
  by_cases h : 128 ≤ x
  · rw [decide_eq_true h]
    go_enter Tryd.func78, Tryd.ntmps78
    go_wp2_with fail
    go_ret
    exact ⟨rfl, rfl⟩
  · rw [decide_eq_false h]
    go_enter Tryd.func78, Tryd.ntmps78
    go_wp2_with fail
    go_ret
    exact ⟨rfl, rfl⟩
theorem rown_c (a : Option Addr) (l : List Int) (n cap : Nat) (w : World) (hn : l.length = n) (ha : a = none → cap = 0) (hr : Row w a l) :
    Calls Tryd.prog 100 #[.slice a n cap] w fun E w' => ∃ v, E = .returned v ∧ Owns w' v l ∧ New w.heap.size v ∧ Away [] w w' := by
  subst hn
  have hlen := hr.1
  rcases a with _ | ad
  · have h0 : l = [] := by rcases hr.2.2 with h | ⟨_, _, h, _⟩ <;> simp_all
    subst h0
    obtain rfl := ha rfl
    go_enter Tryd.func100, Tryd.ntmps100
    go_wp2_with (at_builtin; refine wpList_app_none rfl _ _ rfl _ [] rfl (Owns.nil _) rfl ?_)
    go_wp2_with fail
    go_ret
    exact ⟨_, rfl, Owns.nil _, New.nil _, Away.refl _ _⟩
  · have HR := Lib.hid hr
    clear hr
    go_enter Tryd.func100, Tryd.ntmps100
    go_wp2_with (at_builtin; refine wpList_app rfl _ _ rfl _ [] l rfl (Owns.nil _) ad l.length cap rfl rfl HR.out.src (by simpa using hlen) ?_)
    intro v' w2 hown2 hgr hblk
    have HO := Lib.hid hown2
    have HA : Hid (Away [] w w2) := (Away.refl [] w).grown hgr (by simp [Value.ownBlock])
    have HN : Hid (New w.heap.size v') := fun k hk => by
      rcases hblk k hk with h | h
      · simp [Value.ownBlock] at h
      · exact h
    clear hown2 hgr hblk
    go_wp2_with fail
    go_ret
    exact ⟨v', rfl, HO.out, HN.out, HA.out⟩
/-- What the document says of a head's first byte. -/
def hofE (b : List Int) : Int := if b.length < 20 then 20 else if gt b 0 / 16 ≠ 4 ∨ headN b < 20 then 50 else if b.length < headN b then 20 else 0
def hofN (b : List Int) : Int := if hofE b = 0 then (headN b : Int) else 0
theorem rhead_c (a : Option Addr) (l : List Int) (n cap : Nat) (w : World) (hn : l.length = n) (hr : Row w a l) :
    Calls Tryd.prog 74 #[.slice a n cap] w fun E w' => E = .returned (.tuple #[.int .i64 (hofN l), .int .i64 (hofE l)]) ∧ w' = w := by
  subst hn
  have hlen := hr.1
  by_cases h20 : l.length < 20
  · have e : hofE l = 20 := by unfold hofE; rw [if_pos h20]
    have e2 : hofN l = 0 := by unfold hofN; rw [if_neg (by omega)]
    rw [e, e2]
    have h20' : (l.length : Int) < 20 := by omega
    go_enter Tryd.func74, Tryd.ntmps74
    go_wp2_with fail
    go_ret2
    exact ⟨rfl, rfl⟩
  · obtain ⟨b, off, rfl, c0⟩ := hr.at 0 (by omega)
    have x0 := gt_bd hr.2.1 0
    have hN : (headN l : Int) = gt l 0 % 16 * 4 := by unfold headN; omega
    have HE : Hid (hofE l = if gt l 0 / 16 ≠ 4 ∨ headN l < 20 then 50 else if l.length < headN l then 20 else 0) := by show _ = _; unfold hofE; rw [if_neg h20]
    have HN : Hid (hofN l = if hofE l = 0 then (headN l : Int) else 0) := rfl
    clear hr
    simp only [Nat.add_zero] at c0
    have h20' : ¬ (l.length : Int) < 20 := by omega
    have i0 : (0 : Int) < (l.length : Int) := by omega
    generalize headN l = N at *
    generalize hofN l = RN at *
    generalize hofE l = RE at *
    generalize gt l 0 = x at *
    by_cases h4 : x / 16 = 4
    · by_cases hk : N < 20
      · obtain rfl : RE = 50 := by rw [HE.out, if_pos (.inr hk)]
        obtain rfl : RN = 0 := by rw [HN.out, if_neg (by decide)]
        have hk' : x % 16 * 4 < 20 := by omega
        go_enter Tryd.func74, Tryd.ntmps74
        go_wp2_with fail
        go_ret2
        exact ⟨rfl, rfl⟩
      · have hk' : ¬ x % 16 * 4 < 20 := by omega
        by_cases hl : l.length < N
        · obtain rfl : RE = 20 := by rw [HE.out, if_neg (by omega), if_pos hl]
          obtain rfl : RN = 0 := by rw [HN.out, if_neg (by decide)]
          have hl' : (l.length : Int) < x % 16 * 4 := by omega
          go_enter Tryd.func74, Tryd.ntmps74
          go_wp2_with fail
          go_ret2
          exact ⟨rfl, rfl⟩
        · obtain rfl : RE = 0 := by rw [HE.out, if_neg (by omega), if_neg hl]
          obtain rfl : RN = x % 16 * 4 := by rw [HN.out, if_pos rfl, hN]
          have hl' : ¬ (l.length : Int) < x % 16 * 4 := by omega
          go_enter Tryd.func74, Tryd.ntmps74
          go_wp2_with fail
          go_ret2
          exact ⟨rfl, rfl⟩
    · obtain rfl : RE = 50 := by rw [HE.out, if_pos (.inl h4)]
      obtain rfl : RN = 0 := by rw [HN.out, if_neg (by decide)]
      go_enter Tryd.func74, Tryd.ntmps74
      go_wp2_with fail
      go_ret2
      exact ⟨rfl, rfl⟩
theorem fold_add {S w : Int} (hS : 0 ≤ S) (hw : 0 ≤ w) : fold (fold S + w) = fold (S + w) := by
  have b := fold_bd hS
  have m := @fold_mod S
  have z := @fold_zero S
  exact fold_congr (by omega) (by omega) (by omega) (by omega)
theorem fold_step {x w : Int} (hx : 0 ≤ x) (hx' : x ≤ 65535) (hw : 0 ≤ w) (hw' : w ≤ 65535) : fold (x + w) = if 65535 < x + w then x + w - 65535 else x + w := by
  split
  · have b := @fold_bd (x + w) (by omega)
    have m := @fold_mod (x + w)
    have z := @fold_zero (x + w)
    omega
  · exact fold_self (by omega) (by omega)
theorem ws_take2 (b : List Int) (k : Nat) (h : 2 * k + 1 < b.length) : ws true (b.take (2 * k + 2)) = ws true (b.take (2 * k)) + (256 * gt b (2 * k) + gt b (2 * k + 1)) := by
  have e1 : b.take (2 * k + 2) = b.take (2 * k) ++ [gt b (2 * k), gt b (2 * k + 1)] := by
    unfold gt
    rw [show 2 * k + 2 = 2 * k + 1 + 1 from rfl, List.take_succ_eq_append_getElem h, List.take_succ_eq_append_getElem (by omega : 2 * k < b.length), List.append_assoc, List.getElem?_eq_getElem h, List.getElem?_eq_getElem (by omega : 2 * k < b.length)]
    rfl
  have e2 : ((b.take (2 * k)).length % 2 == 0) = true := by
    rw [List.length_take, Nat.min_eq_left (by omega)]; simp
  rw [e1, ws_app, e2]
  simp [ws]
theorem rpart_c (a : Option Addr) (l : List Int) (n cap : Nat) (w : World) (hn : l.length = n) (hr : Row w a l) (h2 : n % 2 = 0) (h60 : n ≤ 60) :
    Calls Tryd.prog 112 #[.slice a n cap] w fun E w' => E = .returned (.int .i64 (pt l)) ∧ ∃ k, w' = w.drewN k := by
  subst hn
  have hlb := hr.2.1
  have HR := Lib.hid hr
  clear hr
  go_enter Tryd.func112, Tryd.ntmps112
  go_wp2_with fail
  go_loopw [3, 4] (fun s i wr => ∃ k m : Nat, 2 * k ≤ l.length ∧ i = .int .i64 (2 * (k : Int)) ∧ s = .int .i64 (fold (ws true (l.take (2 * k)))) ∧ wr = w.drewN m) (fun _ i _ => l.length - (intOf i).toNat)
  case atStart => exact ⟨0, 0, by omega, rfl, rfl, rfl⟩
  case round =>
    obtain ⟨k, m, hk, rfl, rfl, rfl⟩ := hrel
    by_cases hlt : 2 * k < l.length
    · obtain ⟨b, off, rfl, c0⟩ := HR.out.at (2 * k) hlt
      obtain ⟨b', off', he, c1⟩ := HR.out.at (2 * k + 1) (by omega)
      simp only [Option.some.injEq, Addr.mk.injEq, and_true] at he
      obtain ⟨rfl, rfl⟩ := he
      have x0 := gt_bd hlb (2 * k); have x1 := gt_bd hlb (2 * k + 1)
      have hw0 := (ws_bd true (l.take (2 * k)) (hlb.take _)).1
      have hf := fold_bd hw0
      have hS : fold (ws true (l.take (2 * k + 2))) = if 65535 < fold (ws true (l.take (2 * k))) + (256 * gt l (2 * k) + gt l (2 * k + 1)) then fold (ws true (l.take (2 * k))) + (256 * gt l (2 * k) + gt l (2 * k + 1)) - 65535 else fold (ws true (l.take (2 * k))) + (256 * gt l (2 * k) + gt l (2 * k + 1)) := by
        rw [ws_take2 l k (by omega), ← fold_add hw0 (by omega), fold_step hf.1 hf.2 (by omega) (by omega)]
      have HS := Lib.hid hS
      clear hS hw0
      generalize fold (ws true (l.take (2 * k))) = S at *
      generalize hS2 : fold (ws true (l.take (2 * k + 2))) = S2 at *
      have HS2 : Hid (fold (ws true (l.take (2 * (k + 1)))) = S2) := hS2
      clear hS2
      generalize gt l (2 * k) = x at *
      generalize gt l (2 * k + 1) = y at *
      have i0 : 2 * (k : Int) < (l.length : Int) := by omega
      have i1 : 2 * (k : Int) + 1 < (l.length : Int) := by omega
      have i2 : (2 * (k : Int) + 1).toNat = 2 * k + 1 := by omega
      have i3 : (2 * (k : Int)).toNat = 2 * k := by omega
      by_cases hbig : 65535 < S + 256 * x + y
      · obtain rfl : S2 = S + 256 * x + y - 65535 := by rw [HS.out, if_pos (by omega)]; omega
        go_wp2_with fail
        go_quiet (fail)
        go_wp2_with fail
        go_roundw
        case rel => exact ⟨k + 1, _, by omega, by go_num, by rw [HS2.out], rfl⟩
        case measure => simp [intOf]; omega
      · obtain rfl : S2 = S + 256 * x + y := by rw [HS.out, if_neg (by omega)]; omega
        go_wp2_with fail
        go_quiet (fail)
        go_wp2_with fail
        go_roundw
        case rel => exact ⟨k + 1, _, by omega, by go_num, by rw [HS2.out], rfl⟩
        case measure => simp [intOf]; omega
    · have i1 : ¬ 2 * (k : Int) + 1 < (l.length : Int) := by omega
      have e0 : l.take (2 * k) = l := List.take_of_length_le (by omega)
      rw [e0]
      have HP : Hid (fold (ws true l) = pt l) := rfl
      generalize fold (ws true l) = S at *
      go_wp2_with fail
      go_ret
      exact ⟨by rw [HP.out]; rfl, m, rfl⟩
#print axioms rpart_c
end Go.Proofs.YtbgpjhekohabiabDoor

namespace Go.Proofs.YtbgpjhekohabiabDoor
open Go.ChangeShapes Go.WideShapes Go.ChangeAt Go.RowKit Go.Deep Num
set_option linter.unusedVariables false
set_option maxHeartbeats 4000000
set_option maxRecDepth 100000

theorem Owns.some' {w : World} {v : Value} {l : List Int} (h : Owns w v l) (hl : l ≠ []) : ∃ g cap, v = .slice (some ⟨g, 0, none⟩) l.length cap ∧ l.length ≤ cap := by
  rcases h.2 with ⟨rfl, h3⟩ | ⟨g, cap, cur, rfl, hg, hh, hn, -⟩
  · exact absurd (by simpa using h3) hl
  · simp only [List.length_map] at hn
    exact ⟨g, cap, by simp, hn⟩
theorem rsum_c (a : Option Addr) (l : List Int) (n cap : Nat) (w : World) (hn : l.length = n) (hr : Row w a l) (h2 : n % 2 = 0) (h20 : 20 ≤ n) (h60 : n ≤ 60) :
    Calls Tryd.prog 98 #[.slice a n cap] w fun E w' => E = .returned (.int .i64 (sumH l)) ∧ Away [] w w' := by
  subst hn
  have hlb := hr.2.1
  obtain ⟨b, off, rfl, -⟩ := hr.at 0 (by omega)
  have HR := Lib.hid hr
  clear hr
  go_enter Tryd.func98, Tryd.ntmps98
  go_wp2_with (at_builtin; refine wpList_app rfl _ _ rfl _ [] l rfl (Owns.nil _) ⟨b, off, none⟩ l.length cap rfl rfl HR.out.src (by simp; omega) ?_; refine Hid.out ?_)
  refine Lib.hid ?_
  intro v' w2 hown2 hgr hblk
  have HA : Hid (Away [] w w2) := (Away.refl [] w).grown hgr (by simp [Value.ownBlock])
  have hnw : New w.heap.size v' := fun k hk => by
    rcases hblk k hk with h | h
    · simp [Value.ownBlock] at h
    · exact h
  replace hown2 : Owns w2 v' l := hown2
  clear hgr hblk
  obtain ⟨g, c, rfl, hc⟩ := hown2.some' (by intro h; rw [h] at h20; simp at h20)
  have hg := hnw g rfl
  obtain ⟨d0, d1⟩ := hown2.cells 10 (by omega)
  have hl1 : (l.set 10 0).length = l.length := by simp
  have ho3 := hown2.set rfl 10 0
  obtain ⟨d2, d3⟩ := ho3.cells 11 (by omega)
  have ho4 := ho3.set hl1 11 0
  have hA4 := (HA.out.setCell (p := ⟨g, 10, none⟩) (.inr hg) (.int .u8 0)).setCell (p := ⟨g, 11, none⟩) (.inr hg) (.int .u8 0)
  have HO4 := Lib.hid ho4; have HA4 := Lib.hid hA4
  clear ho4 hA4
  go_upto_region 4 with fail
  clear d0 d1
  generalize hw3 : w2.setCell ⟨g, 10, none⟩ (.int .u8 0) = w3 at *
  clear hw3 ho3 hown2
  go_upto_region 5 with fail
  clear d2 d3
  generalize w3.setCell ⟨g, 11, none⟩ (.int .u8 0) = w4 at *
  have hbb : Bytes ((l.set 10 0).set 11 0) := (hlb.set 10 (by omega) (by omega)).set 11 (by omega) (by omega)
  have hl2 : ((l.set 10 0).set 11 0).length = l.length := by simp
  have hpb := pt_bd hbb
  have HS : Hid (sumH l = 65535 - pt ((l.set 10 0).set 11 0)) := rfl
  have HRW := Lib.hid (HO4.out.row' (by rw [hl2]; omega) hbb)
  go_wp2_with fail
  refine (rpart_c _ _ _ c _ hl2 (by exact HRW.out) h2 h60).mono ?_
  rintro E w5 ⟨rfl, k, rfl⟩
  generalize pt ((l.set 10 0).set 11 0) = P at *
  go_wp2_with fail
  go_ret
  exact ⟨by rw [HS.out]; rfl, HA4.out.drewN k⟩
def sealP (l : List Int) : Bool := decide (w16 l 10 = sumH l)
theorem rseal_c (a : Option Addr) (l : List Int) (n cap : Nat) (w : World) (hn : l.length = n) (hr : Row w a l) (h2 : n % 2 = 0) (h20 : 20 ≤ n) (h60 : n ≤ 60) :
    Calls Tryd.prog 76 #[.slice a n cap] w fun E w' => E = .returned (.bool (sealP l)) ∧ Away [] w w' := by
  have HR := Lib.hid hr
  have HS : Hid (sealP l = decide (w16 l 10 = sumH l)) := rfl
  have hg : Hid (∀ w', Away [] w w' → Calls Tryd.prog 75 #[.slice a n cap, .int .i64 10] w' fun E w'' => E = .returned (.int .i64 (w16 l 10)) ∧ Away [] w' w'') := fun w' h => (rget_c a l n cap 10 w' hn (hr.on h) (by omega)).mono (fun E w'' ⟨h1, k, h2⟩ => ⟨h1, by rw [h2]; exact (Away.refl [] w').drewN k⟩)
  have hs : Hid (∀ w', Away [] w w' → Calls Tryd.prog 98 #[.slice a n cap] w' fun E w'' => E = .returned (.int .i64 (sumH l)) ∧ Away [] w' w'') := fun w' h => rsum_c a l n cap w' hn (hr.on h) h2 h20 h60
  clear hr HR
  generalize sealP l = Z at *
  go_enter Tryd.func76, Tryd.ntmps76
  go_wp2_with fail
  refine (hg.out w (Away.refl _ _)).mono ?_
  rintro E w1 ⟨rfl, haw⟩
  have HA := Lib.hid haw
  clear haw
  go_wp2_with fail
  refine (hs.out w1 HA.out).mono ?_
  rintro E w2 ⟨rfl, haw⟩
  replace HA := Lib.hid (HA.out.on haw)
  clear haw hg hs
  have hb : (w16 l 10 == sumH l) = Z := by rw [HS.out]; rfl
  generalize w16 l 10 = x at *
  generalize sumH l = y at *
  go_wp2_with fail
  go_ret
  exact ⟨by rw [← hb]; rfl, HA.out⟩
#print axioms rseal_c
end Go.Proofs.YtbgpjhekohabiabDoor

namespace Go.Proofs.YtbgpjhekohabiabDoor
open Go.ChangeShapes Go.WideShapes Go.ChangeAt Go.RowKit Go.Deep Num
set_option linter.unusedVariables false
set_option maxHeartbeats 4000000
set_option maxRecDepth 100000

/-- The first k bytes of l, and noughts. -/
def stL (l : List Int) (k : Nat) : List Int := l.take k ++ z16.drop k
theorem stL_len (l : List Int) (k : Nat) (h : k ≤ l.length) (hk : k ≤ 16) : (stL l k).length = 16 := by
  simp [stL, z16]; omega
theorem stL_set {l : List Int} {k : Nat} (hl : k < l.length) (hk : k < 16) {x : Int} (hx : l[k]? = some x) : (stL l k).set k x = stL l (k + 1) := by
  unfold stL
  rw [List.set_append_right _ _ (by simp; omega), show k - (l.take k).length = 0 from by simp; omega]
  have : z16.drop k = 0 :: z16.drop (k + 1) := (show ∀ k, k < 16 → z16.drop k = 0 :: z16.drop (k + 1) by decide) k hk
  rw [this, List.set_cons_zero, List.take_succ_eq_append_getElem hl]
  have : l[k] = x := by rw [List.getElem?_eq_getElem hl] at hx; simpa using hx
  rw [this, List.append_assoc]; rfl
theorem BoxA.byte' {w : World} {g : Nat} {v : Int} {l : List Int} (h : BoxA w g v l) (i : Nat) (hi : i < l.length) : w.cell? ⟨g, 1 + i, none⟩ = some (.int .u8 (l[i]?.getD 0)) := by
  rw [cell_of_block h]
  simp [csA, cellsA, Nat.add_comm 1 i, hi]
theorem BoxA.put {w : World} {g : Nat} {v : Int} {l : List Int} (h : BoxA w g v l) (i : Nat) (x : Int) : BoxA (w.setCell ⟨g, 1 + i, none⟩ (.int .u8 x)) g v (l.set i x) := by
  unfold BoxA
  rw [block_set h]
  congr 2
  apply Array.ext'
  rw [Array.toList_setIfInBounds]
  show (cellsA v l).set (1 + i) (.int .u8 x) = cellsA v (l.set i x)
  unfold cellsA
  rw [Nat.add_comm, List.set_cons_succ, List.map_set]
theorem radr_c (a : Option Addr) (l : List Int) (n cap : Nat) (w : World) (hn : l.length = n) (hr : Row w a l) (h4 : 4 ≤ n) :
    Calls Tryd.prog 99 #[.slice a n cap] w fun E w' => E = .returned (.agg (csA 4 (l.take 4 ++ z12))) ∧ Away [] w w' := by
  subst hn
  have hlen := hr.1
  have HR := Lib.hid hr
  clear hr
  go_enter Tryd.func99, Tryd.ntmps99
  go_wp2_with (refine wpList_alloc24 rfl rfl ?_; refine Hid.out ?_)
  refine Lib.hid ?_
  intro g2 w1 hg2 hb2 haw1
  have HB2 := Lib.hid hb2; have HA1 := Lib.hid haw1
  have hl2 := hb2.lt
  clear hb2 haw1
  go_wp2_with (first | (refine wpList_alloc24 rfl rfl ?_; refine Hid.out ?_))
  refine Lib.hid ?_
  intro g3 w2 hg3 hb3 haw2
  have HB3 := Lib.hid hb3; have HA2 := Lib.hid haw2
  have hl3 := hb3.lt
  clear hb3 haw2
  go_wp2_with (first | (refine wpList_store24b rfl _ _ rfl _ rfl 4 z16 rfl 0 z16 (by exact HB3.out) rfl rfl ?_; refine Hid.out ?_))
  refine Lib.hid ?_
  intro w3 hb3 haw3
  have hs1 := HA1.out.size; have hs2 := HA2.out.size; have hs3 := haw3.size
  have HST : Hid (BoxA w3 g3 4 z16 ∧ BoxA w3 g2 0 z16 ∧ Away [] w w3) := ⟨hb3, (HB2.out.keep HA2.out (by simp)).keep haw3 (by simp; omega), (HA1.out.next HA2.out (by simp)).next haw3 (fun x hx => .inr (by simp at hx; omega))⟩
  clear HB2 HB3 HA1 HA2 hb3 haw3
  go_wp2_with fail
  go_loopw [4] (fun i wr => ∃ k : Nat, k ≤ 4 ∧ i = .int .i64 k ∧ BoxA wr g3 4 (stL l k) ∧ BoxA wr g2 0 z16 ∧ Away [] w wr) (fun i _ => 4 - (intOf i).toNat)
  case atStart => exact ⟨0, by omega, rfl, HST.out⟩
  case round =>
    obtain ⟨k, hk, rfl, hb3, hb2, haw⟩ := hrel
    have HB3 := Lib.hid hb3; have HB2 := Lib.hid hb2; have HAW := Lib.hid haw
    clear hb3 hb2 haw HST
    obtain rfl | rfl | rfl | rfl | rfl : k = 0 ∨ k = 1 ∨ k = 2 ∨ k = 3 ∨ k = 4 := by omega
    · obtain ⟨b, off, ha', c0⟩ := HR.out.at 0 (by omega)
      have c0' := HAW.out.cell (by simp) c0
      try simp only [Nat.add_zero] at c0'
      subst ha'
      have hx : l[0]? = some (gt l 0) := by unfold gt; rw [List.getElem?_eq_getElem (by omega)]; rfl
      have c1 := HB3.out.byte' 0 (by rw [stL_len _ _ (by omega) (by omega)]; omega)
      have c2 := free_of_block HB3.out 1
      have hb3 := HB3.out.put 0 (gt l 0)
      rw [stL_set (by omega) (by omega) hx] at hb3
      have hA := (Away.refl [g3] wr).setCell (p := ⟨g3, 1 + 0, none⟩) (.inl (by simp)) (.int .u8 (gt l 0))
      have hb2 := HB2.out.keep hA (by simp; omega)
      have haw := HAW.out.setCell (p := ⟨g3, 1 + 0, none⟩) (.inr (by show w.heap.size ≤ g3; omega)) (.int .u8 (gt l 0))
      simp only [Nat.reduceAdd] at c1 hb3 hA hb2 haw
      have HST := Lib.hid (And.intro hb3 (And.intro hb2 haw))
      clear hb3 hA hb2 haw HB2 HB3 HAW c0 hx
      generalize (stL l 0)[0]?.getD 0 = old at c1
      generalize gt l 0 = x at *
      have i0 : (0 : Int) < (l.length : Int) := by omega
      go_wp2_with fail
      go_roundw
      case rel => exact ⟨1, by omega, by rfl, HST.out.1, HST.out.2.1, HST.out.2.2⟩
      case measure => simp [intOf]
    · obtain ⟨b, off, ha', c0⟩ := HR.out.at 1 (by omega)
      have c0' := HAW.out.cell (by simp) c0
      try simp only [Nat.add_zero] at c0'
      subst ha'
      have hx : l[1]? = some (gt l 1) := by unfold gt; rw [List.getElem?_eq_getElem (by omega)]; rfl
      have c1 := HB3.out.byte' 1 (by rw [stL_len _ _ (by omega) (by omega)]; omega)
      have c2 := free_of_block HB3.out 2
      have hb3 := HB3.out.put 1 (gt l 1)
      rw [stL_set (by omega) (by omega) hx] at hb3
      have hA := (Away.refl [g3] wr).setCell (p := ⟨g3, 1 + 1, none⟩) (.inl (by simp)) (.int .u8 (gt l 1))
      have hb2 := HB2.out.keep hA (by simp; omega)
      have haw := HAW.out.setCell (p := ⟨g3, 1 + 1, none⟩) (.inr (by show w.heap.size ≤ g3; omega)) (.int .u8 (gt l 1))
      simp only [Nat.reduceAdd] at c1 hb3 hA hb2 haw
      have HST := Lib.hid (And.intro hb3 (And.intro hb2 haw))
      clear hb3 hA hb2 haw HB2 HB3 HAW c0 hx
      generalize (stL l 1)[1]?.getD 0 = old at c1
      generalize gt l 1 = x at *
      have i0 : (1 : Int) < (l.length : Int) := by omega
      go_wp2_with fail
      go_roundw
      case rel => exact ⟨2, by omega, by rfl, HST.out.1, HST.out.2.1, HST.out.2.2⟩
      case measure => simp [intOf]
    · obtain ⟨b, off, ha', c0⟩ := HR.out.at 2 (by omega)
      have c0' := HAW.out.cell (by simp) c0
      try simp only [Nat.add_zero] at c0'
      subst ha'
      have hx : l[2]? = some (gt l 2) := by unfold gt; rw [List.getElem?_eq_getElem (by omega)]; rfl
      have c1 := HB3.out.byte' 2 (by rw [stL_len _ _ (by omega) (by omega)]; omega)
      have c2 := free_of_block HB3.out 3
      have hb3 := HB3.out.put 2 (gt l 2)
      rw [stL_set (by omega) (by omega) hx] at hb3
      have hA := (Away.refl [g3] wr).setCell (p := ⟨g3, 1 + 2, none⟩) (.inl (by simp)) (.int .u8 (gt l 2))
      have hb2 := HB2.out.keep hA (by simp; omega)
      have haw := HAW.out.setCell (p := ⟨g3, 1 + 2, none⟩) (.inr (by show w.heap.size ≤ g3; omega)) (.int .u8 (gt l 2))
      simp only [Nat.reduceAdd] at c1 hb3 hA hb2 haw
      have HST := Lib.hid (And.intro hb3 (And.intro hb2 haw))
      clear hb3 hA hb2 haw HB2 HB3 HAW c0 hx
      generalize (stL l 2)[2]?.getD 0 = old at c1
      generalize gt l 2 = x at *
      have i0 : (2 : Int) < (l.length : Int) := by omega
      go_wp2_with fail
      go_roundw
      case rel => exact ⟨3, by omega, by rfl, HST.out.1, HST.out.2.1, HST.out.2.2⟩
      case measure => simp [intOf]
    · obtain ⟨b, off, ha', c0⟩ := HR.out.at 3 (by omega)
      have c0' := HAW.out.cell (by simp) c0
      try simp only [Nat.add_zero] at c0'
      subst ha'
      have hx : l[3]? = some (gt l 3) := by unfold gt; rw [List.getElem?_eq_getElem (by omega)]; rfl
      have c1 := HB3.out.byte' 3 (by rw [stL_len _ _ (by omega) (by omega)]; omega)
      have c2 := free_of_block HB3.out 4
      have hb3 := HB3.out.put 3 (gt l 3)
      rw [stL_set (by omega) (by omega) hx] at hb3
      have hA := (Away.refl [g3] wr).setCell (p := ⟨g3, 1 + 3, none⟩) (.inl (by simp)) (.int .u8 (gt l 3))
      have hb2 := HB2.out.keep hA (by simp; omega)
      have haw := HAW.out.setCell (p := ⟨g3, 1 + 3, none⟩) (.inr (by show w.heap.size ≤ g3; omega)) (.int .u8 (gt l 3))
      simp only [Nat.reduceAdd] at c1 hb3 hA hb2 haw
      have HST := Lib.hid (And.intro hb3 (And.intro hb2 haw))
      clear hb3 hA hb2 haw HB2 HB3 HAW c0 hx
      generalize (stL l 3)[3]?.getD 0 = old at c1
      generalize gt l 3 = x at *
      have i0 : (3 : Int) < (l.length : Int) := by omega
      go_wp2_with fail
      go_roundw
      case rel => exact ⟨4, by omega, by rfl, HST.out.1, HST.out.2.1, HST.out.2.2⟩
      case measure => simp [intOf]
    · have HB3' : Hid (BoxA wr g3 4 (l.take 4 ++ z12)) := HB3.out
      have hlm : (l.take 4 ++ z12).length = 16 := by simp [z12]; omega
      have hr3 := Lib.hid (rowAt_of (HB3'.out : wr.heap[g3]? = _) (csA_size hlm))
      have HLM := Lib.hid hlm
      clear hlm HB3
      generalize hml : l.take 4 ++ z12 = ml at *
      have HML := Lib.hid hml
      clear hml
      go_wp2_with (first | (refine wpList_load24 rfl _ rfl _ rfl _ hr3.out ?_) | (refine wpList_store24b rfl _ _ rfl _ rfl 4 ml rfl 0 z16 (by exact HB2.out) HLM.out rfl ?_; refine Hid.out ?_))
      refine Lib.hid ?_
      intro w6 hb6 haw6
      have HA6 : Hid (Away [] w w6) := HAW.out.next haw6 (fun x hx => .inr (by simp at hx; omega))
      have hr6 := Lib.hid (rowAt_of (hb6 : w6.heap[g2]? = _) (csA_size HLM.out))
      clear hb6 haw6
      go_wp2_with fail
      refine bodyPost_ret (v := .agg (csA 4 ml)) ?_ rfl ⟨by rw [HML.out], HA6.out⟩
      exact result24 rfl _ _ _ _ rfl hr6.out
#print axioms radr_c
end Go.Proofs.YtbgpjhekohabiabDoor

namespace Go.Proofs.YtbgpjhekohabiabDoor
open Go.ChangeShapes Go.WideShapes Go.ChangeAt Go.RowKit Go.Deep Num
set_option linter.unusedVariables false
set_option maxHeartbeats 4000000
set_option maxRecDepth 100000

theorem Owns.shp {w : World} {v : Value} {l : List Int} (h : Owns w v l) : ∃ a n c, v = .slice a n c := by
  rcases h.2 with ⟨rfl, _⟩ | ⟨g, cap, cur, rfl, _⟩
  · exact ⟨_, _, _, rfl⟩
  · exact ⟨_, _, _, rfl⟩
theorem BoxP.setRow {w : World} {g : Nat} {p : Pk} {ov dv : Value} (h : BoxP w g p ov dv) (q : Pk) (ou du : Value) : BoxP (w.setRow g (csP q ou du)) g q ou du := by
  unfold BoxP at h ⊢; simp [World.setRow, Array.getElem?_modify, h]
theorem cell_setRow {w : World} {g b o : Nat} {cs : Array Value} {v : Value} (h : b ≠ g) (hc : w.cell? ⟨b, o, none⟩ = some v) : (w.setRow g cs).cell? ⟨b, o, none⟩ = some v :=
  ((Away.refl [g] w).setRow (.inl (by simp)) cs).cell (by simpa using h) hc
def ReadOut (w : World) (p : Pk) (E : Ending) (w' : World) : Prop := ∃ ov dv, E = .returned (.agg (csP p ov dv)) ∧ Owns w' ov p.o ∧ Owns w' dv p.d ∧ New w.heap.size ov ∧ New w.heap.size dv ∧ Away [] w w'
theorem rread_c (a : Option Addr) (l : List Int) (n cap N : Nat) (w : World) (hn : l.length = n) (hcap : n ≤ cap) (hr : Row w a l) (h20 : 20 ≤ N) (hN : N ≤ n) (h60 : N ≤ 60) :
    Calls Tryd.prog 77 #[.slice a n cap, .int .i64 (N : Int)] w fun E w' => ReadOut w (readP l N) E w' := by
  subst hn
  have hlen := hr.1
  have hlb := hr.2.1
  obtain ⟨b, off, rfl, c1⟩ := hr.at 1 (by omega)
  obtain ⟨b', off', he, c8⟩ := hr.at 8 (by omega)
  simp only [Option.some.injEq, Addr.mk.injEq, and_true] at he
  obtain ⟨rfl, rfl⟩ := he
  obtain ⟨b', off', he, c9⟩ := hr.at 9 (by omega)
  simp only [Option.some.injEq, Addr.mk.injEq, and_true] at he
  obtain ⟨rfl, rfl⟩ := he
  have x1 := gt_bd hlb 1; have x8 := gt_bd hlb 8; have x9 := gt_bd hlb 9
  have y4 := gt_bd hlb 4; have y5 := gt_bd hlb 5; have y6 := gt_bd hlb 6; have y7 := gt_bd hlb 7
  have f4 : 0 ≤ w16 l 4 ∧ w16 l 4 ≤ 65535 := by have e : w16 l 4 = 256 * gt l 4 + gt l 5 := rfl; omega
  have f6 : 0 ≤ w16 l 6 ∧ w16 l 6 ≤ 65535 := by have e : w16 l 6 = 256 * gt l 6 + gt l 7 := rfl; omega
  have HR := Lib.hid hr
  obtain ⟨A1, hA1⟩ : ∃ A, A = if cap = 12 then some (⟨b, off, none⟩ : Addr) else (some (⟨b, off, none⟩ : Addr)).map (·.add 12) := ⟨_, rfl⟩
  obtain ⟨A2, hA2⟩ : ∃ A, A = if cap = 16 then some (⟨b, off, none⟩ : Addr) else (some (⟨b, off, none⟩ : Addr)).map (·.add 16) := ⟨_, rfl⟩
  obtain ⟨A3, hA3⟩ : ∃ A, A = if cap = 20 then some (⟨b, off, none⟩ : Addr) else (some (⟨b, off, none⟩ : Addr)).map (·.add 20) := ⟨_, rfl⟩
  obtain ⟨A4, hA4⟩ : ∃ A, A = if cap = N then some (⟨b, off, none⟩ : Addr) else (some (⟨b, off, none⟩ : Addr)).map (·.add N) := ⟨_, rfl⟩
  have nA3 : A3 = none → cap - 20 = 0 := by rw [hA3]; intro h; revert h; split <;> simp
  have nA4 : A4 = none → cap - N = 0 := by rw [hA4]; intro h; revert h; split <;> simp
  have t1 : Row w A1 (l.drop 12) := by have h := hr.tail 12 cap hcap (by omega); rw [← hA1] at h; exact h
  have t2 : Row w A2 (l.drop 16) := by have h := hr.tail 16 cap hcap (by omega); rw [← hA2] at h; exact h
  have t3 : Row w A3 ((l.drop 20).take (N - 20)) := by have h := hr.sub 20 (N - 20) cap hcap (by omega); rw [← hA3] at h; exact h
  have t4 : Row w A4 (l.drop N) := by have h := hr.tail N cap hcap (by omega); rw [← hA4] at h; exact h
  have v1 := slice_l (some ⟨b, off, none⟩) A1 l.length cap 12 12 hA1 rfl (by omega)
  have v2 := slice_l (some ⟨b, off, none⟩) A2 l.length cap 16 16 hA2 rfl (by omega)
  have v3 := slice_lh (some ⟨b, off, none⟩) A3 l.length cap 20 (N - 20) 20 (N : Int) hA3 rfl (by omega) (by omega)
  have v4 := slice_l (some ⟨b, off, none⟩) A4 l.length cap N (N : Int) hA4 rfl (by omega)
  obtain ⟨b0, b1, b2, b3, b4, b5, b6, b7, b8, b9, b10, b11, b12, b13, b14, b15, b16, b17, b18, b19, r, hbe⟩ := list20 (b := l) (by omega)
  have j12 : (l.drop 12).take 4 = [b12, b13, b14, b15] := by rw [hbe]; rfl
  have j16 : (l.drop 16).take 4 = [b16, b17, b18, b19] := by rw [hbe]; rfl
  have j1 : gt l 1 = b1 := by rw [hbe]; rfl
  have j8 : gt l 8 = b8 := by rw [hbe]; rfl
  have j9 : gt l 9 = b9 := by rw [hbe]; rfl
  have K1 : Hid (∀ w', Away [] w w' → Calls Tryd.prog 99 #[.slice A1 (l.length - 12) (cap - 12)] w' fun E w'' => E = .returned (.agg #[.int .i64 4, .int .u8 b12, .int .u8 b13, .int .u8 b14, .int .u8 b15, .int .u8 0, .int .u8 0, .int .u8 0, .int .u8 0, .int .u8 0, .int .u8 0, .int .u8 0, .int .u8 0, .int .u8 0, .int .u8 0, .int .u8 0, .int .u8 0]) ∧ Away [] w' w'') := fun w' h => by
    have hh := radr_c A1 (l.drop 12) (l.length - 12) (cap - 12) w' (by simp) (t1.on h) (by omega)
    rw [j12] at hh
    exact hh
  have K2 : Hid (∀ w', Away [] w w' → Calls Tryd.prog 99 #[.slice A2 (l.length - 16) (cap - 16)] w' fun E w'' => E = .returned (.agg #[.int .i64 4, .int .u8 b16, .int .u8 b17, .int .u8 b18, .int .u8 b19, .int .u8 0, .int .u8 0, .int .u8 0, .int .u8 0, .int .u8 0, .int .u8 0, .int .u8 0, .int .u8 0, .int .u8 0, .int .u8 0, .int .u8 0, .int .u8 0]) ∧ Away [] w' w'') := fun w' h => by
    have hh := radr_c A2 (l.drop 16) (l.length - 16) (cap - 16) w' (by simp) (t2.on h) (by omega)
    rw [j16] at hh
    exact hh
  have K3 : Hid (∀ w', Away [] w w' → Calls Tryd.prog 100 #[.slice A3 (N - 20) (cap - 20)] w' fun E w'' => ∃ v, E = .returned v ∧ Owns w'' v ((l.drop 20).take (N - 20)) ∧ New w'.heap.size v ∧ Away [] w' w'') := fun w' h => rown_c A3 _ _ (cap - 20) w' (by simp; omega) nA3 (t3.on h)
  have K4 : Hid (∀ w', Away [] w w' → Calls Tryd.prog 100 #[.slice A4 (l.length - N) (cap - N)] w' fun E w'' => ∃ v, E = .returned v ∧ Owns w'' v (l.drop N) ∧ New w'.heap.size v ∧ Away [] w' w'') := fun w' h => rown_c A4 _ _ (cap - N) w' (by simp) nA4 (t4.on h)
  have KG : Hid (∀ w' i, i + 1 < l.length → Away [] w w' → Calls Tryd.prog 75 #[.slice (some ⟨b, off, none⟩) l.length cap, .int .i64 ((i : Nat) : Int)] w' fun E w'' => E = .returned (.int .i64 (w16 l i)) ∧ Away [] w' w'') := fun w' i hi h => (rget_c _ l _ cap i w' rfl (hr.on h) hi).mono (fun E w'' ⟨h1, k, h2⟩ => ⟨h1, by rw [h2]; exact (Away.refl [] w').drewN k⟩)
  have HRP : Hid (readP l N = ⟨4, b1, 0, 4, [b12, b13, b14, b15] ++ z12, 4, [b16, b17, b18, b19] ++ z12, b9, b8, w16 l 4, decide (w16 l 6 / 16384 % 2 = 1), decide (w16 l 6 / 8192 % 2 = 1), false, w16 l 6 % 8192 * 8, (l.drop 20).take (N - 20), l.drop N⟩) := by show _ = _; unfold readP; rw [j12, j16, j1, j8, j9]
  rw [j1] at c1 x1
  rw [j8] at c8 x8
  rw [j9] at c9 x9
  clear hr t1 t2 t3 t4 hA1 hA2 hA3 hA4 nA3 nA4 j12 j16 j1 j8 j9 hbe y4 y5 y6 y7
  have hlt := block_lt_of_cell c1
  obtain ⟨F4, hF4⟩ : ∃ F, w16 l 4 = F := ⟨_, rfl⟩
  obtain ⟨F6, hF6⟩ : ∃ F, w16 l 6 = F := ⟨_, rfl⟩
  rw [hF4] at f4 HRP
  rw [hF6] at f6 HRP
  have HF4 := Lib.hid hF4
  have HF6 := Lib.hid hF6
  clear hF4 hF6
  have wr1 : IntKind.i64.wrap b1 = b1 := by rw [IntKind.wrap_i64]; omega
  have wr8 : IntKind.i64.wrap b8 = b8 := by rw [IntKind.wrap_i64]; omega
  have wr9 : IntKind.i64.wrap b9 = b9 := by rw [IntKind.wrap_i64]; omega
  have wrF4 : IntKind.u32.wrap F4 = F4 := by rw [IntKind.wrap_u32]; omega
  have td1 : F6.tdiv 16384 = F6 / 16384 := Int.tdiv_eq_ediv_of_nonneg f6.1
  have td2 : F6.tdiv 8192 = F6 / 8192 := Int.tdiv_eq_ediv_of_nonneg f6.1
  have tm1 : (F6 / 16384).tmod 2 = F6 / 16384 % 2 := Int.tmod_eq_emod_of_nonneg (by omega)
  have tm2 : (F6 / 8192).tmod 2 = F6 / 8192 % 2 := Int.tmod_eq_emod_of_nonneg (by omega)
  have tm3 : F6.tmod 8192 = F6 % 8192 := Int.tmod_eq_emod_of_nonneg f6.1
  have wrq1 : IntKind.i64.wrap (F6 / 16384) = F6 / 16384 := by rw [IntKind.wrap_i64]; omega
  have wrq2 : IntKind.i64.wrap (F6 / 8192) = F6 / 8192 := by rw [IntKind.wrap_i64]; omega
  have wrq3 : IntKind.i64.wrap (F6 / 16384 % 2) = F6 / 16384 % 2 := by rw [IntKind.wrap_i64]; omega
  have wrq4 : IntKind.i64.wrap (F6 / 8192 % 2) = F6 / 8192 % 2 := by rw [IntKind.wrap_i64]; omega
  have wrq5 : IntKind.i64.wrap (F6 % 8192) = F6 % 8192 := by rw [IntKind.wrap_i64]; omega
  have wrq6 : IntKind.i64.wrap (F6 % 8192 * 8) = F6 % 8192 * 8 := by rw [IntKind.wrap_i64]; omega
  have i1 : (1 : Int) < (l.length : Int) := by omega
  have i8 : (8 : Int) < (l.length : Int) := by omega
  have i9 : (9 : Int) < (l.length : Int) := by omega
  go_enter Tryd.func77, Tryd.ntmps77
  go_wp2_with (refine wpList_alloc28 rfl rfl ?_; refine Hid.out ?_)
  refine Lib.hid ?_
  intro g4 w1 hg4 hb4 haw1
  have HB := Lib.hid hb4
  have HA := Lib.hid haw1
  have hl4 := hb4.lt
  clear hb4 haw1
  go_wp2_with fail
  refine (KG.out w1 6 (by omega) HA.out).mono ?_
  rintro E w2 ⟨rfl, haw⟩
  rw [HF6.out]
  replace HB := Lib.hid (HB.out.on haw)
  replace HA := Lib.hid (HA.out.on haw)
  have hs2 := haw.size
  clear haw
  replace c1 := HA.out.cell (by simp) c1
  replace c8 := HA.out.cell (by simp) c8
  replace c9 := HA.out.cell (by simp) c9

  go_wp2_with fail
  have hbg : b ≠ g4 := by omega
  refine wp_region_held_drew (S := fun w' => w'.cell? ⟨b, off + 1, none⟩ = some (.int .u8 b1) ∧ w'.cell? ⟨b, off + 8, none⟩ = some (.int .u8 b8) ∧ w'.cell? ⟨b, off + 9, none⟩ = some (.int .u8 b9)) (by kernel_rfl) ⟨c1, c8, c9⟩ (fun hHeld => ?_)
  refine wpAnyH_take (i := 0) (v := ?_) (by simp only [List.getElem?_toArray, List.getElem?_cons_zero]; rfl) (by kernel_rfl) (by kernel_rfl) (by kernel_rfl) (by exact fun _ _ _ h => h) (Or.inl ⟨by rfl, ?_⟩) (by assumption) ?_
  rotate_left
  · intro wq hSw
    (try dsimp only at hSw)
    go_simp
    all_goals (with_reducible rfl)
  try simp only [Act.put, List.setIfInBounds_toArray, List.set_cons_zero, List.set_cons_succ]
  refine wpAnyH_take (i := 1) (v := ?_) (by simp only [List.getElem?_toArray, List.getElem?_cons_succ, List.getElem?_cons_zero]; rfl) (by kernel_rfl) (by kernel_rfl) (by kernel_rfl) (by exact fun _ _ _ h => h) (Or.inl ⟨by rfl, ?_⟩) (by assumption) ?_
  rotate_left
  · intro wq hSw
    (try dsimp only at hSw)
    go_simp
    all_goals (with_reducible rfl)
  try simp only [Act.put, List.setIfInBounds_toArray, List.set_cons_zero, List.set_cons_succ]
  refine wpAnyH_take (i := 2) (v := ?_) (by simp only [List.getElem?_toArray, List.getElem?_cons_succ, List.getElem?_cons_zero]; rfl) (by kernel_rfl) (by kernel_rfl) (by kernel_rfl) (by exact fun _ _ _ h => h) (Or.inl ⟨by rfl, ?_⟩) (by assumption) ?_
  rotate_left
  · intro wq hSw
    (try dsimp only at hSw)
    go_simp
    all_goals (with_reducible rfl)
  try simp only [Act.put, List.setIfInBounds_toArray, List.set_cons_zero, List.set_cons_succ]
  refine wpAnyH_take (i := 3) (v := ?_) (by simp only [List.getElem?_toArray, List.getElem?_cons_succ, List.getElem?_cons_zero]; rfl) (by kernel_rfl) (by kernel_rfl) (by kernel_rfl) (by exact fun _ _ _ h => h) (Or.inl ⟨by rfl, ?_⟩) (by assumption) ?_
  rotate_left
  · intro wq hSw
    (try dsimp only at hSw)
    go_simp
    all_goals (with_reducible rfl)
  try simp only [Act.put, List.setIfInBounds_toArray, List.set_cons_zero, List.set_cons_succ]
  refine wpAnyH_take (i := 4) (v := ?_) (by simp only [List.getElem?_toArray, List.getElem?_cons_succ, List.getElem?_cons_zero]; rfl) (by kernel_rfl) (by kernel_rfl) (by kernel_rfl) (by exact fun _ _ _ h => h) (Or.inl ⟨by rfl, ?_⟩) (by assumption) ?_
  rotate_left
  · intro wq hSw
    (try dsimp only at hSw)
    go_simp
    all_goals (with_reducible rfl)
  try simp only [Act.put, List.setIfInBounds_toArray, List.set_cons_zero, List.set_cons_succ]
  refine wpAnyH_take (i := 5) (v := ?_) (by simp only [List.getElem?_toArray, List.getElem?_cons_succ, List.getElem?_cons_zero]; rfl) (by kernel_rfl) (by kernel_rfl) (by kernel_rfl) (by exact fun _ _ _ h => h) (Or.inl ⟨by rfl, ?_⟩) (by assumption) ?_
  rotate_left
  · intro wq hSw
    (try dsimp only at hSw)
    go_simp
    all_goals (with_reducible rfl)
  try simp only [Act.put, List.setIfInBounds_toArray, List.set_cons_zero, List.set_cons_succ]
  refine wpAnyH_take (i := 7) (v := ?_) (by simp only [List.getElem?_toArray, List.getElem?_cons_succ, List.getElem?_cons_zero]; rfl) (by kernel_rfl) (by kernel_rfl) (by kernel_rfl) (by exact fun _ _ _ h => h) (Or.inl ⟨by rfl, ?_⟩) (by assumption) ?_
  rotate_left
  · intro wq hSw
    (try dsimp only at hSw)
    go_simp
    all_goals (with_reducible rfl)
  try simp only [Act.put, List.setIfInBounds_toArray, List.set_cons_zero, List.set_cons_succ]
  refine wpAnyH_take (i := 8) (v := ?_) (by simp only [List.getElem?_toArray, List.getElem?_cons_succ, List.getElem?_cons_zero]; rfl) (by kernel_rfl) (by kernel_rfl) (by kernel_rfl) (by exact fun _ _ _ h => h) (Or.inl ⟨by rfl, ?_⟩) (by assumption) ?_
  rotate_left
  · intro wq hSw
    (try dsimp only at hSw)
    go_simp
    all_goals (with_reducible rfl)
  try simp only [Act.put, List.setIfInBounds_toArray, List.set_cons_zero, List.set_cons_succ]
  refine wpAnyH_take (i := 10) (v := ?_) (by simp only [List.getElem?_toArray, List.getElem?_cons_succ, List.getElem?_cons_zero]; rfl) (by kernel_rfl) (by kernel_rfl) (by kernel_rfl) (by exact fun _ _ _ h => h) (Or.inl ⟨by rfl, ?_⟩) (by assumption) ?_
  rotate_left
  · intro wq hSw
    (try dsimp only at hSw)
    go_simp
    all_goals (with_reducible rfl)
  try simp only [Act.put, List.setIfInBounds_toArray, List.set_cons_zero, List.set_cons_succ]
  refine wpAnyH_take (i := 11) (v := ?_) (by simp only [List.getElem?_toArray, List.getElem?_cons_succ, List.getElem?_cons_zero]; rfl) (by kernel_rfl) (by kernel_rfl) (by kernel_rfl) (by exact fun _ _ _ h => h) (Or.inl ⟨by rfl, ?_⟩) (by assumption) ?_
  rotate_left
  · intro wq hSw
    (try dsimp only at hSw)
    go_simp
    all_goals (with_reducible rfl)
  try simp only [Act.put, List.setIfInBounds_toArray, List.set_cons_zero, List.set_cons_succ]
  refine wpAnyH_take (i := 12) (v := ?_) (by simp only [List.getElem?_toArray, List.getElem?_cons_succ, List.getElem?_cons_zero]; rfl) (by kernel_rfl) (by kernel_rfl) (by kernel_rfl) (by exact fun _ _ _ h => h) (Or.inl ⟨by rfl, ?_⟩) (by assumption) ?_
  rotate_left
  · intro wq hSw
    (try dsimp only at hSw)
    go_simp
    all_goals (with_reducible rfl)
  try simp only [Act.put, List.setIfInBounds_toArray, List.set_cons_zero, List.set_cons_succ]
  refine wpAnyH_take (i := 13) (v := ?_) (by simp only [List.getElem?_toArray, List.getElem?_cons_succ, List.getElem?_cons_zero]; rfl) (by kernel_rfl) (by kernel_rfl) (by kernel_rfl) (by exact fun _ _ _ h => h) (Or.inl ⟨by rfl, ?_⟩) (by assumption) ?_
  rotate_left
  · intro wq hSw
    (try dsimp only at hSw)
    go_simp
    all_goals (with_reducible rfl)
  try simp only [Act.put, List.setIfInBounds_toArray, List.set_cons_zero, List.set_cons_succ]
  refine wpAnyH_take (i := 14) (v := ?_) (by simp only [List.getElem?_toArray, List.getElem?_cons_succ, List.getElem?_cons_zero]; rfl) (by kernel_rfl) (by kernel_rfl) (by kernel_rfl) (by exact fun _ _ _ h => h) (Or.inl ⟨by rfl, ?_⟩) (by assumption) ?_
  rotate_left
  · intro wq hSw
    (try dsimp only at hSw)
    go_simp
    all_goals (with_reducible rfl)
  try simp only [Act.put, List.setIfInBounds_toArray, List.set_cons_zero, List.set_cons_succ]
  refine wpAnyH_take (i := 15) (v := ?_) (by simp only [List.getElem?_toArray, List.getElem?_cons_succ, List.getElem?_cons_zero]; rfl) (by kernel_rfl) (by kernel_rfl) (by kernel_rfl) (by exact fun _ _ _ h => h) (Or.inl ⟨by rfl, ?_⟩) (by assumption) ?_
  rotate_left
  · intro wq hSw
    (try dsimp only at hSw)
    go_simp
    all_goals (with_reducible rfl)
  try simp only [Act.put, List.setIfInBounds_toArray, List.set_cons_zero, List.set_cons_succ]
  refine wpAnyH_take (i := 16) (v := ?_) (by simp only [List.getElem?_toArray, List.getElem?_cons_succ, List.getElem?_cons_zero]; rfl) (by kernel_rfl) (by kernel_rfl) (by kernel_rfl) (by exact fun _ _ _ h => h) (Or.inl ⟨by rfl, ?_⟩) (by assumption) ?_
  rotate_left
  · intro wq hSw
    (try dsimp only at hSw)
    go_simp
    all_goals (with_reducible rfl)
  try simp only [Act.put, List.setIfInBounds_toArray, List.set_cons_zero, List.set_cons_succ]
  refine wpAnyH_take (i := 17) (v := ?_) (by simp only [List.getElem?_toArray, List.getElem?_cons_succ, List.getElem?_cons_zero]; rfl) (by kernel_rfl) (by kernel_rfl) (by kernel_rfl) (by exact fun _ _ _ h => h) (Or.inl ⟨by rfl, ?_⟩) (by assumption) ?_
  rotate_left
  · intro wq hSw
    (try dsimp only at hSw)
    go_simp
    all_goals (with_reducible rfl)
  try simp only [Act.put, List.setIfInBounds_toArray, List.set_cons_zero, List.set_cons_succ]
  refine wpAnyH_take (i := 18) (v := ?_) (by simp only [List.getElem?_toArray, List.getElem?_cons_succ, List.getElem?_cons_zero]; rfl) (by kernel_rfl) (by kernel_rfl) (by kernel_rfl) (by exact fun _ _ _ h => h) (Or.inl ⟨by rfl, ?_⟩) (by assumption) ?_
  rotate_left
  · intro wq hSw
    (try dsimp only at hSw)
    go_simp
    all_goals (with_reducible rfl)
  try simp only [Act.put, List.setIfInBounds_toArray, List.set_cons_zero, List.set_cons_succ]
  refine wpAnyH_take (i := 21) (v := ?_) (by simp only [List.getElem?_toArray, List.getElem?_cons_succ, List.getElem?_cons_zero]; rfl) (by kernel_rfl) (by kernel_rfl) (by kernel_rfl) (by exact fun _ _ _ h => h) (Or.inl ⟨by rfl, ?_⟩) (by assumption) ?_
  rotate_left
  · intro wq hSw
    (try dsimp only at hSw)
    go_simp
    all_goals (with_reducible rfl)
  try simp only [Act.put, List.setIfInBounds_toArray, List.set_cons_zero, List.set_cons_succ]
  refine wpAnyH_take (i := 22) (v := ?_) (by simp only [List.getElem?_toArray, List.getElem?_cons_succ, List.getElem?_cons_zero]; rfl) (by kernel_rfl) (by kernel_rfl) (by kernel_rfl) (by exact fun _ _ _ h => h) (Or.inl ⟨by rfl, ?_⟩) (by assumption) ?_
  rotate_left
  · intro wq hSw
    (try dsimp only at hSw)
    go_simp
    all_goals (with_reducible rfl)
  try simp only [Act.put, List.setIfInBounds_toArray, List.set_cons_zero, List.set_cons_succ]
  refine wpAnyH_take (i := 23) (v := ?_) (by simp only [List.getElem?_toArray, List.getElem?_cons_succ, List.getElem?_cons_zero]; rfl) (by kernel_rfl) (by kernel_rfl) (by kernel_rfl) (by exact fun _ _ _ h => h) (Or.inl ⟨by rfl, ?_⟩) (by assumption) ?_
  rotate_left
  · intro wq hSw
    (try dsimp only at hSw)
    go_simp
    all_goals (with_reducible rfl)
  try simp only [Act.put, List.setIfInBounds_toArray, List.set_cons_zero, List.set_cons_succ]
  refine wpAnyH_take (i := 24) (v := ?_) (by simp only [List.getElem?_toArray, List.getElem?_cons_succ, List.getElem?_cons_zero]; rfl) (by kernel_rfl) (by kernel_rfl) (by kernel_rfl) (by exact fun _ _ _ h => h) (Or.inl ⟨by rfl, ?_⟩) (by assumption) ?_
  rotate_left
  · intro wq hSw
    (try dsimp only at hSw)
    go_simp
    all_goals (with_reducible rfl)
  try simp only [Act.put, List.setIfInBounds_toArray, List.set_cons_zero, List.set_cons_succ]
  refine wpAnyH_take (i := 25) (v := ?_) (by simp only [List.getElem?_toArray, List.getElem?_cons_succ, List.getElem?_cons_zero]; rfl) (by kernel_rfl) (by kernel_rfl) (by kernel_rfl) (by exact fun _ _ _ h => h) (Or.inl ⟨by rfl, ?_⟩) (by assumption) ?_
  rotate_left
  · intro wq hSw
    (try dsimp only at hSw)
    go_simp
    all_goals (with_reducible rfl)
  try simp only [Act.put, List.setIfInBounds_toArray, List.set_cons_zero, List.set_cons_succ]
  refine wpAnyH_take (i := 26) (v := ?_) (by simp only [List.getElem?_toArray, List.getElem?_cons_succ, List.getElem?_cons_zero]; rfl) (by kernel_rfl) (by kernel_rfl) (by kernel_rfl) (by exact fun _ _ _ h => h) (Or.inl ⟨by rfl, ?_⟩) (by assumption) ?_
  rotate_left
  · intro wq hSw
    (try dsimp only at hSw)
    go_simp
    all_goals (with_reducible rfl)
  try simp only [Act.put, List.setIfInBounds_toArray, List.set_cons_zero, List.set_cons_succ]
  refine wpAnyH_take (i := 27) (v := ?_) (by simp only [List.getElem?_toArray, List.getElem?_cons_succ, List.getElem?_cons_zero]; rfl) (by kernel_rfl) (by kernel_rfl) (by kernel_rfl) (by exact fun _ _ _ h => h) (Or.inl ⟨by rfl, ?_⟩) (by assumption) ?_
  rotate_left
  · intro wq hSw
    (try dsimp only at hSw)
    go_simp
    all_goals (with_reducible rfl)
  try simp only [Act.put, List.setIfInBounds_toArray, List.set_cons_zero, List.set_cons_succ]
  refine wpAnyH_take (i := 28) (v := ?_) (by simp only [List.getElem?_toArray, List.getElem?_cons_succ, List.getElem?_cons_zero]; rfl) (by kernel_rfl) (by kernel_rfl) (by kernel_rfl) (by exact fun _ _ _ h => h) (Or.inl ⟨by rfl, ?_⟩) (by assumption) ?_
  rotate_left
  · intro wq hSw
    (try dsimp only at hSw)
    go_simp
    all_goals (with_reducible rfl)
  try simp only [Act.put, List.setIfInBounds_toArray, List.set_cons_zero, List.set_cons_succ]
  refine wpAnyH_take (i := 29) (v := ?_) (by simp only [List.getElem?_toArray, List.getElem?_cons_succ, List.getElem?_cons_zero]; rfl) (by kernel_rfl) (by kernel_rfl) (by kernel_rfl) (by exact fun _ _ _ h => h) (Or.inl ⟨by rfl, ?_⟩) (by assumption) ?_
  rotate_left
  · intro wq hSw
    (try dsimp only at hSw)
    go_simp
    all_goals (with_reducible rfl)
  try simp only [Act.put, List.setIfInBounds_toArray, List.set_cons_zero, List.set_cons_succ]
  refine wpAnyH_take (i := 30) (v := ?_) (by simp only [List.getElem?_toArray, List.getElem?_cons_succ, List.getElem?_cons_zero]; rfl) (by kernel_rfl) (by kernel_rfl) (by kernel_rfl) (by exact fun _ _ _ h => h) (Or.inl ⟨by rfl, ?_⟩) (by assumption) ?_
  rotate_left
  · intro wq hSw
    (try dsimp only at hSw)
    go_simp
    all_goals (with_reducible rfl)
  try simp only [Act.put, List.setIfInBounds_toArray, List.set_cons_zero, List.set_cons_succ]
  refine wpAnyH_take (i := 31) (v := ?_) (by simp only [List.getElem?_toArray, List.getElem?_cons_succ, List.getElem?_cons_zero]; rfl) (by kernel_rfl) (by kernel_rfl) (by kernel_rfl) (by exact fun _ _ _ h => h) (Or.inl ⟨by rfl, ?_⟩) (by assumption) ?_
  rotate_left
  · intro wq hSw
    (try dsimp only at hSw)
    go_simp
    all_goals (with_reducible rfl)
  try simp only [Act.put, List.setIfInBounds_toArray, List.set_cons_zero, List.set_cons_succ]
  refine wpAnyH_take (i := 32) (v := ?_) (by simp only [List.getElem?_toArray, List.getElem?_cons_succ, List.getElem?_cons_zero]; rfl) (by kernel_rfl) (by kernel_rfl) (by kernel_rfl) (by exact fun _ _ _ h => h) (Or.inl ⟨by rfl, ?_⟩) (by assumption) ?_
  rotate_left
  · intro wq hSw
    (try dsimp only at hSw)
    go_simp
    all_goals (with_reducible rfl)
  try simp only [Act.put, List.setIfInBounds_toArray, List.set_cons_zero, List.set_cons_succ]
  refine wpAnyH_take (i := 33) (v := ?_) (by simp only [List.getElem?_toArray, List.getElem?_cons_succ, List.getElem?_cons_zero]; rfl) (by kernel_rfl) (by kernel_rfl) (by kernel_rfl) (by exact fun _ _ _ h => h) (Or.inl ⟨by rfl, ?_⟩) (by assumption) ?_
  rotate_left
  · intro wq hSw
    (try dsimp only at hSw)
    go_simp
    all_goals (with_reducible rfl)
  try simp only [Act.put, List.setIfInBounds_toArray, List.set_cons_zero, List.set_cons_succ]
  refine wpAnyH_take (i := 34) (v := ?_) (by simp only [List.getElem?_toArray, List.getElem?_cons_succ, List.getElem?_cons_zero]; rfl) (by kernel_rfl) (by kernel_rfl) (by kernel_rfl) (by exact fun _ _ _ h => h) (Or.inl ⟨by rfl, ?_⟩) (by assumption) ?_
  rotate_left
  · intro wq hSw
    (try dsimp only at hSw)
    go_simp
    all_goals (with_reducible rfl)
  try simp only [Act.put, List.setIfInBounds_toArray, List.set_cons_zero, List.set_cons_succ]
  refine wpAnyH_take (i := 36) (v := ?_) (by simp only [List.getElem?_toArray, List.getElem?_cons_succ, List.getElem?_cons_zero]; rfl) (by kernel_rfl) (by kernel_rfl) (by kernel_rfl) (by exact fun _ _ _ h => h) (Or.inl ⟨by rfl, ?_⟩) (by assumption) ?_
  rotate_left
  · intro wq hSw
    (try dsimp only at hSw)
    go_simp
    all_goals (with_reducible rfl)
  try simp only [Act.put, List.setIfInBounds_toArray, List.set_cons_zero, List.set_cons_succ]
  refine wpAnyH_take (i := 37) (v := ?_) (by simp only [List.getElem?_toArray, List.getElem?_cons_succ, List.getElem?_cons_zero]; rfl) (by kernel_rfl) (by kernel_rfl) (by kernel_rfl) (by exact fun _ _ _ h => h) (Or.inl ⟨by rfl, ?_⟩) (by assumption) ?_
  rotate_left
  · intro wq hSw
    (try dsimp only at hSw)
    go_simp
    all_goals (with_reducible rfl)
  try simp only [Act.put, List.setIfInBounds_toArray, List.set_cons_zero, List.set_cons_succ]
  refine wpAnyH_take (i := 38) (v := ?_) (by simp only [List.getElem?_toArray, List.getElem?_cons_succ, List.getElem?_cons_zero]; rfl) (by kernel_rfl) (by kernel_rfl) (by kernel_rfl) (by exact fun _ _ _ h => h) (Or.inl ⟨by rfl, ?_⟩) (by assumption) ?_
  rotate_left
  · intro wq hSw
    (try dsimp only at hSw)
    go_simp
    all_goals (with_reducible rfl)
  try simp only [Act.put, List.setIfInBounds_toArray, List.set_cons_zero, List.set_cons_succ]
  refine wpAnyH_ready (rs := [6]) (by kernel_rfl) (by simp) ?_
  refine AllReadyH.cons (by simp only [List.getElem?_toArray, List.getElem?_cons_succ, List.getElem?_cons_zero]; rfl) (fun K hK => ?_) AllReadyH.nil
  go_simp
  refine (K1.out _ HA.out.drew).mono ?_
  rintro E w3 ⟨rfl, haw⟩
  have HB3 := Lib.hid (BoxP.on (w := w2.drew) HB.out haw)
  have HA3 := Lib.hid (HA.out.drew.on haw)
  have hs3 : w2.heap.size ≤ w3.heap.size := haw.size
  have c1 := haw.cell (by simp) c1
  have c8 := haw.cell (by simp) c8
  have c9 := haw.cell (by simp) c9
  clear haw
  go_wp2_with fail
  refine hK.out _ _ ⟨c1, c8, c9⟩ (fun hHeld => ?_)
  clear hK K
  try simp only [Act.put, List.setIfInBounds_toArray, List.set_cons_zero, List.set_cons_succ]
  refine wpAnyH_ready (rs := [9]) (by kernel_rfl) (by simp) ?_
  refine AllReadyH.cons (by simp only [List.getElem?_toArray, List.getElem?_cons_succ, List.getElem?_cons_zero]; rfl) (fun K hK => ?_) AllReadyH.nil
  go_simp
  refine (K2.out _ HA3.out).mono ?_
  rintro E w4 ⟨rfl, haw⟩
  have HB4 := Lib.hid (HB3.out.on haw)
  have HA4 := Lib.hid (HA3.out.on haw)
  have hs4 : w3.heap.size ≤ w4.heap.size := haw.size
  have c1 := haw.cell (by simp) c1
  have c8 := haw.cell (by simp) c8
  have c9 := haw.cell (by simp) c9
  clear haw
  go_wp2_with fail
  refine hK.out _ _ ⟨c1, c8, c9⟩ (fun hHeld => ?_)
  clear hK K
  try simp only [Act.put, List.setIfInBounds_toArray, List.set_cons_zero, List.set_cons_succ]
  refine wpAnyH_ready (rs := [19]) (by kernel_rfl) (by simp) ?_
  refine AllReadyH.cons (by simp only [List.getElem?_toArray, List.getElem?_cons_succ, List.getElem?_cons_zero]; rfl) (fun K hK => ?_) AllReadyH.nil
  go_simp
  refine (KG.out _ 4 (by omega) HA4.out).mono ?_
  rintro E w5 ⟨rfl, haw⟩
  rw [HF4.out]
  have HB5 := Lib.hid (HB4.out.on haw)
  have HA5 := Lib.hid (HA4.out.on haw)
  have hs5 : w4.heap.size ≤ w5.heap.size := haw.size
  have c1 := haw.cell (by simp) c1
  have c8 := haw.cell (by simp) c8
  have c9 := haw.cell (by simp) c9
  clear haw
  go_wp2_with fail
  refine hK.out _ _ ⟨c1, c8, c9⟩ (fun hHeld => ?_)
  clear hK K
  try simp only [Act.put, List.setIfInBounds_toArray, List.set_cons_zero, List.set_cons_succ]
  refine wpAnyH_take (i := 20) (v := ?_) (by simp only [List.getElem?_toArray, List.getElem?_cons_succ, List.getElem?_cons_zero]; rfl) (by kernel_rfl) (by kernel_rfl) (by kernel_rfl) (by exact fun _ _ _ h => h) (Or.inl ⟨by rfl, ?_⟩) (by assumption) ?_
  rotate_left
  · intro wq hSw
    (try dsimp only at hSw)
    go_simp
    all_goals (with_reducible rfl)
  try simp only [Act.put, List.setIfInBounds_toArray, List.set_cons_zero, List.set_cons_succ]
  refine wpAnyH_ready (rs := [35]) (by kernel_rfl) (by simp) ?_
  refine AllReadyH.cons (by simp only [List.getElem?_toArray, List.getElem?_cons_succ, List.getElem?_cons_zero]; rfl) (fun K hK => ?_) AllReadyH.nil
  go_simp
  refine (K3.out _ HA5.out).mono ?_
  rintro E w6 ⟨vo, rfl, hown, hno, haw⟩
  have HB6 := Lib.hid (HB5.out.on haw)
  have HA6 := Lib.hid (HA5.out.on haw)
  have HO6 := Lib.hid hown
  have hs6 : w5.heap.size ≤ w6.heap.size := haw.size
  obtain ⟨oa, on, oc, rfl⟩ := hown.shp
  clear hown
  have c1 := haw.cell (by simp) c1
  have c8 := haw.cell (by simp) c8
  have c9 := haw.cell (by simp) c9
  clear haw
  go_wp2_with fail
  refine hK.out _ _ ⟨c1, c8, c9⟩ (fun hHeld => ?_)
  clear hK K
  try simp only [Act.put, List.setIfInBounds_toArray, List.set_cons_zero, List.set_cons_succ]
  refine wpAnyH_ready (rs := [39]) (by kernel_rfl) (by simp) ?_
  refine AllReadyH.cons (by simp only [List.getElem?_toArray, List.getElem?_cons_succ, List.getElem?_cons_zero]; rfl) (fun K hK => ?_) AllReadyH.nil
  go_simp
  refine (K4.out _ HA6.out).mono ?_
  rintro E w7 ⟨vd, rfl, hown, hnd, haw⟩
  have HB7 := Lib.hid (HB6.out.on haw)
  have HA7 := Lib.hid (HA6.out.on haw)
  have HO7 := Lib.hid (HO6.out.on haw)
  have HD7 := Lib.hid hown
  have hs7 : w6.heap.size ≤ w7.heap.size := haw.size
  obtain ⟨da, dn, dc, rfl⟩ := hown.shp
  clear hown
  have c1 := haw.cell (by simp) c1
  have c8 := haw.cell (by simp) c8
  have c9 := haw.cell (by simp) c9
  clear haw
  go_wp2_with fail
  refine hK.out _ _ ⟨c1, c8, c9⟩ (fun hHeld => ?_)
  clear hK K
  try simp only [Act.put, List.setIfInBounds_toArray, List.set_cons_zero, List.set_cons_succ]
  refine wpAnyH_take (i := 40) (v := ?_) (by simp only [List.getElem?_toArray, List.getElem?_cons_succ, List.getElem?_cons_zero]; rfl) (by kernel_rfl) (by kernel_rfl) (by kernel_rfl) (by exact fun _ _ _ h => h) (Or.inl ⟨by rfl, ?_⟩) (by assumption) ?_
  rotate_left
  · intro wq hSw
    (try dsimp only at hSw)
    go_simp
    all_goals (with_reducible rfl)
  try simp only [Act.put, List.setIfInBounds_toArray, List.set_cons_zero, List.set_cons_succ]
  refine wpAnyH_ready (rs := [41]) (by kernel_rfl) (by simp) ?_
  refine AllReadyH.cons (by simp only [List.getElem?_toArray, List.getElem?_cons_succ, List.getElem?_cons_zero]; rfl) (fun K hK => ?_) AllReadyH.nil
  rw [if_pos (by rfl)]
  refine wp_store_row 28 (.tmp 4) (.tmp 48) rfl g4 (csP ⟨4, b1, 0, 4, [b12, b13, b14, b15] ++ z12, 4, [b16, b17, b18, b19] ++ z12, b9, b8, F4, F6 / 16384 % 2 == 1, F6 / 8192 % 2 == 1, false, F6 % 8192 * 8, (l.drop 20).take (N - 20), l.drop N⟩ (.slice oa on oc) (.slice da dn dc)) rfl rfl 28 _ HB7.out (by rw [csP_size ⟨rfl, rfl⟩]; exact info28) (by rw [csP_size ⟨rfl, rfl⟩, csP_size ⟨rfl, rfl⟩]) (csP_one _ _ _ rfl rfl) ?_
  obtain ⟨P, hP⟩ : ∃ P : Pk, ⟨4, b1, 0, 4, [b12, b13, b14, b15] ++ z12, 4, [b16, b17, b18, b19] ++ z12, b9, b8, F4, F6 / 16384 % 2 == 1, F6 / 8192 % 2 == 1, false, F6 % 8192 * 8, (l.drop 20).take (N - 20), l.drop N⟩ = P := ⟨_, rfl⟩
  have hPA : Ad P := by rw [← hP]; exact ⟨rfl, rfl⟩
  rw [hP]
  refine hK.out _ _ ⟨cell_setRow hbg c1, cell_setRow hbg c8, cell_setRow hbg c9⟩ (fun hHeld => ?_)
  clear hK K
  refine wpAnyH_done (by kernel_rfl) ?_ _
  have hA8 : Away [g4] w7 (w7.setRow g4 (csP P (.slice oa on oc) (.slice da dn dc))) := (Away.refl [g4] w7).setRow (.inl (by simp)) _
  have HB8 : Hid (BoxP (w7.setRow g4 (csP P (.slice oa on oc) (.slice da dn dc))) g4 P (.slice oa on oc) (.slice da dn dc)) := HB7.out.setRow _ _ _
  have HA8 : Hid (Away [] w _) := HA7.out.next hA8 (fun x hx => .inr (by simp at hx; omega))
  have HO8 := Lib.hid (HO7.out.away hA8 (fun k hk hx => by have := hno k hk; simp at hx; omega))
  have HD8 := Lib.hid (HD7.out.away hA8 (fun k hk hx => by have := hnd k hk; simp at hx; omega))
  have HPE : Hid (readP l N = P) := by rw [HRP.out, ← hP]; rfl
  have HPO : Hid (P.o = (l.drop 20).take (N - 20) ∧ P.d = l.drop N) := by rw [← hP]; exact ⟨rfl, rfl⟩
  clear hA8 hP
  generalize w7.setRow g4 (csP P (.slice oa on oc) (.slice da dn dc)) = w8 at *
  go_wp2_with fail
  refine bodyPost_ret (result28 rfl _ _ _ _ _ _ rfl HB8.out hPA) rfl ⟨_, _, by rw [HPE.out], by rw [HPE.out, HPO.out.1]; exact HO8.out, by rw [HPE.out, HPO.out.2]; exact HD8.out, hno.mono (by have := HA.out.size; omega), hnd.mono (by have := HA.out.size; omega), HA8.out⟩
#print axioms rread_c
end Go.Proofs.YtbgpjhekohabiabDoor
