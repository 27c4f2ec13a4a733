/-
  add, part, Address4, address, most, get, own, checksum of the document.
-/
import Derived.Test.YtbgpjhekohabiaaCk
import Derived.Test.YtbgpjhekohabiaaPm
namespace Go.Proofs.Ytbgpjhekohabiaa
open Go.ChangeShapes Go.WideShapes Go.ChangeAt Go.RowKit Num
set_option linter.unusedVariables false
set_option maxHeartbeats 4000000
set_option maxRecDepth 100000

theorem fold_add {S w : Int} (hS : 0 ≤ S) (hw : 0 ≤ w) : fold (fold S + w) = fold (S + w) := by
  have b := fold_bd hS
  have m := @fold_mod S
  have z := @fold_zero S
  exact fold_congr (by omega) (by omega) (by omega) (by omega)
theorem fold_step {x w : Int} (hx : 0 ≤ x) (hx' : x ≤ 65535) (hw : 0 ≤ w) (hw' : w ≤ 65535) : fold (x + w) = if 65535 < x + w then x + w - 65535 else x + w := by
  split
  · have b := @fold_bd (x + w) (by omega)
    have m := @fold_mod (x + w)
    have z := @fold_zero (x + w)
    omega
  · exact fold_self (by omega) (by omega)
theorem radd_c (a b : Int) (w : World) (ha : 0 ≤ a) (ha' : a ≤ 65535) (hb : 0 ≤ b) (hb' : b ≤ 65535) :
    Calls Try.prog 52 #[.int .i64 a, .int .i64 b] w fun E w' => E = .returned (.int .i64 (fold (a + b))) ∧ w' = w := by
  have e := fold_step ha ha' hb hb'
  by_cases h : 65535 < a + b
  · rw [if_pos h] at e
    rw [e]
    clear e
    go_enter Try.func52, Try.ntmps52
    go_wp2
    go_ret
    exact ⟨rfl, rfl⟩
  · rw [if_neg h] at e
    rw [e]
    clear e
    go_enter Try.func52, Try.ntmps52
    go_wp2
    go_ret
    exact ⟨rfl, rfl⟩
theorem ws_drop (l : List Int) (k : Nat) (h : k < l.length) : ws (k % 2 == 0) (l.drop k) = (if k % 2 = 0 then 256 * (l[k]?.getD 0) else l[k]?.getD 0) + ws ((k + 1) % 2 == 0) (l.drop (k + 1)) := by
  rw [List.drop_eq_getElem_cons h, List.getElem?_eq_getElem h]
  rcases Nat.mod_two_eq_zero_or_one k with e | e
  · rw [e, show (k + 1) % 2 = 1 from by omega]; rfl
  · rw [e, show (k + 1) % 2 = 0 from by omega]; rfl

theorem rpart_c (a : Option Addr) (l : List Int) (cap : Nat) (w : World) (hr : Row w a l) :
    Calls Try.prog 53 #[.slice a l.length cap] w fun e w' => e = .returned (.int .i64 (pt l)) ∧ w' = w := by
  have hlen := hr.1
  rcases hr.2.2 with rfl | ⟨b, off, rfl, hcell⟩
  · go_enter Try.func53, Try.ntmps53
    go_wp2_with fail
    refine wp_loop_rounds 1 ?_
    rw [rounds_succ]
    go_wp2_with fail
    go_ret
    exact ⟨rfl, rfl⟩
  · have HC : Hid (∀ i, i < l.length → w.cell? ⟨b, off + i, none⟩ = some (.int .u8 (l[i]?.getD 0))) := hcell
    clear hcell
    go_enter Try.func53, Try.ntmps53
    go_wp2_with fail
    go_loopw [3, 4] (fun s i wr => ∃ (k : Nat) (q : Int), k ≤ l.length ∧ i = .int .i64 k ∧ s = .int .i64 (fold q) ∧ 0 ≤ q ∧ q + ws (k % 2 == 0) (l.drop k) = ws true l ∧ wr = w) (fun _ i _ => l.length - (intOf i).toNat)
    case atStart => exact ⟨0, 0, by omega, rfl, rfl, by omega, by simp, rfl⟩
    case round =>
      obtain ⟨k, q, hk, rfl, rfl, hq, hsum, hW⟩ := hrel
      subst hW
      have HS : Hid (q + ws (k % 2 == 0) (l.drop k) = ws true l) := hsum
      have hfb := fold_bd hq
      clear hsum
      by_cases hlt : k < l.length
      · have c0 := HC.out k hlt
        have bx := hr.2.1.getD k
        have HD : Hid _ := ws_drop l k hlt
        obtain ⟨x, hx⟩ : ∃ x, x = l[k]?.getD 0 := ⟨_, rfl⟩
        rw [← hx] at c0 bx
        have HX : Hid (x = l[k]?.getD 0) := hx
        clear hx
        have HF : Hid (∀ y, 0 ≤ y → fold (fold q + y) = fold (q + y)) := fun y hy => fold_add hq hy
        generalize hF : fold q = F at *
        by_cases hp : k % 2 = 0
        · have hp' : ((k : Int) % 2 == 0) = true := by simp; omega
          go_wp2_with fail
          refine (radd_c F (256 * x) _ (by omega) (by omega) (by omega) (by omega)).mono ?_
          rintro E w' ⟨rfl, rfl⟩
          go_wp2_with fail
          go_roundw
          case rel =>
            have e1 := HD.out
            have e2 := HS.out
            rw [if_pos hp, ← HX.out] at e1
            exact ⟨k + 1, q + 256 * x, by omega, by go_num, by rw [HF.out _ (by omega)], by omega, by omega, by trivial⟩
          case measure => simp [intOf]; omega
        · have hp' : ((k : Int) % 2 == 0) = false := by simp; omega
          go_wp2_with fail
          refine (radd_c F x _ (by omega) (by omega) (by omega) (by omega)).mono ?_
          rintro E w' ⟨rfl, rfl⟩
          go_wp2_with fail
          go_roundw
          case rel =>
            have e1 := HD.out
            have e2 := HS.out
            rw [if_neg hp, ← HX.out] at e1
            exact ⟨k + 1, q + x, by omega, by go_num, by rw [HF.out _ (by omega)], by omega, by omega, by trivial⟩
          case measure => simp [intOf]; omega
      · obtain rfl : k = l.length := by omega
        have e : q = ws true l := by have := HS.out; rw [List.drop_length] at this; simp [ws] at this; exact this
        have E : Hid (fold q = pt l) := by rw [e]; rfl
        clear e HS
        generalize fold q = F at *
        go_wp2_with fail
        go_ret
        exact ⟨ret_int E.out, rfl⟩
theorem drop_zero_iff {l : List Int} (h : l.length = 16) : l.drop 4 = z12 ↔ ∀ j, 4 ≤ j → j < 16 → l[j]?.getD 0 = 0 := by
  constructor
  · intro e j h1 h2
    have : (l.drop 4)[j - 4]?.getD 0 = 0 := by
      rw [e]
      have : j - 4 < 12 := by omega
      match j - 4, this with
      | 0, _ => rfl
      | 1, _ => rfl
      | 2, _ => rfl
      | 3, _ => rfl
      | 4, _ => rfl
      | 5, _ => rfl
      | 6, _ => rfl
      | 7, _ => rfl
      | 8, _ => rfl
      | 9, _ => rfl
      | 10, _ => rfl
      | 11, _ => rfl
    rwa [List.getElem?_drop, show 4 + (j - 4) = j by omega] at this
  · intro hj
    apply List.ext_getElem?
    intro i
    rcases Nat.lt_or_ge i 12 with hi | hi
    · have h1 := hj (4 + i) (by omega) (by omega)
      rw [List.getElem?_drop]
      rw [List.getElem?_eq_getElem (by omega), Option.getD_some] at h1
      rw [List.getElem?_eq_getElem (by omega), h1]
      match i, hi with
      | 0, _ => rfl
      | 1, _ => rfl
      | 2, _ => rfl
      | 3, _ => rfl
      | 4, _ => rfl
      | 5, _ => rfl
      | 6, _ => rfl
      | 7, _ => rfl
      | 8, _ => rfl
      | 9, _ => rfl
      | 10, _ => rfl
      | 11, _ => rfl
    · rw [List.getElem?_eq_none (by simp; omega), List.getElem?_eq_none (by simp [z12]; omega)]
/-- An address of a version, as the document has it. -/
def adr4P (s : Ax) : Bool := decide (s.v = 4) && eqL (s.l.drop 4) z12
def adrvP (s : Ax) (v : Int) : Bool := if v = 4 then adr4P s else decide (v = 6) && decide (s.v = 6)
theorem raddr4_c (s : Ax) (w : World) (hs : WfA s) : Calls Try.prog 51 #[.agg (csA s.v s.l)] w fun e w' => e = .returned (.bool (adr4P s)) ∧ Away [] w w' := by
  have hn := hs.n
  obtain ⟨z, hz⟩ : ∃ z, z = adr4P s := ⟨_, rfl⟩
  rw [← hz]
  have HZ := Lib.hid hz
  have HI := Lib.hid (drop_zero_iff hn)
  have HS := Lib.hid hs
  clear hz hs
  go_enter Try.func51, Try.ntmps51
  go_wp2_with (refine wpList_box24 rfl _ rfl s rfl ?_; refine Hid.out ?_)
  refine Lib.hid ?_
  intro g w1 hg hb haw
  have HA := Lib.hid haw; have HB := Lib.hid hb
  have cv := hb.cell
  clear hb haw
  go_wp2_with fail
  go_loopw [3] (fun i wr => ∃ k : Nat, 4 ≤ k ∧ k ≤ 16 ∧ i = .int .i64 (k : Int) ∧ (∀ j, 4 ≤ j → j < k → s.l[j]?.getD 0 = 0) ∧ ∃ n, wr = w1.drewN n) (fun i _ => 16 - (intOf i).toNat)
  case atStart => exact ⟨4, by omega, by omega, rfl, fun j h1 h2 => by omega, 0, rfl⟩
  case round =>
    obtain ⟨k, hk4, hk16, rfl, hall, q, hW⟩ := hrel
    subst hW
    have HALL := Lib.hid hall
    clear hall
    by_cases hlt : k < 16
    · have c0 : w1.cell? ⟨g, 1 + k, none⟩ = _ := HB.out.byte k (by omega)
      have t1 : decide ((k : Int) < 16) = true := by simp; omega
      have t2 : 0 ≤ (k : Int) := by omega
      have t3 : (k : Int) < 16 := by omega
      have t4 : ((k : Int)).toNat = k := by omega
      have HX : Hid (s.l[k]?.getD 0 = 0 → ∀ j, 4 ≤ j → j < k + 1 → s.l[j]?.getD 0 = 0) := fun h j h1 h2 => by
        rcases Nat.lt_or_ge j k with hj | hj
        · exact HALL.out j h1 hj
        · obtain rfl : j = k := by omega
          exact h
      have HN : Hid (s.l[k]?.getD 0 ≠ 0 → z = false) := fun h => by
        rw [HZ.out]; unfold adr4P eqL; rw [decide_eq_false (p := s.l.drop 4 = z12) (fun e => h (HI.out.1 e k hk4 hlt))]; simp
      generalize s.l[k]?.getD 0 = x at *
      by_cases hx : x = 0
      · subst hx
        go_wp2_with fail
        go_roundw
        case rel => exact ⟨k + 1, by omega, by omega, by go_num, HX.out rfl, q, rfl⟩
        case measure => simp [intOf]; omega
      · obtain rfl : z = false := HN.out hx
        have hx' : (x != 0) = true := by simpa using hx
        go_wp2_with fail
        go_ret
        exact ⟨rfl, HA.out.drewN q⟩
    · obtain rfl : k = 16 := by omega
      have HE := Lib.hid (HI.out.2 HALL.out)
      have hzz : (s.v == 4) = z := by
        rw [HZ.out]; unfold adr4P eqL
        rw [decide_eq_true HE.out]; simp; rfl
      have cv2 : (w1.drewN q).cell? ⟨g, 0, none⟩ = some (.int .i64 s.v) := cv
      have HZZ := Lib.hid hzz
      clear hzz
      go_wp2_with fail
      go_ret
      exact ⟨ret_bool HZZ.out, HA.out.drewN q⟩
theorem raddress_c (s : Ax) (v : Int) (w : World) (hs : WfA s) : Calls Try.prog 36 #[.agg (csA s.v s.l), .int .i64 v] w fun e w' => e = .returned (.bool (adrvP s v)) ∧ Away [] w w' := by
  have K : Hid (∀ w, Calls Try.prog 51 #[.agg (csA s.v s.l)] w fun e w' => e = .returned (.bool (adr4P s)) ∧ Away [] w w') := fun w => raddr4_c s w hs
  have HS := Lib.hid hs
  clear hs
  by_cases h4 : v = 4
  · subst h4
    rw [show adrvP s 4 = adr4P s from rfl]
    generalize adr4P s = z at *
    go_enter Try.func36, Try.ntmps36
    go_wp2_with (refine wpList_box24 rfl _ rfl s rfl ?_; refine Hid.out ?_)
    refine Lib.hid ?_
    intro g w1 hg hb haw
    have HA := Lib.hid haw; have HB := Lib.hid hb
    clear hb haw
    go_wp2_with (first | (refine wpList_loadX rfl _ rfl g rfl s (by exact HB.out) HS.out ?_))
    refine (K.out _).mono ?_
    rintro E w2 ⟨rfl, haw⟩
    replace HA := Lib.hid (HA.out.on haw)
    clear haw
    go_wp2_with fail
    go_ret
    exact ⟨rfl, HA.out⟩
  · have h4' : (v == 4) = false := by simpa using h4
    by_cases h6 : v = 6
    · subst h6
      obtain ⟨z, hz⟩ : ∃ z, z = (s.v == 6) := ⟨_, rfl⟩
      rw [show adrvP s 6 = z from by rw [hz]; unfold adrvP; rw [if_neg (by decide)]; simp; rfl]
      have HZ := Lib.hid hz
      clear hz
      go_enter Try.func36, Try.ntmps36
      go_wp2_with (refine wpList_box24 rfl _ rfl s rfl ?_; refine Hid.out ?_)
      refine Lib.hid ?_
      intro g w1 hg hb haw
      have HA := Lib.hid haw
      have cv := hb.cell
      clear hb haw
      go_wp2_with fail
      go_ret
      exact ⟨ret_bool HZ.out.symm, HA.out⟩
    · have h6' : (v == 6) = false := by simpa using h6
      rw [show adrvP s v = false from by unfold adrvP; rw [if_neg h4, decide_eq_false h6]; rfl]
      go_enter Try.func36, Try.ntmps36
      go_wp2_with (refine wpList_box24 rfl _ rfl s rfl ?_; refine Hid.out ?_)
      refine Lib.hid ?_
      intro g w1 hg hb haw
      have HA := Lib.hid haw
      clear hb haw
      go_wp2_with fail
      go_ret
      exact ⟨rfl, HA.out⟩
theorem adrv_pair (s t : Ax) : (adrvP s s.v && adrvP t s.v) = pairP s t := by
  unfold pairP adrvP adr4P avalidP
  by_cases h4 : s.v = 4
  · by_cases k : t.v = 4
    · simp [h4, k]
    · have : ¬ (4 : Int) = t.v := fun e => k e.symm
      simp [h4, k, this]
  · by_cases h6 : s.v = 6
    · by_cases k : t.v = 6
      · simp [h6, k]
      · have : ¬ (6 : Int) = t.v := fun e => k e.symm
        simp [h6, k, this]
    · simp [h4, h6]
theorem adrv_ne {s : Ax} {v : Int} (h : adrvP s v = true) : s.v = v := by
  unfold adrvP adr4P at h
  split at h
  · simp only [Bool.and_eq_true, decide_eq_true_eq] at h; omega
  · simp only [Bool.and_eq_true, decide_eq_true_eq] at h; omega
theorem rmost_c (v : Int) (w : World) : Calls Try.prog 37 #[.int .i64 v] w fun e w' => e = .returned (.int .i64 (mostP v)) ∧ w' = w := by
  by_cases h4 : v = 4
  · subst h4
    go_enter Try.func37, Try.ntmps37
    go_wp2
    go_ret
    exact ⟨rfl, rfl⟩
  · rw [show mostP v = 65535 from by unfold mostP; rw [if_neg h4]]
    have b1 : (v == 4) = false := by simpa using h4
    go_enter Try.func37, Try.ntmps37
    go_wp2
    go_ret
    exact ⟨rfl, rfl⟩
theorem Row.at {w : World} {a : Option Addr} {l : List Int} (h : Row w a l) (i : Nat) (hi : i < l.length) : ∃ b off, a = some ⟨b, off, none⟩ ∧ w.cell? ⟨b, off + i, none⟩ = some (.int .u8 (l[i]?.getD 0)) := by
  rcases h.2.2 with h0 | ⟨b, off, rfl, hc⟩
  · rw [h0] at hi; simp at hi
  · exact ⟨b, off, rfl, hc i hi⟩
theorem rget_c (a : Option Addr) (l : List Int) (cap i : Nat) (w : World) (hr : Row w a l) (hi : i + 1 < l.length) :
    Calls Try.prog 39 #[.slice a l.length cap, .int .i64 (i : Int)] w fun E w' => E = .returned (.int .i64 (wd l i)) ∧ Away [] w w' := by
  have hlen := hr.1
  obtain ⟨b, off, rfl, c0⟩ := hr.at i (by omega)
  obtain ⟨b', off', he, c1⟩ := hr.at (i + 1) hi
  simp only [Option.some.injEq, Addr.mk.injEq, and_true] at he
  obtain ⟨rfl, rfl⟩ := he
  have x0 := hr.2.1.getD i; have x1 := hr.2.1.getD (i + 1)
  have HW : Hid (wd l i = 256 * l[i]?.getD 0 + l[i + 1]?.getD 0) := rfl
  clear hr
  generalize wd l i = R at *
  generalize l[i]?.getD 0 = x at *
  generalize l[i + 1]?.getD 0 = y at *
  have i0 : (i : Int) < (l.length : Int) := by omega
  have i1 : (i : Int) + 1 < (l.length : Int) := by omega
  have i2 : ((i : Int) + 1).toNat = i + 1 := by omega
  have i3 : (0 : Int) ≤ (i : Int) := by omega
  have i4 : (0 : Int) ≤ (i : Int) + 1 := by omega
  go_enter Try.func39, Try.ntmps39
  go_wp2_with fail
  go_quiet (fail)
  go_wp2_with fail
  go_ret
  exact ⟨by rw [HW.out]; rfl, (Away.refl [] w).drewN _⟩
theorem rown_c (a : Option Addr) (l : List Int) (n cap : Nat) (w : World) (hn : l.length = n) (ha : a = none → cap = 0) (hr : Row w a l) :
    Calls Try.prog 40 #[.slice a n cap] w fun E w' => ∃ v, E = .returned v ∧ Owns w' v l ∧ New w.heap.size v ∧ Away [] w w' := by
  subst hn
  have hlen := hr.1
  rcases a with _ | ad
  · have h0 : l = [] := by rcases hr.2.2 with h | ⟨_, _, h, _⟩ <;> simp_all
    subst h0
    obtain rfl := ha rfl
    go_enter Try.func40, Try.ntmps40
    go_wp2_with (at_builtin; refine wpList_app_none rfl _ _ rfl _ [] rfl (Owns.nil _) rfl ?_)
    go_wp2_with fail
    go_ret
    exact ⟨_, rfl, Owns.nil _, New.nil _, Away.refl _ _⟩
  · have HR := Lib.hid hr
    clear hr
    go_enter Try.func40, Try.ntmps40
    go_wp2_with (at_builtin; refine wpList_app rfl _ _ rfl _ [] l rfl (Owns.nil _) ad l.length cap rfl rfl HR.out.src (by simpa using hlen) ?_)
    intro v' w2 hown2 hgr hblk
    have HO := Lib.hid hown2
    have HA : Hid (Away [] w w2) := (Away.refl [] w).grown hgr (by simp [Value.ownBlock])
    have HN : Hid (New w.heap.size v') := fun k hk => by
      rcases hblk k hk with h | h
      · simp [Value.ownBlock] at h
      · exact h
    clear hown2 hgr hblk
    go_wp2_with fail
    go_ret
    exact ⟨v', rfl, HO.out, HN.out, HA.out⟩
/-- The document's sum, as the program's. -/
theorem msum_four {s t : Ax} (b : List Int) (h : s.v = 4) : mckP s t b = 65535 - fold (ws true (bareP b)) := by
  unfold mckP msumP; rw [if_pos h]; rfl
theorem msum_six {s t : Ax} (hs : WfA s) (ht : WfA t) {b : List Int} (hb : Bytes b) (h : s.v = 6) (hl : b.length ≤ 65535) :
    mckP s t b = 65535 - fold (fold (fold (fold (fold (fold (ws true (bareP b)) + pt s.l) + pt t.l) + (b.length : Int) / 65536) + (b.length : Int) % 65536) + 58) := by
  have b1 := (ws_bd true _ (bare_bytes hb)).1
  have b2 := (ws_bd true _ hs.l).1
  have b3 := (ws_bd true _ ht.l).1
  have p2 := pt_bd hs.l
  have p3 := pt_bd ht.l
  unfold mckP msumP
  rw [if_neg (by omega)]
  have e1 : ws true (psb s t 58 b.length) = ws true s.l + ws true t.l + b.length + 58 := by
    unfold psb
    rw [if_neg (by omega), ws_even _ _ (by rw [hs.n]), ws_even _ _ (by rw [ht.n])]
    simp [ws]; omega
  have k1 := fold_add (S := ws true (bareP b)) (w := pt s.l) (by omega) (by omega)
  have k2 := fold_add (S := ws true (bareP b) + pt s.l) (w := pt t.l) (by omega) (by omega)
  have k3 := fold_add (S := ws true (bareP b) + pt s.l + pt t.l) (w := (b.length : Int) / 65536) (by omega) (by omega)
  have k4 := fold_add (S := ws true (bareP b) + pt s.l + pt t.l + (b.length : Int) / 65536) (w := (b.length : Int) % 65536) (by omega) (by omega)
  have k5 := fold_add (S := ws true (bareP b) + pt s.l + pt t.l + (b.length : Int) / 65536 + (b.length : Int) % 65536) (w := 58) (by omega) (by omega)
  rw [k1, k2, k3, k4, k5]
  have e2 : pt s.l = fold (ws true s.l) := rfl
  have e3 : pt t.l = fold (ws true t.l) := rfl
  have e4 : add (pt (psb s t 58 b.length)) (pt (bareP b)) = fold (fold (ws true (psb s t 58 b.length)) + fold (ws true (bareP b))) := rfl
  have m1 := @fold_mod (ws true s.l)
  have m2 := @fold_mod (ws true t.l)
  have m3 := @fold_mod (ws true (bareP b))
  have m4 := @fold_mod (ws true (psb s t 58 b.length))
  have z1 := @fold_zero (ws true s.l)
  have z2 := @fold_zero (ws true t.l)
  have z3 := @fold_zero (ws true (bareP b))
  have z4 := @fold_zero (ws true (psb s t 58 b.length))
  have f1 := fold_bd (n := ws true s.l) b2
  have f2 := fold_bd (n := ws true t.l) b3
  have f3 := fold_bd (n := ws true (bareP b)) b1
  have f4 := fold_bd (n := ws true (psb s t 58 b.length)) (by omega)
  rw [e4, e2, e3]
  congr 1
  exact fold_congr (by omega) (by omega) (by omega) (by omega)
theorem bare_get {b : List Int} (k : Nat) (h : k < b.length) : (bareP b)[k]?.getD 0 = if k = 2 ∨ k = 3 then 0 else b[k]?.getD 0 := by
  unfold bareP
  split
  · rename_i hk
    rcases hk with rfl | rfl
    · rw [List.getElem?_set_ne (by omega), List.getElem?_set_self (by omega)]; rfl
    · rw [List.getElem?_set_self (by simp; omega)]; rfl
  · rw [List.getElem?_set_ne (by omega), List.getElem?_set_ne (by omega)]
theorem rchecksum_four (s t : Ax) (a : Option Addr) (b : List Int) (cap : Nat) (w : World) (hs : WfA s) (ht : WfA t) (hv : s.v = 4) (hr : Row w a b) (hl : b.length ≤ 65535) (h4 : 4 ≤ b.length) :
    Calls Try.prog 38 #[.agg (csA s.v s.l), .agg (csA t.v t.l), .int .i64 4, .slice a b.length cap] w fun E w' => E = .returned (.int .i64 (mckP s t b)) ∧ Away [] w w' := by
  have HE := Lib.hid (msum_four (s := s) (t := t) b hv)
  have HBB := Lib.hid (bare_bytes hr.2.1)
  have HBY := Lib.hid hr.2.1
  have hlb := hr.2.1
  have HS := Lib.hid hs; have HT := Lib.hid ht
  have hsn := hs.n; have htn := ht.n
  have HR := Lib.hid hr
  obtain ⟨bk, off, rfl, -⟩ := hr.at 0 (by omega)
  have HBL := Lib.hid (bare_len b)
  generalize mckP s t b = R at *
  clear hs ht hv hr hlb
  go_enter Try.func38, Try.ntmps38
  go_wp2_with (refine wpList_box24 rfl _ rfl s rfl ?_; refine Hid.out ?_)
  refine Lib.hid ?_
  intro g1 w1 hg1 hb1 haw
  have HA := Lib.hid haw; have HB := Lib.hid hb1
  clear hb1 haw
  go_wp2_with (refine wpList_box24 rfl _ rfl t rfl ?_; refine Hid.out ?_)
  refine Lib.hid ?_
  intro g2 w2 hg2 hb1 haw
  replace HA := Lib.hid (HA.out.on haw); replace HB := Lib.hid (HB.out.on haw); have HC := Lib.hid hb1
  replace HR := Lib.hid (HR.out.on HA.out)
  clear hb1 haw
  go_wp2_with fail
  go_loopw [9, 10, 11] (fun n i _ wr => ∃ (k : Nat) (q : Int), k ≤ b.length ∧ i = .int .i64 k ∧ n = .int .i64 (fold q) ∧ 0 ≤ q ∧ q + ws (k % 2 == 0) ((bareP b).drop k) = ws true (bareP b) ∧ wr = w2) (fun _ i _ _ => b.length - (intOf i).toNat)
  case atStart => exact ⟨0, 0, by omega, rfl, rfl, by omega, by simp, rfl⟩
  case round =>
    obtain ⟨k, q, hk, rfl, rfl, hq, hsum, hW⟩ := hrel
    subst hW
    have HSU : Hid (q + ws (k % 2 == 0) ((bareP b).drop k) = ws true (bareP b)) := hsum
    have hfb := fold_bd hq
    clear hsum
    by_cases hlt : k < b.length
    · obtain ⟨bk', off', he, c0⟩ := HR.out.at k hlt
      simp only [Option.some.injEq, Addr.mk.injEq, and_true] at he
      obtain ⟨rfl, rfl⟩ := he
      have bx := HBY.out.getD k
      have hwd := ws_drop (bareP b) k (by have := HBL.out; omega)
      rw [bare_get k hlt] at hwd
      have HD := Lib.hid hwd
      clear hwd
      generalize b[k]?.getD 0 = x at *
      have HF : Hid (∀ y, 0 ≤ y → fold (fold q + y) = fold (q + y)) := fun y hy => fold_add hq hy
      have HF0 : Hid (fold (q + 0) = fold q) := by rw [Int.add_zero]; rfl
      generalize hF : fold q = F at *
      by_cases h23 : k = 2 ∨ k = 3
      · have HD2 := HD
        rw [if_pos h23] at HD2
        have e1 := HD2.out
        simp only [Int.mul_zero, ite_self, Int.zero_add] at e1
        have HNX : Hid (q + ws ((k + 1) % 2 == 0) ((bareP b).drop (k + 1)) = ws true (bareP b)) := by have e2 := HSU.out; rw [e1] at e2; exact e2
        clear e1 HD HD2
        rcases h23 with rfl | rfl
        · go_wp2_with fail
          go_roundw
          case rel => exact ⟨3, q, by omega, by rfl, by rw [hF], hq, HNX.out, by trivial⟩
          case measure => simp [intOf]; omega
        · go_wp2_with fail
          go_roundw
          case rel => exact ⟨4, q, by omega, by rfl, by rw [hF], hq, HNX.out, by trivial⟩
          case measure => simp [intOf]; omega
      · rw [if_neg h23] at HD
        have k2 : ((k : Int) != 2) = true := by simp; omega
        have k3 : ((k : Int) != 3) = true := by simp; omega
        by_cases hp : k % 2 = 0
        · have hp' : ((k : Int) % 2 == 0) = true := by simp; omega
          go_wp2_with fail
          refine (radd_c F (256 * x) _ (by omega) (by omega) (by omega) (by omega)).mono ?_
          rintro E w' ⟨rfl, rfl⟩
          go_wp2_with fail
          go_roundw
          case rel =>
            have e1 := HD.out
            have e2 := HSU.out
            rw [if_pos hp] at e1
            exact ⟨k + 1, q + 256 * x, by omega, by go_num, by rw [HF.out _ (by omega)], by omega, by omega, by trivial⟩
          case measure => simp [intOf]; omega
        · have hp' : ((k : Int) % 2 == 0) = false := by simp; omega
          go_wp2_with fail
          refine (radd_c F x _ (by omega) (by omega) (by omega) (by omega)).mono ?_
          rintro E w' ⟨rfl, rfl⟩
          go_wp2_with fail
          go_roundw
          case rel =>
            have e1 := HD.out
            have e2 := HSU.out
            rw [if_neg hp] at e1
            exact ⟨k + 1, q + x, by omega, by go_num, by rw [HF.out _ (by omega)], by omega, by omega, by trivial⟩
          case measure => simp [intOf]; omega
    · obtain rfl : k = b.length := by omega
      have e : q = ws true (bareP b) := by have := HSU.out; rw [List.drop_of_length_le (by have := HBL.out; omega)] at this; simp [ws] at this; exact this
      subst e
      clear HSU
      generalize fold (ws true (bareP b)) = F at *
      go_wp2_with fail
      go_ret
      exact ⟨ret_int HE.out.symm, HA.out⟩
theorem rchecksum_six (s t : Ax) (a : Option Addr) (b : List Int) (cap : Nat) (w : World) (hs : WfA s) (ht : WfA t) (hv : s.v = 6) (hr : Row w a b) (hl : b.length ≤ 65535) (h4 : 4 ≤ b.length) :
    Calls Try.prog 38 #[.agg (csA s.v s.l), .agg (csA t.v t.l), .int .i64 6, .slice a b.length cap] w fun E w' => E = .returned (.int .i64 (mckP s t b)) ∧ Away [] w w' := by
  have HE := Lib.hid (msum_six hs ht hr.2.1 hv hl)
  have HBB := Lib.hid (bare_bytes hr.2.1)
  have HBY := Lib.hid hr.2.1
  have hlb := hr.2.1
  have HS := Lib.hid hs; have HT := Lib.hid ht
  have hsn := hs.n; have htn := ht.n
  have HR := Lib.hid hr
  obtain ⟨bk, off, rfl, -⟩ := hr.at 0 (by omega)
  have HBL := Lib.hid (bare_len b)
  generalize mckP s t b = R at *
  clear hs ht hv hr hlb
  go_enter Try.func38, Try.ntmps38
  go_wp2_with (refine wpList_box24 rfl _ rfl s rfl ?_; refine Hid.out ?_)
  refine Lib.hid ?_
  intro g1 w1 hg1 hb1 haw
  have HA := Lib.hid haw; have HB := Lib.hid hb1
  clear hb1 haw
  go_wp2_with (refine wpList_box24 rfl _ rfl t rfl ?_; refine Hid.out ?_)
  refine Lib.hid ?_
  intro g2 w2 hg2 hb1 haw
  replace HA := Lib.hid (HA.out.on haw); replace HB := Lib.hid (HB.out.on haw); have HC := Lib.hid hb1
  replace HR := Lib.hid (HR.out.on HA.out)
  clear hb1 haw
  go_wp2_with fail
  go_loopw [9, 10, 11] (fun n i _ wr => ∃ (k : Nat) (q : Int), k ≤ b.length ∧ i = .int .i64 k ∧ n = .int .i64 (fold q) ∧ 0 ≤ q ∧ q + ws (k % 2 == 0) ((bareP b).drop k) = ws true (bareP b) ∧ wr = w2) (fun _ i _ _ => b.length - (intOf i).toNat)
  case atStart => exact ⟨0, 0, by omega, rfl, rfl, by omega, by simp, rfl⟩
  case round =>
    obtain ⟨k, q, hk, rfl, rfl, hq, hsum, hW⟩ := hrel
    subst hW
    have HSU : Hid (q + ws (k % 2 == 0) ((bareP b).drop k) = ws true (bareP b)) := hsum
    have hfb := fold_bd hq
    clear hsum
    by_cases hlt : k < b.length
    · obtain ⟨bk', off', he, c0⟩ := HR.out.at k hlt
      simp only [Option.some.injEq, Addr.mk.injEq, and_true] at he
      obtain ⟨rfl, rfl⟩ := he
      have bx := HBY.out.getD k
      have hwd := ws_drop (bareP b) k (by have := HBL.out; omega)
      rw [bare_get k hlt] at hwd
      have HD := Lib.hid hwd
      clear hwd
      generalize b[k]?.getD 0 = x at *
      have HF : Hid (∀ y, 0 ≤ y → fold (fold q + y) = fold (q + y)) := fun y hy => fold_add hq hy
      have HF0 : Hid (fold (q + 0) = fold q) := by rw [Int.add_zero]; rfl
      generalize hF : fold q = F at *
      by_cases h23 : k = 2 ∨ k = 3
      · have HD2 := HD
        rw [if_pos h23] at HD2
        have e1 := HD2.out
        simp only [Int.mul_zero, ite_self, Int.zero_add] at e1
        have HNX : Hid (q + ws ((k + 1) % 2 == 0) ((bareP b).drop (k + 1)) = ws true (bareP b)) := by have e2 := HSU.out; rw [e1] at e2; exact e2
        clear e1 HD HD2
        rcases h23 with rfl | rfl
        · go_wp2_with fail
          go_roundw
          case rel => exact ⟨3, q, by omega, by rfl, by rw [hF], hq, HNX.out, by trivial⟩
          case measure => simp [intOf]; omega
        · go_wp2_with fail
          go_roundw
          case rel => exact ⟨4, q, by omega, by rfl, by rw [hF], hq, HNX.out, by trivial⟩
          case measure => simp [intOf]; omega
      · rw [if_neg h23] at HD
        have k2 : ((k : Int) != 2) = true := by simp; omega
        have k3 : ((k : Int) != 3) = true := by simp; omega
        by_cases hp : k % 2 = 0
        · have hp' : ((k : Int) % 2 == 0) = true := by simp; omega
          go_wp2_with fail
          refine (radd_c F (256 * x) _ (by omega) (by omega) (by omega) (by omega)).mono ?_
          rintro E w' ⟨rfl, rfl⟩
          go_wp2_with fail
          go_roundw
          case rel =>
            have e1 := HD.out
            have e2 := HSU.out
            rw [if_pos hp] at e1
            exact ⟨k + 1, q + 256 * x, by omega, by go_num, by rw [HF.out _ (by omega)], by omega, by omega, by trivial⟩
          case measure => simp [intOf]; omega
        · have hp' : ((k : Int) % 2 == 0) = false := by simp; omega
          go_wp2_with fail
          refine (radd_c F x _ (by omega) (by omega) (by omega) (by omega)).mono ?_
          rintro E w' ⟨rfl, rfl⟩
          go_wp2_with fail
          go_roundw
          case rel =>
            have e1 := HD.out
            have e2 := HSU.out
            rw [if_neg hp] at e1
            exact ⟨k + 1, q + x, by omega, by go_num, by rw [HF.out _ (by omega)], by omega, by omega, by trivial⟩
          case measure => simp [intOf]; omega
    · obtain rfl : k = b.length := by omega
      have e : q = ws true (bareP b) := by have := HSU.out; rw [List.drop_of_length_le (by have := HBL.out; omega)] at this; simp [ws] at this; exact this
      subst e
      clear HSU
      have hp1 := pt_bd HS.out.l; have hp2 := pt_bd HT.out.l
      have HR1 := Lib.hid (HB.out.row HS.out); have HR2 := Lib.hid (HC.out.row HT.out)
      generalize hF0 : fold (ws true (bareP b)) = F0 at *
      have KA := rpart_c (some ⟨g1, 1, none⟩) s.l 16 wr HR1.out
      rw [hsn] at KA
      have KB := rpart_c (some ⟨g2, 1, none⟩) t.l 16 wr HR2.out
      rw [htn] at KB
      have HKA := Lib.hid KA; have HKB := Lib.hid KB
      clear KA KB
      generalize pt s.l = P1 at *
      generalize pt t.l = P2 at *
      go_wp2_with fail
      refine HKA.out.mono ?_
      rintro E w' ⟨rfl, rfl⟩
      go_wp2_with fail
      refine (radd_c F0 P1 _ (by omega) (by omega) (by omega) (by omega)).mono ?_
      rintro E w' ⟨rfl, rfl⟩
      have f1 := fold_bd (n := F0 + P1) (by omega)
      generalize hF1 : fold (F0 + P1) = F1 at *
      go_wp2_with fail
      refine HKB.out.mono ?_
      rintro E w' ⟨rfl, rfl⟩
      go_wp2_with fail
      refine (radd_c F1 P2 _ (by omega) (by omega) (by omega) (by omega)).mono ?_
      rintro E w' ⟨rfl, rfl⟩
      have f2 := fold_bd (n := F1 + P2) (by omega)
      generalize hF2 : fold (F1 + P2) = F2 at *
      go_wp2_with fail
      refine (radd_c F2 ((b.length : Int) / 65536) _ (by omega) (by omega) (by omega) (by omega)).mono ?_
      rintro E w' ⟨rfl, rfl⟩
      have f3 := fold_bd (n := F2 + (b.length : Int) / 65536) (by omega)
      generalize hF3 : fold (F2 + (b.length : Int) / 65536) = F3 at *
      go_wp2_with fail
      refine (radd_c F3 ((b.length : Int) % 65536) _ (by omega) (by omega) (by omega) (by omega)).mono ?_
      rintro E w' ⟨rfl, rfl⟩
      have f4 := fold_bd (n := F3 + (b.length : Int) % 65536) (by omega)
      generalize hF4 : fold (F3 + (b.length : Int) % 65536) = F4 at *
      go_wp2_with fail
      refine (radd_c F4 58 _ (by omega) (by omega) (by omega) (by omega)).mono ?_
      rintro E w' ⟨rfl, rfl⟩
      have f5 := fold_bd (n := F4 + 58) (by omega)
      generalize hF5 : fold (F4 + 58) = F5 at *
      go_wp2_with fail
      go_ret
      exact ⟨ret_int HE.out.symm, HA.out⟩
theorem rchecksum_c (s t : Ax) (a : Option Addr) (b : List Int) (cap : Nat) (w : World) (hs : WfA s) (ht : WfA t) (hv : s.v = 4 ∨ s.v = 6) (hr : Row w a b) (hl : b.length ≤ 65535) (h4 : 4 ≤ b.length) (v : Int) (hvv : v = s.v) :
    Calls Try.prog 38 #[.agg (csA s.v s.l), .agg (csA t.v t.l), .int .i64 v, .slice a b.length cap] w fun E w' => E = .returned (.int .i64 (mckP s t b)) ∧ Away [] w w' := by
  subst hvv
  rcases hv with h | h
  · have := rchecksum_four s t a b cap w hs ht h hr hl h4
    rwa [← h] at this
  · have := rchecksum_six s t a b cap w hs ht h hr hl h4
    rwa [← h] at this
#print axioms rchecksum_c
end Go.Proofs.Ytbgpjhekohabiaa
