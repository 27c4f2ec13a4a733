/-
  WireNumbers: the walk, and the row's step.
-/
import Derived.Test.YtaiomhhndckccaaKit
import Derived.Deep.RegionHeld3
namespace Go.Proofs.Ytaiomhhndckccaa.wireNumbers
open Go.ChangeShapes Go.WideShapes Go.ChangeAt Go.RowKit
set_option linter.unusedVariables false

set_option maxRecDepth 100000 in
set_option maxHeartbeats 1000000 in
theorem walkl (a : Option Addr) (l : List Int) (len cap : Nat) (p x : Int) (w : World) (hll : l.length = len) (hcap : len ≤ cap) (hcap' : cap ≤ 140737488351232) (ha : a = none → cap = 0) (hr : Row w a l)
    (hp : -9223372036854775808 ≤ p) (hp' : p ≤ 9223372036854775807) (hx : 0 ≤ x) (hx' : x ≤ 65535) :
    Calls Try.prog 3 #[.slice a len cap, .int .i64 p, .int .u16 x] w fun e w' => e = .returned (.bool true) ∧ Below w.heap.size w w' := by
  by_cases hbig : 400 < len
  · have hbig' : decide ((400 : Int) < (len : Int)) = true := by simp; omega
    obtain ⟨n, hn⟩ : ∃ n : Nat, n = 400 := ⟨_, rfl⟩
    have s1 := slice_h a len cap n 400 (by omega) (by omega)
    have hn4 : n ≤ 400 := by omega
    have hnc : n ≤ cap := by omega
    obtain ⟨m, hm, hmn, hmr⟩ : ∃ m, m = l.take 400 ∧ m.length = n ∧ Row w a m := ⟨_, rfl, by simp; omega, hr.head 400⟩
    have HM : Hid (m.length = n) := hmn
    clear hn hm hmn hr hll
    go_enter Try.func3, Try.ntmps3
    go_wp2_with fail
    refine (alive_any _).mono ?_
    rintro E w1 ⟨rfl, haw1⟩
    go_wp2_with fail
    go_loopw [7] (fun i wr => ∃ k : Nat, k ≤ n ∧ i = .int .i64 k ∧ Away [] w wr) (fun i _ => n + 1 - (intOf i).toNat)
    case atStart => exact ⟨0, by omega, rfl, haw1⟩
    case round =>
      obtain ⟨k, hk, rfl, haw⟩ := hrel
      by_cases hlt : k + 4 ≤ n
      · obtain ⟨A, hA⟩ : ∃ A, A = if cap = k then a else a.map (·.add k) := ⟨_, rfl⟩
        have s2 := slice_l a A n cap k (k : Int) hA rfl (by omega)
        have hrow := (hmr.tail k cap (by rw [HM.out]; omega) (by rw [HM.out]; omega)).away haw (by simp)
        rw [← hA] at hrow
        have hdl : (m.drop k).length = n - k := by simp [HM.out]
        obtain ⟨b0, b1, b2, b3, r, hM⟩ := four_of (l := m.drop k) (by omega)
        obtain ⟨M, hMd⟩ : ∃ M, M = m.drop k := ⟨_, rfl⟩
        rw [← hMd] at hrow hdl hM
        have HDL : Hid (M.length = n - k) := hdl
        have HA : Hid (A = if cap = k then a else a.map (·.add k)) := hA
        have HMM : Hid (M = b0 :: b1 :: b2 :: b3 :: r) := hM
        have HMD : Hid (M = m.drop k) := hMd
        clear hA hdl hM hMd
        have hlt' : (k : Int) + 4 ≤ n := by omega
        go_wp2_with fail
        refine (own_any A _ _ _ _ HDL.out (by exact hrow)).mono ?_
        rintro E w2 ⟨v2, rfl, hown2, hnew2, haw2, hb2, hl2⟩
        obtain ⟨a2, cap2, rfl, hcap2, hnone2, hrow2, _⟩ := hown2.row hl2 hb2
        go_wp2_with fail
        refine (newReader_any a2 _ _ _ _ rfl hnone2 (by exact hrow2)).mono ?_
        rintro E w3 ⟨g2, d2, rfl, hrd2, hg2, hd2, haw3⟩
        have haw4 := (haw.next haw2 (by simp)).next haw3 (by simp)
        have hrow4 := hrow.away (haw2.next haw3 (by simp)) (by simp)
        have hs2 := haw2.size
        clear hown2 hnew2 hrow2 haw2 haw3 hcap2 hnone2
        go_wp2_with fail
        refine (own_any A _ _ _ _ HDL.out (by exact hrow4)).mono ?_
        rintro E w4 ⟨v4, rfl, hown4, hnew4, haw5, hb4, hl4⟩
        obtain ⟨a4, cap4, rfl, hcap4, hnone4, hrow5, _⟩ := hown4.row hl4 hb4
        go_wp2_with fail
        refine (newReader_any a4 _ _ _ _ rfl hnone4 (by exact hrow5)).mono ?_
        rintro E w5 ⟨g4, d4, rfl, hrd4, hg4, hd4, haw6⟩
        have haw7 := (haw4.next haw5 (by simp)).next haw6 (by simp)
        have hrd2' := hrd2.away (haw5.next haw6 (by simp)) (by simp) (by simp)
        have hrow6 := hrow4.away (haw5.next haw6 (by simp)) (by simp)
        have hs5 := haw5.size
        have hlt2 := hrd2.lt
        have n1 : g2 ≠ g4 := by omega
        have n2 : d2 ≠ g4 := by omega
        have n3 : g4 ≠ g2 := by omega
        have n4 : d4 ≠ g2 := by omega
        have hw4 := haw4.size
        have hw := haw.size
        have B2 : w.heap.size ≤ g2 := by omega
        have B4 : w.heap.size ≤ g4 := by omega
        clear hown4 hnew4 hrow5 haw5 haw6 hcap4 hnone4 hrd2 haw4 hrow4 hg2 hd2 hg4 hd4 hs5 hlt2 hw4 hw
        obtain ⟨_, q2, q3, q4⟩ := rd2 b0 b1 (b2 :: b3 :: r)
        rw [← HMM.out] at q2 q3 q4
        have Q : Hid (rdRest M 0 2 = b2 :: b3 :: r ∧ rdErr M 0 2 = 0 ∧ num (rdOut M 0 2) = 256 * b0 + b1) := ⟨q2, q3, q4⟩
        clear q2 q3 q4
        go_wp2_with fail
        refine (u16_any _ g2 d2 _ 0 (by exact hrd2')).mono ?_
        rintro E w6 ⟨rfl, hrd2, haw8⟩
        rw [Q.out.1, Q.out.2.1] at hrd2
        rw [Q.out.2.2]
        have hrd4' := hrd4.away haw8 (by simpa using n3) (by simpa using n4)
        have haw9 := haw7.next haw8 (by simpa using B2)
        clear Q hrd2' hrd4 haw7 haw8
        obtain ⟨R, hR⟩ : ∃ R, R = b2 :: b3 :: r := ⟨_, rfl⟩
        rw [← hR] at hrd2
        obtain ⟨_, q2, q3, q4⟩ := rd2 b2 b3 r
        rw [← hR] at q2 q3 q4
        have Q : Hid (rdRest R 0 2 = r ∧ rdErr R 0 2 = 0 ∧ num (rdOut R 0 2) = 256 * b2 + b3) := ⟨q2, q3, q4⟩
        clear q2 q3 q4 hR
        go_wp2_with fail
        refine (u16_any _ g2 d2 _ 0 (by exact hrd2)).mono ?_
        rintro E w7 ⟨rfl, hrd2', haw10⟩
        rw [Q.out.1, Q.out.2.1] at hrd2'
        rw [Q.out.2.2]
        have hrd4 := hrd4'.away haw10 (by simpa using n3) (by simpa using n4)
        have haw11 := haw9.next haw10 (by simpa using B2)
        clear Q hrd2 hrd4' haw9 haw10
        go_wp2_with fail
        have hc0 : ∃ b off, a = some ⟨b, off, none⟩ ∧ b < w.heap.size ∧ w7.cell? ⟨b, off + k, none⟩ = some (.int .u8 b0) ∧ w7.cell? ⟨b, off + (k + 1), none⟩ = some (.int .u8 b1) := by
          rcases hmr.2.2 with h0 | ⟨b, off, h1, h2⟩
          · have := HM.out; rw [h0] at this; simp at this; omega
          · have e0 : m[k]? = some b0 := by have := congrArg (fun l => l[0]?) (HMD.out.symm.trans HMM.out); simpa using this
            have e1 : m[k + 1]? = some b1 := by have := congrArg (fun l => l[1]?) (HMD.out.symm.trans HMM.out); simpa using this
            have f0 := h2 k (by rw [HM.out]; omega)
            have f1 := h2 (k + 1) (by rw [HM.out]; omega)
            rw [e0] at f0
            rw [e1] at f1
            exact ⟨b, off, h1, block_lt_of_cell f0, haw11.cell (by simp) f0, haw11.cell (by simp) f1⟩
        obtain ⟨b, off, rfl, hbw, c0, c1⟩ := hc0
        have hbg : b ∉ [g4] := by simp; omega
        have B0 := hb2 b0 (by rw [HMM.out]; simp)
        have B1 := hb2 b1 (by rw [HMM.out]; simp)
        have B2' := hb2 b2 (by rw [HMM.out]; simp)
        have B3 := hb2 b3 (by rw [HMM.out]; simp)
        have hb00 := B0.1
        have hb01 := B0.2
        have hb10 := B1.1
        have hb11 := B1.2
        have hb20 := B2'.1
        have hb21 := B2'.2
        have hb30 := B3.1
        have hb31 := B3.2
        clear hb2 hb4 B0 B1 B2' B3 hrow hrow6
        have hk0 : (0 : Int) ≤ (k : Int) := by omega
        have hk1 : (k : Int) < (n : Int) := by omega
        have hk2 : (k : Int) + 1 < (n : Int) := by omega
        obtain ⟨_, q2, q3, q4⟩ := rd4 b0 b1 b2 b3 r
        have K4 : Hid (∀ W : World, Rd W g4 d4 M 0 → Calls Try.prog 13 #[.pointer (some ⟨g4, 0, none⟩)] W fun E w' => Numb .u32 W g4 d4 (65536 * (256 * b0 + b1) + (256 * b2 + b3)) r 0 E w') := by
          intro W hW
          have := u32_any W g4 d4 M 0 hW
          rw [HMM.out, q2, q3, q4] at this
          exact this
        clear q2 q3 q4
        have y1 : IntKind.i64.wrap ((k : Int) + 1) = (k : Int) + 1 := IntWalk.i64_in _ ⟨by omega, by omega⟩
        have y2 : (0 : Int) ≤ (k : Int) + 1 := by omega
        have y4 : ((k : Int) + 1).toNat = k + 1 := by omega
        have x1 := u64_wrap (256 * b0 + b1) (by omega) (by omega)
        have x2 := u64_wrap b0 (by omega) (by omega)
        have x3 := u64_wrap b1 (by omega) (by omega)
        have x4 := u64_wrap (256 * b0) (by omega) (by omega)
        have x5 := u64_wrap (256 * b2 + b3) (by omega) (by omega)
        have x6 := u64_wrap (65536 * (256 * b0 + b1)) (by omega) (by omega)
        have x7 := u64_wrap (65536 * (256 * b0 + b1) + (256 * b2 + b3)) (by omega) (by omega)
        go_region_held3 (fun w' => w'.cell? ⟨b, off + k, none⟩ = some (.int .u8 b0) ∧ w'.cell? ⟨b, off + (k + 1), none⟩ = some (.int .u8 b1)) (go_keep)
          (first
            | (go_at_call 13; refine (K4.out _ (by exact hrd4)).mono ?_; rintro E w8 ⟨rfl, hrd4', haw12⟩; have hrd2 := hrd2'.away haw12.undrew (by simpa using n1) (by simpa using n2); have z0 := haw12.undrew.cell hbg c0; have z1 := haw12.undrew.cell hbg c1)
            | (go_at_call_of 14 g2; refine (left_any _ g2 d2 r 0 (by exact hrd2)).mono ?_; rintro E w' ⟨rfl, rfl⟩)
            | (go_at_call_of 14 g4; refine (left_any _ g4 d4 r 0 (by exact hrd4')).mono ?_; rintro E w' ⟨rfl, rfl⟩))
        go_wp2_with fail
        go_roundw
        case rel => exact ⟨k + 1, by omega, by go_num, haw11.next haw12.undrew (by simpa using B4)⟩
        case measure => simp [intOf]; omega
      · have hlt' : ¬ ((k : Int) + 4 ≤ n) := by omega
        clear hlt
        go_wp2_with fail
        refine (newWriter_any n _ (by omega) (by omega)).mono ?_
        rintro E w2 ⟨g, v, rfl, hwr, hg, hv, haw2⟩
        rw [show limOf n = n from by unfold limOf; rw [if_neg (by omega), if_pos (by omega)]] at hwr
        have haw3 := haw.next haw2 (by simp)
        have hs := haw.size
        have hB : ∀ k ∈ fp g v, w.heap.size ≤ k := by intro k hk; simp [fp, hv] at hk; omega
        have hrow3 := hmr.away haw3 (by simp)
        clear haw haw2
        go_wp2_with fail
        refine (own_any a m _ _ _ HM.out (by exact hrow3)).mono ?_
        rintro E w3 ⟨v3, rfl, hown3, hnew3, haw4, hb3, hl3⟩
        obtain ⟨a3, cap3, hv3, hcap3, hnone3, hrow4, _⟩ := hown3.row hl3 hb3
        rw [HM.out] at hv3
        subst hv3
        have hwr3 := hwr.away haw4 (by simp) (by simp)
        have haw5 := haw3.next haw4 (by simp)
        clear hwr haw3 haw4 hown3 hnew3
        go_wp2_with fail
        refine (wbytes_any _ g v n [] 0 a3 m n cap3 (by exact hwr3) HM.out hnone3 (by exact hrow4)).mono ?_
        rintro E w4 ⟨rfl, v4, hwr4, hm4, haw6⟩
        have e1 : wrAll [] 0 n m = m := by unfold wrAll; rw [if_pos ⟨rfl, by simp [HM.out]⟩]; rfl
        have e2 : wrErr [] 0 n m.length = 0 := by unfold wrErr; rw [if_pos rfl, if_pos (by simp [HM.out])]
        rw [e1, e2] at hwr4
        have hs5 := haw5.size
        have hB4 := fp_new hm4 hB hs5
        have haw7 := haw5.next haw6 (fun k hk => .inr (hB k hk))
        clear hwr3 haw5 haw6 e1 e2 hm4 hrow4 hB hs5
        go_wp2_with fail
        refine (put16_any _ g v4 n m 0 p x (by exact hwr4) hx hx' hp hp').mono ?_
        rintro E w5 ⟨rfl, v5, hwr5, hm5, haw8⟩
        have haw9 := haw7.next haw8 (fun k hk => .inr (hB4 k hk))
        clear hwr4 haw7 haw8 hm5 hB4
        by_cases hok : 0 ≤ p ∧ p + 2 ≤ m.length
        · have e1 : putErr m 0 p = 0 := by unfold putErr; rw [if_pos rfl, if_pos hok]
          obtain ⟨q, rfl⟩ := Int.eq_ofNat_of_zero_le hok.1
          have e2 : putAll m 0 q x = (m.set q (x / 256)).set (q + 1) (x % 256) := by unfold putAll; rw [if_pos ⟨rfl, hok⟩, Int.toNat_natCast]
          rw [e1, e2] at hwr5
          obtain ⟨M, hM⟩ : ∃ M, M = (m.set q (x / 256)).set (q + 1) (x % 256) := ⟨_, rfl⟩
          rw [← hM] at hwr5
          have hML : M.length = n := by rw [hM]; simp [HM.out]
          have HML : Hid (M.length = n) := hML
          have HMM : Hid (M = (m.set q (x / 256)).set (q + 1) (x % 256)) := hM
          have hq : q + 2 ≤ n := by have := HM.out; omega
          clear e1 e2 hM hML hok
          go_wp2_with fail
          refine (out_any _ g v5 n M 0 (by exact hwr5)).mono ?_
          rintro E w6 ⟨v6, rfl, hown6, hnew6, haw10⟩
          rw [show wrOut M 0 = M from by unfold wrOut; rw [if_pos rfl]] at hown6
          have hMb := hwr5.2.2.2.1
          have haw11 := haw9.next haw10 (by simp)
          obtain ⟨a6, cap6, hv6, hcap6, hnone6, hrow6, hblk6, hoff6⟩ := hown6.row (by rw [HML.out]; omega) hMb
          have hown6' := hown6
          rw [hv6, HML.out] at hown6'
          rw [HML.out] at hv6 hcap6
          subst hv6
          have ha6 : a6 ≠ none := by
            intro h
            have := hnone6 h
            omega
          obtain ⟨⟨b6, off6, sp6⟩, rfl⟩ := Option.ne_none_iff_exists'.mp ha6
          obtain ⟨t1, t2⟩ := hoff6 _ rfl
          simp only at t1 t2
          subst t1; subst t2
          obtain ⟨c0, f0⟩ := hown6'.cells q (by rw [HML.out]; omega)
          obtain ⟨c1, f1⟩ := hown6'.cells (q + 1) (by rw [HML.out]; omega)
          have E0 : M[q]?.getD 0 = x / 256 := by
            rw [HMM.out, List.getElem?_set_ne (by omega), List.getElem?_set_self (by rw [HM.out]; omega)]; rfl
          have E1 : M[q + 1]?.getD 0 = x % 256 := by
            rw [HMM.out, List.getElem?_set_self (by simp [HM.out]; omega)]; rfl
          rw [E0] at c0
          rw [E1] at c1
          clear E0 E1 hown6 hown6' hnew6 haw9 haw10 hwr5 ha6 f0 f1 hblk6 hoff6
          have hrm := hmr.away haw11 (by simp)
          obtain ⟨A1, hA1⟩ : ∃ A, A = if cap6 = q + 2 then some (⟨b6, 0, none⟩ : Addr) else (some (⟨b6, 0, none⟩ : Addr)).map (·.add (q + 2)) := ⟨_, rfl⟩
          obtain ⟨A2, hA2⟩ : ∃ A, A = if cap = q + 2 then a else a.map (·.add (q + 2)) := ⟨_, rfl⟩
          have r1 := hrow6.head q
          have r2 := hrm.head q
          have r3 := hrow6.tail (q + 2) cap6 (by rw [HML.out]; omega) (by rw [HML.out]; omega)
          have r4 := hrm.tail (q + 2) cap (by rw [HM.out]; omega) (by rw [HM.out]; omega)
          rw [← hA1] at r3
          rw [← hA2] at r4
          have t1 := slice_h (some ⟨b6, 0, none⟩) n cap6 q (q : Int) rfl (by omega)
          have t2 := slice_h a n cap q (q : Int) rfl (by omega)
          have t3 := slice_l (some ⟨b6, 0, none⟩) A1 n cap6 (q + 2) ((q : Int) + 2) hA1 (by omega) (by omega)
          have t4 := slice_l a A2 n cap (q + 2) ((q : Int) + 2) hA2 (by omega) (by omega)
          have hn1 : A1 = none → cap6 - (q + 2) = 0 := by rw [hA1]; split <;> simp
          have hn2 : A2 = none → cap - (q + 2) = 0 := by
            rw [hA2]; split
            · intro h; omega
            · intro h; have := ha (by simpa using h); omega
          have HR : Hid (Row w6 (some ⟨b6, 0, none⟩) (M.take q) ∧ Row w6 a (m.take q) ∧ Row w6 A1 (M.drop (q + 2)) ∧ Row w6 A2 (m.drop (q + 2))) := ⟨r1, r2, r3, r4⟩
          have HN : Hid ((A1 = none → cap6 - (q + 2) = 0) ∧ (A2 = none → cap - (q + 2) = 0)) := ⟨hn1, hn2⟩
          have HE : Hid (M.take q = m.take q ∧ M.drop (q + 2) = m.drop (q + 2)) := by
            constructor
            · rw [HMM.out, List.take_set_of_le (by omega), List.take_set_of_le (by omega)]
            · rw [HMM.out, List.drop_set_of_lt (by omega), List.drop_set_of_lt (by omega)]
          clear r1 r2 r3 r4 hA1 hA2 hn1 hn2 hrm hrow6 hmr
          have y1 : IntKind.i64.wrap ((q : Int) + 2) = (q : Int) + 2 := IntWalk.i64_in _ ⟨by omega, by omega⟩
          have y2 : (q : Int) + 2 ≤ (n : Int) := by omega
          go_wp2_with fail
          go_quiet (first
            | (go_at_call_of 20 A1; exact Calls.quiet_of_same (same_yes _ _ (M.drop (q + 2)) (m.drop (q + 2)) _ _ _ _ _ (by rw [List.length_drop, HML.out]) (by rw [List.length_drop, HM.out]) HN.out.1 HN.out.2 (by exact HR.out.2.2.1) (by exact HR.out.2.2.2) HE.out.2))
            | (go_at_call 20; exact Calls.quiet_of_same (same_yes _ _ (M.take q) (m.take q) _ _ _ _ _ (by rw [List.length_take, HML.out]; omega) (by rw [List.length_take, HM.out]; omega) (by simp) ha (by exact HR.out.1) (by exact HR.out.2.1) HE.out.1)))
          go_wp2_with fail
          go_ret
          exact ⟨rfl, below_drewN haw11.to_below _⟩
        · have e1 : putErr m 0 p = 1 := by unfold putErr; rw [if_pos rfl, if_neg hok]
          have e2 : putAll m 0 p x = m := by unfold putAll; rw [if_neg (fun h => hok h.2)]
          rw [e1, e2] at hwr5
          clear e1 e2
          by_cases hneg : p < 0
          · clear hok
            go_wp2_with fail
            refine (out_any _ g v5 n m 1 (by exact hwr5)).mono ?_
            rintro E w6 ⟨v6, rfl, hown6, hnew6, haw10⟩
            rw [show wrOut m 1 = [] from by unfold wrOut; rw [if_neg (by omega)]] at hown6
            have haw11 := haw9.next haw10 (by simp)
            have hwr6 := hwr5.away haw10 (by simp) (by simp)
            obtain ⟨a6, cap6, hv6, _⟩ := hown6.row (by simp) Bytes.nil
            simp only [List.length_nil] at hv6
            subst hv6
            clear hown6 hnew6 haw9 haw10 hwr5
            go_wp2_with fail
            refine (wlen_any _ g v5 n m 1 (by exact hwr6)).mono ?_
            rintro E w' ⟨rfl, rfl⟩
            rw [HM.out]
            go_wp2_with fail
            go_ret
            exact ⟨rfl, haw11.to_below⟩
          · have hpn : ¬ (p ≤ (n : Int) - 2) := by have := HM.out; omega
            have hneg' : 0 ≤ p := by omega
            clear hok
            go_wp2_with fail
            refine (out_any _ g v5 n m 1 (by exact hwr5)).mono ?_
            rintro E w6 ⟨v6, rfl, hown6, hnew6, haw10⟩
            rw [show wrOut m 1 = [] from by unfold wrOut; rw [if_neg (by omega)]] at hown6
            have haw11 := haw9.next haw10 (by simp)
            have hwr6 := hwr5.away haw10 (by simp) (by simp)
            obtain ⟨a6, cap6, hv6, _⟩ := hown6.row (by simp) Bytes.nil
            simp only [List.length_nil] at hv6
            subst hv6
            clear hown6 hnew6 haw9 haw10 hwr5
            go_wp2_with fail
            refine (wlen_any _ g v5 n m 1 (by exact hwr6)).mono ?_
            rintro E w' ⟨rfl, rfl⟩
            rw [HM.out]
            go_wp2_with fail
            go_ret
            exact ⟨rfl, haw11.to_below⟩
  · have hbig' : decide ((400 : Int) < (len : Int)) = false := by simp; omega
    obtain ⟨n, hn⟩ : ∃ n : Nat, n = len := ⟨_, rfl⟩
    subst hn
    have hn4 : n ≤ 400 := by omega
    have hnc : n ≤ cap := by omega
    have hmr := hr
    have HM : Hid (l.length = n) := hll
    clear hr hll
    revert hmr HM
    generalize l = m
    intro hmr HM
    go_enter Try.func3, Try.ntmps3
    go_wp2_with fail
    refine (alive_any _).mono ?_
    rintro E w1 ⟨rfl, haw1⟩
    go_wp2_with fail
    go_loopw [7] (fun i wr => ∃ k : Nat, k ≤ n ∧ i = .int .i64 k ∧ Away [] w wr) (fun i _ => n + 1 - (intOf i).toNat)
    case atStart => exact ⟨0, by omega, rfl, haw1⟩
    case round =>
      obtain ⟨k, hk, rfl, haw⟩ := hrel
      by_cases hlt : k + 4 ≤ n
      · obtain ⟨A, hA⟩ : ∃ A, A = if cap = k then a else a.map (·.add k) := ⟨_, rfl⟩
        have s2 := slice_l a A n cap k (k : Int) hA rfl (by omega)
        have hrow := (hmr.tail k cap (by rw [HM.out]; omega) (by rw [HM.out]; omega)).away haw (by simp)
        rw [← hA] at hrow
        have hdl : (m.drop k).length = n - k := by simp [HM.out]
        obtain ⟨b0, b1, b2, b3, r, hM⟩ := four_of (l := m.drop k) (by omega)
        obtain ⟨M, hMd⟩ : ∃ M, M = m.drop k := ⟨_, rfl⟩
        rw [← hMd] at hrow hdl hM
        have HDL : Hid (M.length = n - k) := hdl
        have HA : Hid (A = if cap = k then a else a.map (·.add k)) := hA
        have HMM : Hid (M = b0 :: b1 :: b2 :: b3 :: r) := hM
        have HMD : Hid (M = m.drop k) := hMd
        clear hA hdl hM hMd
        have hlt' : (k : Int) + 4 ≤ n := by omega
        go_wp2_with fail
        refine (own_any A _ _ _ _ HDL.out (by exact hrow)).mono ?_
        rintro E w2 ⟨v2, rfl, hown2, hnew2, haw2, hb2, hl2⟩
        obtain ⟨a2, cap2, rfl, hcap2, hnone2, hrow2, _⟩ := hown2.row hl2 hb2
        go_wp2_with fail
        refine (newReader_any a2 _ _ _ _ rfl hnone2 (by exact hrow2)).mono ?_
        rintro E w3 ⟨g2, d2, rfl, hrd2, hg2, hd2, haw3⟩
        have haw4 := (haw.next haw2 (by simp)).next haw3 (by simp)
        have hrow4 := hrow.away (haw2.next haw3 (by simp)) (by simp)
        have hs2 := haw2.size
        clear hown2 hnew2 hrow2 haw2 haw3 hcap2 hnone2
        go_wp2_with fail
        refine (own_any A _ _ _ _ HDL.out (by exact hrow4)).mono ?_
        rintro E w4 ⟨v4, rfl, hown4, hnew4, haw5, hb4, hl4⟩
        obtain ⟨a4, cap4, rfl, hcap4, hnone4, hrow5, _⟩ := hown4.row hl4 hb4
        go_wp2_with fail
        refine (newReader_any a4 _ _ _ _ rfl hnone4 (by exact hrow5)).mono ?_
        rintro E w5 ⟨g4, d4, rfl, hrd4, hg4, hd4, haw6⟩
        have haw7 := (haw4.next haw5 (by simp)).next haw6 (by simp)
        have hrd2' := hrd2.away (haw5.next haw6 (by simp)) (by simp) (by simp)
        have hrow6 := hrow4.away (haw5.next haw6 (by simp)) (by simp)
        have hs5 := haw5.size
        have hlt2 := hrd2.lt
        have n1 : g2 ≠ g4 := by omega
        have n2 : d2 ≠ g4 := by omega
        have n3 : g4 ≠ g2 := by omega
        have n4 : d4 ≠ g2 := by omega
        have hw4 := haw4.size
        have hw := haw.size
        have B2 : w.heap.size ≤ g2 := by omega
        have B4 : w.heap.size ≤ g4 := by omega
        clear hown4 hnew4 hrow5 haw5 haw6 hcap4 hnone4 hrd2 haw4 hrow4 hg2 hd2 hg4 hd4 hs5 hlt2 hw4 hw
        obtain ⟨_, q2, q3, q4⟩ := rd2 b0 b1 (b2 :: b3 :: r)
        rw [← HMM.out] at q2 q3 q4
        have Q : Hid (rdRest M 0 2 = b2 :: b3 :: r ∧ rdErr M 0 2 = 0 ∧ num (rdOut M 0 2) = 256 * b0 + b1) := ⟨q2, q3, q4⟩
        clear q2 q3 q4
        go_wp2_with fail
        refine (u16_any _ g2 d2 _ 0 (by exact hrd2')).mono ?_
        rintro E w6 ⟨rfl, hrd2, haw8⟩
        rw [Q.out.1, Q.out.2.1] at hrd2
        rw [Q.out.2.2]
        have hrd4' := hrd4.away haw8 (by simpa using n3) (by simpa using n4)
        have haw9 := haw7.next haw8 (by simpa using B2)
        clear Q hrd2' hrd4 haw7 haw8
        obtain ⟨R, hR⟩ : ∃ R, R = b2 :: b3 :: r := ⟨_, rfl⟩
        rw [← hR] at hrd2
        obtain ⟨_, q2, q3, q4⟩ := rd2 b2 b3 r
        rw [← hR] at q2 q3 q4
        have Q : Hid (rdRest R 0 2 = r ∧ rdErr R 0 2 = 0 ∧ num (rdOut R 0 2) = 256 * b2 + b3) := ⟨q2, q3, q4⟩
        clear q2 q3 q4 hR
        go_wp2_with fail
        refine (u16_any _ g2 d2 _ 0 (by exact hrd2)).mono ?_
        rintro E w7 ⟨rfl, hrd2', haw10⟩
        rw [Q.out.1, Q.out.2.1] at hrd2'
        rw [Q.out.2.2]
        have hrd4 := hrd4'.away haw10 (by simpa using n3) (by simpa using n4)
        have haw11 := haw9.next haw10 (by simpa using B2)
        clear Q hrd2 hrd4' haw9 haw10
        go_wp2_with fail
        have hc0 : ∃ b off, a = some ⟨b, off, none⟩ ∧ b < w.heap.size ∧ w7.cell? ⟨b, off + k, none⟩ = some (.int .u8 b0) ∧ w7.cell? ⟨b, off + (k + 1), none⟩ = some (.int .u8 b1) := by
          rcases hmr.2.2 with h0 | ⟨b, off, h1, h2⟩
          · have := HM.out; rw [h0] at this; simp at this; omega
          · have e0 : m[k]? = some b0 := by have := congrArg (fun l => l[0]?) (HMD.out.symm.trans HMM.out); simpa using this
            have e1 : m[k + 1]? = some b1 := by have := congrArg (fun l => l[1]?) (HMD.out.symm.trans HMM.out); simpa using this
            have f0 := h2 k (by rw [HM.out]; omega)
            have f1 := h2 (k + 1) (by rw [HM.out]; omega)
            rw [e0] at f0
            rw [e1] at f1
            exact ⟨b, off, h1, block_lt_of_cell f0, haw11.cell (by simp) f0, haw11.cell (by simp) f1⟩
        obtain ⟨b, off, rfl, hbw, c0, c1⟩ := hc0
        have hbg : b ∉ [g4] := by simp; omega
        have B0 := hb2 b0 (by rw [HMM.out]; simp)
        have B1 := hb2 b1 (by rw [HMM.out]; simp)
        have B2' := hb2 b2 (by rw [HMM.out]; simp)
        have B3 := hb2 b3 (by rw [HMM.out]; simp)
        have hb00 := B0.1
        have hb01 := B0.2
        have hb10 := B1.1
        have hb11 := B1.2
        have hb20 := B2'.1
        have hb21 := B2'.2
        have hb30 := B3.1
        have hb31 := B3.2
        clear hb2 hb4 B0 B1 B2' B3 hrow hrow6
        have hk0 : (0 : Int) ≤ (k : Int) := by omega
        have hk1 : (k : Int) < (n : Int) := by omega
        have hk2 : (k : Int) + 1 < (n : Int) := by omega
        obtain ⟨_, q2, q3, q4⟩ := rd4 b0 b1 b2 b3 r
        have K4 : Hid (∀ W : World, Rd W g4 d4 M 0 → Calls Try.prog 13 #[.pointer (some ⟨g4, 0, none⟩)] W fun E w' => Numb .u32 W g4 d4 (65536 * (256 * b0 + b1) + (256 * b2 + b3)) r 0 E w') := by
          intro W hW
          have := u32_any W g4 d4 M 0 hW
          rw [HMM.out, q2, q3, q4] at this
          exact this
        clear q2 q3 q4
        have y1 : IntKind.i64.wrap ((k : Int) + 1) = (k : Int) + 1 := IntWalk.i64_in _ ⟨by omega, by omega⟩
        have y2 : (0 : Int) ≤ (k : Int) + 1 := by omega
        have y4 : ((k : Int) + 1).toNat = k + 1 := by omega
        have x1 := u64_wrap (256 * b0 + b1) (by omega) (by omega)
        have x2 := u64_wrap b0 (by omega) (by omega)
        have x3 := u64_wrap b1 (by omega) (by omega)
        have x4 := u64_wrap (256 * b0) (by omega) (by omega)
        have x5 := u64_wrap (256 * b2 + b3) (by omega) (by omega)
        have x6 := u64_wrap (65536 * (256 * b0 + b1)) (by omega) (by omega)
        have x7 := u64_wrap (65536 * (256 * b0 + b1) + (256 * b2 + b3)) (by omega) (by omega)
        go_region_held3 (fun w' => w'.cell? ⟨b, off + k, none⟩ = some (.int .u8 b0) ∧ w'.cell? ⟨b, off + (k + 1), none⟩ = some (.int .u8 b1)) (go_keep)
          (first
            | (go_at_call 13; refine (K4.out _ (by exact hrd4)).mono ?_; rintro E w8 ⟨rfl, hrd4', haw12⟩; have hrd2 := hrd2'.away haw12.undrew (by simpa using n1) (by simpa using n2); have z0 := haw12.undrew.cell hbg c0; have z1 := haw12.undrew.cell hbg c1)
            | (go_at_call_of 14 g2; refine (left_any _ g2 d2 r 0 (by exact hrd2)).mono ?_; rintro E w' ⟨rfl, rfl⟩)
            | (go_at_call_of 14 g4; refine (left_any _ g4 d4 r 0 (by exact hrd4')).mono ?_; rintro E w' ⟨rfl, rfl⟩))
        go_wp2_with fail
        go_roundw
        case rel => exact ⟨k + 1, by omega, by go_num, haw11.next haw12.undrew (by simpa using B4)⟩
        case measure => simp [intOf]; omega
      · have hlt' : ¬ ((k : Int) + 4 ≤ n) := by omega
        clear hlt
        go_wp2_with fail
        refine (newWriter_any n _ (by omega) (by omega)).mono ?_
        rintro E w2 ⟨g, v, rfl, hwr, hg, hv, haw2⟩
        rw [show limOf n = n from by unfold limOf; rw [if_neg (by omega), if_pos (by omega)]] at hwr
        have haw3 := haw.next haw2 (by simp)
        have hs := haw.size
        have hB : ∀ k ∈ fp g v, w.heap.size ≤ k := by intro k hk; simp [fp, hv] at hk; omega
        have hrow3 := hmr.away haw3 (by simp)
        clear haw haw2
        go_wp2_with fail
        refine (own_any a m _ _ _ HM.out (by exact hrow3)).mono ?_
        rintro E w3 ⟨v3, rfl, hown3, hnew3, haw4, hb3, hl3⟩
        obtain ⟨a3, cap3, hv3, hcap3, hnone3, hrow4, _⟩ := hown3.row hl3 hb3
        rw [HM.out] at hv3
        subst hv3
        have hwr3 := hwr.away haw4 (by simp) (by simp)
        have haw5 := haw3.next haw4 (by simp)
        clear hwr haw3 haw4 hown3 hnew3
        go_wp2_with fail
        refine (wbytes_any _ g v n [] 0 a3 m n cap3 (by exact hwr3) HM.out hnone3 (by exact hrow4)).mono ?_
        rintro E w4 ⟨rfl, v4, hwr4, hm4, haw6⟩
        have e1 : wrAll [] 0 n m = m := by unfold wrAll; rw [if_pos ⟨rfl, by simp [HM.out]⟩]; rfl
        have e2 : wrErr [] 0 n m.length = 0 := by unfold wrErr; rw [if_pos rfl, if_pos (by simp [HM.out])]
        rw [e1, e2] at hwr4
        have hs5 := haw5.size
        have hB4 := fp_new hm4 hB hs5
        have haw7 := haw5.next haw6 (fun k hk => .inr (hB k hk))
        clear hwr3 haw5 haw6 e1 e2 hm4 hrow4 hB hs5
        go_wp2_with fail
        refine (put16_any _ g v4 n m 0 p x (by exact hwr4) hx hx' hp hp').mono ?_
        rintro E w5 ⟨rfl, v5, hwr5, hm5, haw8⟩
        have haw9 := haw7.next haw8 (fun k hk => .inr (hB4 k hk))
        clear hwr4 haw7 haw8 hm5 hB4
        by_cases hok : 0 ≤ p ∧ p + 2 ≤ m.length
        · have e1 : putErr m 0 p = 0 := by unfold putErr; rw [if_pos rfl, if_pos hok]
          obtain ⟨q, rfl⟩ := Int.eq_ofNat_of_zero_le hok.1
          have e2 : putAll m 0 q x = (m.set q (x / 256)).set (q + 1) (x % 256) := by unfold putAll; rw [if_pos ⟨rfl, hok⟩, Int.toNat_natCast]
          rw [e1, e2] at hwr5
          obtain ⟨M, hM⟩ : ∃ M, M = (m.set q (x / 256)).set (q + 1) (x % 256) := ⟨_, rfl⟩
          rw [← hM] at hwr5
          have hML : M.length = n := by rw [hM]; simp [HM.out]
          have HML : Hid (M.length = n) := hML
          have HMM : Hid (M = (m.set q (x / 256)).set (q + 1) (x % 256)) := hM
          have hq : q + 2 ≤ n := by have := HM.out; omega
          clear e1 e2 hM hML hok
          go_wp2_with fail
          refine (out_any _ g v5 n M 0 (by exact hwr5)).mono ?_
          rintro E w6 ⟨v6, rfl, hown6, hnew6, haw10⟩
          rw [show wrOut M 0 = M from by unfold wrOut; rw [if_pos rfl]] at hown6
          have hMb := hwr5.2.2.2.1
          have haw11 := haw9.next haw10 (by simp)
          obtain ⟨a6, cap6, hv6, hcap6, hnone6, hrow6, hblk6, hoff6⟩ := hown6.row (by rw [HML.out]; omega) hMb
          have hown6' := hown6
          rw [hv6, HML.out] at hown6'
          rw [HML.out] at hv6 hcap6
          subst hv6
          have ha6 : a6 ≠ none := by
            intro h
            have := hnone6 h
            omega
          obtain ⟨⟨b6, off6, sp6⟩, rfl⟩ := Option.ne_none_iff_exists'.mp ha6
          obtain ⟨t1, t2⟩ := hoff6 _ rfl
          simp only at t1 t2
          subst t1; subst t2
          obtain ⟨c0, f0⟩ := hown6'.cells q (by rw [HML.out]; omega)
          obtain ⟨c1, f1⟩ := hown6'.cells (q + 1) (by rw [HML.out]; omega)
          have E0 : M[q]?.getD 0 = x / 256 := by
            rw [HMM.out, List.getElem?_set_ne (by omega), List.getElem?_set_self (by rw [HM.out]; omega)]; rfl
          have E1 : M[q + 1]?.getD 0 = x % 256 := by
            rw [HMM.out, List.getElem?_set_self (by simp [HM.out]; omega)]; rfl
          rw [E0] at c0
          rw [E1] at c1
          clear E0 E1 hown6 hown6' hnew6 haw9 haw10 hwr5 ha6 f0 f1 hblk6 hoff6
          have hrm := hmr.away haw11 (by simp)
          obtain ⟨A1, hA1⟩ : ∃ A, A = if cap6 = q + 2 then some (⟨b6, 0, none⟩ : Addr) else (some (⟨b6, 0, none⟩ : Addr)).map (·.add (q + 2)) := ⟨_, rfl⟩
          obtain ⟨A2, hA2⟩ : ∃ A, A = if cap = q + 2 then a else a.map (·.add (q + 2)) := ⟨_, rfl⟩
          have r1 := hrow6.head q
          have r2 := hrm.head q
          have r3 := hrow6.tail (q + 2) cap6 (by rw [HML.out]; omega) (by rw [HML.out]; omega)
          have r4 := hrm.tail (q + 2) cap (by rw [HM.out]; omega) (by rw [HM.out]; omega)
          rw [← hA1] at r3
          rw [← hA2] at r4
          have t1 := slice_h (some ⟨b6, 0, none⟩) n cap6 q (q : Int) rfl (by omega)
          have t2 := slice_h a n cap q (q : Int) rfl (by omega)
          have t3 := slice_l (some ⟨b6, 0, none⟩) A1 n cap6 (q + 2) ((q : Int) + 2) hA1 (by omega) (by omega)
          have t4 := slice_l a A2 n cap (q + 2) ((q : Int) + 2) hA2 (by omega) (by omega)
          have hn1 : A1 = none → cap6 - (q + 2) = 0 := by rw [hA1]; split <;> simp
          have hn2 : A2 = none → cap - (q + 2) = 0 := by
            rw [hA2]; split
            · intro h; omega
            · intro h; have := ha (by simpa using h); omega
          have HR : Hid (Row w6 (some ⟨b6, 0, none⟩) (M.take q) ∧ Row w6 a (m.take q) ∧ Row w6 A1 (M.drop (q + 2)) ∧ Row w6 A2 (m.drop (q + 2))) := ⟨r1, r2, r3, r4⟩
          have HN : Hid ((A1 = none → cap6 - (q + 2) = 0) ∧ (A2 = none → cap - (q + 2) = 0)) := ⟨hn1, hn2⟩
          have HE : Hid (M.take q = m.take q ∧ M.drop (q + 2) = m.drop (q + 2)) := by
            constructor
            · rw [HMM.out, List.take_set_of_le (by omega), List.take_set_of_le (by omega)]
            · rw [HMM.out, List.drop_set_of_lt (by omega), List.drop_set_of_lt (by omega)]
          clear r1 r2 r3 r4 hA1 hA2 hn1 hn2 hrm hrow6 hmr
          have y1 : IntKind.i64.wrap ((q : Int) + 2) = (q : Int) + 2 := IntWalk.i64_in _ ⟨by omega, by omega⟩
          have y2 : (q : Int) + 2 ≤ (n : Int) := by omega
          go_wp2_with fail
          go_quiet (first
            | (go_at_call_of 20 A1; exact Calls.quiet_of_same (same_yes _ _ (M.drop (q + 2)) (m.drop (q + 2)) _ _ _ _ _ (by rw [List.length_drop, HML.out]) (by rw [List.length_drop, HM.out]) HN.out.1 HN.out.2 (by exact HR.out.2.2.1) (by exact HR.out.2.2.2) HE.out.2))
            | (go_at_call 20; exact Calls.quiet_of_same (same_yes _ _ (M.take q) (m.take q) _ _ _ _ _ (by rw [List.length_take, HML.out]; omega) (by rw [List.length_take, HM.out]; omega) (by simp) ha (by exact HR.out.1) (by exact HR.out.2.1) HE.out.1)))
          go_wp2_with fail
          go_ret
          exact ⟨rfl, below_drewN haw11.to_below _⟩
        · have e1 : putErr m 0 p = 1 := by unfold putErr; rw [if_pos rfl, if_neg hok]
          have e2 : putAll m 0 p x = m := by unfold putAll; rw [if_neg (fun h => hok h.2)]
          rw [e1, e2] at hwr5
          clear e1 e2
          by_cases hneg : p < 0
          · clear hok
            go_wp2_with fail
            refine (out_any _ g v5 n m 1 (by exact hwr5)).mono ?_
            rintro E w6 ⟨v6, rfl, hown6, hnew6, haw10⟩
            rw [show wrOut m 1 = [] from by unfold wrOut; rw [if_neg (by omega)]] at hown6
            have haw11 := haw9.next haw10 (by simp)
            have hwr6 := hwr5.away haw10 (by simp) (by simp)
            obtain ⟨a6, cap6, hv6, _⟩ := hown6.row (by simp) Bytes.nil
            simp only [List.length_nil] at hv6
            subst hv6
            clear hown6 hnew6 haw9 haw10 hwr5
            go_wp2_with fail
            refine (wlen_any _ g v5 n m 1 (by exact hwr6)).mono ?_
            rintro E w' ⟨rfl, rfl⟩
            rw [HM.out]
            go_wp2_with fail
            go_ret
            exact ⟨rfl, haw11.to_below⟩
          · have hpn : ¬ (p ≤ (n : Int) - 2) := by have := HM.out; omega
            have hneg' : 0 ≤ p := by omega
            clear hok
            go_wp2_with fail
            refine (out_any _ g v5 n m 1 (by exact hwr5)).mono ?_
            rintro E w6 ⟨v6, rfl, hown6, hnew6, haw10⟩
            rw [show wrOut m 1 = [] from by unfold wrOut; rw [if_neg (by omega)]] at hown6
            have haw11 := haw9.next haw10 (by simp)
            have hwr6 := hwr5.away haw10 (by simp) (by simp)
            obtain ⟨a6, cap6, hv6, _⟩ := hown6.row (by simp) Bytes.nil
            simp only [List.length_nil] at hv6
            subst hv6
            clear hown6 hnew6 haw9 haw10 hwr5
            go_wp2_with fail
            refine (wlen_any _ g v5 n m 1 (by exact hwr6)).mono ?_
            rintro E w' ⟨rfl, rfl⟩
            rw [HM.out]
            go_wp2_with fail
            go_ret
            exact ⟨rfl, haw11.to_below⟩
theorem walk (a0 : Option Addr) (len0 cap0 : Nat) (z0 : List Int) (p x : Int) (w : World) (h0 : IsRow .u8 w a0 len0 cap0 z0) (h1 : (Lit.int .i64 p).wf = true) (h2 : (Lit.int .u16 x).wf = true) :
    Calls Try.prog 3 #[.slice a0 len0 cap0, .int .i64 p, .int .u16 x] w fun e w' => e = .returned (.bool true) ∧ Below w.heap.size w w' := by
  obtain ⟨l, hl, hc, hc', hr, hn⟩ := view h0
  have b1 := bounds_i64 h1
  have b2 := bounds_u16 h2
  exact walkl a0 l len0 cap0 p x w hl hc hc' hn hr b1.1 b1.2 b2.1 b2.2
set_option maxRecDepth 100000 in
theorem lifted (os : Os) (started : os.Started) (H : Type) (enc : TypeId × Value → H) :
    ReturnsInHanded {} Try.checked os 3 .any (Rows.wireNumbersSpec.pre6 enc Try.prog Try.f3 Rows.wireNumbersRow.domain false) (Rows.wireNumbersSpec.post enc Try.prog Try.f3 false true false false) := by
  refine returnsInHanded_of_change_sized (C := Try.checked) ownKn started (by kernel_rfl) Try.func3
    (ChangeSpec.witness6 (enc := enc) (C := Try.checked) false ⟨#[], #[.slice none 0 0, .int .i64 0, .int .u16 0], []⟩ 8 (by kernel_rfl) (by kernel_rfl) (by kernel_rfl) (by kernel_rfl)) ?_
  intro W base args ds gs before hval0 hW _ hsz0 _
  have hsz : (DataW.weightsEach Try.prog (Try.f3.params.toList ++ Rows.wireNumbersSpec.plain.varTypes Try.prog) (ds ++ gs)).all (· ≤ reachBytes) = true := hsz0
  clear hsz0
  have hval : ∀ (j : Nat) t v, Try.f3.params[j]? = some t → args[j]? = some v → Value.okWide Try.prog W .any base t v := hval0
  have hW' := hW
  obtain ⟨p, q, hA0, hV, rfl, hfz, hnd⟩ := hW
  have hA : DataW.TrodAll enc Try.prog W 0 (fun _ => true) true Try.f3.params.toList args.toList ds p := hA0
  rw [Try.params3] at hA hval hsz
  obtain ⟨v0, vs0, d0, ds0, p0, q0, hargs, rfl, rfl, h0, r0⟩ := trodAll_cons hA
  obtain ⟨v1, vs1, d1, ds1, p1, q1, rfl, rfl, rfl, h1, r1⟩ := trodAll_cons r0
  obtain ⟨v2, vs2, d2, ds2, p2, q2, rfl, rfl, rfl, h2, r2⟩ := trodAll_cons r1
  obtain ⟨rfl, rfl, rfl⟩ := trodAll_nil r2
  obtain rfl : args = #[v0, v1, v2] := by cases args; simp_all
  obtain ⟨rfl, rfl⟩ := trodVars_none hV
  obtain ⟨a0, len0, cap0, rfl⟩ := okWide_slice Try.underlying22 (hval 0 22 v0 rfl rfl)
  have k0 := h0
  have lt0 : ∀ x ∈ p0, x.block < W.heap.size := by obtain ⟨m, hm⟩ := k0; exact DataW.trod_lt m _ _ _ hm
  obtain ⟨z0, w0⟩ : ∃ zs, IsRow .u8 W a0 len0 cap0 zs := by
    obtain ⟨fuel, hf⟩ := h0
    rcases open_ints Try.underlying22 Try.underlying5 (by kernel_rfl) hf with ⟨hcs, _⟩ | ⟨x, l, c, zs, hcs, _, hl, hm, hz, hx, hcell, hwz⟩
    · simp [Value.cells] at hcs
      obtain ⟨rfl, rfl, rfl⟩ := hcs
      exact ⟨[], .inl ⟨rfl, rfl, rfl, rfl⟩⟩
    · simp [Value.cells] at hcs
      obtain ⟨rfl, rfl, rfl⟩ := hcs
      simp only [Prod.mk.injEq] at hx
      obtain ⟨rfl, hpl⟩ := hx
      have hreach : cap0 * kindBytes .u8 ≤ 140737488351232 := by
        have := sized_slice hsz (j := 0) (t := 22) (e := 5) rfl rfl Try.underlying22
        rw [show Try.prog.bytesOf 5 = kindBytes .u8 from by kernel_rfl] at this
        simp only [lits, List.length_map, List.length_take, List.length_drop, reachBytes] at this
        simp only [if_true] at hz
        rw [show min len0 zs.length + (zs.length - len0) = cap0 from by omega] at this
        exact this
      exact ⟨zs, .inr ⟨_, rfl, hl, hreach, by simpa using hz, hcell, hwz⟩⟩
  obtain ⟨a1, rfl, rfl, rfl, w1⟩ := open_int Try.underlying3 (hval 1 3 v1 rfl rfl) h1
  obtain ⟨a2, rfl, rfl, rfl, w2⟩ := open_int Try.underlying23 (hval 2 23 v2 rfl rfl) h2
  clear hA0 hval0
  refine (walk a0 len0 cap0 z0 a1 a2 W w0 w1 w2).mono fun e W' ⟨he, bel⟩ => ?_
  subst he
  exact ⟨_, rfl, _, _, _, [], _, [], hW', trodAll_mk1 (shut_bool Try.underlying4 _), (trodAll_cons_mk (Below.trod laidOut (by kernel_rfl) (of_decide_eq_true (by kernel_rfl)) k0 bel lt0) (trodAll_cons_mk (shut_int Try.underlying3 w1) (trodAll_cons_mk (shut_int Try.underlying23 w2) trodAll_mk0))), rfl, bel.frame _, fun h => by cases h⟩

theorem over : Rows.wireNumbersRow.holds Try.pinned (OpenSpec.ofChange Rows.wireNumbersSpec) :=
  OpenClaim.holds_of_wide 3 Try.f3 rfl rfl rfl rfl rfl rfl rfl ⟨rfl, rfl, rfl, rfl, rfl⟩ rfl rfl rfl rfl rfl (by kernel_rfl) Try.func3 (by kernel_rfl)
    (of_decide_eq_true (by kernel_rfl)) (by unfold Func.isWrapper; first | (rw [if_pos (by decide +kernel)]; kernel_rfl) | (rw [if_neg (by decide +kernel)]; exact ⟨rfl, rfl⟩))
    (fun os started H enc _ => lifted os started H enc)

end Go.Proofs.Ytaiomhhndckccaa.wireNumbers
namespace Go.Proofs.Ytaiomhhndckccaa
theorem wireNumbers_holds : Rows.WireNumbersSaid := wireNumbers.over
#print axioms wireNumbers_holds
end Go.Proofs.Ytaiomhhndckccaa

