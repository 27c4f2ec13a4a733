/-
  The document's own Look.
-/
import Derived.Test.YtbgpjhekohabiaaDoorRefR
import Derived.Test.YtbgpjhekohabiaaDoorRefO
import Derived.Test.YtbgpjhekohabiaaDoorLook
import Derived.Lib.MinMax
import Derived.Test.YtbgpjhekohabiaaDoorStp
namespace Go.Proofs.YtbgpjhekohabiaaDoor
open Go.ChangeShapes Go.WideShapes Go.ChangeAt Go.RowKit Go.Deep Num
set_option linter.unusedVariables false
set_option maxHeartbeats 4000000
set_option maxRecDepth 100000

theorem get8_c (a : Option Addr) (l : List Int) (n cap i : Nat) (w : World) (hn : l.length = n) (hr : Row w a l) (hi : i + 1 < n) :
    Calls Tryd.prog 56 #[.slice a n cap, .int .i64 (i : Int)] w fun E w' => E = .returned (.int .i64 (w16 l i)) ∧ ∃ k, w' = w.drewN k := by
  subst hn
  have hlen := hr.1
  obtain ⟨b, off, rfl, c0⟩ := hr.at i (by omega)
  obtain ⟨b', off', he, c1⟩ := hr.at (i + 1) hi
  simp only [Option.some.injEq, Addr.mk.injEq, and_true] at he
  obtain ⟨rfl, rfl⟩ := he
  have x0 := gt_bd hr.2.1 i; have x1 := gt_bd hr.2.1 (i + 1)
  have HW : Hid (w16 l i = 256 * gt l i + gt l (i + 1)) := rfl
  clear hr
  generalize w16 l i = R at *
  generalize gt l i = x at *
  generalize gt l (i + 1) = y at *
  have i0 : (i : Int) < (l.length : Int) := by omega
  have i1 : (i : Int) + 1 < (l.length : Int) := by omega
  have i2 : ((i : Int) + 1).toNat = i + 1 := by omega
  have i3 : (0 : Int) ≤ (i : Int) := by omega
  have i4 : (0 : Int) ≤ (i : Int) + 1 := by omega
  go_enter Tryd.func56, Tryd.ntmps56
  go_wp2_with fail
  go_quiet (fail)
  go_wp2_with fail
  go_ret
  exact ⟨by rw [HW.out]; rfl, _, rfl⟩
theorem own8_c (a : Option Addr) (l : List Int) (n cap : Nat) (w : World) (hn : l.length = n) (ha : a = none → cap = 0) (hr : Row w a l) :
    Calls Tryd.prog 82 #[.slice a n cap] w fun E w' => ∃ v, E = .returned v ∧ Owns w' v l ∧ New w.heap.size v ∧ Away [] w w' := by
  subst hn
  have hlen := hr.1
  rcases a with _ | ad
  · have h0 : l = [] := by rcases hr.2.2 with h | ⟨_, _, h, _⟩ <;> simp_all
    subst h0
    obtain rfl := ha rfl
    go_enter Tryd.func82, Tryd.ntmps82
    go_wp2_with (at_builtin; refine wpList_app_none rfl _ _ rfl _ [] rfl (Owns.nil _) rfl ?_)
    go_wp2_with fail
    go_ret
    exact ⟨_, rfl, Owns.nil _, New.nil _, Away.refl _ _⟩
  · have HR := Lib.hid hr
    clear hr
    go_enter Tryd.func82, Tryd.ntmps82
    go_wp2_with (at_builtin; refine wpList_app rfl _ _ rfl _ [] l rfl (Owns.nil _) ad l.length cap rfl rfl HR.out.src (by simpa using hlen) ?_)
    intro v' w2 hown2 hgr hblk
    have HO := Lib.hid hown2
    have HA : Hid (Away [] w w2) := (Away.refl [] w).grown hgr (by simp [Value.ownBlock])
    have HN : Hid (New w.heap.size v') := fun k hk => by
      rcases hblk k hk with h | h
      · simp [Value.ownBlock] at h
      · exact h
    clear hown2 hgr hblk
    go_wp2_with fail
    go_ret
    exact ⟨v', rfl, HO.out, HN.out, HA.out⟩
/-- At most n of the bytes. -/
def uptoN (l : List Int) (n : Int) : Nat := (max 0 (min (l.length : Int) n)).toNat
theorem upto_c (a : Option Addr) (l : List Int) (cap : Nat) (n : Int) (w : World) (hc : l.length ≤ cap) (ha : a = none → cap = 0) (hr : Row w a l) :
    Calls Tryd.prog 60 #[.slice a l.length cap, .int .i64 n] w fun E w' => ∃ v, E = .returned v ∧ Owns w' v (l.take (uptoN l n)) ∧ New w.heap.size v ∧ Away [] w w' := by
  have hlen := hr.1
  obtain ⟨k, hk, hk2⟩ : ∃ k : Nat, max 0 (min (l.length : Int) n) = (k : Int) ∧ k ≤ l.length := ⟨uptoN l n, by unfold uptoN; omega, by unfold uptoN; omega⟩
  have HK : Hid (uptoN l n = k) := by show _ = _; unfold uptoN; omega
  have HO := Lib.hid (own8_c a (l.take k) k cap w (by simp; omega) ha (hr.head k))
  have sl := slice_h a l.length cap k (max 0 (min (l.length : Int) n)) hk (by omega)
  rw [HK.out]
  clear hr hk HK
  go_enter Tryd.func60, Tryd.ntmps60
  go_wp2_with fail
  refine HO.out.mono ?_
  rintro E w1 ⟨v, rfl, h1, h2, h3⟩
  have H1 := Lib.hid h1
  have H2 := Lib.hid h2
  have H3 := Lib.hid h3
  clear h1 h2 h3
  go_wp2_with fail
  go_ret
  exact ⟨v, rfl, H1.out, H2.out, H3.out⟩
end Go.Proofs.YtbgpjhekohabiaaDoor

namespace Go.Proofs.YtbgpjhekohabiaaDoor
open Go.ChangeShapes Go.WideShapes Go.ChangeAt Go.RowKit Go.Deep Num
set_option linter.unusedVariables false
set_option maxHeartbeats 4000000
set_option maxRecDepth 100000

theorem w16_take (b : List Int) (N i : Nat) (h : i + 1 < N) : w16 (b.take N) i = w16 b i := by
  unfold w16 gt; rw [List.getElem?_take, if_pos (by omega), List.getElem?_take, if_pos (by omega)]
theorem bare_read {b : List Int} {N : Nat} (h20 : 20 ≤ b.length) (hN : N ≤ 60) : rightP (bareO (readP b N).o (readP b N).sb (readP b N).db) = validP (readP b N).o := by
  have h1 : ((b.drop 12).take 4).length = 4 := by simp; omega
  have h2 : ((b.drop 16).take 4).length = 4 := by simp; omega
  have h3 : ((b.drop 20).take (N - 20)).length ≤ 40 := by simp; omega
  have hf : formedP (bareO (readP b N).o (readP b N).sb (readP b N).db) = true := by
    unfold formedP bareO readP
    simp only
    have ha : ∀ l : List Int, l.length = 4 → adrP 4 (l ++ z12) = true := fun l hl => by
      unfold adrP
      simp [hl, z12]
    rw [ha _ h1, ha _ h2]
    simp [octP, placedP]
    omega
  unfold rightP
  rw [hf]
  rfl
theorem upto_eq {b : List Int} {N : Nat} {n : Int} (h : N ≤ b.length) (hn : (N : Int) ≤ n) : uptoN (b.drop N) (n - N) = min b.length n.toNat - N := by
  unfold uptoN
  rw [List.length_drop]
  omega
theorem read8_c (a : Option Addr) (l : List Int) (cap N : Nat) (w : World) (hcap : l.length ≤ cap) (hr : Row w a l) (h20 : 20 ≤ N) (hN : N ≤ l.length) (h60 : N ≤ 60) :
    Calls Tryd.prog 58 #[.slice a l.length cap, .int .i64 (N : Int)] w fun E w' => ReadOut w (readP l N) E w' := by
  have HR := Lib.hid hr
  have HRW := Lib.hid (read_wf hr.2.1 hr.1 N (by omega))
  clear hr
  go_enter Tryd.func58, Tryd.ntmps58
  go_wp2_with (refine wpList_alloc28 rfl rfl ?_; refine Hid.out ?_)
  refine Lib.hid ?_
  intro g2 w1 hg2 hb2 haw1
  have HB2 := Lib.hid hb2; have HA := Lib.hid haw1
  have hl2 := hb2.lt
  clear hb2 haw1
  go_wp2_with fail
  refine (rread_c a l _ cap N _ rfl hcap (HR.out.on HA.out) h20 hN h60).mono ?_
  rintro E wr ⟨ov, dv, rfl, ho, hd, hno, hnd, haw⟩
  have hsz := HA.out.size
  have HNO : Hid (New w.heap.size ov) := hno.mono (by omega)
  have HND : Hid (New w.heap.size dv) := hnd.mono (by omega)
  have HBO : Hid (∀ k, ov.ownBlock = some k ∨ dv.ownBlock = some k → k ≠ g2) := fun k hk => by rcases hk with h | h; have := hno k h; omega; have := hnd k h; omega
  replace HA := Lib.hid (HA.out.on haw)
  replace HB2 := Lib.hid (HB2.out.on haw)
  have HAD := Lib.hid HRW.out.ad
  generalize hrp : readP l N = rp at *
  have HRP := Lib.hid hrp
  clear hrp
  obtain ⟨oa, on, oc, rfl⟩ := ho.shp
  obtain ⟨da, dn, dc, rfl⟩ := hd.shp
  have HO := Lib.hid ho; have HD := Lib.hid hd
  clear ho hd hno hnd haw
  go_wp2_with (refine wpList_store28 rfl _ _ rfl _ rfl rp (.slice oa on oc) (.slice da dn dc) rfl zeroPk (.slice none 0 0) (.slice none 0 0) (by exact HB2.out) HAD.out ⟨rfl, rfl⟩ rfl rfl ?_; refine Hid.out ?_)
  refine Lib.hid ?_
  intro wz hbz hawz
  have HBz := Lib.hid hbz
  have HAz : Hid (Away [] w wz) := HA.out.next hawz (fun x hx => .inr (by simp at hx; omega))
  have HOz := Lib.hid (HO.out.away hawz (fun k hk hx => HBO.out k (.inl hk) (by simpa using hx)))
  have HDz := Lib.hid (HD.out.away hawz (fun k hk hx => HBO.out k (.inr hk) (by simpa using hx)))
  clear hbz hawz
  go_wp2_with fail
  refine bodyPost_ret (result28 rfl _ _ _ _ _ _ rfl HBz.out HAD.out) rfl ?_
  rw [HRP.out]
  exact ⟨_, _, rfl, HOz.out, HDz.out, HNO.out, HND.out, HAz.out⟩
theorem rlook4_c (a : Option Addr) (b : List Int) (cap : Nat) (w : World) (hcap : b.length ≤ cap) (ha : a = none → cap = 0) (hr : Row w a b) :
    Calls Tryd.prog 25 #[.slice a b.length cap] w fun E w' => L4Out w (look4P b) E w' := by
  have hlen := hr.1
  have HBY := Lib.hid hr.2.1
  have HR := Lib.hid hr
  have HLK : Hid (look4P b = if hofE b ≠ 0 then (zeroPk, 0, hofE b) else if w16 b 10 ≠ sumH (b.take (headN b)) then (zeroPk, 0, 52) else rest4P b) := by
    show _ = _
    unfold look4P hofE
    by_cases h1 : b.length < 20
    · simp [h1]
    · by_cases h2 : gt b 0 / 16 ≠ 4 ∨ headN b < 20
      · simp only [if_neg h1, if_pos h2]; simp
      · by_cases h3 : b.length < headN b
        · simp only [if_neg h1, if_neg h2, if_pos h3]; simp
        · simp only [if_neg h1, if_neg h2, if_neg h3]; simp
  clear hr
  go_enter Tryd.func25, Tryd.ntmps25
  go_wp2_with (refine wpList_alloc28 rfl rfl ?_; refine Hid.out ?_)
  refine Lib.hid ?_
  intro g2 w1 hg2 hb2 haw1
  have HB2 := Lib.hid hb2; have HA := Lib.hid haw1
  have hl2 := hb2.lt
  clear hb2 haw1
  go_wp2_with fail
  refine (rhead_c a b _ cap _ rfl (HR.out.on HA.out)).mono ?_
  rintro E wh ⟨rfl, rfl⟩
  by_cases he : hofE b = 0
  rotate_left
  · have HPE : Hid (look4P b = (zeroPk, 0, hofE b)) := by show _ = _; rw [HLK.out, if_pos he]
    generalize hofE b = e at *
    have be : (e == 0) = false := by simp [he]
    have be2 : (e != 0) = true := by simp [he]
    clear he
    go_wp2_with (first | (refine wpList_store28 rfl _ _ rfl _ rfl zeroPk (.slice none 0 0) (.slice none 0 0) rfl zeroPk (.slice none 0 0) (.slice none 0 0) (by exact HB2.out) ⟨rfl, rfl⟩ ⟨rfl, rfl⟩ rfl rfl ?_; refine Hid.out ?_))
    refine Lib.hid ?_
    intro wz hbz hawz
    have HBz := Lib.hid hbz
    have HAz : Hid (Away [] w wz) := HA.out.next hawz (fun x hx => .inr (by simp at hx; omega))
    clear hbz hawz
    go_wp2_with fail
    refine bodyPost_ret (result28tt rfl _ _ _ _ _ _ (.int .i64 0) (.int .i64 e) rfl rfl rfl HBz.out ⟨rfl, rfl⟩) rfl ?_
    rw [HPE.out]
    exact L4Out.no _ HAz.out
  · have hN1 : hofN b = (headN b : Int) := by unfold hofN; rw [if_pos he]
    have hfacts : 20 ≤ b.length ∧ 20 ≤ headN b ∧ headN b ≤ b.length := by
      unfold hofE at he
      split at he
      · simp at he
      · split at he
        · simp at he
        · split at he
          · simp at he
          · rename_i h1 h2 h3
            simp only [not_or, Decidable.not_not] at h2
            exact ⟨by omega, by omega, by omega⟩
    have hN4 : headN b % 4 = 0 ∧ headN b ≤ 60 := by have h := gt_bd HBY.out 0; unfold headN; omega
    have HL2 : Hid (look4P b = if w16 b 10 ≠ sumH (b.take (headN b)) then (zeroPk, 0, 52) else rest4P b) := by show _ = _; rw [HLK.out, if_neg (by simp [he])]
    have HL3 : Hid (rest4P b = if 128 ≤ gt b 6 ∨ w16 b 2 < headN b then (zeroPk, 0, 50) else if validP (readP b (headN b)).o = false then (zeroPk, 0, 40) else ({ readP b (headN b) with d := (b.drop (headN b)).take (uptoN (b.drop (headN b)) (w16 b 2 - headN b)) }, w16 b 2, 0)) := by
      show _ = _
      unfold rest4P
      rw [bare_read hfacts.1 hN4.2]
      by_cases hx : 128 ≤ gt b 6 ∨ w16 b 2 < headN b
      · rw [if_pos hx, if_pos hx]
      · rw [if_neg hx, if_neg hx]
        rw [upto_eq hfacts.2.2 (by omega)]
    rw [hN1, he]
    clear hN1 he HLK
    obtain ⟨N, hN⟩ : ∃ N, N = headN b := ⟨_, rfl⟩
    rw [← hN] at hfacts hN4 HL2 HL3 ⊢
    clear hN
    obtain ⟨f1, f2, f3⟩ := hfacts
    obtain ⟨f4, f5⟩ := hN4
    have hsl := slice_h a b.length cap N (N : Int) rfl (by omega)
    go_wp2_with fail
    refine (rseal_c a (b.take N) N cap _ (by simp; omega) ((HR.out.on HA.out).head N) (by omega) f2 f5).mono ?_
    rintro E ws2 ⟨rfl, haw⟩
    replace HA := Lib.hid (HA.out.on haw)
    replace HB2 := Lib.hid (HB2.out.on haw)
    clear haw hsl
    have HSE : Hid (sealP (b.take N) = decide (w16 b 10 = sumH (b.take N))) := by show _ = _; unfold sealP; rw [w16_take b N 10 (by omega)]
    generalize sealP (b.take N) = sl at *
    cases sl
    · have HPE : Hid (look4P b = (zeroPk, 0, 52)) := by show _ = _; rw [HL2.out, if_pos (of_decide_eq_false HSE.out.symm)]
      go_wp2_with (first | (refine wpList_store28 rfl _ _ rfl _ rfl zeroPk (.slice none 0 0) (.slice none 0 0) rfl zeroPk (.slice none 0 0) (.slice none 0 0) (by exact HB2.out) ⟨rfl, rfl⟩ ⟨rfl, rfl⟩ rfl rfl ?_; refine Hid.out ?_))
      refine Lib.hid ?_
      intro wz hbz hawz
      have HBz := Lib.hid hbz
      have HAz : Hid (Away [] w wz) := HA.out.next hawz (fun x hx => .inr (by simp at hx; omega))
      clear hbz hawz
      go_wp2_with fail
      refine bodyPost_ret (result28tt rfl _ _ _ _ _ _ (.int .i64 0) (.int .i64 52) rfl rfl rfl HBz.out ⟨rfl, rfl⟩) rfl ?_
      rw [HPE.out]
      exact L4Out.no _ HAz.out
    have HL4 : Hid (look4P b = rest4P b) := by show _ = _; rw [HL2.out, if_neg (by simp [of_decide_eq_true HSE.out.symm])]
    clear HL2 HSE
    go_wp2_with fail
    refine (get8_c a b _ cap 2 _ rfl (HR.out.on HA.out) (by omega)).mono ?_
    rintro E wg ⟨rfl, kg, hwg⟩
    have haw : Away [] ws2 wg := by rw [hwg]; exact (Away.refl [] ws2).drewN kg
    replace HA := Lib.hid (HA.out.on haw)
    replace HB2 := Lib.hid (HB2.out.on haw)
    clear hwg haw
    have hw2 : 0 ≤ w16 b 2 ∧ w16 b 2 ≤ 65535 := by have h1 := gt_bd HBY.out 2; have h2 := gt_bd HBY.out (2 + 1); unfold w16; omega
    go_wp2_with fail
    refine (rres_c a b _ cap _ rfl (HR.out.on HA.out) (by omega)).mono ?_
    rintro E w6 ⟨rfl, rfl⟩
    generalize hrs : decide (128 ≤ gt b 6) = rs at *
    have HRS := Lib.hid hrs
    clear hrs
    cases rs
    rotate_left
    · have HPE : Hid (look4P b = (zeroPk, 0, 50)) := by show _ = _; rw [HL4.out, HL3.out, if_pos (.inl (of_decide_eq_true HRS.out))]
      go_wp2_with (first | (refine wpList_store28 rfl _ _ rfl _ rfl zeroPk (.slice none 0 0) (.slice none 0 0) rfl zeroPk (.slice none 0 0) (.slice none 0 0) (by exact HB2.out) ⟨rfl, rfl⟩ ⟨rfl, rfl⟩ rfl rfl ?_; refine Hid.out ?_))
      refine Lib.hid ?_
      intro wz hbz hawz
      have HBz := Lib.hid hbz
      have HAz : Hid (Away [] w wz) := HA.out.next hawz (fun x hx => .inr (by simp at hx; omega))
      clear hbz hawz
      go_wp2_with fail
      refine bodyPost_ret (result28tt rfl _ _ _ _ _ _ (.int .i64 0) (.int .i64 50) rfl rfl rfl HBz.out ⟨rfl, rfl⟩) rfl ?_
      rw [HPE.out]
      exact L4Out.no _ HAz.out
    by_cases hlt : w16 b 2 < (N : Int)
    · have HPE : Hid (look4P b = (zeroPk, 0, 50)) := by show _ = _; rw [HL4.out, HL3.out, if_pos (.inr hlt)]
      have k1 : decide (w16 b 2 < (N : Int)) = true := decide_eq_true hlt
      generalize w16 b 2 = z at *
      go_wp2_with (first | (refine wpList_store28 rfl _ _ rfl _ rfl zeroPk (.slice none 0 0) (.slice none 0 0) rfl zeroPk (.slice none 0 0) (.slice none 0 0) (by exact HB2.out) ⟨rfl, rfl⟩ ⟨rfl, rfl⟩ rfl rfl ?_; refine Hid.out ?_))
      refine Lib.hid ?_
      intro wz hbz hawz
      have HBz := Lib.hid hbz
      have HAz : Hid (Away [] w wz) := HA.out.next hawz (fun x hx => .inr (by simp at hx; omega))
      clear hbz hawz
      go_wp2_with fail
      refine bodyPost_ret (result28tt rfl _ _ _ _ _ _ (.int .i64 0) (.int .i64 50) rfl rfl rfl HBz.out ⟨rfl, rfl⟩) rfl ?_
      rw [HPE.out]
      exact L4Out.no _ HAz.out
    have HL5 : Hid (look4P b = if validP (readP b N).o = false then (zeroPk, 0, 40) else ({ readP b N with d := (b.drop N).take (uptoN (b.drop N) (w16 b 2 - N)) }, w16 b 2, 0)) := by show _ = _; rw [HL4.out, HL3.out, if_neg (by have h1 := of_decide_eq_false HRS.out; omega)]
    have k1 : decide (w16 b 2 < (N : Int)) = false := decide_eq_false hlt
    clear HL4 HL3 HRS
    have HRW := Lib.hid (read_wf HBY.out hlen N f1)
    generalize w16 b 2 = z at *
    go_wp2_with fail
    refine (read8_c a b cap N _ hcap (HR.out.on HA.out) f2 f3 f5).mono ?_
    rintro E wr ⟨ov, dv, rfl, ho, hd, hno, hnd, haw⟩
    have hltg := HB2.out.lt
    have hsza := HA.out.size
    have HNO : Hid (New w.heap.size ov) := hno.mono (by omega)
    have HBO : Hid (∀ k, ov.ownBlock = some k → k ≠ g2) := fun k h => by have := hno k h; omega
    clear hno hnd
    replace HA := Lib.hid (HA.out.on haw)
    replace HB2 := Lib.hid (HB2.out.on haw)
    clear haw
    have HDD : Hid ((readP b N).d = b.drop N) := rfl
    generalize readP b N = rp at *
    obtain ⟨oa, on, oc, rfl⟩ := ho.shp
    obtain ⟨da, dn, dc, rfl⟩ := hd.shp
    have HO := Lib.hid ho
    have HPK := Lib.hid (pkt_of HRW.out ho hd)
    have HAD := Lib.hid HRW.out.ad
    have hol := (Sl.of HPK.out.o).1
    clear ho hd
    go_wp2_with (first | (refine wpList_new28 rfl rfl rfl _ _ rfl rp (.slice oa on oc) (.slice da dn dc) (fun _ => rfl) (fun _ => rfl) HAD.out rfl rfl ?_; refine Hid.out ?_))
    refine Lib.hid ?_
    intro g6 w6 hg6 hb6 haw
    have HB6 := Lib.hid hb6
    have hlt2 := HB2.out.lt
    have HG6 : Hid (∀ k, (Value.slice oa on oc).ownBlock = some k → k ≠ g6) := fun k hk => by have := HO.out.lt k hk; omega
    have hsO := Lib.hid HO.out.lt
    replace HA := Lib.hid (HA.out.on haw)
    replace HB2 := Lib.hid (HB2.out.on haw)
    replace HO := Lib.hid (HO.out.on haw)
    replace HPK := Lib.hid (HPK.out.on haw)
    clear hb6 haw
    have c44 := (HB6.out.cells HAD.out).o
    have hsl4 := HPK.out.o.of
    go_wp2_with fail
    refine (ropts_c oa rp.o on oc _ hol hsl4.2.2.2).mono ?_
    rintro E w7 ⟨rfl, rfl⟩
    clear c44 hsl4
    generalize hvl : validP rp.o = vl at *
    have HVL := Lib.hid hvl
    clear hvl
    cases vl
    · have HPE : Hid (look4P b = (zeroPk, 0, 40)) := by show _ = _; rw [HL5.out, if_pos rfl]
      go_wp2_with (first | (refine wpList_store28 rfl _ _ rfl _ rfl zeroPk (.slice none 0 0) (.slice none 0 0) rfl zeroPk (.slice none 0 0) (.slice none 0 0) (by exact HB2.out) ⟨rfl, rfl⟩ ⟨rfl, rfl⟩ rfl rfl ?_; refine Hid.out ?_))
      refine Lib.hid ?_
      intro wz hbz hawz
      have HBz := Lib.hid hbz
      have HAz : Hid (Away [] w wz) := HA.out.next hawz (fun x hx => .inr (by simp at hx; omega))
      clear hbz hawz
      go_wp2_with fail
      refine bodyPost_ret (result28tt rfl _ _ _ _ _ _ (.int .i64 0) (.int .i64 40) rfl rfl rfl HBz.out ⟨rfl, rfl⟩) rfl ?_
      rw [HPE.out]
      exact L4Out.no _ HAz.out
    have HPE : Hid (look4P b = ({ rp with d := (b.drop N).take (uptoN (b.drop N) (z - N)) }, z, 0)) := by show _ = _; rw [HL5.out, if_neg (by simp)]
    clear HL5
    obtain ⟨A, hA⟩ : ∃ A, A = if cap = N then a else a.map (·.add N) := ⟨_, rfl⟩
    have sl := slice_l a A b.length cap N (N : Int) hA rfl (by omega)
    have HRT : Hid (∀ W, Away [] w W → Row W A (b.drop N)) := fun W h => by rw [hA]; exact (HR.out.on h).tail N cap hcap f3
    have HAN : Hid (A = none → cap - N = 0) := fun h => by
      rw [hA] at h
      split at h
      · have := ha h; omega
      · cases a with
        | none => have := ha rfl; omega
        | some x => simp at h
    have hdl : (b.drop N).length = b.length - N := by simp
    have KU : Hid (∀ W, Away [] w W → Calls Tryd.prog 60 #[.slice A (b.length - N) (cap - N), .int .i64 (z - N)] W fun E w' => ∃ v, E = .returned v ∧ Owns w' v ((b.drop N).take (uptoN (b.drop N) (z - N))) ∧ New W.heap.size v ∧ Away [] W w') := fun W h => by
      have h1 := upto_c A (b.drop N) (cap - N) (z - N) W (by rw [hdl]; omega) HAN.out (HRT.out W h)
      rw [hdl] at h1
      exact h1
    clear hA hdl HAN HRT
    generalize (b.drop N).take (uptoN (b.drop N) (z - N)) = dd at *
    go_wp2_with fail
    refine (KU.out _ HA.out).mono ?_
    rintro E w8 ⟨v8, rfl, hv8, hn8, haw⟩
    have HSV : Hid (∀ k, v8.ownBlock = some k → k ≠ g6 ∧ k ≠ g2 ∧ (Value.slice oa on oc).ownBlock ≠ some k) := fun k hk => by
      have h1 := hn8 k hk
      have h2 := HB6.out.lt
      have h3 := HB2.out.lt
      exact ⟨by omega, by omega, fun h => by have := HO.out.lt k h; omega⟩
    have hsza8 := HA.out.size
    have HN8 : Hid (New w.heap.size v8) := hn8.mono (by omega)
    obtain ⟨va, vn, vc, rfl⟩ := hv8.shp
    have HV8 := Lib.hid hv8
    replace HA := Lib.hid (HA.out.on haw)
    replace HB2 := Lib.hid (HB2.out.on haw)
    replace HB6 := Lib.hid (HB6.out.on haw)
    replace HO := Lib.hid (HO.out.on haw)
    clear hv8 hn8 haw KU sl
    have c45 := (HB6.out.cells HAD.out).d
    have f45 := HB6.out.free 45
    go_upto_region 13 with fail
    have haw := away_put (w := w8) (g := g6) 45 (.slice va vn vc)
    replace HB6 := Lib.hid (HB6.out.put 45 (.slice va vn vc) ((csP_set HAD.out (.slice oa on oc) (.slice da dn dc)).2.2.2.2.2.2.2.2.2.2.2.2.2 dd (.slice va vn vc)))
    replace HA := Lib.hid (HA.out.next haw (fun x hx => .inr (by simp at hx; omega)))
    replace HB2 := Lib.hid (HB2.out.away haw (by simp; omega))
    replace HO := Lib.hid (HO.out.away haw (fun k hk => by simp; exact HG6.out k hk))
    replace HV8 := Lib.hid (HV8.out.away haw (fun k hk => by simp; exact (HSV.out k hk).1))
    clear haw c45 f45
    generalize World.setCell w8 ⟨g6, 45, none⟩ (.slice va vn vc) = w9 at *
    have HAD2 : Hid (Ad { rp with d := dd }) := HAD.out
    go_wp2_with (first
      | (refine wpList_load28 rfl _ rfl _ rfl { rp with d := dd } _ _ (by exact HB6.out) HAD2.out ?_)
      | (refine wpList_store28 rfl _ _ rfl _ rfl { rp with d := dd } (.slice oa on oc) (.slice va vn vc) rfl zeroPk (.slice none 0 0) (.slice none 0 0) (by exact HB2.out) HAD2.out ⟨rfl, rfl⟩ rfl rfl ?_; refine Hid.out ?_))
    refine Lib.hid ?_
    intro wz hbz hawz
    have HBz := Lib.hid hbz
    have HAz : Hid (Away [] w wz) := HA.out.next hawz (fun x hx => .inr (by simp at hx; omega))
    have HOz := Lib.hid (HO.out.away hawz (fun k hk hx => HBO.out k hk (by simpa using hx)))
    have HDz := Lib.hid (HV8.out.away hawz (fun k hk hx => (HSV.out k hk).2.1 (by simpa using hx)))
    clear hbz hawz
    go_wp2_with fail
    refine bodyPost_ret (result28tt rfl _ _ _ _ _ _ (.int .i64 z) (.int .i64 0) rfl rfl rfl HBz.out HAD2.out) rfl ?_
    rw [HPE.out]
    exact ⟨_, _, rfl, HOz.out, HDz.out, HNO.out, HN8.out, fun k hk he => (HSV.out k he).2.2 hk, HAz.out⟩
end Go.Proofs.YtbgpjhekohabiaaDoor

namespace Go.Proofs.YtbgpjhekohabiaaDoor
open Go.ChangeShapes Go.WideShapes Go.ChangeAt Go.RowKit Go.Deep Num
set_option linter.unusedVariables false
set_option maxHeartbeats 4000000
set_option maxRecDepth 100000

theorem sixteen_c (a : Option Addr) (l : List Int) (cap : Nat) (w : World) (hr : Row w a l) (h16 : 16 ≤ l.length) :
    Calls Tryd.prog 61 #[.slice a l.length cap] w fun E w' => E = .returned (.agg (csA 6 (l.take 16))) ∧ Away [] w w' := by
  have hlen := hr.1
  have HR := Lib.hid hr
  clear hr
  go_enter Tryd.func61, Tryd.ntmps61
  go_wp2_with (refine wpList_alloc24 rfl rfl ?_; refine Hid.out ?_)
  refine Lib.hid ?_
  intro g2 w1 hg2 hb2 haw1
  have HB2 := Lib.hid hb2; have HA1 := Lib.hid haw1
  have hl2 := hb2.lt
  clear hb2 haw1
  go_wp2_with (first | (refine wpList_alloc24 rfl rfl ?_; refine Hid.out ?_))
  refine Lib.hid ?_
  intro g3 w2 hg3 hb3 haw2
  have HB3 := Lib.hid hb3; have HA2 := Lib.hid haw2
  have hl3 := hb3.lt
  clear hb3 haw2
  go_wp2_with (first | (refine wpList_store24b rfl _ _ rfl _ rfl 6 z16 rfl 0 z16 (by exact HB3.out) rfl rfl ?_; refine Hid.out ?_))
  refine Lib.hid ?_
  intro w3 hb3 haw3
  have hs1 := HA1.out.size; have hs2 := HA2.out.size; have hs3 := haw3.size
  have HST : Hid (BoxA w3 g3 6 z16 ∧ BoxA w3 g2 0 z16 ∧ Away [] w w3) := ⟨hb3, (HB2.out.keep HA2.out (by simp)).keep haw3 (by simp; omega), (HA1.out.next HA2.out (by simp)).next haw3 (fun x hx => .inr (by simp at hx; omega))⟩
  clear HB2 HB3 HA1 HA2 hb3 haw3
  go_wp2_with fail
  go_loopw [4] (fun i wr => ∃ k : Nat, k ≤ 16 ∧ i = .int .i64 k ∧ BoxA wr g3 6 (stL l k) ∧ BoxA wr g2 0 z16 ∧ Away [] w wr) (fun i _ => 16 - (intOf i).toNat)
  case atStart => exact ⟨0, by omega, rfl, HST.out⟩
  case round =>
    obtain ⟨k, hk, rfl, hb3, hb2, haw⟩ := hrel
    have HB3 := Lib.hid hb3; have HB2 := Lib.hid hb2; have HAW := Lib.hid haw
    clear hb3 hb2 haw HST
    by_cases hlt : k < 16
    · have i1 : decide ((k : Int) < 16) = true := decide_eq_true (by omega)
      obtain ⟨b, off, ha', c0⟩ := HR.out.at k (by omega)
      have c0' := HAW.out.cell (by simp) c0
      subst ha'
      have hx : l[k]? = some (gt l k) := by unfold gt; rw [List.getElem?_eq_getElem (by omega)]; rfl
      have c1 := HB3.out.byte' k (by rw [stL_len _ _ (by omega) (by omega)]; omega)
      have c2 := free_of_block HB3.out (1 + k)
      have hb3 := HB3.out.put k (gt l k)
      rw [stL_set (by omega) (by omega) hx] at hb3
      have hA := (Away.refl [g3] wr).setCell (p := ⟨g3, 1 + k, none⟩) (.inl (by simp)) (.int .u8 (gt l k))
      have hb2 := HB2.out.keep hA (by simp; omega)
      have haw := HAW.out.setCell (p := ⟨g3, 1 + k, none⟩) (.inr (by show w.heap.size ≤ g3; omega)) (.int .u8 (gt l k))
      have HST := Lib.hid (And.intro hb3 (And.intro hb2 haw))
      clear hb3 hA hb2 haw HB2 HB3 HAW c0 hx
      generalize (stL l k)[k]?.getD 0 = old at c1
      generalize gt l k = x at *
      have i0 : (k : Int) < (l.length : Int) := by omega
      have i2 : (0 : Int) ≤ (k : Int) := by omega
      have i3 : (k : Int).toNat = k := by omega
      have i4 : (k : Int) < 16 := by omega
      go_wp2_with fail
      go_roundw
      case rel => exact ⟨k + 1, by omega, by go_num, HST.out.1, HST.out.2.1, HST.out.2.2⟩
      case measure => simp [intOf]; omega
    · obtain rfl : k = 16 := by omega
      have i1 : decide (((16 : Nat) : Int) < 16) = false := by decide
      have hst : stL l 16 = l.take 16 := by unfold stL; simp [z16]
      rw [hst] at HB3
      have hlm : (l.take 16).length = 16 := by simp; omega
      have hr3 := Lib.hid (rowAt_of (HB3.out : wr.heap[g3]? = _) (csA_size hlm))
      have HLM := Lib.hid hlm
      clear hlm hst
      generalize hml : l.take 16 = ml at *
      have HML := Lib.hid hml
      clear hml
      go_wp2_with (first | (refine wpList_load24 rfl _ rfl _ rfl _ hr3.out ?_) | (refine wpList_store24b rfl _ _ rfl _ rfl 6 ml rfl 0 z16 (by exact HB2.out) HLM.out rfl ?_; refine Hid.out ?_))
      refine Lib.hid ?_
      intro w6 hb6 haw6
      have HA6 : Hid (Away [] w w6) := HAW.out.next haw6 (fun x hx => .inr (by simp at hx; omega))
      have hr6 := Lib.hid (rowAt_of (hb6 : w6.heap[g2]? = _) (csA_size HLM.out))
      clear hb6 haw6
      go_wp2_with fail
      refine bodyPost_ret (v := .agg (csA 6 ml)) ?_ rfl ⟨by rw [HML.out], HA6.out⟩
      exact result24 rfl _ _ _ _ rfl hr6.out
end Go.Proofs.YtbgpjhekohabiaaDoor

namespace Go.Proofs.YtbgpjhekohabiaaDoor
open Go.ChangeShapes Go.WideShapes Go.ChangeAt Go.RowKit Go.Deep Num
set_option linter.unusedVariables false
set_option linter.unusedSimpArgs false
set_option maxHeartbeats 4000000
set_option maxRecDepth 100000

theorem step_alloc28 {ops : Array Oper} {o : Oper} {a : Act} {w : World} {K : Act → World → Prop} {Q : Exit → Act → World → Prop} {E : Prop} (hg : o.guard = none) (ho : o.op = .alloc 32)
    (hK : ∀ k w1, w.heap.size ≤ k → BoxP w1 k zeroPk (.slice none 0 0) (.slice none 0 0) → Away [] w w1 → K (a.put o.dst (.pointer (some ⟨k, 0, none⟩))) w1) :
    if Region.wanted o (yielded ops a.tmps) = true then Oper.wp Tryd.prog o a w K Q else E := by
  have hw : Region.wanted o (yielded ops a.tmps) = true := by simp [Region.wanted, hg]
  rw [if_pos hw]
  have hz : (zeroValue 32).run Tryd.prog w = .ok (.agg (csP zeroPk (.slice none 0 0) (.slice none 0 0))) w := by
    have := zero28
    cases hi : Tryd.prog.info? 32 with
    | none => rw [hi] at this; simp at this
    | some i => rw [hi] at this; simp at this; simp [zeroValue, typeInfo, hi, this]
  unfold Oper.wp execOp
  simp only [ho, Sem.run_bind, Instr.alloc, hz, newVar, newRow, run_newObj_alloc, Sem.run_pure, Result.andThen_ok]
  exact hK w.heap.size _ (Nat.le_refl _) (block_new _ _) ((Away.refl [] w).alloc _)
theorem step_store28 {ops : Array Oper} {o : Oper} {a : Act} {w : World} {K : Act → World → Prop} {Q : Exit → Act → World → Prop} {E : Prop} (hg : o.guard = none) (x y : Operand) (ho : o.op = .store 32 x y)
    (g : Nat) (hx : a.eval x = .pointer (some ⟨g, 0, none⟩)) (p : Pk) (ov dv : Value) (hy : a.eval y = .agg (csP p ov dv)) (q : Pk) (ou du : Value) (hb : BoxP w g q ou du) (ha : Ad p) (hq : Ad q) (h1 : ov.oneCell' = true) (h2 : dv.oneCell' = true)
    (hK : ∀ w1, BoxP w1 g p ov dv → Away [g] w w1 → K (a.put o.dst undef) w1) :
    if Region.wanted o (yielded ops a.tmps) = true then Oper.wp Tryd.prog o a w K Q else E := by
  have hw : Region.wanted o (yielded ops a.tmps) = true := by simp [Region.wanted, hg]
  rw [if_pos hw]
  exact wp_store_row 32 x y ho g (csP p ov dv) hx hy 32 (csP q ou du) hb (by rw [csP_size ha]; exact info28) (by rw [csP_size ha, csP_size hq]) (csP_one p ov dv h1 h2) (hK _ (by
    unfold BoxP at hb ⊢; simp [World.setRow, Array.getElem?_modify, hb]) ((Away.refl [g] w).setRow (.inl (by simp)) _))
def sixP (t f : Int) (s d : List Int) (p l : Int) : Pk := ⟨6, t, f, 6, s, 6, d, p, l, 0, false, false, false, 0, [], []⟩
theorem run_build6 (t f : Int) (s d : List Int) (p l : Int) (hs : s.length = 16) (hd : d.length = 16) (w : World) :
    (Instr.build 32 #[(0, .int .i64 6), (1, .int .i64 t), (2, .int .i64 f), (3, .agg (csA 6 s)), (4, .agg (csA 6 d)), (5, .int .i64 p), (6, .int .i64 l)]).run Tryd.prog w = .ok (.agg (csP (sixP t f s d p l) (.slice none 0 0) (.slice none 0 0))) w := by
  obtain ⟨b0, b1, b2, b3, b4, b5, b6, b7, b8, b9, b10, b11, b12, b13, b14, b15, rfl⟩ := list16 hs
  obtain ⟨c0, c1, c2, c3, c4, c5, c6, c7, c8, c9, c10, c11, c12, c13, c14, c15, rfl⟩ := list16 hd
  kernel_rfl
theorem yields_build6 {ops : Array Oper} {S : World → Prop} {op : Oper} {a : Act} (hw : Region.wanted op (yielded ops a.tmps) = true) (x0 x1 x2 x3 x4 x5 x6 : Operand) (ho : op.op = .build 32 #[(0, x0), (1, x1), (2, x2), (3, x3), (4, x4), (5, x5), (6, x6)])
    (t f : Int) (s d : List Int) (p l : Int) (hs : s.length = 16) (hd : d.length = 16) (h0 : a.eval x0 = .int .i64 6) (h1 : a.eval x1 = .int .i64 t) (h2 : a.eval x2 = .int .i64 f) (h3 : a.eval x3 = .agg (csA 6 s)) (h4 : a.eval x4 = .agg (csA 6 d)) (h5 : a.eval x5 = .int .i64 p) (h6 : a.eval x6 = .int .i64 l) :
    YieldsIf Tryd.prog ops S op (.agg (csP (sixP t f s d p l) (.slice none 0 0) (.slice none 0 0))) a := by
  refine .inl ⟨hw, fun w _ => ?_⟩
  unfold execOp
  simp only [ho, List.map_toArray, List.map_cons, List.map_nil, h0, h1, h2, h3, h4, h5, h6, run_build6 t f s d p l hs hd w, Sem.run_bind, Result.andThen_ok, Sem.run_pure]
theorem ld5' {w : World} {ad : Addr} {n : Int} (h : w.cell? ad = some (.int .u8 n)) : (Instr.loadAt 5 (.pointer (some ad))).run Tryd.prog w = .ok (.int .u8 n) w := by
  simp [go_sem, Instr.loadAt, Instr.sureAddr, h]
theorem yields_ld' {ops : Array Oper} {S : World → Prop} {op : Oper} {a : Act} {t : TypeId} {v : Value} {ad : Addr} (hw : Region.wanted op (yielded ops a.tmps) = true) (x : Operand) (ho : op.op = .load t x) (hx : a.eval x = .pointer (some ad))
    (hS : ∀ w, S w → (Instr.loadAt t (.pointer (some ad))).run Tryd.prog w = .ok v w) : YieldsIf Tryd.prog ops S op v a :=
  .inl ⟨hw, fun w hw' => by
    unfold execOp
    simp only [ho, hx, Sem.run_bind, hS w hw', Result.andThen_ok, Sem.run_pure]⟩
theorem yields_sl_l {ops : Array Oper} {S : World → Prop} {op : Oper} {a : Act} {v V : Value} {lo : Int} (hw : Region.wanted op (yielded ops a.tmps) = true) (x l : Operand) (ho : op.op = .slice 23 x (some l) none none) (hx : a.eval x = v) (hl : a.eval l = .int .i64 lo)
    (hS : ∀ w, (Instr.sliceAt 23 v (some (.int .i64 lo)) none none).run Tryd.prog w = .ok V w) : YieldsIf Tryd.prog ops S op V a :=
  .inl ⟨hw, fun w _ => by
    unfold execOp
    simp only [ho, Option.map_none, Option.map_some, hx, hl, Sem.run_bind, hS w, Result.andThen_ok, Sem.run_pure]⟩
/-- What the fixed head tells. -/
theorem fix_six {b : List Int} (hb : Bytes b) : sixP (gt b 0 % 16 * 16 + gt b 1 / 16) (gt b 1 % 16 * 65536 + w16 b 2) ((b.drop 8).take 16) ((b.drop 24).take 16) (gt b 6) (gt b 7) = S6.fixR b := by
  have h0 := gt_bd hb 0; have h1 := gt_bd hb 1; have h2 := gt_bd hb 2; have h3 := gt_bd hb 3
  have e : S6.wd4 b 0 = 16777216 * gt b 0 + 65536 * gt b 1 + 256 * gt b 2 + gt b 3 := rfl
  have e2 : w16 b 2 = 256 * gt b 2 + gt b 3 := rfl
  unfold sixP S6.fixR
  rw [e, e2]
  congr 1
  · omega
  · omega
theorem tail_row {w : World} {a : Option Addr} {b : List Int} {cap : Nat} (hr : Row w a b) (hcap : b.length ≤ cap) (ha : a = none → cap = 0) (k : Nat) (lo : Int) (hlo : lo = k) (hk : k ≤ b.length) :
    ∃ A, (∀ W, Away [] w W → Row W A (b.drop k)) ∧ (A = none → cap - k = 0) ∧ ∀ wx, (Instr.sliceAt 23 (.slice a b.length cap) (some (.int .i64 lo)) none none).run Tryd.prog wx = .ok (.slice A (b.length - k) (cap - k)) wx := by
  refine ⟨if cap = k then a else a.map (·.add k), fun W h => (hr.on h).tail k cap hcap hk, fun h => ?_, slice_l a _ b.length cap k lo rfl hlo hk⟩
  split at h
  · have := ha h; omega
  · cases a with
    | none => have := ha rfl; omega
    | some x => simp at h
theorem rlook6_c (a : Option Addr) (b : List Int) (cap : Nat) (w : World) (hcap : b.length ≤ cap) (ha : a = none → cap = 0) (hr : Row w a b) :
    Calls Tryd.prog 26 #[.slice a b.length cap] w fun E w' => L4Out w (S6.look6P b) E w' := by
  have hlen := hr.1
  have HBY := Lib.hid hr.2.1
  have HR := Lib.hid hr
  by_cases h40 : b.length < 40
  · have HPE : Hid (S6.look6P b = (zeroPk, 0, 20)) := by show _ = _; unfold S6.look6P; rw [if_pos h40]
    have k1 : decide ((b.length : Int) < 40) = true := decide_eq_true (by omega)
    clear hr
    go_enter Tryd.func26, Tryd.ntmps26
    go_wp2_with (refine wpList_alloc28 rfl rfl ?_; refine Hid.out ?_)
    refine Lib.hid ?_
    intro g2 w1 hg2 hb2 haw1
    have HB2 := Lib.hid hb2; have HA := Lib.hid haw1
    have hl2 := hb2.lt
    clear hb2 haw1
    go_wp2_with (first | (refine wpList_store28 rfl _ _ rfl _ rfl zeroPk (.slice none 0 0) (.slice none 0 0) rfl zeroPk (.slice none 0 0) (.slice none 0 0) (by exact HB2.out) ⟨rfl, rfl⟩ ⟨rfl, rfl⟩ rfl rfl ?_; refine Hid.out ?_))
    refine Lib.hid ?_
    intro wz hbz hawz
    have HBz := Lib.hid hbz
    have HAz : Hid (Away [] w wz) := HA.out.next hawz (fun x hx => .inr (by simp at hx; omega))
    clear hbz hawz
    go_wp2_with fail
    refine bodyPost_ret (result28tt rfl _ _ _ _ _ _ (.int .i64 0) (.int .i64 20) rfl rfl rfl HBz.out ⟨rfl, rfl⟩) rfl ?_
    rw [HPE.out]
    exact L4Out.no _ HAz.out
  have k1 : decide ((b.length : Int) < 40) = false := decide_eq_false (by omega)
  obtain ⟨gb, off, rfl, c0⟩ := hr.at 0 (by omega)
  obtain ⟨b', off', he, c1⟩ := hr.at 1 (by omega)
  simp only [Option.some.injEq, Addr.mk.injEq, and_true] at he
  obtain ⟨rfl, rfl⟩ := he
  obtain ⟨b', off', he, c6⟩ := hr.at 6 (by omega)
  simp only [Option.some.injEq, Addr.mk.injEq, and_true] at he
  obtain ⟨rfl, rfl⟩ := he
  obtain ⟨b', off', he, c7⟩ := hr.at 7 (by omega)
  simp only [Option.some.injEq, Addr.mk.injEq, and_true] at he
  obtain ⟨rfl, rfl⟩ := he
  have x0 := gt_bd HBY.out 0; have x1 := gt_bd HBY.out 1; have x6 := gt_bd HBY.out 6; have x7 := gt_bd HBY.out 7
  have f2 : 0 ≤ w16 b 2 ∧ w16 b 2 ≤ 65535 := by have e : w16 b 2 = 256 * gt b 2 + gt b 3 := rfl; have h1 := gt_bd HBY.out 2; have h2 := gt_bd HBY.out 3; omega
  have f4 : 0 ≤ w16 b 4 ∧ w16 b 4 ≤ 65535 := by have e : w16 b 4 = 256 * gt b 4 + gt b 5 := rfl; have h1 := gt_bd HBY.out 4; have h2 := gt_bd HBY.out 5; omega
  have HGB := Lib.hid (block_lt_of_cell c0)
  simp only [Nat.add_zero] at c0
  have i0 : (0 : Int) < (b.length : Int) := by omega
  have i1 : (1 : Int) < (b.length : Int) := by omega
  have i6 : (6 : Int) < (b.length : Int) := by omega
  have i7 : (7 : Int) < (b.length : Int) := by omega
  have j0 : 0 < b.length := by omega
  have j1 : 1 < b.length := by omega
  have j6 : 6 < b.length := by omega
  have j7 : 7 < b.length := by omega
  obtain ⟨A8, r8, n8, s8⟩ := tail_row hr hcap ha 8 8 rfl (by omega)
  obtain ⟨A24, r24, n24, s24⟩ := tail_row hr hcap ha 24 24 rfl (by omega)
  obtain ⟨A40, r40, n40, s40⟩ := tail_row hr hcap ha 40 40 rfl (by omega)
  have KG : Hid (∀ W (i : Nat), i + 1 < b.length → Away [] w W → Calls Tryd.prog 56 #[.slice (some ⟨gb, off, none⟩) b.length cap, .int .i64 (i : Int)] W fun E w' => E = .returned (.int .i64 (w16 b i)) ∧ Away [] W w') := fun W i hi h => (get8_c _ b _ cap i W rfl (HR.out.on h) hi).mono (by
    rintro E w' ⟨rfl, k, hk⟩
    exact ⟨rfl, by rw [hk]; exact (Away.refl [] W).drewN k⟩)
  have K8 : Hid (∀ W, Away [] w W → Calls Tryd.prog 61 #[.slice A8 (b.length - 8) (cap - 8)] W fun E w' => E = .returned (.agg (csA 6 ((b.drop 8).take 16))) ∧ Away [] W w') := fun W h => by
    have h1 := sixteen_c A8 (b.drop 8) (cap - 8) W (r8 W h) (by simp; omega)
    rwa [List.length_drop] at h1
  have K24 : Hid (∀ W, Away [] w W → Calls Tryd.prog 61 #[.slice A24 (b.length - 24) (cap - 24)] W fun E w' => E = .returned (.agg (csA 6 ((b.drop 24).take 16))) ∧ Away [] W w') := fun W h => by
    have h1 := sixteen_c A24 (b.drop 24) (cap - 24) W (r24 W h) (by simp; omega)
    rwa [List.length_drop] at h1
  have KU40 : Hid (∀ W n, Away [] w W → Calls Tryd.prog 60 #[.slice A40 (b.length - 40) (cap - 40), .int .i64 n] W fun E w' => ∃ v, E = .returned v ∧ Owns w' v ((b.drop 40).take (uptoN (b.drop 40) n)) ∧ New W.heap.size v ∧ Away [] W w') := fun W n h => by
    have h1 := upto_c A40 (b.drop 40) (cap - 40) n W (by simp; omega) n40 (r40 W h)
    rwa [List.length_drop] at h1
  have L8 : ((b.drop 8).take 16).length = 16 := by simp; omega
  have L24 : ((b.drop 24).take 16).length = 16 := by simp; omega
  have HL8 := Lib.hid L8; have HL24 := Lib.hid L24
  have HFX := Lib.hid (fix_six HBY.out)
  have HW4 : Hid (S6.wd b 4 = w16 b 4) := rfl
  clear r8 r24 r40 n8 n24 n40 hr L8 L24
  have wr0 : IntKind.i64.wrap (gt b 0) = gt b 0 := by rw [IntKind.wrap_i64]; omega
  have wr1 : IntKind.i64.wrap (gt b 1) = gt b 1 := by rw [IntKind.wrap_i64]; omega
  have wr6 : IntKind.i64.wrap (gt b 6) = gt b 6 := by rw [IntKind.wrap_i64]; omega
  have wr7 : IntKind.i64.wrap (gt b 7) = gt b 7 := by rw [IntKind.wrap_i64]; omega
  have tm0 : (gt b 0).tmod 16 = gt b 0 % 16 := Int.tmod_eq_emod_of_nonneg x0.1
  have tm1 : (gt b 1).tmod 16 = gt b 1 % 16 := Int.tmod_eq_emod_of_nonneg x1.1
  have td1 : (gt b 1).tdiv 16 = gt b 1 / 16 := Int.tdiv_eq_ediv_of_nonneg x1.1
  have wq0 : IntKind.i64.wrap (gt b 0 % 16 * 16) = gt b 0 % 16 * 16 := by rw [IntKind.wrap_i64]; omega
  have wq1 : IntKind.i64.wrap (gt b 1 / 16) = gt b 1 / 16 := by rw [IntKind.wrap_i64]; omega
  have wq2 : IntKind.i64.wrap (gt b 0 % 16 * 16 + gt b 1 / 16) = gt b 0 % 16 * 16 + gt b 1 / 16 := by rw [IntKind.wrap_i64]; omega
  have wq3 : IntKind.i64.wrap (gt b 1 % 16 * 65536) = gt b 1 % 16 * 65536 := by rw [IntKind.wrap_i64]; omega
  have wq4 : IntKind.i64.wrap (gt b 1 % 16 * 65536 + w16 b 2) = gt b 1 % 16 * 65536 + w16 b 2 := by rw [IntKind.wrap_i64]; omega
  by_cases h6 : gt b 0 / 16 = 6
  rotate_left
  · have HPE : Hid (S6.look6P b = (zeroPk, 0, 50)) := by show _ = _; unfold S6.look6P; rw [if_neg h40, if_pos h6]
    have k2 : (gt b 0 / 16 != 6) = true := by simp [h6]
    go_enter Tryd.func26, Tryd.ntmps26
    go_wp2_with (refine wpList_alloc28 rfl rfl ?_; refine Hid.out ?_)
    refine Lib.hid ?_
    intro g2 w1 hg2 hb2 haw1
    have HB2 := Lib.hid hb2; have HA := Lib.hid haw1
    have hl2 := hb2.lt
    clear hb2 haw1
    have e0 := HA.out.cell (by simp) c0
    clear c0 c1 c6 c7
    go_wp2_with (first | (refine wpList_store28 rfl _ _ rfl _ rfl zeroPk (.slice none 0 0) (.slice none 0 0) rfl zeroPk (.slice none 0 0) (.slice none 0 0) (by exact HB2.out) ⟨rfl, rfl⟩ ⟨rfl, rfl⟩ rfl rfl ?_; refine Hid.out ?_))
    refine Lib.hid ?_
    intro wz hbz hawz
    have HBz := Lib.hid hbz
    have HAz : Hid (Away [] w wz) := HA.out.next hawz (fun x hx => .inr (by simp at hx; omega))
    clear hbz hawz
    go_wp2_with fail
    refine bodyPost_ret (result28tt rfl _ _ _ _ _ _ (.int .i64 0) (.int .i64 50) rfl rfl rfl HBz.out ⟨rfl, rfl⟩) rfl ?_
    rw [HPE.out]
    exact L4Out.no _ HAz.out
  have k2 : (gt b 0 / 16 != 6) = false := by simp [h6]
  have HLK : Hid (S6.look6P b = if gt b 6 = 44 then
    if b.length < 48 then (zeroPk, 0, 20) else
    if S6.cleanP b = false ∨ gt b 40 = 44 ∨ w16 b 4 < 8 then (zeroPk, 0, 50) else
    ({ S6.frag6P b with d := (b.drop 48).take (min (b.length - 48) (w16 b 4 - 8).toNat) }, 40 + w16 b 4, 0)
  else ({ S6.fixR b with d := (b.drop 40).take (min (b.length - 40) (w16 b 4).toNat) }, 40 + w16 b 4, 0)) := by
    show _ = _
    unfold S6.look6P
    rw [if_neg h40, if_neg (by simp [h6])]
    rfl
  clear h6
  generalize hs16 : (b.drop 8).take 16 = s at *
  generalize hd16 : (b.drop 24).take 16 = d at *
  clear hs16 hd16
  go_enter Tryd.func26, Tryd.ntmps26
  go_wp2_with (refine wpList_alloc28 rfl rfl ?_; refine Hid.out ?_)
  refine Lib.hid ?_
  intro g2 w1 hg2 hb2 haw1
  have HB2 := Lib.hid hb2; have HA := Lib.hid haw1
  have hl2 := hb2.lt
  clear hb2 haw1
  replace c0 := HA.out.cell (by simp) c0
  go_wp2_with fail
  refine (KG.out _ 4 (by omega) HA.out).mono ?_
  rintro E w2 ⟨rfl, haw⟩
  have c0' := haw.cell (by simp) c0
  have c1' := haw.cell (by simp) (HA.out.cell (by simp) c1)
  have c6' := haw.cell (by simp) (HA.out.cell (by simp) c6)
  have c7' := haw.cell (by simp) (HA.out.cell (by simp) c7)
  replace HB2 := Lib.hid (HB2.out.on haw)
  replace HA := Lib.hid (HA.out.on haw)
  clear haw c0 c1 c6 c7
  go_upto_region 6 with fail
  have hgb := HGB.out
  have hlb2 := HB2.out.lt
  go_cut [6] (fun v wc => ∃ g6, v = .pointer (some ⟨g6, 0, none⟩) ∧ w.heap.size ≤ g6 ∧ g6 ≠ g2 ∧ BoxP wc g6 (S6.fixR b) (.slice none 0 0) (.slice none 0 0) ∧ BoxP wc g2 zeroPk (.slice none 0 0) (.slice none 0 0) ∧ Away [] w wc)
  case first =>
    refine wp_region_held_drew (S := (fun w' => w'.cell? ⟨gb, off, none⟩ = some (.int .u8 (gt b 0)) ∧ w'.cell? ⟨gb, off + 1, none⟩ = some (.int .u8 (gt b 1)) ∧ w'.cell? ⟨gb, off + 6, none⟩ = some (.int .u8 (gt b 6)) ∧ w'.cell? ⟨gb, off + 7, none⟩ = some (.int .u8 (gt b 7)))) (by kernel_rfl) ⟨by exact c0', by exact c1', by exact c6', by exact c7'⟩ (fun hHeld => ?_)
    have haw := (Away.refl [] w2).drew
    replace HB2 := Lib.hid (HB2.out.on haw)
    replace HA := Lib.hid (HA.out.on haw)
    clear haw c0' c1' c6' c7'
    refine wpAnyH_take (i := 0) (v := ?_) (by simp only [List.getElem?_toArray, List.getElem?_cons_zero]; rfl) (by kernel_rfl) (by kernel_rfl) (by kernel_rfl) (by exact fun _ _ _ h => h) (Or.inl ⟨by rfl, ?_⟩) (by assumption) ?_
    rotate_left
    · intro wq hSw
      (try dsimp only at hSw)
      go_simp
      all_goals (with_reducible rfl)
    try simp only [Act.put, List.setIfInBounds_toArray, List.set_cons_zero, List.set_cons_succ]
    refine wpAnyH_take (i := 1) (v := ?_) (by simp only [List.getElem?_toArray, List.getElem?_cons_succ, List.getElem?_cons_zero]; rfl) (by kernel_rfl) (by kernel_rfl) (by kernel_rfl) (by exact fun _ _ _ h => h) (Or.inl ⟨by rfl, ?_⟩) (by assumption) ?_
    rotate_left
    · intro wq hSw
      (try dsimp only at hSw)
      go_simp
      all_goals (with_reducible rfl)
    try simp only [Act.put, List.setIfInBounds_toArray, List.set_cons_zero, List.set_cons_succ]
    refine wpAnyH_take (i := 2) (by simp only [List.getElem?_toArray, List.getElem?_cons_succ, List.getElem?_cons_zero]; rfl) (by kernel_rfl) (by kernel_rfl) (by kernel_rfl) (by exact fun _ _ _ h => h) (yields_ld' (ad := ⟨gb, off, none⟩) (by rfl) _ rfl rfl (fun w' h => ld5' h.1)) (by assumption) ?_
    try simp only [Act.put, List.setIfInBounds_toArray, List.set_cons_zero, List.set_cons_succ]
    refine wpAnyH_take (i := 3) (v := ?_) (by simp only [List.getElem?_toArray, List.getElem?_cons_succ, List.getElem?_cons_zero]; rfl) (by kernel_rfl) (by kernel_rfl) (by kernel_rfl) (by exact fun _ _ _ h => h) (Or.inl ⟨by rfl, ?_⟩) (by assumption) ?_
    rotate_left
    · intro wq hSw
      (try dsimp only at hSw)
      go_simp
      all_goals (with_reducible rfl)
    try simp only [Act.put, List.setIfInBounds_toArray, List.set_cons_zero, List.set_cons_succ]
    refine wpAnyH_take (i := 4) (v := ?_) (by simp only [List.getElem?_toArray, List.getElem?_cons_succ, List.getElem?_cons_zero]; rfl) (by kernel_rfl) (by kernel_rfl) (by kernel_rfl) (by exact fun _ _ _ h => h) (Or.inl ⟨by rfl, ?_⟩) (by assumption) ?_
    rotate_left
    · intro wq hSw
      (try dsimp only at hSw)
      go_simp
      all_goals (with_reducible rfl)
    try simp only [Act.put, List.setIfInBounds_toArray, List.set_cons_zero, List.set_cons_succ]
    refine wpAnyH_take (i := 5) (v := ?_) (by simp only [List.getElem?_toArray, List.getElem?_cons_succ, List.getElem?_cons_zero]; rfl) (by kernel_rfl) (by kernel_rfl) (by kernel_rfl) (by exact fun _ _ _ h => h) (Or.inl ⟨by rfl, ?_⟩) (by assumption) ?_
    rotate_left
    · intro wq hSw
      (try dsimp only at hSw)
      go_simp
      all_goals (with_reducible rfl)
    try simp only [Act.put, List.setIfInBounds_toArray, List.set_cons_zero, List.set_cons_succ]
    refine wpAnyH_take (i := 6) (v := ?_) (by simp only [List.getElem?_toArray, List.getElem?_cons_succ, List.getElem?_cons_zero]; rfl) (by kernel_rfl) (by kernel_rfl) (by kernel_rfl) (by exact fun _ _ _ h => h) (Or.inl ⟨by rfl, ?_⟩) (by assumption) ?_
    rotate_left
    · intro wq hSw
      (try dsimp only at hSw)
      go_simp
      all_goals (with_reducible rfl)
    try simp only [Act.put, List.setIfInBounds_toArray, List.set_cons_zero, List.set_cons_succ]
    refine wpAnyH_take (i := 7) (v := ?_) (by simp only [List.getElem?_toArray, List.getElem?_cons_succ, List.getElem?_cons_zero]; rfl) (by kernel_rfl) (by kernel_rfl) (by kernel_rfl) (by exact fun _ _ _ h => h) (Or.inl ⟨by rfl, ?_⟩) (by assumption) ?_
    rotate_left
    · intro wq hSw
      (try dsimp only at hSw)
      go_simp
      all_goals (with_reducible rfl)
    try simp only [Act.put, List.setIfInBounds_toArray, List.set_cons_zero, List.set_cons_succ]
    refine wpAnyH_take (i := 8) (by simp only [List.getElem?_toArray, List.getElem?_cons_succ, List.getElem?_cons_zero]; rfl) (by kernel_rfl) (by kernel_rfl) (by kernel_rfl) (by exact fun _ _ _ h => h) (yields_ld' (ad := ⟨gb, off + 1, none⟩) (by rfl) _ rfl rfl (fun w' h => ld5' h.2.1)) (by assumption) ?_
    try simp only [Act.put, List.setIfInBounds_toArray, List.set_cons_zero, List.set_cons_succ]
    refine wpAnyH_take (i := 9) (v := ?_) (by simp only [List.getElem?_toArray, List.getElem?_cons_succ, List.getElem?_cons_zero]; rfl) (by kernel_rfl) (by kernel_rfl) (by kernel_rfl) (by exact fun _ _ _ h => h) (Or.inl ⟨by rfl, ?_⟩) (by assumption) ?_
    rotate_left
    · intro wq hSw
      (try dsimp only at hSw)
      go_simp
      all_goals (with_reducible rfl)
    try simp only [Act.put, List.setIfInBounds_toArray, List.set_cons_zero, List.set_cons_succ]
    refine wpAnyH_take (i := 10) (v := ?_) (by simp only [List.getElem?_toArray, List.getElem?_cons_succ, List.getElem?_cons_zero]; rfl) (by kernel_rfl) (by kernel_rfl) (by kernel_rfl) (by exact fun _ _ _ h => h) (Or.inl ⟨by rfl, ?_⟩) (by assumption) ?_
    rotate_left
    · intro wq hSw
      (try dsimp only at hSw)
      go_simp
      all_goals (with_reducible rfl)
    try simp only [Act.put, List.setIfInBounds_toArray, List.set_cons_zero, List.set_cons_succ]
    refine wpAnyH_take (i := 11) (v := ?_) (by simp only [List.getElem?_toArray, List.getElem?_cons_succ, List.getElem?_cons_zero]; rfl) (by kernel_rfl) (by kernel_rfl) (by kernel_rfl) (by exact fun _ _ _ h => h) (Or.inl ⟨by rfl, ?_⟩) (by assumption) ?_
    rotate_left
    · intro wq hSw
      (try dsimp only at hSw)
      go_simp
      all_goals (with_reducible rfl)
    try simp only [Act.put, List.setIfInBounds_toArray, List.set_cons_zero, List.set_cons_succ]
    refine wpAnyH_take (i := 12) (v := ?_) (by simp only [List.getElem?_toArray, List.getElem?_cons_succ, List.getElem?_cons_zero]; rfl) (by kernel_rfl) (by kernel_rfl) (by kernel_rfl) (by exact fun _ _ _ h => h) (Or.inl ⟨by rfl, ?_⟩) (by assumption) ?_
    rotate_left
    · intro wq hSw
      (try dsimp only at hSw)
      go_simp
      all_goals (with_reducible rfl)
    try simp only [Act.put, List.setIfInBounds_toArray, List.set_cons_zero, List.set_cons_succ]
    refine wpAnyH_take (i := 13) (v := ?_) (by simp only [List.getElem?_toArray, List.getElem?_cons_succ, List.getElem?_cons_zero]; rfl) (by kernel_rfl) (by kernel_rfl) (by kernel_rfl) (by exact fun _ _ _ h => h) (Or.inl ⟨by rfl, ?_⟩) (by assumption) ?_
    rotate_left
    · intro wq hSw
      (try dsimp only at hSw)
      go_simp
      all_goals (with_reducible rfl)
    try simp only [Act.put, List.setIfInBounds_toArray, List.set_cons_zero, List.set_cons_succ]
    refine wpAnyH_take (i := 14) (by simp only [List.getElem?_toArray, List.getElem?_cons_succ, List.getElem?_cons_zero]; rfl) (by kernel_rfl) (by kernel_rfl) (by kernel_rfl) (by exact fun _ _ _ h => h) (yields_ld' (ad := ⟨gb, off + 1, none⟩) (by rfl) _ rfl rfl (fun w' h => ld5' h.2.1)) (by assumption) ?_
    try simp only [Act.put, List.setIfInBounds_toArray, List.set_cons_zero, List.set_cons_succ]
    refine wpAnyH_take (i := 15) (v := ?_) (by simp only [List.getElem?_toArray, List.getElem?_cons_succ, List.getElem?_cons_zero]; rfl) (by kernel_rfl) (by kernel_rfl) (by kernel_rfl) (by exact fun _ _ _ h => h) (Or.inl ⟨by rfl, ?_⟩) (by assumption) ?_
    rotate_left
    · intro wq hSw
      (try dsimp only at hSw)
      go_simp
      all_goals (with_reducible rfl)
    try simp only [Act.put, List.setIfInBounds_toArray, List.set_cons_zero, List.set_cons_succ]
    refine wpAnyH_take (i := 16) (v := ?_) (by simp only [List.getElem?_toArray, List.getElem?_cons_succ, List.getElem?_cons_zero]; rfl) (by kernel_rfl) (by kernel_rfl) (by kernel_rfl) (by exact fun _ _ _ h => h) (Or.inl ⟨by rfl, ?_⟩) (by assumption) ?_
    rotate_left
    · intro wq hSw
      (try dsimp only at hSw)
      go_simp
      all_goals (with_reducible rfl)
    try simp only [Act.put, List.setIfInBounds_toArray, List.set_cons_zero, List.set_cons_succ]
    refine wpAnyH_take (i := 17) (v := ?_) (by simp only [List.getElem?_toArray, List.getElem?_cons_succ, List.getElem?_cons_zero]; rfl) (by kernel_rfl) (by kernel_rfl) (by kernel_rfl) (by exact fun _ _ _ h => h) (Or.inl ⟨by rfl, ?_⟩) (by assumption) ?_
    rotate_left
    · intro wq hSw
      (try dsimp only at hSw)
      go_simp
      all_goals (with_reducible rfl)
    try simp only [Act.put, List.setIfInBounds_toArray, List.set_cons_zero, List.set_cons_succ]
    refine wpAnyH_take (i := 18) (v := ?_) (by simp only [List.getElem?_toArray, List.getElem?_cons_succ, List.getElem?_cons_zero]; rfl) (by kernel_rfl) (by kernel_rfl) (by kernel_rfl) (by exact fun _ _ _ h => h) (Or.inl ⟨by rfl, ?_⟩) (by assumption) ?_
    rotate_left
    · intro wq hSw
      (try dsimp only at hSw)
      go_simp
      all_goals (with_reducible rfl)
    try simp only [Act.put, List.setIfInBounds_toArray, List.set_cons_zero, List.set_cons_succ]
    refine wpAnyH_take (i := 21) (v := ?_) (by simp only [List.getElem?_toArray, List.getElem?_cons_succ, List.getElem?_cons_zero]; rfl) (by kernel_rfl) (by kernel_rfl) (by kernel_rfl) (by exact fun _ _ _ h => h) (Or.inl ⟨by rfl, ?_⟩) (by assumption) ?_
    rotate_left
    · intro wq hSw
      (try dsimp only at hSw)
      go_simp
      all_goals (with_reducible rfl)
    try simp only [Act.put, List.setIfInBounds_toArray, List.set_cons_zero, List.set_cons_succ]
    refine wpAnyH_take (i := 22) (by simp only [List.getElem?_toArray, List.getElem?_cons_succ, List.getElem?_cons_zero]; rfl) (by kernel_rfl) (by kernel_rfl) (by kernel_rfl) (by exact fun _ _ _ h => h) (yields_sl_l (v := .slice (some ⟨gb, off, none⟩) b.length cap) (lo := 8) (by rfl) _ _ rfl rfl rfl s8) (by assumption) ?_
    try simp only [Act.put, List.setIfInBounds_toArray, List.set_cons_zero, List.set_cons_succ]
    refine wpAnyH_take (i := 24) (v := ?_) (by simp only [List.getElem?_toArray, List.getElem?_cons_succ, List.getElem?_cons_zero]; rfl) (by kernel_rfl) (by kernel_rfl) (by kernel_rfl) (by exact fun _ _ _ h => h) (Or.inl ⟨by rfl, ?_⟩) (by assumption) ?_
    rotate_left
    · intro wq hSw
      (try dsimp only at hSw)
      go_simp
      all_goals (with_reducible rfl)
    try simp only [Act.put, List.setIfInBounds_toArray, List.set_cons_zero, List.set_cons_succ]
    refine wpAnyH_take (i := 25) (by simp only [List.getElem?_toArray, List.getElem?_cons_succ, List.getElem?_cons_zero]; rfl) (by kernel_rfl) (by kernel_rfl) (by kernel_rfl) (by exact fun _ _ _ h => h) (yields_sl_l (v := .slice (some ⟨gb, off, none⟩) b.length cap) (lo := 24) (by rfl) _ _ rfl rfl rfl s24) (by assumption) ?_
    try simp only [Act.put, List.setIfInBounds_toArray, List.set_cons_zero, List.set_cons_succ]
    refine wpAnyH_take (i := 27) (v := ?_) (by simp only [List.getElem?_toArray, List.getElem?_cons_succ, List.getElem?_cons_zero]; rfl) (by kernel_rfl) (by kernel_rfl) (by kernel_rfl) (by exact fun _ _ _ h => h) (Or.inl ⟨by rfl, ?_⟩) (by assumption) ?_
    rotate_left
    · intro wq hSw
      (try dsimp only at hSw)
      go_simp
      all_goals (with_reducible rfl)
    try simp only [Act.put, List.setIfInBounds_toArray, List.set_cons_zero, List.set_cons_succ]
    refine wpAnyH_take (i := 28) (v := ?_) (by simp only [List.getElem?_toArray, List.getElem?_cons_succ, List.getElem?_cons_zero]; rfl) (by kernel_rfl) (by kernel_rfl) (by kernel_rfl) (by exact fun _ _ _ h => h) (Or.inl ⟨by rfl, ?_⟩) (by assumption) ?_
    rotate_left
    · intro wq hSw
      (try dsimp only at hSw)
      go_simp
      all_goals (with_reducible rfl)
    try simp only [Act.put, List.setIfInBounds_toArray, List.set_cons_zero, List.set_cons_succ]
    refine wpAnyH_take (i := 29) (by simp only [List.getElem?_toArray, List.getElem?_cons_succ, List.getElem?_cons_zero]; rfl) (by kernel_rfl) (by kernel_rfl) (by kernel_rfl) (by exact fun _ _ _ h => h) (yields_ld' (ad := ⟨gb, off + 6, none⟩) (by rfl) _ rfl rfl (fun w' h => ld5' h.2.2.1)) (by assumption) ?_
    try simp only [Act.put, List.setIfInBounds_toArray, List.set_cons_zero, List.set_cons_succ]
    refine wpAnyH_take (i := 30) (v := ?_) (by simp only [List.getElem?_toArray, List.getElem?_cons_succ, List.getElem?_cons_zero]; rfl) (by kernel_rfl) (by kernel_rfl) (by kernel_rfl) (by exact fun _ _ _ h => h) (Or.inl ⟨by rfl, ?_⟩) (by assumption) ?_
    rotate_left
    · intro wq hSw
      (try dsimp only at hSw)
      go_simp
      all_goals (with_reducible rfl)
    try simp only [Act.put, List.setIfInBounds_toArray, List.set_cons_zero, List.set_cons_succ]
    refine wpAnyH_take (i := 31) (v := ?_) (by simp only [List.getElem?_toArray, List.getElem?_cons_succ, List.getElem?_cons_zero]; rfl) (by kernel_rfl) (by kernel_rfl) (by kernel_rfl) (by exact fun _ _ _ h => h) (Or.inl ⟨by rfl, ?_⟩) (by assumption) ?_
    rotate_left
    · intro wq hSw
      (try dsimp only at hSw)
      go_simp
      all_goals (with_reducible rfl)
    try simp only [Act.put, List.setIfInBounds_toArray, List.set_cons_zero, List.set_cons_succ]
    refine wpAnyH_take (i := 32) (v := ?_) (by simp only [List.getElem?_toArray, List.getElem?_cons_succ, List.getElem?_cons_zero]; rfl) (by kernel_rfl) (by kernel_rfl) (by kernel_rfl) (by exact fun _ _ _ h => h) (Or.inl ⟨by rfl, ?_⟩) (by assumption) ?_
    rotate_left
    · intro wq hSw
      (try dsimp only at hSw)
      go_simp
      all_goals (with_reducible rfl)
    try simp only [Act.put, List.setIfInBounds_toArray, List.set_cons_zero, List.set_cons_succ]
    refine wpAnyH_take (i := 33) (by simp only [List.getElem?_toArray, List.getElem?_cons_succ, List.getElem?_cons_zero]; rfl) (by kernel_rfl) (by kernel_rfl) (by kernel_rfl) (by exact fun _ _ _ h => h) (yields_ld' (ad := ⟨gb, off + 7, none⟩) (by rfl) _ rfl rfl (fun w' h => ld5' h.2.2.2)) (by assumption) ?_
    try simp only [Act.put, List.setIfInBounds_toArray, List.set_cons_zero, List.set_cons_succ]
    refine wpAnyH_take (i := 34) (v := ?_) (by simp only [List.getElem?_toArray, List.getElem?_cons_succ, List.getElem?_cons_zero]; rfl) (by kernel_rfl) (by kernel_rfl) (by kernel_rfl) (by exact fun _ _ _ h => h) (Or.inl ⟨by rfl, ?_⟩) (by assumption) ?_
    rotate_left
    · intro wq hSw
      (try dsimp only at hSw)
      go_simp
      all_goals (with_reducible rfl)
    try simp only [Act.put, List.setIfInBounds_toArray, List.set_cons_zero, List.set_cons_succ]
    refine wpAnyH_ready (rs := [19, 36]) (by kernel_rfl) (by simp) ?_
    refine AllReadyH.cons (by simp only [List.getElem?_toArray, List.getElem?_cons_succ, List.getElem?_cons_zero]; rfl) (fun K hK => ?_) (AllReadyH.cons (by simp only [List.getElem?_toArray, List.getElem?_cons_succ, List.getElem?_cons_zero]; rfl) (fun K hK => ?_) AllReadyH.nil)
    · go_simp
      refine (KG.out _ 2 (by omega) HA.out).mono ?_
      rintro E y1 ⟨rfl, haw⟩
      have hS : y1.cell? ⟨gb, off, none⟩ = some (.int .u8 (gt b 0)) ∧ y1.cell? ⟨gb, off + 1, none⟩ = some (.int .u8 (gt b 1)) ∧ y1.cell? ⟨gb, off + 6, none⟩ = some (.int .u8 (gt b 6)) ∧ y1.cell? ⟨gb, off + 7, none⟩ = some (.int .u8 (gt b 7)) := ⟨haw.cell (by simp) hHeld.1, haw.cell (by simp) hHeld.2.1, haw.cell (by simp) hHeld.2.2.1, haw.cell (by simp) hHeld.2.2.2⟩
      replace HB2 := Lib.hid (HB2.out.on haw)
      replace HA := Lib.hid (HA.out.on haw)
      clear haw hHeld
      go_wp2_with fail
      refine hK.out _ _ hS (fun hHeld => ?_)
      clear hK K
      try simp only [Act.put, List.setIfInBounds_toArray, List.set_cons_zero, List.set_cons_succ]
      clear hS
      refine wpAnyH_take (i := 20) (v := ?_) (by simp only [List.getElem?_toArray, List.getElem?_cons_succ, List.getElem?_cons_zero]; rfl) (by kernel_rfl) (by kernel_rfl) (by kernel_rfl) (by exact fun _ _ _ h => h) (Or.inl ⟨by rfl, ?_⟩) (by assumption) ?_
      rotate_left
      · intro wq hSw
        (try dsimp only at hSw)
        go_simp
        all_goals (with_reducible rfl)
      try simp only [Act.put, List.setIfInBounds_toArray, List.set_cons_zero, List.set_cons_succ]
      refine wpAnyH_ready (rs := [23, 36]) (by kernel_rfl) (by simp) ?_
      refine AllReadyH.cons (by simp only [List.getElem?_toArray, List.getElem?_cons_succ, List.getElem?_cons_zero]; rfl) (fun K hK => ?_) (AllReadyH.cons (by simp only [List.getElem?_toArray, List.getElem?_cons_succ, List.getElem?_cons_zero]; rfl) (fun K hK => ?_) AllReadyH.nil)
      · go_simp
        refine (K8.out _ HA.out).mono ?_
        rintro E y2 ⟨rfl, haw⟩
        have hS : y2.cell? ⟨gb, off, none⟩ = some (.int .u8 (gt b 0)) ∧ y2.cell? ⟨gb, off + 1, none⟩ = some (.int .u8 (gt b 1)) ∧ y2.cell? ⟨gb, off + 6, none⟩ = some (.int .u8 (gt b 6)) ∧ y2.cell? ⟨gb, off + 7, none⟩ = some (.int .u8 (gt b 7)) := ⟨haw.cell (by simp) hHeld.1, haw.cell (by simp) hHeld.2.1, haw.cell (by simp) hHeld.2.2.1, haw.cell (by simp) hHeld.2.2.2⟩
        replace HB2 := Lib.hid (HB2.out.on haw)
        replace HA := Lib.hid (HA.out.on haw)
        clear haw hHeld
        go_wp2_with fail
        refine hK.out _ _ hS (fun hHeld => ?_)
        clear hK K
        try simp only [Act.put, List.setIfInBounds_toArray, List.set_cons_zero, List.set_cons_succ]
        clear hS
        refine wpAnyH_ready (rs := [26, 36]) (by kernel_rfl) (by simp) ?_
        refine AllReadyH.cons (by simp only [List.getElem?_toArray, List.getElem?_cons_succ, List.getElem?_cons_zero]; rfl) (fun K hK => ?_) (AllReadyH.cons (by simp only [List.getElem?_toArray, List.getElem?_cons_succ, List.getElem?_cons_zero]; rfl) (fun K hK => ?_) AllReadyH.nil)
        · go_simp
          refine (K24.out _ HA.out).mono ?_
          rintro E y3 ⟨rfl, haw⟩
          have hS : y3.cell? ⟨gb, off, none⟩ = some (.int .u8 (gt b 0)) ∧ y3.cell? ⟨gb, off + 1, none⟩ = some (.int .u8 (gt b 1)) ∧ y3.cell? ⟨gb, off + 6, none⟩ = some (.int .u8 (gt b 6)) ∧ y3.cell? ⟨gb, off + 7, none⟩ = some (.int .u8 (gt b 7)) := ⟨haw.cell (by simp) hHeld.1, haw.cell (by simp) hHeld.2.1, haw.cell (by simp) hHeld.2.2.1, haw.cell (by simp) hHeld.2.2.2⟩
          replace HB2 := Lib.hid (HB2.out.on haw)
          replace HA := Lib.hid (HA.out.on haw)
          clear haw hHeld
          go_wp2_with fail
          refine hK.out _ _ hS (fun hHeld => ?_)
          clear hK K
          try simp only [Act.put, List.setIfInBounds_toArray, List.set_cons_zero, List.set_cons_succ]
          clear hS
          refine wpAnyH_take (i := 35) (by simp only [List.getElem?_toArray, List.getElem?_cons_succ, List.getElem?_cons_zero]; rfl) (by kernel_rfl) (by kernel_rfl) (by kernel_rfl) (by exact fun _ _ _ h => h) (yields_build6 (by rfl) _ _ _ _ _ _ _ rfl (gt b 0 % 16 * 16 + gt b 1 / 16) (gt b 1 % 16 * 65536 + w16 b 2) s d (gt b 6) (gt b 7) HL8.out HL24.out rfl rfl rfl rfl rfl rfl rfl) (by assumption) ?_
          try simp only [Act.put, List.setIfInBounds_toArray, List.set_cons_zero, List.set_cons_succ]
          refine wpAnyH_ready (rs := [36]) (by kernel_rfl) (by simp) ?_
          refine AllReadyH.cons (by simp only [List.getElem?_toArray, List.getElem?_cons_succ, List.getElem?_cons_zero]; rfl) (fun K hK => ?_) AllReadyH.nil
          refine step_alloc28 rfl rfl (fun g6 y4 hk hb haw => ?_)
          have hsz := HA.out.size
          have hlb := HB2.out.lt
          have hg6 : w.heap.size ≤ g6 := by omega
          have hg62 : g6 ≠ g2 := by omega
          have hg6b : gb ≠ g6 := by omega
          have HX := Lib.hid hb
          have hS : y4.cell? ⟨gb, off, none⟩ = some (.int .u8 (gt b 0)) ∧ y4.cell? ⟨gb, off + 1, none⟩ = some (.int .u8 (gt b 1)) ∧ y4.cell? ⟨gb, off + 6, none⟩ = some (.int .u8 (gt b 6)) ∧ y4.cell? ⟨gb, off + 7, none⟩ = some (.int .u8 (gt b 7)) := ⟨haw.cell (by simp) hHeld.1, haw.cell (by simp) hHeld.2.1, haw.cell (by simp) hHeld.2.2.1, haw.cell (by simp) hHeld.2.2.2⟩
          replace HB2 := Lib.hid (HB2.out.on haw)
          replace HA := Lib.hid (HA.out.on haw)
          clear haw hb hk hHeld hsz hlb
          refine hK.out _ _ hS (fun hHeld => ?_)
          clear hK K
          try simp only [Act.put, List.setIfInBounds_toArray, List.set_cons_zero, List.set_cons_succ]
          clear hS
          refine wpAnyH_ready (rs := [37]) (by kernel_rfl) (by simp) ?_
          refine AllReadyH.cons (by simp only [List.getElem?_toArray, List.getElem?_cons_succ, List.getElem?_cons_zero]; rfl) (fun K hK => ?_) AllReadyH.nil
          refine step_store28 rfl _ _ rfl g6 rfl (sixP (gt b 0 % 16 * 16 + gt b 1 / 16) (gt b 1 % 16 * 65536 + w16 b 2) s d (gt b 6) (gt b 7)) (.slice none 0 0) (.slice none 0 0) rfl zeroPk (.slice none 0 0) (.slice none 0 0) (by exact HX.out) ⟨HL8.out, HL24.out⟩ ⟨rfl, rfl⟩ rfl rfl (fun y5 hb haw => ?_)
          have hS : y5.cell? ⟨gb, off, none⟩ = some (.int .u8 (gt b 0)) ∧ y5.cell? ⟨gb, off + 1, none⟩ = some (.int .u8 (gt b 1)) ∧ y5.cell? ⟨gb, off + 6, none⟩ = some (.int .u8 (gt b 6)) ∧ y5.cell? ⟨gb, off + 7, none⟩ = some (.int .u8 (gt b 7)) := ⟨haw.cell (by simp; omega) hHeld.1, haw.cell (by simp; omega) hHeld.2.1, haw.cell (by simp; omega) hHeld.2.2.1, haw.cell (by simp; omega) hHeld.2.2.2⟩
          replace HB2 := Lib.hid (HB2.out.away haw (by simp; omega))
          replace HA := Lib.hid (HA.out.next haw (fun x hx => .inr (by simp at hx; omega)))
          rw [HFX.out] at hb
          replace HX := Lib.hid hb
          clear haw hb hHeld
          refine hK.out _ _ hS (fun hHeld => ?_)
          clear hK K
          try simp only [Act.put, List.setIfInBounds_toArray, List.set_cons_zero, List.set_cons_succ]
          clear hS
          clear hHeld
          refine wpAnyH_done (by kernel_rfl) ?_ _
          go_wp2_with fail
          go_meet
          case rel => exact ⟨g6, rfl, hg6, hg62, HX.out, HB2.out, HA.out⟩
        · refine step_alloc28 rfl rfl (fun g6 y3 hk hb haw => ?_)
          have hsz := HA.out.size
          have hlb := HB2.out.lt
          have hg6 : w.heap.size ≤ g6 := by omega
          have hg62 : g6 ≠ g2 := by omega
          have hg6b : gb ≠ g6 := by omega
          have HX := Lib.hid hb
          have hS : y3.cell? ⟨gb, off, none⟩ = some (.int .u8 (gt b 0)) ∧ y3.cell? ⟨gb, off + 1, none⟩ = some (.int .u8 (gt b 1)) ∧ y3.cell? ⟨gb, off + 6, none⟩ = some (.int .u8 (gt b 6)) ∧ y3.cell? ⟨gb, off + 7, none⟩ = some (.int .u8 (gt b 7)) := ⟨haw.cell (by simp) hHeld.1, haw.cell (by simp) hHeld.2.1, haw.cell (by simp) hHeld.2.2.1, haw.cell (by simp) hHeld.2.2.2⟩
          replace HB2 := Lib.hid (HB2.out.on haw)
          replace HA := Lib.hid (HA.out.on haw)
          clear haw hb hk hHeld hsz hlb
          refine hK.out _ _ hS (fun hHeld => ?_)
          clear hK K
          try simp only [Act.put, List.setIfInBounds_toArray, List.set_cons_zero, List.set_cons_succ]
          clear hS
          refine wpAnyH_ready (rs := [26]) (by kernel_rfl) (by simp) ?_
          refine AllReadyH.cons (by simp only [List.getElem?_toArray, List.getElem?_cons_succ, List.getElem?_cons_zero]; rfl) (fun K hK => ?_) AllReadyH.nil
          go_simp
          refine (K24.out _ HA.out).mono ?_
          rintro E y4 ⟨rfl, haw⟩
          have hS : y4.cell? ⟨gb, off, none⟩ = some (.int .u8 (gt b 0)) ∧ y4.cell? ⟨gb, off + 1, none⟩ = some (.int .u8 (gt b 1)) ∧ y4.cell? ⟨gb, off + 6, none⟩ = some (.int .u8 (gt b 6)) ∧ y4.cell? ⟨gb, off + 7, none⟩ = some (.int .u8 (gt b 7)) := ⟨haw.cell (by simp) hHeld.1, haw.cell (by simp) hHeld.2.1, haw.cell (by simp) hHeld.2.2.1, haw.cell (by simp) hHeld.2.2.2⟩
          replace HB2 := Lib.hid (HB2.out.on haw)
          replace HA := Lib.hid (HA.out.on haw)
          replace HX := Lib.hid (HX.out.on haw)
          clear haw hHeld
          go_wp2_with fail
          refine hK.out _ _ hS (fun hHeld => ?_)
          clear hK K
          try simp only [Act.put, List.setIfInBounds_toArray, List.set_cons_zero, List.set_cons_succ]
          clear hS
          refine wpAnyH_take (i := 35) (by simp only [List.getElem?_toArray, List.getElem?_cons_succ, List.getElem?_cons_zero]; rfl) (by kernel_rfl) (by kernel_rfl) (by kernel_rfl) (by exact fun _ _ _ h => h) (yields_build6 (by rfl) _ _ _ _ _ _ _ rfl (gt b 0 % 16 * 16 + gt b 1 / 16) (gt b 1 % 16 * 65536 + w16 b 2) s d (gt b 6) (gt b 7) HL8.out HL24.out rfl rfl rfl rfl rfl rfl rfl) (by assumption) ?_
          try simp only [Act.put, List.setIfInBounds_toArray, List.set_cons_zero, List.set_cons_succ]
          refine wpAnyH_ready (rs := [37]) (by kernel_rfl) (by simp) ?_
          refine AllReadyH.cons (by simp only [List.getElem?_toArray, List.getElem?_cons_succ, List.getElem?_cons_zero]; rfl) (fun K hK => ?_) AllReadyH.nil
          refine step_store28 rfl _ _ rfl g6 rfl (sixP (gt b 0 % 16 * 16 + gt b 1 / 16) (gt b 1 % 16 * 65536 + w16 b 2) s d (gt b 6) (gt b 7)) (.slice none 0 0) (.slice none 0 0) rfl zeroPk (.slice none 0 0) (.slice none 0 0) (by exact HX.out) ⟨HL8.out, HL24.out⟩ ⟨rfl, rfl⟩ rfl rfl (fun y5 hb haw => ?_)
          have hS : y5.cell? ⟨gb, off, none⟩ = some (.int .u8 (gt b 0)) ∧ y5.cell? ⟨gb, off + 1, none⟩ = some (.int .u8 (gt b 1)) ∧ y5.cell? ⟨gb, off + 6, none⟩ = some (.int .u8 (gt b 6)) ∧ y5.cell? ⟨gb, off + 7, none⟩ = some (.int .u8 (gt b 7)) := ⟨haw.cell (by simp; omega) hHeld.1, haw.cell (by simp; omega) hHeld.2.1, haw.cell (by simp; omega) hHeld.2.2.1, haw.cell (by simp; omega) hHeld.2.2.2⟩
          replace HB2 := Lib.hid (HB2.out.away haw (by simp; omega))
          replace HA := Lib.hid (HA.out.next haw (fun x hx => .inr (by simp at hx; omega)))
          rw [HFX.out] at hb
          replace HX := Lib.hid hb
          clear haw hb hHeld
          refine hK.out _ _ hS (fun hHeld => ?_)
          clear hK K
          try simp only [Act.put, List.setIfInBounds_toArray, List.set_cons_zero, List.set_cons_succ]
          clear hS
          clear hHeld
          refine wpAnyH_done (by kernel_rfl) ?_ _
          go_wp2_with fail
          go_meet
          case rel => exact ⟨g6, rfl, hg6, hg62, HX.out, HB2.out, HA.out⟩
      · refine step_alloc28 rfl rfl (fun g6 y2 hk hb haw => ?_)
        have hsz := HA.out.size
        have hlb := HB2.out.lt
        have hg6 : w.heap.size ≤ g6 := by omega
        have hg62 : g6 ≠ g2 := by omega
        have hg6b : gb ≠ g6 := by omega
        have HX := Lib.hid hb
        have hS : y2.cell? ⟨gb, off, none⟩ = some (.int .u8 (gt b 0)) ∧ y2.cell? ⟨gb, off + 1, none⟩ = some (.int .u8 (gt b 1)) ∧ y2.cell? ⟨gb, off + 6, none⟩ = some (.int .u8 (gt b 6)) ∧ y2.cell? ⟨gb, off + 7, none⟩ = some (.int .u8 (gt b 7)) := ⟨haw.cell (by simp) hHeld.1, haw.cell (by simp) hHeld.2.1, haw.cell (by simp) hHeld.2.2.1, haw.cell (by simp) hHeld.2.2.2⟩
        replace HB2 := Lib.hid (HB2.out.on haw)
        replace HA := Lib.hid (HA.out.on haw)
        clear haw hb hk hHeld hsz hlb
        refine hK.out _ _ hS (fun hHeld => ?_)
        clear hK K
        try simp only [Act.put, List.setIfInBounds_toArray, List.set_cons_zero, List.set_cons_succ]
        clear hS
        refine wpAnyH_ready (rs := [23]) (by kernel_rfl) (by simp) ?_
        refine AllReadyH.cons (by simp only [List.getElem?_toArray, List.getElem?_cons_succ, List.getElem?_cons_zero]; rfl) (fun K hK => ?_) AllReadyH.nil
        go_simp
        refine (K8.out _ HA.out).mono ?_
        rintro E y3 ⟨rfl, haw⟩
        have hS : y3.cell? ⟨gb, off, none⟩ = some (.int .u8 (gt b 0)) ∧ y3.cell? ⟨gb, off + 1, none⟩ = some (.int .u8 (gt b 1)) ∧ y3.cell? ⟨gb, off + 6, none⟩ = some (.int .u8 (gt b 6)) ∧ y3.cell? ⟨gb, off + 7, none⟩ = some (.int .u8 (gt b 7)) := ⟨haw.cell (by simp) hHeld.1, haw.cell (by simp) hHeld.2.1, haw.cell (by simp) hHeld.2.2.1, haw.cell (by simp) hHeld.2.2.2⟩
        replace HB2 := Lib.hid (HB2.out.on haw)
        replace HA := Lib.hid (HA.out.on haw)
        replace HX := Lib.hid (HX.out.on haw)
        clear haw hHeld
        go_wp2_with fail
        refine hK.out _ _ hS (fun hHeld => ?_)
        clear hK K
        try simp only [Act.put, List.setIfInBounds_toArray, List.set_cons_zero, List.set_cons_succ]
        clear hS
        refine wpAnyH_ready (rs := [26]) (by kernel_rfl) (by simp) ?_
        refine AllReadyH.cons (by simp only [List.getElem?_toArray, List.getElem?_cons_succ, List.getElem?_cons_zero]; rfl) (fun K hK => ?_) AllReadyH.nil
        go_simp
        refine (K24.out _ HA.out).mono ?_
        rintro E y4 ⟨rfl, haw⟩
        have hS : y4.cell? ⟨gb, off, none⟩ = some (.int .u8 (gt b 0)) ∧ y4.cell? ⟨gb, off + 1, none⟩ = some (.int .u8 (gt b 1)) ∧ y4.cell? ⟨gb, off + 6, none⟩ = some (.int .u8 (gt b 6)) ∧ y4.cell? ⟨gb, off + 7, none⟩ = some (.int .u8 (gt b 7)) := ⟨haw.cell (by simp) hHeld.1, haw.cell (by simp) hHeld.2.1, haw.cell (by simp) hHeld.2.2.1, haw.cell (by simp) hHeld.2.2.2⟩
        replace HB2 := Lib.hid (HB2.out.on haw)
        replace HA := Lib.hid (HA.out.on haw)
        replace HX := Lib.hid (HX.out.on haw)
        clear haw hHeld
        go_wp2_with fail
        refine hK.out _ _ hS (fun hHeld => ?_)
        clear hK K
        try simp only [Act.put, List.setIfInBounds_toArray, List.set_cons_zero, List.set_cons_succ]
        clear hS
        refine wpAnyH_take (i := 35) (by simp only [List.getElem?_toArray, List.getElem?_cons_succ, List.getElem?_cons_zero]; rfl) (by kernel_rfl) (by kernel_rfl) (by kernel_rfl) (by exact fun _ _ _ h => h) (yields_build6 (by rfl) _ _ _ _ _ _ _ rfl (gt b 0 % 16 * 16 + gt b 1 / 16) (gt b 1 % 16 * 65536 + w16 b 2) s d (gt b 6) (gt b 7) HL8.out HL24.out rfl rfl rfl rfl rfl rfl rfl) (by assumption) ?_
        try simp only [Act.put, List.setIfInBounds_toArray, List.set_cons_zero, List.set_cons_succ]
        refine wpAnyH_ready (rs := [37]) (by kernel_rfl) (by simp) ?_
        refine AllReadyH.cons (by simp only [List.getElem?_toArray, List.getElem?_cons_succ, List.getElem?_cons_zero]; rfl) (fun K hK => ?_) AllReadyH.nil
        refine step_store28 rfl _ _ rfl g6 rfl (sixP (gt b 0 % 16 * 16 + gt b 1 / 16) (gt b 1 % 16 * 65536 + w16 b 2) s d (gt b 6) (gt b 7)) (.slice none 0 0) (.slice none 0 0) rfl zeroPk (.slice none 0 0) (.slice none 0 0) (by exact HX.out) ⟨HL8.out, HL24.out⟩ ⟨rfl, rfl⟩ rfl rfl (fun y5 hb haw => ?_)
        have hS : y5.cell? ⟨gb, off, none⟩ = some (.int .u8 (gt b 0)) ∧ y5.cell? ⟨gb, off + 1, none⟩ = some (.int .u8 (gt b 1)) ∧ y5.cell? ⟨gb, off + 6, none⟩ = some (.int .u8 (gt b 6)) ∧ y5.cell? ⟨gb, off + 7, none⟩ = some (.int .u8 (gt b 7)) := ⟨haw.cell (by simp; omega) hHeld.1, haw.cell (by simp; omega) hHeld.2.1, haw.cell (by simp; omega) hHeld.2.2.1, haw.cell (by simp; omega) hHeld.2.2.2⟩
        replace HB2 := Lib.hid (HB2.out.away haw (by simp; omega))
        replace HA := Lib.hid (HA.out.next haw (fun x hx => .inr (by simp at hx; omega)))
        rw [HFX.out] at hb
        replace HX := Lib.hid hb
        clear haw hb hHeld
        refine hK.out _ _ hS (fun hHeld => ?_)
        clear hK K
        try simp only [Act.put, List.setIfInBounds_toArray, List.set_cons_zero, List.set_cons_succ]
        clear hS
        clear hHeld
        refine wpAnyH_done (by kernel_rfl) ?_ _
        go_wp2_with fail
        go_meet
        case rel => exact ⟨g6, rfl, hg6, hg62, HX.out, HB2.out, HA.out⟩
    · refine step_alloc28 rfl rfl (fun g6 y1 hk hb haw => ?_)
      have hsz := HA.out.size
      have hlb := HB2.out.lt
      have hg6 : w.heap.size ≤ g6 := by omega
      have hg62 : g6 ≠ g2 := by omega
      have hg6b : gb ≠ g6 := by omega
      have HX := Lib.hid hb
      have hS : y1.cell? ⟨gb, off, none⟩ = some (.int .u8 (gt b 0)) ∧ y1.cell? ⟨gb, off + 1, none⟩ = some (.int .u8 (gt b 1)) ∧ y1.cell? ⟨gb, off + 6, none⟩ = some (.int .u8 (gt b 6)) ∧ y1.cell? ⟨gb, off + 7, none⟩ = some (.int .u8 (gt b 7)) := ⟨haw.cell (by simp) hHeld.1, haw.cell (by simp) hHeld.2.1, haw.cell (by simp) hHeld.2.2.1, haw.cell (by simp) hHeld.2.2.2⟩
      replace HB2 := Lib.hid (HB2.out.on haw)
      replace HA := Lib.hid (HA.out.on haw)
      clear haw hb hk hHeld hsz hlb
      refine hK.out _ _ hS (fun hHeld => ?_)
      clear hK K
      try simp only [Act.put, List.setIfInBounds_toArray, List.set_cons_zero, List.set_cons_succ]
      clear hS
      refine wpAnyH_ready (rs := [19]) (by kernel_rfl) (by simp) ?_
      refine AllReadyH.cons (by simp only [List.getElem?_toArray, List.getElem?_cons_succ, List.getElem?_cons_zero]; rfl) (fun K hK => ?_) AllReadyH.nil
      go_simp
      refine (KG.out _ 2 (by omega) HA.out).mono ?_
      rintro E y2 ⟨rfl, haw⟩
      have hS : y2.cell? ⟨gb, off, none⟩ = some (.int .u8 (gt b 0)) ∧ y2.cell? ⟨gb, off + 1, none⟩ = some (.int .u8 (gt b 1)) ∧ y2.cell? ⟨gb, off + 6, none⟩ = some (.int .u8 (gt b 6)) ∧ y2.cell? ⟨gb, off + 7, none⟩ = some (.int .u8 (gt b 7)) := ⟨haw.cell (by simp) hHeld.1, haw.cell (by simp) hHeld.2.1, haw.cell (by simp) hHeld.2.2.1, haw.cell (by simp) hHeld.2.2.2⟩
      replace HB2 := Lib.hid (HB2.out.on haw)
      replace HA := Lib.hid (HA.out.on haw)
      replace HX := Lib.hid (HX.out.on haw)
      clear haw hHeld
      go_wp2_with fail
      refine hK.out _ _ hS (fun hHeld => ?_)
      clear hK K
      try simp only [Act.put, List.setIfInBounds_toArray, List.set_cons_zero, List.set_cons_succ]
      clear hS
      refine wpAnyH_take (i := 20) (v := ?_) (by simp only [List.getElem?_toArray, List.getElem?_cons_succ, List.getElem?_cons_zero]; rfl) (by kernel_rfl) (by kernel_rfl) (by kernel_rfl) (by exact fun _ _ _ h => h) (Or.inl ⟨by rfl, ?_⟩) (by assumption) ?_
      rotate_left
      · intro wq hSw
        (try dsimp only at hSw)
        go_simp
        all_goals (with_reducible rfl)
      try simp only [Act.put, List.setIfInBounds_toArray, List.set_cons_zero, List.set_cons_succ]
      refine wpAnyH_ready (rs := [23]) (by kernel_rfl) (by simp) ?_
      refine AllReadyH.cons (by simp only [List.getElem?_toArray, List.getElem?_cons_succ, List.getElem?_cons_zero]; rfl) (fun K hK => ?_) AllReadyH.nil
      go_simp
      refine (K8.out _ HA.out).mono ?_
      rintro E y3 ⟨rfl, haw⟩
      have hS : y3.cell? ⟨gb, off, none⟩ = some (.int .u8 (gt b 0)) ∧ y3.cell? ⟨gb, off + 1, none⟩ = some (.int .u8 (gt b 1)) ∧ y3.cell? ⟨gb, off + 6, none⟩ = some (.int .u8 (gt b 6)) ∧ y3.cell? ⟨gb, off + 7, none⟩ = some (.int .u8 (gt b 7)) := ⟨haw.cell (by simp) hHeld.1, haw.cell (by simp) hHeld.2.1, haw.cell (by simp) hHeld.2.2.1, haw.cell (by simp) hHeld.2.2.2⟩
      replace HB2 := Lib.hid (HB2.out.on haw)
      replace HA := Lib.hid (HA.out.on haw)
      replace HX := Lib.hid (HX.out.on haw)
      clear haw hHeld
      go_wp2_with fail
      refine hK.out _ _ hS (fun hHeld => ?_)
      clear hK K
      try simp only [Act.put, List.setIfInBounds_toArray, List.set_cons_zero, List.set_cons_succ]
      clear hS
      refine wpAnyH_ready (rs := [26]) (by kernel_rfl) (by simp) ?_
      refine AllReadyH.cons (by simp only [List.getElem?_toArray, List.getElem?_cons_succ, List.getElem?_cons_zero]; rfl) (fun K hK => ?_) AllReadyH.nil
      go_simp
      refine (K24.out _ HA.out).mono ?_
      rintro E y4 ⟨rfl, haw⟩
      have hS : y4.cell? ⟨gb, off, none⟩ = some (.int .u8 (gt b 0)) ∧ y4.cell? ⟨gb, off + 1, none⟩ = some (.int .u8 (gt b 1)) ∧ y4.cell? ⟨gb, off + 6, none⟩ = some (.int .u8 (gt b 6)) ∧ y4.cell? ⟨gb, off + 7, none⟩ = some (.int .u8 (gt b 7)) := ⟨haw.cell (by simp) hHeld.1, haw.cell (by simp) hHeld.2.1, haw.cell (by simp) hHeld.2.2.1, haw.cell (by simp) hHeld.2.2.2⟩
      replace HB2 := Lib.hid (HB2.out.on haw)
      replace HA := Lib.hid (HA.out.on haw)
      replace HX := Lib.hid (HX.out.on haw)
      clear haw hHeld
      go_wp2_with fail
      refine hK.out _ _ hS (fun hHeld => ?_)
      clear hK K
      try simp only [Act.put, List.setIfInBounds_toArray, List.set_cons_zero, List.set_cons_succ]
      clear hS
      refine wpAnyH_take (i := 35) (by simp only [List.getElem?_toArray, List.getElem?_cons_succ, List.getElem?_cons_zero]; rfl) (by kernel_rfl) (by kernel_rfl) (by kernel_rfl) (by exact fun _ _ _ h => h) (yields_build6 (by rfl) _ _ _ _ _ _ _ rfl (gt b 0 % 16 * 16 + gt b 1 / 16) (gt b 1 % 16 * 65536 + w16 b 2) s d (gt b 6) (gt b 7) HL8.out HL24.out rfl rfl rfl rfl rfl rfl rfl) (by assumption) ?_
      try simp only [Act.put, List.setIfInBounds_toArray, List.set_cons_zero, List.set_cons_succ]
      refine wpAnyH_ready (rs := [37]) (by kernel_rfl) (by simp) ?_
      refine AllReadyH.cons (by simp only [List.getElem?_toArray, List.getElem?_cons_succ, List.getElem?_cons_zero]; rfl) (fun K hK => ?_) AllReadyH.nil
      refine step_store28 rfl _ _ rfl g6 rfl (sixP (gt b 0 % 16 * 16 + gt b 1 / 16) (gt b 1 % 16 * 65536 + w16 b 2) s d (gt b 6) (gt b 7)) (.slice none 0 0) (.slice none 0 0) rfl zeroPk (.slice none 0 0) (.slice none 0 0) (by exact HX.out) ⟨HL8.out, HL24.out⟩ ⟨rfl, rfl⟩ rfl rfl (fun y5 hb haw => ?_)
      have hS : y5.cell? ⟨gb, off, none⟩ = some (.int .u8 (gt b 0)) ∧ y5.cell? ⟨gb, off + 1, none⟩ = some (.int .u8 (gt b 1)) ∧ y5.cell? ⟨gb, off + 6, none⟩ = some (.int .u8 (gt b 6)) ∧ y5.cell? ⟨gb, off + 7, none⟩ = some (.int .u8 (gt b 7)) := ⟨haw.cell (by simp; omega) hHeld.1, haw.cell (by simp; omega) hHeld.2.1, haw.cell (by simp; omega) hHeld.2.2.1, haw.cell (by simp; omega) hHeld.2.2.2⟩
      replace HB2 := Lib.hid (HB2.out.away haw (by simp; omega))
      replace HA := Lib.hid (HA.out.next haw (fun x hx => .inr (by simp at hx; omega)))
      rw [HFX.out] at hb
      replace HX := Lib.hid hb
      clear haw hb hHeld
      refine hK.out _ _ hS (fun hHeld => ?_)
      clear hK K
      try simp only [Act.put, List.setIfInBounds_toArray, List.set_cons_zero, List.set_cons_succ]
      clear hS
      clear hHeld
      refine wpAnyH_done (by kernel_rfl) ?_ _
      go_wp2_with fail
      go_meet
      case rel => exact ⟨g6, rfl, hg6, hg62, HX.out, HB2.out, HA.out⟩
  case rest =>
  obtain ⟨g6, rfl, hg6, hg62, hb6, hb2, haw⟩ := hcut
  have HB6 := Lib.hid hb6
  replace HB2 := Lib.hid hb2
  replace HA := Lib.hid haw
  clear hb6 hb2 haw c0' c1' c6' c7'
  have HAD : Hid (Ad (S6.fixR b)) := by rw [← HFX.out]; exact ⟨HL8.out, HL24.out⟩
  clear wq0 wq1 wq2 wq3 wq4 tm0 tm1 td1
  have c37 := (HB6.out.cells HAD.out).proto
  have wr40 : IntKind.i64.wrap (40 + w16 b 4) = 40 + w16 b 4 := by rw [IntKind.wrap_i64]; omega
  by_cases h44 : gt b 6 = 44
  rotate_left
  · have HPE : Hid (S6.look6P b = ({ S6.fixR b with d := (b.drop 40).take (uptoN (b.drop 40) (w16 b 4)) }, 40 + w16 b 4, 0)) := by
      show _ = _
      rw [HLK.out, if_neg h44]
      have e : uptoN (b.drop 40) (w16 b 4) = min (b.length - 40) (w16 b 4).toNat := by unfold uptoN; rw [List.length_drop]; omega
      rw [e]
    have c37' : wc.cell? ⟨g6, 37, none⟩ = some (.int .i64 (gt b 6)) := c37
    have k3 : (gt b 6 != 44) = true := by simp [h44]
    have KU : Hid (∀ W, Away [] w W → Calls Tryd.prog 60 #[.slice A40 (b.length - 40) (cap - 40), .int .i64 (w16 b 4)] W fun E w' => ∃ v, E = .returned v ∧ Owns w' v ((b.drop 40).take (uptoN (b.drop 40) (w16 b 4))) ∧ New W.heap.size v ∧ Away [] W w') := fun W h => KU40.out W (w16 b 4) h
    have HPO : Hid ((S6.fixR b).o = []) := rfl
    clear c37 HLK KU40
    generalize (b.drop 40).take (uptoN (b.drop 40) (w16 b 4)) = dd at *
    generalize S6.fixR b = P at *
    go_wp2_with fail
    refine (KU.out _ HA.out).mono ?_
    rintro E w8 ⟨v8, rfl, hv8, hn8, haw⟩
    have HSV : Hid (∀ k, v8.ownBlock = some k → k ≠ g6 ∧ k ≠ g2) := fun k hk => by
      have h1 := hn8 k hk
      have h2 := HB6.out.lt
      have h3 := HB2.out.lt
      exact ⟨by omega, by omega⟩
    have hsza8 := HA.out.size
    have HN8 : Hid (New w.heap.size v8) := hn8.mono (by omega)
    obtain ⟨va, vn, vc, rfl⟩ := hv8.shp
    have HV8 := Lib.hid hv8
    replace HA := Lib.hid (HA.out.on haw)
    replace HB2 := Lib.hid (HB2.out.on haw)
    replace HB6 := Lib.hid (HB6.out.on haw)
    clear hv8 hn8 haw KU
    have c45 := (HB6.out.cells HAD.out).d
    have f45 := HB6.out.free 45
    go_upto_region 9 with fail
    have haw := away_put (w := w8) (g := g6) 45 (.slice va vn vc)
    replace HB6 := Lib.hid (HB6.out.put 45 (.slice va vn vc) ((csP_set HAD.out _ _).2.2.2.2.2.2.2.2.2.2.2.2.2 dd (.slice va vn vc)))
    replace HA := Lib.hid (HA.out.next haw (fun x hx => .inr (by simp at hx; omega)))
    replace HB2 := Lib.hid (HB2.out.away haw (by simp; omega))
    replace HV8 := Lib.hid (HV8.out.away haw (fun k hk => by simp; exact (HSV.out k hk).1))
    clear haw c45 f45
    generalize World.setCell w8 ⟨g6, 45, none⟩ (.slice va vn vc) = w9 at *
    have HAD2 : Hid (Ad { P with d := dd }) := HAD.out
    have HOO : Hid (({ P with d := dd } : Pk).o = []) := HPO.out
    generalize hpp : ({ P with d := dd } : Pk) = pp at *
    have HPD : Hid (pp.d = dd) := by rw [← hpp]; exact rfl
    clear hpp
    go_wp2_with (first
      | (refine wpList_load28 rfl _ rfl _ rfl pp _ _ (by exact HB6.out) HAD2.out ?_)
      | (refine wpList_store28 rfl _ _ rfl _ rfl pp (.slice none 0 0) (.slice va vn vc) rfl zeroPk (.slice none 0 0) (.slice none 0 0) (by exact HB2.out) HAD2.out ⟨rfl, rfl⟩ rfl rfl ?_; refine Hid.out ?_))
    refine Lib.hid ?_
    intro wz hbz hawz
    have HBz := Lib.hid hbz
    have HAz : Hid (Away [] w wz) := HA.out.next hawz (fun x hx => .inr (by simp at hx; omega))
    have HDz := Lib.hid (HV8.out.away hawz (fun k hk hx => (HSV.out k hk).2 (by simpa using hx)))
    clear hbz hawz
    go_wp2_with fail
    refine bodyPost_ret (result28tt rfl _ _ _ _ _ _ (.int .i64 (40 + w16 b 4)) (.int .i64 0) rfl rfl rfl HBz.out HAD2.out) rfl ?_
    rw [HPE.out]
    exact ⟨_, _, rfl, by rw [HOO.out]; exact Owns.nil _, by rw [HPD.out]; exact HDz.out, New.nil _, HN8.out, by simp [Value.ownBlock], HAz.out⟩
  have c37' : wc.cell? ⟨g6, 37, none⟩ = some (.int .i64 (gt b 6)) := c37
  clear c37
  have k3 : (gt b 6 != 44) = false := by simp [h44]
  by_cases h48 : b.length < 48
  · have HPE : Hid (S6.look6P b = (zeroPk, 0, 20)) := by show _ = _; rw [HLK.out, if_pos h44, if_pos h48]
    have k4 : decide ((b.length : Int) < 48) = true := decide_eq_true (by omega)
    clear HLK
    go_wp2_with (first | (refine wpList_store28 rfl _ _ rfl _ rfl zeroPk (.slice none 0 0) (.slice none 0 0) rfl zeroPk (.slice none 0 0) (.slice none 0 0) (by exact HB2.out) ⟨rfl, rfl⟩ ⟨rfl, rfl⟩ rfl rfl ?_; refine Hid.out ?_))
    refine Lib.hid ?_
    intro wz hbz hawz
    have HBz := Lib.hid hbz
    have HAz : Hid (Away [] w wz) := HA.out.next hawz (fun x hx => .inr (by simp at hx; omega))
    clear hbz hawz
    go_wp2_with fail
    refine bodyPost_ret (result28tt rfl _ _ _ _ _ _ (.int .i64 0) (.int .i64 20) rfl rfl rfl HBz.out ⟨rfl, rfl⟩) rfl ?_
    rw [HPE.out]
    exact L4Out.no _ HAz.out
  have k4 : decide ((b.length : Int) < 48) = false := decide_eq_false (by omega)
  obtain ⟨b', off', he, e40⟩ := HR.out.at 40 (by omega)
  simp only [Option.some.injEq, Addr.mk.injEq, and_true] at he
  obtain ⟨rfl, rfl⟩ := he
  have d40 := HA.out.cell (by simp) e40
  have x40 := gt_bd HBY.out 40
  have i40 : (40 : Int) < (b.length : Int) := by omega
  have j40 : 40 < b.length := by omega
  have wr40 : IntKind.i64.wrap (gt b 40) = gt b 40 := by rw [IntKind.wrap_i64]; omega
  obtain ⟨b', off', he, e41⟩ := HR.out.at 41 (by omega)
  simp only [Option.some.injEq, Addr.mk.injEq, and_true] at he
  obtain ⟨rfl, rfl⟩ := he
  have d41 := HA.out.cell (by simp) e41
  have x41 := gt_bd HBY.out 41
  have i41 : (41 : Int) < (b.length : Int) := by omega
  have j41 : 41 < b.length := by omega
  have wr41 : IntKind.i64.wrap (gt b 41) = gt b 41 := by rw [IntKind.wrap_i64]; omega
  obtain ⟨b', off', he, e43⟩ := HR.out.at 43 (by omega)
  simp only [Option.some.injEq, Addr.mk.injEq, and_true] at he
  obtain ⟨rfl, rfl⟩ := he
  have d43 := HA.out.cell (by simp) e43
  have x43 := gt_bd HBY.out 43
  have i43 : (43 : Int) < (b.length : Int) := by omega
  have j43 : 43 < b.length := by omega
  have wr43 : IntKind.i64.wrap (gt b 43) = gt b 43 := by rw [IntKind.wrap_i64]; omega
  have x42 := gt_bd HBY.out 42
  have HCL : Hid (S6.cleanP b = (decide (gt b 41 = 0) && decide (gt b 43 % 8 / 2 = 0))) := by
    show _ = _
    unfold S6.cleanP
    have e : S6.wd b 42 = 256 * gt b 42 + gt b 43 := rfl
    rw [e, show (256 * gt b 42 + gt b 43) / 2 % 4 = gt b 43 % 8 / 2 by omega]
    simp [h44]
  have HL2 : Hid (S6.look6P b = if S6.cleanP b = false ∨ gt b 40 = 44 ∨ w16 b 4 < 8 then (zeroPk, 0, 50) else ({ S6.frag6P b with d := (b.drop 48).take (uptoN (b.drop 48) (w16 b 4 - 8)) }, 40 + w16 b 4, 0)) := by
    show _ = _
    rw [HLK.out, if_pos h44, if_neg h48]
    by_cases hx : S6.cleanP b = false ∨ gt b 40 = 44 ∨ w16 b 4 < 8
    · rw [if_pos hx, if_pos hx]
    · rw [if_neg hx, if_neg hx]
      have e : uptoN (b.drop 48) (w16 b 4 - 8) = min (b.length - 48) (w16 b 4 - 8).toNat := by unfold uptoN; rw [List.length_drop]; omega
      rw [e]
  clear HLK
  obtain ⟨A48, r48, n48, s48⟩ := tail_row HR.out hcap ha 48 48 rfl (by omega)
  have KU48 : Hid (∀ W, Away [] w W → Calls Tryd.prog 60 #[.slice A48 (b.length - 48) (cap - 48), .int .i64 (w16 b 4 - 8)] W fun E w' => ∃ v, E = .returned v ∧ Owns w' v ((b.drop 48).take (uptoN (b.drop 48) (w16 b 4 - 8))) ∧ New W.heap.size v ∧ Away [] W w') := fun W h => by
    have h1 := upto_c A48 (b.drop 48) (cap - 48) (w16 b 4 - 8) W (by simp; omega) n48 (r48 W h)
    rwa [List.length_drop] at h1
  clear r48 n48 KU40
  by_cases q1 : gt b 41 = 0
  rotate_left
  · have HPE : Hid (S6.look6P b = (zeroPk, 0, 50)) := by show _ = _; rw [HL2.out, if_pos (.inl (by rw [HCL.out]; simp [q1]))]
    have t_q1 : (gt b 41 != 0) = true := by simp [q1]
    clear q1
    go_wp2_with (first | (refine wpList_store28 rfl _ _ rfl _ rfl zeroPk (.slice none 0 0) (.slice none 0 0) rfl zeroPk (.slice none 0 0) (.slice none 0 0) (by exact HB2.out) ⟨rfl, rfl⟩ ⟨rfl, rfl⟩ rfl rfl ?_; refine Hid.out ?_))
    refine Lib.hid ?_
    intro wz hbz hawz
    have HBz := Lib.hid hbz
    have HAz : Hid (Away [] w wz) := HA.out.next hawz (fun x hx => .inr (by simp at hx; omega))
    clear hbz hawz
    go_wp2_with fail
    refine bodyPost_ret (result28tt rfl _ _ _ _ _ _ (.int .i64 0) (.int .i64 50) rfl rfl rfl HBz.out ⟨rfl, rfl⟩) rfl ?_
    rw [HPE.out]
    exact L4Out.no _ HAz.out
  have t_q1 : (gt b 41 != 0) = false := by simp [q1]
  by_cases q2 : gt b 43 % 8 / 2 = 0
  rotate_left
  · have HPE : Hid (S6.look6P b = (zeroPk, 0, 50)) := by show _ = _; rw [HL2.out, if_pos (.inl (by rw [HCL.out]; simp [q2]))]
    have t_q2 : (gt b 43 % 8 / 2 != 0) = true := by simp [q2]
    clear q2
    go_wp2_with (first | (refine wpList_store28 rfl _ _ rfl _ rfl zeroPk (.slice none 0 0) (.slice none 0 0) rfl zeroPk (.slice none 0 0) (.slice none 0 0) (by exact HB2.out) ⟨rfl, rfl⟩ ⟨rfl, rfl⟩ rfl rfl ?_; refine Hid.out ?_))
    refine Lib.hid ?_
    intro wz hbz hawz
    have HBz := Lib.hid hbz
    have HAz : Hid (Away [] w wz) := HA.out.next hawz (fun x hx => .inr (by simp at hx; omega))
    clear hbz hawz
    go_wp2_with fail
    refine bodyPost_ret (result28tt rfl _ _ _ _ _ _ (.int .i64 0) (.int .i64 50) rfl rfl rfl HBz.out ⟨rfl, rfl⟩) rfl ?_
    rw [HPE.out]
    exact L4Out.no _ HAz.out
  have t_q2 : (gt b 43 % 8 / 2 != 0) = false := by simp [q2]
  by_cases q3 : gt b 40 = 44
  · have HPE : Hid (S6.look6P b = (zeroPk, 0, 50)) := by show _ = _; rw [HL2.out, if_pos (.inr (.inl q3))]
    have t_q3 : (gt b 40 == 44) = true := by simp [q3]
    clear q3
    go_wp2_with (first | (refine wpList_store28 rfl _ _ rfl _ rfl zeroPk (.slice none 0 0) (.slice none 0 0) rfl zeroPk (.slice none 0 0) (.slice none 0 0) (by exact HB2.out) ⟨rfl, rfl⟩ ⟨rfl, rfl⟩ rfl rfl ?_; refine Hid.out ?_))
    refine Lib.hid ?_
    intro wz hbz hawz
    have HBz := Lib.hid hbz
    have HAz : Hid (Away [] w wz) := HA.out.next hawz (fun x hx => .inr (by simp at hx; omega))
    clear hbz hawz
    go_wp2_with fail
    refine bodyPost_ret (result28tt rfl _ _ _ _ _ _ (.int .i64 0) (.int .i64 50) rfl rfl rfl HBz.out ⟨rfl, rfl⟩) rfl ?_
    rw [HPE.out]
    exact L4Out.no _ HAz.out
  have t_q3 : (gt b 40 == 44) = false := by simp [q3]
  by_cases q4 : w16 b 4 < 8
  · have HPE : Hid (S6.look6P b = (zeroPk, 0, 50)) := by show _ = _; rw [HL2.out, if_pos (.inr (.inr q4))]
    have t_q4 : decide (w16 b 4 < 8) = true := by simp [q4]
    clear q4
    go_wp2_with (first | (refine wpList_store28 rfl _ _ rfl _ rfl zeroPk (.slice none 0 0) (.slice none 0 0) rfl zeroPk (.slice none 0 0) (.slice none 0 0) (by exact HB2.out) ⟨rfl, rfl⟩ ⟨rfl, rfl⟩ rfl rfl ?_; refine Hid.out ?_))
    refine Lib.hid ?_
    intro wz hbz hawz
    have HBz := Lib.hid hbz
    have HAz : Hid (Away [] w wz) := HA.out.next hawz (fun x hx => .inr (by simp at hx; omega))
    clear hbz hawz
    go_wp2_with fail
    refine bodyPost_ret (result28tt rfl _ _ _ _ _ _ (.int .i64 0) (.int .i64 50) rfl rfl rfl HBz.out ⟨rfl, rfl⟩) rfl ?_
    rw [HPE.out]
    exact L4Out.no _ HAz.out
  have t_q4 : decide (w16 b 4 < 8) = false := by simp [q4]
  have HPE : Hid (S6.look6P b = ({ S6.frag6P b with d := (b.drop 48).take (uptoN (b.drop 48) (w16 b 4 - 8)) }, 40 + w16 b 4, 0)) := by
    show _ = _
    rw [HL2.out, if_neg (by rw [HCL.out]; simp [q1, q2, q3]; omega)]
  clear HL2 HCL
  have f42 : 0 ≤ w16 b 42 ∧ w16 b 42 ≤ 65535 := by have e : w16 b 42 = 256 * gt b 42 + gt b 43 := rfl; omega
  have f44 : 0 ≤ w16 b 44 ∧ w16 b 44 ≤ 65535 := by have e : w16 b 44 = 256 * gt b 44 + gt b 45 := rfl; have h1 := gt_bd HBY.out 44; have h2 := gt_bd HBY.out 45; omega
  have f46 : 0 ≤ w16 b 46 ∧ w16 b 46 ≤ 65535 := by have e : w16 b 46 = 256 * gt b 46 + gt b 47 := rfl; have h1 := gt_bd HBY.out 46; have h2 := gt_bd HBY.out 47; omega
  have HFR : Hid (({ S6.fixR b with proto := gt b 40, frag := true, off := w16 b 42 / 8 * 8, more := (gt b 43 % 2 == 1), id := w16 b 44 * 65536 + w16 b 46 } : Pk) = S6.frag6P b) := by
    show _ = _
    unfold S6.frag6P
    have e : S6.wd b 42 = w16 b 42 := rfl
    have e2 : S6.wd b 42 = 256 * gt b 42 + gt b 43 := rfl
    have e3 : S6.wd4 b 44 = w16 b 44 * 65536 + w16 b 46 := by
      have a1 : S6.wd4 b 44 = 16777216 * gt b 44 + 65536 * gt b 45 + 256 * gt b 46 + gt b 47 := rfl
      have a2 : w16 b 44 = 256 * gt b 44 + gt b 45 := rfl
      have a3 : w16 b 46 = 256 * gt b 46 + gt b 47 := rfl
      omega
    have e4 : (gt b 43 % 2 == 1) = decide (S6.wd b 42 % 2 = 1) := by
      rw [e2, show (256 * gt b 42 + gt b 43) % 2 = gt b 43 % 2 by omega]
      by_cases h : gt b 43 % 2 = 1 <;> simp [h]
    rw [e4, e3, ← e]
  have hgg : gb ≠ g6 := by have := HGB.out; omega
  have f37 := HB6.out.free 37
  clear e40 e41 e43
  go_upto_region 15 with fail
  have haw := away_put (w := wc) (g := g6) 37 (.int .i64 (gt b 40))
  replace HB6 := Lib.hid (HB6.out.put 37 (.int .i64 (gt b 40)) ((csP_set HAD.out _ _).2.2.2.2.2.1 _))
  replace HA := Lib.hid (HA.out.next haw (fun x hx => .inr (by simp at hx; omega)))
  replace HB2 := Lib.hid (HB2.out.away haw (by simp; omega))
  have d40a := haw.cell (by first | (simp; omega) | simp) d40
  clear d40
  have d40 := d40a
  clear d40a
  have d41a := haw.cell (by first | (simp; omega) | simp) d41
  clear d41
  have d41 := d41a
  clear d41a
  have d43a := haw.cell (by first | (simp; omega) | simp) d43
  clear d43
  have d43 := d43a
  clear d43a
  clear haw
  generalize World.setCell wc ⟨g6, 37, none⟩ (.int .i64 (gt b 40)) = wd1 at *
  replace HAD : Hid (Ad { S6.fixR b with proto := gt b 40 }) := HAD.out
  clear c37' f37
  have c42 := (HB6.out.cells HAD.out).frag
  have f42b := HB6.out.free 42
  go_upto_region 16 with fail
  have haw := away_put (w := wd1) (g := g6) 42 (.bool true)
  replace HB6 := Lib.hid (HB6.out.put 42 (.bool true) ((csP_set HAD.out _ _).2.2.2.2.2.2.2.2.2.2.1 _))
  replace HA := Lib.hid (HA.out.next haw (fun x hx => .inr (by simp at hx; omega)))
  replace HB2 := Lib.hid (HB2.out.away haw (by simp; omega))
  have d40a := haw.cell (by first | (simp; omega) | simp) d40
  clear d40
  have d40 := d40a
  clear d40a
  have d41a := haw.cell (by first | (simp; omega) | simp) d41
  clear d41
  have d41 := d41a
  clear d41a
  have d43a := haw.cell (by first | (simp; omega) | simp) d43
  clear d43
  have d43 := d43a
  clear d43a
  clear haw
  generalize World.setCell wd1 ⟨g6, 42, none⟩ (.bool true) = wd2 at *
  replace HAD : Hid (Ad { S6.fixR b with proto := gt b 40, frag := true }) := HAD.out
  clear c42 f42b
  go_wp2_with fail
  refine (KG.out _ 42 (by omega) HA.out).mono ?_
  rintro E wd3 ⟨rfl, haw⟩
  replace HB6 := Lib.hid (HB6.out.on haw)
  replace HB2 := Lib.hid (HB2.out.on haw)
  replace HA := Lib.hid (HA.out.on haw)
  have d40a := haw.cell (by first | (simp; omega) | simp) d40
  clear d40
  have d40 := d40a
  clear d40a
  have d41a := haw.cell (by first | (simp; omega) | simp) d41
  clear d41
  have d41 := d41a
  clear d41a
  have d43a := haw.cell (by first | (simp; omega) | simp) d43
  clear d43
  have d43 := d43a
  clear d43a
  clear haw
  have td42 : (w16 b 42).tdiv 8 = w16 b 42 / 8 := Int.tdiv_eq_ediv_of_nonneg f42.1
  have c43b := (HB6.out.cells HAD.out).off
  have f43b := HB6.out.free 43
  go_upto_region 17 with fail
  have haw := away_put (w := wd3) (g := g6) 43 (.int .i64 (w16 b 42 / 8 * 8))
  replace HB6 := Lib.hid (HB6.out.put 43 (.int .i64 (w16 b 42 / 8 * 8)) ((csP_set HAD.out _ _).2.2.2.2.2.2.2.2.2.2.2.1 _))
  replace HA := Lib.hid (HA.out.next haw (fun x hx => .inr (by simp at hx; omega)))
  replace HB2 := Lib.hid (HB2.out.away haw (by simp; omega))
  have d40a := haw.cell (by first | (simp; omega) | simp) d40
  clear d40
  have d40 := d40a
  clear d40a
  have d41a := haw.cell (by first | (simp; omega) | simp) d41
  clear d41
  have d41 := d41a
  clear d41a
  have d43a := haw.cell (by first | (simp; omega) | simp) d43
  clear d43
  have d43 := d43a
  clear d43a
  clear haw
  generalize World.setCell wd3 ⟨g6, 43, none⟩ (.int .i64 (w16 b 42 / 8 * 8)) = wd4 at *
  replace HAD : Hid (Ad { S6.fixR b with proto := gt b 40, frag := true, off := w16 b 42 / 8 * 8 }) := HAD.out
  clear c43b f43b
  have c41b := (HB6.out.cells HAD.out).more
  have f41b := HB6.out.free 41
  go_upto_region 18 with fail
  have haw := away_put (w := wd4) (g := g6) 41 (.bool (gt b 43 % 2 == 1))
  replace HB6 := Lib.hid (HB6.out.put 41 (.bool (gt b 43 % 2 == 1)) ((csP_set HAD.out _ _).2.2.2.2.2.2.2.2.2.1 _))
  replace HA := Lib.hid (HA.out.next haw (fun x hx => .inr (by simp at hx; omega)))
  replace HB2 := Lib.hid (HB2.out.away haw (by simp; omega))
  have d40a := haw.cell (by first | (simp; omega) | simp) d40
  clear d40
  have d40 := d40a
  clear d40a
  have d41a := haw.cell (by first | (simp; omega) | simp) d41
  clear d41
  have d41 := d41a
  clear d41a
  have d43a := haw.cell (by first | (simp; omega) | simp) d43
  clear d43
  have d43 := d43a
  clear d43a
  clear haw
  generalize World.setCell wd4 ⟨g6, 41, none⟩ (.bool (gt b 43 % 2 == 1)) = wd5 at *
  replace HAD : Hid (Ad { S6.fixR b with proto := gt b 40, frag := true, off := w16 b 42 / 8 * 8, more := (gt b 43 % 2 == 1) }) := HAD.out
  clear c41b f41b
  go_wp2_with fail
  refine (KG.out _ 44 (by omega) HA.out).mono ?_
  rintro E wd6 ⟨rfl, haw⟩
  replace HB6 := Lib.hid (HB6.out.on haw)
  replace HB2 := Lib.hid (HB2.out.on haw)
  replace HA := Lib.hid (HA.out.on haw)
  clear haw d40 d41 d43
  go_wp2_with fail
  refine (KG.out _ 46 (by omega) HA.out).mono ?_
  rintro E wd7 ⟨rfl, haw⟩
  replace HB6 := Lib.hid (HB6.out.on haw)
  replace HB2 := Lib.hid (HB2.out.on haw)
  replace HA := Lib.hid (HA.out.on haw)
  clear haw
  have c39b := (HB6.out.cells HAD.out).id
  have f39b := HB6.out.free 39
  go_upto_region 19 with fail
  have haw := away_put (w := wd7) (g := g6) 39 (.int .u32 (w16 b 44 * 65536 + w16 b 46))
  replace HB6 := Lib.hid (HB6.out.put 39 (.int .u32 (w16 b 44 * 65536 + w16 b 46)) ((csP_set HAD.out _ _).2.2.2.2.2.2.2.1 _))
  replace HA := Lib.hid (HA.out.next haw (fun x hx => .inr (by simp at hx; omega)))
  replace HB2 := Lib.hid (HB2.out.away haw (by simp; omega))
  clear haw c39b f39b
  generalize World.setCell wd7 ⟨g6, 39, none⟩ (.int .u32 (w16 b 44 * 65536 + w16 b 46)) = wd8 at *
  replace HAD : Hid (Ad { S6.fixR b with proto := gt b 40, frag := true, off := w16 b 42 / 8 * 8, more := (gt b 43 % 2 == 1), id := w16 b 44 * 65536 + w16 b 46 }) := HAD.out
  have HPO : Hid (({ S6.fixR b with proto := gt b 40, frag := true, off := w16 b 42 / 8 * 8, more := (gt b 43 % 2 == 1), id := w16 b 44 * 65536 + w16 b 46 } : Pk).o = []) := rfl
  replace HB6 : Hid (BoxP wd8 g6 { S6.fixR b with proto := gt b 40, frag := true, off := w16 b 42 / 8 * 8, more := (gt b 43 % 2 == 1), id := w16 b 44 * 65536 + w16 b 46 } (.slice none 0 0) (.slice none 0 0)) := HB6.out
  rw [HFR.out] at HB6 HAD HPO
  have KU := KU48
  have w48 : IntKind.i64.wrap (w16 b 4 - 8) = w16 b 4 - 8 := by rw [IntKind.wrap_i64]; omega
  clear KU48
  generalize (b.drop 48).take (uptoN (b.drop 48) (w16 b 4 - 8)) = dd at *
  generalize S6.frag6P b = P at *
  go_wp2_with fail
  refine (KU.out _ HA.out).mono ?_
  rintro E w8 ⟨v8, rfl, hv8, hn8, haw⟩
  have HSV : Hid (∀ k, v8.ownBlock = some k → k ≠ g6 ∧ k ≠ g2) := fun k hk => by
    have h1 := hn8 k hk
    have h2 := HB6.out.lt
    have h3 := HB2.out.lt
    exact ⟨by omega, by omega⟩
  have hsza8 := HA.out.size
  have HN8 : Hid (New w.heap.size v8) := hn8.mono (by omega)
  obtain ⟨va, vn, vc, rfl⟩ := hv8.shp
  have HV8 := Lib.hid hv8
  replace HA := Lib.hid (HA.out.on haw)
  replace HB2 := Lib.hid (HB2.out.on haw)
  replace HB6 := Lib.hid (HB6.out.on haw)
  clear hv8 hn8 haw KU
  have c45 := (HB6.out.cells HAD.out).d
  have f45 := HB6.out.free 45
  go_upto_region 20 with fail
  have haw := away_put (w := w8) (g := g6) 45 (.slice va vn vc)
  replace HB6 := Lib.hid (HB6.out.put 45 (.slice va vn vc) ((csP_set HAD.out _ _).2.2.2.2.2.2.2.2.2.2.2.2.2 dd (.slice va vn vc)))
  replace HA := Lib.hid (HA.out.next haw (fun x hx => .inr (by simp at hx; omega)))
  replace HB2 := Lib.hid (HB2.out.away haw (by simp; omega))
  replace HV8 := Lib.hid (HV8.out.away haw (fun k hk => by simp; exact (HSV.out k hk).1))
  clear haw c45 f45
  generalize World.setCell w8 ⟨g6, 45, none⟩ (.slice va vn vc) = w9 at *
  have HAD2 : Hid (Ad { P with d := dd }) := HAD.out
  have HOO : Hid (({ P with d := dd } : Pk).o = []) := HPO.out
  generalize hpp : ({ P with d := dd } : Pk) = pp at *
  have HPD : Hid (pp.d = dd) := by rw [← hpp]; exact rfl
  clear hpp
  go_wp2_with (first
    | (refine wpList_load28 rfl _ rfl _ rfl pp _ _ (by exact HB6.out) HAD2.out ?_)
    | (refine wpList_store28 rfl _ _ rfl _ rfl pp (.slice none 0 0) (.slice va vn vc) rfl zeroPk (.slice none 0 0) (.slice none 0 0) (by exact HB2.out) HAD2.out ⟨rfl, rfl⟩ rfl rfl ?_; refine Hid.out ?_))
  refine Lib.hid ?_
  intro wz hbz hawz
  have HBz := Lib.hid hbz
  have HAz : Hid (Away [] w wz) := HA.out.next hawz (fun x hx => .inr (by simp at hx; omega))
  have HDz := Lib.hid (HV8.out.away hawz (fun k hk hx => (HSV.out k hk).2 (by simpa using hx)))
  clear hbz hawz
  go_wp2_with fail
  refine bodyPost_ret (result28tt rfl _ _ _ _ _ _ (.int .i64 (40 + w16 b 4)) (.int .i64 0) rfl rfl rfl HBz.out HAD2.out) rfl ?_
  rw [HPE.out]
  exact ⟨_, _, rfl, by rw [HOO.out]; exact Owns.nil _, by rw [HPD.out]; exact HDz.out, New.nil _, HN8.out, by simp [Value.ownBlock], HAz.out⟩
end Go.Proofs.YtbgpjhekohabiaaDoor

namespace Go.Proofs.YtbgpjhekohabiaaDoor
open Go.ChangeShapes Go.WideShapes Go.ChangeAt Go.RowKit Go.Deep Num
set_option linter.unusedVariables false
set_option maxHeartbeats 4000000
set_option maxRecDepth 100000

theorem rlook_four (g : Mg) (dv : Value) (w : World) (hg : Dam w g dv) (hG : Glob w) (h4 : g.v = 4) :
    Calls Tryd.prog 8 #[.agg (csM g dv)] w fun E w' => L4Out w (look4P g.d) E w' := by
  obtain ⟨a, cap, rfl, hcap, hnone, hrow⟩ := hg.d
  have HR := Lib.hid hrow
  have HG := Lib.hid hG
  have hlen := hrow.1
  have b4 : (g.v == 4) = true := by simp [h4]
  clear h4
  obtain ⟨R, hR⟩ : ∃ R, R = look4P g.d := ⟨_, rfl⟩
  rw [← hR]
  have HCA : Hid (∀ W, Away [] w W → Calls Tryd.prog 25 #[.slice a g.d.length cap] W fun E w' => L4Out W R E w') := fun W hW => by rw [hR]; exact rlook4_c a g.d cap W hcap hnone (hrow.away hW (by simp))
  have HAD : Hid (Ad R.1) := by rw [hR]; exact look4_ad hrow.2.1 hlen
  clear hR
  obtain ⟨P, T, Z⟩ := R
  clear hg hG hrow
  go_enter Tryd.func8, Tryd.ntmps8
  go_wp2_with (refine wpList_boxM rfl _ rfl g _ rfl ?_; refine Hid.out ?_)
  refine Lib.hid ?_
  intro g1 w1 hg1 hb haw
  have HM := Lib.hid hb; have HA := Lib.hid haw
  have hs1 := haw.size
  clear hb haw
  go_wp2_with (first | (refine wpList_alloc28 rfl rfl ?_; refine Hid.out ?_))
  refine Lib.hid ?_
  intro g2 w2 hg2 hb haw
  have hs2 := haw.size
  replace HA := Lib.hid (HA.out.on haw); replace HM := Lib.hid (HM.out.on haw); have HB := Lib.hid hb
  have hl2 := hb.lt
  clear hb haw
  have c0 := HM.out.c0
  have c4 := HM.out.c4
  go_wp2_with fail
  refine (HCA.out _ HA.out).mono ?_
  rintro E w3 ⟨ov, dv, rfl, ho, hd, hno, hnd, hap, haw⟩
  have hs3 := haw.size
  replace HA := Lib.hid (HA.out.on haw); replace HB := Lib.hid (HB.out.on haw)
  have HO := Lib.hid ho; have HD := Lib.hid hd
  have HOV : Hid (∀ k, ov.ownBlock = some k → k ≠ g2) := fun k hk => by have := hno k hk; omega
  have HDV : Hid (∀ k, dv.ownBlock = some k → k ≠ g2) := fun k hk => by have := hnd k hk; omega
  have HNO : Hid (New w.heap.size ov) := hno.mono (by omega)
  have HND : Hid (New w.heap.size dv) := hnd.mono (by omega)
  have HAP := Lib.hid hap
  have k1 : ov.oneCell' = true := by rcases ho.shape' with ⟨_, _, _, rfl⟩; rfl
  have k2 : dv.oneCell' = true := by rcases hd.shape' with ⟨_, _, _, rfl⟩; rfl
  clear ho hd hno hnd hap haw c0 c4
  dsimp only at HO HD HAD ⊢
  go_wp2_with (first | (refine wpList_store28 rfl _ _ rfl g2 rfl P ov dv rfl zeroPk (.slice none 0 0) (.slice none 0 0) (by exact HB.out) HAD.out ⟨rfl, rfl⟩ k1 k2 ?_; refine Hid.out ?_))
  refine Lib.hid ?_
  intro wz hb haw
  have HZ := Lib.hid hb
  replace HA : Hid (Away [] w wz) := HA.out.next haw (fun x hx => .inr (by simp at hx; omega))
  replace HO := Lib.hid (HO.out.away haw (fun k hk => by simpa using HOV.out k hk))
  replace HD := Lib.hid (HD.out.away haw (fun k hk => by simpa using HDV.out k hk))
  clear hb haw
  go_wp2_with fail
  refine bodyPost_ret (result28tt rfl _ _ _ _ _ _ _ _ rfl rfl rfl HZ.out HAD.out) rfl ⟨ov, dv, rfl, HO.out, HD.out, HNO.out, HND.out, HAP.out, HA.out⟩
theorem rlook_six (g : Mg) (dv : Value) (w : World) (hg : Dam w g dv) (hG : Glob w) (h6 : g.v = 6) :
    Calls Tryd.prog 8 #[.agg (csM g dv)] w fun E w' => L4Out w (S6.look6P g.d) E w' := by
  obtain ⟨a, cap, rfl, hcap, hnone, hrow⟩ := hg.d
  have HR := Lib.hid hrow
  have HG := Lib.hid hG
  have hlen := hrow.1
  have b4 : (g.v == 4) = false := by simp [h6]
  have b6 : (g.v == 6) = true := by simp [h6]
  clear h6
  obtain ⟨R, hR⟩ : ∃ R, R = S6.look6P g.d := ⟨_, rfl⟩
  rw [← hR]
  have HCA : Hid (∀ W, Away [] w W → Calls Tryd.prog 26 #[.slice a g.d.length cap] W fun E w' => L4Out W R E w') := fun W hW => by rw [hR]; exact rlook6_c a g.d cap W hcap hnone (hrow.away hW (by simp))
  have HAD : Hid (Ad R.1) := by rw [hR]; exact look6_ad
  clear hR
  obtain ⟨P, T, Z⟩ := R
  clear hg hG hrow
  go_enter Tryd.func8, Tryd.ntmps8
  go_wp2_with (refine wpList_boxM rfl _ rfl g _ rfl ?_; refine Hid.out ?_)
  refine Lib.hid ?_
  intro g1 w1 hg1 hb haw
  have HM := Lib.hid hb; have HA := Lib.hid haw
  have hs1 := haw.size
  clear hb haw
  go_wp2_with (first | (refine wpList_alloc28 rfl rfl ?_; refine Hid.out ?_))
  refine Lib.hid ?_
  intro g2 w2 hg2 hb haw
  have hs2 := haw.size
  replace HA := Lib.hid (HA.out.on haw); replace HM := Lib.hid (HM.out.on haw); have HB := Lib.hid hb
  have hl2 := hb.lt
  clear hb haw
  have c0 := HM.out.c0
  have c4 := HM.out.c4
  go_wp2_with fail
  refine (HCA.out _ HA.out).mono ?_
  rintro E w3 ⟨ov, dv, rfl, ho, hd, hno, hnd, hap, haw⟩
  have hs3 := haw.size
  replace HA := Lib.hid (HA.out.on haw); replace HB := Lib.hid (HB.out.on haw)
  have HO := Lib.hid ho; have HD := Lib.hid hd
  have HOV : Hid (∀ k, ov.ownBlock = some k → k ≠ g2) := fun k hk => by have := hno k hk; omega
  have HDV : Hid (∀ k, dv.ownBlock = some k → k ≠ g2) := fun k hk => by have := hnd k hk; omega
  have HNO : Hid (New w.heap.size ov) := hno.mono (by omega)
  have HND : Hid (New w.heap.size dv) := hnd.mono (by omega)
  have HAP := Lib.hid hap
  have k1 : ov.oneCell' = true := by rcases ho.shape' with ⟨_, _, _, rfl⟩; rfl
  have k2 : dv.oneCell' = true := by rcases hd.shape' with ⟨_, _, _, rfl⟩; rfl
  clear ho hd hno hnd hap haw c0 c4
  dsimp only at HO HD HAD ⊢
  go_wp2_with (first | (refine wpList_store28 rfl _ _ rfl g2 rfl P ov dv rfl zeroPk (.slice none 0 0) (.slice none 0 0) (by exact HB.out) HAD.out ⟨rfl, rfl⟩ k1 k2 ?_; refine Hid.out ?_))
  refine Lib.hid ?_
  intro wz hb haw
  have HZ := Lib.hid hb
  replace HA : Hid (Away [] w wz) := HA.out.next haw (fun x hx => .inr (by simp at hx; omega))
  replace HO := Lib.hid (HO.out.away haw (fun k hk => by simpa using HOV.out k hk))
  replace HD := Lib.hid (HD.out.away haw (fun k hk => by simpa using HDV.out k hk))
  clear hb haw
  go_wp2_with fail
  refine bodyPost_ret (result28tt rfl _ _ _ _ _ _ _ _ rfl rfl rfl HZ.out HAD.out) rfl ⟨ov, dv, rfl, HO.out, HD.out, HNO.out, HND.out, HAP.out, HA.out⟩
theorem rlook_arg (g : Mg) (dv : Value) (w : World) (hg : Dam w g dv) (hG : Glob w) (h4 : g.v ≠ 4) (h6 : g.v ≠ 6) :
    Calls Tryd.prog 8 #[.agg (csM g dv)] w fun E w' => L4Out w (zeroPk, 0, 1) E w' := by
  obtain ⟨a, cap, rfl, hcap, hnone, hrow⟩ := hg.d
  have HR := Lib.hid hrow
  have HG := Lib.hid hG
  have hlen := hrow.1
  have b4 : (g.v == 4) = false := by simp [h4]
  have b6 : (g.v == 6) = false := by simp [h6]
  clear h4 h6
  clear hg hG hrow
  go_enter Tryd.func8, Tryd.ntmps8
  go_wp2_with (refine wpList_boxM rfl _ rfl g _ rfl ?_; refine Hid.out ?_)
  refine Lib.hid ?_
  intro g1 w1 hg1 hb haw
  have HM := Lib.hid hb; have HA := Lib.hid haw
  have hs1 := haw.size
  clear hb haw
  go_wp2_with (first | (refine wpList_alloc28 rfl rfl ?_; refine Hid.out ?_))
  refine Lib.hid ?_
  intro g2 w2 hg2 hb haw
  have hs2 := haw.size
  replace HA := Lib.hid (HA.out.on haw); replace HM := Lib.hid (HM.out.on haw); have HB := Lib.hid hb
  have hl2 := hb.lt
  clear hb haw
  have c0 := HM.out.c0
  have c4 := HM.out.c4
  go_wp2_with (refine wpList_store28 rfl _ _ rfl g2 rfl zeroPk (.slice none 0 0) (.slice none 0 0) rfl zeroPk (.slice none 0 0) (.slice none 0 0) (by exact HB.out) ⟨rfl, rfl⟩ ⟨rfl, rfl⟩ rfl rfl ?_; refine Hid.out ?_)
  refine Lib.hid ?_
  intro wz hb haw
  have HZ := Lib.hid hb
  replace HA : Hid (Away [] w wz) := HA.out.next haw (fun x hx => .inr (by simp at hx; omega))
  clear hb haw
  go_wp2_with fail
  refine bodyPost_ret (result28tt rfl _ _ _ _ _ _ _ _ rfl rfl rfl HZ.out ⟨rfl, rfl⟩) rfl (L4Out.no _ HA.out)
theorem rlook_c (g : Mg) (dv : Value) (w : World) (hg : Dam w g dv) (hG : Glob w) :
    Calls Tryd.prog 8 #[.agg (csM g dv)] w fun E w' => L4Out w (lookP g) E w' := by
  unfold lookP
  split
  · rename_i h; exact rlook_four g dv w hg hG h
  rename_i h4
  split
  · rename_i h; exact rlook_six g dv w hg hG h
  · rename_i h; exact rlook_arg g dv w hg hG h4 h
end Go.Proofs.YtbgpjhekohabiaaDoor
