/-
  The document's Find and ahead.
-/
import Derived.Test.YtoifolmcdkfniaaMy
namespace Go.Proofs.Ytoifolmcdkfniaa
open Go.ChangeShapes Go.WideShapes Go.ChangeAt Go.RowKit
set_option linter.unusedVariables false
set_option linter.unusedSimpArgs false
set_option maxRecDepth 100000

theorem ahead_net {x y : Rt} (hx : Okr x) (hy : Okr y) : ahead x y = if (decide (x.v = y.v) && eqL x.l y.l) = true then decide (x.b < y.b) else lessP x.v x.l y.v y.l := by
  by_cases h : x.v = y.v ∧ x.l = y.l
  · rw [if_pos (by simp [eqL, h.1, h.2])]
    have h1 : lessR x y = false := by unfold lessR; rw [h.1, h.2]; exact less_irr _ _
    have h2 : lessR y x = false := by unfold lessR; rw [h.1, h.2]; exact less_irr _ _
    unfold ahead; rw [h1, h2]; simp
  · rw [if_neg (by simpa [eqL] using h)]
    have := less_one x.v y.v x.l y.l hx.2 hy.2 h
    unfold ahead lessR
    rw [this]
    cases lessP y.v y.l x.v x.l <;> simp
set_option maxHeartbeats 4000000 in
theorem ahead_c (x y : Rt) (hx : Okr x) (hy : Okr y) (w : World) : Calls Try.prog 28 #[.agg (csD x), .agg (csD y)] w fun E w' => E = .returned (.bool (ahead x y)) ∧ Away [] w w' := by
  have HX := Lib.hid hx
  have HY := Lib.hid hy
  have HLE := Lib.hid (fun w => rless_c x.v y.v x.l y.l hx.1 hy.1 hx.2 hy.2 w)
  have HN := Lib.hid (ahead_net hx hy)
  obtain ⟨r, hr⟩ : ∃ r, r = ahead x y := ⟨_, rfl⟩
  rw [← hr] at HN ⊢
  obtain ⟨q, hq⟩ : ∃ q, q = (decide (x.v = y.v) && eqL x.l y.l) := ⟨_, rfl⟩
  have hqe := fun w => eqA x.v y.v x.l y.l HX.out.1 HY.out.1 w
  rw [← hq] at hqe HN
  have hgd := guard24
  clear hx hy hr hq
  go_enter Try.func28, Try.ntmps28
  go_wp2_with (refine wpList_boxE rfl _ rfl x rfl ?_; refine Hid.out ?_)
  refine Lib.hid ?_
  intro g2 w1 hg2 hb haw
  have HA := Lib.hid haw
  have HB := Lib.hid hb
  clear hg2 hb haw
  go_wp2_with (refine wpList_boxE rfl _ rfl y rfl ?_; refine Hid.out ?_)
  refine Lib.hid ?_
  intro g3 w2 hg3 hb haw
  have HA2 := Lib.hid (HA.out.trans haw)
  have HBX := Lib.hid (HB.out.on haw (by simp))
  have HBY := Lib.hid hb
  clear hg3 hb haw HA HB
  have HRX := Lib.hid (range_a HBX.out.range HX.out)
  have HRY := Lib.hid (range_a HBY.out.range HY.out)
  have c1 := range_b HBX.out.range HX.out
  have c2 := range_b HBY.out.range HY.out
  simp only [Nat.zero_add] at c1 c2
  cases q
  · have HF : Hid (r = lessP x.v x.l y.v y.l) := by show _ = _; rw [HN.out]; rfl
    rw [← HF.out] at HLE
    go_wp2_with (first
      | (refine wpList_load32m rfl _ rfl g2 0 rfl x.v x.l HX.out.1 HRX.out ?_)
      | (refine wpList_load32m rfl _ rfl g3 0 rfl y.v y.l HY.out.1 HRY.out ?_)
      | (go_at_call 43; refine (HLE.out _).mono ?_; refine Hid.out ?_))
    refine Lib.hid ?_
    first
      | rintro E w3 rfl hbl
      | rintro E w3 ⟨rfl, hbl⟩
    have HA3 := Lib.hid (HA2.out.trans (Away.of_below hbl))
    clear hbl
    go_wp2_with fail
    go_ret
    exact ⟨rfl, HA3.out⟩
  · have HF : Hid (r = decide (x.b < y.b)) := by show _ = _; rw [HN.out]; rfl
    go_wp2_with (first
      | (refine wpList_load32m rfl _ rfl g2 0 rfl x.v x.l HX.out.1 HRX.out ?_)
      | (refine wpList_load32m rfl _ rfl g3 0 rfl y.v y.l HY.out.1 HRY.out ?_))
    go_ret
    exact ⟨ret_bool HF.out.symm, HA2.out⟩
/-- The most bits so far, and the link of the route that has them. -/
def MaxL (v : Int) (l : List Int) (L : List Rt) (k : Nat) (b lk : Int) : Prop :=
  (b = -1 ∧ lk = 0 ∧ ∀ (j : Nat) (y : Rt), j < k → L[j]? = some y → hitR v l y = false) ∨
  ∃ (j : Nat) (y : Rt), j < k ∧ L[j]? = some y ∧ hitR v l y = true ∧ y.b = b ∧ y.k = lk ∧ ∀ (j : Nat) (z : Rt), j < k → L[j]? = some z → hitR v l z = true → z.b ≤ b
theorem MaxL.no {v : Int} {l : List Int} {L : List Rt} {k : Nat} {b lk : Int} {x : Rt} (h : MaxL v l L k b lk) (hx : L[k]? = some x) (hm : 0 ≤ x.b) (hh : hitR v l x = true → x.b ≤ b) : MaxL v l L (k + 1) b lk := by
  rcases h with ⟨h1, h2, h3⟩ | ⟨j, y, hj, hy, h1, h2, h3, h4⟩
  · refine .inl ⟨h1, h2, fun j y hj hy => ?_⟩
    rcases Nat.lt_or_ge j k with hjk | hjk
    · exact h3 j y hjk hy
    · rw [show j = k from by omega, hx] at hy
      simp only [Option.some.injEq] at hy
      subst hy
      cases hb : hitR v l x with
      | false => rfl
      | true => have := hh hb; omega
  · refine .inr ⟨j, y, by omega, hy, h1, h2, h3, fun j z hj hz hit => ?_⟩
    rcases Nat.lt_or_ge j k with hjk | hjk
    · exact h4 j z hjk hz hit
    · rw [show j = k from by omega, hx] at hz
      simp only [Option.some.injEq] at hz
      subst hz; exact hh hit
theorem MaxL.yes {v : Int} {l : List Int} {L : List Rt} {k : Nat} {b lk : Int} {x : Rt} (h : MaxL v l L k b lk) (hx : L[k]? = some x) (hh : hitR v l x = true) (hb : b < x.b) : MaxL v l L (k + 1) x.b x.k := by
  refine .inr ⟨k, x, by omega, hx, hh, rfl, rfl, fun j z hj hz hit => ?_⟩
  rcases Nat.lt_or_ge j k with hjk | hjk
  · rcases h with ⟨h1, h2, h3⟩ | ⟨_, _, _, _, _, _, _, h4⟩
    · rw [h3 j z hjk hz] at hit; simp at hit
    · have := h4 j z hjk hz hit; omega
  · rw [show j = k from by omega, hx] at hz
    simp only [Option.some.injEq] at hz
    subst hz; omega
theorem MaxL.ans {v : Int} {l : List Int} {L S : List Rt} {b lk : Int} (h : MaxL v l L L.length b lk) (hb : Byt l) (hA : ∀ x ∈ L, Okr x) (hm : mayL L = true) (ho : IsOrd L S) (hv : validP v l = true) :
    (b = -1 ∧ findA v l S = (0, 210)) ∨ (0 ≤ b ∧ findA v l S = (lk, 0)) := by
  have hm' := mayL_iff.1 hm
  rcases ans_cases hb hA hm ho hv with ⟨e1, h1⟩ | ⟨z, e1, hz⟩
  · rcases h with ⟨h2, -, -⟩ | ⟨j, y, hj, hy, h2, -⟩
    · exact .inl ⟨h2, e1⟩
    · rw [h1 y (List.mem_of_getElem? hy)] at h2; simp at h2
  · rcases h with ⟨h2, -, h3⟩ | ⟨j, y, hj, hy, h2, h3, h4, h5⟩
    · obtain ⟨i, hi, rfl⟩ := List.mem_iff_getElem.1 hz.mem
      have := h3 i _ hi (List.getElem?_eq_getElem hi)
      rw [hz.hit] at this; simp at this
    · have hym := List.mem_of_getElem? hy
      have hB : Best v l L y := ⟨hym, h2, fun z hz hzh => by
        obtain ⟨i, hi, rfl⟩ := List.mem_iff_getElem.1 hz
        rw [h3]; exact h5 i _ hi (by simp [hi]) hzh⟩
      obtain rfl := best_uniq hm'.2.1 hm'.2.2 hz hB
      exact .inr ⟨by rw [← h3]; exact may_b (hm'.2.1 _ hym), by rw [e1, h4]⟩
set_option maxHeartbeats 8000000 in
theorem dfind_c {w : World} {u : Value} {L S : List Rt} (h : Rd w u L) (hg : Glob w) (hm : mayL L = true) (ho : IsOrd L S) (v : Int) (l : List Int) (hl : l.length = 16) (hby : Byt l) :
    Calls Try.prog 15 #[u, .agg (csA v l)] w fun E w' => E = .returned (.tuple #[.int .i64 (findA v l S).1, .int .i64 (findA v l S).2]) ∧ Away [] w w' := by
  have HL := Lib.hid hl
  have HBY := Lib.hid hby
  have HG := Lib.hid hg
  have HMY := Lib.hid hm
  have HO := Lib.hid ho
  have HOK := Lib.hid h.ok
  have hlen : L.length ≤ 32 := (mayL_iff.1 hm).1
  have HALL := Lib.hid (mayL_iff.1 hm).2.1
  obtain ⟨a, cap, rfl, hcap, hsh⟩ := h.shp
  have HSH := Lib.hid hsh
  obtain ⟨n, hn⟩ : ∃ n, n = L.length := ⟨_, rfl⟩
  rw [← hn] at hcap hlen ⊢
  have HN := Lib.hid hn
  obtain ⟨⟨r1, r2⟩, hr⟩ : ∃ r, r = findA v l S := ⟨_, rfl⟩
  rw [← hr]
  have HR := Lib.hid hr
  have HV0 := Lib.hid (fun w => rvalid_c v l hl w)
  clear h hl hsh hn hr hg hm ho hby
  go_enter Try.func15, Try.ntmps15
  go_wp2_with (refine wpList_box32 rfl _ rfl v l rfl ?_; refine Hid.out ?_)
  refine Lib.hid ?_
  intro g3 w1 hg3 hb haw
  have HA := Lib.hid haw
  have HB := Lib.hid hb
  clear hg3 hb haw
  obtain ⟨q, hq⟩ : ∃ q, q = validP v l := ⟨_, rfl⟩
  rw [← hq] at HV0
  have HQ := Lib.hid hq
  clear hq
  go_wp2_with (first
    | (refine wpList_load32 rfl _ rfl g3 rfl v l HL.out HB.out ?_)
    | (go_at_call 26; refine (HV0.out _).mono ?_; refine Hid.out ?_))
  refine Lib.hid ?_
  rintro E w2 ⟨rfl, hbl⟩
  have haw := Away.of_below hbl
  have HA2 := Lib.hid (HA.out.trans haw)
  have HBX : Hid (∀ w', Away [] w2 w' → BoxA w' g3 v l) := fun w' hw' => (HB.out.on haw (by simp)).on hw' (by simp)
  clear hbl haw HV0 HA HB
  cases q
  · have HE : Hid ((r1, r2) = (0, 1)) := by show _ = _; rw [HR.out]; exact findA_bad HQ.out.symm
    have h1 : r1 = 0 := congrArg Prod.fst HE.out
    have h2 : r2 = 1 := congrArg Prod.snd HE.out
    subst h1; subst h2
    go_wp2_with fail
    go_ret2
    exact ⟨rfl, HA2.out⟩
  · go_wp2_with fail
    go_loopw [6, 7, 8] (fun bv kv iv wr => ∃ (i : Nat) (bb lk : Int), bv = .int .i64 bb ∧ kv = .int .i64 lk ∧ iv = .int .i64 (i : Int) ∧ i ≤ n ∧ MaxL v l L i bb lk ∧ Away [] w2 wr) (fun _ _ iv _ => n - (intOf iv).toNat)
    case atStart => exact ⟨0, -1, 0, rfl, rfl, rfl, Nat.zero_le _, .inl ⟨rfl, rfl, fun j y hj => by omega⟩, Away.refl _ _⟩
    case round =>
      obtain ⟨i, bb, lk, rfl, rfl, rfl, hi, hmx, haw⟩ := hrel
      have HMX := Lib.hid hmx
      have HC := Lib.hid haw
      clear hmx haw
      by_cases hin : i < n
      · have i1 : decide (i < n) = true := by simp; omega
        have i0 : (i : Int) < (n : Int) := by omega
        obtain ⟨y, hy, hym⟩ := get_of (show i < L.length by rw [← HN.out]; omega)
        have HY := Lib.hid hy
        have HYO := Lib.hid (HOK.out y hym)
        have HYB := Lib.hid (may_b (HALL.out y hym))
        rcases HSH.out with he | ⟨b, o, ha, hrg⟩
        · exfalso; rw [he] at hy; simp at hy
        subst ha
        have HYR : Hid (∀ w', Away [] w2 w' → w'.rangeAt b (o + i * 19) (listD y)) := fun w' hw' => range_away (HA2.out.trans hw') (by simp) (hrg i y hy)
        have HWI := Lib.hid (fun w' (hw' : Away [] w2 w') => rwithin_c v y.v l y.l HL.out HYO.out.1 HBY.out HYO.out.2 y.b w' (HG.out.aw (HA2.out.trans hw')))
        change Hid (∀ w', _ → Calls Try.prog 27 _ w' fun e w'' => e = .returned (.bool (hitR v l y)) ∧ _) at HWI
        obtain ⟨q, hq⟩ : ∃ q, q = hitR v l y := ⟨_, rfl⟩
        rw [← hq] at HWI
        have HH := Lib.hid hq
        clear hq hy hym hrg hin
        cases q
        · have HM2 := Lib.hid (HMX.out.no HY.out HYB.out (fun h => by rw [← HH.out] at h; simp at h))
          go_wp2_with fail
          refine wp_region_cls (C := fun w' => Away [] w2 w') (by kernel_rfl) (by kernel_rfl) (by exact HC.out.drew) ?_
          repeat (first
            | go_big_quiet_skip
            | (go_big_quiet_want
               first
                 | (refine quiet_ixR _ _ rfl b o n cap i _ rfl rfl rfl (by omega) ?_; go_simp; go_big_quiet_on)
                 | (refine quiet_ldAm _ rfl g3 0 rfl v l HL.out (fun w' h => (HBX.out w' h).range) ?_; go_simp; go_big_quiet_on)
                 | (refine quiet_ldAm _ rfl b (o + i * 19) rfl y.v y.l HYO.out.1 (fun w' h => range_a (HYR.out w' h) HYO.out) ?_; go_simp; go_big_quiet_on)
                 | (refine quiet_ld3 _ rfl ⟨b, o + i * 19 + 17, none⟩ rfl y.b (fun w' h => range_b (HYR.out w' h) HYO.out) ?_; go_simp; go_big_quiet_on)
                 | (refine quiet_call 27 #[.agg (csA v l), .agg (csA y.v y.l), .int .i64 y.b] (.bool false) ?_ (fun W hW => (HWI.out W hW).mono (fun _ _ h => ⟨h.1, hW.trans (Away.of_below h.2)⟩)) ?_; (focus (intro w; go_simp; done)); go_simp; go_big_quiet_on)
                 | (refine quiet_call 27 #[.agg (csA v l), .agg (csA y.v y.l), .int .i64 y.b] (.bool true) ?_ (fun W hW => (HWI.out W hW).mono (fun _ _ h => ⟨h.1, hW.trans (Away.of_below h.2)⟩)) ?_; (focus (intro w; go_simp; done)); go_simp; go_big_quiet_on)
                 | (go_big_quiet_op; go_big_quiet_on)
                 | (refine quiet_val ?_ ?_ ?_
                    rotate_left
                    · intro w; go_simp; rfl
                    go_simp; go_big_quiet_on)))
          refine wpQuiet_nil ?_
          intro V hV
          have HV := Lib.hid hV
          clear hV
          go_wp2_with fail
          go_roundw
          case rel => exact ⟨i + 1, bb, lk, rfl, rfl, by go_num, by omega, HM2.out, HV.out⟩
          case measure => simp [intOf]; omega
        · by_cases hbb : y.b > bb
          · have HM2 := Lib.hid (HMX.out.yes HY.out HH.out.symm hbb)
            have hbd : decide (y.b > bb) = true := by simpa using hbb
            go_wp2_with fail
            refine wp_region_cls (C := fun w' => Away [] w2 w') (by kernel_rfl) (by kernel_rfl) (by exact HC.out.drew) ?_
            repeat (first
              | go_big_quiet_skip
              | (go_big_quiet_want
                 first
                   | (refine quiet_ixR _ _ rfl b o n cap i _ rfl rfl rfl (by omega) ?_; go_simp; go_big_quiet_on)
                   | (refine quiet_ldAm _ rfl g3 0 rfl v l HL.out (fun w' h => (HBX.out w' h).range) ?_; go_simp; go_big_quiet_on)
                   | (refine quiet_ldAm _ rfl b (o + i * 19) rfl y.v y.l HYO.out.1 (fun w' h => range_a (HYR.out w' h) HYO.out) ?_; go_simp; go_big_quiet_on)
                   | (refine quiet_ld3 _ rfl ⟨b, o + i * 19 + 17, none⟩ rfl y.b (fun w' h => range_b (HYR.out w' h) HYO.out) ?_; go_simp; go_big_quiet_on)
                   | (refine quiet_call 27 #[.agg (csA v l), .agg (csA y.v y.l), .int .i64 y.b] (.bool false) ?_ (fun W hW => (HWI.out W hW).mono (fun _ _ h => ⟨h.1, hW.trans (Away.of_below h.2)⟩)) ?_; (focus (intro w; go_simp; done)); go_simp; go_big_quiet_on)
                   | (refine quiet_call 27 #[.agg (csA v l), .agg (csA y.v y.l), .int .i64 y.b] (.bool true) ?_ (fun W hW => (HWI.out W hW).mono (fun _ _ h => ⟨h.1, hW.trans (Away.of_below h.2)⟩)) ?_; (focus (intro w; go_simp; done)); go_simp; go_big_quiet_on)
                   | (go_big_quiet_op; go_big_quiet_on)
                   | (refine quiet_val ?_ ?_ ?_
                      rotate_left
                      · intro w; go_simp; rfl
                      go_simp; go_big_quiet_on)))
            refine wpQuiet_nil ?_
            intro V hV
            have HV := Lib.hid hV
            clear hV
            have c17 := range_b (HYR.out V HV.out) HYO.out
            have c18 := range_k (HYR.out V HV.out) HYO.out
            go_wp2_with (first | (refine wpList_ixR rfl _ _ rfl b o n cap i rfl rfl (by omega) ?_))
            go_roundw
            case rel => exact ⟨i + 1, y.b, y.k, rfl, rfl, by go_num, by omega, HM2.out, HV.out⟩
            case measure => simp [intOf]; omega
          · have HM2 := Lib.hid (HMX.out.no HY.out HYB.out (fun _ => by omega))
            have hbd : decide (y.b > bb) = false := by simpa using hbb
            go_wp2_with fail
            refine wp_region_cls (C := fun w' => Away [] w2 w') (by kernel_rfl) (by kernel_rfl) (by exact HC.out.drew) ?_
            repeat (first
              | go_big_quiet_skip
              | (go_big_quiet_want
                 first
                   | (refine quiet_ixR _ _ rfl b o n cap i _ rfl rfl rfl (by omega) ?_; go_simp; go_big_quiet_on)
                   | (refine quiet_ldAm _ rfl g3 0 rfl v l HL.out (fun w' h => (HBX.out w' h).range) ?_; go_simp; go_big_quiet_on)
                   | (refine quiet_ldAm _ rfl b (o + i * 19) rfl y.v y.l HYO.out.1 (fun w' h => range_a (HYR.out w' h) HYO.out) ?_; go_simp; go_big_quiet_on)
                   | (refine quiet_ld3 _ rfl ⟨b, o + i * 19 + 17, none⟩ rfl y.b (fun w' h => range_b (HYR.out w' h) HYO.out) ?_; go_simp; go_big_quiet_on)
                   | (refine quiet_call 27 #[.agg (csA v l), .agg (csA y.v y.l), .int .i64 y.b] (.bool false) ?_ (fun W hW => (HWI.out W hW).mono (fun _ _ h => ⟨h.1, hW.trans (Away.of_below h.2)⟩)) ?_; (focus (intro w; go_simp; done)); go_simp; go_big_quiet_on)
                   | (refine quiet_call 27 #[.agg (csA v l), .agg (csA y.v y.l), .int .i64 y.b] (.bool true) ?_ (fun W hW => (HWI.out W hW).mono (fun _ _ h => ⟨h.1, hW.trans (Away.of_below h.2)⟩)) ?_; (focus (intro w; go_simp; done)); go_simp; go_big_quiet_on)
                   | (go_big_quiet_op; go_big_quiet_on)
                   | (refine quiet_val ?_ ?_ ?_
                      rotate_left
                      · intro w; go_simp; rfl
                      go_simp; go_big_quiet_on)))
            refine wpQuiet_nil ?_
            intro V hV
            have HV := Lib.hid hV
            clear hV
            go_wp2_with fail
            go_roundw
            case rel => exact ⟨i + 1, bb, lk, rfl, rfl, by go_num, by omega, HM2.out, HV.out⟩
            case measure => simp [intOf]; omega
      · have i1 : decide (i < n) = false := by simp; omega
        have hiL : i = L.length := by rw [← HN.out]; omega
        have HAN : Hid ((bb = -1 ∧ (r1, r2) = (0, 210)) ∨ (0 ≤ bb ∧ (r1, r2) = (lk, 0))) := by
          have h1 := HMX.out
          rw [hiL] at h1
          rw [HR.out]
          exact h1.ans HBY.out HOK.out HMY.out HO.out HQ.out.symm
        clear hin hiL
        rcases HAN.out with ⟨h1, h2⟩ | ⟨h1, h2⟩
        · have e1 : r1 = 0 := congrArg Prod.fst h2
          have e2 : r2 = 210 := congrArg Prod.snd h2
          subst e1; subst e2; subst h1
          clear HAN
          go_wp2_with fail
          go_ret2
          exact ⟨rfl, HA2.out.trans HC.out⟩
        · have e1 : r1 = lk := congrArg Prod.fst h2
          have e2 : r2 = 0 := congrArg Prod.snd h2
          have hb0 : decide (bb < 0) = false := by simp; omega
          have hb1 : ¬ (bb < 0) := by omega
          subst e1; subst e2
          clear HAN h1 h2
          go_wp2_with fail
          go_ret2
          exact ⟨rfl, HA2.out.trans HC.out⟩
end Go.Proofs.Ytoifolmcdkfniaa
