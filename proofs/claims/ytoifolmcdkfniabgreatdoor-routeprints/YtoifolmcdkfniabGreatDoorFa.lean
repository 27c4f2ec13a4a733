/-
  The document's All.
-/
import Derived.Test.YtoifolmcdkfniabGreatDoorFd
namespace Go.Proofs.YtoifolmcdkfniabGreatDoor
open Go.ChangeShapes Go.WideShapes Go.ChangeAt Go.RowKit
set_option linter.unusedVariables false
set_option linter.unusedSimpArgs false
set_option maxRecDepth 100000

/-- Behind the first k of the routes in order. -/
def behind (S : List Rt) (k : Nat) (x : Rt) : Bool := decide (k = 0) || (match S[k - 1]? with | some z => ahead z x | none => false)
theorem behind_iff {S : List Rt} (hs : S.Pairwise fun x y => ahead x y = true) (hA : ∀ x ∈ S, Okr x) {k m : Nat} {x : Rt} (hk : k ≤ S.length) (hx : S[m]? = some x) : behind S k x = true ↔ k ≤ m := by
  have hm := List.getElem?_eq_some_iff.1 hx
  unfold behind
  rcases k with _ | k
  · simp
  · have hk' : k < S.length := by omega
    rw [show k + 1 - 1 = k from by omega, List.getElem?_eq_getElem hk']
    simp only [Nat.add_one_ne_zero, decide_false, Bool.false_or]
    constructor
    · intro h
      rcases Nat.lt_or_ge k m with h1 | h1
      · exact h1
      · exfalso
        rcases Nat.lt_or_ge m k with h2 | h2
        · have h3 := List.pairwise_iff_getElem.1 hs m k hm.1 hk' h2
          rw [hm.2] at h3
          have := ahead_asym (hA x (List.mem_of_getElem? hx)) (hA _ (List.getElem_mem hk')) h3
          rw [h] at this; simp at this
        · have e : m = k := by omega
          subst e
          rw [hm.2, ahead_irr] at h; simp at h
    · intro h
      have h3 := List.pairwise_iff_getElem.1 hs k m hk' hm.1 h
      rw [hm.2] at h3; exact h3
/-- The least one behind, of the first i. -/
def Least (L S : List Rt) (k i : Nat) (bv : Int) : Prop :=
  (bv = -1 ∧ ∀ (j : Nat) (y : Rt), j < i → L[j]? = some y → behind S k y = false) ∨
  ∃ (j : Nat) (y : Rt), bv = (j : Int) ∧ j < i ∧ L[j]? = some y ∧ behind S k y = true ∧ ∀ (j' : Nat) (z : Rt), j' < i → L[j']? = some z → behind S k z = true → ahead z y = false
theorem Least.skip {L S : List Rt} {k i : Nat} {bv : Int} {x : Rt} (h : Least L S k i bv) (hx : L[i]? = some x) (hb : behind S k x = false) : Least L S k (i + 1) bv := by
  rcases h with ⟨h1, h2⟩ | ⟨j, y, h1, hj, hy, h2, h3⟩
  · refine .inl ⟨h1, fun j y hj hy => ?_⟩
    rcases Nat.lt_or_ge j i with h | h
    · exact h2 j y h hy
    · rw [show j = i from by omega, hx] at hy; simp only [Option.some.injEq] at hy; rw [← hy]; exact hb
  · refine .inr ⟨j, y, h1, by omega, hy, h2, fun j' z hj' hz hbz => ?_⟩
    rcases Nat.lt_or_ge j' i with h | h
    · exact h3 j' z h hz hbz
    · rw [show j' = i from by omega, hx] at hz; simp only [Option.some.injEq] at hz; rw [← hz, hb] at hbz; simp at hbz
theorem Least.first {L S : List Rt} {k i : Nat} {x : Rt} (h : ∀ (j : Nat) (y : Rt), j < i → L[j]? = some y → behind S k y = false) (hx : L[i]? = some x) (hb : behind S k x = true) : Least L S k (i + 1) (i : Int) := by
  refine .inr ⟨i, x, rfl, by omega, hx, hb, fun j' z hj' hz hbz => ?_⟩
  rcases Nat.lt_or_ge j' i with h1 | h1
  · rw [h j' z h1 hz] at hbz; simp at hbz
  · rw [show j' = i from by omega, hx] at hz; simp only [Option.some.injEq] at hz; rw [← hz]; exact ahead_irr x
theorem Least.less {L S : List Rt} {k i j : Nat} {x y : Rt} (hA : ∀ x ∈ L, Okr x) (hy : L[j]? = some y) (h3 : ∀ (j' : Nat) (z : Rt), j' < i → L[j']? = some z → behind S k z = true → ahead z y = false) (hx : L[i]? = some x) (hb : behind S k x = true) (ha : ahead x y = true) : Least L S k (i + 1) (i : Int) := by
  refine .inr ⟨i, x, rfl, by omega, hx, hb, fun j' z hj' hz hbz => ?_⟩
  rcases Nat.lt_or_ge j' i with h1 | h1
  · cases hc : ahead z x with
    | false => rfl
    | true =>
      have := ahead_trans (hA z (List.mem_of_getElem? hz)) (hA x (List.mem_of_getElem? hx)) (hA y (List.mem_of_getElem? hy)) hc ha
      rw [h3 j' z h1 hz hbz] at this; simp at this
  · rw [show j' = i from by omega, hx] at hz; simp only [Option.some.injEq] at hz; rw [← hz]; exact ahead_irr x
theorem Least.stay {L S : List Rt} {k i j : Nat} {x y : Rt} (hj : j < i) (hy : L[j]? = some y) (hby : behind S k y = true) (h3 : ∀ (j' : Nat) (z : Rt), j' < i → L[j']? = some z → behind S k z = true → ahead z y = false) (hx : L[i]? = some x) (ha : ahead x y = false) : Least L S k (i + 1) (j : Int) := by
  refine .inr ⟨j, y, rfl, by omega, hy, hby, fun j' z hj' hz hbz => ?_⟩
  rcases Nat.lt_or_ge j' i with h1 | h1
  · exact h3 j' z h1 hz hbz
  · rw [show j' = i from by omega, hx] at hz; simp only [Option.some.injEq] at hz; rw [← hz]; exact ha
theorem Least.next {L S : List Rt} {k : Nat} {bv : Int} (ho : IsOrd L S) (hA : ∀ x ∈ L, Okr x) (hk : k < S.length) (h : Least L S k L.length bv) : ∃ (j : Nat) (y : Rt), bv = (j : Int) ∧ j < L.length ∧ L[j]? = some y ∧ S[k]? = some y := by
  have hAS : ∀ x ∈ S, Okr x := fun x hx => hA x (ho.1.mem_iff.1 hx)
  have hz : S[k]? = some S[k] := List.getElem?_eq_getElem hk
  obtain ⟨j0, hj0, hj0e⟩ := List.mem_iff_getElem.1 (ho.1.mem_iff.1 (List.getElem_mem hk))
  have hL0 : L[j0]? = some S[k] := by rw [← hj0e]; exact List.getElem?_eq_getElem hj0
  have hb0 := (behind_iff ho.2 hAS (by omega) hz).2 (Nat.le_refl k)
  rcases h with ⟨-, h2⟩ | ⟨j, y, h1, hj, hy, h2, h3⟩
  · have := h2 j0 _ hj0 hL0; rw [hb0] at this; simp at this
  · refine ⟨j, y, h1, hj, hy, ?_⟩
    obtain ⟨m, hm, hme⟩ := List.mem_iff_getElem.1 (ho.1.mem_iff.2 (List.mem_of_getElem? hy))
    have hSm : S[m]? = some y := by rw [← hme]; exact List.getElem?_eq_getElem hm
    have hkm := (behind_iff ho.2 hAS (by omega) hSm).1 h2
    rcases Nat.lt_or_ge k m with h4 | h4
    · have h5 := List.pairwise_iff_getElem.1 ho.2 k m hk hm h4
      rw [hme, h3 j0 _ hj0 hL0 hb0] at h5; simp at h5
    · rw [show k = m from by omega]; exact hSm
theorem take_next {S : List Rt} {k : Nat} {y : Rt} (h : S[k]? = some y) : S.take k ++ [y] = S.take (k + 1) := by
  have hk := List.getElem?_eq_some_iff.1 h
  rw [List.take_succ_eq_append_getElem hk.1, hk.2]
def slLen : Value → Nat
  | .slice _ n _ => n
  | _ => 0
set_option maxHeartbeats 16000000 in
theorem dall_c {w : World} {u : Value} {L S : List Rt} (h : Rd w u L) (hm : mayL L = true) (ho : IsOrd L S) : Calls Tryz.prog 14 #[u] w (OwnOut w S) := by
  have HO := Lib.hid ho
  have HOK := Lib.hid h.ok
  have HOS := Lib.hid (ord_ok ho h.ok)
  have hlen : L.length ≤ 32 := (mayL_iff.1 hm).1
  obtain ⟨a, cap, rfl, hcap, hsh⟩ := h.shp
  have HSH := Lib.hid hsh
  obtain ⟨n, hn⟩ : ∃ n, n = L.length := ⟨_, rfl⟩
  have HSN : Hid (S.length = n) := by show _ = _; rw [ho.1.length_eq, hn]
  rw [← hn] at hcap hlen ⊢
  have HN := Lib.hid hn
  clear h hsh hn hm ho
  go_enter Tryz.func14, Tryz.ntmps14
  go_wp2_with fail
  go_loopw [3] (fun lv wr => ∃ k : Nat, k ≤ n ∧ LstD wr lv (S.take k) ∧ New w.heap.size lv ∧ Away [] w wr) (fun lv _ => n - slLen lv)
  case atStart => exact ⟨0, Nat.zero_le _, LstD.nil _, New.nil _, Away.refl _ _⟩
  case round =>
    obtain ⟨wo, hwo⟩ : ∃ z, z = wr := ⟨_, rfl⟩
    subst hwo
    obtain ⟨k, hk, hown, hnew, haw⟩ := hrel
    have HL := Lib.hid hown
    have HNW := Lib.hid hnew
    have HA := Lib.hid haw
    obtain ⟨la, lc, rfl, -⟩ := hown.sl
    have hlk : (S.take k).length = k := by rw [List.length_take, HSN.out]; omega
    rw [hlk] at HL HNW ⊢
    clear hown hnew haw hlk
    by_cases hkn : k < n
    · have k1 : decide (k < n) = true := by simp; omega
      have k0 : (k : Int) < (n : Int) := by omega
      clear hkn
      go_wp2_with fail
      go_loopw [4, 5] (fun bv iv w' => ∃ (i : Nat) (bb : Int), bv = .int .i64 bb ∧ iv = .int .i64 (i : Int) ∧ i ≤ n ∧ Least L S k i bb ∧ Away [] wo w') (fun _ iv _ => n - (intOf iv).toNat)
      case atStart => exact ⟨0, -1, rfl, rfl, Nat.zero_le _, .inl ⟨rfl, fun j y hj => by omega⟩, Away.refl _ _⟩
      case round =>
        obtain ⟨i, bb, rfl, rfl, hi, hle, haw⟩ := hrel
        have HLE := Lib.hid hle
        have HC := Lib.hid haw
        clear hle haw
        by_cases hin : i < n
        · have i1 : decide (i < n) = true := by simp; omega
          have i0 : (i : Int) < (n : Int) := by omega
          obtain ⟨x, hx, hxm⟩ := get_of (show i < L.length by rw [← HN.out]; omega)
          have HX := Lib.hid hx
          have HXO := Lib.hid (HOK.out x hxm)
          rcases HSH.out with he | ⟨b, o, ha, hrg⟩
          · exfalso; rw [he] at hx; simp at hx
          subst ha
          have HRG : Hid (∀ (j : Nat) (y : Rt) w', L[j]? = some y → Away [] wo w' → w'.rangeAt b (o + j * 19) (listD y)) := fun j y w' hy hw' => range_away (HA.out.trans hw') (by simp) (hrg j y hy)
          have HXR : Hid (∀ w', Away [] wo w' → w'.rangeAt b (o + i * 19) (listD x)) := fun w' hw' => HRG.out i x w' hx hw'
          obtain ⟨beh, hbeh⟩ : ∃ q, q = behind S k x := ⟨_, rfl⟩
          have HBH := Lib.hid hbeh
          clear hrg hx hxm hin hbeh
          go_upto_region 7 with fail
          go_cut [6] (fun v wc => v = .bool beh ∧ Away [] wo wc)
          case first =>
            rcases k with _ | kk
            · have hb1 : beh = true := by rw [HBH.out]; unfold behind; simp
              have HB1 := Lib.hid hb1
              have k00 : ((0 : Nat) : Int) = 0 := rfl
              clear hb1
              go_wp2_with fail
              refine wp_region_cls (C := fun w' => Away [] wo w') (by kernel_rfl) (by kernel_rfl) (by exact HC.out.drew) ?_
              repeat (first
                | go_big_quiet_skip
                | (go_big_quiet_want
                   first
                     | (refine quiet_ixR _ _ rfl gb 0 (kk + 1) lc kk _ rfl rfl (by first | omega | (rw [IntKind.wrap_i64] <;> omega)) (by omega) ?_; go_simp; go_big_quiet_on)
                     | (refine quiet_ixR _ _ rfl b o n cap i _ rfl rfl rfl (by omega) ?_; go_simp; go_big_quiet_on)
                     | (refine quiet_ldR _ rfl gb (kk * 19) rfl z HZO.out (fun w' h => by have h1 := HZR.out w' h; rw [Nat.zero_add] at h1; exact h1) ?_; go_simp; go_big_quiet_on)
                     | (refine quiet_ldR _ rfl b (o + i * 19) rfl x HXO.out (fun w' h => HXR.out w' h) ?_; go_simp; go_big_quiet_on)
                     | (refine quiet_call 38 #[.agg (csD z), .agg (csD x)] (.bool beh) ?_ (fun W hW => (HBE.out W hW).mono (fun _ _ h => ⟨h.1, hW.trans h.2⟩)) ?_; (focus (intro w; go_simp; done)); go_simp; go_big_quiet_on)
                     | (go_big_quiet_op; go_big_quiet_on)
                     | (refine quiet_val ?_ ?_ ?_
                        rotate_left
                        · intro w; go_simp; rfl
                        go_simp; go_big_quiet_on)))
              refine wpQuiet_nil ?_
              intro V hV
              have HV := Lib.hid hV
              clear hV
              go_wp2_with fail
              go_meet
              exact ⟨by rw [HB1.out], HV.out⟩
            · have kne : ((kk : Int) + 1 == 0) = false := by simp; omega
              have kne2 : ¬ ((kk : Int) + 1 = 0) := by omega
              obtain ⟨z, hz, hzm⟩ := get_of (show kk < S.length by rw [HSN.out]; omega)
              have HZO := Lib.hid (HOS.out z hzm)
              have HBE : Hid (∀ w', Away [] wo w' → Calls Tryz.prog 38 #[.agg (csD z), .agg (csD x)] w' fun E w'' => E = .returned (.bool beh) ∧ Away [] w' w'') := fun w' _ => by
                have e : beh = ahead z x := by
                  rw [HBH.out]; unfold behind
                  rw [show kk + 1 - 1 = kk from by omega, hz]; simp
                rw [e]; exact ahead_c z x HZO.out HXO.out w'
              have hLr := HL.out.rd (fun y hy => HOS.out y (List.mem_of_mem_take hy))
              obtain ⟨la', lc', hle', -, hsh'⟩ := hLr.shp
              simp only [Value.slice.injEq] at hle'
              obtain ⟨rfl, -, rfl⟩ := hle'
              have hztk : (S.take (kk + 1))[kk]? = some z := by rw [List.getElem?_take, if_pos (by omega)]; exact hz
              obtain ⟨gb, hgb, hzr⟩ : ∃ gb, la = some ⟨gb, 0, none⟩ ∧ wo.rangeAt gb (0 + kk * 19) (listD z) := by
                rcases HL.out.shp with ⟨h1, h2⟩ | ⟨gb, c, h1⟩
                · rw [h2] at hztk; simp at hztk
                · simp only [Value.slice.injEq] at h1
                  obtain ⟨rfl, h1b, rfl⟩ := h1
                  have hat := (show LstD wo (.slice (some ⟨gb, 0, none⟩) (S.take (kk + 1)).length lc) (S.take (kk + 1)) from by rw [← h1b]; exact HL.out).at (fun y hy => HOS.out y (List.mem_of_mem_take hy)) hztk
                  exact ⟨gb, rfl, hat⟩
              subst hgb
              have HZR : Hid (∀ w', Away [] wo w' → w'.rangeAt gb (0 + kk * 19) (listD z)) := fun w' hw' => range_away hw' (by simp) hzr
              clear hz hzm hLr hsh' hztk hzr
              go_wp2_with fail
              refine wp_region_cls (C := fun w' => Away [] wo w') (by kernel_rfl) (by kernel_rfl) (by exact HC.out.drew) ?_
              repeat (first
                | go_big_quiet_skip
                | (go_big_quiet_want
                   first
                     | (refine quiet_ixR _ _ rfl gb 0 (kk + 1) lc kk _ rfl rfl (by first | omega | (rw [IntKind.wrap_i64] <;> omega)) (by omega) ?_; go_simp; go_big_quiet_on)
                     | (refine quiet_ixR _ _ rfl b o n cap i _ rfl rfl rfl (by omega) ?_; go_simp; go_big_quiet_on)
                     | (refine quiet_ldR _ rfl gb (kk * 19) rfl z HZO.out (fun w' h => by have h1 := HZR.out w' h; rw [Nat.zero_add] at h1; exact h1) ?_; go_simp; go_big_quiet_on)
                     | (refine quiet_ldR _ rfl b (o + i * 19) rfl x HXO.out (fun w' h => HXR.out w' h) ?_; go_simp; go_big_quiet_on)
                     | (refine quiet_call 38 #[.agg (csD z), .agg (csD x)] (.bool beh) ?_ (fun W hW => (HBE.out W hW).mono (fun _ _ h => ⟨h.1, hW.trans h.2⟩)) ?_; (focus (intro w; go_simp; done)); go_simp; go_big_quiet_on)
                     | (go_big_quiet_op; go_big_quiet_on)
                     | (refine quiet_val ?_ ?_ ?_
                        rotate_left
                        · intro w; go_simp; rfl
                        go_simp; go_big_quiet_on)))
              refine wpQuiet_nil ?_
              intro V hV
              have HV := Lib.hid hV
              clear hV
              go_wp2_with fail
              go_meet
              exact ⟨rfl, HV.out⟩
          case rest =>
          obtain ⟨rfl, haw⟩ := hcut
          replace HC := Lib.hid haw
          clear haw
          cases beh
          · have HL2 := Lib.hid (HLE.out.skip HX.out HBH.out.symm)
            go_wp2_with fail
            refine wp_region_cls (C := fun w' => Away [] wo w') (by kernel_rfl) (by kernel_rfl) (by exact HC.out.drew) ?_
            repeat (first
              | go_big_quiet_skip
              | (go_big_quiet_want
                 first
                   | (refine quiet_ixR _ _ rfl b o n cap i _ rfl rfl rfl (by omega) ?_; go_simp; go_big_quiet_on)
                   | (refine quiet_ixR _ _ rfl b o n cap j _ rfl rfl rfl (by omega) ?_; go_simp; go_big_quiet_on)
                   | (refine quiet_ldR _ rfl b (o + i * 19) rfl x HXO.out (fun w' h => HXR.out w' h) ?_; go_simp; go_big_quiet_on)
                   | (refine quiet_ldR _ rfl b (o + j * 19) rfl y HYO.out (fun w' h => HYR.out w' h) ?_; go_simp; go_big_quiet_on)
                   | (refine quiet_call 38 #[.agg (csD x), .agg (csD y)] (.bool false) ?_ (fun W hW => (HAH.out W hW).mono (fun _ _ h => ⟨h.1, hW.trans h.2⟩)) ?_; (focus (intro w; go_simp; done)); go_simp; go_big_quiet_on)
                   | (refine quiet_call 38 #[.agg (csD x), .agg (csD y)] (.bool true) ?_ (fun W hW => (HAH.out W hW).mono (fun _ _ h => ⟨h.1, hW.trans h.2⟩)) ?_; (focus (intro w; go_simp; done)); go_simp; go_big_quiet_on)
                   | (go_big_quiet_op; go_big_quiet_on)
                   | (refine quiet_val ?_ ?_ ?_
                      rotate_left
                      · intro w; go_simp; rfl
                      go_simp; go_big_quiet_on)))
            refine wpQuiet_nil ?_
            intro V hV
            have HV := Lib.hid hV
            clear hV
            go_wp2_with fail
            go_roundw
            case rel => exact ⟨i + 1, bb, rfl, by go_num, by omega, HL2.out, HV.out⟩
            case measure => simp [intOf]; omega
          · rcases HLE.out with ⟨h1, h2⟩ | ⟨j, y, h1, hj, hy, h2, h3⟩
            · subst h1
              have HL2 := Lib.hid (Least.first h2 HX.out HBH.out.symm)
              clear h2
              go_wp2_with fail
              refine wp_region_cls (C := fun w' => Away [] wo w') (by kernel_rfl) (by kernel_rfl) (by exact HC.out.drew) ?_
              repeat (first
                | go_big_quiet_skip
                | (go_big_quiet_want
                   first
                     | (refine quiet_ixR _ _ rfl b o n cap i _ rfl rfl rfl (by omega) ?_; go_simp; go_big_quiet_on)
                     | (refine quiet_ixR _ _ rfl b o n cap j _ rfl rfl rfl (by omega) ?_; go_simp; go_big_quiet_on)
                     | (refine quiet_ldR _ rfl b (o + i * 19) rfl x HXO.out (fun w' h => HXR.out w' h) ?_; go_simp; go_big_quiet_on)
                     | (refine quiet_ldR _ rfl b (o + j * 19) rfl y HYO.out (fun w' h => HYR.out w' h) ?_; go_simp; go_big_quiet_on)
                     | (refine quiet_call 38 #[.agg (csD x), .agg (csD y)] (.bool false) ?_ (fun W hW => (HAH.out W hW).mono (fun _ _ h => ⟨h.1, hW.trans h.2⟩)) ?_; (focus (intro w; go_simp; done)); go_simp; go_big_quiet_on)
                     | (refine quiet_call 38 #[.agg (csD x), .agg (csD y)] (.bool true) ?_ (fun W hW => (HAH.out W hW).mono (fun _ _ h => ⟨h.1, hW.trans h.2⟩)) ?_; (focus (intro w; go_simp; done)); go_simp; go_big_quiet_on)
                     | (go_big_quiet_op; go_big_quiet_on)
                     | (refine quiet_val ?_ ?_ ?_
                        rotate_left
                        · intro w; go_simp; rfl
                        go_simp; go_big_quiet_on)))
              refine wpQuiet_nil ?_
              intro V hV
              have HV := Lib.hid hV
              clear hV
              go_wp2_with fail
              go_roundw
              case rel => exact ⟨i + 1, (i : Int), rfl, by go_num, by omega, HL2.out, HV.out⟩
              case measure => simp [intOf]; omega
            · subst h1
              have hjb : decide ((j : Int) < 0) = false := by simp
              have hjn : j < n := by omega
              have HYO := Lib.hid (HOK.out y (List.mem_of_getElem? hy))
              have HYR : Hid (∀ w', Away [] wo w' → w'.rangeAt b (o + j * 19) (listD y)) := fun w' hw' => HRG.out j y w' hy hw'
              have HAH : Hid (∀ w', Away [] wo w' → Calls Tryz.prog 38 #[.agg (csD x), .agg (csD y)] w' fun E w'' => E = .returned (.bool (ahead x y)) ∧ Away [] w' w'') := fun w' _ => ahead_c x y HXO.out HYO.out w'
              obtain ⟨q, hq⟩ : ∃ q, q = ahead x y := ⟨_, rfl⟩
              rw [← hq] at HAH
              have HY := Lib.hid hy
              have H2 := Lib.hid h2
              have H3 := Lib.hid h3
              have HQ := Lib.hid hq
              clear hy h2 h3 hq
              cases q
              · have HL2 := Lib.hid (Least.stay hj HY.out H2.out H3.out HX.out HQ.out.symm)
                go_wp2_with fail
                refine wp_region_cls (C := fun w' => Away [] wo w') (by kernel_rfl) (by kernel_rfl) (by exact HC.out.drew) ?_
                repeat (first
                  | go_big_quiet_skip
                  | (go_big_quiet_want
                     first
                       | (refine quiet_ixR _ _ rfl b o n cap i _ rfl rfl rfl (by omega) ?_; go_simp; go_big_quiet_on)
                       | (refine quiet_ixR _ _ rfl b o n cap j _ rfl rfl rfl (by omega) ?_; go_simp; go_big_quiet_on)
                       | (refine quiet_ldR _ rfl b (o + i * 19) rfl x HXO.out (fun w' h => HXR.out w' h) ?_; go_simp; go_big_quiet_on)
                       | (refine quiet_ldR _ rfl b (o + j * 19) rfl y HYO.out (fun w' h => HYR.out w' h) ?_; go_simp; go_big_quiet_on)
                       | (refine quiet_call 38 #[.agg (csD x), .agg (csD y)] (.bool false) ?_ (fun W hW => (HAH.out W hW).mono (fun _ _ h => ⟨h.1, hW.trans h.2⟩)) ?_; (focus (intro w; go_simp; done)); go_simp; go_big_quiet_on)
                       | (refine quiet_call 38 #[.agg (csD x), .agg (csD y)] (.bool true) ?_ (fun W hW => (HAH.out W hW).mono (fun _ _ h => ⟨h.1, hW.trans h.2⟩)) ?_; (focus (intro w; go_simp; done)); go_simp; go_big_quiet_on)
                       | (go_big_quiet_op; go_big_quiet_on)
                       | (refine quiet_val ?_ ?_ ?_
                          rotate_left
                          · intro w; go_simp; rfl
                          go_simp; go_big_quiet_on)))
                refine wpQuiet_nil ?_
                intro V hV
                have HV := Lib.hid hV
                clear hV
                go_wp2_with fail
                go_roundw
                case rel => exact ⟨i + 1, (j : Int), rfl, by go_num, by omega, HL2.out, HV.out⟩
                case measure => simp [intOf]; omega
              · have HL2 := Lib.hid (Least.less HOK.out HY.out H3.out HX.out HBH.out.symm HQ.out.symm)
                go_wp2_with fail
                refine wp_region_cls (C := fun w' => Away [] wo w') (by kernel_rfl) (by kernel_rfl) (by exact HC.out.drew) ?_
                repeat (first
                  | go_big_quiet_skip
                  | (go_big_quiet_want
                     first
                       | (refine quiet_ixR _ _ rfl b o n cap i _ rfl rfl rfl (by omega) ?_; go_simp; go_big_quiet_on)
                       | (refine quiet_ixR _ _ rfl b o n cap j _ rfl rfl rfl (by omega) ?_; go_simp; go_big_quiet_on)
                       | (refine quiet_ldR _ rfl b (o + i * 19) rfl x HXO.out (fun w' h => HXR.out w' h) ?_; go_simp; go_big_quiet_on)
                       | (refine quiet_ldR _ rfl b (o + j * 19) rfl y HYO.out (fun w' h => HYR.out w' h) ?_; go_simp; go_big_quiet_on)
                       | (refine quiet_call 38 #[.agg (csD x), .agg (csD y)] (.bool false) ?_ (fun W hW => (HAH.out W hW).mono (fun _ _ h => ⟨h.1, hW.trans h.2⟩)) ?_; (focus (intro w; go_simp; done)); go_simp; go_big_quiet_on)
                       | (refine quiet_call 38 #[.agg (csD x), .agg (csD y)] (.bool true) ?_ (fun W hW => (HAH.out W hW).mono (fun _ _ h => ⟨h.1, hW.trans h.2⟩)) ?_; (focus (intro w; go_simp; done)); go_simp; go_big_quiet_on)
                       | (go_big_quiet_op; go_big_quiet_on)
                       | (refine quiet_val ?_ ?_ ?_
                          rotate_left
                          · intro w; go_simp; rfl
                          go_simp; go_big_quiet_on)))
                refine wpQuiet_nil ?_
                intro V hV
                have HV := Lib.hid hV
                clear hV
                go_wp2_with fail
                go_roundw
                case rel => exact ⟨i + 1, (i : Int), rfl, by go_num, by omega, HL2.out, HV.out⟩
                case measure => simp [intOf]; omega
        · have i1 : decide (i < n) = false := by simp; omega
          obtain ⟨j, y, hbb, hjL, hy, hSk⟩ := Least.next HO.out HOK.out (by rw [HSN.out]; omega) (show Least L S k L.length bb from by rw [show L.length = i from by rw [← HN.out]; omega]; exact HLE.out)
          subst hbb
          have hjn : j < n := by rw [HN.out]; exact hjL
          have hjb : decide ((j : Int) < 0) = false := by simp
          have HYO := Lib.hid (HOK.out y (List.mem_of_getElem? hy))
          rcases HSH.out with he | ⟨b, o, ha, hrg⟩
          · exfalso; rw [he] at hy; simp at hy
          subst ha
          have HYR := Lib.hid (range_away (HA.out.trans HC.out) (by simp) (hrg j y hy))
          have HTK := Lib.hid (take_next hSk)
          have HLC := Lib.hid (HL.out.on HC.out)
          have HLK : Hid ((S.take k).length < 3518437208883) := by show _ < _; rw [List.length_take]; omega
          clear hin hrg hy hSk hjL
          go_wp2_with (first
            | (refine wpList_ixR rfl _ _ rfl b o n cap j rfl rfl (by omega) ?_)
            | (refine wpList_loadE rfl _ rfl b (o + j * 19) rfl y HYO.out (by exact HYR.out) ?_)
            | (refine wpList_buildS rfl _ rfl y rfl HYO.out ?_; refine Hid.out ?_))
          refine Lib.hid ?_
          intro gb w6 hgb hbx haw
          have HB6 := Lib.hid hbx
          have HA6 := Lib.hid ((HA.out.trans HC.out).trans haw)
          have HL6 := Lib.hid (HLC.out.on haw)
          clear hbx haw hgb
          go_wp2_with (refine wpList_appD rfl _ _ rfl _ _ rfl HL6.out gb 1 rfl y HB6.out HYO.out HLK.out ?_; refine Hid.out ?_)
          refine Lib.hid ?_
          intro v' w7 hown hgr hmov
          have HO7 : Hid (LstD w7 v' (S.take (k + 1))) := by rw [← HTK.out]; exact hown
          have HA7 := Lib.hid (HA6.out.grown hgr (fun k hk => .inr (HNW.out k hk)))
          have HN7 := Lib.hid (HNW.out.moved hmov HA6.out.size)
          have hl7 : slLen v' = k + 1 := by
            obtain ⟨a', c', e', -⟩ := HO7.out.sl
            rw [e']
            show (S.take (k + 1)).length = k + 1
            rw [List.length_take, HSN.out]; omega
          clear hown hgr hmov
          go_wp2_with fail
          go_roundw
          case rel => exact ⟨k + 1, by omega, HO7.out, HN7.out, HA7.out⟩
          case measure => rw [hl7]; simp [slLen]; omega
    · have k1 : decide (k < n) = false := by simp; omega
      have HLS : Hid (LstD wo (.slice la k lc) S) := by
        have h1 := HL.out
        rw [List.take_of_length_le (by rw [HSN.out]; omega)] at h1
        exact h1
      clear hkn
      go_wp2_with fail
      go_ret
      exact ⟨_, rfl, HLS.out, HNW.out, HA.out⟩
end Go.Proofs.YtoifolmcdkfniabGreatDoor
