/-
  PortsClose.
-/
import Derived.Test.YtemdgggpfadecaaCl
namespace Go.Proofs.Ytemdgggpfadecaa
open Go.ChangeShapes Go.WideShapes Go.ChangeAt Go.RowKit
set_option linter.unusedVariables false
set_option linter.unusedSimpArgs false
set_option maxRecDepth 100000

set_option maxHeartbeats 16000000 in
theorem walk (sz : Int) (sa : Option Addr) (l : List Opr) (cap : Nat) (av : Int) (al : List Int) (p : Int) (W : World) (hr : RowO W sa l) (hl : l.length ≤ 2932031007402) (hal : Byt al) :
    Calls Try.prog 5 #[.int .i64 sz, .slice sa l.length cap, .agg (csA av al), .int .i64 p] W fun E w' => E = .returned (.bool true) ∧ Below W.heap.size W w' := by
  have HAL := Lib.hid hal
  obtain ⟨n, hn⟩ : ∃ n, n = l.length := ⟨_, rfl⟩
  have HLB := Lib.hid hl
  have KV : Hid (∀ (o : Nat → Nat) (w : World) (g : Nat) (t : Tb) (j : Nat), KB.Ow o 1 w g t → RowO w sa l → Calls Try.prog 18 #[.pointer (some ⟨g, 0, none⟩), .slice sa n cap] w fun E w' => ∃ r, E = .returned r ∧ Li (give o w j) j w' r (viewP t.bs l) ∧ Away [] w w') := fun o w g t j h1 h2 => by
    rw [hn]; exact view_o h1 j sa l cap h2 hl
  rw [← hn] at hl ⊢
  have HN := Lib.hid hn
  clear hn hal
  go_enter Try.func5, Try.ntmps5
  go_wp2_with (refine wpList_box32 rfl _ rfl av al rfl ?_; refine Hid.out ?_)
  refine Lib.hid ?_
  intro g6 W1 hg6 hb haw
  have HW := Lib.hid haw
  have HBX := Lib.hid hb
  have HR := Lib.hid (hr.on haw)
  clear hb haw hg6 hr
  go_wp2_with fail
  refine (alive_c _).mono ?_
  rintro E w0 ⟨rfl, haw⟩
  have HU0 := Lib.hid ((Out.start W1).on haw)
  clear haw
  obtain ⟨hm0, hm1⟩ := and31 sz
  go_wp2_with fail
  obtain ⟨mo, hmo⟩ : ∃ z, z = 1 + bits .and .i64 sz 31 := ⟨_, rfl⟩
  rw [← hmo]
  have hmo0 : 1 ≤ mo := by omega
  have hmo1 : mo ≤ 32 := by omega
  clear hmo hm0 hm1
  refine (new_o (fun _ => 0) 1 mo w0 hmo0 hmo1).mono ?_
  rintro E w1 ⟨g, rfl, ho, hc⟩
  have HO := Lib.hid ho
  have HU := Lib.hid (HU0.out.keep hc (by decide))
  have HLA : Hid ((⟨mo, 0, []⟩ : Tb).last ≤ 0) := Int.le_refl _
  clear ho hc HU0
  go_wp2_with fail
  go_loopw [11] (fun i wr => ∃ (k : Nat) (o : Nat → Nat) (t : Tb), i = .int .i64 (k : Int) ∧ k ≤ n ∧ KB.Ow o 1 wr g t ∧ Out o W1 wr ∧ t.last ≤ (k : Int) + 0) (fun i _ => n - (intOf i).toNat)
  case atStart => exact ⟨0, _, _, rfl, Nat.zero_le _, HO.out, HU.out, by first | (have := HLA.out; omega) | (show (0 : Int) ≤ _; omega)⟩
  case round =>
    clear HO HU HLA
    obtain ⟨k, o, t, rfl, hk, ho, hu, hla⟩ := hrel
    have HO := Lib.hid ho
    have HU := Lib.hid hu
    clear ho hu
    by_cases hkn : k < n
    · have j1 : decide (k < n) = true := by simp; omega
      have j0 : (k : Int) < (n : Int) := by omega
      have j2 : 0 ≤ (k : Int) := by omega
      have j3 : ((k : Int)).toNat = k := by omega
      obtain ⟨x, hx, -⟩ := get_of (show k < l.length by rw [← HN.out]; omega)
      obtain ⟨b, off, hb, hbl, hrg, hox⟩ := HR.out.at hx
      subst hb
      have HX := Lib.hid hox
      have HWT := Lib.hid HO.out.wf
      have HBO : Hid (o b = 0) := HU.out.2 b hbl
      have HRG := Lib.hid (range_away HU.out.1 (by simp) hrg)
      clear hrg hox hx hkn hbl
      obtain ⟨c0, -, c2, -⟩ := rangeO HRG.out
      by_cases h1 : x.kd = 1
      · have e1 : (x.kd == 1) = true := by simpa using h1
        clear h1 c2
        go_wp2_with fail
        clear c0
        refine wp_region_held_drew (S := (fun w' => w'.rangeAt b (off + k * 20) (listO x))) (by kernel_rfl) (by exact HRG.out) (fun hHeld => ?_)
        have haw := (Away.refl [] wr).drew
        replace HO := Lib.hid (HO.out.on haw)
        replace HU := Lib.hid (HU.out.on haw)
        clear haw HRG
        refine wpAnyH_take (i := 0) (v := ?_) (by simp only [List.getElem?_toArray, List.getElem?_cons_zero]; rfl) (by kernel_rfl) (by kernel_rfl) (by kernel_rfl) (by exact fun _ _ _ h => h) (Or.inl ⟨by rfl, ?_⟩) (by assumption) ?_
        rotate_left
        · intro wq hSw
          (try dsimp only at hSw)
          go_simp
          all_goals (with_reducible rfl)
        try simp only [Act.put, List.setIfInBounds_toArray, List.set_cons_zero, List.set_cons_succ]
        refine wpAnyH_take (i := 1) (v := ?_) (by simp only [List.getElem?_toArray, List.getElem?_cons_succ, List.getElem?_cons_zero]; rfl) (by kernel_rfl) (by kernel_rfl) (by kernel_rfl) (by exact fun _ _ _ h => h) (Or.inl ⟨by rfl, ?_⟩) (by assumption) ?_
        rotate_left
        · intro wq hSw
          (try dsimp only at hSw)
          go_simp
          all_goals (with_reducible rfl)
        try simp only [Act.put, List.setIfInBounds_toArray, List.set_cons_zero, List.set_cons_succ]
        refine wpAnyH_take (i := 2) (v := ?_) (by simp only [List.getElem?_toArray, List.getElem?_cons_succ, List.getElem?_cons_zero]; rfl) (by kernel_rfl) (by kernel_rfl) (by kernel_rfl) (by exact fun _ _ _ h => h) (Or.inl ⟨by rfl, ?_⟩) (by assumption) ?_
        rotate_left
        · intro wq hSw
          (try dsimp only at hSw)
          go_simp
          all_goals (with_reducible rfl)
        try simp only [Act.put, List.setIfInBounds_toArray, List.set_cons_zero, List.set_cons_succ]
        refine wpAnyH_take (i := 3) (by simp only [List.getElem?_toArray, List.getElem?_cons_succ, List.getElem?_cons_zero]; rfl) (by kernel_rfl) (by kernel_rfl) (by kernel_rfl) (by exact fun _ _ _ h => h) (yields_ixO (by rfl) _ _ rfl b off n cap k rfl rfl (by omega)) (by assumption) ?_
        try simp only [Act.put, List.setIfInBounds_toArray, List.set_cons_zero, List.set_cons_succ]
        refine wpAnyH_take (i := 4) (v := ?_) (by simp only [List.getElem?_toArray, List.getElem?_cons_succ, List.getElem?_cons_zero]; rfl) (by kernel_rfl) (by kernel_rfl) (by kernel_rfl) (by exact fun _ _ _ h => h) (Or.inl ⟨by rfl, ?_⟩) (by assumption) ?_
        rotate_left
        · intro wq hSw
          (try dsimp only at hSw)
          go_simp
          all_goals (with_reducible rfl)
        try simp only [Act.put, List.setIfInBounds_toArray, List.set_cons_zero, List.set_cons_succ]
        refine wpAnyH_take (i := 5) (by simp only [List.getElem?_toArray, List.getElem?_cons_succ, List.getElem?_cons_zero]; rfl) (by kernel_rfl) (by kernel_rfl) (by kernel_rfl) (by exact fun _ _ _ h => h) (yields_ld (ad := ⟨b, off + k * 20 + 3, none⟩) (by rfl) _ rfl rfl (fun w' h => load32m_run (rangeO h).2.2.2 HX.out.2.2.2.2.1)) (by assumption) ?_
        try simp only [Act.put, List.setIfInBounds_toArray, List.set_cons_zero, List.set_cons_succ]
        refine wpAnyH_take (i := 6) (v := ?_) (by simp only [List.getElem?_toArray, List.getElem?_cons_succ, List.getElem?_cons_zero]; rfl) (by kernel_rfl) (by kernel_rfl) (by kernel_rfl) (by exact fun _ _ _ h => h) (Or.inl ⟨by rfl, ?_⟩) (by assumption) ?_
        rotate_left
        · intro wq hSw
          (try dsimp only at hSw)
          go_simp
          all_goals (with_reducible rfl)
        try simp only [Act.put, List.setIfInBounds_toArray, List.set_cons_zero, List.set_cons_succ]
        refine wpAnyH_take (i := 7) (v := ?_) (by simp only [List.getElem?_toArray, List.getElem?_cons_succ, List.getElem?_cons_zero]; rfl) (by kernel_rfl) (by kernel_rfl) (by kernel_rfl) (by exact fun _ _ _ h => h) (Or.inl ⟨by rfl, ?_⟩) (by assumption) ?_
        rotate_left
        · intro wq hSw
          (try dsimp only at hSw)
          go_simp
          all_goals (with_reducible rfl)
        try simp only [Act.put, List.setIfInBounds_toArray, List.set_cons_zero, List.set_cons_succ]
        refine wpAnyH_take (i := 8) (by simp only [List.getElem?_toArray, List.getElem?_cons_succ, List.getElem?_cons_zero]; rfl) (by kernel_rfl) (by kernel_rfl) (by kernel_rfl) (by exact fun _ _ _ h => h) (yields_ixO (by rfl) _ _ rfl b off n cap k rfl rfl (by omega)) (by assumption) ?_
        try simp only [Act.put, List.setIfInBounds_toArray, List.set_cons_zero, List.set_cons_succ]
        refine wpAnyH_take (i := 9) (v := ?_) (by simp only [List.getElem?_toArray, List.getElem?_cons_succ, List.getElem?_cons_zero]; rfl) (by kernel_rfl) (by kernel_rfl) (by kernel_rfl) (by exact fun _ _ _ h => h) (Or.inl ⟨by rfl, ?_⟩) (by assumption) ?_
        rotate_left
        · intro wq hSw
          (try dsimp only at hSw)
          go_simp
          all_goals (with_reducible rfl)
        try simp only [Act.put, List.setIfInBounds_toArray, List.set_cons_zero, List.set_cons_succ]
        refine wpAnyH_take (i := 10) (by simp only [List.getElem?_toArray, List.getElem?_cons_succ, List.getElem?_cons_zero]; rfl) (by kernel_rfl) (by kernel_rfl) (by kernel_rfl) (by exact fun _ _ _ h => h) (yields_ld (ad := ⟨b, off + k * 20 + 2, none⟩) (by rfl) _ rfl rfl (fun w' h => ld3 (rangeO h).2.2.1)) (by assumption) ?_
        try simp only [Act.put, List.setIfInBounds_toArray, List.set_cons_zero, List.set_cons_succ]
        refine wpAnyH_ready (rs := [11]) (by kernel_rfl) (by simp) ?_
        refine AllReadyH.cons (by simp only [List.getElem?_toArray, List.getElem?_cons_succ, List.getElem?_cons_zero]; rfl) (fun K hK => ?_) AllReadyH.nil
        go_simp
        refine (bind_o HO.out x.v x.l HX.out.2.2.2.2 x.n (by omega)).mono ?_
        rintro E w3 ⟨rfl, ho, hc⟩
        have hS : w3.rangeAt b (off + k * 20) (listO x) := by
          obtain ⟨S, ha, hS⟩ := hc
          exact range_away ha (fun hm => by have h1 := hS b hm; rw [HBO.out] at h1; omega) hHeld
        replace HU := Lib.hid (HU.out.keep hc (by decide))
        replace HO := Lib.hid ho
        clear ho hc hHeld
        go_wp2_with fail
        refine hK.out _ _ hS (fun hHeld => ?_)
        clear hK K
        try simp only [Act.put, List.setIfInBounds_toArray, List.set_cons_zero, List.set_cons_succ]
        clear hS
        clear hHeld
        refine wpAnyH_done (by kernel_rfl) ?_ _
        have HLT := Lib.hid (bind_last HWT.out x.v x.l x.n)
        go_wp2_with fail
        go_roundw
        case rel => exact ⟨k + 1, _, _, by go_num, by omega, HO.out, HU.out, by have := HLT.out; omega⟩
        case measure => simp [intOf]; omega
      · have e1 : (x.kd == 1) = false := by simpa using h1
        by_cases h4 : x.kd = 4
        · have e4 : (x.kd == 4) = true := by simpa using h4
          clear h4 h1
          go_wp2_with fail
          refine (close_o HO.out x.n).mono ?_
          rintro E w3 ⟨rfl, ho, hc⟩
          replace HU := Lib.hid (HU.out.keep hc (by decide))
          replace HO := Lib.hid ho
          clear ho hc c0 c2
          go_wp2_with fail
          go_roundw
          case rel => exact ⟨k + 1, _, _, by go_num, by omega, HO.out, HU.out, by rw [close_last]; omega⟩
          case measure => simp [intOf]; omega
        · have e4 : (x.kd == 4) = false := by simpa using h4
          clear h4 h1
          go_wp2_with fail
          go_roundw
          case rel => exact ⟨k + 1, o, t, by go_num, by omega, HO.out, HU.out, by omega⟩
          case measure => simp [intOf]; omega
    have j1 : decide (k < n) = false := by simp; omega
    clear hkn
    have HBT := Lib.hid hla
    clear hla
    go_wp2_with fail
    refine (KV.out o _ g t 2 HO.out (HU.out.row HR.out)).mono ?_
    rintro E w1 ⟨was, rfl, hli, haw⟩
    replace HO := Lib.hid (HO.out.give 2 haw)
    replace HU := Lib.hid (HU.out.give 2 haw)
    have HA := Lib.hid hli
    clear hli haw
    generalize give o wr 2 = o at *
    have HWF := Lib.hid HO.out.wf
    have HVL := Lib.hid (view_len HO.out.wf l HLB.out)
    go_wp2_with (refine wpList_load32 rfl _ rfl g6 rfl av al HAL.out.1 (HBX.out.on HU.out.1 (by simp)) ?_)
    refine (bind_o HO.out av al HAL.out p (by have := HBT.out; omega)).mono ?_
    rintro E w2 ⟨rfl, ho, hc⟩
    replace HU := Lib.hid (HU.out.keep hc (by decide))
    replace HA := Lib.hid (HA.out.keep hc (by decide))
    rcases bind_cases HWF.out av al p with ⟨e, he, hb⟩ | ⟨P, hb, hjP, hag⟩
    · rw [hb] at ho ⊢
      replace HO := Lib.hid ho
      clear ho hc hb
      have e0 : (e != 0) = true := by simpa using he
      go_wp2_with fail
      refine (KV.out _ _ g t 3 HO.out (HU.out.row HR.out)).mono ?_
      rintro E w3 ⟨now, rfl, hli, haw⟩
      replace HA := Lib.hid (HA.out.on haw)
      replace HU := Lib.hid (HU.out.on haw)
      have HB := Lib.hid hli.1
      clear hli haw
      go_wp2_with fail
      refine (same_yes HB.out HA.out.1 HVL.out).mono ?_
      rintro E w4 ⟨rfl, haw⟩
      replace HU := Lib.hid (HU.out.on haw)
      clear haw
      go_wp2_with fail
      go_ret
      exact ⟨rfl, (HW.out.trans HU.out.1).to_below⟩
    rw [hb] at ho ⊢
    replace HO := Lib.hid ho
    have HAG := Lib.hid hag
    have HJP := Lib.hid hjP
    clear ho hc hb hag hjP
    generalize give o w1 1 = o at *
    go_wp2_with fail
    refine (at_o HO.out (t.last + 1)).mono ?_
    rintro E w3 ⟨rfl, haw⟩
    replace HO := Lib.hid (HO.out.on haw)
    replace HU := Lib.hid (HU.out.on haw)
    replace HA := Lib.hid (HA.out.on haw)
    rw [plus_at HWF.out]
    clear haw
    go_wp2_with (refine wpList_alloc32 rfl rfl ?_; refine Hid.out ?_)
    refine Lib.hid ?_
    intro g15 w4 hg15 hr15 haw
    have HR15 := Lib.hid hr15
    have hs3 := HU.out.1.size
    have HNE : Hid (∀ b, b < w3.heap.size → b ≠ g15) := fun b hb => by omega
    have HLT := Lib.hid HO.out.lt
    replace HO := Lib.hid (HO.out.give 7 haw)
    replace HU := Lib.hid (HU.out.give 7 haw)
    replace HA := Lib.hid (HA.out.give 7 haw)
    have HO7 : Hid (give o w3 7 g15 = 7) := give_new hg15
    generalize give o w3 7 = o at *
    clear hr15 haw hg15
    go_wp2_with (refine wpList_store32 rfl _ _ rfl g15 rfl av al HAL.out.1 rfl _ HR15.out ?_; refine Hid.out ?_)
    refine Lib.hid ?_
    intro w5 hr5 haw
    have hc : Chg o 7 w4 w5 := Chg.of haw (fun s hs => by simp at hs; subst hs; exact HO7.out)
    replace HR15 := Lib.hid hr5
    replace HO := Lib.hid (HO.out.kp hc (by decide))
    replace HU := Lib.hid (HU.out.kp hc (by decide))
    replace HA := Lib.hid (HA.out.kp hc (by decide))
    clear hr5 haw hc HO7 HNE
    have hqe := fun w => eq32 av av al al HAL.out.1 HAL.out.1 w
    have hqb : (decide (av = av) && eqL al al) = true := by simp [eqL]
    rw [hqb] at hqe
    have hgd := guard24
    clear hqb
    go_wp2_with (first
      | (refine wpList_loadR rfl _ rfl g15 rfl _ HR15.out ?_)
      | (refine wpList_load32 rfl _ rfl g6 rfl av al HAL.out.1 (HBX.out.on HU.out.1 (by simp)) ?_))
    refine (find_o HO.out av al HAL.out.1 P).mono ?_
    rintro E w6 ⟨rfl, haw⟩
    replace HO := Lib.hid (HO.out.on haw)
    replace HU := Lib.hid (HU.out.on haw)
    replace HA := Lib.hid (HA.out.on haw)
    rw [plus_find HWF.out av al P HJP.out]
    clear haw hqe
    go_wp2_with fail
    refine (close_o HO.out (t.last + 1)).mono ?_
    rintro E w7 ⟨rfl, ho, hc⟩
    rw [plus_close HWF.out] at ho ⊢
    replace HU := Lib.hid (HU.out.keep hc (by decide))
    replace HA := Lib.hid (HA.out.keep hc (by decide))
    replace HO := Lib.hid ho
    clear ho hc
    generalize give o w6 1 = o at *
    go_wp2_with fail
    refine (KV.out _ _ g _ 3 HO.out (HU.out.row HR.out)).mono ?_
    rintro E w8 ⟨now, rfl, hli, haw⟩
    replace HO := Lib.hid (HO.out.on haw)
    replace HU := Lib.hid (HU.out.on haw)
    replace HA := Lib.hid (HA.out.on haw)
    have HB := Lib.hid hli.1
    clear hli haw
    go_wp2_with fail
    refine (same_yes HB.out HA.out.1 HVL.out).mono ?_
    rintro E w9 ⟨rfl, haw⟩
    replace HO := Lib.hid (HO.out.on haw)
    replace HU := Lib.hid (HU.out.on haw)
    clear haw HB HA
    go_wp2_with fail
    refine (at_o HO.out (t.last + 1)).mono ?_
    rintro E w10 ⟨rfl, haw⟩
    replace HO := Lib.hid (HO.out.on haw)
    replace HU := Lib.hid (HU.out.on haw)
    rw [gone_at HWF.out]
    clear haw
    go_wp2_with (refine wpList_load32 rfl _ rfl g6 rfl av al HAL.out.1 (HBX.out.on HU.out.1 (by simp)) ?_)
    refine (bind_o HO.out av al HAL.out p (by have := HBT.out; show t.last + 1 < _; omega)).mono ?_
    rintro E w11 ⟨rfl, ho, hc⟩
    rw [HAG.out] at ho ⊢
    replace HU := Lib.hid (HU.out.keep hc (by decide))
    replace HO := Lib.hid ho
    clear ho hc
    go_wp2_with fail
    refine (close_o HO.out (t.last + 1)).mono ?_
    rintro E w12 ⟨rfl, ho, hc⟩
    rw [gone_close HWF.out]
    replace HU := Lib.hid (HU.out.keep hc (by decide))
    clear ho hc
    have e9 : decide (t.last + 1 < t.last + 1 + 1) = true := by simp; omega
    go_wp2_with fail
    go_ret
    refine ⟨?_, (HW.out.trans HU.out.1).to_below⟩
    try rfl
namespace portsClose
theorem lifted (os : Os) (started : os.Started) (H : Type) (enc : TypeId × Value → H) :
    ReturnsInHanded {} Try.checked os 5 .any (Rows.portsCloseSpec.pre6 enc Try.prog Try.f5 Rows.portsCloseRow.domain false) (Rows.portsCloseSpec.post enc Try.prog Try.f5 false true false false) := by
  refine returnsInHanded_of_change_sized (C := Try.checked) ownKn started (by kernel_rfl) Try.func5
    (ChangeSpec.witness6 (enc := enc) (C := Try.checked) false ⟨#[], #[.int .i64 0, .slice none 0 0, .agg (csA 0 z16), .int .i64 0], []⟩ 8 (by kernel_rfl) (by kernel_rfl) (by kernel_rfl) (by kernel_rfl)) ?_
  intro W base args ds gs before hval0 hW _ hsz0 _
  have hsz : (DataW.weightsEach Try.prog (Try.f5.params.toList ++ Rows.portsCloseSpec.plain.varTypes Try.prog) (ds ++ gs)).all (· ≤ reachBytes) = true := hsz0
  clear hsz0
  have hval : ∀ (j : Nat) t v, Try.f5.params[j]? = some t → args[j]? = some v → Value.okWide Try.prog W .any base t v := hval0
  have hW' := hW
  obtain ⟨p, q, hA0, hV, rfl, hfz, hnd⟩ := hW
  have hA : DataW.TrodAll enc Try.prog W 0 (fun _ => true) true Try.f5.params.toList args.toList ds p := hA0
  rw [Try.params5] at hA hval hsz
  obtain ⟨v0, vs0, d0, ds0, p0, q0, hargs, rfl, rfl, h0, r0⟩ := trodAll_cons hA
  obtain ⟨v1, vs1, d1, ds1, p1, q1, rfl, rfl, rfl, h1, r1⟩ := trodAll_cons r0
  obtain ⟨v2, vs2, d2, ds2, p2, q2, rfl, rfl, rfl, h2, r2⟩ := trodAll_cons r1
  obtain ⟨v3, vs3, d3, ds3, p3, q3, rfl, rfl, rfl, h3, r3⟩ := trodAll_cons r2
  obtain ⟨rfl, rfl, rfl⟩ := trodAll_nil r3
  obtain rfl : args = #[v0, v1, v2, v3] := by cases args; simp_all
  have hV2 : DataW.TrodVars enc Try.prog W (fun _ => true) Rows.portsCloseSpec.vars gs q := hV
  obtain ⟨rfl, rfl⟩ := trodVars_none hV2
  obtain ⟨a0, rfl, rfl, rfl, w0⟩ := open_int Try.underlying3 (hval 0 3 v0 rfl rfl) h0
  have k1 := h1
  have lt1 : ∀ x ∈ p1, x.block < W.heap.size := by obtain ⟨m, hm⟩ := k1; exact DataW.trod_lt m _ _ _ hm
  have z1 : ∀ m ∈ d1.weights Try.prog 22, m ≤ reachBytes := fun m hm => by
    have := List.all_eq_true.1 hsz m (DataW.weights_mem_each (j := 1) (t := 22) rfl rfl m hm)
    simpa using this
  obtain ⟨a1, len1, cap1, rfl⟩ := okWide_slice Try.underlying22 (hval 1 22 v1 rfl rfl)
  obtain ⟨l1, rfl, w1, b1⟩ := open_script h1 z1 lt1
  have k2 := h2
  have lt2 : ∀ x ∈ p2, x.block < W.heap.size := by obtain ⟨m, hm⟩ := k2; exact DataW.trod_lt m _ _ _ hm
  have z2 : ∀ m ∈ d2.weights Try.prog 32, m ≤ reachBytes := fun m hm => by
    have := List.all_eq_true.1 hsz m (DataW.weights_mem_each (j := 2) (t := 32) rfl rfl m hm)
    simpa using this
  obtain ⟨x2, l2, rfl, b2, w2⟩ := open_addr (hval 2 32 v2 rfl rfl) h2
  obtain ⟨a3, rfl, rfl, rfl, w3⟩ := open_int Try.underlying3 (hval 3 3 v3 rfl rfl) h3
  clear hA0 hval0
  refine (walk a0 a1 l1 cap1 x2 l2 a3 W w1 b1 b2).mono fun e W' ⟨he, bel⟩ => ?_
  subst he
  exact ⟨_, rfl, _, _, _, [], _, [], hW', trodAll_mk1 (shut_bool Try.underlying4 _), (trodAll_cons_mk (shut_int Try.underlying3 w0) (trodAll_cons_mk (Below.trod laidOut (by kernel_rfl) (of_decide_eq_true (by kernel_rfl)) k1 bel lt1) (trodAll_cons_mk (Below.trod laidOut (by kernel_rfl) (of_decide_eq_true (by kernel_rfl)) k2 bel lt2) (trodAll_cons_mk (shut_int Try.underlying3 w3) trodAll_mk0)))), rfl, bel.frame _, fun h => by cases h⟩
theorem over : Rows.portsCloseRow.holds Try.pinned (OpenSpec.ofChange Rows.portsCloseSpec) :=
  OpenClaim.holds_of_wide 5 Try.f5 rfl rfl rfl rfl rfl rfl rfl ⟨rfl, rfl, rfl, rfl, rfl⟩ rfl rfl rfl rfl rfl (by kernel_rfl) Try.func5 (by kernel_rfl)
    (of_decide_eq_true (by kernel_rfl)) (by unfold Func.isWrapper; first | (rw [if_pos (by decide +kernel)]; kernel_rfl) | (rw [if_neg (by decide +kernel)]; exact ⟨rfl, rfl⟩))
    (fun os started H enc _ => lifted os started H enc)
end portsClose
theorem portsClose_holds : Rows.PortsCloseSaid := portsClose.over
#print axioms portsClose_holds
end Go.Proofs.Ytemdgggpfadecaa
