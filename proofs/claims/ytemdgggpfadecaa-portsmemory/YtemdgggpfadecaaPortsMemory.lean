/-
  PortsMemory.
-/
import Derived.Test.YtemdgggpfadecaaLis
namespace Go.Proofs.Ytemdgggpfadecaa
open Go.ChangeShapes Go.WideShapes Go.ChangeAt Go.RowKit
set_option linter.unusedVariables false
set_option linter.unusedSimpArgs false
set_option maxRecDepth 100000

set_option maxHeartbeats 16000000 in
theorem walk (sz : Int) (sa : Option Addr) (l : List Opr) (cap : Nat) (W : World) (hr : RowO W sa l) (hl : l.length ≤ 2932031007402) :
    Calls Try.prog 3 #[.int .i64 sz, .slice sa l.length cap] W fun E w' => E = .returned (.bool true) ∧ Below W.heap.size W w' := by
  have HR := Lib.hid hr
  obtain ⟨n, hn⟩ : ∃ n, n = l.length := ⟨_, rfl⟩
  rw [← hn] at hl ⊢
  have HN := Lib.hid hn
  clear hn hr
  go_enter Try.func3, Try.ntmps3
  go_wp2_with fail
  refine (alive_c _).mono ?_
  rintro E w0 ⟨rfl, haw⟩
  have HU0 := Lib.hid ((Out.start W).on haw)
  clear haw
  obtain ⟨hm0, hm1⟩ := and31 sz
  go_wp2_with fail
  obtain ⟨mo, hmo⟩ : ∃ z, z = 1 + bits .and .i64 sz 31 := ⟨_, rfl⟩
  rw [← hmo]
  have hmo0 : 1 ≤ mo := by omega
  have hmo1 : mo ≤ 32 := by omega
  clear hmo hm0 hm1
  refine (new_o (fun _ => 0) 1 mo w0 hmo0 hmo1).mono ?_
  rintro E w1 ⟨g, rfl, ho, hc⟩
  have HO := Lib.hid ho
  have HU := Lib.hid (HU0.out.keep hc (by decide))
  clear ho hc HU0
  go_wp2_with fail
  refine (four_c 1 _).mono ?_
  rintro E w2 ⟨rfl, haw⟩
  replace HO := Lib.hid (HO.out.on haw)
  replace HU := Lib.hid (HU.out.on haw)
  clear haw
  go_wp2_with fail
  refine (bind_o HO.out 4 a1 a1_byt 0 (by show (0 : Int) < _; omega)).mono ?_
  rintro E w3 ⟨rfl, ho, hc⟩
  have HLA := Lib.hid (bind_last HO.out.wf 4 a1 0)
  replace HU := Lib.hid (HU.out.keep hc (by decide))
  replace HO := Lib.hid ho
  clear ho hc
  go_wp2_with fail
  go_loopw [7] (fun i wr => ∃ (k : Nat) (o : Nat → Nat) (t : Tb), i = .int .i64 (k : Int) ∧ k ≤ n ∧ KB.Ow o 1 wr g t ∧ Out o W wr ∧ t.last ≤ (k : Int) + 1) (fun i _ => n - (intOf i).toNat)
  case atStart => exact ⟨0, _, _, rfl, Nat.zero_le _, HO.out, HU.out, by have := HLA.out; omega⟩
  case round =>
    clear HO HU HLA
    obtain ⟨k, o, t, rfl, hk, ho, hu, hla⟩ := hrel
    have HO := Lib.hid ho
    have HU := Lib.hid hu
    clear ho hu
    by_cases hkn : k < n
    · have j1 : decide (k < n) = true := by simp; omega
      have j0 : (k : Int) < (n : Int) := by omega
      have j2 : 0 ≤ (k : Int) := by omega
      have j3 : ((k : Int)).toNat = k := by omega
      obtain ⟨x, hx, -⟩ := get_of (show k < l.length by rw [← HN.out]; omega)
      obtain ⟨b, off, hb, hbl, hrg, hox⟩ := HR.out.at hx
      subst hb
      have HX := Lib.hid hox
      have HWT := Lib.hid HO.out.wf
      have HBO : Hid (o b = 0) := HU.out.2 b hbl
      have HRG := Lib.hid (range_away HU.out.1 (by simp) hrg)
      clear hrg hox hx hkn hbl
      obtain ⟨c0, -, c2, -⟩ := rangeO HRG.out
      by_cases h1 : x.kd = 1
      · have e1 : (x.kd == 1) = true := by simpa using h1
        clear h1 c2
        go_wp2_with fail
        clear c0
        refine wp_region_held_drew (S := (fun w' => w'.rangeAt b (off + k * 20) (listO x))) (by kernel_rfl) (by exact HRG.out) (fun hHeld => ?_)
        have haw := (Away.refl [] wr).drew
        replace HO := Lib.hid (HO.out.on haw)
        replace HU := Lib.hid (HU.out.on haw)
        clear haw HRG
        refine wpAnyH_take (i := 0) (v := ?_) (by simp only [List.getElem?_toArray, List.getElem?_cons_zero]; rfl) (by kernel_rfl) (by kernel_rfl) (by kernel_rfl) (by exact fun _ _ _ h => h) (Or.inl ⟨by rfl, ?_⟩) (by assumption) ?_
        rotate_left
        · intro wq hSw
          (try dsimp only at hSw)
          go_simp
          all_goals (with_reducible rfl)
        try simp only [Act.put, List.setIfInBounds_toArray, List.set_cons_zero, List.set_cons_succ]
        refine wpAnyH_take (i := 1) (v := ?_) (by simp only [List.getElem?_toArray, List.getElem?_cons_succ, List.getElem?_cons_zero]; rfl) (by kernel_rfl) (by kernel_rfl) (by kernel_rfl) (by exact fun _ _ _ h => h) (Or.inl ⟨by rfl, ?_⟩) (by assumption) ?_
        rotate_left
        · intro wq hSw
          (try dsimp only at hSw)
          go_simp
          all_goals (with_reducible rfl)
        try simp only [Act.put, List.setIfInBounds_toArray, List.set_cons_zero, List.set_cons_succ]
        refine wpAnyH_take (i := 2) (v := ?_) (by simp only [List.getElem?_toArray, List.getElem?_cons_succ, List.getElem?_cons_zero]; rfl) (by kernel_rfl) (by kernel_rfl) (by kernel_rfl) (by exact fun _ _ _ h => h) (Or.inl ⟨by rfl, ?_⟩) (by assumption) ?_
        rotate_left
        · intro wq hSw
          (try dsimp only at hSw)
          go_simp
          all_goals (with_reducible rfl)
        try simp only [Act.put, List.setIfInBounds_toArray, List.set_cons_zero, List.set_cons_succ]
        refine wpAnyH_take (i := 3) (by simp only [List.getElem?_toArray, List.getElem?_cons_succ, List.getElem?_cons_zero]; rfl) (by kernel_rfl) (by kernel_rfl) (by kernel_rfl) (by exact fun _ _ _ h => h) (yields_ixO (by rfl) _ _ rfl b off n cap k rfl rfl (by omega)) (by assumption) ?_
        try simp only [Act.put, List.setIfInBounds_toArray, List.set_cons_zero, List.set_cons_succ]
        refine wpAnyH_take (i := 4) (v := ?_) (by simp only [List.getElem?_toArray, List.getElem?_cons_succ, List.getElem?_cons_zero]; rfl) (by kernel_rfl) (by kernel_rfl) (by kernel_rfl) (by exact fun _ _ _ h => h) (Or.inl ⟨by rfl, ?_⟩) (by assumption) ?_
        rotate_left
        · intro wq hSw
          (try dsimp only at hSw)
          go_simp
          all_goals (with_reducible rfl)
        try simp only [Act.put, List.setIfInBounds_toArray, List.set_cons_zero, List.set_cons_succ]
        refine wpAnyH_take (i := 5) (by simp only [List.getElem?_toArray, List.getElem?_cons_succ, List.getElem?_cons_zero]; rfl) (by kernel_rfl) (by kernel_rfl) (by kernel_rfl) (by exact fun _ _ _ h => h) (yields_ld (ad := ⟨b, off + k * 20 + 3, none⟩) (by rfl) _ rfl rfl (fun w' h => load32m_run (rangeO h).2.2.2 HX.out.2.2.2.2.1)) (by assumption) ?_
        try simp only [Act.put, List.setIfInBounds_toArray, List.set_cons_zero, List.set_cons_succ]
        refine wpAnyH_take (i := 6) (v := ?_) (by simp only [List.getElem?_toArray, List.getElem?_cons_succ, List.getElem?_cons_zero]; rfl) (by kernel_rfl) (by kernel_rfl) (by kernel_rfl) (by exact fun _ _ _ h => h) (Or.inl ⟨by rfl, ?_⟩) (by assumption) ?_
        rotate_left
        · intro wq hSw
          (try dsimp only at hSw)
          go_simp
          all_goals (with_reducible rfl)
        try simp only [Act.put, List.setIfInBounds_toArray, List.set_cons_zero, List.set_cons_succ]
        refine wpAnyH_take (i := 7) (v := ?_) (by simp only [List.getElem?_toArray, List.getElem?_cons_succ, List.getElem?_cons_zero]; rfl) (by kernel_rfl) (by kernel_rfl) (by kernel_rfl) (by exact fun _ _ _ h => h) (Or.inl ⟨by rfl, ?_⟩) (by assumption) ?_
        rotate_left
        · intro wq hSw
          (try dsimp only at hSw)
          go_simp
          all_goals (with_reducible rfl)
        try simp only [Act.put, List.setIfInBounds_toArray, List.set_cons_zero, List.set_cons_succ]
        refine wpAnyH_take (i := 8) (by simp only [List.getElem?_toArray, List.getElem?_cons_succ, List.getElem?_cons_zero]; rfl) (by kernel_rfl) (by kernel_rfl) (by kernel_rfl) (by exact fun _ _ _ h => h) (yields_ixO (by rfl) _ _ rfl b off n cap k rfl rfl (by omega)) (by assumption) ?_
        try simp only [Act.put, List.setIfInBounds_toArray, List.set_cons_zero, List.set_cons_succ]
        refine wpAnyH_take (i := 9) (v := ?_) (by simp only [List.getElem?_toArray, List.getElem?_cons_succ, List.getElem?_cons_zero]; rfl) (by kernel_rfl) (by kernel_rfl) (by kernel_rfl) (by exact fun _ _ _ h => h) (Or.inl ⟨by rfl, ?_⟩) (by assumption) ?_
        rotate_left
        · intro wq hSw
          (try dsimp only at hSw)
          go_simp
          all_goals (with_reducible rfl)
        try simp only [Act.put, List.setIfInBounds_toArray, List.set_cons_zero, List.set_cons_succ]
        refine wpAnyH_take (i := 10) (by simp only [List.getElem?_toArray, List.getElem?_cons_succ, List.getElem?_cons_zero]; rfl) (by kernel_rfl) (by kernel_rfl) (by kernel_rfl) (by exact fun _ _ _ h => h) (yields_ld (ad := ⟨b, off + k * 20 + 2, none⟩) (by rfl) _ rfl rfl (fun w' h => ld3 (rangeO h).2.2.1)) (by assumption) ?_
        try simp only [Act.put, List.setIfInBounds_toArray, List.set_cons_zero, List.set_cons_succ]
        refine wpAnyH_ready (rs := [11]) (by kernel_rfl) (by simp) ?_
        refine AllReadyH.cons (by simp only [List.getElem?_toArray, List.getElem?_cons_succ, List.getElem?_cons_zero]; rfl) (fun K hK => ?_) AllReadyH.nil
        go_simp
        refine (bind_o HO.out x.v x.l HX.out.2.2.2.2 x.n (by omega)).mono ?_
        rintro E w3 ⟨rfl, ho, hc⟩
        have hS : w3.rangeAt b (off + k * 20) (listO x) := by
          obtain ⟨S, ha, hS⟩ := hc
          exact range_away ha (fun hm => by have h1 := hS b hm; rw [HBO.out] at h1; omega) hHeld
        replace HU := Lib.hid (HU.out.keep hc (by decide))
        replace HO := Lib.hid ho
        clear ho hc hHeld
        go_wp2_with fail
        refine hK.out _ _ hS (fun hHeld => ?_)
        clear hK K
        try simp only [Act.put, List.setIfInBounds_toArray, List.set_cons_zero, List.set_cons_succ]
        clear hS
        clear hHeld
        refine wpAnyH_done (by kernel_rfl) ?_ _
        have HLT := Lib.hid (bind_last HWT.out x.v x.l x.n)
        go_wp2_with fail
        go_roundw
        case rel => exact ⟨k + 1, _, _, by go_num, by omega, HO.out, HU.out, by have := HLT.out; omega⟩
        case measure => simp [intOf]; omega
      · have e1 : (x.kd == 1) = false := by simpa using h1
        by_cases h4 : x.kd = 4
        · have e4 : (x.kd == 4) = true := by simpa using h4
          clear h4 h1
          go_wp2_with fail
          refine (close_o HO.out x.n).mono ?_
          rintro E w3 ⟨rfl, ho, hc⟩
          replace HU := Lib.hid (HU.out.keep hc (by decide))
          replace HO := Lib.hid ho
          clear ho hc c0 c2
          go_wp2_with fail
          go_roundw
          case rel => exact ⟨k + 1, _, _, by go_num, by omega, HO.out, HU.out, by rw [close_last]; omega⟩
          case measure => simp [intOf]; omega
        · have e4 : (x.kd == 4) = false := by simpa using h4
          clear h4 h1
          go_wp2_with fail
          go_roundw
          case rel => exact ⟨k + 1, o, t, by go_num, by omega, HO.out, HU.out, by omega⟩
          case measure => simp [intOf]; omega
    have j1 : decide (k < n) = false := by simp; omega
    clear hkn
    go_wp2_with fail
    refine (all_o HO.out 2).mono ?_
    rintro E w1 ⟨a, rfl, hli, haw⟩
    replace HO := Lib.hid (HO.out.give 2 haw)
    replace HU := Lib.hid (HU.out.give 2 haw)
    have HA := Lib.hid hli
    clear hli haw
    generalize give o wr 2 = o1 at *
    go_wp2_with fail
    refine (all_o HO.out 3).mono ?_
    rintro E w2 ⟨b, rfl, hli, haw⟩
    replace HO := Lib.hid (HO.out.give 3 haw)
    replace HU := Lib.hid (HU.out.give 3 haw)
    replace HA := Lib.hid (HA.out.give 3 haw)
    have HB := Lib.hid hli
    clear hli haw
    generalize give o1 w1 3 = o2 at *
    obtain ⟨L, hL⟩ : ∃ L, L = t.bs.map (·.n) := ⟨_, rfl⟩
    have HLL := Lib.hid hL
    rw [← hL] at HA HB
    have hlm : L.length ≤ 32 := by rw [hL, List.length_map]; exact HO.out.wf.le
    clear hL
    go_wp2_with fail
    refine (same_yes HA.out.1 HB.out.1 (by omega)).mono ?_
    rintro E w3 ⟨rfl, haw⟩
    replace HO := Lib.hid (HO.out.on haw)
    replace HU := Lib.hid (HU.out.on haw)
    replace HA := Lib.hid (HA.out.on haw)
    replace HB := Lib.hid (HB.out.on haw)
    clear haw
    go_wp2_with (at_builtin; refine wpList_appNil rfl _ _ rfl rfl b L rfl HB.out.1 (by omega) ?_; refine Hid.out ?_)
    refine Lib.hid ?_
    intro kp w4 hkl haw hnw
    have HK := Lib.hid (Li.new (o := o2) (w := w3) 4 hkl hnw)
    replace HO := Lib.hid (HO.out.give 4 haw)
    replace HU := Lib.hid (HU.out.give 4 haw)
    replace HA := Lib.hid (HA.out.give 4 haw)
    replace HB := Lib.hid (HB.out.give 4 haw)
    clear hkl haw hnw
    generalize give o2 w3 4 = o at *
    obtain ⟨m, hm⟩ : ∃ m, m = L.length := ⟨_, rfl⟩
    have HM := Lib.hid hm
    obtain ⟨aa, ac, rfl, -, -⟩ := HA.out.1.sl
    obtain ⟨ba, bc, rfl, -, -⟩ := HB.out.1.sl
    rw [← hm] at HA HB hlm ⊢
    clear hm
    go_wp2_with fail
    go_loopw [11] (fun i wr => ∃ k : Nat, i = .int .i64 (k : Int) ∧ k ≤ m ∧ Li o 2 wr (.slice aa m ac) (List.replicate k (-1) ++ L.drop k) ∧ KB.Ow o 1 wr g t ∧ Li o 3 wr (.slice ba m bc) L ∧ Li o 4 wr kp L ∧ Out o W wr) (fun i _ => m - (intOf i).toNat)
    case atStart => exact ⟨0, rfl, Nat.zero_le _, HA.out, HO.out, HB.out, HK.out, HU.out⟩
    case round =>
      clear HA HO HB HK HU
      obtain ⟨k, rfl, hk, h0, h_HO, h_HB, h_HK, h_HU⟩ := hrel
      have HA := Lib.hid h0
      have HO := Lib.hid h_HO
      have HB := Lib.hid h_HB
      have HK := Lib.hid h_HK
      have HU := Lib.hid h_HU
      clear h0 h_HO h_HB h_HK h_HU
      by_cases hkn : k < m
      · have j1 : decide (k < m) = true := by simp; omega
        have j0 : (k : Int) < (m : Int) := by omega
        have j2 : 0 ≤ (k : Int) := by omega
        have j3 : ((k : Int)).toNat = k := by omega
        have hlen : (List.replicate k (-1) ++ L.drop k).length = m := by rw [List.length_append, List.length_replicate, List.length_drop, ← HM.out]; omega
        obtain ⟨y, hy, -⟩ := get_of (show k < (List.replicate k (-1) ++ L.drop k).length by omega)
        obtain ⟨va, vc, hv, -, hcl⟩ := HA.out.1.sl
        rw [hlen] at hv
        simp only [Value.slice.injEq] at hv
        obtain ⟨rfl, -, rfl⟩ := hv
        obtain ⟨gv, rfl, hcell⟩ := hcl k y hy
        have f0 := HA.out.1.free k
        clear hcl hy
        go_wp2_with fail
        have hc : Chg o 2 wr (wr.setCell ⟨gv, k, none⟩ (.int .i64 (-1))) := Chg.of ((Away.refl [gv] wr).setCell (p := ⟨gv, k, none⟩) (.inl (by simp)) _) (fun s hs => by simp at hs; subst hs; exact HA.out.2 s rfl)
        have hput := HA.out.1.put (i := k) (x := -1) hlen.symm (by omega)
        rw [fill_set (by rw [← HM.out]; omega)] at hput
        have HA2 := Lib.hid (show Li o 2 _ _ _ from ⟨hput, HA.out.2⟩)
        replace HO := Lib.hid (HO.out.kp hc (by decide))
        replace HB := Lib.hid (HB.out.kp hc (by decide))
        replace HK := Lib.hid (HK.out.kp hc (by decide))
        replace HU := Lib.hid (HU.out.kp hc (by decide))
        clear hc hput hcell f0
        go_wp2_with fail
        go_roundw
        case rel => exact ⟨k + 1, by go_num, by omega, HA2.out, HO.out, HB.out, HK.out, HU.out⟩
        case measure => simp [intOf]; omega
      have j1 : decide (k < m) = false := by simp; omega
      have hkm : m = k := by omega
      subst hkm
      rw [List.drop_of_length_le (by rw [← HM.out]; omega), List.append_nil] at HA
      clear hkn
      go_wp2_with fail
      have HP := Lib.hid HA.out.pr
      clear HA
      go_loopw [12, 13] (fun cc i wr => ∃ (k : Nat) (o : Nat → Nat), i = .int .i64 (k : Int) ∧ k ≤ 80 ∧ Pr o 2 wr (.slice aa m ac) (List.replicate m (-1)) cc (List.replicate k (-2)) ∧ KB.Ow o 1 wr g t ∧ Li o 3 wr (.slice ba m bc) L ∧ Li o 4 wr kp L ∧ Out o W wr) (fun _ i _ => 80 - (intOf i).toNat)
      case atStart => exact ⟨0, _, rfl, Nat.zero_le _, HP.out, HO.out, HB.out, HK.out, HU.out⟩
      case round =>
        clear HP HO HB HK HU
        obtain ⟨k, o, rfl, hk, h0, h_HO, h_HB, h_HK, h_HU⟩ := hrel
        have HP := Lib.hid h0
        have HO := Lib.hid h_HO
        have HB := Lib.hid h_HB
        have HK := Lib.hid h_HK
        have HU := Lib.hid h_HU
        clear h0 h_HO h_HB h_HK h_HU
        by_cases hkn : k < 80
        · have j1 : decide ((k : Int) < 80) = true := by simp; omega
          have hac := (Away.refl [] wr).alloc (.cells #[.int .i64 (-2)] 3)
          replace HP := Lib.hid (HP.out.on hac)
          replace HO := Lib.hid (HO.out.on hac)
          replace HB := Lib.hid (HB.out.on hac)
          replace HK := Lib.hid (HK.out.on hac)
          replace HU := Lib.hid (HU.out.on hac)
          have HNC : Hid (∀ (j : Nat) (x : Int), [(-2 : Int)][j]? = some x → (wr.alloc (.cells #[.int .i64 (-2)] 3)).cell? ((⟨wr.heap.size, 0, none⟩ : Addr).add j) = some (.int .i64 x)) := fun j x hj => by
            rw [new_cells]
            rcases j with _ | j
            · simp at hj; simp [hj]
            · simp at hj
          have hlen : (List.replicate m (-1) ++ List.replicate k (-2)).length + 1 ≤ 17592186044416 := by simp; omega
          clear hac
          go_wp2_with (at_builtin; refine wpList_appI2 rfl _ _ rfl u12 _ rfl (by exact HP.out.lc) ⟨wr.heap.size, 0, none⟩ 1 1 rfl [-2] rfl (by exact HNC.out) hlen ?_; refine Hid.out ?_)
          refine Lib.hid ?_
          intro v' w4 hl2 hd
          rw [← List.append_assoc] at hl2
          obtain ⟨hp, hc⟩ := HP.out.app hl2 (hd.imp id (fun h => ⟨h.1, by simpa using h.2⟩))
          rw [← List.replicate_succ'] at hp
          replace HP := Lib.hid hp
          replace HO := Lib.hid (HO.out.keep hc (by decide))
          replace HB := Lib.hid (HB.out.keep hc (by decide))
          replace HK := Lib.hid (HK.out.keep hc (by decide))
          replace HU := Lib.hid (HU.out.keep hc (by decide))
          clear hp hc hl2 hd HNC
          go_wp2_with fail
          go_roundw
          case rel => exact ⟨k + 1, _, by go_num, by omega, HP.out, HO.out, HB.out, HK.out, HU.out⟩
          case measure => simp [intOf]; omega
        have j1 : decide ((k : Int) < 80) = false := by simp; omega
        have hkm : k = 80 := by omega
        subst hkm
        clear hkn
        generalize u12 = c at *
        go_wp2_with fail
        refine (all_o HO.out 5).mono ?_
        rintro E w5 ⟨d, rfl, hli, haw⟩
        have HD := Lib.hid hli
        rw [← HLL.out] at HD
        have HPK := Lib.hid (HP.out.keep (Chg.on 5 haw) (by decide))
        clear HP
        have HP := HPK
        clear HPK
        replace HO := Lib.hid (HO.out.give 5 haw)
        replace HU := Lib.hid (HU.out.give 5 haw)
        replace HB := Lib.hid (HB.out.give 5 haw)
        replace HK := Lib.hid (HK.out.give 5 haw)
        clear hli haw
        generalize give o wr 5 = o at *
        go_wp2_with fail
        go_loopw [15] (fun i wr => ∃ k : Nat, i = .int .i64 (k : Int) ∧ k ≤ m ∧ Li o 3 wr (.slice ba m bc) (List.replicate k (-3) ++ L.drop k) ∧ KB.Ow o 1 wr g t ∧ Li o 4 wr kp L ∧ Li o 5 wr d L ∧ Pr o 2 wr (.slice aa m ac) (List.replicate m (-1)) c (List.replicate 80 (-2)) ∧ Out o W wr) (fun i _ => m - (intOf i).toNat)
        case atStart => exact ⟨0, rfl, Nat.zero_le _, HB.out, HO.out, HK.out, HD.out, HP.out, HU.out⟩
        case round =>
          clear HB HO HK HD HP HU
          obtain ⟨k, rfl, hk, h0, h_HO, h_HK, h_HD, h_HP, h_HU⟩ := hrel
          have HB := Lib.hid h0
          have HO := Lib.hid h_HO
          have HK := Lib.hid h_HK
          have HD := Lib.hid h_HD
          have HP := Lib.hid h_HP
          have HU := Lib.hid h_HU
          clear h0 h_HO h_HK h_HD h_HP h_HU
          by_cases hkn : k < m
          · have j1 : decide (k < m) = true := by simp; omega
            have j0 : (k : Int) < (m : Int) := by omega
            have j2 : 0 ≤ (k : Int) := by omega
            have j3 : ((k : Int)).toNat = k := by omega
            have hlen : (List.replicate k (-3) ++ L.drop k).length = m := by rw [List.length_append, List.length_replicate, List.length_drop, ← HM.out]; omega
            obtain ⟨y, hy, -⟩ := get_of (show k < (List.replicate k (-3) ++ L.drop k).length by omega)
            obtain ⟨va, vc, hv, -, hcl⟩ := HB.out.1.sl
            rw [hlen] at hv
            simp only [Value.slice.injEq] at hv
            obtain ⟨rfl, -, rfl⟩ := hv
            obtain ⟨gv, rfl, hcell⟩ := hcl k y hy
            have f0 := HB.out.1.free k
            clear hcl hy
            go_wp2_with fail
            have hc : Chg o 3 wr (wr.setCell ⟨gv, k, none⟩ (.int .i64 (-3))) := Chg.of ((Away.refl [gv] wr).setCell (p := ⟨gv, k, none⟩) (.inl (by simp)) _) (fun s hs => by simp at hs; subst hs; exact HB.out.2 s rfl)
            have hput := HB.out.1.put (i := k) (x := -3) hlen.symm (by omega)
            rw [fill_set (by rw [← HM.out]; omega)] at hput
            have HB2 := Lib.hid (show Li o 3 _ _ _ from ⟨hput, HB.out.2⟩)
            replace HO := Lib.hid (HO.out.kp hc (by decide))
            replace HK := Lib.hid (HK.out.kp hc (by decide))
            replace HD := Lib.hid (HD.out.kp hc (by decide))
            replace HP := Lib.hid (HP.out.kp hc (by decide))
            replace HU := Lib.hid (HU.out.kp hc (by decide))
            clear hc hput hcell f0
            go_wp2_with fail
            go_roundw
            case rel => exact ⟨k + 1, by go_num, by omega, HB2.out, HO.out, HK.out, HD.out, HP.out, HU.out⟩
            case measure => simp [intOf]; omega
          have j1 : decide (k < m) = false := by simp; omega
          have hkm : m = k := by omega
          subst hkm
          rw [List.drop_of_length_le (by rw [← HM.out]; omega), List.append_nil] at HB
          clear hkn
          go_wp2_with fail
          have HQ := Lib.hid HB.out.pr
          clear HB
          go_loopw [16, 17] (fun cc i wr => ∃ (k : Nat) (o : Nat → Nat), i = .int .i64 (k : Int) ∧ k ≤ 80 ∧ Pr o 3 wr (.slice ba m bc) (List.replicate m (-3)) cc (List.replicate k (-4)) ∧ KB.Ow o 1 wr g t ∧ Li o 4 wr kp L ∧ Li o 5 wr d L ∧ Pr o 2 wr (.slice aa m ac) (List.replicate m (-1)) c (List.replicate 80 (-2)) ∧ Out o W wr) (fun _ i _ => 80 - (intOf i).toNat)
          case atStart => exact ⟨0, _, rfl, Nat.zero_le _, HQ.out, HO.out, HK.out, HD.out, HP.out, HU.out⟩
          case round =>
            clear HQ HO HK HD HP HU
            obtain ⟨k, o, rfl, hk, h0, h_HO, h_HK, h_HD, h_HP, h_HU⟩ := hrel
            have HQ := Lib.hid h0
            have HO := Lib.hid h_HO
            have HK := Lib.hid h_HK
            have HD := Lib.hid h_HD
            have HP := Lib.hid h_HP
            have HU := Lib.hid h_HU
            clear h0 h_HO h_HK h_HD h_HP h_HU
            by_cases hkn : k < 80
            · have j1 : decide ((k : Int) < 80) = true := by simp; omega
              have hac := (Away.refl [] wr).alloc (.cells #[.int .i64 (-4)] 3)
              replace HQ := Lib.hid (HQ.out.on hac)
              replace HO := Lib.hid (HO.out.on hac)
              replace HK := Lib.hid (HK.out.on hac)
              replace HD := Lib.hid (HD.out.on hac)
              replace HP := Lib.hid (HP.out.on hac)
              replace HU := Lib.hid (HU.out.on hac)
              have HNC : Hid (∀ (j : Nat) (x : Int), [(-4 : Int)][j]? = some x → (wr.alloc (.cells #[.int .i64 (-4)] 3)).cell? ((⟨wr.heap.size, 0, none⟩ : Addr).add j) = some (.int .i64 x)) := fun j x hj => by
                rw [new_cells]
                rcases j with _ | j
                · simp at hj; simp [hj]
                · simp at hj
              have hlen : (List.replicate m (-3) ++ List.replicate k (-4)).length + 1 ≤ 17592186044416 := by simp; omega
              clear hac
              go_wp2_with (at_builtin; refine wpList_appI2 rfl _ _ rfl u16 _ rfl (by exact HQ.out.lc) ⟨wr.heap.size, 0, none⟩ 1 1 rfl [-4] rfl (by exact HNC.out) hlen ?_; refine Hid.out ?_)
              refine Lib.hid ?_
              intro v' w4 hl2 hd
              rw [← List.append_assoc] at hl2
              obtain ⟨hp, hc⟩ := HQ.out.app hl2 (hd.imp id (fun h => ⟨h.1, by simpa using h.2⟩))
              rw [← List.replicate_succ'] at hp
              replace HQ := Lib.hid hp
              replace HO := Lib.hid (HO.out.keep hc (by decide))
              replace HK := Lib.hid (HK.out.keep hc (by decide))
              replace HD := Lib.hid (HD.out.keep hc (by decide))
              replace HP := Lib.hid (HP.out.keep hc (by decide))
              replace HU := Lib.hid (HU.out.keep hc (by decide))
              clear hp hc hl2 hd HNC
              go_wp2_with fail
              go_roundw
              case rel => exact ⟨k + 1, _, by go_num, by omega, HQ.out, HO.out, HK.out, HD.out, HP.out, HU.out⟩
              case measure => simp [intOf]; omega
            have j1 : decide ((k : Int) < 80) = false := by simp; omega
            have hkm : k = 80 := by omega
            subst hkm
            clear hkn
            generalize u16 = gg at *
            go_wp2_with fail
            have HLC := Lib.hid HP.out.lc
            obtain ⟨ca, cc, hcv, hcl, hcc⟩ := HP.out.lc.sl
            obtain ⟨ga, gc, hgv, hgl, hgc⟩ := HQ.out.lc.sl
            have HCC := Lib.hid hcc
            have HGC := Lib.hid hgc
            have HAR : Hid (∀ k, k < m → ∃ gx, aa = some ⟨gx, 0, none⟩ ∧ wr.cell? ⟨gx, k, none⟩ = some (.int .i64 (-1))) := fun k hk => by
              obtain ⟨x1, x2, h3, h4⟩ := HP.out.rd
              simp only [Value.slice.injEq] at h3
              obtain ⟨rfl, -, -⟩ := h3
              obtain ⟨gx, e, -, hc⟩ := h4 k (-1) (by simp [hk])
              exact ⟨gx, e, hc⟩
            have HBR : Hid (∀ k, k < m → ∃ gx, ba = some ⟨gx, 0, none⟩ ∧ wr.cell? ⟨gx, k, none⟩ = some (.int .i64 (-3))) := fun k hk => by
              obtain ⟨x1, x2, h3, h4⟩ := HQ.out.rd
              simp only [Value.slice.injEq] at h3
              obtain ⟨rfl, -, -⟩ := h3
              obtain ⟨gx, e, -, hc⟩ := h4 k (-3) (by simp [hk])
              exact ⟨gx, e, hc⟩
            simp only [List.length_append, List.length_replicate] at hcv hgv
            subst hcv hgv
            clear hcc hgc hcl hgl HP HQ HLC
            obtain ⟨wz, hwz⟩ : ∃ z, z = wr := ⟨_, rfl⟩
            rw [← hwz] at HCC HGC HAR HBR
            have HZ : Hid (Away [] wz wr) := by rw [hwz]; exact Away.refl _ _
            clear hwz
            go_loopw [18] (fun i wr => ∃ k : Nat, i = .int .i64 (k : Int) ∧ k ≤ m ∧ Away [] wz wr ∧ KB.Ow o 1 wr g t ∧ Li o 4 wr kp L ∧ Li o 5 wr d L ∧ Out o W wr) (fun i _ => m - (intOf i).toNat)
            case atStart => exact ⟨0, rfl, Nat.zero_le _, HZ.out, HO.out, HK.out, HD.out, HU.out⟩
            case round =>
              clear HZ HO HK HD HU
              obtain ⟨k, rfl, hk, hz, ho, hkp, hd, hu⟩ := hrel
              have HZ := Lib.hid hz
              have HO := Lib.hid ho
              have HK := Lib.hid hkp
              have HD := Lib.hid hd
              have HU := Lib.hid hu
              clear hz ho hkp hd hu
              by_cases hkn : k < m
              · have j1 : decide (k < m) = true := by simp; omega
                have j0 : (k : Int) < (m : Int) := by omega
                have j4 : (k : Int) < ((m + 80 : Nat) : Int) := by omega
                have j5 : (k : Int) < (m : Int) + 80 := by omega
                have j6 : k < m + 80 := by omega
                have j2 : 0 ≤ (k : Int) := by omega
                have j3 : ((k : Int)).toNat = k := by omega
                obtain ⟨gx, rfl, hca⟩ := HAR.out k hkn
                obtain ⟨gy, rfl, hcb⟩ := HBR.out k hkn
                obtain ⟨gz, rfl, hcc⟩ := HCC.out k (-1) (by rw [List.getElem?_append_left (by simpa using hkn)]; simp [hkn])
                have c1 := HZ.out.cell (by simp) hca
                have c2 := HZ.out.cell (by simp) hcb
                have c3 := HZ.out.cell (by simp) hcc
                clear hca hcb hcc hkn
                go_wp2_with fail
                go_roundw
                case rel => exact ⟨k + 1, by go_num, by omega, HZ.out, HO.out, HK.out, HD.out, HU.out⟩
                case measure => simp [intOf]; omega
              have j1 : decide (k < m) = false := by simp; omega
              clear hkn hk
              go_wp2_with fail
              refine (same_yes HD.out.1 HK.out.1 (by rw [← HM.out]; omega)).mono ?_
              rintro E w6 ⟨rfl, haw⟩
              replace HZ := Lib.hid (HZ.out.trans haw)
              replace HO := Lib.hid (HO.out.on haw)
              replace HK := Lib.hid (HK.out.on haw)
              replace HU := Lib.hid (HU.out.on haw)
              clear haw
              go_wp2_with fail
              refine (all_o HO.out 6).mono ?_
              rintro E w7 ⟨r, rfl, hli, haw⟩
              have HRR := Lib.hid hli.1
              rw [← HLL.out] at HRR
              replace HZ := Lib.hid (HZ.out.trans haw)
              replace HK := Lib.hid (HK.out.on haw)
              replace HU := Lib.hid (HU.out.on haw)
              clear haw hli
              go_wp2_with fail
              refine (same_yes HRR.out HK.out.1 (by rw [← HM.out]; omega)).mono ?_
              rintro E w8 ⟨rfl, haw⟩
              replace HZ := Lib.hid (HZ.out.trans haw)
              replace HU := Lib.hid (HU.out.on haw)
              clear haw
              obtain ⟨gz, rfl, hcc⟩ := HCC.out m (-2) (by rw [List.getElem?_append_right (by simp)]; simp)
              obtain ⟨gw, rfl, hcg⟩ := HGC.out m (-4) (by rw [List.getElem?_append_right (by simp)]; simp)
              have c1 := HZ.out.cell (by simp) hcc
              have c2 := HZ.out.cell (by simp) hcg
              have j0 : (m : Int) < ((m + 80 : Nat) : Int) := by omega
              have j2 : 0 ≤ (m : Int) := by omega
              have j3 : ((m : Int)).toNat = m := by omega
              have j5 : (m : Int) < (m : Int) + 80 := by omega
              clear hcc hcg
              go_wp2_with fail
              go_ret
              exact ⟨rfl, HU.out.below⟩
namespace portsMemory
theorem lifted (os : Os) (started : os.Started) (H : Type) (enc : TypeId × Value → H) :
    ReturnsInHanded {} Try.checked os 3 .any (Rows.portsMemorySpec.pre6 enc Try.prog Try.f3 Rows.portsMemoryRow.domain false) (Rows.portsMemorySpec.post enc Try.prog Try.f3 false true false false) := by
  refine returnsInHanded_of_change_sized (C := Try.checked) ownKn started (by kernel_rfl) Try.func3
    (ChangeSpec.witness6 (enc := enc) (C := Try.checked) false ⟨#[], #[.int .i64 0, .slice none 0 0], []⟩ 8 (by kernel_rfl) (by kernel_rfl) (by kernel_rfl) (by kernel_rfl)) ?_
  intro W base args ds gs before hval0 hW _ hsz0 _
  have hsz : (DataW.weightsEach Try.prog (Try.f3.params.toList ++ Rows.portsMemorySpec.plain.varTypes Try.prog) (ds ++ gs)).all (· ≤ reachBytes) = true := hsz0
  clear hsz0
  have hval : ∀ (j : Nat) t v, Try.f3.params[j]? = some t → args[j]? = some v → Value.okWide Try.prog W .any base t v := hval0
  have hW' := hW
  obtain ⟨p, q, hA0, hV, rfl, hfz, hnd⟩ := hW
  have hA : DataW.TrodAll enc Try.prog W 0 (fun _ => true) true Try.f3.params.toList args.toList ds p := hA0
  rw [Try.params3] at hA hval hsz
  obtain ⟨v0, vs0, d0, ds0, p0, q0, hargs, rfl, rfl, h0, r0⟩ := trodAll_cons hA
  obtain ⟨v1, vs1, d1, ds1, p1, q1, rfl, rfl, rfl, h1, r1⟩ := trodAll_cons r0
  obtain ⟨rfl, rfl, rfl⟩ := trodAll_nil r1
  obtain rfl : args = #[v0, v1] := by cases args; simp_all
  have hV2 : DataW.TrodVars enc Try.prog W (fun _ => true) Rows.portsMemorySpec.vars gs q := hV
  obtain ⟨rfl, rfl⟩ := trodVars_none hV2
  obtain ⟨a0, rfl, rfl, rfl, w0⟩ := open_int Try.underlying3 (hval 0 3 v0 rfl rfl) h0
  have k1 := h1
  have lt1 : ∀ x ∈ p1, x.block < W.heap.size := by obtain ⟨m, hm⟩ := k1; exact DataW.trod_lt m _ _ _ hm
  have z1 : ∀ m ∈ d1.weights Try.prog 22, m ≤ reachBytes := fun m hm => by
    have := List.all_eq_true.1 hsz m (DataW.weights_mem_each (j := 1) (t := 22) rfl rfl m hm)
    simpa using this
  obtain ⟨a1, len1, cap1, rfl⟩ := okWide_slice Try.underlying22 (hval 1 22 v1 rfl rfl)
  obtain ⟨l1, rfl, w1, b1⟩ := open_script h1 z1 lt1
  clear hA0 hval0
  refine (walk a0 a1 l1 cap1 W w1 b1).mono fun e W' ⟨he, bel⟩ => ?_
  subst he
  exact ⟨_, rfl, _, _, _, [], _, [], hW', trodAll_mk1 (shut_bool Try.underlying4 _), (trodAll_cons_mk (shut_int Try.underlying3 w0) (trodAll_cons_mk (Below.trod laidOut (by kernel_rfl) (of_decide_eq_true (by kernel_rfl)) k1 bel lt1) trodAll_mk0)), rfl, bel.frame _, fun h => by cases h⟩
theorem over : Rows.portsMemoryRow.holds Try.pinned (OpenSpec.ofChange Rows.portsMemorySpec) :=
  OpenClaim.holds_of_wide 3 Try.f3 rfl rfl rfl rfl rfl rfl rfl ⟨rfl, rfl, rfl, rfl, rfl⟩ rfl rfl rfl rfl rfl (by kernel_rfl) Try.func3 (by kernel_rfl)
    (of_decide_eq_true (by kernel_rfl)) (by unfold Func.isWrapper; first | (rw [if_pos (by decide +kernel)]; kernel_rfl) | (rw [if_neg (by decide +kernel)]; exact ⟨rfl, rfl⟩))
    (fun os started H enc _ => lifted os started H enc)
end portsMemory
theorem portsMemory_holds : Rows.PortsMemorySaid := portsMemory.over
#print axioms portsMemory_holds
end Go.Proofs.Ytemdgggpfadecaa
