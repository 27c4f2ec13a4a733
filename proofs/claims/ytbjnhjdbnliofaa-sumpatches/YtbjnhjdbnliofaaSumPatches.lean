/-
  SumPatches: the walk, and the row's step.
-/
import Derived.Test.YtbjnhjdbnliofaaOwn
namespace Go.Proofs.Ytbjnhjdbnliofaa.sumPatches
open Go.ChangeShapes Go.WideShapes Go.ChangeAt Go.RowKit Num
set_option linter.unusedVariables false

theorem patch_at (s was now r : Int) (w : World) (hs : 0 ≤ s ∧ s ≤ 65535) (ha : 0 ≤ was ∧ was ≤ 65535) (hb : 0 ≤ now ∧ now ≤ 65535) (hr : patch s was now = r) :
    Calls Try.prog 17 #[.int .u16 s, .int .u16 was, .int .u16 now] w fun e w' => e = .returned (.int .u16 r) ∧ w' = w := by
  subst hr; exact patch_any s was now hs.1 hs.2 ha.1 ha.2 hb.1 hb.2 w
theorem or_word (x y : Int) (hx : 0 ≤ x ∧ x ≤ 255) (hy : 0 ≤ y ∧ y ≤ 255) : bits .or .u16 (x * 256) y = 256 * x + y := by
  rw [u16_or _ _ (by omega) (by omega) (by omega) (by omega)]
  have e : (x * 256).toNat = 2 ^ 8 * x.toNat := by omega
  rw [e, ← Nat.two_pow_add_eq_or_of_lt (by omega)]
  omega

set_option maxHeartbeats 2000000 in
theorem walkl (a0 : Option Addr) (l : List Int) (cap0 : Nat) (n : Int) (now : Int) (w : World) (hc0 : l.length ≤ cap0) (hc1 : cap0 ≤ 140737488351232) (ha : a0 = none → cap0 = 0) (hr : Row w a0 l) (hn : -9223372036854775808 ≤ n ∧ n ≤ 9223372036854775807) (hnow : 0 ≤ now ∧ now ≤ 65535) :
    Calls Try.prog 8 #[.slice a0 l.length cap0, .int .i64 n, .int .u16 now] w fun e w' => e = .returned (.bool true) ∧ Below w.heap.size w w' := by
  have hlb := hr.2.1
  go_enter Try.func8, Try.ntmps8
  go_wp2_with fail
  refine (own_any _ l _ _ ha hr).mono ?_
  rintro e w1 ⟨v, rfl, hown, hbel⟩
  have hsz := hbel.size
  obtain ⟨a', cap', hv, hcap', hnil, _⟩ := hown.row (by omega) hlb
  rw [hv] at hown ⊢
  clear hv
  by_cases h2 : l.length < 2
  · go_wp2_with (at_builtin; refine wpList_app rfl _ _ rfl w.heap.size _ l [0, 7] rfl (hown.alloc _) ⟨w1.heap.size, 0, none⟩ 2 2 rfl rfl (lit_cells _ [0, 7] _ rfl) (by omega) (by simp; omega) ?_)
    intro v' w2 hown2 hgr
    have hbel2 : Below w.heap.size w w2 := (hown.alloc _).grown (hbel.alloc hsz _) hgr (by simp; omega) (Nat.le_refl _)
    clear hgr
    have hlb2 : Bytes (l ++ [0, 7]) := hlb.app (by unfold Bytes; decide)
    obtain ⟨L, hL⟩ : ∃ L, L = l ++ [0, 7] := ⟨_, rfl⟩
    rw [← hL] at hown2 hlb2
    have hlen : L.length = l.length + 2 := by rw [hL]; simp
    clear hL hown hsz hbel
    obtain ⟨g, cap, hv, hcap, hg, hcell, hfz⟩ := hown2.block (by omega)
    rw [hv] at hown2 ⊢
    clear hv
    have h1 : 2 ≤ L.length := by omega
    have h3 : L.length ≤ 140737488351235 := by omega
    clear hlen
    go_wp2_with fail
    refine (rest_at _ _ _ hn (by omega) (by omega)).mono ?_
    rintro e w3 ⟨t, rfl, ht, rfl⟩
    have ht' : 2 * t + 1 < L.length := by omega
    have c0 := hcell (2 * t) (by omega)
    have c1 := hcell (2 * t + 1) ht'
    have bx := hlb2.getD (2 * t)
    have by' := hlb2.getD (2 * t + 1)
    have hgw := ws_ge_word L t ht' hlb2
    have hww := ws_word L t (now / 256) (now % 256) ht'
    obtain ⟨x, hx⟩ : ∃ x, x = L[2 * t]?.getD 0 := ⟨_, rfl⟩
    obtain ⟨y, hy⟩ : ∃ y, y = L[2 * t + 1]?.getD 0 := ⟨_, rfl⟩
    rw [← hx] at c0 bx hgw hww
    rw [← hy] at c1 by' hgw hww
    have hor := or_word x y bx by'
    have HG : Hid (256 * x + y ≤ ws true L) := hgw
    have HW : Hid (ws true ((L.set (2 * t) (now / 256)).set (2 * t + 1) (now % 256)) = ws true L - (256 * x + y) + (256 * (now / 256) + now % 256)) := hww
    clear hcell hfz hgw hww hx hy
    go_wp2_with fail
    go_quiet (fail)
    go_wp2_with fail
    refine (own_any _ L _ _ (by simp) (by exact hown2.row' (by omega) hlb2)).mono ?_
    rintro e w4 ⟨v2, rfl, hown3, hbel3⟩
    obtain ⟨g2, cap2, hv, hcap2, hg2, hcell2, hfz2⟩ := hown3.block (by omega)
    rw [hv] at hown3 ⊢
    simp only [World.heap_drewN] at hown3 hbel3 hg2
    have d0 := hcell2 (2 * t) (by omega)
    have d1 := hcell2 (2 * t + 1) ht'
    have k0 := hfz2 (2 * t)
    have k1 := hfz2 (2 * t + 1)
    clear hv hcell2 hfz2 c0 c1 hor
    go_wp2_with fail
    have hown5 := hown3.set2 rfl (2 * t) (2 * t + 1) (now / 256) (now % 256)
    have hbel5 : Below w3.heap.size w3 ((w4.setCell ⟨g2, 2 * t, none⟩ (.int .u8 (now / 256))).setCell ⟨g2, 2 * t + 1, none⟩ (.int .u8 (now % 256))) := below_set2 (B := 0) ((below_drewN (Below.refl _ w3) nq).trans hbel3) hg2
    generalize ((w4.setCell ⟨g2, 2 * t, none⟩ (.int .u8 (now / 256))).setCell ⟨g2, 2 * t + 1, none⟩ (.int .u8 (now % 256))) = w5 at hown5 hbel5 ⊢
    have hlb5 : Bytes ((L.set (2 * t) (now / 256)).set (2 * t + 1) (now % 256)) := (hlb2.set _ (by omega) (by omega)).set _ (by omega) (by omega)
    have hl5 : ((L.set (2 * t) (now / 256)).set (2 * t + 1) (now % 256)).length = L.length := by simp
    generalize ((L.set (2 * t) (now / 256)).set (2 * t + 1) (now % 256)) = M at hown5 hlb5 hl5 HW
    have H5 : Hid (M.length = L.length) := hl5
    have hownc := hown2.below hbel5 (Nat.le_refl _)
    have hbelw : Below w.heap.size w w5 := hbel2.trans (hbel5.mono hbel2.size)
    have hC := (ws_bd true L hlb2).1
    have hD := (ws_bd true M hlb5).1
    have pl := pt_bd hlb2
    have pm := pt_bd hlb5
    have P1 : Hid (patch (65535 - pt L) (256 * x + y) now = if ws true M = 0 then 0 else 65535 - pt M) := patch_tells hC (by omega) (by omega) hnow.1 hnow.2 HG.out (by have := HW.out; omega)
    have P2 : Hid (patch (65535 - pt M) now (256 * x + y) = if ws true L = 0 then 0 else 65535 - pt L) := patch_tells hD hnow.1 hnow.2 (by omega) (by omega) (by have := HW.out; have := HG.out; omega) (by have := HW.out; omega)
    have zl : pt L = 0 ↔ _ := fold_zero
    have zm : pt M = 0 ↔ _ := fold_zero
    clear hl5 d0 d1 k0 k1 hown3 hbel3 hown2 hbel5 hbel2 HW HG
    refine (of_at _ L _ _ _ rfl hcap (by exact hownc.row' (by omega) hlb2)).mono ?_
    rintro e w' ⟨rfl, n1, rfl⟩
    go_wp2_with fail
    refine (of_at _ M _ _ _ H5.out hcap2 (by exact hown5.row' (by rw [H5.out]; omega) hlb5)).mono ?_
    rintro e w' ⟨rfl, n2, rfl⟩
    by_cases hz : ws true M = 0
    · have Q1 : Hid (patch (65535 - pt L) (256 * x + y) now = 0) := by show _ = (0 : Int); rw [P1.out, if_pos hz]
      have hm0 : pt M = 0 := zm.mpr hz
      have e1 : (pt M == 0) = true := by rw [hm0]; rfl
      have e2 : ((65535 : Int) - pt M == 65535) = true := by rw [hm0]; rfl
      clear hz hm0 zl zm P1 P2
      go_wp2_with fail
      refine (patch_at _ _ _ 0 _ (by omega) (by omega) hnow Q1.out).mono ?_
      rintro e w' ⟨rfl, rfl⟩
      go_wp2_with fail
      refine (known_any _).mono ?_
      rintro e w6 ⟨rfl, hbel6⟩
      simp only [World.heap_drewN] at hbel6
      have hbel7 : Below w.heap.size w w6 := (below_drewN hbelw (n1 + n2)).trans (hbel6.mono hbelw.size)
      have hown6 := (hown5.drewN (n1 + n2)).below hbel6 (Nat.le_refl _)
      clear hbel6 hownc hown5
      go_wp2_with fail
      refine (part_at _ M _ _ _ H5.out hcap2 (by exact hown6.row' (by rw [H5.out]; omega) hlb5)).mono ?_
      rintro e w' ⟨rfl, n3, rfl⟩
      go_wp2_with fail
      go_ret
      exact ⟨rfl, below_drewN hbel7 n3⟩
    · have Q1 : Hid (patch (65535 - pt L) (256 * x + y) now = 65535 - pt M) := by show _ = (65535 - pt M : Int); rw [P1.out, if_neg hz]
      have e1 : (pt M == 0) = false := by simp; omega
      by_cases hy : ws true L = 0
      · have Q2 : Hid (patch (65535 - pt M) now (256 * x + y) = 0) := by show _ = (0 : Int); rw [P2.out, if_pos hy]
        have hm0 : pt L = 0 := zl.mpr hy
        have e2 : (pt L == 0) = true := by rw [hm0]; rfl
        clear hz hy hm0 zl zm P1 P2
        go_wp2_with fail
        refine (patch_at _ _ _ (65535 - pt M) _ (by omega) (by omega) hnow Q1.out).mono ?_
        rintro e w' ⟨rfl, rfl⟩
        go_wp2_with fail
        refine (known_any _).mono ?_
        rintro e w6 ⟨rfl, hbel6⟩
        simp only [World.heap_drewN] at hbel6
        have hbel7 : Below w.heap.size w w6 := (below_drewN hbelw (n1 + n2)).trans (hbel6.mono hbelw.size)
        have hown6 := (hown5.drewN (n1 + n2)).below hbel6 (Nat.le_refl _)
        have hownd := (hownc.drewN (n1 + n2)).below hbel6 (Nat.le_refl _)
        clear hbel6 hownc hown5
        go_wp2_with fail
        refine (part_at _ M _ _ _ H5.out hcap2 (by exact hown6.row' (by rw [H5.out]; omega) hlb5)).mono ?_
        rintro e w' ⟨rfl, n3, rfl⟩
        go_wp2_with fail
        refine (part_at _ L _ _ _ rfl hcap (by exact hownd.row' (by omega) hlb2)).mono ?_
        rintro e w' ⟨rfl, n4, rfl⟩
        go_wp2_with fail
        refine (patch_at _ _ _ 0 _ (by omega) hnow (by omega) Q2.out).mono ?_
        rintro e w' ⟨rfl, rfl⟩
        go_wp2_with fail
        go_ret
        exact ⟨rfl, below_drewN hbel7 (n3 + n4)⟩
      · have Q2 : Hid (patch (65535 - pt M) now (256 * x + y) = 65535 - pt L) := by show _ = (65535 - pt L : Int); rw [P2.out, if_neg hy]
        have e2 : (pt L == 0) = false := by simp; omega
        clear hz hy zl zm P1 P2
        go_wp2_with fail
        refine (patch_at _ _ _ (65535 - pt M) _ (by omega) (by omega) hnow Q1.out).mono ?_
        rintro e w' ⟨rfl, rfl⟩
        go_wp2_with fail
        refine (known_any _).mono ?_
        rintro e w6 ⟨rfl, hbel6⟩
        simp only [World.heap_drewN] at hbel6
        have hbel7 : Below w.heap.size w w6 := (below_drewN hbelw (n1 + n2)).trans (hbel6.mono hbelw.size)
        have hown6 := (hown5.drewN (n1 + n2)).below hbel6 (Nat.le_refl _)
        have hownd := (hownc.drewN (n1 + n2)).below hbel6 (Nat.le_refl _)
        clear hbel6 hownc hown5
        go_wp2_with fail
        refine (part_at _ M _ _ _ H5.out hcap2 (by exact hown6.row' (by rw [H5.out]; omega) hlb5)).mono ?_
        rintro e w' ⟨rfl, n3, rfl⟩
        go_wp2_with fail
        refine (part_at _ L _ _ _ rfl hcap (by exact hownd.row' (by omega) hlb2)).mono ?_
        rintro e w' ⟨rfl, n4, rfl⟩
        go_wp2_with fail
        refine (patch_at _ _ _ (65535 - pt L) _ (by omega) hnow (by omega) Q2.out).mono ?_
        rintro e w' ⟨rfl, rfl⟩
        go_wp2_with fail
        go_ret
        exact ⟨rfl, below_drewN hbel7 (n3 + n4)⟩
  · obtain ⟨g, cap, hv, hcap, hg, hcell, hfz⟩ := hown.block (by omega)
    rw [hv] at hown ⊢
    clear hv hsz
    obtain ⟨L, hL⟩ : ∃ L, L = l := ⟨_, rfl⟩
    rw [← hL] at hown hlb hcap hcell h2 ⊢
    have hlen : L.length = l.length := by rw [hL]
    have h1 : 2 ≤ L.length := by omega
    have h3 : L.length ≤ 140737488351235 := by omega
    have hown2 := hown
    have hlb2 := hlb
    have hbel2 := hbel
    clear hlen hL hown hlb hbel
    go_wp2_with fail
    refine (rest_at _ _ _ hn (by omega) (by omega)).mono ?_
    rintro e w3 ⟨t, rfl, ht, rfl⟩
    have ht' : 2 * t + 1 < L.length := by omega
    have c0 := hcell (2 * t) (by omega)
    have c1 := hcell (2 * t + 1) ht'
    have bx := hlb2.getD (2 * t)
    have by' := hlb2.getD (2 * t + 1)
    have hgw := ws_ge_word L t ht' hlb2
    have hww := ws_word L t (now / 256) (now % 256) ht'
    obtain ⟨x, hx⟩ : ∃ x, x = L[2 * t]?.getD 0 := ⟨_, rfl⟩
    obtain ⟨y, hy⟩ : ∃ y, y = L[2 * t + 1]?.getD 0 := ⟨_, rfl⟩
    rw [← hx] at c0 bx hgw hww
    rw [← hy] at c1 by' hgw hww
    have hor := or_word x y bx by'
    have HG : Hid (256 * x + y ≤ ws true L) := hgw
    have HW : Hid (ws true ((L.set (2 * t) (now / 256)).set (2 * t + 1) (now % 256)) = ws true L - (256 * x + y) + (256 * (now / 256) + now % 256)) := hww
    clear hcell hfz hgw hww hx hy
    go_wp2_with fail
    go_quiet (fail)
    go_wp2_with fail
    refine (own_any _ L _ _ (by simp) (by exact hown2.row' (by omega) hlb2)).mono ?_
    rintro e w4 ⟨v2, rfl, hown3, hbel3⟩
    obtain ⟨g2, cap2, hv, hcap2, hg2, hcell2, hfz2⟩ := hown3.block (by omega)
    rw [hv] at hown3 ⊢
    simp only [World.heap_drewN] at hown3 hbel3 hg2
    have d0 := hcell2 (2 * t) (by omega)
    have d1 := hcell2 (2 * t + 1) ht'
    have k0 := hfz2 (2 * t)
    have k1 := hfz2 (2 * t + 1)
    clear hv hcell2 hfz2 c0 c1 hor
    go_wp2_with fail
    have hown5 := hown3.set2 rfl (2 * t) (2 * t + 1) (now / 256) (now % 256)
    have hbel5 : Below w3.heap.size w3 ((w4.setCell ⟨g2, 2 * t, none⟩ (.int .u8 (now / 256))).setCell ⟨g2, 2 * t + 1, none⟩ (.int .u8 (now % 256))) := below_set2 (B := 0) ((below_drewN (Below.refl _ w3) nq).trans hbel3) hg2
    generalize ((w4.setCell ⟨g2, 2 * t, none⟩ (.int .u8 (now / 256))).setCell ⟨g2, 2 * t + 1, none⟩ (.int .u8 (now % 256))) = w5 at hown5 hbel5 ⊢
    have hlb5 : Bytes ((L.set (2 * t) (now / 256)).set (2 * t + 1) (now % 256)) := (hlb2.set _ (by omega) (by omega)).set _ (by omega) (by omega)
    have hl5 : ((L.set (2 * t) (now / 256)).set (2 * t + 1) (now % 256)).length = L.length := by simp
    generalize ((L.set (2 * t) (now / 256)).set (2 * t + 1) (now % 256)) = M at hown5 hlb5 hl5 HW
    have H5 : Hid (M.length = L.length) := hl5
    have hownc := hown2.below hbel5 (Nat.le_refl _)
    have hbelw : Below w.heap.size w w5 := hbel2.trans (hbel5.mono hbel2.size)
    have hC := (ws_bd true L hlb2).1
    have hD := (ws_bd true M hlb5).1
    have pl := pt_bd hlb2
    have pm := pt_bd hlb5
    have P1 : Hid (patch (65535 - pt L) (256 * x + y) now = if ws true M = 0 then 0 else 65535 - pt M) := patch_tells hC (by omega) (by omega) hnow.1 hnow.2 HG.out (by have := HW.out; omega)
    have P2 : Hid (patch (65535 - pt M) now (256 * x + y) = if ws true L = 0 then 0 else 65535 - pt L) := patch_tells hD hnow.1 hnow.2 (by omega) (by omega) (by have := HW.out; have := HG.out; omega) (by have := HW.out; omega)
    have zl : pt L = 0 ↔ _ := fold_zero
    have zm : pt M = 0 ↔ _ := fold_zero
    clear hl5 d0 d1 k0 k1 hown3 hbel3 hown2 hbel5 hbel2 HW HG
    refine (of_at _ L _ _ _ rfl hcap (by exact hownc.row' (by omega) hlb2)).mono ?_
    rintro e w' ⟨rfl, n1, rfl⟩
    go_wp2_with fail
    refine (of_at _ M _ _ _ H5.out hcap2 (by exact hown5.row' (by rw [H5.out]; omega) hlb5)).mono ?_
    rintro e w' ⟨rfl, n2, rfl⟩
    by_cases hz : ws true M = 0
    · have Q1 : Hid (patch (65535 - pt L) (256 * x + y) now = 0) := by show _ = (0 : Int); rw [P1.out, if_pos hz]
      have hm0 : pt M = 0 := zm.mpr hz
      have e1 : (pt M == 0) = true := by rw [hm0]; rfl
      have e2 : ((65535 : Int) - pt M == 65535) = true := by rw [hm0]; rfl
      clear hz hm0 zl zm P1 P2
      go_wp2_with fail
      refine (patch_at _ _ _ 0 _ (by omega) (by omega) hnow Q1.out).mono ?_
      rintro e w' ⟨rfl, rfl⟩
      go_wp2_with fail
      refine (known_any _).mono ?_
      rintro e w6 ⟨rfl, hbel6⟩
      simp only [World.heap_drewN] at hbel6
      have hbel7 : Below w.heap.size w w6 := (below_drewN hbelw (n1 + n2)).trans (hbel6.mono hbelw.size)
      have hown6 := (hown5.drewN (n1 + n2)).below hbel6 (Nat.le_refl _)
      clear hbel6 hownc hown5
      go_wp2_with fail
      refine (part_at _ M _ _ _ H5.out hcap2 (by exact hown6.row' (by rw [H5.out]; omega) hlb5)).mono ?_
      rintro e w' ⟨rfl, n3, rfl⟩
      go_wp2_with fail
      go_ret
      exact ⟨rfl, below_drewN hbel7 n3⟩
    · have Q1 : Hid (patch (65535 - pt L) (256 * x + y) now = 65535 - pt M) := by show _ = (65535 - pt M : Int); rw [P1.out, if_neg hz]
      have e1 : (pt M == 0) = false := by simp; omega
      by_cases hy : ws true L = 0
      · have Q2 : Hid (patch (65535 - pt M) now (256 * x + y) = 0) := by show _ = (0 : Int); rw [P2.out, if_pos hy]
        have hm0 : pt L = 0 := zl.mpr hy
        have e2 : (pt L == 0) = true := by rw [hm0]; rfl
        clear hz hy hm0 zl zm P1 P2
        go_wp2_with fail
        refine (patch_at _ _ _ (65535 - pt M) _ (by omega) (by omega) hnow Q1.out).mono ?_
        rintro e w' ⟨rfl, rfl⟩
        go_wp2_with fail
        refine (known_any _).mono ?_
        rintro e w6 ⟨rfl, hbel6⟩
        simp only [World.heap_drewN] at hbel6
        have hbel7 : Below w.heap.size w w6 := (below_drewN hbelw (n1 + n2)).trans (hbel6.mono hbelw.size)
        have hown6 := (hown5.drewN (n1 + n2)).below hbel6 (Nat.le_refl _)
        have hownd := (hownc.drewN (n1 + n2)).below hbel6 (Nat.le_refl _)
        clear hbel6 hownc hown5
        go_wp2_with fail
        refine (part_at _ M _ _ _ H5.out hcap2 (by exact hown6.row' (by rw [H5.out]; omega) hlb5)).mono ?_
        rintro e w' ⟨rfl, n3, rfl⟩
        go_wp2_with fail
        refine (part_at _ L _ _ _ rfl hcap (by exact hownd.row' (by omega) hlb2)).mono ?_
        rintro e w' ⟨rfl, n4, rfl⟩
        go_wp2_with fail
        refine (patch_at _ _ _ 0 _ (by omega) hnow (by omega) Q2.out).mono ?_
        rintro e w' ⟨rfl, rfl⟩
        go_wp2_with fail
        go_ret
        exact ⟨rfl, below_drewN hbel7 (n3 + n4)⟩
      · have Q2 : Hid (patch (65535 - pt M) now (256 * x + y) = 65535 - pt L) := by show _ = (65535 - pt L : Int); rw [P2.out, if_neg hy]
        have e2 : (pt L == 0) = false := by simp; omega
        clear hz hy zl zm P1 P2
        go_wp2_with fail
        refine (patch_at _ _ _ (65535 - pt M) _ (by omega) (by omega) hnow Q1.out).mono ?_
        rintro e w' ⟨rfl, rfl⟩
        go_wp2_with fail
        refine (known_any _).mono ?_
        rintro e w6 ⟨rfl, hbel6⟩
        simp only [World.heap_drewN] at hbel6
        have hbel7 : Below w.heap.size w w6 := (below_drewN hbelw (n1 + n2)).trans (hbel6.mono hbelw.size)
        have hown6 := (hown5.drewN (n1 + n2)).below hbel6 (Nat.le_refl _)
        have hownd := (hownc.drewN (n1 + n2)).below hbel6 (Nat.le_refl _)
        clear hbel6 hownc hown5
        go_wp2_with fail
        refine (part_at _ M _ _ _ H5.out hcap2 (by exact hown6.row' (by rw [H5.out]; omega) hlb5)).mono ?_
        rintro e w' ⟨rfl, n3, rfl⟩
        go_wp2_with fail
        refine (part_at _ L _ _ _ rfl hcap (by exact hownd.row' (by omega) hlb2)).mono ?_
        rintro e w' ⟨rfl, n4, rfl⟩
        go_wp2_with fail
        refine (patch_at _ _ _ (65535 - pt L) _ (by omega) hnow (by omega) Q2.out).mono ?_
        rintro e w' ⟨rfl, rfl⟩
        go_wp2_with fail
        go_ret
        exact ⟨rfl, below_drewN hbel7 (n3 + n4)⟩

theorem walk (a0 : Option Addr) (len0 cap0 : Nat) (z0 : List Int) (n now : Int) (w : World) (w0 : IsRow .u8 w a0 len0 cap0 z0) (w1 : (Lit.int .i64 n).wf = true) (w2 : (Lit.int .u16 now).wf = true) :
    Calls Try.prog 8 #[.slice a0 len0 cap0, .int .i64 n, .int .u16 now] w fun e w' => e = .returned (.bool true) ∧ Below w.heap.size w w' := by
  have ha : a0 = none → cap0 = 0 := by rcases w0 with ⟨_, _, h, _⟩ | ⟨x, h, _⟩ <;> simp_all
  obtain ⟨l, rfl, h1, h2, hr⟩ := view w0
  exact walkl a0 l cap0 n now w h1 h2 ha hr (bounds_i64 w1) (bounds_u16 w2)

set_option maxRecDepth 100000 in
theorem lifted (os : Os) (started : os.Started) (H : Type) (enc : TypeId × Value → H) :
    ReturnsInHanded {} Try.checked os 8 .any (Rows.sumPatchesSpec.pre6 enc Try.prog Try.f8 Rows.sumPatchesRow.domain false) (Rows.sumPatchesSpec.post enc Try.prog Try.f8 false true false false) := by
  refine returnsInHanded_of_change_sized (C := Try.checked) ownKn started (by kernel_rfl) Try.func8
    (ChangeSpec.witness6 (enc := enc) (C := Try.checked) false ⟨#[], #[.slice none 0 0, .int .i64 0, .int .u16 0], []⟩ 8 (by kernel_rfl) (by kernel_rfl) (by kernel_rfl) (by kernel_rfl)) ?_
  intro W base args ds gs before hval0 hW _ hsz0 _
  have hsz : (DataW.weightsEach Try.prog (Try.f8.params.toList ++ Rows.sumPatchesSpec.plain.varTypes Try.prog) (ds ++ gs)).all (· ≤ reachBytes) = true := hsz0
  clear hsz0
  have hval : ∀ (j : Nat) t v, Try.f8.params[j]? = some t → args[j]? = some v → Value.okWide Try.prog W .any base t v := hval0
  have hW' := hW
  obtain ⟨p, q, hA0, hV, rfl, hfz, hnd⟩ := hW
  have hA : DataW.TrodAll enc Try.prog W 0 (fun _ => true) true Try.f8.params.toList args.toList ds p := hA0
  rw [Try.params8] at hA hval hsz
  obtain ⟨v0, vs0, d0, ds0, p0, q0, hargs, rfl, rfl, h0, r0⟩ := trodAll_cons hA
  obtain ⟨v1, vs1, d1, ds1, p1, q1, rfl, rfl, rfl, h1, r1⟩ := trodAll_cons r0
  obtain ⟨v2, vs2, d2, ds2, p2, q2, rfl, rfl, rfl, h2, r2⟩ := trodAll_cons r1
  obtain ⟨rfl, rfl, rfl⟩ := trodAll_nil r2
  obtain rfl : args = #[v0, v1, v2] := by cases args; simp_all
  obtain ⟨rfl, rfl⟩ := trodVars_none hV
  obtain ⟨a0, len0, cap0, rfl⟩ := okWide_slice Try.underlying26 (hval 0 26 v0 rfl rfl)
  have k0 := h0
  have lt0 : ∀ x ∈ p0, x.block < W.heap.size := by obtain ⟨m, hm⟩ := k0; exact DataW.trod_lt m _ _ _ hm
  obtain ⟨z0, w0⟩ : ∃ zs, IsRow .u8 W a0 len0 cap0 zs := by
    obtain ⟨fuel, hf⟩ := h0
    rcases open_ints Try.underlying26 Try.underlying5 (by kernel_rfl) hf with ⟨hcs, _⟩ | ⟨x, l, c, zs, hcs, _, hl, hm, hz, hx, hcell, hwz⟩
    · simp [Value.cells] at hcs
      obtain ⟨rfl, rfl, rfl⟩ := hcs
      exact ⟨[], .inl ⟨rfl, rfl, rfl, rfl⟩⟩
    · simp [Value.cells] at hcs
      obtain ⟨rfl, rfl, rfl⟩ := hcs
      simp only [Prod.mk.injEq] at hx
      obtain ⟨rfl, hpl⟩ := hx
      have hreach : cap0 * kindBytes .u8 ≤ 140737488351232 := by
        have := sized_slice hsz (j := 0) (t := 26) (e := 5) rfl rfl Try.underlying26
        rw [show Try.prog.bytesOf 5 = kindBytes .u8 from by kernel_rfl] at this
        simp only [lits, List.length_map, List.length_take, List.length_drop, reachBytes] at this
        simp only [if_true] at hz
        rw [show min len0 zs.length + (zs.length - len0) = cap0 from by omega] at this
        exact this
      exact ⟨zs, .inr ⟨_, rfl, hl, hreach, by simpa using hz, hcell, hwz⟩⟩
  obtain ⟨a1, rfl, rfl, rfl, w1⟩ := open_int Try.underlying3 (hval 1 3 v1 rfl rfl) h1
  obtain ⟨a2, rfl, rfl, rfl, w2⟩ := open_int Try.underlying22 (hval 2 22 v2 rfl rfl) h2
  clear hA0 hval0
  refine (walk a0 len0 cap0 z0 a1 a2 W w0 w1 w2).mono fun e W' ⟨he, bel⟩ => ?_
  subst he
  exact ⟨_, rfl, _, _, _, [], _, [], hW', trodAll_mk1 (shut_bool Try.underlying4 _), (trodAll_cons_mk (Below.trod laidOut (by kernel_rfl) (of_decide_eq_true (by kernel_rfl)) k0 bel lt0) (trodAll_cons_mk (shut_int Try.underlying3 w1) (trodAll_cons_mk (shut_int Try.underlying22 w2) trodAll_mk0))), rfl, bel.frame _, fun h => by cases h⟩

theorem over : Rows.sumPatchesRow.holds Try.pinned (OpenSpec.ofChange Rows.sumPatchesSpec) :=
  OpenClaim.holds_of_wide 8 Try.f8 rfl rfl rfl rfl rfl rfl rfl ⟨rfl, rfl, rfl, rfl, rfl⟩ rfl rfl rfl rfl rfl (by kernel_rfl) Try.func8 (by kernel_rfl)
    (of_decide_eq_true (by kernel_rfl)) (by unfold Func.isWrapper; first | (rw [if_pos (by decide +kernel)]; kernel_rfl) | (rw [if_neg (by decide +kernel)]; exact ⟨rfl, rfl⟩))
    (fun os started H enc _ => lifted os started H enc)

end Go.Proofs.Ytbjnhjdbnliofaa.sumPatches
namespace Go.Proofs.Ytbjnhjdbnliofaa
theorem sumPatches_holds : Rows.SumPatchesSaid := sumPatches.over
#print axioms sumPatches_holds
end Go.Proofs.Ytbjnhjdbnliofaa

