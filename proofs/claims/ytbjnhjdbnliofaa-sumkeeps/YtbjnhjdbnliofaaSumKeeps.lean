/-
  SumKeeps: the walk, and the row's step.
-/
import Derived.Test.YtbjnhjdbnliofaaOwn
namespace Go.Proofs.Ytbjnhjdbnliofaa.sumKeeps
open Go.ChangeShapes Go.WideShapes Go.ChangeAt Go.RowKit Num
set_option linter.unusedVariables false

theorem own_at (a : Option Addr) (l : List Int) (len cap : Nat) (w : World) (hl : l.length = len) (ha : a = none → cap = 0) (hr : Row w a l) :
    Calls Try.prog 14 #[.slice a len cap] w fun e w' => ∃ v, e = .returned v ∧ Owns w.heap.size w' v l ∧ Below w.heap.size w w' := by
  subst hl; exact own_any a l cap w ha hr

set_option maxHeartbeats 2000000 in
theorem walkl (a0 : Option Addr) (l : List Int) (cap0 : Nat) (a1 : Option Addr) (m : List Int) (cap1 : Nat) (w : World) (hc0 : l.length ≤ cap0) (hc0' : cap0 ≤ 140737488351232) (ha : a0 = none → cap0 = 0) (hr : Row w a0 l) (hc1 : m.length ≤ cap1) (hc1' : cap1 ≤ 140737488351232) (hr1 : Row w a1 m) :
    Calls Try.prog 5 #[.slice a0 l.length cap0, .slice a1 m.length cap1] w fun e w' => e = .returned (.bool true) ∧ Below w.heap.size w w' := by
  have hlb := hr.2.1
  rcases hr.2.2 with h0 | ⟨b0, off0, rfl, hcell0⟩
  · have HL0 : Hid (l.length = 0) := by show l.length = 0; rw [h0]; rfl
    clear h0
    go_enter Try.func5, Try.ntmps5
    go_wp2_with fail
    refine (own_any _ l _ _ ha hr).mono ?_
    rintro e w1 ⟨v, rfl, hown, hbel⟩
    have hsz := hbel.size
    go_wp2_with (at_builtin; refine wpList_app rfl _ _ rfl w.heap.size _ l [171, 172] rfl (hown.alloc _) ⟨w1.heap.size, 0, none⟩ 2 2 rfl rfl (lit_cells _ [171, 172] _ rfl) (by omega) (by simp; omega) ?_)
    intro v' w2 hown2 hgr
    have hbel2 : Below w.heap.size w w2 := (hown.alloc _).grown (hbel.alloc hsz _) hgr (by simp; omega) (Nat.le_refl _)
    clear hgr hown hbel hsz
    obtain ⟨g, cap, hv, hcap, hg, hcell, hfz⟩ := hown2.block (by simp)
    rw [hv] at hown2 ⊢
    have hll : (l ++ [171, 172]).length = l.length + 2 := by simp
    rw [hll] at hown2 hcap ⊢
    clear hv hcell hfz hll
    have hcap2 : l.length + 2 ≤ cap := hcap
    have hrow : Row w2 (some ⟨g, 0, none⟩) l := by
      have := (hown2.row' (by simp; omega) (hlb.app (by unfold Bytes; decide))).head l.length
      rwa [List.take_left] at this
    go_wp2_with fail
    refine (part_at _ l _ _ _ rfl (by omega) (by exact hrow)).mono ?_
    rintro e w' ⟨rfl, n1, rfl⟩
    go_wp2_with fail
    refine (of_at _ l _ _ _ rfl (by omega) (by exact hrow)).mono ?_
    rintro e w' ⟨rfl, n2, rfl⟩
    go_wp2_with fail
    go_loopw [9] (fun i wr => ∃ k n : Nat, k ≤ l.length ∧ i = .int .i64 k ∧ wr = w2.drewN n) (fun i _ => l.length - (intOf i).toNat)
    case atStart => exact ⟨0, n1 + n2, by omega, rfl, by simp⟩
    case round =>
      obtain ⟨k, n, hk, rfl, rfl⟩ := hrel
      by_cases hlt : k < l.length
      · exact absurd hlt (by rw [HL0.out]; omega)
      · obtain rfl : k = l.length := by omega
        clear hlt hk
        go_wp2_with fail
        go_loopw [10] (fun i wr => ∃ (k : Nat) (M : List Int), k ≤ l.length ∧ i = .int .i64 k ∧ M.length = l.length ∧ Bytes M ∧ Owns w.heap.size wr (.slice (some ⟨g, 0, none⟩) (l.length + 2) cap) (M ++ [171, 172]) ∧ Below w.heap.size w wr) (fun i _ => l.length - (intOf i).toNat)
        case atStart => exact ⟨0, l, by omega, rfl, rfl, hlb, hown2.drewN n, below_drewN hbel2 n⟩
        case round =>
          obtain ⟨k, M, hk, rfl, hM, hMb, hownr, hbelr⟩ := hrel
          by_cases hlt : k < l.length
          · exact absurd hlt (by rw [HL0.out]; omega)
          · have hrowM : Row wr (some ⟨g, 0, none⟩) M := by
              have := (hownr.row' (by simp; omega) (hMb.app (by unfold Bytes; decide))).head M.length
              rwa [List.take_left] at this
            have HM : Hid (M.length = l.length) := hM
            clear hM
            have pm := pt_bd hMb
            have pl := pt_bd hlb
            go_wp2_with fail
            refine (part_at _ M _ _ _ HM.out (by omega) (by exact hrowM)).mono ?_
            rintro e w' ⟨rfl, n3, rfl⟩
            go_wp2_with fail
            refine (of_at _ M _ _ _ HM.out (by omega) (by exact hrowM)).mono ?_
            rintro e w' ⟨rfl, n4, rfl⟩
            go_wp2_with fail
            refine (known_any _).mono ?_
            rintro e w6 ⟨rfl, hbel6⟩
            simp only [World.heap_drewN] at hbel6
            have hbel7 : Below w.heap.size w w6 := (below_drewN hbelr (n3 + n4)).trans (hbel6.mono hbelr.size)
            have hown6 := (hownr.drewN (n3 + n4)).below hbel6 (Nat.le_refl _)
            have hrow6 := (hrowM.drewN (n3 + n4)).below hbel6 (Nat.le_refl _)
            clear hbel6 hownr hbelr hrowM
            go_wp2_with fail
            refine (own_at _ M _ _ _ HM.out (by simp) (by exact hrow6)).mono ?_
            rintro e w7 ⟨v7, rfl, hown7, hbel8⟩
            have hbel9 : Below w.heap.size w w7 := hbel7.trans (hbel8.mono hbel7.size)
            have hown8 := hown6.below hbel8 (Nat.le_refl _)
            obtain ⟨a7, cap7, hv7, hcap7, _, hrow7⟩ := hown7.row (by rw [HM.out]; omega) hMb
            rw [hv7]
            clear hown6 hown7 hbel8 hrow6 hv7 hbel7
            go_wp2_with fail
            refine (part_at _ M _ _ _ rfl hcap7 (by exact hrow7)).mono ?_
            rintro e w' ⟨rfl, n5, rfl⟩
            go_wp2_with fail
            refine (part_at _ l _ _ _ rfl hc0 (by exact (hr.below hbel9 (Nat.le_refl _)).drewN _)).mono ?_
            rintro e w' ⟨rfl, n6, rfl⟩
            have x0 : w7.cell? ⟨g, l.length, none⟩ = some (.int .u8 171) := by
              have := (hown8.cells l.length (by simp; have := HM.out; omega)).1
              rw [List.getElem?_append_right (by have := HM.out; omega), HM.out, Nat.sub_self] at this
              exact this
            have x1 : w7.cell? ⟨g, l.length + 1, none⟩ = some (.int .u8 172) := by
              have := (hown8.cells (l.length + 1) (by simp; have := HM.out; omega)).1
              rw [List.getElem?_append_right (by have := HM.out; omega), HM.out, Nat.add_sub_cancel_left] at this
              exact this
            go_wp2_with fail
            go_ret
            exact ⟨rfl, below_drewN hbel9 (n5 + n6)⟩
  · rcases hr1.2.2 with rfl | ⟨b1, off1, rfl, hcell1⟩
    · skip
      go_enter Try.func5, Try.ntmps5
      go_wp2_with fail
      refine (own_any _ l _ _ ha hr).mono ?_
      rintro e w1 ⟨v, rfl, hown, hbel⟩
      have hsz := hbel.size
      go_wp2_with (at_builtin; refine wpList_app rfl _ _ rfl w.heap.size _ l [171, 172] rfl (hown.alloc _) ⟨w1.heap.size, 0, none⟩ 2 2 rfl rfl (lit_cells _ [171, 172] _ rfl) (by omega) (by simp; omega) ?_)
      intro v' w2 hown2 hgr
      have hbel2 : Below w.heap.size w w2 := (hown.alloc _).grown (hbel.alloc hsz _) hgr (by simp; omega) (Nat.le_refl _)
      clear hgr hown hbel hsz
      obtain ⟨g, cap, hv, hcap, hg, hcell, hfz⟩ := hown2.block (by simp)
      rw [hv] at hown2 ⊢
      have hll : (l ++ [171, 172]).length = l.length + 2 := by simp
      rw [hll] at hown2 hcap ⊢
      clear hv hcell hfz hll
      have hcap2 : l.length + 2 ≤ cap := hcap
      have hrow : Row w2 (some ⟨g, 0, none⟩) l := by
        have := (hown2.row' (by simp; omega) (hlb.app (by unfold Bytes; decide))).head l.length
        rwa [List.take_left] at this
      go_wp2_with fail
      refine (part_at _ l _ _ _ rfl (by omega) (by exact hrow)).mono ?_
      rintro e w' ⟨rfl, n1, rfl⟩
      go_wp2_with fail
      refine (of_at _ l _ _ _ rfl (by omega) (by exact hrow)).mono ?_
      rintro e w' ⟨rfl, n2, rfl⟩
      go_wp2_with fail
      go_loopw [9] (fun i wr => ∃ k n : Nat, k ≤ l.length ∧ i = .int .i64 k ∧ wr = w2.drewN n) (fun i _ => l.length - (intOf i).toNat)
      case atStart => exact ⟨0, n1 + n2, by omega, rfl, by simp⟩
      case round =>
        obtain ⟨k, n, hk, rfl, rfl⟩ := hrel
        by_cases hlt : k < l.length
        · have x0 : w2.cell? ⟨b0, off0 + k, none⟩ = some (.int .u8 (l[k]?.getD 0)) := by
              have := hcell0 k hlt
              rw [hbel2.cell (p := ⟨b0, off0 + k, none⟩) (by exact lt_of_cell this)]; exact this
          have x1 : w2.cell? ⟨g, k, none⟩ = some (.int .u8 (l[k]?.getD 0)) := by
              rcases hrow.2.2 with h | ⟨b', off', h, hc'⟩
              · subst h; simp at hlt
              · simp only [Option.some.injEq, Addr.mk.injEq] at h
                obtain ⟨rfl, rfl, _⟩ := h
                have := hc' k hlt
                rwa [Nat.zero_add] at this
          go_wp2_with fail
          go_quiet (fail)
          go_wp2_with fail
          go_roundw
          case rel => exact ⟨k + 1, _, by omega, by go_num, rfl⟩
          case measure => simp [intOf]; omega
        · obtain rfl : k = l.length := by omega
          clear hlt hk
          go_wp2_with fail
          go_loopw [10] (fun i wr => ∃ (k : Nat) (M : List Int), k ≤ l.length ∧ i = .int .i64 k ∧ M.length = l.length ∧ Bytes M ∧ Owns w.heap.size wr (.slice (some ⟨g, 0, none⟩) (l.length + 2) cap) (M ++ [171, 172]) ∧ Below w.heap.size w wr) (fun i _ => l.length - (intOf i).toNat)
          case atStart => exact ⟨0, l, by omega, rfl, rfl, hlb, hown2.drewN n, below_drewN hbel2 n⟩
          case round =>
            obtain ⟨k, M, hk, rfl, hM, hMb, hownr, hbelr⟩ := hrel
            by_cases hlt : k < l.length
            · obtain ⟨d0, f0⟩ := hownr.cells k (by simp; omega)
              have bx := (hMb.app (m := [171, 172]) (by unfold Bytes; decide)).getD k
              obtain ⟨x, hx⟩ : ∃ x, x = (M ++ [171, 172])[k]?.getD 0 := ⟨_, rfl⟩
              rw [← hx] at d0 bx
              clear hx
              have HM : Hid (M.length = l.length) := hM
              clear hM
              obtain ⟨z, hz, hz'⟩ : ∃ z, z = (x + 1) % 256 ∧ 0 ≤ z ∧ z ≤ 255 := ⟨_, rfl, by omega, by omega⟩
              have hwr : IntKind.u8.wrap (x + 1) = z := by rw [IntKind.wrap_u8', hz]
              clear hz
              · skip
                go_wp2_with fail
                go_roundw
                case rel =>
                  have hM := HM.out
                  refine ⟨k + 1, M.set k z, by omega, by go_num, by simpa using hM, hMb.set k hz'.1 hz'.2, ?_, hbelr.setCell hg _⟩
                  have := hownr.set (by simp [hM]) k z
                  rwa [List.set_append_left _ _ (by omega)] at this
                case measure => simp [intOf]; omega
            · have hrowM : Row wr (some ⟨g, 0, none⟩) M := by
                have := (hownr.row' (by simp; omega) (hMb.app (by unfold Bytes; decide))).head M.length
                rwa [List.take_left] at this
              have HM : Hid (M.length = l.length) := hM
              clear hM
              have pm := pt_bd hMb
              have pl := pt_bd hlb
              go_wp2_with fail
              refine (part_at _ M _ _ _ HM.out (by omega) (by exact hrowM)).mono ?_
              rintro e w' ⟨rfl, n3, rfl⟩
              go_wp2_with fail
              refine (of_at _ M _ _ _ HM.out (by omega) (by exact hrowM)).mono ?_
              rintro e w' ⟨rfl, n4, rfl⟩
              go_wp2_with fail
              refine (known_any _).mono ?_
              rintro e w6 ⟨rfl, hbel6⟩
              simp only [World.heap_drewN] at hbel6
              have hbel7 : Below w.heap.size w w6 := (below_drewN hbelr (n3 + n4)).trans (hbel6.mono hbelr.size)
              have hown6 := (hownr.drewN (n3 + n4)).below hbel6 (Nat.le_refl _)
              have hrow6 := (hrowM.drewN (n3 + n4)).below hbel6 (Nat.le_refl _)
              clear hbel6 hownr hbelr hrowM
              go_wp2_with fail
              refine (own_at _ M _ _ _ HM.out (by simp) (by exact hrow6)).mono ?_
              rintro e w7 ⟨v7, rfl, hown7, hbel8⟩
              have hbel9 : Below w.heap.size w w7 := hbel7.trans (hbel8.mono hbel7.size)
              have hown8 := hown6.below hbel8 (Nat.le_refl _)
              obtain ⟨a7, cap7, hv7, hcap7, _, hrow7⟩ := hown7.row (by rw [HM.out]; omega) hMb
              rw [hv7]
              clear hown6 hown7 hbel8 hrow6 hv7 hbel7
              go_wp2_with fail
              refine (part_at _ M _ _ _ rfl hcap7 (by exact hrow7)).mono ?_
              rintro e w' ⟨rfl, n5, rfl⟩
              go_wp2_with fail
              refine (part_at _ l _ _ _ rfl hc0 (by exact (hr.below hbel9 (Nat.le_refl _)).drewN _)).mono ?_
              rintro e w' ⟨rfl, n6, rfl⟩
              have x0 : w7.cell? ⟨g, l.length, none⟩ = some (.int .u8 171) := by
                have := (hown8.cells l.length (by simp; have := HM.out; omega)).1
                rw [List.getElem?_append_right (by have := HM.out; omega), HM.out, Nat.sub_self] at this
                exact this
              have x1 : w7.cell? ⟨g, l.length + 1, none⟩ = some (.int .u8 172) := by
                have := (hown8.cells (l.length + 1) (by simp; have := HM.out; omega)).1
                rw [List.getElem?_append_right (by have := HM.out; omega), HM.out, Nat.add_sub_cancel_left] at this
                exact this
              go_wp2_with fail
              go_ret
              exact ⟨rfl, below_drewN hbel9 (n5 + n6)⟩
    · skip
      go_enter Try.func5, Try.ntmps5
      go_wp2_with fail
      refine (own_any _ l _ _ ha hr).mono ?_
      rintro e w1 ⟨v, rfl, hown, hbel⟩
      have hsz := hbel.size
      go_wp2_with (at_builtin; refine wpList_app rfl _ _ rfl w.heap.size _ l [171, 172] rfl (hown.alloc _) ⟨w1.heap.size, 0, none⟩ 2 2 rfl rfl (lit_cells _ [171, 172] _ rfl) (by omega) (by simp; omega) ?_)
      intro v' w2 hown2 hgr
      have hbel2 : Below w.heap.size w w2 := (hown.alloc _).grown (hbel.alloc hsz _) hgr (by simp; omega) (Nat.le_refl _)
      clear hgr hown hbel hsz
      obtain ⟨g, cap, hv, hcap, hg, hcell, hfz⟩ := hown2.block (by simp)
      rw [hv] at hown2 ⊢
      have hll : (l ++ [171, 172]).length = l.length + 2 := by simp
      rw [hll] at hown2 hcap ⊢
      clear hv hcell hfz hll
      have hcap2 : l.length + 2 ≤ cap := hcap
      have hrow : Row w2 (some ⟨g, 0, none⟩) l := by
        have := (hown2.row' (by simp; omega) (hlb.app (by unfold Bytes; decide))).head l.length
        rwa [List.take_left] at this
      go_wp2_with fail
      refine (part_at _ l _ _ _ rfl (by omega) (by exact hrow)).mono ?_
      rintro e w' ⟨rfl, n1, rfl⟩
      go_wp2_with fail
      refine (of_at _ l _ _ _ rfl (by omega) (by exact hrow)).mono ?_
      rintro e w' ⟨rfl, n2, rfl⟩
      go_wp2_with fail
      go_loopw [9] (fun i wr => ∃ k n : Nat, k ≤ l.length ∧ i = .int .i64 k ∧ wr = w2.drewN n) (fun i _ => l.length - (intOf i).toNat)
      case atStart => exact ⟨0, n1 + n2, by omega, rfl, by simp⟩
      case round =>
        obtain ⟨k, n, hk, rfl, rfl⟩ := hrel
        by_cases hlt : k < l.length
        · have x0 : w2.cell? ⟨b0, off0 + k, none⟩ = some (.int .u8 (l[k]?.getD 0)) := by
              have := hcell0 k hlt
              rw [hbel2.cell (p := ⟨b0, off0 + k, none⟩) (by exact lt_of_cell this)]; exact this
          have x1 : w2.cell? ⟨g, k, none⟩ = some (.int .u8 (l[k]?.getD 0)) := by
              rcases hrow.2.2 with h | ⟨b', off', h, hc'⟩
              · subst h; simp at hlt
              · simp only [Option.some.injEq, Addr.mk.injEq] at h
                obtain ⟨rfl, rfl, _⟩ := h
                have := hc' k hlt
                rwa [Nat.zero_add] at this
          go_wp2_with fail
          go_quiet (fail)
          go_wp2_with fail
          go_roundw
          case rel => exact ⟨k + 1, _, by omega, by go_num, rfl⟩
          case measure => simp [intOf]; omega
        · obtain rfl : k = l.length := by omega
          clear hlt hk
          go_wp2_with fail
          go_loopw [10] (fun i wr => ∃ (k : Nat) (M : List Int), k ≤ l.length ∧ i = .int .i64 k ∧ M.length = l.length ∧ Bytes M ∧ Owns w.heap.size wr (.slice (some ⟨g, 0, none⟩) (l.length + 2) cap) (M ++ [171, 172]) ∧ Below w.heap.size w wr) (fun i _ => l.length - (intOf i).toNat)
          case atStart => exact ⟨0, l, by omega, rfl, rfl, hlb, hown2.drewN n, below_drewN hbel2 n⟩
          case round =>
            obtain ⟨k, M, hk, rfl, hM, hMb, hownr, hbelr⟩ := hrel
            by_cases hlt : k < l.length
            · obtain ⟨d0, f0⟩ := hownr.cells k (by simp; omega)
              have bx := (hMb.app (m := [171, 172]) (by unfold Bytes; decide)).getD k
              obtain ⟨x, hx⟩ : ∃ x, x = (M ++ [171, 172])[k]?.getD 0 := ⟨_, rfl⟩
              rw [← hx] at d0 bx
              clear hx
              have HM : Hid (M.length = l.length) := hM
              clear hM
              obtain ⟨z, hz, hz'⟩ : ∃ z, z = (x + 1) % 256 ∧ 0 ≤ z ∧ z ≤ 255 := ⟨_, rfl, by omega, by omega⟩
              have hwr : IntKind.u8.wrap (x + 1) = z := by rw [IntKind.wrap_u8', hz]
              clear hz
              by_cases hkm : k < m.length
              · skip
                have bl := hcell1 k hkm
                have hlt1 : b1 < w.heap.size := lt_of_cell bl
                have y0 : wr.cell? ⟨b1, off1 + k, none⟩ = some (.int .u8 (m[k]?.getD 0)) := by
                  rw [hbelr.cell (p := ⟨b1, off1 + k, none⟩) hlt1]; exact bl
                have by' := hr1.2.1.getD k
                obtain ⟨y, hy⟩ : ∃ y, y = m[k]?.getD 0 := ⟨_, rfl⟩
                rw [← hy] at y0 by'
                clear bl hy
                have hne : ¬ b1 = g := by omega
                have hne' : ¬ g = b1 := by omega
                go_wp2_with fail
                go_roundw
                case rel =>
                  have hM := HM.out
                  refine ⟨k + 1, (M.set k z).set k y, by omega, by go_num, by simpa using hM, (hMb.set k hz'.1 hz'.2).set k by'.1 by'.2, ?_, (hbelr.setCell hg _).setCell hg _⟩
                  have := (hownr.set (by simp [hM]) k z).set (by simp [hM]) k y
                  rwa [List.set_append_left _ _ (by omega), List.set_append_left _ _ (by simp; omega)] at this
                case measure => simp [intOf]; omega
              · skip
                go_wp2_with fail
                go_roundw
                case rel =>
                  have hM := HM.out
                  refine ⟨k + 1, M.set k z, by omega, by go_num, by simpa using hM, hMb.set k hz'.1 hz'.2, ?_, hbelr.setCell hg _⟩
                  have := hownr.set (by simp [hM]) k z
                  rwa [List.set_append_left _ _ (by omega)] at this
                case measure => simp [intOf]; omega
            · have hrowM : Row wr (some ⟨g, 0, none⟩) M := by
                have := (hownr.row' (by simp; omega) (hMb.app (by unfold Bytes; decide))).head M.length
                rwa [List.take_left] at this
              have HM : Hid (M.length = l.length) := hM
              clear hM
              have pm := pt_bd hMb
              have pl := pt_bd hlb
              go_wp2_with fail
              refine (part_at _ M _ _ _ HM.out (by omega) (by exact hrowM)).mono ?_
              rintro e w' ⟨rfl, n3, rfl⟩
              go_wp2_with fail
              refine (of_at _ M _ _ _ HM.out (by omega) (by exact hrowM)).mono ?_
              rintro e w' ⟨rfl, n4, rfl⟩
              go_wp2_with fail
              refine (known_any _).mono ?_
              rintro e w6 ⟨rfl, hbel6⟩
              simp only [World.heap_drewN] at hbel6
              have hbel7 : Below w.heap.size w w6 := (below_drewN hbelr (n3 + n4)).trans (hbel6.mono hbelr.size)
              have hown6 := (hownr.drewN (n3 + n4)).below hbel6 (Nat.le_refl _)
              have hrow6 := (hrowM.drewN (n3 + n4)).below hbel6 (Nat.le_refl _)
              clear hbel6 hownr hbelr hrowM
              go_wp2_with fail
              refine (own_at _ M _ _ _ HM.out (by simp) (by exact hrow6)).mono ?_
              rintro e w7 ⟨v7, rfl, hown7, hbel8⟩
              have hbel9 : Below w.heap.size w w7 := hbel7.trans (hbel8.mono hbel7.size)
              have hown8 := hown6.below hbel8 (Nat.le_refl _)
              obtain ⟨a7, cap7, hv7, hcap7, _, hrow7⟩ := hown7.row (by rw [HM.out]; omega) hMb
              rw [hv7]
              clear hown6 hown7 hbel8 hrow6 hv7 hbel7
              go_wp2_with fail
              refine (part_at _ M _ _ _ rfl hcap7 (by exact hrow7)).mono ?_
              rintro e w' ⟨rfl, n5, rfl⟩
              go_wp2_with fail
              refine (part_at _ l _ _ _ rfl hc0 (by exact (hr.below hbel9 (Nat.le_refl _)).drewN _)).mono ?_
              rintro e w' ⟨rfl, n6, rfl⟩
              have x0 : w7.cell? ⟨g, l.length, none⟩ = some (.int .u8 171) := by
                have := (hown8.cells l.length (by simp; have := HM.out; omega)).1
                rw [List.getElem?_append_right (by have := HM.out; omega), HM.out, Nat.sub_self] at this
                exact this
              have x1 : w7.cell? ⟨g, l.length + 1, none⟩ = some (.int .u8 172) := by
                have := (hown8.cells (l.length + 1) (by simp; have := HM.out; omega)).1
                rw [List.getElem?_append_right (by have := HM.out; omega), HM.out, Nat.add_sub_cancel_left] at this
                exact this
              go_wp2_with fail
              go_ret
              exact ⟨rfl, below_drewN hbel9 (n5 + n6)⟩

theorem walk (a0 : Option Addr) (len0 cap0 : Nat) (z0 : List Int) (a1 : Option Addr) (len1 cap1 : Nat) (z1 : List Int) (w : World) (w0 : IsRow .u8 w a0 len0 cap0 z0) (w1 : IsRow .u8 w a1 len1 cap1 z1) :
    Calls Try.prog 5 #[.slice a0 len0 cap0, .slice a1 len1 cap1] w fun e w' => e = .returned (.bool true) ∧ Below w.heap.size w w' := by
  have ha : a0 = none → cap0 = 0 := by rcases w0 with ⟨_, _, h, _⟩ | ⟨x, h, _⟩ <;> simp_all
  obtain ⟨l, rfl, h1, h2, hr⟩ := view w0
  obtain ⟨m, rfl, g1, g2, hr1⟩ := view w1
  exact walkl a0 l cap0 a1 m cap1 w h1 h2 ha hr g1 g2 hr1

set_option maxRecDepth 100000 in
theorem lifted (os : Os) (started : os.Started) (H : Type) (enc : TypeId × Value → H) :
    ReturnsInHanded {} Try.checked os 5 .any (Rows.sumKeepsSpec.pre6 enc Try.prog Try.f5 Rows.sumKeepsRow.domain false) (Rows.sumKeepsSpec.post enc Try.prog Try.f5 false true false false) := by
  refine returnsInHanded_of_change_sized (C := Try.checked) ownKn started (by kernel_rfl) Try.func5
    (ChangeSpec.witness6 (enc := enc) (C := Try.checked) false ⟨#[], #[.slice none 0 0, .slice none 0 0], []⟩ 8 (by kernel_rfl) (by kernel_rfl) (by kernel_rfl) (by kernel_rfl)) ?_
  intro W base args ds gs before hval0 hW _ hsz0 _
  have hsz : (DataW.weightsEach Try.prog (Try.f5.params.toList ++ Rows.sumKeepsSpec.plain.varTypes Try.prog) (ds ++ gs)).all (· ≤ reachBytes) = true := hsz0
  clear hsz0
  have hval : ∀ (j : Nat) t v, Try.f5.params[j]? = some t → args[j]? = some v → Value.okWide Try.prog W .any base t v := hval0
  have hW' := hW
  obtain ⟨p, q, hA0, hV, rfl, hfz, hnd⟩ := hW
  have hA : DataW.TrodAll enc Try.prog W 0 (fun _ => true) true Try.f5.params.toList args.toList ds p := hA0
  rw [Try.params5] at hA hval hsz
  obtain ⟨v0, vs0, d0, ds0, p0, q0, hargs, rfl, rfl, h0, r0⟩ := trodAll_cons hA
  obtain ⟨v1, vs1, d1, ds1, p1, q1, rfl, rfl, rfl, h1, r1⟩ := trodAll_cons r0
  obtain ⟨rfl, rfl, rfl⟩ := trodAll_nil r1
  obtain rfl : args = #[v0, v1] := by cases args; simp_all
  obtain ⟨rfl, rfl⟩ := trodVars_none hV
  obtain ⟨a0, len0, cap0, rfl⟩ := okWide_slice Try.underlying26 (hval 0 26 v0 rfl rfl)
  have k0 := h0
  have lt0 : ∀ x ∈ p0, x.block < W.heap.size := by obtain ⟨m, hm⟩ := k0; exact DataW.trod_lt m _ _ _ hm
  obtain ⟨z0, w0⟩ : ∃ zs, IsRow .u8 W a0 len0 cap0 zs := by
    obtain ⟨fuel, hf⟩ := h0
    rcases open_ints Try.underlying26 Try.underlying5 (by kernel_rfl) hf with ⟨hcs, _⟩ | ⟨x, l, c, zs, hcs, _, hl, hm, hz, hx, hcell, hwz⟩
    · simp [Value.cells] at hcs
      obtain ⟨rfl, rfl, rfl⟩ := hcs
      exact ⟨[], .inl ⟨rfl, rfl, rfl, rfl⟩⟩
    · simp [Value.cells] at hcs
      obtain ⟨rfl, rfl, rfl⟩ := hcs
      simp only [Prod.mk.injEq] at hx
      obtain ⟨rfl, hpl⟩ := hx
      have hreach : cap0 * kindBytes .u8 ≤ 140737488351232 := by
        have := sized_slice hsz (j := 0) (t := 26) (e := 5) rfl rfl Try.underlying26
        rw [show Try.prog.bytesOf 5 = kindBytes .u8 from by kernel_rfl] at this
        simp only [lits, List.length_map, List.length_take, List.length_drop, reachBytes] at this
        simp only [if_true] at hz
        rw [show min len0 zs.length + (zs.length - len0) = cap0 from by omega] at this
        exact this
      exact ⟨zs, .inr ⟨_, rfl, hl, hreach, by simpa using hz, hcell, hwz⟩⟩
  obtain ⟨a1, len1, cap1, rfl⟩ := okWide_slice Try.underlying26 (hval 1 26 v1 rfl rfl)
  have k1 := h1
  have lt1 : ∀ x ∈ p1, x.block < W.heap.size := by obtain ⟨m, hm⟩ := k1; exact DataW.trod_lt m _ _ _ hm
  obtain ⟨z1, w1⟩ : ∃ zs, IsRow .u8 W a1 len1 cap1 zs := by
    obtain ⟨fuel, hf⟩ := h1
    rcases open_ints Try.underlying26 Try.underlying5 (by kernel_rfl) hf with ⟨hcs, _⟩ | ⟨x, l, c, zs, hcs, _, hl, hm, hz, hx, hcell, hwz⟩
    · simp [Value.cells] at hcs
      obtain ⟨rfl, rfl, rfl⟩ := hcs
      exact ⟨[], .inl ⟨rfl, rfl, rfl, rfl⟩⟩
    · simp [Value.cells] at hcs
      obtain ⟨rfl, rfl, rfl⟩ := hcs
      simp only [Prod.mk.injEq] at hx
      obtain ⟨rfl, hpl⟩ := hx
      have hreach : cap1 * kindBytes .u8 ≤ 140737488351232 := by
        have := sized_slice hsz (j := 1) (t := 26) (e := 5) rfl rfl Try.underlying26
        rw [show Try.prog.bytesOf 5 = kindBytes .u8 from by kernel_rfl] at this
        simp only [lits, List.length_map, List.length_take, List.length_drop, reachBytes] at this
        simp only [if_true] at hz
        rw [show min len1 zs.length + (zs.length - len1) = cap1 from by omega] at this
        exact this
      exact ⟨zs, .inr ⟨_, rfl, hl, hreach, by simpa using hz, hcell, hwz⟩⟩
  clear hA0 hval0
  refine (walk a0 len0 cap0 z0 a1 len1 cap1 z1 W w0 w1).mono fun e W' ⟨he, bel⟩ => ?_
  subst he
  exact ⟨_, rfl, _, _, _, [], _, [], hW', trodAll_mk1 (shut_bool Try.underlying4 _), (trodAll_cons_mk (Below.trod laidOut (by kernel_rfl) (of_decide_eq_true (by kernel_rfl)) k0 bel lt0) (trodAll_cons_mk (Below.trod laidOut (by kernel_rfl) (of_decide_eq_true (by kernel_rfl)) k1 bel lt1) trodAll_mk0)), rfl, bel.frame _, fun h => by cases h⟩

theorem over : Rows.sumKeepsRow.holds Try.pinned (OpenSpec.ofChange Rows.sumKeepsSpec) :=
  OpenClaim.holds_of_wide 5 Try.f5 rfl rfl rfl rfl rfl rfl rfl ⟨rfl, rfl, rfl, rfl, rfl⟩ rfl rfl rfl rfl rfl (by kernel_rfl) Try.func5 (by kernel_rfl)
    (of_decide_eq_true (by kernel_rfl)) (by unfold Func.isWrapper; first | (rw [if_pos (by decide +kernel)]; kernel_rfl) | (rw [if_neg (by decide +kernel)]; exact ⟨rfl, rfl⟩))
    (fun os started H enc _ => lifted os started H enc)

end Go.Proofs.Ytbjnhjdbnliofaa.sumKeeps
namespace Go.Proofs.Ytbjnhjdbnliofaa
theorem sumKeeps_holds : Rows.SumKeepsSaid := sumKeeps.over
#print axioms sumKeeps_holds
end Go.Proofs.Ytbjnhjdbnliofaa

