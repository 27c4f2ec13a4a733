/-
  SumPieces: the walk, and the row's step.
-/
import Derived.Test.YtbjnhjdbnliofaaKit
namespace Go.Proofs.Ytbjnhjdbnliofaa.sumPieces
open Go.ChangeShapes Go.WideShapes Go.ChangeAt Go.RowKit Num
set_option linter.unusedVariables false

set_option maxHeartbeats 2000000 in
theorem walkl (a0 : Option Addr) (l : List Int) (cap0 : Nat) (a1 : Option Addr) (len1 cap1 : Nat) (z1 : List Int) (w : World) (hc0 : l.length ≤ cap0) (hr : Row w a0 l) (hl1 : len1 ≤ 140737488351232)
    (h1 : len1 = 0 ∨ ∃ b off, a1 = some ⟨b, off, none⟩ ∧ ∀ i, i < len1 → w.cell? ⟨b, off + i, none⟩ = some (.int .i64 (z1[i]?.getD 0))) (hz : ∀ i : Nat, -9223372036854775808 ≤ z1[i]?.getD 0 ∧ z1[i]?.getD 0 ≤ 9223372036854775807) :
    Calls Try.prog 4 #[.slice a0 l.length cap0, .slice a1 len1 cap1] w fun e w' => e = .returned (.bool true) ∧ Below w.heap.size w w' := by
  have hlen := hr.1
  rcases h1 with rfl | ⟨b1, off1, rfl, hcell⟩
  · go_enter Try.func4, Try.ntmps4
    go_wp2_with fail
    refine (known_any _).mono ?_
    rintro e w1 ⟨rfl, hbel⟩
    go_wp2_with fail
    refine (part_at _ l _ _ _ rfl hc0 (hr.below hbel (Nat.le_refl _))).mono ?_
    rintro e w' ⟨rfl, n, rfl⟩
    go_wp2_with fail
    go_loopw [6, 7, 8, 9] (fun s6 s7 s8 s9 wr => ∃ (k i n : Nat), k ≤ l.length ∧ i ≤ 0 + 1 ∧ (i = 0 + 1 → k = l.length) ∧ s6 = .int .i64 k ∧ s7 = .int .i64 k ∧ s8 = .int .u16 (pt (l.take k)) ∧ s9 = .int .i64 i ∧ wr = w1.drewN n)
      (fun _ _ _ i _ => 0 + 1 - (intOf i).toNat)
    case atStart => exact ⟨0, 0, n, by omega, by omega, by omega, rfl, rfl, rfl, rfl, rfl⟩
    case round =>
      obtain ⟨k, i, m, hk, hi, hend, rfl, rfl, rfl, rfl, rfl⟩ := hrel
      have hr1 := hr.below hbel (Nat.le_refl _)
      have HE : Hid (i = 0 + 1 → k = l.length) := hend
      clear hend
      by_cases hi1 : i < 0
      · exact absurd hi1 (by omega)
      · by_cases hi2 : i ≤ 0
        · have ts : l.take k ++ l.drop k = l := List.take_append_drop _ _
          have TS : Hid (l.take k ++ l.drop k = l) := ts
          clear ts
          obtain ⟨A1, hA1⟩ : ∃ A, A = if cap0 = k then a0 else a0.map (·.add k) := ⟨_, rfl⟩
          obtain ⟨A2, hA2⟩ : ∃ A, A = if cap0 = l.length then a0 else a0.map (·.add l.length) := ⟨_, rfl⟩
          have s1 := fun wx => slice_lh a0 A1 l.length cap0 k (l.length - k) k l.length hA1 rfl (by omega) (by omega) wx
          have s2 := fun wx => slice_l a0 A2 l.length cap0 l.length l.length hA2 rfl (Nat.le_refl _) wx
          have R1 := hr1.tail k cap0 hc0 hk
          have R2 := hr1.tail l.length cap0 hc0 (Nat.le_refl _)
          rw [← hA1] at R1
          rw [← hA2, List.drop_length] at R2
          clear hA1 hA2
          go_wp2_with fail
          refine (part_at _ (l.drop k) _ _ _ (by simp) (by omega) (by exact R1)).mono ?_
          rintro e w' ⟨rfl, n1, rfl⟩
          go_wp2_with fail
          refine (join_at (l.take k) (l.drop k) l _ _ (hr1.2.1.take _) (hr1.2.1.drop _) (by simp; omega) (by simp; omega) TS.out).mono ?_
          rintro e w' ⟨rfl, rfl⟩
          go_wp2_with fail
          refine (part_at _ l _ _ _ rfl (by omega) (by exact hr1)).mono ?_
          rintro e w' ⟨rfl, n2, rfl⟩
          go_wp2_with fail
          refine (part_at _ [] _ _ _ (by simp) (by omega) (by exact R2)).mono ?_
          rintro e w' ⟨rfl, n3, rfl⟩
          go_wp2_with fail
          refine (join_at l [] l _ _ hr1.2.1 Bytes.nil rfl hlen (by simp)).mono ?_
          rintro e w' ⟨rfl, rfl⟩
          go_wp2_with fail
          go_roundw
          case rel => first | exact ⟨l.length, i + 1, _, by omega, by omega, fun _ => rfl, rfl, by go_num, by simp, by go_num, rfl⟩ | exact ⟨l.length, 1, _, by omega, by omega, fun _ => rfl, rfl, by go_num, by simp, by go_num, rfl⟩
          case measure => simp [intOf]; omega
        · obtain rfl : k = l.length := HE.out (by omega)
          clear HE
          go_wp2_with fail
          go_ret
          exact ⟨rfl, below_drewN hbel m⟩
  · go_enter Try.func4, Try.ntmps4
    go_wp2_with fail
    refine (known_any _).mono ?_
    rintro e w1 ⟨rfl, hbel⟩
    go_wp2_with fail
    refine (part_at _ l _ _ _ rfl hc0 (hr.below hbel (Nat.le_refl _))).mono ?_
    rintro e w' ⟨rfl, n, rfl⟩
    go_wp2_with fail
    go_loopw [6, 7, 8, 9] (fun s6 s7 s8 s9 wr => ∃ (k i n : Nat), k ≤ l.length ∧ i ≤ len1 + 1 ∧ (i = len1 + 1 → k = l.length) ∧ s6 = .int .i64 k ∧ s7 = .int .i64 k ∧ s8 = .int .u16 (pt (l.take k)) ∧ s9 = .int .i64 i ∧ wr = w1.drewN n)
      (fun _ _ _ i _ => len1 + 1 - (intOf i).toNat)
    case atStart => exact ⟨0, 0, n, by omega, by omega, by omega, rfl, rfl, rfl, rfl, rfl⟩
    case round =>
      obtain ⟨k, i, m, hk, hi, hend, rfl, rfl, rfl, rfl, rfl⟩ := hrel
      have hr1 := hr.below hbel (Nat.le_refl _)
      have HE : Hid (i = len1 + 1 → k = l.length) := hend
      clear hend
      by_cases hi1 : i < len1
      · have hcx : w1.cell? ⟨b1, off1 + i, none⟩ = some (.int .i64 (z1[i]?.getD 0)) := by
          have := hcell i hi1
          rw [hbel.cell (p := ⟨b1, off1 + i, none⟩) (by exact lt_of_cell this)]; exact this
        have hzi := hz i
        go_wp2_with fail
        refine (rest_at _ _ _ hzi (by omega) (by omega)).mono ?_
        rintro e w' ⟨t, rfl, ht, rfl⟩
        have hT : k + t ≤ l.length := by omega
        have ts : l.take k ++ (l.drop k).take t = l.take (k + t) := by rw [List.take_add]
        have td : l.take (k + t) ++ l.drop (k + t) = l := List.take_append_drop _ _
        have TS : Hid (l.take k ++ (l.drop k).take t = l.take (k + t)) := ts
        have TD : Hid (l.take (k + t) ++ l.drop (k + t) = l) := td
        clear ts td
        obtain ⟨A1, hA1⟩ : ∃ A, A = if cap0 = k then a0 else a0.map (·.add k) := ⟨_, rfl⟩
        obtain ⟨A2, hA2⟩ : ∃ A, A = if cap0 = k + t then a0 else a0.map (·.add (k + t)) := ⟨_, rfl⟩
        have s1 := fun wx => slice_lh a0 A1 l.length cap0 k t k (k + t) hA1 rfl rfl (by omega) wx
        have s2 := fun wx => slice_l a0 A2 l.length cap0 (k + t) (k + t) hA2 (by omega) (by omega) wx
        have R1 := hr1.sub k t cap0 hc0 hk
        have R2 := hr1.tail (k + t) cap0 hc0 hT
        rw [← hA1] at R1
        rw [← hA2] at R2
        clear hA1 hA2
        go_wp2_with fail
        refine (part_at _ ((l.drop k).take t) _ _ _ (by simp; omega) (by omega) (by exact R1)).mono ?_
        rintro e w' ⟨rfl, n1, rfl⟩
        go_wp2_with fail
        refine (join_at (l.take k) ((l.drop k).take t) (l.take (k + t)) _ _ (hr1.2.1.take _) ((hr1.2.1.drop _).take _) (by simp; omega) (by simp; omega) TS.out).mono ?_
        rintro e w' ⟨rfl, rfl⟩
        go_wp2_with fail
        refine (part_at _ (l.take (k + t)) _ _ _ (by simp; omega) (by omega) (by exact hr1.head _)).mono ?_
        rintro e w' ⟨rfl, n2, rfl⟩
        go_wp2_with fail
        refine (part_at _ (l.drop (k + t)) _ _ _ (by simp) (by omega) (by exact R2)).mono ?_
        rintro e w' ⟨rfl, n3, rfl⟩
        go_wp2_with fail
        refine (join_at (l.take (k + t)) (l.drop (k + t)) l _ _ (hr1.2.1.take _) (hr1.2.1.drop _) (by simp; omega) (by simp; omega) TD.out).mono ?_
        rintro e w' ⟨rfl, rfl⟩
        go_wp2_with fail
        go_roundw
        case rel => exact ⟨k + t, i + 1, _, by omega, by omega, by omega, by go_num, by go_num, rfl, by go_num, rfl⟩
        case measure => simp [intOf]; omega
      · by_cases hi2 : i ≤ len1
        · have ts : l.take k ++ l.drop k = l := List.take_append_drop _ _
          have TS : Hid (l.take k ++ l.drop k = l) := ts
          clear ts
          obtain ⟨A1, hA1⟩ : ∃ A, A = if cap0 = k then a0 else a0.map (·.add k) := ⟨_, rfl⟩
          obtain ⟨A2, hA2⟩ : ∃ A, A = if cap0 = l.length then a0 else a0.map (·.add l.length) := ⟨_, rfl⟩
          have s1 := fun wx => slice_lh a0 A1 l.length cap0 k (l.length - k) k l.length hA1 rfl (by omega) (by omega) wx
          have s2 := fun wx => slice_l a0 A2 l.length cap0 l.length l.length hA2 rfl (Nat.le_refl _) wx
          have R1 := hr1.tail k cap0 hc0 hk
          have R2 := hr1.tail l.length cap0 hc0 (Nat.le_refl _)
          rw [← hA1] at R1
          rw [← hA2, List.drop_length] at R2
          clear hA1 hA2
          go_wp2_with fail
          refine (part_at _ (l.drop k) _ _ _ (by simp) (by omega) (by exact R1)).mono ?_
          rintro e w' ⟨rfl, n1, rfl⟩
          go_wp2_with fail
          refine (join_at (l.take k) (l.drop k) l _ _ (hr1.2.1.take _) (hr1.2.1.drop _) (by simp; omega) (by simp; omega) TS.out).mono ?_
          rintro e w' ⟨rfl, rfl⟩
          go_wp2_with fail
          refine (part_at _ l _ _ _ rfl (by omega) (by exact hr1)).mono ?_
          rintro e w' ⟨rfl, n2, rfl⟩
          go_wp2_with fail
          refine (part_at _ [] _ _ _ (by simp) (by omega) (by exact R2)).mono ?_
          rintro e w' ⟨rfl, n3, rfl⟩
          go_wp2_with fail
          refine (join_at l [] l _ _ hr1.2.1 Bytes.nil rfl hlen (by simp)).mono ?_
          rintro e w' ⟨rfl, rfl⟩
          go_wp2_with fail
          go_roundw
          case rel => first | exact ⟨l.length, i + 1, _, by omega, by omega, fun _ => rfl, rfl, by go_num, by simp, by go_num, rfl⟩ | exact ⟨l.length, 1, _, by omega, by omega, fun _ => rfl, rfl, by go_num, by simp, by go_num, rfl⟩
          case measure => simp [intOf]; omega
        · obtain rfl : k = l.length := HE.out (by omega)
          clear HE
          go_wp2_with fail
          go_ret
          exact ⟨rfl, below_drewN hbel m⟩

theorem walk (a0 : Option Addr) (len0 cap0 : Nat) (z0 : List Int) (a1 : Option Addr) (len1 cap1 : Nat) (z1 : List Int) (w : World) (w0 : IsRow .u8 w a0 len0 cap0 z0) (w1 : IsRow .i64 w a1 len1 cap1 z1) :
    Calls Try.prog 4 #[.slice a0 len0 cap0, .slice a1 len1 cap1] w fun e w' => e = .returned (.bool true) ∧ Below w.heap.size w w' := by
  obtain ⟨l, rfl, h1, h2, hr⟩ := view w0
  obtain ⟨g1, g2, g3⟩ := view64 w1
  exact walkl a0 l cap0 a1 len1 cap1 z1 w h1 hr g1 g2 g3

set_option maxRecDepth 100000 in
theorem lifted (os : Os) (started : os.Started) (H : Type) (enc : TypeId × Value → H) :
    ReturnsInHanded {} Try.checked os 4 .any (Rows.sumPiecesSpec.pre6 enc Try.prog Try.f4 Rows.sumPiecesRow.domain false) (Rows.sumPiecesSpec.post enc Try.prog Try.f4 false true false false) := by
  refine returnsInHanded_of_change_sized (C := Try.checked) ownKn started (by kernel_rfl) Try.func4
    (ChangeSpec.witness6 (enc := enc) (C := Try.checked) false ⟨#[], #[.slice none 0 0, .slice none 0 0], []⟩ 8 (by kernel_rfl) (by kernel_rfl) (by kernel_rfl) (by kernel_rfl)) ?_
  intro W base args ds gs before hval0 hW _ hsz0 _
  have hsz : (DataW.weightsEach Try.prog (Try.f4.params.toList ++ Rows.sumPiecesSpec.plain.varTypes Try.prog) (ds ++ gs)).all (· ≤ reachBytes) = true := hsz0
  clear hsz0
  have hval : ∀ (j : Nat) t v, Try.f4.params[j]? = some t → args[j]? = some v → Value.okWide Try.prog W .any base t v := hval0
  have hW' := hW
  obtain ⟨p, q, hA0, hV, rfl, hfz, hnd⟩ := hW
  have hA : DataW.TrodAll enc Try.prog W 0 (fun _ => true) true Try.f4.params.toList args.toList ds p := hA0
  rw [Try.params4] at hA hval hsz
  obtain ⟨v0, vs0, d0, ds0, p0, q0, hargs, rfl, rfl, h0, r0⟩ := trodAll_cons hA
  obtain ⟨v1, vs1, d1, ds1, p1, q1, rfl, rfl, rfl, h1, r1⟩ := trodAll_cons r0
  obtain ⟨rfl, rfl, rfl⟩ := trodAll_nil r1
  obtain rfl : args = #[v0, v1] := by cases args; simp_all
  obtain ⟨rfl, rfl⟩ := trodVars_none hV
  obtain ⟨a0, len0, cap0, rfl⟩ := okWide_slice Try.underlying26 (hval 0 26 v0 rfl rfl)
  have k0 := h0
  have lt0 : ∀ x ∈ p0, x.block < W.heap.size := by obtain ⟨m, hm⟩ := k0; exact DataW.trod_lt m _ _ _ hm
  obtain ⟨z0, w0⟩ : ∃ zs, IsRow .u8 W a0 len0 cap0 zs := by
    obtain ⟨fuel, hf⟩ := h0
    rcases open_ints Try.underlying26 Try.underlying5 (by kernel_rfl) hf with ⟨hcs, _⟩ | ⟨x, l, c, zs, hcs, _, hl, hm, hz, hx, hcell, hwz⟩
    · simp [Value.cells] at hcs
      obtain ⟨rfl, rfl, rfl⟩ := hcs
      exact ⟨[], .inl ⟨rfl, rfl, rfl, rfl⟩⟩
    · simp [Value.cells] at hcs
      obtain ⟨rfl, rfl, rfl⟩ := hcs
      simp only [Prod.mk.injEq] at hx
      obtain ⟨rfl, hpl⟩ := hx
      have hreach : cap0 * kindBytes .u8 ≤ 140737488351232 := by
        have := sized_slice hsz (j := 0) (t := 26) (e := 5) rfl rfl Try.underlying26
        rw [show Try.prog.bytesOf 5 = kindBytes .u8 from by kernel_rfl] at this
        simp only [lits, List.length_map, List.length_take, List.length_drop, reachBytes] at this
        simp only [if_true] at hz
        rw [show min len0 zs.length + (zs.length - len0) = cap0 from by omega] at this
        exact this
      exact ⟨zs, .inr ⟨_, rfl, hl, hreach, by simpa using hz, hcell, hwz⟩⟩
  obtain ⟨a1, len1, cap1, rfl⟩ := okWide_slice Try.underlying27 (hval 1 27 v1 rfl rfl)
  have k1 := h1
  have lt1 : ∀ x ∈ p1, x.block < W.heap.size := by obtain ⟨m, hm⟩ := k1; exact DataW.trod_lt m _ _ _ hm
  obtain ⟨z1, w1⟩ : ∃ zs, IsRow .i64 W a1 len1 cap1 zs := by
    obtain ⟨fuel, hf⟩ := h1
    rcases open_ints Try.underlying27 Try.underlying3 (by kernel_rfl) hf with ⟨hcs, _⟩ | ⟨x, l, c, zs, hcs, _, hl, hm, hz, hx, hcell, hwz⟩
    · simp [Value.cells] at hcs
      obtain ⟨rfl, rfl, rfl⟩ := hcs
      exact ⟨[], .inl ⟨rfl, rfl, rfl, rfl⟩⟩
    · simp [Value.cells] at hcs
      obtain ⟨rfl, rfl, rfl⟩ := hcs
      simp only [Prod.mk.injEq] at hx
      obtain ⟨rfl, hpl⟩ := hx
      have hreach : cap1 * kindBytes .i64 ≤ 140737488351232 := by
        have := sized_slice hsz (j := 1) (t := 27) (e := 3) rfl rfl Try.underlying27
        rw [show Try.prog.bytesOf 3 = kindBytes .i64 from by kernel_rfl] at this
        simp only [lits, List.length_map, List.length_take, List.length_drop, reachBytes] at this
        simp only [if_true] at hz
        rw [show min len1 zs.length + (zs.length - len1) = cap1 from by omega] at this
        exact this
      exact ⟨zs, .inr ⟨_, rfl, hl, hreach, by simpa using hz, hcell, hwz⟩⟩
  clear hA0 hval0
  refine (walk a0 len0 cap0 z0 a1 len1 cap1 z1 W w0 w1).mono fun e W' ⟨he, bel⟩ => ?_
  subst he
  exact ⟨_, rfl, _, _, _, [], _, [], hW', trodAll_mk1 (shut_bool Try.underlying4 _), (trodAll_cons_mk (Below.trod laidOut (by kernel_rfl) (of_decide_eq_true (by kernel_rfl)) k0 bel lt0) (trodAll_cons_mk (Below.trod laidOut (by kernel_rfl) (of_decide_eq_true (by kernel_rfl)) k1 bel lt1) trodAll_mk0)), rfl, bel.frame _, fun h => by cases h⟩

theorem over : Rows.sumPiecesRow.holds Try.pinned (OpenSpec.ofChange Rows.sumPiecesSpec) :=
  OpenClaim.holds_of_wide 4 Try.f4 rfl rfl rfl rfl rfl rfl rfl ⟨rfl, rfl, rfl, rfl, rfl⟩ rfl rfl rfl rfl rfl (by kernel_rfl) Try.func4 (by kernel_rfl)
    (of_decide_eq_true (by kernel_rfl)) (by unfold Func.isWrapper; first | (rw [if_pos (by decide +kernel)]; kernel_rfl) | (rw [if_neg (by decide +kernel)]; exact ⟨rfl, rfl⟩))
    (fun os started H enc _ => lifted os started H enc)

end Go.Proofs.Ytbjnhjdbnliofaa.sumPieces
namespace Go.Proofs.Ytbjnhjdbnliofaa
theorem sumPieces_holds : Rows.SumPiecesSaid := sumPieces.over
#print axioms sumPieces_holds
end Go.Proofs.Ytbjnhjdbnliofaa

