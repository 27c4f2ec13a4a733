/-
  SumOrders: the walk, and the row's step.
-/
import Derived.Test.YtbjnhjdbnliofaaSwap
import Derived.BigRegion
namespace Go.Proofs.Ytbjnhjdbnliofaa.sumOrders
open Go.ChangeShapes Go.WideShapes Go.ChangeAt Go.RowKit Num
set_option linter.unusedVariables false

/-- Two words in each other's place. -/
theorem pt_exch (l : List Int) (s t : Nat) (hs : 2 * s + 1 < l.length) (ht : 2 * t + 1 < l.length) :
    pt (((((l.set (2 * s) (l[2 * t]?.getD 0)).set (2 * s + 1) (l[2 * t + 1]?.getD 0)).set (2 * t) (l[2 * s]?.getD 0)).set (2 * t + 1) (l[2 * s + 1]?.getD 0))) = pt l := by
  have e1 := ws_word l s (l[2 * t]?.getD 0) (l[2 * t + 1]?.getD 0) hs
  have e2 := ws_word ((l.set (2 * s) (l[2 * t]?.getD 0)).set (2 * s + 1) (l[2 * t + 1]?.getD 0)) t (l[2 * s]?.getD 0) (l[2 * s + 1]?.getD 0) (by simpa using ht)
  have x0 : ((l.set (2 * s) (l[2 * t]?.getD 0)).set (2 * s + 1) (l[2 * t + 1]?.getD 0))[2 * t]?.getD 0 = l[2 * t]?.getD 0 := by
    rw [List.getElem?_set_ne (by omega)]
    by_cases h : s = t
    · subst h; simp [show 2 * s < l.length from by omega]
    · rw [List.getElem?_set_ne (by omega)]
  have x1 : ((l.set (2 * s) (l[2 * t]?.getD 0)).set (2 * s + 1) (l[2 * t + 1]?.getD 0))[2 * t + 1]?.getD 0 = l[2 * t + 1]?.getD 0 := by
    by_cases h : s = t
    · subst h; simp [hs]
    · rw [List.getElem?_set_ne (by omega), List.getElem?_set_ne (by omega)]
  rw [x0, x1] at e2
  unfold pt
  rw [e2, e1]
  congr 1
  omega

set_option maxHeartbeats 2000000 in
theorem walkl (a0 : Option Addr) (l : List Int) (cap0 : Nat) (i j : Int) (w : World) (hc0 : l.length ≤ cap0) (hc1 : cap0 ≤ 140737488351232) (ha : a0 = none → cap0 = 0) (hr : Row w a0 l) (hi : -9223372036854775808 ≤ i ∧ i ≤ 9223372036854775807) (hj : -9223372036854775808 ≤ j ∧ j ≤ 9223372036854775807) :
    Calls Try.prog 7 #[.slice a0 l.length cap0, .int .i64 i, .int .i64 j] w fun e w' => e = .returned (.bool true) ∧ Below w.heap.size w w' := by
  have hlb := hr.2.1
  have pl := pt_bd hlb
  have HS := or_swap pl.1 pl.2
  go_enter Try.func7, Try.ntmps7
  go_wp2_with fail
  refine (known_any _).mono ?_
  rintro e w1 ⟨rfl, hbel⟩
  have hr1 := hr.below hbel (Nat.le_refl _)
  go_wp2_with fail
  refine (part_at _ l _ _ _ rfl hc0 (by exact hr1)).mono ?_
  rintro e w' ⟨rfl, n1, rfl⟩
  go_wp2_with fail
  refine (swapped_any _ l _ _ hc0 (by omega) (by exact hr1.drewN n1)).mono ?_
  rintro e w2 ⟨v, rfl, hown, hbel2⟩
  simp only [World.heap_drewN] at hown hbel2
  have hsl := swp_len l
  have hsb := swp_bytes l hlb
  have hbel3 : Below w.heap.size w w2 := (below_drewN hbel n1).trans (hbel2.mono hbel.size)
  obtain ⟨a2, cap2, hv, hcap2, _, hrow2⟩ := hown.row (by omega) hsb
  rw [hv]
  have hr2 := (hr1.drewN n1).below hbel2 (Nat.le_refl _)
  have PS : Hid (pt (swp l) = swap (pt l)) := pt_swp hlb
  clear hv hown hbel2 hr1 hbel
  go_wp2_with fail
  refine (part_at _ (swp l) _ _ _ rfl hcap2 (by exact hrow2)).mono ?_
  rintro e w' ⟨rfl, n2, rfl⟩
  have e0 : (pt (swp l) != swap (pt l)) = false := by rw [PS.out]; simp
  go_wp2_with fail
  refine (of_at _ l _ _ _ rfl hc0 (by exact hr2)).mono ?_
  rintro e w' ⟨rfl, n3, rfl⟩
  by_cases hn : l.length < 2
  · by_cases h1 : l.length = 1
    · obtain ⟨x, hx⟩ := List.length_eq_one_iff.mp h1
      subst hx
      obtain ⟨b, off, ha0, hcell⟩ : ∃ b off, a0 = some ⟨b, off, none⟩ ∧ ∀ i, i < [x].length → w.cell? ⟨b, off + i, none⟩ = some (.int .u8 ([x][i]?.getD 0)) := by
        rcases hr.2.2 with h | h
        · simp at h
        · exact h
      subst ha0
      have hb : b < w.heap.size := lt_of_cell (hcell 0 (by simp))
      have c0 : w2.cell? ⟨b, off, none⟩ = some (.int .u8 x) := by
        rw [hbel3.cell (p := ⟨b, off, none⟩) hb]; exact hcell 0 (by simp)
      have bx := hlb.head
      have e1 : (pt [x] == x * 256) = true := by
        have : pt [x] = 256 * x := by unfold pt; simp only [ws]; rw [fold_self (by omega) (by omega)]; omega
        rw [this]; simp; omega
      clear hcell hr hr2 h1 hn
      go_wp2_with fail
      go_ret
      exact ⟨rfl, below_drewN hbel3 (n2 + n3)⟩
    · have hx : l = [] := List.eq_nil_of_length_eq_zero (by omega)
      subst hx
      have e1 : (pt [] == 0) = true := by decide
      clear hr hr2 h1 hn
      go_wp2_with fail
      go_ret
      exact ⟨rfl, below_drewN hbel3 (n2 + n3)⟩
  · have h2 : 2 ≤ l.length := by omega
    obtain ⟨b, off, ha0, hcell⟩ : ∃ b off, a0 = some ⟨b, off, none⟩ ∧ ∀ i, i < l.length → w.cell? ⟨b, off + i, none⟩ = some (.int .u8 (l[i]?.getD 0)) := by
      rcases hr.2.2 with h | h
      · rw [h] at h2; simp at h2
      · exact h
    subst ha0
    go_wp2_with fail
    refine (own_any _ l _ _ (by simp) (by exact hr2)).mono ?_
    rintro e w3 ⟨v3, rfl, hown3, hbel4⟩
    simp only [World.heap_drewN] at hown3 hbel4
    have hbel5 : Below w.heap.size w w3 := (below_drewN hbel3 (n2 + n3)).trans (hbel4.mono hbel3.size)
    obtain ⟨g, cap, hv, hcap, hg, hcg, hfg⟩ := hown3.block (by omega)
    rw [hv] at hown3 ⊢
    have hgw : w.heap.size ≤ g := by have := hbel3.size; omega
    clear hv hbel4 hr2 hrow2 e0 HS
    go_wp2_with fail
    refine (rest_at _ _ _ hi (by omega) (by omega)).mono ?_
    rintro e w' ⟨s, rfl, hs, rfl⟩
    go_wp2_with fail
    refine (rest_at _ _ _ hj (by omega) (by omega)).mono ?_
    rintro e w' ⟨t, rfl, ht, rfl⟩
    have hs' : 2 * s + 1 < l.length := by omega
    have ht' : 2 * t + 1 < l.length := by omega
    have hb : b < w.heap.size := lt_of_cell (hcell (2 * s) (by omega))
    have cell : ∀ k, k < l.length → w'.cell? ⟨b, off + k, none⟩ = some (.int .u8 (l[k]?.getD 0)) := fun k hk => by
      rw [hbel5.cell (p := ⟨b, off + k, none⟩) hb]; exact hcell k hk
    have x0 := cell (2 * s) (by omega)
    have x1 := cell (2 * s + 1) hs'
    have y0 := cell (2 * t) (by omega)
    have y1 := cell (2 * t + 1) ht'
    have p0 := hcg (2 * s) (by omega)
    have p1 := hcg (2 * s + 1) hs'
    have q0 := hcg (2 * t) (by omega)
    have q1 := hcg (2 * t + 1) ht'
    have r0 := hfg (2 * s)
    have r1 := hfg (2 * s + 1)
    have u0 := hfg (2 * t)
    have u1 := hfg (2 * t + 1)
    have pe := pt_exch l s t hs' ht'
    have b0 := hlb.getD (2 * s)
    have b1 := hlb.getD (2 * s + 1)
    have b2 := hlb.getD (2 * t)
    have b3 := hlb.getD (2 * t + 1)
    generalize l[2 * s]?.getD 0 = A at x0 p0 pe b0
    generalize l[2 * s + 1]?.getD 0 = B at x1 p1 pe b1
    clear cell hcg hfg hcell PS
    by_cases hst : s = t
    · subst hst
      generalize l[2 * s]?.getD 0 = C at y0 q0 pe b2
      generalize l[2 * s + 1]?.getD 0 = D at y1 q1 pe b3
      have hAC : A = C := by have := x0.symm.trans y0; simpa using this
      have hBD : B = D := by have := x1.symm.trans y1; simpa using this
      subst hAC hBD
      have PE : Hid (pt ((((l.set (2 * s) A).set (2 * s + 1) B).set (2 * s) A).set (2 * s + 1) B) = pt l) := pe
      clear pe
      go_wp2_with fail
      go_region
      have hown5 := (hown3.set2 rfl (2 * s) (2 * s + 1) A B).set2 (by simp) (2 * s) (2 * s + 1) A B
      have hbel6 : Below w.heap.size w ((((w'.setCell ⟨g, 2 * s, none⟩ (.int .u8 A)).setCell ⟨g, 2 * s + 1, none⟩ (.int .u8 B)).setCell ⟨g, 2 * s, none⟩ (.int .u8 A)).setCell ⟨g, 2 * s + 1, none⟩ (.int .u8 B)) := below_set2 (B := 0) (below_set2 (B := 0) hbel5 hgw) hgw
      generalize (((w'.setCell ⟨g, 2 * s, none⟩ (.int .u8 A)).setCell ⟨g, 2 * s + 1, none⟩ (.int .u8 B)).setCell ⟨g, 2 * s, none⟩ (.int .u8 A)).setCell ⟨g, 2 * s + 1, none⟩ (.int .u8 B) = w5 at hown5 hbel6 ⊢
      have hb5 : Bytes ((((l.set (2 * s) A).set (2 * s + 1) B).set (2 * s) A).set (2 * s + 1) B) := (((hlb.set _ b2.1 b2.2).set _ b3.1 b3.2).set _ b0.1 b0.2).set _ b1.1 b1.2
      have hl5 : ((((l.set (2 * s) A).set (2 * s + 1) B).set (2 * s) A).set (2 * s + 1) B).length = l.length := by simp
      generalize ((((l.set (2 * s) A).set (2 * s + 1) B).set (2 * s) A).set (2 * s + 1) B) = M at hown5 hb5 hl5 PE
      have H5 : Hid (M.length = l.length) := hl5
      clear hl5
      have e5 : (pt M == pt l) = true := by rw [PE.out]; simp
      go_wp2_with fail
      refine (part_at _ M _ _ _ H5.out hcap (by exact hown5.row' (by rw [H5.out]; omega) hb5)).mono ?_
      rintro e w' ⟨rfl, n4, rfl⟩
      go_wp2_with fail
      go_ret
      exact ⟨rfl, below_drewN hbel6 (1 + n4)⟩
    · generalize l[2 * t]?.getD 0 = C at y0 q0 pe b2
      generalize l[2 * t + 1]?.getD 0 = D at y1 q1 pe b3
      have PE : Hid (pt ((((l.set (2 * s) C).set (2 * s + 1) D).set (2 * t) A).set (2 * t + 1) B) = pt l) := pe
      clear pe
      go_wp2_with fail
      go_region
      have hown5 := (hown3.set2 rfl (2 * s) (2 * s + 1) C D).set2 (by simp) (2 * t) (2 * t + 1) A B
      have hbel6 : Below w.heap.size w ((((w'.setCell ⟨g, 2 * s, none⟩ (.int .u8 C)).setCell ⟨g, 2 * s + 1, none⟩ (.int .u8 D)).setCell ⟨g, 2 * t, none⟩ (.int .u8 A)).setCell ⟨g, 2 * t + 1, none⟩ (.int .u8 B)) := below_set2 (B := 0) (below_set2 (B := 0) hbel5 hgw) hgw
      generalize (((w'.setCell ⟨g, 2 * s, none⟩ (.int .u8 C)).setCell ⟨g, 2 * s + 1, none⟩ (.int .u8 D)).setCell ⟨g, 2 * t, none⟩ (.int .u8 A)).setCell ⟨g, 2 * t + 1, none⟩ (.int .u8 B) = w5 at hown5 hbel6 ⊢
      have hb5 : Bytes ((((l.set (2 * s) C).set (2 * s + 1) D).set (2 * t) A).set (2 * t + 1) B) := (((hlb.set _ b2.1 b2.2).set _ b3.1 b3.2).set _ b0.1 b0.2).set _ b1.1 b1.2
      have hl5 : ((((l.set (2 * s) C).set (2 * s + 1) D).set (2 * t) A).set (2 * t + 1) B).length = l.length := by simp
      generalize ((((l.set (2 * s) C).set (2 * s + 1) D).set (2 * t) A).set (2 * t + 1) B) = M at hown5 hb5 hl5 PE
      have H5 : Hid (M.length = l.length) := hl5
      clear hl5
      have e5 : (pt M == pt l) = true := by rw [PE.out]; simp
      go_wp2_with fail
      refine (part_at _ M _ _ _ H5.out hcap (by exact hown5.row' (by rw [H5.out]; omega) hb5)).mono ?_
      rintro e w' ⟨rfl, n4, rfl⟩
      go_wp2_with fail
      go_ret
      exact ⟨rfl, below_drewN hbel6 (1 + n4)⟩

theorem walk (a0 : Option Addr) (len0 cap0 : Nat) (z0 : List Int) (i j : Int) (w : World) (w0 : IsRow .u8 w a0 len0 cap0 z0) (w1 : (Lit.int .i64 i).wf = true) (w2 : (Lit.int .i64 j).wf = true) :
    Calls Try.prog 7 #[.slice a0 len0 cap0, .int .i64 i, .int .i64 j] w fun e w' => e = .returned (.bool true) ∧ Below w.heap.size w w' := by
  have ha : a0 = none → cap0 = 0 := by rcases w0 with ⟨_, _, h, _⟩ | ⟨x, h, _⟩ <;> simp_all
  obtain ⟨l, rfl, h1, h2, hr⟩ := view w0
  exact walkl a0 l cap0 i j w h1 h2 ha hr (bounds_i64 w1) (bounds_i64 w2)

set_option maxRecDepth 100000 in
theorem lifted (os : Os) (started : os.Started) (H : Type) (enc : TypeId × Value → H) :
    ReturnsInHanded {} Try.checked os 7 .any (Rows.sumOrdersSpec.pre6 enc Try.prog Try.f7 Rows.sumOrdersRow.domain false) (Rows.sumOrdersSpec.post enc Try.prog Try.f7 false true false false) := by
  refine returnsInHanded_of_change_sized (C := Try.checked) ownKn started (by kernel_rfl) Try.func7
    (ChangeSpec.witness6 (enc := enc) (C := Try.checked) false ⟨#[], #[.slice none 0 0, .int .i64 0, .int .i64 0], []⟩ 8 (by kernel_rfl) (by kernel_rfl) (by kernel_rfl) (by kernel_rfl)) ?_
  intro W base args ds gs before hval0 hW _ hsz0 _
  have hsz : (DataW.weightsEach Try.prog (Try.f7.params.toList ++ Rows.sumOrdersSpec.plain.varTypes Try.prog) (ds ++ gs)).all (· ≤ reachBytes) = true := hsz0
  clear hsz0
  have hval : ∀ (j : Nat) t v, Try.f7.params[j]? = some t → args[j]? = some v → Value.okWide Try.prog W .any base t v := hval0
  have hW' := hW
  obtain ⟨p, q, hA0, hV, rfl, hfz, hnd⟩ := hW
  have hA : DataW.TrodAll enc Try.prog W 0 (fun _ => true) true Try.f7.params.toList args.toList ds p := hA0
  rw [Try.params7] at hA hval hsz
  obtain ⟨v0, vs0, d0, ds0, p0, q0, hargs, rfl, rfl, h0, r0⟩ := trodAll_cons hA
  obtain ⟨v1, vs1, d1, ds1, p1, q1, rfl, rfl, rfl, h1, r1⟩ := trodAll_cons r0
  obtain ⟨v2, vs2, d2, ds2, p2, q2, rfl, rfl, rfl, h2, r2⟩ := trodAll_cons r1
  obtain ⟨rfl, rfl, rfl⟩ := trodAll_nil r2
  obtain rfl : args = #[v0, v1, v2] := by cases args; simp_all
  obtain ⟨rfl, rfl⟩ := trodVars_none hV
  obtain ⟨a0, len0, cap0, rfl⟩ := okWide_slice Try.underlying26 (hval 0 26 v0 rfl rfl)
  have k0 := h0
  have lt0 : ∀ x ∈ p0, x.block < W.heap.size := by obtain ⟨m, hm⟩ := k0; exact DataW.trod_lt m _ _ _ hm
  obtain ⟨z0, w0⟩ : ∃ zs, IsRow .u8 W a0 len0 cap0 zs := by
    obtain ⟨fuel, hf⟩ := h0
    rcases open_ints Try.underlying26 Try.underlying5 (by kernel_rfl) hf with ⟨hcs, _⟩ | ⟨x, l, c, zs, hcs, _, hl, hm, hz, hx, hcell, hwz⟩
    · simp [Value.cells] at hcs
      obtain ⟨rfl, rfl, rfl⟩ := hcs
      exact ⟨[], .inl ⟨rfl, rfl, rfl, rfl⟩⟩
    · simp [Value.cells] at hcs
      obtain ⟨rfl, rfl, rfl⟩ := hcs
      simp only [Prod.mk.injEq] at hx
      obtain ⟨rfl, hpl⟩ := hx
      have hreach : cap0 * kindBytes .u8 ≤ 140737488351232 := by
        have := sized_slice hsz (j := 0) (t := 26) (e := 5) rfl rfl Try.underlying26
        rw [show Try.prog.bytesOf 5 = kindBytes .u8 from by kernel_rfl] at this
        simp only [lits, List.length_map, List.length_take, List.length_drop, reachBytes] at this
        simp only [if_true] at hz
        rw [show min len0 zs.length + (zs.length - len0) = cap0 from by omega] at this
        exact this
      exact ⟨zs, .inr ⟨_, rfl, hl, hreach, by simpa using hz, hcell, hwz⟩⟩
  obtain ⟨a1, rfl, rfl, rfl, w1⟩ := open_int Try.underlying3 (hval 1 3 v1 rfl rfl) h1
  obtain ⟨a2, rfl, rfl, rfl, w2⟩ := open_int Try.underlying3 (hval 2 3 v2 rfl rfl) h2
  clear hA0 hval0
  refine (walk a0 len0 cap0 z0 a1 a2 W w0 w1 w2).mono fun e W' ⟨he, bel⟩ => ?_
  subst he
  exact ⟨_, rfl, _, _, _, [], _, [], hW', trodAll_mk1 (shut_bool Try.underlying4 _), (trodAll_cons_mk (Below.trod laidOut (by kernel_rfl) (of_decide_eq_true (by kernel_rfl)) k0 bel lt0) (trodAll_cons_mk (shut_int Try.underlying3 w1) (trodAll_cons_mk (shut_int Try.underlying3 w2) trodAll_mk0))), rfl, bel.frame _, fun h => by cases h⟩

theorem over : Rows.sumOrdersRow.holds Try.pinned (OpenSpec.ofChange Rows.sumOrdersSpec) :=
  OpenClaim.holds_of_wide 7 Try.f7 rfl rfl rfl rfl rfl rfl rfl ⟨rfl, rfl, rfl, rfl, rfl⟩ rfl rfl rfl rfl rfl (by kernel_rfl) Try.func7 (by kernel_rfl)
    (of_decide_eq_true (by kernel_rfl)) (by unfold Func.isWrapper; first | (rw [if_pos (by decide +kernel)]; kernel_rfl) | (rw [if_neg (by decide +kernel)]; exact ⟨rfl, rfl⟩))
    (fun os started H enc _ => lifted os started H enc)

end Go.Proofs.Ytbjnhjdbnliofaa.sumOrders
namespace Go.Proofs.Ytbjnhjdbnliofaa
theorem sumOrders_holds : Rows.SumOrdersSaid := sumOrders.over
#print axioms sumOrders_holds
end Go.Proofs.Ytbjnhjdbnliofaa

