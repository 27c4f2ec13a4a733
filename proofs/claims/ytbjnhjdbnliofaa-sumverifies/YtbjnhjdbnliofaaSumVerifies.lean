/-
  SumVerifies: the walk, and the row's step.
-/
import Derived.Test.YtbjnhjdbnliofaaOwn
namespace Go.Proofs.Ytbjnhjdbnliofaa.sumVerifies
open Go.ChangeShapes Go.WideShapes Go.ChangeAt Go.RowKit Num
set_option linter.unusedVariables false

set_option maxHeartbeats 1000000 in
theorem walkl (a0 : Option Addr) (l : List Int) (cap0 : Nat) (n : Int) (w : World) (hc0 : l.length ≤ cap0) (hc1 : cap0 ≤ 140737488351232) (ha : a0 = none → cap0 = 0) (hr : Row w a0 l) (hn : -9223372036854775808 ≤ n ∧ n ≤ 9223372036854775807) :
    Calls Try.prog 6 #[.slice a0 l.length cap0, .int .i64 n] w fun e w' => e = .returned (.bool true) ∧ Below w.heap.size w w' := by
  have hlb := hr.2.1
  go_enter Try.func6, Try.ntmps6
  go_wp2_with fail
  refine (own_any _ l _ _ ha hr).mono ?_
  rintro e w1 ⟨v, rfl, hown, hbel⟩
  have hsz := hbel.size
  go_wp2_with (at_builtin; refine wpList_app rfl _ _ rfl w.heap.size v l [0, 0, 0] rfl (hown.alloc _) ⟨w1.heap.size, 0, none⟩ 3 3 rfl rfl (lit_cells _ [0, 0, 0] _ rfl) (by omega) (by simp; omega) ?_)
  intro v' w2 hown2 hgr
  have hbel2 : Below w.heap.size w w2 := (hown.alloc _).grown (hbel.alloc hsz _) hgr (by simp; omega) (Nat.le_refl _)
  clear hgr
  have hlb2 : Bytes (l ++ [0, 0, 0]) := hlb.app (by unfold Bytes; decide)
  obtain ⟨L, hL⟩ : ∃ L, L = l ++ [0, 0, 0] := ⟨_, rfl⟩
  rw [← hL] at hown2 hlb2
  have hlen : L.length = l.length + 3 := by rw [hL]; simp
  clear hL hown hsz hbel
  obtain ⟨g, cap, hv, hcap, hg, hcell, hfz⟩ := hown2.block (by omega)
  rw [hv] at hown2 ⊢
  clear hv
  have h1 : 3 ≤ L.length := by omega
  have h2 : L.length ≤ 140737488351235 := by omega
  clear hlen
  go_wp2_with fail
  refine (rest_at _ _ _ hn (by omega) (by omega)).mono ?_
  rintro e w3 ⟨t, rfl, ht, rfl⟩
  have ht' : 2 * t + 1 < L.length := by omega
  have c0 := hcell (2 * t) (by omega)
  have c1 := hcell (2 * t + 1) ht'
  have f0 := hfz (2 * t)
  have f1 := hfz (2 * t + 1)
  clear hcell hfz
  go_wp2_with fail
  have hown3 := hown2.set2 rfl (2 * t) (2 * t + 1) 0 0
  have hbel3 : Below w.heap.size w ((w3.setCell ⟨g, 2 * t, none⟩ (.int .u8 0)).setCell ⟨g, 2 * t + 1, none⟩ (.int .u8 0)) := below_set2 (B := 0) hbel2 hg
  generalize ((w3.setCell ⟨g, 2 * t, none⟩ (.int .u8 0)).setCell ⟨g, 2 * t + 1, none⟩ (.int .u8 0)) = w4 at hown3 hbel3 ⊢
  have hb3 : Bytes ((L.set (2 * t) 0).set (2 * t + 1) 0) := (hlb2.set _ (by omega) (by omega)).set _ (by omega) (by omega)
  have hx : ((L.set (2 * t) 0).set (2 * t + 1) 0)[2 * t]?.getD 0 = 0 := by rw [List.getElem?_set_ne (by omega)]; simp [List.getElem?_set]; split <;> rfl
  have hy : ((L.set (2 * t) 0).set (2 * t + 1) 0)[2 * t + 1]?.getD 0 = 0 := by simp [List.getElem?_set]; split <;> rfl
  have hl3 : ((L.set (2 * t) 0).set (2 * t + 1) 0).length = L.length := by simp
  generalize ((L.set (2 * t) 0).set (2 * t + 1) 0) = M at hown3 hb3 hx hy hl3
  have HV := pt_verifies M t (by omega) hb3 hx hy
  have HX : Hid (pt ((M.set (2 * t) ((65535 - pt M) / 256)).set (2 * t + 1) ((65535 - pt M) % 256)) = 65535) := HV
  clear hx hy HV c0 c1 f0 f1 hown2 hbel2
  have hM := pt_bd hb3
  refine (of_at _ M _ _ _ hl3 hcap (by exact hown3.row' (by omega) hb3)).mono ?_
  rintro e w' ⟨rfl, n1, rfl⟩
  obtain ⟨c0, f0⟩ := hown3.cells (2 * t) (by omega)
  obtain ⟨c1, f1⟩ := hown3.cells (2 * t + 1) (by omega)
  have H3 : Hid (M.length = L.length) := hl3
  clear hl3
  go_wp2_with fail
  have hown4 := (hown3.drewN n1).set2 H3.out (2 * t) (2 * t + 1) ((65535 - pt M) / 256) ((65535 - pt M) % 256)
  have hbel4 : Below w.heap.size w (((w4.drewN n1).setCell ⟨g, 2 * t, none⟩ (.int .u8 ((65535 - pt M) / 256))).setCell ⟨g, 2 * t + 1, none⟩ (.int .u8 ((65535 - pt M) % 256))) := below_set2 (B := 0) (below_drewN hbel3 n1) hg
  generalize (((w4.drewN n1).setCell ⟨g, 2 * t, none⟩ (.int .u8 ((65535 - pt M) / 256))).setCell ⟨g, 2 * t + 1, none⟩ (.int .u8 ((65535 - pt M) % 256))) = w5 at hown4 hbel4 ⊢
  have hb4 : Bytes ((M.set (2 * t) ((65535 - pt M) / 256)).set (2 * t + 1) ((65535 - pt M) % 256)) := (hb3.set _ (by omega) (by omega)).set _ (by omega) (by omega)
  have hl4 : ((M.set (2 * t) ((65535 - pt M) / 256)).set (2 * t + 1) ((65535 - pt M) % 256)).length = L.length := by simp [H3.out]
  generalize ((M.set (2 * t) ((65535 - pt M) / 256)).set (2 * t + 1) ((65535 - pt M) % 256)) = M' at hown4 hb4 HX hl4
  have H4 : Hid (M'.length = L.length) := hl4
  clear hl4 c0 c1 f0 f1 hown3 hbel3
  refine (known_any _).mono ?_
  rintro e w6 ⟨rfl, hbel5⟩
  have hs5 := hbel4.size
  have hown6 := hown4.below hbel5 (Nat.le_refl _)
  have hbel6 : Below w.heap.size w w6 := hbel4.trans (hbel5.mono hs5)
  clear hown4 hbel4 hbel5 hs5
  have e1 : (pt M' == 65535) = true := by rw [HX.out]; rfl
  have e2 : ((65535 : Int) - pt M' == 0) = true := by rw [HX.out]; rfl
  go_wp2_with fail
  refine (part_at _ M' _ _ _ H4.out hcap (by exact hown6.row' (by rw [H4.out]; omega) hb4)).mono ?_
  rintro e w' ⟨rfl, n2, rfl⟩
  go_wp2_with fail
  refine (of_at _ M' _ _ _ H4.out hcap (by exact hown6.row' (by rw [H4.out]; omega) hb4)).mono ?_
  rintro e w' ⟨rfl, n3, rfl⟩
  go_wp2_with fail
  go_ret
  exact ⟨rfl, below_drewN hbel6 (n2 + n3)⟩

theorem walk (a0 : Option Addr) (len0 cap0 : Nat) (z0 : List Int) (n : Int) (w : World) (w0 : IsRow .u8 w a0 len0 cap0 z0) (w1 : (Lit.int .i64 n).wf = true) :
    Calls Try.prog 6 #[.slice a0 len0 cap0, .int .i64 n] w fun e w' => e = .returned (.bool true) ∧ Below w.heap.size w w' := by
  have ha : a0 = none → cap0 = 0 := by rcases w0 with ⟨_, _, h, _⟩ | ⟨x, h, _⟩ <;> simp_all
  obtain ⟨l, rfl, h1, h2, hr⟩ := view w0
  exact walkl a0 l cap0 n w h1 h2 ha hr (bounds_i64 w1)

set_option maxRecDepth 100000 in
theorem lifted (os : Os) (started : os.Started) (H : Type) (enc : TypeId × Value → H) :
    ReturnsInHanded {} Try.checked os 6 .any (Rows.sumVerifiesSpec.pre6 enc Try.prog Try.f6 Rows.sumVerifiesRow.domain false) (Rows.sumVerifiesSpec.post enc Try.prog Try.f6 false true false false) := by
  refine returnsInHanded_of_change_sized (C := Try.checked) ownKn started (by kernel_rfl) Try.func6
    (ChangeSpec.witness6 (enc := enc) (C := Try.checked) false ⟨#[], #[.slice none 0 0, .int .i64 0], []⟩ 8 (by kernel_rfl) (by kernel_rfl) (by kernel_rfl) (by kernel_rfl)) ?_
  intro W base args ds gs before hval0 hW _ hsz0 _
  have hsz : (DataW.weightsEach Try.prog (Try.f6.params.toList ++ Rows.sumVerifiesSpec.plain.varTypes Try.prog) (ds ++ gs)).all (· ≤ reachBytes) = true := hsz0
  clear hsz0
  have hval : ∀ (j : Nat) t v, Try.f6.params[j]? = some t → args[j]? = some v → Value.okWide Try.prog W .any base t v := hval0
  have hW' := hW
  obtain ⟨p, q, hA0, hV, rfl, hfz, hnd⟩ := hW
  have hA : DataW.TrodAll enc Try.prog W 0 (fun _ => true) true Try.f6.params.toList args.toList ds p := hA0
  rw [Try.params6] at hA hval hsz
  obtain ⟨v0, vs0, d0, ds0, p0, q0, hargs, rfl, rfl, h0, r0⟩ := trodAll_cons hA
  obtain ⟨v1, vs1, d1, ds1, p1, q1, rfl, rfl, rfl, h1, r1⟩ := trodAll_cons r0
  obtain ⟨rfl, rfl, rfl⟩ := trodAll_nil r1
  obtain rfl : args = #[v0, v1] := by cases args; simp_all
  obtain ⟨rfl, rfl⟩ := trodVars_none hV
  obtain ⟨a0, len0, cap0, rfl⟩ := okWide_slice Try.underlying26 (hval 0 26 v0 rfl rfl)
  have k0 := h0
  have lt0 : ∀ x ∈ p0, x.block < W.heap.size := by obtain ⟨m, hm⟩ := k0; exact DataW.trod_lt m _ _ _ hm
  obtain ⟨z0, w0⟩ : ∃ zs, IsRow .u8 W a0 len0 cap0 zs := by
    obtain ⟨fuel, hf⟩ := h0
    rcases open_ints Try.underlying26 Try.underlying5 (by kernel_rfl) hf with ⟨hcs, _⟩ | ⟨x, l, c, zs, hcs, _, hl, hm, hz, hx, hcell, hwz⟩
    · simp [Value.cells] at hcs
      obtain ⟨rfl, rfl, rfl⟩ := hcs
      exact ⟨[], .inl ⟨rfl, rfl, rfl, rfl⟩⟩
    · simp [Value.cells] at hcs
      obtain ⟨rfl, rfl, rfl⟩ := hcs
      simp only [Prod.mk.injEq] at hx
      obtain ⟨rfl, hpl⟩ := hx
      have hreach : cap0 * kindBytes .u8 ≤ 140737488351232 := by
        have := sized_slice hsz (j := 0) (t := 26) (e := 5) rfl rfl Try.underlying26
        rw [show Try.prog.bytesOf 5 = kindBytes .u8 from by kernel_rfl] at this
        simp only [lits, List.length_map, List.length_take, List.length_drop, reachBytes] at this
        simp only [if_true] at hz
        rw [show min len0 zs.length + (zs.length - len0) = cap0 from by omega] at this
        exact this
      exact ⟨zs, .inr ⟨_, rfl, hl, hreach, by simpa using hz, hcell, hwz⟩⟩
  obtain ⟨a1, rfl, rfl, rfl, w1⟩ := open_int Try.underlying3 (hval 1 3 v1 rfl rfl) h1
  clear hA0 hval0
  refine (walk a0 len0 cap0 z0 a1 W w0 w1).mono fun e W' ⟨he, bel⟩ => ?_
  subst he
  exact ⟨_, rfl, _, _, _, [], _, [], hW', trodAll_mk1 (shut_bool Try.underlying4 _), (trodAll_cons_mk (Below.trod laidOut (by kernel_rfl) (of_decide_eq_true (by kernel_rfl)) k0 bel lt0) (trodAll_cons_mk (shut_int Try.underlying3 w1) trodAll_mk0)), rfl, bel.frame _, fun h => by cases h⟩

theorem over : Rows.sumVerifiesRow.holds Try.pinned (OpenSpec.ofChange Rows.sumVerifiesSpec) :=
  OpenClaim.holds_of_wide 6 Try.f6 rfl rfl rfl rfl rfl rfl rfl ⟨rfl, rfl, rfl, rfl, rfl⟩ rfl rfl rfl rfl rfl (by kernel_rfl) Try.func6 (by kernel_rfl)
    (of_decide_eq_true (by kernel_rfl)) (by unfold Func.isWrapper; first | (rw [if_pos (by decide +kernel)]; kernel_rfl) | (rw [if_neg (by decide +kernel)]; exact ⟨rfl, rfl⟩))
    (fun os started H enc _ => lifted os started H enc)

end Go.Proofs.Ytbjnhjdbnliofaa.sumVerifies
namespace Go.Proofs.Ytbjnhjdbnliofaa
theorem sumVerifies_holds : Rows.SumVerifiesSaid := sumVerifies.over
#print axioms sumVerifies_holds
end Go.Proofs.Ytbjnhjdbnliofaa

