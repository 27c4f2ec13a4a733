/-
  The library's sort, at routes, in their order.
-/
import Derived.Test.YtoifolmcdkfniabGreatDoorQt
import Derived.Test.YtoifolmcdkfniabGreatDoorShelfS
namespace Go.Proofs.YtoifolmcdkfniabGreatDoor
open Go.ChangeShapes Go.WideShapes Go.ChangeAt Go.RowKit Go.Shelf
set_option linter.unusedVariables false
set_option linter.unusedSimpArgs false
set_option maxHeartbeats 4000000
set_option maxRecDepth 100000

theorem less_g (v v' : Int) (l l' : List Int) (hl : l.length = 16) (hl' : l'.length = 16) (w : World) :
    Calls Tryz.prog 27 #[.agg (csA v l), .agg (csA v' l')] w fun e w' => e = .returned (.bool (lessP v l v' l')) ∧ ∃ q os, w' = Sort.grow (w.drewN q) os := by
  obtain ⟨cs, hcs⟩ : ∃ c, c = csA v l := ⟨_, rfl⟩
  obtain ⟨ct, hct⟩ : ∃ c, c = csA v' l' := ⟨_, rfl⟩
  have r1 : rowAt ((w.alloc (.cells cs 37)).alloc (.cells ct 37)) w.heap.size = some (csA v l) := rowAt_old (by rw [hcs]; exact rowAt_new w _ 37 (csA_size hl)) _
  have r2 : rowAt ((w.alloc (.cells cs 37)).alloc (.cells ct 37)) (w.heap.size + 1) = some (csA v' l') := by
    have := rowAt_new (w.alloc (.cells cs 37)) ct 37 (by rw [hct]; exact csA_size hl')
    rw [← hct]
    simpa using this
  have c1 : cs[0]? = some (.int .i64 v) := by rw [hcs]; exact csA_zero v l
  have c2 : ct[0]? = some (.int .i64 v') := by rw [hct]; exact csA_zero v' l'
  have HC : Hid (∀ q, Calls Tryz.prog 49 #[.slice (some ⟨w.heap.size, 1, none⟩) 16 16, .slice (some ⟨w.heap.size + 1, 1, none⟩) 16 16] (((w.alloc (.cells cs 37)).alloc (.cells ct 37)).drewN q) fun e w' => e = .returned (.int .i64 (cmpL l l')) ∧ w' = (((w.alloc (.cells cs 37)).alloc (.cells ct 37)).drewN q)) :=
    Lib.hid (fun q => compare_c _ _ 1 1 16 16 l l' 16 16 hl hl' _ (rowAt_bytes (by rw [rowAt_drewN]; exact r1)) (rowAt_bytes (by rw [rowAt_drewN]; exact r2)))
  obtain ⟨r, hr⟩ : ∃ r, r = cmpL l l' := ⟨_, rfl⟩
  obtain ⟨res, hres⟩ : ∃ b, b = lessP v l v' l' := ⟨_, rfl⟩
  rw [← hr] at HC
  rw [← hcs, ← hct, ← hres]
  have HR : Hid (res = if v = v' then decide (r < 0) else decide (v < v')) := Lib.hid (by rw [hres, hr]; rfl)
  clear r1 r2 hcs hct hr hres
  have HB : Hid (∀ n, ((w.alloc (.cells cs 37)).alloc (.cells ct 37)).drewN n = Sort.grow (w.drewN n) (#[.cells cs 37] ++ #[.cells ct 37])) := fun n => by
    rw [Sort.alloc_eq_grow, Sort.alloc_eq_grow, Sort.grow_grow]; rfl
  by_cases hv : v = v'
  · subst hv
    go_enter Tryz.func27, Tryz.ntmps27
    go_wp2_with fail
    go_quiet (first | (go_at_call 49; exact Calls.quiet_of_same (HC.out _)))
    go_wp2_with fail
    go_ret
    refine ⟨ret_bool ?_, _, _, HB.out _⟩
    rw [HR.out]; simp
  · have hne : (v == v') = false := by simp [hv]
    have hne2 : decide (v = v') = false := by simp [hv]
    go_enter Tryz.func27, Tryz.ntmps27
    go_wp2_with fail
    go_ret
    refine ⟨ret_bool ?_, 0, _, HB.out 0⟩
    rw [HR.out, if_neg hv]
def cmpP (x y : Int) : Int := if x < y then -1 else if y < x then 1 else 0
theorem isNaN_c (x : Int) (w : World) : Calls Tryz.prog 50 #[.int .i64 x] w fun e w' => e = .returned (.bool false) ∧ w' = w := by
  go_enter Tryz.func50, Tryz.ntmps50
  go_wp2
  go_ret
  exact ⟨rfl, rfl⟩
theorem compareI_c (x y : Int) (w : World) : Calls Tryz.prog 28 #[.int .i64 x, .int .i64 y] w fun e w' => e = .returned (.int .i64 (cmpP x y)) ∧ w' = w := by
  rcases Int.lt_trichotomy x y with h | h | h
  · have HC : Hid (cmpP x y = -1) := by show _ = _; unfold cmpP; rw [if_pos h]
    generalize cmpP x y = r at *
    go_enter Tryz.func28, Tryz.ntmps28
    go_wp2_with (go_at_call 50; refine (isNaN_c _ _).mono ?_; rintro e w' ⟨rfl, rfl⟩)
    go_ret
    exact ⟨by rw [HC.out]; rfl, rfl⟩
  · subst h
    have HC : Hid (cmpP x x = 0) := by show _ = _; unfold cmpP; rw [if_neg (by omega), if_neg (by omega)]
    generalize cmpP x x = r at *
    go_enter Tryz.func28, Tryz.ntmps28
    go_wp2_with (go_at_call 50; refine (isNaN_c _ _).mono ?_; rintro e w' ⟨rfl, rfl⟩)
    go_ret
    exact ⟨by rw [HC.out]; rfl, rfl⟩
  · have HC : Hid (cmpP x y = 1) := by show _ = _; unfold cmpP; rw [if_neg (by omega), if_pos h]
    generalize cmpP x y = r at *
    go_enter Tryz.func28, Tryz.ntmps28
    go_wp2_with (go_at_call 50; refine (isNaN_c _ _).mono ?_; rintro e w' ⟨rfl, rfl⟩)
    go_ret
    exact ⟨by rw [HC.out]; rfl, rfl⟩
/-- Routes that can be: sixteen bytes each. -/
abbrev RA : Type := { x : Rt // Okr x }
def encR (x : RA) : List Value := listD x.1
def cfR (x y : RA) : Int := if lessR x.1 y.1 = true then -1 else if lessR y.1 x.1 = true then 1 else cmpP x.1.b y.1.b
theorem lt_cf (x y : RA) : ltOf cfR x y = ahead x.1 y.1 := by
  unfold ltOf cfR ahead cmpP
  cases h1 : lessR x.1 y.1 with
  | true => simp
  | false =>
    cases h2 : lessR y.1 x.1 with
    | true => simp
    | false =>
      by_cases h3 : x.1.b < y.1.b
      · simp [h3]
      · by_cases h4 : y.1.b < x.1.b <;> simp [h3, h4]
theorem swo_cf : Sort.SWO (ltOf cfR) where
  irrefl x := by rw [lt_cf]; simp [ahead_irr]
  trans x y z h1 h2 := by
    rw [lt_cf] at *
    exact ahead_trans x.2 y.2 z.2 h1 h2
  ntrans x y z h1 h2 := by
    rw [lt_cf] at *
    cases h3 : ahead x.1 z.1 with
    | false => rfl
    | true =>
      exfalso
      cases h4 : twin x.1 y.1 with
      | true =>
        obtain ⟨e1, e2, e3⟩ := twin_iff.1 h4
        have : ahead y.1 z.1 = true := by
          rw [← h3]; unfold ahead; rw [less_same_left e1 e2, less_same_right e1 e2, e3]
        simp_all
      | false =>
        have h5 : ahead y.1 x.1 = true := ahead_total y.2 x.2 (by simpa using h1) (by rw [twin_sym]; exact h4)
        have := ahead_trans y.2 x.2 z.2 h5 h3
        simp_all
theorem encR_len (x : RA) : (encR x).length = 19 := listD_len x.2
theorem encR_one (x : RA) : ∀ v ∈ encR x, v.oneCell' = true := listD_one x.2
theorem wpList_boxEe {ops : Array Oper} {rest : List Oper} {o : Oper} {a : Act} {w : World} {Q : Exit → Act → World → Prop} (hg : o.guard = none) (x : Operand) (ho : o.op = .box 39 x) (d : Rt) (hx : a.eval x = .agg (csD d))
    (h : ∀ g w1, w.heap.size ≤ g → BoxD w1 g d → Away [] w w1 → Hid (∃ os, w1 = Sort.grow w os) → wpList Tryz.prog ops Q rest (a.put o.dst (.pointer (some ⟨g, 0, none⟩))) w1) : wpList Tryz.prog ops Q (o :: rest) a w := by
  refine wpList_plain hg fun K hK => ?_
  unfold Oper.wp execOp
  simp only [ho, hx, Sem.run_bind, Instr.box, newVar, newRow, Value.cells, run_newObj_alloc, Sem.run_pure, Result.andThen_ok]
  exact hK _ _ (h w.heap.size _ (Nat.le_refl _) (block_new _ _) ((Away.refl [] w).alloc _) ⟨_, Sort.alloc_eq_grow _ _⟩)
theorem grown_away {w w' : World} (h : ∃ q os, w' = Sort.grow (w.drewN q) os) : Away [] w w' := by
  obtain ⟨q, os, rfl⟩ := h
  refine ⟨rfl, rfl, rfl, by unfold Sort.grow; simp, fun k hk _ => ?_⟩
  unfold Sort.grow
  simp only
  rw [Array.getElem?_append_left (by exact hk)]
  rfl
theorem grown_trans {a b c : World} (h : ∃ q os, b = Sort.grow (a.drewN q) os) (k : ∃ q os, c = Sort.grow (b.drewN q) os) : ∃ q os, c = Sort.grow (a.drewN q) os := by
  obtain ⟨q, os, rfl⟩ := h
  obtain ⟨q', os', rfl⟩ := k
  refine ⟨q + q', os ++ os', ?_⟩
  unfold Sort.grow World.drewN
  simp [Array.append_assoc, Nat.add_assoc]
theorem closure_c (x y : RA) (W : World) : Calls Tryz.prog 26 #[.agg (encR x).toArray, .agg (encR y).toArray] W fun e w' => e = .returned (.int .i64 (cfR x y)) ∧ ∃ q os', w' = Sort.grow (W.drewN q) os' := by
  obtain ⟨x, hx⟩ := x
  obtain ⟨y, hy⟩ := y
  show Calls Tryz.prog 26 #[.agg (csD x), .agg (csD y)] W fun e w' => e = .returned (.int .i64 (if lessR x y = true then -1 else if lessR y x = true then 1 else cmpP x.b y.b)) ∧ ∃ q os', w' = Sort.grow (W.drewN q) os'
  have HX := Lib.hid hx; have HY := Lib.hid hy
  have H1 := Lib.hid (fun w => less_g x.v y.v x.l y.l hx.1 hy.1 w)
  have H2 := Lib.hid (fun w => less_g y.v x.v y.l x.l hy.1 hx.1 w)
  have H3 := Lib.hid (fun w => compareI_c x.b y.b w)
  change Hid (∀ w, Calls Tryz.prog 27 _ w fun e w' => e = .returned (.bool (lessR x y)) ∧ _) at H1
  change Hid (∀ w, Calls Tryz.prog 27 _ w fun e w' => e = .returned (.bool (lessR y x)) ∧ _) at H2
  generalize lessR x y = b1 at *
  generalize lessR y x = b2 at *
  generalize cmpP x.b y.b = r at *
  clear hx hy
  go_enter Tryz.func26, Tryz.ntmps26
  go_wp2_with (refine wpList_boxEe rfl _ rfl x rfl ?_; refine Hid.out ?_)
  refine Lib.hid ?_
  intro g1 w1 hg1 hb1 haw1 HW1
  have HB1 := Lib.hid hb1
  clear hb1 haw1 hg1
  go_wp2_with (refine wpList_boxEe rfl _ rfl y rfl ?_; refine Hid.out ?_)
  refine Lib.hid ?_
  intro g2 w2 hg2 hb2 haw2 HW2
  have HBX := Lib.hid (HB1.out.on haw2 (by simp))
  have HBY := Lib.hid hb2
  have HG : Hid (∃ q os, w2 = Sort.grow (W.drewN q) os) := by
    obtain ⟨o1, h1⟩ := HW1.out
    obtain ⟨o2, h2⟩ := HW2.out
    exact ⟨0, _, by rw [h2, h1, Sort.grow_grow]; rfl⟩
  clear hb2 haw2 hg2 HB1 HW1 HW2
  have HRX := Lib.hid (range_a HBX.out.range HX.out)
  have HRY := Lib.hid (range_a HBY.out.range HY.out)
  go_wp2_with (first
    | (refine wpList_load32m rfl _ rfl g1 0 rfl x.v x.l HX.out.1 HRX.out ?_)
    | (refine wpList_load32m rfl _ rfl g2 0 rfl y.v y.l HY.out.1 HRY.out ?_)
    | (go_at_call 27; refine (H1.out _).mono ?_; refine Hid.out ?_))
  refine Lib.hid ?_
  rintro e w3 ⟨rfl, hgr⟩
  have haw3 := grown_away hgr
  have HG3 := Lib.hid (grown_trans HG.out hgr)
  replace HBX := Lib.hid (HBX.out.on haw3 (by simp))
  replace HBY := Lib.hid (HBY.out.on haw3 (by simp))
  clear hgr haw3 HRX HRY HG H1
  cases b1
  · have HRX := Lib.hid (range_a HBX.out.range HX.out)
    have HRY := Lib.hid (range_a HBY.out.range HY.out)
    go_wp2_with (first
      | (refine wpList_load32m rfl _ rfl g1 0 rfl x.v x.l HX.out.1 HRX.out ?_)
      | (refine wpList_load32m rfl _ rfl g2 0 rfl y.v y.l HY.out.1 HRY.out ?_)
      | (go_at_call 27; refine (H2.out _).mono ?_; refine Hid.out ?_))
    refine Lib.hid ?_
    rintro e w4 ⟨rfl, hgr⟩
    have haw4 := grown_away hgr
    replace HG3 := Lib.hid (grown_trans HG3.out hgr)
    replace HBX := Lib.hid (HBX.out.on haw4 (by simp))
    replace HBY := Lib.hid (HBY.out.on haw4 (by simp))
    clear hgr haw4 HRX HRY H2
    cases b2
    · have c1 := range_b HBX.out.range HX.out
      have c2 := range_b HBY.out.range HY.out
      simp only [Nat.zero_add] at c1 c2
      go_wp2_with (go_at_call 28; refine (H3.out _).mono ?_; refine Hid.out ?_)
      refine Lib.hid ?_
      rintro e w5 ⟨rfl, rfl⟩
      go_wp2_with fail
      go_ret
      exact ⟨rfl, HG3.out⟩
    · go_wp2_with fail
      go_ret
      exact ⟨rfl, HG3.out⟩
  · go_wp2_with fail
    go_ret
    exact ⟨rfl, HG3.out⟩
theorem cmpLays_c [Inhabited RA] (blk off size : Nat) (w : World) : CmpLays Tryz.prog 26 #[] encR 19 cfR blk off size w := fun _ _ _ _ x y => closure_c x y _
theorem exists_as {xs : List Rt} (h : ∀ x ∈ xs, Okr x) : ∃ ls : List RA, ls.map Subtype.val = xs := by
  induction xs with
  | nil => exact ⟨[], rfl⟩
  | cons x r ih =>
    obtain ⟨ls, e⟩ := ih (fun y hy => h y (by simp [hy]))
    exact ⟨⟨x, h x (by simp)⟩ :: ls, by simp [e]⟩
theorem as_ad (ls : List RA) : ∀ x ∈ ls.map Subtype.val, Okr x := by
  intro x hx
  obtain ⟨a, -, rfl⟩ := List.mem_map.1 hx
  exact a.2
theorem flatK_get [Inhabited RA] (ls : List RA) (t : Nat) (h : t < ls.length * 19) : ((ls.map Subtype.val).flatMap listD)[t]? = some (Sort.flatK encR 19 ls.toArray)[t]! := by
  rw [Sort.get_flatK _ _ _ _ (by simpa using h)]
  obtain ⟨x, hx, _⟩ := get_of (show t / 19 < ls.length by omega)
  have e : ls.toArray[t / 19]! = x := by simp [Array.getElem!_eq_getD, Array.getD_eq_getD_getElem?, hx]
  rw [e]
  have hl := encR_len x
  have hv : (encR x)[t % 19]? = some (encR x)[t % 19]! := by
    rw [List.getElem!_eq_getElem?_getD, List.getElem?_eq_getElem (by omega)]; rfl
  have := flatD_get (ls.map Subtype.val) (t / 19) x.1 (as_ad ls) (by simp [hx]) (t % 19) _ hv
  rw [show t / 19 * 19 + t % 19 = t from by omega] at this
  exact this
theorem away_sort [Inhabited RA] {w : World} {g n : Nat} (d : Array RA) (os : Array Obj) : Away [g] w (sortWorldK encR 19 w g 0 n d os) := by
  have hs : (Sort.putRowK encR 19 (Sort.ahead w n) g 0 d).heap.size = w.heap.size := by simp [Sort.putRowK]
  refine ⟨rfl, rfl, rfl, by unfold sortWorldK Sort.grow; simp [hs], fun k hk hn => ?_⟩
  unfold sortWorldK Sort.grow
  simp only
  rw [Array.getElem?_append_left (by rw [hs]; exact hk)]
  unfold Sort.putRowK Sort.putRow Sort.mapBlock
  simp only [Array.getElem?_modify]
  rw [if_neg (by simp at hn; omega)]
  rfl
theorem blk_sort [Inhabited RA] {w : World} {g n : Nat} {cur : Array Value} (d : Array RA) (os : Array Obj) (hb : w.heap[g]? = some (.cells cur 39 (0, 0))) : ∃ c', (sortWorldK encR 19 w g 0 n d os).heap[g]? = some (.cells c' 39 (0, 0)) ∧ c'.size = cur.size := by
  have hlt := lt_of_block hb
  have hs : (Sort.putRowK encR 19 (Sort.ahead w n) g 0 d).heap.size = w.heap.size := by simp [Sort.putRowK]
  refine ⟨Sort.putCells id 0 (Sort.flatK encR 19 d) cur, ?_, by unfold Sort.putCells; simp⟩
  unfold sortWorldK Sort.grow
  simp only
  rw [Array.getElem?_append_left (by rw [hs]; exact hlt)]
  unfold Sort.putRowK Sort.putRow Sort.mapBlock
  simp only [Array.getElem?_modify]
  rw [if_pos trivial]
  show Option.map _ w.heap[g]? = _
  rw [hb]
  rfl
theorem sort_c (g n cap : Nat) (xs : List Rt) (w : World) (hn : xs.length = n) (hxl : n ≤ 500000000000) (h : LstD w (.slice (some ⟨g, 0, none⟩) n cap) xs) (hok : ∀ x ∈ xs, Okr x) :
    Calls Tryz.prog 25 #[.slice (some ⟨g, 0, none⟩) n cap, .func (.func 26) #[] #[]] w fun E w' =>
      ∃ ys, E = .returned (.tuple #[]) ∧ ys.Perm xs ∧ Srtd ys ∧ LstD w' (.slice (some ⟨g, 0, none⟩) n cap) ys ∧ Away [g] w w' := by
  have hinh : Inhabited RA := ⟨⟨zeroD, zeroD_ok⟩⟩
  obtain ⟨ls, has⟩ := exists_as hok
  subst hn
  have hal : ls.length = xs.length := by rw [← has]; simp
  have eg : ∀ args w, (callFunc 26 args).run Tryz.prog w = .ok (.enter 26 args) w := enters_of Tryz.func26 (by kernel_rfl) rfl
  obtain ⟨cur, hblk, hcm, hnc, htk, -⟩ := h.blk
  have hlt : g < w.heap.size := lt_of_block hblk.1
  have hH : Sort.HoldsK encR 19 w g 0 ls.toArray := by
    intro j hj
    have hj' : j < ls.length * 19 := by simpa using hj
    refine ⟨?_, free_of_block hblk.1 _⟩
    have := World.ownsRow.cellAt h j (by omega)
    rw [← has, flatK_get ls j hj'] at this
    simpa using this
  have hcon := AnyQ.slices_SortFunc Tryz.sortRt 19 (fun w => by kernel_rfl) (fun w => by kernel_rfl) encR encR_len encR_one cfR swo_cf 26 #[] g 0 cap ls.toArray w eg (cmpLays_c g 0 _ w) hH hlt (by simp; omega)
  change Calls Tryz.prog 25 _ _ _ at hcon
  simp only [List.size_toArray, hal] at hcon
  refine hcon.mono ?_
  rintro E w' ⟨rfl, d', q, os, hp, hs, rfl⟩
  obtain ⟨hsz, -, hpm⟩ := hp
  have hsz' : d'.size = ls.length := by simpa using hsz
  have hperm : d'.toList.Perm ls := by
    have e1 : (d'.extract 0 xs.length).toList = d'.toList := by rw [← hal, ← hsz']; simp
    have e2 : (ls.toArray.extract 0 xs.length).toList = ls := by rw [← hal]; simp
    have := hpm
    rw [e1, e2] at this
    exact this
  have hpx : (d'.toList.map Subtype.val).Perm xs := by rw [← has]; exact hperm.map _
  have hsort : Srtd (d'.toList.map Subtype.val) := by
    unfold Srtd
    rw [List.pairwise_map, List.pairwise_iff_getElem]
    intro i j hi hj hij
    have hj' : j < d'.size := by simpa using hj
    have hi' : i < d'.size := by simpa using hi
    have := hs i j (Nat.zero_le _) hij (by omega)
    rw [lt_cf, getElem!_pos d' j hj', getElem!_pos d' i hi'] at this
    simpa using this
  refine ⟨d'.toList.map Subtype.val, rfl, hpx, hsort, ?_, away_sort d' os⟩
  have h1 := Sort.holdsK_putRowK encR 19 (Sort.ahead w q) g 0 ls.toArray d' hH (by simpa using hsz')
  have h2 := Sort.holdsK_grow encR 19 (Sort.putRowK encR 19 (Sort.ahead w q) g 0 d') os g 0 d' (by simp [Sort.putRowK]; exact hlt) h1
  obtain ⟨c', hc', hcs⟩ := blk_sort (w := w) (g := g) (n := q) d' os hblk.1
  refine Blk.lst (cur := c'.toList) ⟨by simpa using hc', by simpa [hcs] using hblk.2⟩ (fun x hx => hok x (hpx.mem_iff.1 hx)) hcm hpx.length_eq hnc ?_
  have hAA := as_ad d'.toList
  have hcl : c'.size = cap * 19 := by rw [hcs]; simpa using hblk.2
  refine List.ext_getElem? fun t => ?_
  have hfl : ((d'.toList.map Subtype.val).flatMap listD).length = xs.length * 19 := by rw [flatD_len _ hAA, hpx.length_eq]
  rcases Nat.lt_or_ge t (xs.length * 19) with ht | ht
  · rw [List.getElem?_take, if_pos ht, flatK_get d'.toList t (by simp; omega)]
    have k1 := (h2 t (by simp; omega)).1
    have e : sortWorldK encR 19 w g 0 q d' os = Sort.grow (Sort.putRowK encR 19 (Sort.ahead w q) g 0 d') os := rfl
    rw [← e, cell_of_block hc'] at k1
    simpa using k1
  · rw [List.getElem?_eq_none (by simp; omega), List.getElem?_eq_none (by omega)]
theorem sort_none (b : Option Addr) (cap : Nat) (w : World) :
    Calls Tryz.prog 25 #[.slice b 0 cap, .func (.func 26) #[] #[]] w fun E w' => E = .returned (.tuple #[]) ∧ w' = w :=
  AnyF.slices_SortFunc_none Tryz.sortRt b cap _ w
end Go.Proofs.YtoifolmcdkfniabGreatDoor
