/-
  WireReads: the walk, and the row's step.
-/
import Derived.Test.YtaiomhhndckccaaReads
import Derived.Deep.DeepCutAuto
import Derived.Deep.MidRow
namespace Go.Proofs.Ytaiomhhndckccaa.wireReads
open Go.ChangeShapes Go.WideShapes Go.ChangeAt Go.RowKit Go.Deep
set_option linter.unusedVariables false

theorem store2 (w : World) (g t : Nat) (a b : Value) (p q : Option Addr) (h : w.heap[g]? = some (.cells #[a, b] t (0, 0))) :
    (Instr.storeAt 59 (.pointer (some ⟨g, 0, none⟩)) (.agg #[.pointer p, .pointer q])).run Try.prog w = .ok () ((w.setCell ⟨g, 0, none⟩ (.pointer p)).setCell ⟨g, 1, none⟩ (.pointer q)) := by
  have ht : w.there g 0 2 := by
    intro i hi
    have c := cell_of_block h i
    have f := free_of_block h i
    rw [Nat.zero_add]
    refine ⟨?_, f⟩
    match i, hi with
    | 0, _ => rw [c]; rfl
    | 1, _ => rw [c]; rfl
  exact run_storeAt_mid w g 0 59 #[.pointer p, .pointer q] ht (by kernel_rfl) (by simp [Value.oneCell'])
/-- Two readers, their pointers in an array. -/
structure Fst (w wc : World) (ra r0 d0 r1 d1 : Nat) (la lb : List Int) : Prop where
  aw : Away [] w wc
  c0 : wc.cell? ⟨ra, 0, none⟩ = some (.pointer (some ⟨r0, 0, none⟩))
  c1 : wc.cell? ⟨ra, 1, none⟩ = some (.pointer (some ⟨r1, 0, none⟩))
  rd0 : Rd wc r0 d0 la 0
  rd1 : Rd wc r1 d1 lb 0
  old : w.heap.size ≤ ra ∧ w.heap.size ≤ r0 ∧ w.heap.size ≤ d0 ∧ w.heap.size ≤ r1 ∧ w.heap.size ≤ d1
  ne : ra ≠ r0 ∧ ra ≠ r1 ∧ r1 ≠ r0 ∧ d1 ≠ r0 ∧ d0 ≠ r1
theorem fst_mk {w wB : World} {ra r0 d0 r1 d1 t : Nat} {x y : Value} {la lb : List Int} (aw : Away [] w wB) (blk : wB.heap[ra]? = some (.cells #[x, y] t (0, 0))) (hra : w.heap.size ≤ ra) (h0 : Rd wB r0 d0 la 0) (h1 : Rd wB r1 d1 lb 0)
    (old : w.heap.size ≤ r0 ∧ w.heap.size ≤ d0 ∧ w.heap.size ≤ r1 ∧ w.heap.size ≤ d1) (ne : ra ≠ r0 ∧ ra ≠ r1 ∧ r1 ≠ r0 ∧ d1 ≠ r0 ∧ d0 ≠ r1) (ned : ra ≠ d0 ∧ ra ≠ d1) :
    Fst w ((wB.setCell ⟨ra, 0, none⟩ (.pointer (some ⟨r0, 0, none⟩))).setCell ⟨ra, 1, none⟩ (.pointer (some ⟨r1, 0, none⟩))) ra r0 d0 r1 d1 la lb := by
  have hA : Away [ra] wB ((wB.setCell ⟨ra, 0, none⟩ (.pointer (some ⟨r0, 0, none⟩))).setCell ⟨ra, 1, none⟩ (.pointer (some ⟨r1, 0, none⟩))) := ((Away.refl [ra] wB).setCell (.inl (by simp)) _).setCell (.inl (by simp)) _
  have b1 := block_set blk 0 (.pointer (some ⟨r0, 0, none⟩))
  have b2 := block_set b1 1 (.pointer (some ⟨r1, 0, none⟩))
  obtain ⟨n1, n2, n3, n4, n5⟩ := ne
  refine ⟨aw.next hA (by simpa using hra), by rw [cell_of_block b2]; rfl, by rw [cell_of_block b2]; rfl, h0.away hA (by simp; omega) (by simp; omega), h1.away hA (by simp; omega) (by simp; omega), ⟨hra, old⟩, ⟨n1, n2, n3, n4, n5⟩⟩
theorem app_row {w : World} {v : Value} {l : List Int} {n : Nat} (h : Owns w v (l ++ [165, 166])) (hl : l.length = n) (hb : Bytes l) (hn : n ≤ 140737488351232) :
    ∃ g cap, v = .slice (some ⟨g, 0, none⟩) (n + 2) cap ∧ n + 2 ≤ cap ∧ Row w (some ⟨g, 0, none⟩) (l ++ [165, 166]) ∧ Row w (some ⟨g, 0, none⟩) l ∧ v.ownBlock = some g := by
  obtain ⟨a, cap, rfl, hcap, hnone, hrow, hblk, hoff⟩ := h.row (by simp; omega) (hb.app (by unfold Bytes; decide))
  have hll : (l ++ [165, 166]).length = n + 2 := by simp [hl]
  rw [hll] at hcap
  rcases a with _ | ⟨g, off, sp⟩
  · have := hnone rfl; omega
  · obtain ⟨h1, h2⟩ := hoff _ rfl
    simp only at h1 h2
    subst h1; subst h2
    refine ⟨g, cap, by rw [hll], hcap, hrow, ?_, rfl⟩
    have := hrow.head l.length
    rwa [List.take_left] at this

/-- An append behind a guard that holds. -/
theorem wpList_appG {w : World} {ops : Array Oper} {rest : List Oper} {o : Oper} {a : Act} {Q : Exit → Act → World → Prop} (hw : Region.wanted o (yielded ops a.tmps) = true) (s x : Operand)
    (ho : o.op = .call { callee := .builtin .append, args := #[s, x], argTypes := #[22, 22] }) (v : Value) (l m : List Int) (hs : a.eval s = v) (hown : Owns w v l)
    (ad : Addr) (n c : Nat) (hx : a.eval x = .slice (some ad) n c) (hn : m.length = n) (hm : ∀ j u, (m.map (Value.int .u8))[j]? = some u → w.cell? (ad.add j) = some u) (hlen : l.length + n ≤ 140737488355328)
    (h : ∀ v' w', Owns w' v' (l ++ m) → w.grownBy w' v.ownBlock → Moved w v v' → wpList Try.prog ops Q rest (a.put o.dst v') w') : wpList Try.prog ops Q (o :: rest) a w := by
  obtain ⟨v', w', hrun, r1, r2, r3⟩ := run_appB o.type w v l m hown ad n c hn hm hlen
  refine wpList_step fun K hK => ?_
  rw [if_pos hw]
  unfold Oper.wp
  simp [execOp, ho, resolve, invoke, builtin, hs, hx, hrun, Result.andThen]
  exact hK _ _ (h v' w' r1 r2 r3)
/-- Two pairs that know nothing of one another. -/
structure Sep (B ra ma r0 d0 h0 : Nat) (v0 : Value) (r1 d1 h1 : Nat) (v1 : Value) : Prop where
  b0 : B ≤ r0 ∧ B ≤ h0
  b1 : B ≤ r1 ∧ B ≤ h1
  p0 : r0 ≠ h0 ∧ d0 ≠ h0 ∧ ∀ k, v0.ownBlock = some k → k ≠ r0
  p1 : r1 ≠ h1 ∧ d1 ≠ h1 ∧ ∀ k, v1.ownBlock = some k → k ≠ r1
  n0 : ra ∉ [r0, h0] ∧ ma ∉ [r0, h0] ∧ r1 ∉ [r0, h0] ∧ d1 ∉ [r0, h0] ∧ h1 ∉ [r0, h0] ∧ ∀ k, v1.ownBlock = some k → k ∉ [r0, h0]
  n1 : ra ∉ [r1, h1] ∧ ma ∉ [r1, h1] ∧ r0 ∉ [r1, h1] ∧ d0 ∉ [r1, h1] ∧ h0 ∉ [r1, h1] ∧ ∀ k, v0.ownBlock = some k → k ∉ [r1, h1]
structure Pair (w wr : World) (ra ma r0 d0 h0 : Nat) (v0 : Value) (r1 d1 h1 : Nat) (v1 : Value) : Prop where
  aw : Away [] w wr
  ca0 : wr.cell? ⟨ra, 0, none⟩ = some (.pointer (some ⟨r0, 0, none⟩))
  ca1 : wr.cell? ⟨ra, 1, none⟩ = some (.pointer (some ⟨r1, 0, none⟩))
  cm0 : wr.cell? ⟨ma, 0, none⟩ = some (.pointer (some ⟨h0, 0, none⟩))
  cm1 : wr.cell? ⟨ma, 1, none⟩ = some (.pointer (some ⟨h1, 0, none⟩))
  st0 : ∃ l e, Rd wr r0 d0 l e ∧ Mr wr h0 v0 l e
  st1 : ∃ l e, Rd wr r1 d1 l e ∧ Mr wr h1 v1 l e
theorem Pair.first {w wr w' : World} {ra ma r0 d0 h0 : Nat} {v0 : Value} {r1 d1 h1 : Nat} {v1 : Value} {E : Ending} (h : Pair w wr ra ma r0 d0 h0 v0 r1 d1 h1 v1) (hs : Sep w.heap.size ra ma r0 d0 h0 v0 r1 d1 h1 v1) (hq : ReadsQ wr r0 d0 h0 v0 E w') : Pair w w' ra ma r0 d0 h0 v0 r1 d1 h1 v1 := by
  obtain ⟨_, l, e, q1, q2, q3⟩ := hq
  obtain ⟨n1, n2, n3, n4, n5, n6⟩ := hs.n0
  obtain ⟨l', e', s1, s2⟩ := h.st1
  exact ⟨h.aw.next q3 (fun x hx => .inr (by simp at hx; have := hs.b0; omega)), q3.cell n1 h.ca0, q3.cell n1 h.ca1, q3.cell n2 h.cm0, q3.cell n2 h.cm1, ⟨l, e, q1, q2⟩, ⟨l', e', s1.away q3 n3 n4, s2.away q3 n5 n6⟩⟩
theorem Pair.second {w wr w' : World} {ra ma r0 d0 h0 : Nat} {v0 : Value} {r1 d1 h1 : Nat} {v1 : Value} {E : Ending} (h : Pair w wr ra ma r0 d0 h0 v0 r1 d1 h1 v1) (hs : Sep w.heap.size ra ma r0 d0 h0 v0 r1 d1 h1 v1) (hq : ReadsQ wr r1 d1 h1 v1 E w') : Pair w w' ra ma r0 d0 h0 v0 r1 d1 h1 v1 := by
  obtain ⟨_, l, e, q1, q2, q3⟩ := hq
  obtain ⟨n1, n2, n3, n4, n5, n6⟩ := hs.n1
  obtain ⟨l', e', s1, s2⟩ := h.st0
  exact ⟨h.aw.next q3 (fun x hx => .inr (by simp at hx; have := hs.b1; omega)), q3.cell n1 h.ca0, q3.cell n1 h.ca1, q3.cell n2 h.cm0, q3.cell n2 h.cm1, ⟨l', e', s1.away q3 n3 n4, s2.away q3 n5 n6⟩, ⟨l, e, q1, q2⟩⟩
theorem ReadsQ.undrew {w w' : World} {g d h : Nat} {v : Value} {E : Ending} (hq : ReadsQ w.drew g d h v E w') : ReadsQ w g d h v E w' := by
  obtain ⟨h1, l, e, q1, q2, q3⟩ := hq
  exact ⟨h1, l, e, q1, q2, q3.undrew⟩
/-- The bits of a number: its lowest. -/
theorem and_one (n : Int) : bits .and .i64 n 1 = 0 ∨ bits .and .i64 n 1 = 1 := by
  have e : bits .and .i64 n 1 = IntKind.i64.wrap (((BitVec.ofInt 64 n).toNat % 2 : Nat) : Int) := by
    show IntKind.i64.wrap (((BitVec.ofInt 64 n &&& BitVec.ofInt 64 1).toNat : Nat) : Int) = _
    rw [BitVec.toNat_and, show (BitVec.ofInt 64 1).toNat = 1 from rfl, Nat.and_one_is_mod]
  rw [e]
  rcases Nat.mod_two_eq_zero_or_one (BitVec.ofInt 64 n).toNat with h | h
  · rw [h]; left; rfl
  · rw [h]; right; rfl
theorem Pair.keep {w wr w' : World} {ra ma r0 d0 h0 : Nat} {v0 : Value} {r1 d1 h1 : Nat} {v1 : Value} {g : Nat} (h : Pair w wr ra ma r0 d0 h0 v0 r1 d1 h1 v1) (ha : Away [g] wr w') (hg : w.heap.size ≤ g)
    (hn : g ≠ ra ∧ g ≠ ma ∧ g ≠ r0 ∧ g ≠ d0 ∧ g ≠ h0 ∧ g ≠ r1 ∧ g ≠ d1 ∧ g ≠ h1) (hv0 : ∀ k, v0.ownBlock = some k → g ≠ k) (hv1 : ∀ k, v1.ownBlock = some k → g ≠ k) : Pair w w' ra ma r0 d0 h0 v0 r1 d1 h1 v1 := by
  obtain ⟨n1, n2, n3, n4, n5, n6, n7, n8⟩ := hn
  have f : ∀ k, g ≠ k → k ∉ [g] := fun k hk => by simp; omega
  obtain ⟨l, e, s1, s2⟩ := h.st0
  obtain ⟨l', e', s3, s4⟩ := h.st1
  exact ⟨h.aw.next ha (by simpa using hg), ha.cell (f _ n1) h.ca0, ha.cell (f _ n1) h.ca1, ha.cell (f _ n2) h.cm0, ha.cell (f _ n2) h.cm1, ⟨l, e, s1.away ha (f _ n3) (f _ n4), s2.away ha (f _ n5) (fun k hk => f _ (hv0 k hk))⟩, ⟨l', e', s3.away ha (f _ n6) (f _ n7), s4.away ha (f _ n8) (fun k hk => f _ (hv1 k hk))⟩⟩

set_option maxRecDepth 100000 in
set_option maxHeartbeats 1000000 in
theorem walkl (a : Option Addr) (la : List Int) (n0 cap0 : Nat) (b : Option Addr) (lb : List Int) (n1 cap1 : Nat) (sa : Option Addr) (ops : List OpD) (scap : Nat) (w : World)
    (ha0 : la.length = n0) (hcap0 : n0 ≤ cap0) (hcap0' : cap0 ≤ 140737488351232) (hra : Row w a la) (hb0 : lb.length = n1) (hcap1 : n1 ≤ cap1) (hcap1' : cap1 ≤ 140737488351232) (hrb : Row w b lb)
    (hscap : ops.length ≤ scap) (hsc : Script w sa ops) :
    Calls Try.prog 6 #[.slice a n0 cap0, .slice b n1 cap1, .slice sa ops.length scap] w fun e w' => e = .returned (.bool true) ∧ Below w.heap.size w w' := by
  have HA : Hid (la.length = n0) := ha0
  have HB : Hid (lb.length = n1) := hb0
  have hol := hsc.1
  have hab := hra.2.1
  have hbb := hrb.2.1
  clear ha0 hb0
  go_enter Try.func6, Try.ntmps6
  go_wp2_with fail
  refine (alive_any _).mono ?_
  rintro E w1 ⟨rfl, aw1⟩
  have hr1 := hra.away aw1 (by simp)
  go_wp2_with fail
  refine (own_any a la _ _ _ HA.out (by exact hr1)).mono ?_
  rintro E w2 ⟨v2, rfl, hown2, hnew2, haw2, _, hl2⟩
  have hs1 := aw1.size
  go_wp2_with (at_builtin; refine wpList_app rfl _ _ rfl _ la [165, 166] rfl (by exact hown2.away ((Away.refl [] _).alloc _) (by simp)) ⟨w2.heap.size, 0, none⟩ 2 2 rfl rfl (lit_cells _ [165, 166] _ rfl) (by rw [HA.out]; omega) ?_)
  intro vx w3 hownx hgrx hmovx
  have haw3 := (haw2.alloc (.cells #[.int .u8 165, .int .u8 166] 5)).grown hgrx (fun k hk => .inr (hnew2 k hk))
  have hnewx : New w1.heap.size vx := hnew2.moved hmovx (by have := haw2.size; simp; omega)
  have aw3 := aw1.next haw3 (by simp)
  clear hgrx hmovx hown2 hnew2 haw2 haw3 hr1
  have hr3 := hrb.away aw3 (by simp)
  have hltx := hownx.lt
  go_wp2_with fail
  refine (own_any b lb _ _ _ HB.out (by exact hr3)).mono ?_
  rintro E w4 ⟨v4, rfl, hown4, hnew4, haw4, _, hl4⟩
  have hs3 := aw3.size
  go_wp2_with (at_builtin; refine wpList_app rfl _ _ rfl _ lb [165, 166] rfl (by exact hown4.away ((Away.refl [] _).alloc _) (by simp)) ⟨w4.heap.size, 0, none⟩ 2 2 rfl rfl (lit_cells _ [165, 166] _ rfl) (by rw [HB.out]; omega) ?_)
  intro vy w5 howny hgry hmovy
  have haw5 := (haw4.alloc (.cells #[.int .u8 165, .int .u8 166] 5)).grown hgry (fun k hk => .inr (hnew4 k hk))
  have hnewy : New w3.heap.size vy := hnew4.moved hmovy (by have := haw4.size; simp; omega)
  have aw5 := aw3.next haw5 (by simp)
  have hownx5 := hownx.away haw5 (by simp)
  clear hgry hmovy hown4 hnew4 haw4 hr3 hownx
  obtain ⟨gx, capx, rfl, hcapx, rowx, rowxa, hblkx⟩ := app_row hownx5 HA.out hab (by omega)
  obtain ⟨gy, capy, rfl, hcapy, rowy, rowyb, hblky⟩ := app_row howny HB.out hbb (by omega)
  have hxlt : gx < w3.heap.size := hltx gx rfl
  have hxB : w.heap.size ≤ gx := by have := hnewx gx rfl; omega
  have hylt : gy < w5.heap.size := howny.lt gy rfl
  have hyx : w3.heap.size ≤ gy := hnewy gy rfl
  have hs35 := haw5.size
  have hs5 := aw5.size
  have s1 := slice_h (some ⟨gx, 0, none⟩) (n0 + 2) capx n0 (n0 : Int) rfl (by omega)
  have s2 := slice_h (some ⟨gy, 0, none⟩) (n1 + 2) capy n1 (n1 : Int) rfl (by omega)
  clear hltx hnewx hnewy haw5 aw1 aw3 hs1 hs3 hblkx hblky
  go_upto_region 5 with fail
  go_cut [9] (fun s wc => ∃ ra r0 d0 r1 d1, s = .pointer (some ⟨ra, 0, none⟩) ∧ Fst w5 wc ra r0 d0 r1 d1 la lb)
  case first =>
    go_region_held3 (fun w' => True) (trivial)
      (first
        | (go_at_call_of 10 gx; refine (newReader_any (some ⟨gx, 0, none⟩) la _ _ _ HA.out (by simp) (by first | exact rowxa | exact rowxa.away (((Away.refl [] w5).alloc _).drew) (by simp))).mono ?_; rintro E wA ⟨r0, d0, rfl, hrd0, hg0, hd0, hawA⟩; have awA : Away [] w5 wA := (by first | exact hawA.undrew | exact (((Away.refl [] w5).alloc _).drew).next hawA (by simp)); (try (have qa0 : Hid (wA.heap[w5.heap.size]? = some (.cells #[.pointer none, .pointer none] 59 (0, 0))) := hawA.keep (by simp) (block_new w5 _))))
        | (go_at_call_of 10 gy; refine (newReader_any (some ⟨gy, 0, none⟩) lb _ _ _ HB.out (by simp) (by first | exact rowyb.away awA (by simp) | exact rowyb.away (awA.alloc _) (by simp))).mono ?_; rintro E wB ⟨r1, d1, rfl, hrd1, hg1, hd1, hawB⟩; have awB : Away [] wA wB := (by first | exact hawB | exact ((Away.refl [] wA).alloc _).next hawB (by simp)); (try (have qb0 : Hid (wB.heap[w5.heap.size]? = some (.cells #[.pointer none, .pointer none] 59 (0, 0))) := hawB.keep (by simp) qa0.out; have qc0 : wB.cell? ⟨w5.heap.size, 0, none⟩ = some (.pointer none) := (by rw [cell_of_block qb0.out]; rfl); have qc1 : wB.cell? ⟨w5.heap.size, 1, none⟩ = some (.pointer none) := (by rw [cell_of_block qb0.out]; rfl); have qf0 := free_of_block qb0.out 0; have qf1 := free_of_block qb0.out 1)); (try (have qb0 : Hid (wB.heap[wA.heap.size]? = some (.cells #[.pointer none, .pointer none] 59 (0, 0))) := hawB.keep (by simp) (block_new wA _); have qc0 : wB.cell? ⟨wA.heap.size, 0, none⟩ = some (.pointer none) := (by rw [cell_of_block qb0.out]; rfl); have qc1 : wB.cell? ⟨wA.heap.size, 1, none⟩ = some (.pointer none) := (by rw [cell_of_block qb0.out]; rfl); have qf0 := free_of_block qb0.out 0; have qf1 := free_of_block qb0.out 1))))
    all_goals go_wp2_with fail
    all_goals go_meet
    · have hA : Away [] wB (wB.alloc (.cells #[.pointer (some ⟨r0, 0, none⟩), .pointer (some ⟨r1, 0, none⟩)] 59)) := (Away.refl [] wB).alloc _
      have l0 := hrd0.lt
      have l1 := hrd1.lt
      have z1 := awB.size
      have z0 := awA.size
      have k0 : w5.heap.size ≤ r0 := by simpa using hg0
      have k1 : w5.heap.size ≤ d0 := by simpa using hd0
      exact ⟨wB.heap.size, r0, d0, r1, d1, rfl, (awA.next awB (by simp)).next hA (by simp), by rw [World.cell?_alloc_at (hn := rfl)]; rfl, by rw [World.cell?_alloc_at (hn := rfl)]; rfl, hrd0.away (awB.next hA (by simp)) (by simp) (by simp), hrd1.away hA (by simp) (by simp), ⟨by omega, k0, k1, by omega, by omega⟩, ⟨by omega, by omega, by omega, by omega, by omega⟩⟩
    · have l0 := hrd0.lt
      have l1 := hrd1.lt
      have z1 := awB.size
      have z0 := awA.size
      have k0 : w5.heap.size ≤ r0 := by simpa using hg0
      have k1 : w5.heap.size ≤ d0 := by simpa using hd0
      have k2 : wA.heap.size + 1 ≤ r1 := by simpa using hg1
      have k3 : wA.heap.size + 1 ≤ d1 := by simpa using hd1
      exact ⟨wA.heap.size, r0, d0, r1, d1, rfl, fst_mk (awA.next awB (by simp)) qb0.out (by omega) (hrd0.away awB (by simp) (by simp)) hrd1 ⟨k0, k1, by omega, by omega⟩ ⟨by omega, by omega, by omega, by omega, by omega⟩ ⟨by omega, by omega⟩⟩
    · have l0 := hrd0.lt
      have l1 := hrd1.lt
      have z1 := awB.size
      have z0 := awA.size
      have k0 : w5.heap.size + 1 ≤ r0 := by simpa using hg0
      have k1 : w5.heap.size + 1 ≤ d0 := by simpa using hd0
      exact ⟨w5.heap.size, r0, d0, r1, d1, rfl, fst_mk (awA.next awB (by simp)) qb0.out (by omega) (hrd0.away awB (by simp) (by simp)) hrd1 ⟨by omega, by omega, by omega, by omega⟩ ⟨by omega, by omega, by omega, by omega, by omega⟩ ⟨by omega, by omega⟩⟩
  case rest =>
    obtain ⟨ra, r0, d0, r1, d1, rfl, fst⟩ := hcut
    obtain ⟨fa, fc0, fc1, frd0, frd1, ⟨o1, o2, o3, o4, o5⟩, ⟨m1, m2, m3, m4, m5⟩⟩ := fst
    have aw6 := aw5.next fa (by simp)
    have hra6 := hra.away aw6 (by simp)
    have hrb6 := hrb.away aw6 (by simp)
    have hs6 := aw6.size
    have hs56 := fa.size
    have lt0 := frd0.lt
    have lt1 := frd1.lt
    have ltra : ra < wc.heap.size := block_lt_of_cell fc0
    go_wp2_with fail
    refine (mnewReader_any a la _ _ _ HA.out (by exact hra6)).mono ?_
    rintro E w7 ⟨h0, v0, rfl, mr0, hh0, nv0, haw7⟩
    have hrb7 := hrb6.away haw7 (by simp)
    have mlt0 := mr0.lt
    go_wp2_with fail
    refine (mnewReader_any b lb _ _ _ HB.out (by exact hrb7)).mono ?_
    rintro E w8 ⟨h1, v1, rfl, mr1, hh1, nv1, haw8⟩
    have mlt1 := mr1.lt
    have hs7 := haw7.size
    have hs8 := haw8.size
    have hA9 : Away [] w8 (w8.alloc (.cells #[.pointer (some ⟨h0, 0, none⟩), .pointer (some ⟨h1, 0, none⟩)] 62)) := (Away.refl [] w8).alloc _
    have haw9 : Away [] wc (w8.alloc (.cells #[.pointer (some ⟨h0, 0, none⟩), .pointer (some ⟨h1, 0, none⟩)] 62)) := (haw7.next haw8 (by simp)).next hA9 (by simp)
    have mc0 : (w8.alloc (.cells #[.pointer (some ⟨h0, 0, none⟩), .pointer (some ⟨h1, 0, none⟩)] 62)).cell? ⟨w8.heap.size, 0, none⟩ = some (.pointer (some ⟨h0, 0, none⟩)) := by rw [World.cell?_alloc_at (hn := rfl)]; rfl
    have mc1 : (w8.alloc (.cells #[.pointer (some ⟨h0, 0, none⟩), .pointer (some ⟨h1, 0, none⟩)] 62)).cell? ⟨w8.heap.size, 1, none⟩ = some (.pointer (some ⟨h1, 0, none⟩)) := by rw [World.cell?_alloc_at (hn := rfl)]; rfl
    have rc0 := haw9.cell (by simp) fc0
    have rc1 := haw9.cell (by simp) fc1
    have rd0 := frd0.away haw9 (by simp) (by simp)
    have rd1 := frd1.away haw9 (by simp) (by simp)
    have me0 := mr0.away (haw8.next hA9 (by simp)) (by simp) (by simp)
    have me1 := mr1.away hA9 (by simp) (by simp)
    have aw9 := aw6.next haw9 (by simp)
    have rowx9 := rowx.away (fa.next haw9 (by simp)) (by simp)
    have rowy9 := rowy.away (fa.next haw9 (by simp)) (by simp)
    have ox9 := hownx5.away (fa.next haw9 (by simp)) (by simp)
    have oy9 := howny.away (fa.next haw9 (by simp)) (by simp)
    have hra9 := hra.away aw9 (by simp)
    have hrb9 := hrb.away aw9 (by simp)
    go_wp2_with fail
    generalize hW9 : w8.alloc (.cells #[.pointer (some ⟨h0, 0, none⟩), .pointer (some ⟨h1, 0, none⟩)] 62) = w9 at *
    have hs9 : w8.heap.size + 1 = w9.heap.size := by rw [← hW9]; simp
    have HS9 : Hid (w8.heap.size + 1 = w9.heap.size) := hs9
    clear hW9 hs9
    generalize hma : w8.heap.size = ma at *
    clear hma
    refine (own_any a la _ _ _ HA.out (by exact hra9)).mono ?_
    rintro E w10 ⟨v10, rfl, hown10, hnew10, haw10, _, hl10⟩
    go_wp2_with (at_builtin; refine wpList_appG rfl _ _ rfl _ la [165, 166] rfl (by exact hown10.away ((Away.refl [] _).alloc _) (by simp)) ⟨w10.heap.size, 0, none⟩ 2 2 rfl rfl (lit_cells _ [165, 166] _ rfl) (by rw [HA.out]; omega) ?_)
    intro v11 w11 hown11 hgr11 hmov11
    have haw11 := (haw10.alloc (.cells #[.int .u8 165, .int .u8 166] 5)).grown hgr11 (fun k hk => .inr (hnew10 k hk))
    obtain ⟨g11, cap11, rfl, hcap11, row11, _, _⟩ := app_row hown11 HA.out hab (by omega)
    have rowx11 := rowx9.away haw11 (by simp)
    have hrb11 := hrb9.away haw11 (by simp)
    have HLX : Hid ((la ++ [165, 166]).length = n0 + 2) := by show _ = _; simp [HA.out]
    have HLY : Hid ((lb ++ [165, 166]).length = n1 + 2) := by show _ = _; simp [HB.out]
    clear hgr11 hmov11 hown10 hnew10 haw10 hown11
    go_wp2_with fail
    refine (same_yes _ _ (la ++ [165, 166]) (la ++ [165, 166]) _ _ _ _ _ HLX.out HLX.out (by simp) (by simp) (by exact rowx11) (by exact row11) rfl).mono ?_
    rintro E w' ⟨rfl, rfl⟩
    go_wp2_with fail
    refine (own_any b lb _ _ _ HB.out (by exact hrb11)).mono ?_
    rintro E w12 ⟨v12, rfl, hown12, hnew12, haw12, _, hl12⟩
    go_wp2_with (at_builtin; refine wpList_appG rfl _ _ rfl _ lb [165, 166] rfl (by exact hown12.away ((Away.refl [] _).alloc _) (by simp)) ⟨w12.heap.size, 0, none⟩ 2 2 rfl rfl (lit_cells _ [165, 166] _ rfl) (by rw [HB.out]; omega) ?_)
    intro v13 w13 hown13 hgr13 hmov13
    have haw13 := (haw12.alloc (.cells #[.int .u8 165, .int .u8 166] 5)).grown hgr13 (fun k hk => .inr (hnew12 k hk))
    obtain ⟨g13, cap13, rfl, hcap13, row13, _, _⟩ := app_row hown13 HB.out hbb (by omega)
    have A13 := haw11.next haw13 (by simp)
    have rowy13 := rowy9.away A13 (by simp)
    have ox13 := ox9.away A13 (by simp)
    have oy13 := oy9.away A13 (by simp)
    clear hgr13 hmov13 hown12 hnew12 haw12 hown13
    go_wp2_with fail
    refine (same_yes _ _ (lb ++ [165, 166]) (lb ++ [165, 166]) _ _ _ _ _ HLY.out HLY.out (by simp) (by simp) (by exact rowy13) (by exact row13) rfl).mono ?_
    rintro E w14 ⟨rfl, hw14⟩
    have hw14 := hw14.symm
    subst hw14
    have aw13 := aw9.next A13 (by simp)
    have hsep : Sep w.heap.size ra ma r0 d0 h0 v0 r1 d1 h1 v1 := by
      have q1 : ∀ k, v0.ownBlock = some k → wc.heap.size ≤ k ∧ k < w7.heap.size := fun k hk => ⟨nv0 k hk, mlt0.2 k hk⟩
      have q2 : ∀ k, v1.ownBlock = some k → w7.heap.size ≤ k ∧ k < ma := fun k hk => ⟨nv1 k hk, mlt1.2 k hk⟩
      refine ⟨⟨by omega, by omega⟩, ⟨by omega, by omega⟩, ⟨by omega, by omega, fun k hk => ?_⟩, ⟨by omega, by omega, fun k hk => ?_⟩, ⟨by simp; omega, by simp; omega, by simp; omega, by simp; omega, by simp; omega, fun k hk => ?_⟩, ⟨by simp; omega, by simp; omega, by simp; omega, by simp; omega, by simp; omega, fun k hk => ?_⟩⟩
      · have := q1 k hk; omega
      · have := q2 k hk; omega
      · have := q2 k hk; simp; omega
      · have := q1 k hk; simp; omega
    have hpair : Pair w w13 ra ma r0 d0 h0 v0 r1 d1 h1 v1 := ⟨aw13, A13.cell (by simp) rc0, A13.cell (by simp) rc1, A13.cell (by simp) mc0, A13.cell (by simp) mc1, ⟨_, _, rd0.away A13 (by simp) (by simp), me0.away A13 (by simp) (by simp)⟩, ⟨_, _, rd1.away A13 (by simp) (by simp), me1.away A13 (by simp) (by simp)⟩⟩
    have HX : Hid (∀ g, g < w5.heap.size → w.heap.size ≤ g → ∀ wr wr', Pair w wr ra ma r0 d0 h0 v0 r1 d1 h1 v1 → Away [g] wr wr' → Pair w wr' ra ma r0 d0 h0 v0 r1 d1 h1 v1) := by
      intro g hg hgB wr wr' hp ha
      refine hp.keep ha hgB ⟨by omega, by omega, by omega, by omega, by omega, by omega, by omega, by omega⟩ (fun k hk => ?_) (fun k hk => ?_)
      · have := nv0 k hk; omega
      · have := nv1 k hk; omega
    have hsz5 := aw5.size
    clear A13 row13 rowy13 rowx11 row11 hrb11 rowx9 rowy9 ox9 oy9 rd0 rd1 me0 me1 rc0 rc1 mc0 mc1 aw9 aw13 aw6 haw9 hA9 mr0 mr1 nv0 nv1 mlt0 mlt1 frd0 frd1 fc0 fc1 fa haw7 haw8 hra6 hrb6 hrb7 hra9 hrb9 hownx5 howny rowx rowxa rowy rowyb s1 s2
    go_wp2_with fail
    go_loopw [11] (fun i wr => ∃ (k : Nat) (M : List Int), k ≤ n0 + 2 ∧ i = .int .i64 k ∧ M.length = n0 + 2 ∧ Owns wr (.slice (some ⟨gx, 0, none⟩) (n0 + 2) capx) M ∧ Owns wr (.slice (some ⟨gy, 0, none⟩) (n1 + 2) capy) (lb ++ [165, 166]) ∧ Pair w wr ra ma r0 d0 h0 v0 r1 d1 h1 v1) (fun i _ => n0 + 2 - (intOf i).toNat)
    case atStart => exact ⟨0, _, by omega, rfl, HLX.out, ox13, oy13, hpair⟩
    case round =>
      obtain ⟨k, M, hk, rfl, hM, ox, oy, hp⟩ := hrel
      have HM : Hid (M.length = n0 + 2) := hM
      clear hM
      by_cases hlt : k < n0 + 2
      · obtain ⟨c0, f0⟩ := ox.cells k (by rw [HM.out]; exact hlt)
        have hA : Away [gx] wr (wr.setCell ⟨gx, k, none⟩ (.int .u8 238)) := (Away.refl _ wr).setCell (.inl (by simp)) _
        have hp2 := HX.out gx (by omega) hxB wr _ hp hA
        have oy2 := oy.away hA (fun j hj => by simp [Value.ownBlock] at hj; simp; omega)
        have ox2 := ox.set HM.out k 238
        clear ox oy hp hA
        have hlt1 : (k : Int) < (n0 : Int) + 2 := by omega
        go_wp2_with fail
        go_roundw
        case rel => exact ⟨k + 1, _, by omega, by go_num, by simpa using HM.out, ox2, oy2, hp2⟩
        case measure => simp [intOf]; omega
      · have hlt1 : ¬ ((k : Int) < (n0 : Int) + 2) := by omega
        clear ox
        go_wp2_with fail
        go_loopw [12] (fun i wr => ∃ (k : Nat) (M : List Int), k ≤ n1 + 2 ∧ i = .int .i64 k ∧ M.length = n1 + 2 ∧ Owns wr (.slice (some ⟨gy, 0, none⟩) (n1 + 2) capy) M ∧ Pair w wr ra ma r0 d0 h0 v0 r1 d1 h1 v1) (fun i _ => n1 + 2 - (intOf i).toNat)
        case atStart => exact ⟨0, _, by omega, rfl, HLY.out, oy, hp⟩
        case round =>
          obtain ⟨k, M, hk, rfl, hM, oy, hp⟩ := hrel
          have HM : Hid (M.length = n1 + 2) := hM
          clear hM
          by_cases hlt : k < n1 + 2
          · obtain ⟨c0, f0⟩ := oy.cells k (by rw [HM.out]; exact hlt)
            have hA : Away [gy] wr (wr.setCell ⟨gy, k, none⟩ (.int .u8 238)) := (Away.refl _ wr).setCell (.inl (by simp)) _
            have hp2 := HX.out gy (by omega) (by omega) wr _ hp hA
            have oy2 := oy.set HM.out k 238
            clear oy hp hA
            have hlt1 : (k : Int) < (n1 : Int) + 2 := by omega
            go_wp2_with fail
            go_roundw
            case rel => exact ⟨k + 1, _, by omega, by go_num, by simpa using HM.out, oy2, hp2⟩
            case measure => simp [intOf]; omega
          · have hlt1 : ¬ ((k : Int) < (n1 : Int) + 2) := by omega
            clear oy
            go_wp2_with fail
            go_loopw [13] (fun i wr => ∃ k : Nat, k ≤ ops.length ∧ i = .int .i64 k ∧ Pair w wr ra ma r0 d0 h0 v0 r1 d1 h1 v1) (fun i _ => ops.length - (intOf i).toNat)
            case atStart => exact ⟨0, by omega, rfl, hp⟩
            case round =>
              obtain ⟨k, hk, rfl, hp⟩ := hrel
              by_cases hlt : k < ops.length
              · rcases hsc.2.2 with h0' | ⟨sb, off, rfl, hcell⟩
                · rw [h0'] at hlt; simp at hlt
                obtain ⟨o, ho⟩ : ∃ o, ops[k]? = some o := ⟨_, List.getElem?_eq_getElem hlt⟩
                obtain ⟨c0, c1, c2, c3, c4⟩ := hcell k o ho
                have e0 := hp.aw.cell (by simp) c0
                have e1 := hp.aw.cell (by simp) c1
                have e2 := hp.aw.cell (by simp) c2
                have e3 := hp.aw.cell (by simp) c3
                have e4 := hp.aw.cell (by simp) c4
                have x0 := hp.ca0
                have x1 := hp.ca1
                have y0 := hp.cm0
                have y1 := hp.cm1
                have hk0 : (0 : Int) ≤ (k : Int) := by omega
                have hk1 : (k : Int) < (ops.length : Int) := by omega
                have HCC : Hid (Cells5 w sb (off + k * 5) o) := ⟨c0, c1, c2, c3, c4⟩
                clear c0 c1 c2 c3 c4 hcell ho
                rcases and_one o.who with hand | hand
                · obtain ⟨l, e, st1, st2⟩ := hp.st0
                  go_wp2_with fail
                  go_region_held3 (fun w' => w'.cell? ⟨ra, 0, none⟩ = some (.pointer (some ⟨r0, 0, none⟩)) ∧ w'.cell? ⟨ma, 0, none⟩ = some (.pointer (some ⟨h0, 0, none⟩)) ∧ w'.cell? ⟨sb, off + k * 5, none⟩ = some (.int .i64 o.kd) ∧ w'.cell? ⟨sb, off + k * 5 + 1, none⟩ = some (.int .i64 o.who) ∧ w'.cell? ⟨sb, off + k * 5 + 2, none⟩ = some (.int .i64 o.n) ∧ w'.cell? ⟨sb, off + k * 5 + 3, none⟩ = some (.int .u32 o.v) ∧ w'.cell? ⟨sb, off + k * 5 + 4, none⟩ = some (.slice o.ba o.b.length o.bc)) (go_keep)
                    (first
                      | (go_at_call 32; refine (reads_any _ r0 d0 h0 v0 l e o (by exact st1) (by exact st2) hsep.p0.1 hsep.p0.2.1 hsep.p0.2.2).mono ?_; intro E w20 hq; have hE := hq.1; subst hE; have hp2 := hp.first hsep (ReadsQ.undrew hq); have z0 := hp2.ca0; have z1 := hp2.cm0; have z2 := hp2.aw.cell (by simp) HCC.out.1; have z3 := hp2.aw.cell (by simp) HCC.out.2.1; have z4 := hp2.aw.cell (by simp) HCC.out.2.2.1; have z5 := hp2.aw.cell (by simp) HCC.out.2.2.2.1; have z6 := hp2.aw.cell (by simp) HCC.out.2.2.2.2))
                  go_wp2_with fail
                  go_roundw
                  case rel => exact ⟨k + 1, by omega, by go_num, hp2⟩
                  case measure => simp [intOf]; omega
                · obtain ⟨l, e, st1, st2⟩ := hp.st1
                  go_wp2_with fail
                  go_region_held3 (fun w' => w'.cell? ⟨ra, 1, none⟩ = some (.pointer (some ⟨r1, 0, none⟩)) ∧ w'.cell? ⟨ma, 1, none⟩ = some (.pointer (some ⟨h1, 0, none⟩)) ∧ w'.cell? ⟨sb, off + k * 5, none⟩ = some (.int .i64 o.kd) ∧ w'.cell? ⟨sb, off + k * 5 + 1, none⟩ = some (.int .i64 o.who) ∧ w'.cell? ⟨sb, off + k * 5 + 2, none⟩ = some (.int .i64 o.n) ∧ w'.cell? ⟨sb, off + k * 5 + 3, none⟩ = some (.int .u32 o.v) ∧ w'.cell? ⟨sb, off + k * 5 + 4, none⟩ = some (.slice o.ba o.b.length o.bc)) (go_keep)
                    (first
                      | (go_at_call 32; refine (reads_any _ r1 d1 h1 v1 l e o (by exact st1) (by exact st2) hsep.p1.1 hsep.p1.2.1 hsep.p1.2.2).mono ?_; intro E w20 hq; have hE := hq.1; subst hE; have hp2 := hp.second hsep (ReadsQ.undrew hq); have z0 := hp2.ca1; have z1 := hp2.cm1; have z2 := hp2.aw.cell (by simp) HCC.out.1; have z3 := hp2.aw.cell (by simp) HCC.out.2.1; have z4 := hp2.aw.cell (by simp) HCC.out.2.2.1; have z5 := hp2.aw.cell (by simp) HCC.out.2.2.2.1; have z6 := hp2.aw.cell (by simp) HCC.out.2.2.2.2))
                  go_wp2_with fail
                  go_roundw
                  case rel => exact ⟨k + 1, by omega, by go_num, hp2⟩
                  case measure => simp [intOf]; omega
              · skip
                obtain ⟨l, e, st1, st2⟩ := hp.st0
                have x0 := hp.ca0
                have x1 := hp.ca1
                have y0 := hp.cm0
                have y1 := hp.cm1
                go_wp2_with fail
                refine (reads_any _ r0 d0 h0 v0 l e ⟨5, 0, 0, 0, none, 0, []⟩ (by exact st1) (by exact st2) hsep.p0.1 hsep.p0.2.1 hsep.p0.2.2).mono ?_
                intro E w20 hq
                have hE := hq.1
                subst hE
                have hp2 := hp.first hsep hq
                clear hp st1 st2 hq x0 x1 y0 y1
                have hp := hp2
                clear hp2
                obtain ⟨l, e, st1, st2⟩ := hp.st1
                have x0 := hp.ca0
                have x1 := hp.ca1
                have y0 := hp.cm0
                have y1 := hp.cm1
                go_wp2_with fail
                refine (reads_any _ r1 d1 h1 v1 l e ⟨5, 0, 0, 0, none, 0, []⟩ (by exact st1) (by exact st2) hsep.p1.1 hsep.p1.2.1 hsep.p1.2.2).mono ?_
                intro E w20 hq
                have hE := hq.1
                subst hE
                have hp2 := hp.second hsep hq
                clear hp st1 st2 hq x0 x1 y0 y1
                have hp := hp2
                clear hp2
                obtain ⟨l, e, st1, st2⟩ := hp.st0
                have x0 := hp.ca0
                have x1 := hp.ca1
                have y0 := hp.cm0
                have y1 := hp.cm1
                go_wp2_with fail
                refine (reads_any _ r0 d0 h0 v0 l e ⟨1, 0, 0, 0, none, 0, []⟩ (by exact st1) (by exact st2) hsep.p0.1 hsep.p0.2.1 hsep.p0.2.2).mono ?_
                intro E w20 hq
                have hE := hq.1
                subst hE
                have hp2 := hp.first hsep hq
                clear hp st1 st2 hq x0 x1 y0 y1
                have hp := hp2
                clear hp2
                go_wp2_with fail
                go_ret
                exact ⟨rfl, hp.aw.to_below⟩
theorem walk (a0 : Option Addr) (len0 cap0 : Nat) (z0 : List Int) (a1 : Option Addr) (len1 cap1 : Nat) (z1 : List Int) (sa : Option Addr) (ops : List OpD) (scap : Nat) (w : World) (h0 : IsRow .u8 w a0 len0 cap0 z0) (h1 : IsRow .u8 w a1 len1 cap1 z1) (h2 : ops.length ≤ scap) (h3 : Script w sa ops) :
    Calls Try.prog 6 #[.slice a0 len0 cap0, .slice a1 len1 cap1, .slice sa ops.length scap] w fun e w' => e = .returned (.bool true) ∧ Below w.heap.size w w' := by
  obtain ⟨l, hl, hc, hc', hr, hn⟩ := view h0
  obtain ⟨m, hm, hd, hd', hs, ho⟩ := view h1
  exact walkl a0 l len0 cap0 a1 m len1 cap1 sa ops scap w hl hc hc' hr hm hd hd' hs h2 h3
set_option maxRecDepth 100000 in
theorem lifted (os : Os) (started : os.Started) (H : Type) (enc : TypeId × Value → H) :
    ReturnsInHanded {} Try.checked os 6 .any (Rows.wireReadsSpec.pre6 enc Try.prog Try.f6 Rows.wireReadsRow.domain false) (Rows.wireReadsSpec.post enc Try.prog Try.f6 false true false false) := by
  refine returnsInHanded_of_change_sized (C := Try.checked) ownKn started (by kernel_rfl) Try.func6
    (ChangeSpec.witness6 (enc := enc) (C := Try.checked) false ⟨#[], #[.slice none 0 0, .slice none 0 0, .slice none 0 0], []⟩ 8 (by kernel_rfl) (by kernel_rfl) (by kernel_rfl) (by kernel_rfl)) ?_
  intro W base args ds gs before hval0 hW _ hsz0 _
  have hsz : (DataW.weightsEach Try.prog (Try.f6.params.toList ++ Rows.wireReadsSpec.plain.varTypes Try.prog) (ds ++ gs)).all (· ≤ reachBytes) = true := hsz0
  clear hsz0
  have hval : ∀ (j : Nat) t v, Try.f6.params[j]? = some t → args[j]? = some v → Value.okWide Try.prog W .any base t v := hval0
  have hW' := hW
  obtain ⟨p, q, hA0, hV, rfl, hfz, hnd⟩ := hW
  have hA : DataW.TrodAll enc Try.prog W 0 (fun _ => true) true Try.f6.params.toList args.toList ds p := hA0
  rw [Try.params6] at hA hval hsz
  obtain ⟨v0, vs0, d0, ds0, p0, q0, hargs, rfl, rfl, h0, r0⟩ := trodAll_cons hA
  obtain ⟨v1, vs1, d1, ds1, p1, q1, rfl, rfl, rfl, h1, r1⟩ := trodAll_cons r0
  obtain ⟨v2, vs2, d2, ds2, p2, q2, rfl, rfl, rfl, h2, r2⟩ := trodAll_cons r1
  obtain ⟨rfl, rfl, rfl⟩ := trodAll_nil r2
  obtain rfl : args = #[v0, v1, v2] := by cases args; simp_all
  obtain ⟨rfl, rfl⟩ := trodVars_none hV
  obtain ⟨a0, len0, cap0, rfl⟩ := okWide_slice Try.underlying22 (hval 0 22 v0 rfl rfl)
  have k0 := h0
  have lt0 : ∀ x ∈ p0, x.block < W.heap.size := by obtain ⟨m, hm⟩ := k0; exact DataW.trod_lt m _ _ _ hm
  obtain ⟨z0, w0⟩ : ∃ zs, IsRow .u8 W a0 len0 cap0 zs := by
    obtain ⟨fuel, hf⟩ := h0
    rcases open_ints Try.underlying22 Try.underlying5 (by kernel_rfl) hf with ⟨hcs, _⟩ | ⟨x, l, c, zs, hcs, _, hl, hm, hz, hx, hcell, hwz⟩
    · simp [Value.cells] at hcs
      obtain ⟨rfl, rfl, rfl⟩ := hcs
      exact ⟨[], .inl ⟨rfl, rfl, rfl, rfl⟩⟩
    · simp [Value.cells] at hcs
      obtain ⟨rfl, rfl, rfl⟩ := hcs
      simp only [Prod.mk.injEq] at hx
      obtain ⟨rfl, hpl⟩ := hx
      have hreach : cap0 * kindBytes .u8 ≤ 140737488351232 := by
        have := sized_slice hsz (j := 0) (t := 22) (e := 5) rfl rfl Try.underlying22
        rw [show Try.prog.bytesOf 5 = kindBytes .u8 from by kernel_rfl] at this
        simp only [lits, List.length_map, List.length_take, List.length_drop, reachBytes] at this
        simp only [if_true] at hz
        rw [show min len0 zs.length + (zs.length - len0) = cap0 from by omega] at this
        exact this
      exact ⟨zs, .inr ⟨_, rfl, hl, hreach, by simpa using hz, hcell, hwz⟩⟩
  obtain ⟨a1, len1, cap1, rfl⟩ := okWide_slice Try.underlying22 (hval 1 22 v1 rfl rfl)
  have k1 := h1
  have lt1 : ∀ x ∈ p1, x.block < W.heap.size := by obtain ⟨m, hm⟩ := k1; exact DataW.trod_lt m _ _ _ hm
  obtain ⟨z1, w1⟩ : ∃ zs, IsRow .u8 W a1 len1 cap1 zs := by
    obtain ⟨fuel, hf⟩ := h1
    rcases open_ints Try.underlying22 Try.underlying5 (by kernel_rfl) hf with ⟨hcs, _⟩ | ⟨x, l, c, zs, hcs, _, hl, hm, hz, hx, hcell, hwz⟩
    · simp [Value.cells] at hcs
      obtain ⟨rfl, rfl, rfl⟩ := hcs
      exact ⟨[], .inl ⟨rfl, rfl, rfl, rfl⟩⟩
    · simp [Value.cells] at hcs
      obtain ⟨rfl, rfl, rfl⟩ := hcs
      simp only [Prod.mk.injEq] at hx
      obtain ⟨rfl, hpl⟩ := hx
      have hreach : cap1 * kindBytes .u8 ≤ 140737488351232 := by
        have := sized_slice hsz (j := 1) (t := 22) (e := 5) rfl rfl Try.underlying22
        rw [show Try.prog.bytesOf 5 = kindBytes .u8 from by kernel_rfl] at this
        simp only [lits, List.length_map, List.length_take, List.length_drop, reachBytes] at this
        simp only [if_true] at hz
        rw [show min len1 zs.length + (zs.length - len1) = cap1 from by omega] at this
        exact this
      exact ⟨zs, .inr ⟨_, rfl, hl, hreach, by simpa using hz, hcell, hwz⟩⟩
  obtain ⟨a2, len2, cap2, rfl⟩ := okWide_slice Try.underlying52 (hval 2 52 v2 rfl rfl)
  have k2 := h2
  have lt2 : ∀ x ∈ p2, x.block < W.heap.size := by obtain ⟨m, hm⟩ := k2; exact DataW.trod_lt m _ _ _ hm
  obtain ⟨ops2, hol2, w2, hsc2, hbk2⟩ : ∃ ops : List OpD, ops.length = len2 ∧ ops.length ≤ cap2 ∧ Script W a2 ops ∧ (ops.map (fun o => o.b.length + 4)).sum ≤ Rows.uptoBulk d2 := by
    obtain ⟨fuel, hf⟩ := h2
    obtain ⟨ops, e1, e2, e3, e4⟩ := open_script (enc := enc) (fuel := fuel) (a := a2) (len := len2) (cap := cap2) (by simpa [Value.cells] using hf) (fun m hm => by
      have := List.all_eq_true.1 hsz m (DataW.weights_mem_each (j := 2) (t := 52) rfl rfl m hm)
      simpa using this)
    exact ⟨ops, e1, by omega, e3, e4⟩
  subst hol2
  clear hA0 hval0
  refine (walk a0 len0 cap0 z0 a1 len1 cap1 z1 a2 ops2 cap2 W w0 w1 w2 hsc2).mono fun e W' ⟨he, bel⟩ => ?_
  subst he
  exact ⟨_, rfl, _, _, _, [], _, [], hW', trodAll_mk1 (shut_bool Try.underlying4 _), (trodAll_cons_mk (Below.trod laidOut (by kernel_rfl) (of_decide_eq_true (by kernel_rfl)) k0 bel lt0) (trodAll_cons_mk (Below.trod laidOut (by kernel_rfl) (of_decide_eq_true (by kernel_rfl)) k1 bel lt1) (trodAll_cons_mk (Below.trod laidOut (by kernel_rfl) (of_decide_eq_true (by kernel_rfl)) k2 bel lt2) trodAll_mk0))), rfl, bel.frame _, fun h => by cases h⟩

theorem over : Rows.wireReadsRow.holds Try.pinned (OpenSpec.ofChange Rows.wireReadsSpec) :=
  OpenClaim.holds_of_wide 6 Try.f6 rfl rfl rfl rfl rfl rfl rfl ⟨rfl, rfl, rfl, rfl, rfl⟩ rfl rfl rfl rfl rfl (by kernel_rfl) Try.func6 (by kernel_rfl)
    (of_decide_eq_true (by kernel_rfl)) (by unfold Func.isWrapper; first | (rw [if_pos (by decide +kernel)]; kernel_rfl) | (rw [if_neg (by decide +kernel)]; exact ⟨rfl, rfl⟩))
    (fun os started H enc _ => lifted os started H enc)

end Go.Proofs.Ytaiomhhndckccaa.wireReads
namespace Go.Proofs.Ytaiomhhndckccaa
theorem wireReads_holds : Rows.WireReadsSaid := wireReads.over
#print axioms wireReads_holds
end Go.Proofs.Ytaiomhhndckccaa
