/-
  The document's queue.
-/
import Derived.Test.YtdgkkbiodhbmeaaKIO
namespace Go.Proofs.Ytdgkkbiodhbmeaa
open Go.ChangeShapes Go.WideShapes Go.ChangeAt Go.RowKit
set_option linter.unusedVariables false
set_option linter.unusedSimpArgs false
set_option maxRecDepth 100000
set_option maxHeartbeats 8000000

/-- Lists of numbers. -/
theorem info3 : (Try.prog.info? 3).map (fun i => (i.zero, i.size, i.bytes)) = some (some (.int .i64 0), 1, 8) := by kernel_rfl
theorem size61 (wx : World) : (sizeOf (Try.prog.elem 61)).run Try.prog wx = .ok 1 wx := by kernel_rfl
theorem under61 : Try.prog.underlying 61 = some (.slice (Try.prog.elem 61)) := by kernel_rfl
theorem slice_l61 (a A : Option Addr) (len cap k : Nat) (lo : Int) (hA : A = if cap = k then a else a.map (·.add (k * 1))) (hlo : lo = k) (hm : k ≤ len) (wx : World) :
    (Instr.sliceAt 61 (.slice a len cap) (some (.int .i64 lo)) none none).run Try.prog wx = .ok (.slice A (len - k) (cap - k)) wx := by
  subst hlo; subst hA
  rw [run_sliceAt_slice (h := under61), run_slice_l (ht := under61) (h0 := by omega) (h1 := by omega), size61]
  simp only [Result.andThen, sliced]
  rw [show (k : Int).toNat = k from by omega]
/-- An append of numbers that can be read. -/
theorem wpList_appI {w : World} {ops : Array Oper} {rest : List Oper} {o : Oper} {a : Act} {Q : Exit → Act → World → Prop} (hgd : o.guard = none) (s t : Operand)
    (ho : o.op = .call { callee := .builtin .append, args := #[s, t], argTypes := #[61, 61] }) (v : Value) (xs : List Value) (hs : a.eval s = v) (hown : Lv 3 1 w v xs.length xs)
    (ad : Addr) (n cp : Nat) (ht : a.eval t = .slice (some ad) n cp) (ys : List Value) (hn : ys.length = n) (hc : ∀ j u, ys[j]? = some u → w.cell? (ad.add j) = some u) (h1 : ∀ u ∈ ys, u.oneCell' = true) (hk : xs.length + n ≤ 1000)
    (h : ∀ v' w', Lv 3 1 w' v' (xs ++ ys).length (xs ++ ys) → Away v.ownBlock.toList w w' → Moved w v v' → wpList Try.prog ops Q rest (a.put o.dst v') w') : wpList Try.prog ops Q (o :: rest) a w := by
  obtain ⟨i0, hi, hz0, hz1, hz2⟩ := info_parts info3
  obtain ⟨v', w', hrun, r1, r2, r3⟩ := run_appN 61 o.type 3 i0 _ 8 1 Try.underlying61 hi hz0 hz1 hz2 rfl (by decide) w v xs.length xs hown ad n cp ys (by omega) hc h1 (by unfold maxLen; omega) (by omega)
  refine wpList_plain hgd fun _ hK => ?_
  unfold Oper.wp
  simp [execOp, ho, resolve, invoke, builtin, hs, ht, hrun, Result.andThen]
  refine hK _ _ (h v' w' ?_ (Away.grow r2) r3)
  rw [List.length_append, hn]; exact r1

/-- The cells of it. -/
def RCel (w : World) (g : Nat) (c m : Int) (v u : Value) : Prop := w.heap[g]? = some (.cells #[.int .i64 c, .int .i64 m, v, u] 63 (0, 0))
theorem RCel.c0 {w : World} {g : Nat} {c m : Int} {v u : Value} (k : RCel w g c m v u) : w.cell? ⟨g, 0, none⟩ = some (.int .i64 c) := by rw [cell_of_block k]; rfl
theorem RCel.c1 {w : World} {g : Nat} {c m : Int} {v u : Value} (k : RCel w g c m v u) : w.cell? ⟨g, 1, none⟩ = some (.int .i64 m) := by rw [cell_of_block k]; rfl
theorem RCel.c2 {w : World} {g : Nat} {c m : Int} {v u : Value} (k : RCel w g c m v u) : w.cell? ⟨g, 2, none⟩ = some (v) := by rw [cell_of_block k]; rfl
theorem RCel.c3 {w : World} {g : Nat} {c m : Int} {v u : Value} (k : RCel w g c m v u) : w.cell? ⟨g, 3, none⟩ = some (u) := by rw [cell_of_block k]; rfl
theorem RCel.free {w : World} {g : Nat} {c m : Int} {v u : Value} (k : RCel w g c m v u) (i : Nat) : w.frozen? ⟨g, i, none⟩ = false := free_of_block k i
theorem RCel.lt {w : World} {g : Nat} {c m : Int} {v u : Value} (k : RCel w g c m v u) : g < w.heap.size := lt_of_block k
theorem RCel.away {S : List Nat} {w' : World} {w : World} {g : Nat} {c m : Int} {v u : Value} (k : RCel w g c m v u) (hw : Away S w w') (hg : g ∉ S) : RCel w' g c m v u := hw.keep hg k
theorem RCel.setL {w : World} {g : Nat} {c m : Int} {v u : Value} (k : RCel w g c m v u) (v' : Value) : RCel (w.setCell ⟨g, 2, none⟩ v') g c m v' u := by unfold RCel at k ⊢; rw [block_set k]; rfl
theorem RCel.setS {w : World} {g : Nat} {c m : Int} {v u : Value} (k : RCel w g c m v u) (u' : Value) : RCel (w.setCell ⟨g, 3, none⟩ u') g c m v u' := by unfold RCel at k ⊢; rw [block_set k]; rfl
def xsT (R : List Th) : List Value := R.flatMap Th.x
def nsT (R : List Th) : List Value := R.map (fun t => .int .i64 t.n)
theorem nsT_len (R : List Th) : (nsT R).length = R.length := by simp [nsT]
theorem xsT_len {R : List Th} (h : ∀ t ∈ R, KI.Shp t) : (xsT R).length = R.length := by
  induction R with
  | nil => rfl
  | cons t r ih =>
    obtain ⟨a, ha⟩ := h t (by simp)
    have h1 := ih (fun x hx => h x (by simp [hx]))
    unfold xsT at h1 ⊢
    rw [List.flatMap_cons, List.length_append, ha, h1]
    simp; omega
theorem xsT_one {R : List Th} (h : ∀ t ∈ R, KI.Shp t) : ∀ u ∈ xsT R, u.oneCell' = true := fun u hu => by
  obtain ⟨t, ht, hx⟩ := List.mem_flatMap.1 hu
  obtain ⟨a, ha⟩ := h t ht
  rw [ha] at hx
  simp at hx
  subst hx; rfl
theorem nsT_one (R : List Th) : ∀ u ∈ nsT R, u.oneCell' = true := fun u hu => by
  obtain ⟨t, ht, rfl⟩ := List.mem_map.1 hu
  rfl
/-- The document's queue in memory. -/
structure Rq (w : World) (g : Nat) (v u : Value) (c m : Int) (R : List Th) : Prop where
  cel : RCel w g c m v u
  l : Lv 3 1 w v (xsT R).length (xsT R)
  s : Lv 3 1 w u (nsT R).length (nsT R)
  vg : ∀ k, v.ownBlock = some k → k ≠ g
  ug : ∀ k, u.ownBlock = some k → k ≠ g
  vu : ∀ k, v.ownBlock = some k → u.ownBlock ≠ some k
  shp : ∀ t ∈ R, KI.Shp t
  bnd : Bnd c m R
theorem Rq.away {S : List Nat} {w w' : World} {g : Nat} {v u : Value} {c m : Int} {R : List Th} (h : Rq w g v u c m R) (hw : Away S w w') (hg : g ∉ S) (hv : ∀ k, v.ownBlock = some k → k ∉ S) (hu : ∀ k, u.ownBlock = some k → k ∉ S) : Rq w' g v u c m R :=
  ⟨h.cel.away hw hg, h.l.away hw hv, h.s.away hw hu, h.vg, h.ug, h.vu, h.shp, h.bnd⟩
theorem Rq.on {w w' : World} {g : Nat} {v u : Value} {c m : Int} {R : List Th} (h : Rq w g v u c m R) (hw : Away [] w w') : Rq w' g v u c m R := h.away hw (by simp) (by simp) (by simp)
theorem Rq.slv {w : World} {g : Nat} {v u : Value} {c m : Int} {R : List Th} (h : Rq w g v u c m R) : ∃ a cap, v = .slice a R.length cap ∧ R.length ≤ cap := by
  have h1 := xsT_len h.shp
  rcases h.l.shp with ⟨rfl, h2⟩ | ⟨g, cap, rfl, h2⟩
  · exact ⟨none, 0, by rw [← h1, h2], by omega⟩
  · exact ⟨_, cap, by rw [h1], by omega⟩
theorem Rq.slu {w : World} {g : Nat} {v u : Value} {c m : Int} {R : List Th} (h : Rq w g v u c m R) : ∃ a cap, u = .slice a R.length cap ∧ R.length ≤ cap := by
  have h1 := nsT_len R
  rcases h.s.shp with ⟨rfl, h2⟩ | ⟨g, cap, rfl, h2⟩
  · exact ⟨none, 0, by rw [← h1, h2], by omega⟩
  · exact ⟨_, cap, by rw [h1], by omega⟩
theorem Rq.size {w : World} {g : Nat} {v u : Value} {c m : Int} {R : List Th} (h : Rq w g v u c m R) {i : Nat} {t : Th} (ht : R[i]? = some t) : ∃ gs cap, u = .slice (some ⟨gs, 0, none⟩) R.length cap ∧ w.cell? ⟨gs, i, none⟩ = some (.int .i64 t.n) := by
  have hi : i < R.length := (List.getElem?_eq_some_iff.1 ht).1
  have h1 := nsT_len R
  have h2 := h.s
  rcases h2.shp with ⟨rfl, h3⟩ | ⟨gs, cap, rfl, h3⟩
  · omega
  · exact ⟨gs, cap, by rw [h1], h2.at (by omega) (by simp [nsT, ht])⟩
def sumN (R : List Th) (k : Nat) : Int := sumT (R.take k)
theorem sumN_succ {R : List Th} {k : Nat} {t : Th} (h : R[k]? = some t) : sumN R (k + 1) = sumN R k + t.n := by
  unfold sumN
  rw [List.take_add_one, h, Option.toList, sumT_snoc]
theorem sumN_all (R : List Th) : sumN R R.length = sumT R := by unfold sumN; rw [List.take_length]
theorem sumN_le {R : List Th} (h : ∀ t ∈ R, 0 ≤ t.n) (k : Nat) : 0 ≤ sumN R k ∧ sumN R k ≤ sumT R := by
  unfold sumN
  refine ⟨sumT_pos (fun t ht => h t (List.mem_of_mem_take ht)), ?_⟩
  have h1 : sumT R = sumT (R.take k) + sumT (R.drop k) := by
    conv => lhs; rw [← List.take_append_drop k R]
    generalize R.take k = A
    generalize R.drop k = B
    induction A with
    | nil => simp [sumT]
    | cons a r ih => rw [List.cons_append, sumT_cons, sumT_cons, ih]; omega
  have h2 := sumT_pos (fun t ht => h t (List.mem_of_mem_drop ht) : ∀ t ∈ R.drop k, 0 ≤ t.n)
  omega
theorem rbytes_c {w : World} {g : Nat} {v u : Value} {c m : Int} {R : List Th} (h : Rq w g v u c m R) : Calls Try.prog 29 #[.pointer (some ⟨g, 0, none⟩)] w fun E w' => E = .returned (.int .i64 (sumT R)) ∧ w' = w := by
  have H := Lib.hid h
  obtain ⟨a, cap, hu, hcap⟩ := h.slu
  have k3 := h.cel.c3
  have hlen := h.bnd.ten
  have hm := h.bnd.b1
  have hsm := h.bnd.sum
  rw [hu] at k3
  have HU := Lib.hid hu
  have HSN := Lib.hid (sumN_le h.bnd.pos)
  clear h hu
  go_enter Try.func29, Try.ntmps29
  go_wp2_with fail
  go_loopw [3, 4] (fun s x wr => ∃ k : Nat, x = .int .i64 (k : Int) ∧ s = .int .i64 (sumN R k) ∧ k ≤ R.length ∧ wr = w) (fun _ x _ => R.length - (intOf x).toNat)
  case atStart => exact ⟨0, rfl, rfl, by omega, rfl⟩
  case round =>
    obtain ⟨k, rfl, rfl, hk, hwr⟩ := hrel
    subst hwr
    by_cases hlt : k < R.length
    · have i1 : decide ((k : Int) < (R.length : Int)) = true := decide_eq_true (by omega)
      obtain ⟨t, ht⟩ : ∃ t, R[k]? = some t := ⟨R[k], by simp [hlt]⟩
      obtain ⟨gs, cap2, hu2, c1⟩ := H.out.size ht
      have hu3 := HU.out.symm.trans hu2
      simp only [Value.slice.injEq] at hu3
      obtain ⟨rfl, -, -⟩ := hu3
      have x1 : 0 ≤ (k : Int) := by omega
      have x2 : (k : Int) < (R.length : Int) := by omega
      have x3 : (k : Int).toNat = k := by omega
      have h1 := HSN.out k
      have h2 := HSN.out (k + 1)
      rw [sumN_succ ht] at h2
      have HS2 := Lib.hid (sumN_succ ht)
      clear ht hu2
      go_wp2_with fail
      go_roundw
      case rel => exact ⟨k + 1, by go_num, by rw [HS2.out], by omega, by first | rfl | trivial⟩
      case measure => simp [intOf]; omega
    · obtain rfl : k = R.length := by omega
      have i1 : decide ((R.length : Int) < (R.length : Int)) = false := by simp
      go_wp2_with fail
      go_ret
      exact ⟨by rw [sumN_all]; rfl, by first | rfl | trivial⟩

/-! Push. -/
def fpR (g : Nat) (v u : Value) : List Nat := g :: (v.ownBlock.toList ++ u.ownBlock.toList)
theorem xsT_snoc (R : List Th) (t : Th) : xsT (R ++ [t]) = xsT R ++ t.x := by simp [xsT]
theorem nsT_snoc (R : List Th) (t : Th) : nsT (R ++ [t]) = nsT R ++ [.int .i64 t.n] := by simp [nsT]
theorem rpush_no {w : World} {g : Nat} {v u : Value} {c m : Int} {R : List Th} (a n nn : Int) (h : Rq w g v u c m R) (hn : n ≤ 9223372036854775807) (hnn : nn = max n 0) (hr : roomP c m R nn = false) :
    Calls Try.prog 27 #[.pointer (some ⟨g, 0, none⟩), .int .i64 a, .int .i64 n] w fun E w' => E = .returned (.bool false) ∧ Away [] w w' := by
  have H := Lib.hid h
  obtain ⟨la, cap, hv, hcap⟩ := h.slv
  have e0 := h.cel.c0
  have e1 := h.cel.c1
  have e2 := h.cel.c2
  rw [hv] at e2
  have hs1 := h.bnd.sum
  have hs0 := sumT_pos h.bnd.pos
  have hb1 := h.bnd.b1
  have hrm := of_decide_eq_false hr
  have hl1 := h.bnd.len
  have hc1 := h.bnd.c1
  have KB := Lib.hid (rbytes_c h)
  have HNN := Lib.hid hnn
  have h0 : 0 ≤ nn := by omega
  have h1 : nn ≤ 9223372036854775807 := by omega
  clear h hv hr hnn hn
  generalize sumT R = sr at *
  go_enter Try.func27, Try.ntmps27
  go_wp2_with fail
  refine KB.out.mono ?_
  rintro E w9 ⟨rfl, h9⟩
  replace h9 := h9.symm
  subst h9
  go_wp2_with fail
  rw [← HNN.out]
  by_cases hfull : c ≤ (R.length : Int)
  · have d1 : decide (c ≤ (R.length : Int)) = true := decide_eq_true hfull
    clear hfull hrm
    go_quiet (fail)
    go_wp2_with fail
    go_ret
    exact ⟨rfl, (Away.refl _ _).drewN _⟩
  · have d1 : decide (c ≤ (R.length : Int)) = false := decide_eq_false hfull
    have d2 : decide (m - sr < nn) = true := decide_eq_true (by omega)
    clear hfull hrm
    go_quiet (fail)
    go_wp2_with fail
    go_ret
    exact ⟨rfl, (Away.refl _ _).drewN _⟩
theorem rpush_yes {w : World} {g : Nat} {v u : Value} {c m : Int} {R : List Th} (a n nn : Int) (h : Rq w g v u c m R) (hn : n ≤ 9223372036854775807) (hnn : nn = max n 0) (hr : roomP c m R nn = true) :
    Calls Try.prog 27 #[.pointer (some ⟨g, 0, none⟩), .int .i64 a, .int .i64 n] w fun E w' => E = .returned (.bool true) ∧ ∃ v' u', Rq w' g v' u' c m (R ++ [⟨[.int .i64 a], nn⟩]) ∧ Away (fpR g v u) w w' ∧ Moved w v v' ∧ Moved w u u' := by
  have H := Lib.hid h
  have HV := Lib.hid h.vu
  obtain ⟨la, cap, hv, hcap⟩ := h.slv
  subst hv
  obtain ⟨lb, capb, hu, hcapb⟩ := h.slu
  subst hu
  have e0 := h.cel.c0
  have e1 := h.cel.c1
  have e2 := h.cel.c2
  have hs1 := h.bnd.sum
  have hs0 := sumT_pos h.bnd.pos
  have hb1 := h.bnd.b1
  have hrm := of_decide_eq_true hr
  have hl1 := h.bnd.len
  have hc1 := h.bnd.c1
  have KB := Lib.hid (rbytes_c h)
  have HNN := Lib.hid hnn
  have HRM := Lib.hid hr
  have h0 : 0 ≤ nn := by omega
  have h1 : nn ≤ 9223372036854775807 := by omega
  have d1 : decide (c ≤ (R.length : Int)) = false := decide_eq_false (by omega)
  have d2 : decide (m - sumT R < nn) = false := decide_eq_false (by omega)
  clear h hr hnn hn hrm
  generalize sumT R = sr at *
  go_enter Try.func27, Try.ntmps27
  go_wp2_with fail
  refine KB.out.mono ?_
  rintro E w9 ⟨rfl, h9⟩
  replace h9 := h9.symm
  subst h9
  go_wp2_with fail
  rw [← HNN.out]
  go_quiet (fail)
  clear e0 e1 e2 d1 d2 KB
  have HA : Hid (Away [] w (w.drewN nq)) := (Away.refl [] w).drewN nq
  replace H := Lib.hid (H.out.on HA.out)
  generalize w.drewN nq = w1 at *
  have e2 := H.out.cel.c2
  have hg := H.out.cel.lt
  have HXL := Lib.hid (xsT_len H.out.shp)
  have HNL := Lib.hid (nsT_len R)
  have hac := (Away.refl [] w1).alloc (.cells #[.int .i64 a] 3)
  have HAC := Lib.hid hac
  have HLA := Lib.hid (H.out.l.away hac (by simp))
  clear hac
  go_wp2_with (at_builtin; refine wpList_appI rfl _ _ rfl _ (xsT R) rfl (by exact HLA.out) ⟨w1.heap.size, 0, none⟩ 1 1 rfl [.int .i64 a] rfl (fun j u hj => by rw [new_cells]; simpa using hj) (by simp [Value.oneCell']) (by rw [HXL.out]; omega) ?_; refine Hid.out ?_)
  refine Lib.hid ?_
  intro v2 w2 hl haw0 hmv
  have haw : Away (Value.slice la R.length cap).ownBlock.toList w1 w2 := (HAC.out.mono (by simp)).trans haw0
  have HVS : Hid (∀ k, (Value.slice la R.length cap).ownBlock = some k → (Value.slice lb R.length capb).ownBlock ≠ some k) := H.out.vu
  have HC2 := Lib.hid (H.out.cel.away haw (fun hc => H.out.vg g (by simpa using hc) rfl))
  have HS2 := Lib.hid (H.out.s.away haw (fun k hk hc => HVS.out k (by simpa using hc) hk))
  have HL2 := Lib.hid hl
  have HM2 : Hid (∀ k, v2.ownBlock = some k → (Value.slice la R.length cap).ownBlock = some k ∨ w1.heap.size ≤ k) := fun k hk => by
    rcases hmv k hk with h1 | h1
    · exact .inl h1
    · exact .inr (Nat.le_trans HAC.out.size h1)
  have HA2 : Hid (Away (fpR g (.slice la R.length cap) (.slice lb R.length capb)) w w2) := (HA.out.mono (by simp)).next haw (fun x hx => .inl (by simp [fpR]; simp at hx; exact .inr (.inl hx)))
  have HVG : Hid (∀ k, v2.ownBlock = some k → k ≠ g) := fun k hk => by
    rcases HM2.out k hk with h1 | h1
    · exact H.out.vg k h1
    · omega
  have HVU : Hid (∀ k, v2.ownBlock = some k → (Value.slice lb R.length capb).ownBlock ≠ some k) := fun k hk he => by
    rcases HM2.out k hk with h1 | h1
    · exact HVS.out k h1 he
    · have h2 := H.out.s.lt k he; omega
  obtain ⟨va, vn, vc, hv2⟩ : ∃ a n c, v2 = .slice a n c := by
    rcases hl.shp with ⟨h1, -⟩ | ⟨g, c, h1, -⟩
    · exact ⟨_, _, _, h1⟩
    · exact ⟨_, _, _, h1⟩
  subst hv2
  have hs21 : w1.heap.size ≤ w2.heap.size := haw.size
  clear hl haw haw0 hmv HLA HAC e2
  have e2 := HC2.out.c2
  have f2 := HC2.out.free 2
  go_upto_region 6 with fail
  have HC3 := Lib.hid (HC2.out.setL (.slice va vn vc))
  have haw := (Away.refl [g] w2).setCell (p := ⟨g, 2, none⟩) (.inl (by simp)) (.slice va vn vc)
  replace HL2 := Lib.hid (HL2.out.away haw (fun k hk => by simp; exact HVG.out k hk))
  replace HS2 := Lib.hid (HS2.out.away haw (fun k hk => by simp; exact H.out.ug k hk))
  replace HA2 := Lib.hid (HA2.out.next haw (fun x hx => .inl (by simp at hx; simp [fpR, hx])))
  have hs32 : w2.heap.size ≤ (w2.setCell ⟨g, 2, none⟩ (.slice va vn vc)).heap.size := haw.size
  clear haw e2 f2 HC2
  generalize World.setCell w2 ⟨g, 2, none⟩ (.slice va vn vc) = w3 at *
  have e3 := HC3.out.c3
  have hac := (Away.refl [] w3).alloc (.cells #[.int .i64 nn] 3)
  have HAC := Lib.hid hac
  have HLA := Lib.hid (HS2.out.away hac (by simp))
  clear hac
  go_wp2_with (at_builtin; refine wpList_appI rfl _ _ rfl _ (nsT R) rfl (by exact HLA.out) ⟨w3.heap.size, 0, none⟩ 1 1 rfl [.int .i64 nn] rfl (fun j u hj => by rw [new_cells]; simpa using hj) (by simp [Value.oneCell']) (by rw [HNL.out]; omega) ?_; refine Hid.out ?_)
  refine Lib.hid ?_
  intro u2 w4 hl haw0 hmv
  have haw : Away (Value.slice lb R.length capb).ownBlock.toList w3 w4 := (HAC.out.mono (by simp)).trans haw0
  have HC4 := Lib.hid (HC3.out.away haw (fun hc => H.out.ug g (by simpa using hc) rfl))
  have HL4 := Lib.hid (HL2.out.away haw (fun k hk hc => HVU.out k hk (by simpa using hc)))
  have HS4 := Lib.hid hl
  have HM4 : Hid (∀ k, u2.ownBlock = some k → (Value.slice lb R.length capb).ownBlock = some k ∨ w3.heap.size ≤ k) := fun k hk => by
    rcases hmv k hk with h1 | h1
    · exact .inl h1
    · exact .inr (Nat.le_trans HAC.out.size h1)
  have HA4 : Hid (Away (fpR g (.slice la R.length cap) (.slice lb R.length capb)) w w4) := HA2.out.next haw (fun x hx => .inl (by simp [fpR]; simp at hx; exact .inr (.inr hx)))
  have HUG : Hid (∀ k, u2.ownBlock = some k → k ≠ g) := fun k hk => by
    rcases HM4.out k hk with h1 | h1
    · exact H.out.ug k h1
    · have h2 := HC3.out.lt; omega
  have HVU4 : Hid (∀ k, (Value.slice va vn vc).ownBlock = some k → u2.ownBlock ≠ some k) := fun k hk he => by
    rcases HM4.out k he with h1 | h1
    · exact HVU.out k hk h1
    · have h2 := HL2.out.lt k hk; omega
  obtain ⟨ua, un, uc, hu2⟩ : ∃ a n c, u2 = .slice a n c := by
    rcases hl.shp with ⟨h1, -⟩ | ⟨g, c, h1, -⟩
    · exact ⟨_, _, _, h1⟩
    · exact ⟨_, _, _, h1⟩
  subst hu2
  clear hl haw haw0 hmv HLA HAC e3 HC3
  have e3 := HC4.out.c3
  have f3 := HC4.out.free 3
  go_wp2_with fail
  have HC5 := Lib.hid (HC4.out.setS (.slice ua un uc))
  have haw := (Away.refl [g] w4).setCell (p := ⟨g, 3, none⟩) (.inl (by simp)) (.slice ua un uc)
  replace HL4 := Lib.hid (HL4.out.away haw (fun k hk => by simp; exact HVG.out k hk))
  replace HS4 := Lib.hid (HS4.out.away haw (fun k hk => by simp; exact HUG.out k hk))
  replace HA4 := Lib.hid (HA4.out.next haw (fun x hx => .inl (by simp at hx; simp [fpR, hx])))
  clear haw e3 f3 HC4
  generalize World.setCell w4 ⟨g, 3, none⟩ (.slice ua un uc) = w5 at *
  go_ret
  refine ⟨rfl, _, _, ⟨HC5.out, by rw [xsT_snoc, List.length_append]; exact HL4.out, by rw [nsT_snoc, List.length_append]; exact HS4.out, HVG.out, HUG.out, HVU4.out, fun t ht => ?_, H.out.bnd.push h0 HRM.out⟩, HA4.out, fun k hk => ?_, fun k hk => ?_⟩
  · rcases List.mem_append.1 ht with h2 | h2
    · exact H.out.shp t h2
    · simp at h2; subst h2; exact ⟨a, rfl⟩
  · rcases HM2.out k hk with h1 | h1
    · exact .inl h1
    · exact .inr (Nat.le_trans HA.out.size h1)
  · rcases HM4.out k hk with h1 | h1
    · exact .inl h1
    · exact .inr (by have h2 := HA.out.size; omega)

/-! Pop. -/
theorem rpop_none {w : World} {g : Nat} {v u : Value} {c m : Int} (h : Rq w g v u c m []) :
    Calls Try.prog 28 #[.pointer (some ⟨g, 0, none⟩)] w fun E w' => E = .returned (.tuple #[.int .i64 0, .bool false]) ∧ Away [] w w' := by
  obtain ⟨la, cap, hv, hcap⟩ := h.slv
  subst hv
  have e2 := h.cel.c2
  clear h
  go_enter Try.func28, Try.ntmps28
  go_wp2_with fail
  go_ret2
  exact ⟨rfl, Away.refl _ _⟩
theorem rpop_some {w : World} {g : Nat} {v u : Value} {c m : Int} (a n : Int) {r : List Th} (h : Rq w g v u c m (⟨[.int .i64 a], n⟩ :: r)) :
    Calls Try.prog 28 #[.pointer (some ⟨g, 0, none⟩)] w fun E w' => E = .returned (.tuple #[.int .i64 a, .bool true]) ∧ ∃ v' u', Rq w' g v' u' c m r ∧ Away [g] w w' ∧ New w.heap.size v' ∧ New w.heap.size u' := by
  have H := Lib.hid h
  have hxl := xsT_len h.shp
  have hnl := nsT_len (⟨[.int .i64 a], n⟩ :: r : List Th)
  have hrl := h.bnd.ten
  have hL := h.l
  have hU := h.s
  rw [hxl] at hL
  rw [hnl] at hU
  simp only [List.length_cons] at hL hU hrl
  obtain ⟨gv, cv, rfl, hcv⟩ : ∃ gv cv, v = .slice (some ⟨gv, 0, none⟩) (r.length + 1) cv ∧ r.length + 1 ≤ cv := by
    rcases hL.shp with ⟨-, h1⟩ | ⟨gv, cv, h1, h2⟩
    · omega
    · exact ⟨gv, cv, h1, h2⟩
  obtain ⟨gu, cu, rfl, hcu⟩ : ∃ gu cu, u = .slice (some ⟨gu, 0, none⟩) (r.length + 1) cu ∧ r.length + 1 ≤ cu := by
    rcases hU.shp with ⟨-, h1⟩ | ⟨gu, cu, h1, h2⟩
    · omega
    · exact ⟨gu, cu, h1, h2⟩
  have q0 := hL.at (i := 0) (u := .int .i64 a) (by omega) rfl
  have hvl := hL.lt gv rfl
  have hul := hU.lt gu rfl
  have hvg := h.vg gv rfl
  have hug := h.ug gu rfl
  have HRS : Hid (∀ t ∈ r, KI.Shp t) := fun t ht => h.shp t (by simp [ht])
  have HXR : Hid ((xsT r).length = r.length) := xsT_len HRS.out
  have HCV : Hid (∀ (w' : World), Away [g] w w' → ∀ j x, (xsT r)[j]? = some x → w'.cell? ⟨gv, 1 + j, none⟩ = some x) := fun w' ha j x hx => by
    have hj : j < (xsT r).length := (List.getElem?_eq_some_iff.1 hx).1
    rw [HXR.out] at hj
    exact ha.cell (by simp; omega) (hL.at (by omega) (by rw [Nat.add_comm]; simpa [xsT] using hx))
  have HCU : Hid (∀ (w' : World), Away [g] w w' → ∀ j x, (nsT r)[j]? = some x → w'.cell? ⟨gu, 1 + j, none⟩ = some x) := fun w' ha j x hx => by
    have hj : j < (nsT r).length := (List.getElem?_eq_some_iff.1 hx).1
    rw [nsT_len] at hj
    exact ha.cell (by simp; omega) (hU.at (by omega) (by rw [Nat.add_comm]; simpa [nsT] using hx))
  have e2 := h.cel.c2
  have f2 := h.cel.free 2
  have d1 : (((r.length + 1 : Nat) : Int) == 0) = false := by simp; omega
  have d2 : (0 : Int) < ((r.length + 1 : Nat) : Int) := by omega
  obtain ⟨A, hA⟩ : ∃ A, A = (if cv = 1 then (some ⟨gv, 0, none⟩ : Option Addr) else (some (⟨gv, 0, none⟩ : Addr)).map (·.add (1 * 1))) := ⟨_, rfl⟩
  have sl := slice_l61 (some ⟨gv, 0, none⟩) A (r.length + 1) cv 1 1 hA rfl (by omega)
  obtain ⟨ad, rfl, had⟩ : ∃ ad, A = some ad ∧ (r.length = 0 ∨ ad = ⟨gv, 1, none⟩) := by
    rw [hA]
    by_cases h1 : cv = 1
    · rw [if_pos h1]; exact ⟨_, rfl, .inl (by omega)⟩
    · rw [if_neg h1]; exact ⟨_, rfl, .inr (by simp [add_plain])⟩
  have HAD := Lib.hid had
  clear h hL hU hxl hnl hA had
  obtain ⟨B, hB⟩ : ∃ B, B = (if cu = 1 then (some ⟨gu, 0, none⟩ : Option Addr) else (some (⟨gu, 0, none⟩ : Addr)).map (·.add (1 * 1))) := ⟨_, rfl⟩
  have sl2 := slice_l61 (some ⟨gu, 0, none⟩) B (r.length + 1) cu 1 1 hB rfl (by omega)
  obtain ⟨ae, rfl, hae⟩ : ∃ ae, B = some ae ∧ (r.length = 0 ∨ ae = ⟨gu, 1, none⟩) := by
    rw [hB]
    by_cases h1 : cu = 1
    · rw [if_pos h1]; exact ⟨_, rfl, .inl (by omega)⟩
    · rw [if_neg h1]; exact ⟨_, rfl, .inr (by simp [add_plain])⟩
  have HAE := Lib.hid hae
  clear hB hae
  rw [Nat.add_sub_cancel] at sl sl2
  have HXI : Hid (∀ j x, (xsT r)[j]? = some x → w.cell? (ad.add j) = some x) := fun j x hx => by
    have hj : j < (xsT r).length := (List.getElem?_eq_some_iff.1 hx).1
    rw [HXR.out] at hj
    rcases HAD.out with h1 | h1
    · omega
    · rw [h1, add_plain]; exact HCV.out w (Away.refl _ _) j x hx
  have HNI : Hid (∀ (w' : World), Away [g] w w' → ∀ j x, (nsT r)[j]? = some x → w'.cell? (ae.add j) = some x) := fun w' ha j x hx => by
    have hj : j < (nsT r).length := (List.getElem?_eq_some_iff.1 hx).1
    rw [nsT_len] at hj
    rcases HAE.out with h1 | h1
    · omega
    · rw [h1, add_plain]; exact HCU.out w' ha j x hx
  clear HCV HCU HAD HAE
  go_enter Try.func28, Try.ntmps28
  go_wp2_with (at_builtin; refine wpList_appI rfl _ _ rfl (.slice none 0 0) [] rfl (Lv.nil 3 1 _) ad r.length (cv - 1) rfl (xsT r) (by exact HXR.out) (by exact HXI.out) (by exact xsT_one HRS.out) (by simp; omega) ?_; refine Hid.out ?_)
  refine Lib.hid ?_
  intro v2 w2 hl haw hmv
  have HC2 := Lib.hid (H.out.cel.away haw (by simp [Value.ownBlock]))
  have HN2 : Hid (New w.heap.size v2) := fun k hk => by
    rcases hmv k hk with h1 | h1
    · simp [Value.ownBlock] at h1
    · exact h1
  have HL2 := Lib.hid hl
  have HA2 : Hid (Away [g] w w2) := haw.mono (by simp [Value.ownBlock])
  have hgw := H.out.cel.lt
  obtain ⟨va, vn, vc, hv2⟩ : ∃ a n c, v2 = .slice a n c := by
    rcases hl.shp with ⟨h1, -⟩ | ⟨g, c, h1, -⟩
    · exact ⟨_, _, _, h1⟩
    · exact ⟨_, _, _, h1⟩
  subst hv2
  try simp only [List.nil_append] at HL2
  clear hl haw hmv e2 f2 q0 sl
  have e2 := HC2.out.c2
  have f2 := HC2.out.free 2
  go_upto_region 5 with fail
  have HC3 := Lib.hid (HC2.out.setL (.slice va vn vc))
  have haw := (Away.refl [g] w2).setCell (p := ⟨g, 2, none⟩) (.inl (by simp)) (.slice va vn vc)
  have HVG : Hid (∀ k, (Value.slice va vn vc).ownBlock = some k → k ≠ g) := fun k hk => by have h1 := HN2.out k hk; omega
  replace HL2 := Lib.hid (HL2.out.away haw (fun k hk => by simp; exact HVG.out k hk))
  replace HA2 := Lib.hid (HA2.out.trans haw)
  clear haw e2 f2 HC2
  generalize World.setCell w2 ⟨g, 2, none⟩ (.slice va vn vc) = w3 at *
  have e3 := HC3.out.c3
  have f3 := HC3.out.free 3
  have HNJ := Lib.hid (HNI.out w3 HA2.out)
  go_wp2_with (at_builtin; refine wpList_appI rfl _ _ rfl (.slice none 0 0) [] rfl (Lv.nil 3 1 _) ae r.length (cu - 1) rfl (nsT r) (nsT_len r) (by exact HNJ.out) (by exact nsT_one r) (by simp; omega) ?_; refine Hid.out ?_)
  refine Lib.hid ?_
  intro u2 w4 hl haw hmv
  have HC4 := Lib.hid (HC3.out.away haw (by simp [Value.ownBlock]))
  have HL4 := Lib.hid (HL2.out.away haw (by simp [Value.ownBlock]))
  have HN4 : Hid (New w3.heap.size u2) := fun k hk => by
    rcases hmv k hk with h1 | h1
    · simp [Value.ownBlock] at h1
    · exact h1
  have HS4 := Lib.hid hl
  have HA4 : Hid (Away [g] w w4) := HA2.out.next haw (by simp [Value.ownBlock])
  obtain ⟨ua, un, uc, hu2⟩ : ∃ a n c, u2 = .slice a n c := by
    rcases hl.shp with ⟨h1, -⟩ | ⟨g, c, h1, -⟩
    · exact ⟨_, _, _, h1⟩
    · exact ⟨_, _, _, h1⟩
  subst hu2
  try simp only [List.nil_append] at HS4
  have HUG : Hid (∀ k, (Value.slice ua un uc).ownBlock = some k → k ≠ g) := fun k hk => by have h1 := HN4.out k hk; have h2 := HC3.out.lt; omega
  have HVU : Hid (∀ k, (Value.slice va vn vc).ownBlock = some k → (Value.slice ua un uc).ownBlock ≠ some k) := fun k hk he => by have h1 := HN4.out k he; have h2 := HL2.out.lt k hk; omega
  clear hl haw hmv e3 f3 sl2 HNJ HNI HXI
  have e3 := HC4.out.c3
  have f3 := HC4.out.free 3
  have hs3 : w.heap.size ≤ w3.heap.size := HA2.out.size
  go_wp2_with fail
  have HC5 := Lib.hid (HC4.out.setS (.slice ua un uc))
  have haw := (Away.refl [g] w4).setCell (p := ⟨g, 3, none⟩) (.inl (by simp)) (.slice ua un uc)
  replace HL4 := Lib.hid (HL4.out.away haw (fun k hk => by simp; exact HVG.out k hk))
  replace HS4 := Lib.hid (HS4.out.away haw (fun k hk => by simp; exact HUG.out k hk))
  replace HA4 := Lib.hid (HA4.out.trans haw)
  clear haw e3 f3 HC4
  generalize World.setCell w4 ⟨g, 3, none⟩ (.slice ua un uc) = w5 at *
  go_ret2
  exact ⟨rfl, _, _, ⟨HC5.out, HL4.out, HS4.out, HVG.out, HUG.out, HVU.out, HRS.out, H.out.bnd.pop⟩, HA4.out, HN2.out, HN4.out.mono hs3⟩

/-! With an owner. -/
def RO (o : Nat → Nat) (k : Nat) (w : World) (g : Nat) (c m : Int) (R : List Th) : Prop := ∃ v u, Rq w g v u c m R ∧ o g = k ∧ (∀ x, v.ownBlock = some x → o x = k) ∧ ∀ x, u.ownBlock = some x → o x = k
theorem RO.bnd {o : Nat → Nat} {k : Nat} {w : World} {g : Nat} {c m : Int} {R : List Th} (h : RO o k w g c m R) : Bnd c m R := by obtain ⟨v, u, h1, -⟩ := h; exact h1.bnd
theorem RO.shp {o : Nat → Nat} {k : Nat} {w : World} {g : Nat} {c m : Int} {R : List Th} (h : RO o k w g c m R) : ∀ t ∈ R, KI.Shp t := by obtain ⟨v, u, h1, -⟩ := h; exact h1.shp
theorem RO.keep {o : Nat → Nat} {j k : Nat} {w w' : World} {g : Nat} {c m : Int} {R : List Th} (h : RO o j w g c m R) (hc : Chg o k w w') (hj : j ≠ k) : RO (give o w k) j w' g c m R := by
  obtain ⟨v, u, h1, h2, h3, h4⟩ := h
  obtain ⟨S, ha, hS⟩ := hc
  refine ⟨v, u, h1.away ha (fun hm => hj (by rw [← h2]; exact hS g hm)) (fun x hx hm => hj (by rw [← h3 x hx]; exact hS x hm)) (fun x hx hm => hj (by rw [← h4 x hx]; exact hS x hm)), ?_, fun x hx => ?_, fun x hx => ?_⟩
  · rw [give_old h1.cel.lt]; exact h2
  · rw [give_old (h1.l.lt x hx)]; exact h3 x hx
  · rw [give_old (h1.s.lt x hx)]; exact h4 x hx
theorem RO.on {o : Nat → Nat} {j k : Nat} {w w' : World} {g : Nat} {c m : Int} {R : List Th} (h : RO o j w g c m R) (ha : Away [] w w') : RO (give o w k) j w' g c m R := by
  obtain ⟨v, u, h1, h2, h3, h4⟩ := h
  refine ⟨v, u, h1.on ha, ?_, fun x hx => ?_, fun x hx => ?_⟩
  · rw [give_old h1.cel.lt]; exact h2
  · rw [give_old (h1.l.lt x hx)]; exact h3 x hx
  · rw [give_old (h1.s.lt x hx)]; exact h4 x hx
theorem RO.new (o : Nat → Nat) (k : Nat) (w : World) (c m : Int) (c0 : 0 ≤ c) (c1 : c ≤ 64) (b0 : 0 ≤ m) (b1 : m ≤ 9223372036854775807) : RO (give o w k) k (w.alloc (.cells #[.int .i64 c, .int .i64 m, .slice none 0 0, .slice none 0 0] 63)) w.heap.size c m [] :=
  ⟨.slice none 0 0, .slice none 0 0, ⟨block_new w _, Lv.nil 3 1 _, Lv.nil 3 1 _, by simp [Value.ownBlock], by simp [Value.ownBlock], by simp [Value.ownBlock], by simp, Bnd.nil c0 c1 b0 b1⟩, give_new (Nat.le_refl _), by simp [Value.ownBlock], by simp [Value.ownBlock]⟩
theorem rbytes_o {o : Nat → Nat} {k : Nat} {w : World} {g : Nat} {c m : Int} {R : List Th} (h : RO o k w g c m R) : Calls Try.prog 29 #[.pointer (some ⟨g, 0, none⟩)] w fun E w' => E = .returned (.int .i64 (sumT R)) ∧ w' = w := by
  obtain ⟨v, u, h1, -⟩ := h
  exact rbytes_c h1
theorem RO.len {o : Nat → Nat} {k : Nat} {w : World} {g : Nat} {c m : Int} {R : List Th} (h : RO o k w g c m R) : ∃ a cap, w.cell? ⟨g, 2, none⟩ = some (.slice a R.length cap) := by
  obtain ⟨v, u, h1, -⟩ := h
  obtain ⟨a, cap, h2, -⟩ := h1.slv
  exact ⟨a, cap, by rw [← h2]; exact h1.cel.c2⟩
theorem rpush_x {o : Nat → Nat} {k : Nat} {w : World} {g : Nat} {c m : Int} {R : List Th} (a n nn : Int) (h : RO o k w g c m R) (hn : n ≤ 9223372036854775807) (hnn : nn = max n 0) (hr : roomP c m R nn = false) :
    Calls Try.prog 27 #[.pointer (some ⟨g, 0, none⟩), .int .i64 a, .int .i64 n] w fun E w' => E = .returned (.bool false) ∧ RO (give o w k) k w' g c m R ∧ Chg o k w w' := by
  obtain ⟨v, u, h1, h2, h3, h4⟩ := h
  refine (rpush_no a n nn h1 hn hnn hr).mono ?_
  rintro E w' ⟨rfl, ha⟩
  exact ⟨rfl, RO.on ⟨v, u, h1, h2, h3, h4⟩ ha, Chg.on k ha⟩
theorem rpush_y {o : Nat → Nat} {k : Nat} {w : World} {g : Nat} {c m : Int} {R : List Th} (a n nn : Int) (h : RO o k w g c m R) (hn : n ≤ 9223372036854775807) (hnn : nn = max n 0) (hr : roomP c m R nn = true) :
    Calls Try.prog 27 #[.pointer (some ⟨g, 0, none⟩), .int .i64 a, .int .i64 n] w fun E w' => E = .returned (.bool true) ∧ RO (give o w k) k w' g c m (R ++ [⟨[.int .i64 a], nn⟩]) ∧ Chg o k w w' := by
  obtain ⟨v, u, h1, h2, h3, h4⟩ := h
  refine (rpush_yes a n nn h1 hn hnn hr).mono ?_
  rintro E w' ⟨rfl, v', u', hq, ha, hm1, hm2⟩
  refine ⟨rfl, ⟨v', u', hq, by rw [give_old h1.cel.lt]; exact h2, fun x hx => ?_, fun x hx => ?_⟩, _, ha, fun x hx => ?_⟩
  · rcases hm1 x hx with h5 | h5
    · rw [give_old (h1.l.lt x h5)]; exact h3 x h5
    · exact give_new h5
  · rcases hm2 x hx with h5 | h5
    · rw [give_old (h1.s.lt x h5)]; exact h4 x h5
    · exact give_new h5
  · simp [fpR] at hx
    rcases hx with rfl | h5 | h5
    · exact h2
    · exact h3 x h5
    · exact h4 x h5
theorem rpop_n {o : Nat → Nat} {k : Nat} {w : World} {g : Nat} {c m : Int} (h : RO o k w g c m []) :
    Calls Try.prog 28 #[.pointer (some ⟨g, 0, none⟩)] w fun E w' => E = .returned (.tuple #[.int .i64 0, .bool false]) ∧ RO (give o w k) k w' g c m [] ∧ Chg o k w w' := by
  obtain ⟨v, u, h1, h2, h3, h4⟩ := h
  refine (rpop_none h1).mono ?_
  rintro E w' ⟨rfl, ha⟩
  exact ⟨rfl, RO.on ⟨v, u, h1, h2, h3, h4⟩ ha, Chg.on k ha⟩
theorem rpop_s {o : Nat → Nat} {k : Nat} {w : World} {g : Nat} {c m : Int} (a n : Int) {r : List Th} (h : RO o k w g c m (⟨[.int .i64 a], n⟩ :: r)) :
    Calls Try.prog 28 #[.pointer (some ⟨g, 0, none⟩)] w fun E w' => E = .returned (.tuple #[.int .i64 a, .bool true]) ∧ RO (give o w k) k w' g c m r ∧ Chg o k w w' := by
  obtain ⟨v, u, h1, h2, h3, h4⟩ := h
  refine (rpop_some a n h1).mono ?_
  rintro E w' ⟨rfl, v', u', hq, ha, hn1, hn2⟩
  exact ⟨rfl, ⟨v', u', hq, by rw [give_old h1.cel.lt]; exact h2, fun x hx => give_new (hn1 x hx), fun x hx => give_new (hn2 x hx)⟩, _, ha, fun x hx => by simp at hx; subst hx; exact h2⟩
end Go.Proofs.Ytdgkkbiodhbmeaa
