/-
  dealt of the laws.
-/
import Derived.Test.YtaicckenpplceaaDoorOw
import Derived.Test.YtaicckenpplceaaDoorMndB
namespace Go.Proofs.YtaicckenpplceaaDoor
open Go.ChangeShapes Go.WideShapes Go.ChangeAt Go.RowKit Num
set_option linter.unusedVariables false
set_option maxHeartbeats 4000000
set_option maxRecDepth 100000

namespace R
theorem under32 : Tryd.prog.underlying 32 = some (.slice (Tryd.prog.elem 32)) := by kernel_rfl
theorem size28e (wx : World) : (sizeOf (Tryd.prog.elem 32)).run Tryd.prog wx = .ok 46 wx := by kernel_rfl
theorem slice_h32 (a : Option Addr) (len cap m : Nat) (hi : Int) (hhi : hi = m) (hm : m ≤ cap) (wx : World) :
    (Instr.sliceAt 32 (.slice a len cap) none (some (.int .i64 hi)) none).run Tryd.prog wx = .ok (.slice a m cap) wx := by
  subst hhi
  rw [run_sliceAt_slice (h := under32), run_slice_h (ht := under32) (h0 := by omega) (h2 := by omega), size28e]
  simp only [Result.andThen, sliced]
  have e : a.map (·.add (0 * 46)) = a := by cases a <;> simp [add_zero]
  rw [show (m : Int).toNat = m from by omega, e, ite_self, Nat.sub_zero, Nat.sub_zero]
/-- A prefix of a list of its own. -/
theorem lst_take {w : World} {g n cap : Nat} {xs : List X} (h : LstP w (.slice (some ⟨g, 0, none⟩) n cap) xs) (hn : xs.length = n) (hA : ∀ x ∈ xs, Ad x.p) (m : Nat) (hm : m ≤ n) : LstP w (.slice (some ⟨g, 0, none⟩) m cap) (xs.take m) := by
  have hl := flatP_len (xs.take m) (fun x hx => hA x (List.mem_of_mem_take hx))
  have hml : (xs.take m).length = m := by rw [List.length_take]; omega
  rcases h.2 with ⟨h1, h2⟩ | ⟨g', c, cur, h1, h2, h3, h4, h5, h6, h7⟩
  · simp at h1
  · simp only [Value.slice.injEq, Option.some.injEq, Addr.mk.injEq, and_true] at h1
    obtain ⟨rfl, -, rfl⟩ := h1
    refine ⟨hl, .inr ⟨g, cap, cur, by rw [hml], h2, h3, by rw [hml]; omega, h5, h6, ?_⟩⟩
    rw [hml]
    have e : (xs.take m).flatMap X.cells = (xs.flatMap X.cells).take (m * 46) := by
      have h8 : xs.flatMap X.cells = (xs.take m).flatMap X.cells ++ (xs.drop m).flatMap X.cells := by rw [← List.flatMap_append, List.take_append_drop]
      have h9 : ((xs.take m).flatMap X.cells).length = m * 46 := by rw [hl, hml]
      conv => rhs; rw [h8]
      exact (List.take_left' h9).symm
    rw [e, ← h7, List.take_take, Nat.min_eq_left (by rw [hn] ; omega)]
/-- A whole packet is laid over one of a list. -/
theorem owns_cells {e size n cap g : Nat} : ∀ (vs : List Value) (w : World) (o : Nat) (cs : List Value), w.ownsRow 0 e size (.slice (some ⟨g, 0, none⟩) n cap) n cs → o + vs.length ≤ cs.length → (w.setCells g o vs).ownsRow 0 e size (.slice (some ⟨g, 0, none⟩) n cap) n (cs.take o ++ (vs ++ cs.drop (o + vs.length)))
  | [], w, o, cs, h, hl => by
    have e : w.setCells g o [] = w := rfl
    rw [e]; simpa using h
  | v :: vs, w, o, cs, h, hl => by
    have h1 := (World.ownsRow.stored h o v).1
    have h2 := owns_cells vs (w.setCell ⟨g, o, none⟩ v) (o + 1) (cs.set o v) h1 (by rw [List.length_set]; simp only [List.length_cons] at hl; omega)
    have e1 : (cs.set o v).take (o + 1) = cs.take o ++ [v] := by
      simp only [List.length_cons] at hl
      rw [List.take_succ_eq_append_getElem (by rw [List.length_set]; omega), List.getElem_set_self, List.take_set_of_le (Nat.le_refl _)]
    have e2 : (cs.set o v).drop (o + 1 + vs.length) = cs.drop (o + (v :: vs).length) := by
      rw [List.drop_set_of_lt (by omega)]
      congr 1
      simp only [List.length_cons]; omega
    rw [e1, e2] at h2
    have e3 : w.setCells g o (v :: vs) = (w.setCell ⟨g, o, none⟩ v).setCells g (o + 1) vs := rfl
    rw [e3]
    simpa using h2
theorem lst_putall {w : World} {g n cap : Nat} {xs : List X} (h : LstP w (.slice (some ⟨g, 0, none⟩) n cap) xs) (hn : xs.length = n) (hA : ∀ x ∈ xs, Ad x.p) {k : Nat} {y : X} (hk : k < n) (hy : Ad y.p) : LstP (w.setCells g (k * 46) y.cells) (.slice (some ⟨g, 0, none⟩) n cap) (xs.set k y) := by
  subst hn
  have hyl : y.cells.length = 46 := listP_len hy _ _
  have hfl := flatP_len xs hA
  have := owns_cells y.cells w (k * 46) (xs.flatMap X.cells) h (by rw [hyl, hfl]; omega)
  unfold LstP
  rw [List.length_set]
  have e : (xs.set k y).flatMap X.cells = (xs.flatMap X.cells).take (k * 46) ++ (y.cells ++ (xs.flatMap X.cells).drop (k * 46 + y.cells.length)) := by
    have hs : xs.set k y = xs.take k ++ y :: xs.drop (k + 1) := by rw [List.set_eq_take_append_cons_drop, if_pos hk]
    have hx : xs.flatMap X.cells = (xs.take k).flatMap X.cells ++ (xs.drop k).flatMap X.cells := by rw [← List.flatMap_append, List.take_append_drop]
    have hx2 : xs.flatMap X.cells = (xs.take (k + 1)).flatMap X.cells ++ (xs.drop (k + 1)).flatMap X.cells := by rw [← List.flatMap_append, List.take_append_drop]
    have l1 : ((xs.take k).flatMap X.cells).length = k * 46 := by rw [flatP_len _ (fun x hx => hA x (List.mem_of_mem_take hx)), List.length_take]; congr 1; omega
    have l2 : ((xs.take (k + 1)).flatMap X.cells).length = k * 46 + y.cells.length := by rw [flatP_len _ (fun x hx => hA x (List.mem_of_mem_take hx)), List.length_take, hyl]; rw [Nat.min_eq_left (by omega)]; omega
    have t1 : (xs.flatMap X.cells).take (k * 46) = (xs.take k).flatMap X.cells := by
      conv => lhs; rw [hx]
      exact List.take_left' l1
    have t2 : (xs.flatMap X.cells).drop (k * 46 + y.cells.length) = (xs.drop (k + 1)).flatMap X.cells := by
      conv => lhs; rw [hx2]
      exact List.drop_left' l2
    rw [hs, t1, t2, List.flatMap_append, List.flatMap_cons]
  rw [e]
  exact this
/-- The last one is laid over the one that is taken out. -/
theorem swap_perm {α : Type} (l : List α) (k : Nat) (x y : α) (hx : l[k]? = some x) (hy : l[l.length - 1]? = some y) : (x :: (l.set k y).take (l.length - 1)).Perm l := by
  have hk := lt_of_get hx
  have hl : l = l.take (l.length - 1) ++ [y] := by
    have h1 : l.length - 1 < l.length := by omega
    have h2 : l[l.length - 1] = y := by rw [List.getElem?_eq_getElem h1] at hy; simpa using hy
    have := List.take_succ_eq_append_getElem h1
    rw [h2, show l.length - 1 + 1 = l.length from by omega, List.take_length] at this
    exact this
  generalize hi : l.take (l.length - 1) = i at hl
  have hil : i.length = l.length - 1 := by rw [← hi, List.length_take]; omega
  rw [List.take_set, hi]
  by_cases hke : k < i.length
  · have hxi : i[k]? = some x := by rw [hl, List.getElem?_append_left hke] at hx; exact hx
    have h3 : (x :: i.set k y).Perm (y :: i) := by
      have hxk : i[k] = x := by rw [List.getElem?_eq_getElem hke] at hxi; simpa using hxi
      have e1 : i = i.take k ++ x :: i.drop (k + 1) := by rw [← hxk, ← List.drop_eq_getElem_cons hke, List.take_append_drop]
      have e2 : i.set k y = i.take k ++ y :: i.drop (k + 1) := by rw [List.set_eq_take_append_cons_drop, if_pos hke]
      rw [e2]
      conv => rhs; rw [e1]
      exact (List.Perm.cons x List.perm_middle).trans ((List.Perm.swap y x _).trans (List.Perm.cons y List.perm_middle.symm))
    rw [hl]
    exact h3.trans (by simpa using (List.perm_append_comm (l₁ := [y]) (l₂ := i)))
  · have hkk : k = l.length - 1 := by omega
    rw [hkk] at hx
    rw [hx] at hy
    simp only [Option.some.injEq] at hy
    rw [List.set_eq_of_length_le (by omega), hl, ← hy]
    simpa using (List.perm_append_comm (l₁ := [x]) (l₂ := i))
theorem lst_grown {w w' : World} {v u : Value} {zs : List X} (hgr : w.grownBy w' v.ownBlock) (h : LstP w u zs) (hne : ∀ k, u.ownBlock = some k → v.ownBlock ≠ some k) : LstP w' u zs :=
  h.away ((Away.refl v.ownBlock.toList w).grown hgr (fun k hk => .inl (by simp [hk]))) (fun k hk e => by simp at e; exact hne k hk e)
/-- Ints that can be read. -/
def Ints (w : World) (a : Option Addr) (n : Nat) : Prop := ∀ i, i < n → ∃ b o z, a = some ⟨b, o, none⟩ ∧ w.cell? ⟨b, o + i, none⟩ = some (.int .i64 z) ∧ i64ok z
theorem Ints.on {w w' : World} {a : Option Addr} {n : Nat} (h : Ints w a n) (hw : Away [] w w') : Ints w' a n := fun i hi => by
  obtain ⟨b, o, z, h1, h2, h3⟩ := h i hi
  exact ⟨b, o, z, h1, hw.cell (by simp) h2, h3⟩
theorem dealt_c (ad : Addr) (xs : List X) (n cap : Nat) (oa : Option Addr) (on oc : Nat) (w : World) (hn : xs.length = n) (hnl : n ≤ 100000) (hx : Pks w (some ad) xs) (ho : Ints w oa on) (hol : on ≤ 140737488355328) :
    Calls Tryd.prog 18 #[.slice (some ad) n cap, .slice oa on oc] w fun E w' => ∃ v ys, E = .returned v ∧ LstP w' v ys ∧ ys.Perm xs ∧ New w.heap.size v ∧ Away [] w w' := by
  have HX := Lib.hid hx; have HN := Lib.hid hn; have HO := Lib.hid ho
  have HOK : Hid (∀ x ∈ xs, x.ok w) := hx.2.1
  clear hx hn ho
  go_enter Tryd.func18, Tryd.ntmps18
  go_wp2_with (at_builtin; refine wpList_appQ rfl _ _ rfl _ [] xs rfl (LstP.nil _) ad n cap rfl HN.out HX.out (by simp; omega) ?_; refine Hid.out ?_)
  refine Lib.hid ?_
  intro lv w1 hl1 hgr hmv
  have HL1 : Hid (LstP w1 lv xs) := by show LstP _ _ _; simpa using hl1
  have HN1 : Hid (New w.heap.size lv) := fun k hk => by rcases hmv k hk with h | h; simp [Value.ownBlock] at h; exact h
  have HA1 : Hid (Away [] w w1) := (Away.refl [] w).grown hgr (by simp [Value.ownBlock])
  clear hl1 hgr hmv
  go_wp2_with fail
  go_loopw [5, 6, 7] (fun lv vo i wr => ∃ (j : Nat) (zs ys : List X), i = .int .i64 (j : Int) ∧ j + zs.length = n ∧ LstP wr lv zs ∧ LstP wr vo ys ∧ (ys ++ zs).Perm xs ∧ New w.heap.size lv ∧ New w.heap.size vo ∧ (∀ k, lv.ownBlock = some k → vo.ownBlock ≠ some k) ∧ Away [] w wr) (fun _ _ i _ => n - (intOf i).toNat)
  case atStart => exact ⟨0, xs, [], rfl, by have := HN.out; omega, HL1.out, LstP.nil _, by simp, HN1.out, New.nil _, by simp [Value.ownBlock], HA1.out⟩
  case round =>
    obtain ⟨j, zs, ys, rfl, hj, hlz, hlo, hpm, hnl2, hno, hne, haw⟩ := hrel
    have HLZ := Lib.hid hlz; have HLO := Lib.hid hlo; have HPM := Lib.hid hpm; have HNL := Lib.hid hnl2; have HNO := Lib.hid hno; have HNE := Lib.hid hne; have HAW := Lib.hid haw
    have HZO : Hid (∀ z ∈ zs, z ∈ xs) := fun z hz => hpm.mem_iff.1 (List.mem_append_right _ hz)
    have HYL : Hid (ys.length + zs.length = n) := by show _ = _; have := hpm.length_eq; rw [List.length_append] at this; have := HN.out; omega
    clear hlz hlo hpm hnl2 hno hne haw
    have HAZ : Hid (∀ z ∈ zs, Ad z.p) := fun z hz => (HOK.out z (HZO.out z hz)).wf.ad
    obtain ⟨la, lc, hlv, hl3, hl4, hlp, hl5⟩ := HLZ.out.pks (by omega) (fun z hz => (HOK.out z (HZO.out z hz)).on HAW.out)
    subst hlv
    by_cases hz : 0 < zs.length
    · obtain ⟨lb, hlb⟩ : ∃ lb, la = some ⟨lb, 0, none⟩ := by
        rcases HLZ.out.2 with ⟨h1, h2⟩ | ⟨g, c, cur, h1, -⟩
        · omega
        · simp only [Value.slice.injEq] at h1; exact ⟨g, h1.1⟩
      subst hlb
      have HPZ := Lib.hid hlp
      clear hl5 hl4 hlp
      obtain ⟨nz, hnz⟩ : ∃ nz, nz = zs.length := ⟨_, rfl⟩
      rw [← hnz] at hz hj hl3 HLZ ⊢
      have HNZ := Lib.hid hnz
      clear hnz
      have hg0 : (0 : Int) < (nz : Int) := by omega
      go_upto_if 24 with fail
      go_cut [9] (fun v wc => ∃ k : Nat, v = .int .i64 (k : Int) ∧ k < nz ∧ wc = wr)
      case first =>
        by_cases hjo : j < on
        · obtain ⟨ob, oo, z, hoa, hcz, hzok⟩ := (HO.out.on HAW.out) j hjo
          subst hoa
          have HZK := Lib.hid hzok
          have i2 : 0 ≤ (j : Int) := by omega
          have i3 : (j : Int) < (on : Int) := by omega
          have i4 : ((j : Int)).toNat = j := by omega
          have djo : decide ((j : Int) < (on : Int)) = true := by simp; omega
          go_wp2_with fail
          refine (rest_c z ((nz : Int) - 1) _ HZK.out (by omega) (by omega)).mono ?_
          rintro E _ ⟨rfl, rfl⟩
          have hm1 := Int.emod_nonneg z (show (nz : Int) - 1 + 1 ≠ 0 by omega)
          have hm2 := Int.emod_lt_of_pos z (show 0 < (nz : Int) - 1 + 1 by omega)
          obtain ⟨r, hr⟩ : ∃ r : Nat, (r : Int) = z % ((nz : Int) - 1 + 1) := ⟨(z % ((nz : Int) - 1 + 1)).toNat, by omega⟩
          rw [← hr]
          have HRL : Hid (r < nz) := by show _ < _; omega
          clear hm1 hm2 hr hcz
          go_wp2_with fail
          go_meet
          exact ⟨r, rfl, HRL.out, rfl⟩
        · have djo : decide ((j : Int) < (on : Int)) = false := by simp; omega
          go_wp2_with fail
          go_meet
          exact ⟨nz - 1, by go_num, by omega, rfl⟩
      case rest =>
      obtain ⟨k, rfl, hk, rfl⟩ := hcut
      obtain ⟨x, hxk, hxm⟩ := get_of (show k < zs.length by have := HNZ.out; omega)
      obtain ⟨y, hyk, hym⟩ := get_of (show nz - 1 < zs.length by have := HNZ.out; omega)
      obtain ⟨b1, o1, hb1, hrx, hokx⟩ := HPZ.out.at hxk
      obtain ⟨rfl, rfl⟩ : lb = b1 ∧ 0 = o1 := by simpa using hb1
      obtain ⟨b2, o2, hb2, hry, hoky⟩ := HPZ.out.at hyk
      obtain ⟨rfl, rfl⟩ : lb = b2 ∧ 0 = o2 := by simpa using hb2
      have HRX : Hid (wc.rangeAt lb (k * 46) (listP x.p x.o x.d)) := by
        have : wc.rangeAt lb (0 + k * 46) (listP x.p x.o x.d) := hrx
        show wc.rangeAt lb (k * 46) _
        simpa using this
      have HXO : Hid (Pkt wc x.p x.o x.d) := hokx
      have HYO : Hid (Pkt wc y.p y.o y.d) := hoky
      have HXA := Lib.hid hokx.wf.ad; have HYA := Lib.hid hoky.wf.ad
      have HXK := Lib.hid hxk; have HYK := Lib.hid hyk
      have HO1 := Lib.hid hokx.ov; have HD1 := Lib.hid hokx.dv; have HO2 := Lib.hid hoky.ov; have HD2 := Lib.hid hoky.dv
      clear hxk hyk hxm hym hb1 hb2 hrx hry hokx hoky
      have i2 : 0 ≤ (k : Int) := by omega
      have i3 : (k : Int) < (nz : Int) := by omega
      have i4 : ((k : Int)).toNat = k := by omega
      go_wp2_with (first
        | (refine wpList_load28m rfl _ rfl lb (k * 46) rfl x.p x.o x.d (by exact HRX.out) HXA.out ?_)
        | (refine wpList_build28 rfl _ rfl x.p x.o x.d rfl HXA.out ?_; refine Hid.out ?_))
      refine Lib.hid ?_
      intro gq v2 hgq hbq haw
      have HBQ := Lib.hid hbq
      replace HLZ := Lib.hid (HLZ.out.on haw)
      replace HLO := Lib.hid (HLO.out.on haw)
      have hsw := HAW.out.size
      replace HAW := Lib.hid (HAW.out.on haw)
      clear haw hbq HRX HPZ
      go_wp2_with (at_builtin; refine wpList_appP rfl _ _ rfl _ ys rfl (by exact HLO.out) gq 1 rfl x.p x.o x.d (by exact HBQ.out) HXA.out HO1.out HD1.out (by have := HYL.out; omega) ?_; refine Hid.out ?_)
      refine Lib.hid ?_
      intro v' v3 hl3' hgr hmv
      have hlb := HLZ.out.lt lb rfl
      have HLZ3 := Lib.hid (lst_grown hgr HLZ.out HNE.out)
      have HA3 : Hid (Away [] w v3) := HAW.out.grown hgr (fun k hk => .inr (HNO.out k hk))
      have HL3 : Hid (LstP v3 v' (ys ++ [x])) := hl3'
      have HNO3 : Hid (New w.heap.size v') := HNO.out.moved hmv HAW.out.size
      have HNE3 : Hid (v'.ownBlock ≠ some lb) := fun e => by
        rcases hmv lb e with h | h
        · exact HNE.out lb rfl h
        · omega
      have HLB : Hid (w.heap.size ≤ lb) := HNL.out lb rfl
      clear hl3' hgr hmv HLZ HLO HAW HNO HBQ hgq hsw hlb
      have HRY : Hid (v3.rangeAt lb ((nz - 1) * 46) (listP y.p y.o y.d)) := by
        intro q u hu
        have hu2 : (csP y.p y.o y.d)[q]? = some u := by unfold csP; rw [List.getElem?_toArray]; exact hu
        exact (lst_cell HLZ3.out HNZ.out.symm HAZ.out HYK.out hu2).1
      have HTH : Hid (v3.there lb (k * 46) (csP y.p y.o y.d).size) := by
        rw [csP_size HYA.out]
        intro q hq
        have h46 := csP_size HXA.out x.o x.d
        have := lst_cell HLZ3.out HNZ.out.symm HAZ.out HXK.out (f := q) (u := (csP x.p x.o x.d)[q]'(by omega)) (Array.getElem?_eq_getElem _)
        exact ⟨by rw [this.1]; rfl, this.2⟩
      have HL4 : Hid (LstP (v3.setCells lb (k * 46) (csP y.p y.o y.d).toList) (.slice (some ⟨lb, 0, none⟩) nz lc) (zs.set k y)) := lst_putall HLZ3.out HNZ.out.symm HAZ.out hk HYA.out
      have hA4 := away_cells (csP y.p y.o y.d).toList v3 lb (k * 46)
      have HO4 := Lib.hid (HL3.out.away hA4 (fun q hq e => by simp at e; subst e; exact HNE3.out hq))
      have HA4 := Lib.hid (HA3.out.next hA4 (fun q hq => .inr (by simp at hq; have := HLB.out; omega)))
      have HZ5 := Lib.hid (lst_take HL4.out (by rw [List.length_set]; exact HNZ.out.symm) (fun q hq => by
        rcases List.mem_or_eq_of_mem_set hq with h | h
        · exact HAZ.out q h
        · rw [h]; exact HYA.out) (nz - 1) (by omega))
      have HPM5 : Hid (((ys ++ [x]) ++ (zs.set k y).take (nz - 1)).Perm xs) := by
        have h1 := swap_perm zs k x y HXK.out (by rw [← HNZ.out]; exact HYK.out)
        rw [← HNZ.out] at h1
        rw [List.append_assoc]
        exact (List.Perm.append_left ys (by simpa using h1)).trans HPM.out
      have HZL : Hid (((zs.set k y).take (nz - 1)).length = nz - 1) := by show _ = _; rw [List.length_take, List.length_set]; have := HNZ.out; omega
      have HSL := Lib.hid (slice_h32 (some ⟨lb, 0, none⟩) nz lc (nz - 1) ((nz : Int) - 1) (by omega) (by omega))
      clear hA4
      have k2 : 0 ≤ (nz : Int) - 1 := by omega
      have k3 : (nz : Int) - 1 < (nz : Int) := by omega
      have k4 : ((nz : Int) - 1).toNat = nz - 1 := by omega
      go_wp2_with (refine wpList_load28m rfl _ rfl lb ((nz - 1) * 46) rfl y.p y.o y.d (by exact HRY.out) HYA.out ?_; refine Hid.out ?_)
      refine Lib.hid ?_
      go_wp2_with (refine wpList_store_mid rfl 28 _ _ rfl lb (k * 46) (csP y.p y.o y.d) rfl rfl HTH.out (by rw [csP_size HYA.out]; exact info28) (csP_one y.p y.o y.d HO2.out HD2.out) ?_; refine Hid.out ?_)
      refine Lib.hid ?_
      clear HRY HTH HL4 HLZ3 HL3 HA3
      generalize v3.setCells lb (k * 46) (csP y.p y.o y.d).toList = v4 at *
      have hsl := HSL.out
      go_wp2_with fail
      go_roundw
      case rel => exact ⟨j + 1, (zs.set k y).take (nz - 1), ys ++ [x], by go_num, by have := HZL.out; omega, HZ5.out, HO4.out, HPM5.out, HNL.out, HNO3.out, fun q hq e => by simp [Value.ownBlock] at hq; subst hq; exact HNE3.out e, HA4.out⟩
      case measure => simp [intOf]; omega
    · have hz0 : zs.length = 0 := by omega
      rw [hz0]
      have HZE : Hid (ys.Perm xs) := by
        have := HPM.out
        rw [List.eq_nil_of_length_eq_zero hz0, List.append_nil] at this
        exact this
      go_wp2_with fail
      go_ret
      exact ⟨_, ys, rfl, HLO.out, HZE.out, HNO.out, HAW.out⟩
end R
#print axioms R.dealt_c
end Go.Proofs.YtaicckenpplceaaDoor
