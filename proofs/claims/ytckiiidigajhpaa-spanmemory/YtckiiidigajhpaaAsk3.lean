/-
  The document's list of a set.
-/
import Derived.Test.YtckiiidigajhpaaFn5
import Derived.Test.YtckiiidigajhpaaQt
import Derived.Deep.RegionLaw
import Derived.Deep.Cut
namespace Go.Proofs.Ytckiiidigajhpaa
open Go.ChangeShapes Go.WideShapes Go.ChangeAt Go.RowKit
set_option linter.unusedVariables false
set_option maxRecDepth 100000

/-- What the ends of a set's spans are good for. -/
structure Ends (e : List Int) (f : Int → Bool) : Prop where
  len : e.length ≤ 65536
  ok : ∀ x ∈ e, 0 ≤ x ∧ x ≤ 65535
  start : ∀ x, e[0]? = some x → Ls [] f x
  step : ∀ (k : Nat) x y, e[k]? = some x → e[k + 1]? = some y → x < y ∧ 0 ≤ x ∧ y ≤ 65535 ∧ ∀ n, x ≤ n → n < y → f n = f x
  fin : ∀ (k : Nat) x out, e[k]? = some x → e.length ≤ k + 1 → Ls out f x → Of out f
  nil : e = [] → Of [] f
theorem ends_facts (l m : List Sp) (hi : ∀ s ∈ l, Is s) (hj : ∀ s ∈ m, Is s) : Ends (endsP (l ++ m)) (setP l m) := by
  have ha : ∀ s ∈ l ++ m, Is s := fun s hs => by
    rcases List.mem_append.1 hs with h | h
    · exact hi s h
    · exact hj s h
  have hr := ends_rise (l ++ m)
  have hm1 : ∀ s ∈ l, s.1 ∈ endsP (l ++ m) ∧ s.2 ∈ endsP (l ++ m) := fun s hs => ⟨ends_mem.2 ⟨s, by simp [hs], .inl rfl⟩, ends_mem.2 ⟨s, by simp [hs], .inr rfl⟩⟩
  have hm2 : ∀ s ∈ m, s.1 ∈ endsP (l ++ m) ∧ s.2 ∈ endsP (l ++ m) := fun s hs => ⟨ends_mem.2 ⟨s, by simp [hs], .inl rfl⟩, ends_mem.2 ⟨s, by simp [hs], .inr rfl⟩⟩
  have hin : ∀ n, setP l m n = true → ∃ s ∈ l, s.1 ≤ n ∧ n < s.2 := fun n h => by
    unfold setP at h
    simp only [Bool.and_eq_true] at h
    exact inB_iff.1 h.1
  refine ⟨ends_len ha, ends_in ha, fun x hx => ?_, fun k x y hx hy => ?_, fun k x out hx hk h => ?_, fun h => ?_⟩
  · refine Ls.start (ends_in ha x (List.mem_of_getElem? hx)).1 (fun n hn => ?_)
    obtain ⟨s, hs, h1, h2⟩ := hin n hn
    have := rise_first hr hx (hm1 s hs).1
    omega
  · refine ⟨rise_at hr hx hy (by omega), (ends_in ha x (List.mem_of_getElem? hx)).1, (ends_in ha y (List.mem_of_getElem? hy)).2, fun n h1 h2 => ?_⟩
    unfold setP
    rw [in_still hr hm1 hx hy h1 h2, in_still hr hm2 hx hy h1 h2]
  · refine h.fin (fun n hn => ?_)
    obtain ⟨s, hs, h1, h2⟩ := hin n hn
    have := rise_last hr hx hk (hm1 s hs).2
    omega
  · refine ⟨rfl, fun n => ?_⟩
    rw [inB_nil]; symm; rw [Bool.eq_false_iff]; intro hn
    obtain ⟨s, hs, _⟩ := hin n hn
    have := (hm1 s hs).1
    rw [h] at this; simp at this
theorem step_app2 {ops : Array Oper} {o : Oper} {a : Act} {w : World} {K : Act → World → Prop} {Q : Exit → Act → World → Prop} {E : Prop} (hg : o.guard = none) (s x : Operand)
    (hop : o.op = .call { callee := .builtin .append, args := #[s, x], argTypes := #[22, 22] }) (v : Value) (l : List Sp) (hs : a.eval s = v) (hown : Lst w v l)
    (ad : Addr) (c : Nat) (hx : a.eval x = .slice (some ad) 1 c) (y : Sp) (h1 : w.cell? ad = some (.int .i64 y.1)) (h2 : w.cell? (ad.add 1) = some (.int .i64 y.2)) (hlen : l.length < 8796093022208)
    (hK : ∀ v' w', Lst w' v' (l ++ [y]) → w.grownBy w' v.ownBlock → Moved w v v' → K (a.put o.dst v') w') :
    if Region.wanted o (yielded ops a.tmps) = true then Oper.wp Try.prog o a w K Q else E := by
  have hw : Region.wanted o (yielded ops a.tmps) = true := by simp [Region.wanted, hg]
  rw [if_pos hw]
  obtain ⟨v', w', hrun, r1, r2, r3⟩ := run_app2 o.type w v l.length (l.flatMap encS) hown ad c _ _ h1 h2 rfl rfl hlen
  unfold Oper.wp
  simp [execOp, hop, resolve, invoke, builtin, hs, hx, hrun, Result.andThen]
  exact hK v' w' (Lst.snoc r1) r2 r3
theorem rin_b {z : Bool} (a : Option Addr) (l : List Sp) (n cap : Nat) (m : Int) (w : World) (hn : l.length = n) (hr : Row w a l) (hz : inB l m = z) :
    Calls Try.prog 45 #[.slice a n cap, .int .i64 m] w fun E w' => E = .returned (.bool z) ∧ w' = w := by rw [← hz]; exact rin_c a l n cap m w hn hr
theorem Ls.is {out : List Sp} {f : Int → Bool} {m : Int} (h : Ls out f m) : ∀ s ∈ out, Is s := fun s hs => (rf_is h.right s hs).1
theorem Ls.len {out : List Sp} {f : Int → Bool} {m : Int} (h : Ls out f m) : out.length ≤ 32768 := right_short h.right
set_option maxHeartbeats 16000000 in
theorem rlist_c (a b : Option Addr) (l m : List Sp) (na nb ca cb : Nat) (w : World) (hna : l.length = na) (hnb : m.length = nb) (hr : Row w a l) (hs : Row w b m) (ha : a = none → ca = 0) (hb : b = none → cb = 0) (hi : ∀ s ∈ l, Is s) (hj : ∀ s ∈ m, Is s) (hlen : l.length + m.length ≤ 8796093022208) :
    Calls Try.prog 39 #[.agg #[.slice a na ca, .slice b nb cb]] w fun E w' => ∃ v r, E = .returned v ∧ Mk w w' v r ∧ Of r (setP l m) := by
  have HE : Hid (Ends (endsP (l ++ m)) (setP l m)) := ends_facts l m hi hj
  have HIS : Hid (∀ s ∈ l ++ m, Is s) := fun s hs => by
    rcases List.mem_append.1 hs with h | h
    · exact hi s h
    · exact hj s h
  have HR : Hid (Row w a l) := hr
  have HS : Hid (Row w b m) := hs
  have HNA : Hid (a = none → ca = 0) := ha
  have HNB : Hid (b = none → cb = 0) := hb
  have HLA : Hid (l.length = na) := hna
  have HLB : Hid (m.length = nb) := hnb
  have HLN : Hid (l.length + m.length ≤ 8796093022208) := hlen
  clear hr hs ha hb hi hj hna hnb hlen
  obtain ⟨f, hf⟩ : ∃ f, f = setP l m := ⟨_, rfl⟩
  have HF1 : Hid (∀ x, f x = (inB l x && !inB m x)) := fun x => by rw [hf]; rfl
  rw [← hf] at HE ⊢
  clear hf
  go_enter Try.func39, Try.ntmps39
  go_upto_region 1 with fail
  have HWB : Hid (Away [] w (w.alloc (.cells #[.slice a na ca, .slice b nb cb] 49))) := (Away.refl [] w).alloc _
  have k0 : (w.alloc (.cells #[.slice a na ca, .slice b nb cb] 49)).cell? ⟨w.heap.size, 0, none⟩ = some (.slice a na ca) := by rw [World.cell?_alloc_at (hn := rfl)]; rfl
  have k1 : (w.alloc (.cells #[.slice a na ca, .slice b nb cb] 49)).cell? ⟨w.heap.size, 1, none⟩ = some (.slice b nb cb) := by rw [World.cell?_alloc_at (hn := rfl)]; rfl
  have HSZ : Hid (w.heap.size < (w.alloc (.cells #[.slice a na ca, .slice b nb cb] 49)).heap.size) := by show _ < _; simp
  obtain ⟨g0, hg0⟩ : ∃ g, g = w.heap.size := ⟨_, rfl⟩
  rw [← hg0] at k0 k1 HSZ ⊢
  generalize w.alloc (.cells #[.slice a na ca, .slice b nb cb] 49) = wb at *
  clear hg0
  go_wp2_with (at_builtin; refine wpList_appL rfl _ _ rfl _ [] l rfl (by exact Lst.nil _) a na ca rfl HLA.out HNA.out (by exact HR.out.on HWB.out) (by have := HLN.out; have := HLA.out; simp; omega) ?_)
  intro v1 w1 hown1 hgr1 hmov1
  have HM1 : Hid (Mk wb w1 v1 l) := ⟨by simpa using hown1, (New.nil _).moved hmov1 (Nat.le_refl _), (Away.refl [] wb).step hgr1 (New.nil _)⟩
  replace k0 := HM1.out.2.2.cell (by simp) k0
  replace k1 := HM1.out.2.2.cell (by simp) k1
  clear hown1 hgr1 hmov1
  go_wp2_with (at_builtin; refine wpList_appL rfl _ _ rfl _ l m rfl (by exact HM1.out.1) b nb cb rfl HLB.out HNB.out (by exact (HS.out.on HWB.out).on HM1.out.2.2) (by have := HLN.out; have := HLB.out; omega) ?_)
  intro v2 w2 hown2 hgr2 hmov2
  have HM2 : Hid (Mk wb w2 v2 (l ++ m)) := ⟨hown2, HM1.out.2.1.moved hmov2 HM1.out.2.2.size, HM1.out.2.2.step hgr2 HM1.out.2.1⟩
  have hgx : Away v1.ownBlock.toList w1 w2 := (Away.refl _ w1).grown hgr2 (fun k hk => .inl (by simp [hk]))
  have hnot : g0 ∉ v1.ownBlock.toList := fun h => by
    have := HM1.out.2.1 g0 (by simpa using h)
    have := HSZ.out
    omega
  replace k0 := hgx.cell hnot k0
  replace k1 := hgx.cell hnot k1
  clear hown2 hgr2 hmov2 HM1 hgx hnot
  obtain ⟨av, cv, rfl, hv1, hv2, hv3, -⟩ := HM2.out.1.row (by have := HLN.out; simp; omega) (fun x hx => (HIS.out x hx).ok)
  have HV3 := hidI hv3
  clear hv1 hv2 hv3
  have HL2 : Hid ((l ++ m).length = (l ++ m).length) := rfl
  generalize hlm : l ++ m = lm at *
  go_wp2_with fail
  refine (rends_c av lm lm.length cv _ rfl (by exact HV3.out) HIS.out).mono ?_
  rintro E w3 ⟨ve, rfl, hle, hnewe, hawe⟩
  replace k0 := hawe.cell (by simp) k0
  replace k1 := hawe.cell (by simp) k1
  obtain ⟨ae, ce, rfl, he1, he2, he3, -⟩ := hle.row (by have := HE.out.len; omega) (fun x hx => by have := HE.out.ok x hx; exact ⟨by omega, by omega⟩)
  have HER := hidI he3
  have HW3 : Hid (Away [] w w3) := (HWB.out.trans HM2.out.2.2).trans hawe
  have hlen := HE.out.len
  clear hle hnewe hawe he1 he2 he3 HM2 HV3 HL2 hlm HIS HSZ
  generalize endsP lm = e at *
  go_wp2_with fail
  go_loopw [5, 6] (fun v i wr => ∃ (k : Nat) (out : List Sp), i = .int .i64 (k : Int) ∧ Mk w3 wr v out ∧ ((e = [] ∧ k = 0 ∧ out = []) ∨ ∃ x, e[k]? = some x ∧ Ls out f x)) (fun _ i _ => e.length - (intOf i).toNat)
  case atStart =>
    refine ⟨0, [], rfl, Mk.nil _, ?_⟩
    rcases e with _ | ⟨x, r⟩
    · exact .inl ⟨rfl, rfl, rfl⟩
    · exact .inr ⟨x, rfl, HE.out.start x rfl⟩
  case round =>
    obtain ⟨k, out, rfl, hm, hst⟩ := hrel
    have HM := hidI hm
    clear hm
    by_cases hlt : k + 1 < e.length
    · obtain ⟨x, hx, hls⟩ : ∃ x, e[k]? = some x ∧ Ls out f x := by
        rcases hst with ⟨h, _, _⟩ | h
        · rw [h] at hlt; simp at hlt
        · exact h
      obtain ⟨y, hy, _⟩ := getI_of hlt
      obtain ⟨eb, eo, rfl, c1, -⟩ := (HER.out.on HM.out.2.2).at hx
      obtain ⟨eb', eo', hbo, c2, -⟩ := (HER.out.on HM.out.2.2).at hy
      simp only [Option.some.injEq, Addr.mk.injEq] at hbo
      obtain ⟨rfl, rfl, -⟩ := hbo
      obtain ⟨hxy, hx0, hy1, hsame⟩ := HE.out.step k x y hx hy
      have HSM := hidI hsame
      have HLS := hidI hls
      have HY := hidI hy
      have hout := hls.len
      replace k0 := HM.out.2.2.cell (by simp) k0
      replace k1 := HM.out.2.2.cell (by simp) k1
      have HRW : Hid (Away [] w wr) := HW3.out.trans HM.out.2.2
      clear hst hx hy hls hsame
      have q1 : decide ((k : Int) + 1 < (e.length : Int)) = true := by simp; omega
      have t2 : 0 ≤ (k : Int) := by omega
      have t3 : (k : Int) < (e.length : Int) := by omega
      have t4 : ((k : Int)).toNat = k := by omega
      have t5 : 0 ≤ (k : Int) + 1 := by omega
      have t6 : (k : Int) + 1 < (e.length : Int) := by omega
      have t7 : ((k : Int) + 1).toNat = k + 1 := by omega
      have t8 : IntKind.i64.wrap ((k : Int) + 1) = (k : Int) + 1 := by rw [IntKind.wrap_i64]; omega
      obtain ⟨z1, hz1⟩ : ∃ z, inB l x = z := ⟨_, rfl⟩
      obtain ⟨z2, hz2⟩ : ∃ z, inB m x = z := ⟨_, rfl⟩
      have HC1 : Hid (∀ q, Calls Try.prog 45 #[.slice a na ca, .int .i64 x] (wr.drewN q) fun E w' => E = .returned (.bool z1) ∧ w' = wr.drewN q) := fun q => rin_b a l na ca x _ HLA.out ((HR.out.on HRW.out).drewN q) hz1
      have HC2 : Hid (∀ q, Calls Try.prog 45 #[.slice b nb cb, .int .i64 x] (wr.drewN q) fun E w' => E = .returned (.bool z2) ∧ w' = wr.drewN q) := fun q => rin_b b m nb cb x _ HLB.out ((HS.out.on HRW.out).drewN q) hz2
      have HFX : Hid (f x = (z1 && !z2)) := by show _ = _; rw [HF1.out, hz1, hz2]
      clear hz1 hz2
      by_cases hz : (z1 && !z2) = true
      · obtain ⟨rfl, rfl⟩ : z1 = true ∧ z2 = false := by cases z1 <;> cases z2 <;> simp_all
        have HSY : Hid (∀ n, x ≤ n → n < y → f n = true) := fun n h1 h2 => by rw [HSM.out n h1 h2, HFX.out]; rfl
        clear hz HFX
        rcases nil_or_snoc out with rfl | ⟨oo, p, rfl⟩
        · obtain ⟨oa, oc, rfl, -⟩ := HM.out.1.row (by simp) (by simp)
          have HREL : Hid (Ls ([] ++ [(x, y)]) f y) := HLS.out.add hx0 hxy hy1 HSY.out (by show (-1 : Int) ≠ x; omega)
          go_wp2_with fail
          refine wp_region_cls (C := DrewC wr) (by kernel_rfl) (by kernel_rfl) ⟨1, rfl⟩ ?_
          go_big_quiet_want; (refine quiet_val ?_ ?_ ?_; rotate_left; (intro w; go_simp; rfl); go_simp; go_big_quiet_on)
          go_big_quiet_want; refine quiet_ld _ rfl (ad := ⟨g0, 0, none⟩) rfl (fun w' h => ld22 (h.cell k0)) ?_; go_simp; go_big_quiet_on
          go_big_quiet_want; (refine quiet_val ?_ ?_ ?_; rotate_left; (intro w; go_simp; rfl); go_simp; go_big_quiet_on)
          go_big_quiet_want; (refine quiet_val ?_ ?_ ?_; rotate_left; (intro w; go_simp; rfl); go_simp; go_big_quiet_on)
          go_big_quiet_want; refine quiet_ix40 _ _ rfl k rfl rfl (by omega) ?_; go_simp; go_big_quiet_on
          go_big_quiet_want; refine quiet_ld _ rfl (ad := ⟨eb, eo + k, none⟩) rfl (fun w' h => ld3 (h.cell c1)) ?_; go_simp; go_big_quiet_on
          go_big_quiet_want; refine quiet_call 45 #[.slice a na ca, .int .i64 x] (.bool true) ?_ (DrewC.same HC1.out) ?_
          · intro w; go_simp; done
          go_simp; go_big_quiet_on
          go_big_quiet_want; (refine quiet_val ?_ ?_ ?_; rotate_left; (intro w; go_simp; rfl); go_simp; go_big_quiet_on)
          go_big_quiet_want; (refine quiet_val ?_ ?_ ?_; rotate_left; (intro w; go_simp; rfl); go_simp; go_big_quiet_on)
          go_big_quiet_want; (refine quiet_val ?_ ?_ ?_; rotate_left; (intro w; go_simp; rfl); go_simp; go_big_quiet_on)
          go_big_quiet_want; refine quiet_ld _ rfl (ad := ⟨g0, 1, none⟩) rfl (fun w' h => ld22 (h.cell k1)) ?_; go_simp; go_big_quiet_on
          go_big_quiet_want; (refine quiet_val ?_ ?_ ?_; rotate_left; (intro w; go_simp; rfl); go_simp; go_big_quiet_on)
          go_big_quiet_want; (refine quiet_val ?_ ?_ ?_; rotate_left; (intro w; go_simp; rfl); go_simp; go_big_quiet_on)
          go_big_quiet_want; refine quiet_ix40 _ _ rfl k rfl rfl (by omega) ?_; go_simp; go_big_quiet_on
          go_big_quiet_want; refine quiet_ld _ rfl (ad := ⟨eb, eo + k, none⟩) rfl (fun w' h => ld3 (h.cell c1)) ?_; go_simp; go_big_quiet_on
          go_big_quiet_want; refine quiet_call 45 #[.slice b nb cb, .int .i64 x] (.bool false) ?_ (DrewC.same HC2.out) ?_
          · intro w; go_simp; done
          go_simp; go_big_quiet_on
          go_big_quiet_want; (refine quiet_val ?_ ?_ ?_; rotate_left; (intro w; go_simp; rfl); go_simp; go_big_quiet_on)
          refine wpQuiet_nil ?_
          intro V hV
          obtain ⟨qV, rfl⟩ := hV
          have HM9 := hidI (HM.out.on ((Away.refl [] wr).drewN qV))
          replace c1 := ((Away.refl [] wr).drewN qV).cell (by simp) c1
          replace c2 := ((Away.refl [] wr).drewN qV).cell (by simp) c2
          clear HM HC1 HC2
          generalize wr.drewN qV = W9 at *
          go_wp2_with fail
          refine wp_region_cls (C := DrewC W9) (by kernel_rfl) (by kernel_rfl) ⟨1, rfl⟩ ?_
          go_big_quiet_want; (refine quiet_val ?_ ?_ ?_; rotate_left; (intro w; go_simp; rfl); go_simp; go_big_quiet_on)
          go_big_quiet_want; (refine quiet_val ?_ ?_ ?_; rotate_left; (intro w; go_simp; rfl); go_simp; go_big_quiet_on)
          go_big_quiet_want; (refine quiet_val ?_ ?_ ?_; rotate_left; (intro w; go_simp; rfl); go_simp; go_big_quiet_on)
          go_big_quiet_skip
          go_big_quiet_skip
          go_big_quiet_skip
          go_big_quiet_skip
          go_big_quiet_skip
          go_big_quiet_skip
          go_big_quiet_skip
          go_big_quiet_skip
          go_big_quiet_skip
          go_big_quiet_skip
          go_big_quiet_skip
          go_big_quiet_want; (refine quiet_val ?_ ?_ ?_; rotate_left; (intro w; go_simp; rfl); go_simp; go_big_quiet_on)
          refine wpQuiet_nil ?_
          intro V hV
          obtain ⟨qV, rfl⟩ := hV
          have HMW := hidI (HM9.out.on ((Away.refl [] W9).drewN qV))
          replace c1 := ((Away.refl [] W9).drewN qV).cell (by simp) c1
          replace c2 := ((Away.refl [] W9).drewN qV).cell (by simp) c2
          clear HM9
          generalize W9.drewN qV = W at *
          go_wp2_with fail
          go_region_law ((refine step_app2 rfl (.tmp 69) (.tmp 80) rfl (.slice oa 0 oc) ([] : List Sp) (by simp [Act.eval]) (by exact HMW.out.1.on (((Away.refl [] _).alloc _).drew)) ⟨W.heap.size, 0, none⟩ 1 (by simp [Act.eval]) (x, y) (by simp [World.cell?_alloc_at (hn := rfl)]) (by simp [add_plain, World.cell?_alloc_at (hn := rfl)]) (by first | (simp; done) | (simp; omega)) ?_; intro v' wz hownz hgrz hmovz))
          all_goals
            have HMZ : Hid (Mk w3 wz v' (([] : List Sp) ++ [(x, y)])) := ⟨by simpa using hownz, HMW.out.2.1.moved hmovz (by have := HMW.out.2.2.size; simp; omega), ((HMW.out.2.2.alloc _).drew).step hgrz HMW.out.2.1⟩
            clear hownz hgrz hmovz
            go_wp2_with fail
            go_roundw
            case rel => exact ⟨k + 1, _, by go_num, HMZ.out, .inr ⟨y, HY.out, HREL.out⟩⟩
            case measure => simp [intOf]; omega
        · obtain ⟨oa, oc, rfl, hoc, hon, hrow, hown⟩ := HM.out.1.row (by omega) (fun s hs => (HLS.out.is s hs).ok)
          obtain ⟨g, og, rfl, c3, c4, -⟩ := hrow.at (k := oo.length) (x := p) (by simp)
          obtain ⟨e1, e2, -⟩ := hown _ rfl
          simp only at e2
          subst e2
          obtain ⟨p1, p2⟩ := p
          simp only [List.length_append, List.length_cons, List.length_nil, Nat.zero_add] at *
          replace c4 : wr.cell? ⟨g, oo.length * 2 + 1, none⟩ = some (.int .i64 p2) := by simpa using c4
          clear c3 hown hrow hon
          have hgl : g < wr.heap.size := HM.out.1.lt g e1
          have HGN : Hid (w3.heap.size ≤ g) := HM.out.2.1 g e1
          clear e1
          have n0 : decide ((0 : Int) < (oo.length : Int) + 1) = true := decide_eq_true (by omega)
          have n1 : (oo.length : Int) + 1 - 1 = oo.length := by omega
          have n2 : 0 ≤ (oo.length : Int) := by omega
          have n3 : (oo.length : Int) < (oo.length : Int) + 1 := by omega
          have n4 : ((oo.length : Int)).toNat = oo.length := by omega
          have n5 : IntKind.i64.wrap ((oo.length : Int)) = oo.length := by rw [IntKind.wrap_i64]; omega
          by_cases hpe : p2 = x
          · have HREL : Hid (Ls (oo ++ [(p1, y)]) f y) := HLS.out.more hpe hxy hy1 HSY.out
            have b1 : (p2 == x) = true := by simp [hpe]
            have HPE := hidI hpe
            clear hpe hgl
            go_wp2_with fail
            refine wp_region_cls (C := DrewC wr) (by kernel_rfl) (by kernel_rfl) ⟨1, rfl⟩ ?_
            go_big_quiet_want; (refine quiet_val ?_ ?_ ?_; rotate_left; (intro w; go_simp; rfl); go_simp; go_big_quiet_on)
            go_big_quiet_want; refine quiet_ld _ rfl (ad := ⟨g0, 0, none⟩) rfl (fun w' h => ld22 (h.cell k0)) ?_; go_simp; go_big_quiet_on
            go_big_quiet_want; (refine quiet_val ?_ ?_ ?_; rotate_left; (intro w; go_simp; rfl); go_simp; go_big_quiet_on)
            go_big_quiet_want; (refine quiet_val ?_ ?_ ?_; rotate_left; (intro w; go_simp; rfl); go_simp; go_big_quiet_on)
            go_big_quiet_want; refine quiet_ix40 _ _ rfl k rfl rfl (by omega) ?_; go_simp; go_big_quiet_on
            go_big_quiet_want; refine quiet_ld _ rfl (ad := ⟨eb, eo + k, none⟩) rfl (fun w' h => ld3 (h.cell c1)) ?_; go_simp; go_big_quiet_on
            go_big_quiet_want; refine quiet_call 45 #[.slice a na ca, .int .i64 x] (.bool true) ?_ (DrewC.same HC1.out) ?_
            · intro w; go_simp; done
            go_simp; go_big_quiet_on
            go_big_quiet_want; (refine quiet_val ?_ ?_ ?_; rotate_left; (intro w; go_simp; rfl); go_simp; go_big_quiet_on)
            go_big_quiet_want; (refine quiet_val ?_ ?_ ?_; rotate_left; (intro w; go_simp; rfl); go_simp; go_big_quiet_on)
            go_big_quiet_want; (refine quiet_val ?_ ?_ ?_; rotate_left; (intro w; go_simp; rfl); go_simp; go_big_quiet_on)
            go_big_quiet_want; refine quiet_ld _ rfl (ad := ⟨g0, 1, none⟩) rfl (fun w' h => ld22 (h.cell k1)) ?_; go_simp; go_big_quiet_on
            go_big_quiet_want; (refine quiet_val ?_ ?_ ?_; rotate_left; (intro w; go_simp; rfl); go_simp; go_big_quiet_on)
            go_big_quiet_want; (refine quiet_val ?_ ?_ ?_; rotate_left; (intro w; go_simp; rfl); go_simp; go_big_quiet_on)
            go_big_quiet_want; refine quiet_ix40 _ _ rfl k rfl rfl (by omega) ?_; go_simp; go_big_quiet_on
            go_big_quiet_want; refine quiet_ld _ rfl (ad := ⟨eb, eo + k, none⟩) rfl (fun w' h => ld3 (h.cell c1)) ?_; go_simp; go_big_quiet_on
            go_big_quiet_want; refine quiet_call 45 #[.slice b nb cb, .int .i64 x] (.bool false) ?_ (DrewC.same HC2.out) ?_
            · intro w; go_simp; done
            go_simp; go_big_quiet_on
            go_big_quiet_want; (refine quiet_val ?_ ?_ ?_; rotate_left; (intro w; go_simp; rfl); go_simp; go_big_quiet_on)
            refine wpQuiet_nil ?_
            intro V hV
            obtain ⟨qV, rfl⟩ := hV
            have HM9 := hidI (HM.out.on ((Away.refl [] wr).drewN qV))
            replace c1 := ((Away.refl [] wr).drewN qV).cell (by simp) c1
            replace c2 := ((Away.refl [] wr).drewN qV).cell (by simp) c2
            replace c4 := ((Away.refl [] wr).drewN qV).cell (by simp) c4
            clear HM HC1 HC2
            generalize wr.drewN qV = W9 at *
            go_wp2_with fail
            refine wp_region_cls (C := DrewC W9) (by kernel_rfl) (by kernel_rfl) ⟨1, rfl⟩ ?_
            go_big_quiet_want; (refine quiet_val ?_ ?_ ?_; rotate_left; (intro w; go_simp; rfl); go_simp; go_big_quiet_on)
            go_big_quiet_want; (refine quiet_val ?_ ?_ ?_; rotate_left; (intro w; go_simp; rfl); go_simp; go_big_quiet_on)
            go_big_quiet_want; (refine quiet_val ?_ ?_ ?_; rotate_left; (intro w; go_simp; rfl); go_simp; go_big_quiet_on)
            go_big_quiet_want; (refine quiet_val ?_ ?_ ?_; rotate_left; (intro w; go_simp; rfl); go_simp; go_big_quiet_on)
            go_big_quiet_want; (refine quiet_val ?_ ?_ ?_; rotate_left; (intro w; go_simp; rfl); go_simp; go_big_quiet_on)
            go_big_quiet_want; (refine quiet_val ?_ ?_ ?_; rotate_left; (intro w; go_simp; rfl); go_simp; go_big_quiet_on)
            go_big_quiet_want; refine quiet_ix22 _ _ rfl oo.length rfl rfl (by omega) ?_; go_simp; go_big_quiet_on
            go_big_quiet_want; (refine quiet_val ?_ ?_ ?_; rotate_left; (intro w; go_simp; rfl); go_simp; go_big_quiet_on)
            go_big_quiet_want; refine quiet_ld _ rfl (ad := ⟨g, oo.length * 2 + 1, none⟩) rfl (fun w' h => ld3 (h.cell c4)) ?_; go_simp; go_big_quiet_on
            go_big_quiet_want; (refine quiet_val ?_ ?_ ?_; rotate_left; (intro w; go_simp; rfl); go_simp; go_big_quiet_on)
            go_big_quiet_want; (refine quiet_val ?_ ?_ ?_; rotate_left; (intro w; go_simp; rfl); go_simp; go_big_quiet_on)
            go_big_quiet_want; refine quiet_ix40 _ _ rfl k rfl rfl (by omega) ?_; go_simp; go_big_quiet_on
            go_big_quiet_want; refine quiet_ld _ rfl (ad := ⟨eb, eo + k, none⟩) rfl (fun w' h => ld3 (h.cell c1)) ?_; go_simp; go_big_quiet_on
            go_big_quiet_want; (refine quiet_val ?_ ?_ ?_; rotate_left; (intro w; go_simp; rfl); go_simp; go_big_quiet_on)
            go_big_quiet_want; (refine quiet_val ?_ ?_ ?_; rotate_left; (intro w; go_simp; rfl); go_simp; go_big_quiet_on)
            refine wpQuiet_nil ?_
            intro V hV
            obtain ⟨qV, rfl⟩ := hV
            have HMW := hidI (HM9.out.on ((Away.refl [] W9).drewN qV))
            replace c1 := ((Away.refl [] W9).drewN qV).cell (by simp) c1
            replace c2 := ((Away.refl [] W9).drewN qV).cell (by simp) c2
            replace c4 := ((Away.refl [] W9).drewN qV).cell (by simp) c4
            clear HM9
            generalize W9.drewN qV = W at *
            have hfr : W.frozen? ⟨g, oo.length * 2 + 1, none⟩ = false := HMW.out.1.free (by simp) _
            go_wp2_with fail
            go_roundw
            case rel => exact ⟨k + 1, oo ++ [(p1, y)], by go_num, ⟨HMW.out.1.setTo rfl y, HMW.out.2.1, HMW.out.2.2.setCell (.inr HGN.out) _⟩, .inr ⟨y, HY.out, HREL.out⟩⟩
            case measure => simp [intOf]; omega
          · have HREL : Hid (Ls (oo ++ [(p1, p2)] ++ [(x, y)]) f y) := HLS.out.add hx0 hxy hy1 HSY.out (by rw [endOf_snoc]; exact hpe)
            have b1 : (p2 == x) = false := by simp [hpe]
            have HPE := hidI hpe
            clear hpe hgl
            go_wp2_with fail
            refine wp_region_cls (C := DrewC wr) (by kernel_rfl) (by kernel_rfl) ⟨1, rfl⟩ ?_
            go_big_quiet_want; (refine quiet_val ?_ ?_ ?_; rotate_left; (intro w; go_simp; rfl); go_simp; go_big_quiet_on)
            go_big_quiet_want; refine quiet_ld _ rfl (ad := ⟨g0, 0, none⟩) rfl (fun w' h => ld22 (h.cell k0)) ?_; go_simp; go_big_quiet_on
            go_big_quiet_want; (refine quiet_val ?_ ?_ ?_; rotate_left; (intro w; go_simp; rfl); go_simp; go_big_quiet_on)
            go_big_quiet_want; (refine quiet_val ?_ ?_ ?_; rotate_left; (intro w; go_simp; rfl); go_simp; go_big_quiet_on)
            go_big_quiet_want; refine quiet_ix40 _ _ rfl k rfl rfl (by omega) ?_; go_simp; go_big_quiet_on
            go_big_quiet_want; refine quiet_ld _ rfl (ad := ⟨eb, eo + k, none⟩) rfl (fun w' h => ld3 (h.cell c1)) ?_; go_simp; go_big_quiet_on
            go_big_quiet_want; refine quiet_call 45 #[.slice a na ca, .int .i64 x] (.bool true) ?_ (DrewC.same HC1.out) ?_
            · intro w; go_simp; done
            go_simp; go_big_quiet_on
            go_big_quiet_want; (refine quiet_val ?_ ?_ ?_; rotate_left; (intro w; go_simp; rfl); go_simp; go_big_quiet_on)
            go_big_quiet_want; (refine quiet_val ?_ ?_ ?_; rotate_left; (intro w; go_simp; rfl); go_simp; go_big_quiet_on)
            go_big_quiet_want; (refine quiet_val ?_ ?_ ?_; rotate_left; (intro w; go_simp; rfl); go_simp; go_big_quiet_on)
            go_big_quiet_want; refine quiet_ld _ rfl (ad := ⟨g0, 1, none⟩) rfl (fun w' h => ld22 (h.cell k1)) ?_; go_simp; go_big_quiet_on
            go_big_quiet_want; (refine quiet_val ?_ ?_ ?_; rotate_left; (intro w; go_simp; rfl); go_simp; go_big_quiet_on)
            go_big_quiet_want; (refine quiet_val ?_ ?_ ?_; rotate_left; (intro w; go_simp; rfl); go_simp; go_big_quiet_on)
            go_big_quiet_want; refine quiet_ix40 _ _ rfl k rfl rfl (by omega) ?_; go_simp; go_big_quiet_on
            go_big_quiet_want; refine quiet_ld _ rfl (ad := ⟨eb, eo + k, none⟩) rfl (fun w' h => ld3 (h.cell c1)) ?_; go_simp; go_big_quiet_on
            go_big_quiet_want; refine quiet_call 45 #[.slice b nb cb, .int .i64 x] (.bool false) ?_ (DrewC.same HC2.out) ?_
            · intro w; go_simp; done
            go_simp; go_big_quiet_on
            go_big_quiet_want; (refine quiet_val ?_ ?_ ?_; rotate_left; (intro w; go_simp; rfl); go_simp; go_big_quiet_on)
            refine wpQuiet_nil ?_
            intro V hV
            obtain ⟨qV, rfl⟩ := hV
            have HM9 := hidI (HM.out.on ((Away.refl [] wr).drewN qV))
            replace c1 := ((Away.refl [] wr).drewN qV).cell (by simp) c1
            replace c2 := ((Away.refl [] wr).drewN qV).cell (by simp) c2
            replace c4 := ((Away.refl [] wr).drewN qV).cell (by simp) c4
            clear HM HC1 HC2
            generalize wr.drewN qV = W9 at *
            go_wp2_with fail
            refine wp_region_cls (C := DrewC W9) (by kernel_rfl) (by kernel_rfl) ⟨1, rfl⟩ ?_
            go_big_quiet_want; (refine quiet_val ?_ ?_ ?_; rotate_left; (intro w; go_simp; rfl); go_simp; go_big_quiet_on)
            go_big_quiet_want; (refine quiet_val ?_ ?_ ?_; rotate_left; (intro w; go_simp; rfl); go_simp; go_big_quiet_on)
            go_big_quiet_want; (refine quiet_val ?_ ?_ ?_; rotate_left; (intro w; go_simp; rfl); go_simp; go_big_quiet_on)
            go_big_quiet_want; (refine quiet_val ?_ ?_ ?_; rotate_left; (intro w; go_simp; rfl); go_simp; go_big_quiet_on)
            go_big_quiet_want; (refine quiet_val ?_ ?_ ?_; rotate_left; (intro w; go_simp; rfl); go_simp; go_big_quiet_on)
            go_big_quiet_want; (refine quiet_val ?_ ?_ ?_; rotate_left; (intro w; go_simp; rfl); go_simp; go_big_quiet_on)
            go_big_quiet_want; refine quiet_ix22 _ _ rfl oo.length rfl rfl (by omega) ?_; go_simp; go_big_quiet_on
            go_big_quiet_want; (refine quiet_val ?_ ?_ ?_; rotate_left; (intro w; go_simp; rfl); go_simp; go_big_quiet_on)
            go_big_quiet_want; refine quiet_ld _ rfl (ad := ⟨g, oo.length * 2 + 1, none⟩) rfl (fun w' h => ld3 (h.cell c4)) ?_; go_simp; go_big_quiet_on
            go_big_quiet_want; (refine quiet_val ?_ ?_ ?_; rotate_left; (intro w; go_simp; rfl); go_simp; go_big_quiet_on)
            go_big_quiet_want; (refine quiet_val ?_ ?_ ?_; rotate_left; (intro w; go_simp; rfl); go_simp; go_big_quiet_on)
            go_big_quiet_want; refine quiet_ix40 _ _ rfl k rfl rfl (by omega) ?_; go_simp; go_big_quiet_on
            go_big_quiet_want; refine quiet_ld _ rfl (ad := ⟨eb, eo + k, none⟩) rfl (fun w' h => ld3 (h.cell c1)) ?_; go_simp; go_big_quiet_on
            go_big_quiet_want; (refine quiet_val ?_ ?_ ?_; rotate_left; (intro w; go_simp; rfl); go_simp; go_big_quiet_on)
            go_big_quiet_want; (refine quiet_val ?_ ?_ ?_; rotate_left; (intro w; go_simp; rfl); go_simp; go_big_quiet_on)
            refine wpQuiet_nil ?_
            intro V hV
            obtain ⟨qV, rfl⟩ := hV
            have HMW := hidI (HM9.out.on ((Away.refl [] W9).drewN qV))
            replace c1 := ((Away.refl [] W9).drewN qV).cell (by simp) c1
            replace c2 := ((Away.refl [] W9).drewN qV).cell (by simp) c2
            replace c4 := ((Away.refl [] W9).drewN qV).cell (by simp) c4
            clear HM9
            generalize W9.drewN qV = W at *
            go_wp2_with fail
            go_region_law ((refine step_app2 rfl (.tmp 69) (.tmp 80) rfl (.slice (some ⟨g, 0, none⟩) (oo.length + 1) oc) (oo ++ [(p1, p2)]) (by simp [Act.eval]) (by exact HMW.out.1.on (((Away.refl [] _).alloc _).drew)) ⟨W.heap.size, 0, none⟩ 1 (by simp [Act.eval]) (x, y) (by simp [World.cell?_alloc_at (hn := rfl)]) (by simp [add_plain, World.cell?_alloc_at (hn := rfl)]) (by first | (simp; done) | (simp; omega)) ?_; intro v' wz hownz hgrz hmovz))
            all_goals
              have HMZ : Hid (Mk w3 wz v' ((oo ++ [(p1, p2)]) ++ [(x, y)])) := ⟨by simpa using hownz, HMW.out.2.1.moved hmovz (by have := HMW.out.2.2.size; simp; omega), ((HMW.out.2.2.alloc _).drew).step hgrz HMW.out.2.1⟩
              clear hownz hgrz hmovz
              go_wp2_with fail
              go_roundw
              case rel => exact ⟨k + 1, _, by go_num, HMZ.out, .inr ⟨y, HY.out, HREL.out⟩⟩
              case measure => simp [intOf]; omega
      · have HSN : Hid (∀ n, x ≤ n → n < y → f n = false) := fun n h1 h2 => by rw [HSM.out n h1 h2, HFX.out]; simpa using hz
        have HREL : Hid (Ls out f y) := HLS.out.skip hxy HSN.out
        clear HFX
        cases z1
        · clear hz
          go_wp2_with fail
          refine wp_region_cls (C := DrewC wr) (by kernel_rfl) (by kernel_rfl) ⟨1, rfl⟩ ?_
          go_big_quiet_want; (refine quiet_val ?_ ?_ ?_; rotate_left; (intro w; go_simp; rfl); go_simp; go_big_quiet_on)
          go_big_quiet_want; refine quiet_ld _ rfl (ad := ⟨g0, 0, none⟩) rfl (fun w' h => ld22 (h.cell k0)) ?_; go_simp; go_big_quiet_on
          go_big_quiet_want; (refine quiet_val ?_ ?_ ?_; rotate_left; (intro w; go_simp; rfl); go_simp; go_big_quiet_on)
          go_big_quiet_want; (refine quiet_val ?_ ?_ ?_; rotate_left; (intro w; go_simp; rfl); go_simp; go_big_quiet_on)
          go_big_quiet_want; refine quiet_ix40 _ _ rfl k rfl rfl (by omega) ?_; go_simp; go_big_quiet_on
          go_big_quiet_want; refine quiet_ld _ rfl (ad := ⟨eb, eo + k, none⟩) rfl (fun w' h => ld3 (h.cell c1)) ?_; go_simp; go_big_quiet_on
          go_big_quiet_want; refine quiet_call 45 #[.slice a na ca, .int .i64 x] (.bool false) ?_ (DrewC.same HC1.out) ?_
          · intro w; go_simp; done
          go_simp; go_big_quiet_on
          go_big_quiet_want; (refine quiet_val ?_ ?_ ?_; rotate_left; (intro w; go_simp; rfl); go_simp; go_big_quiet_on)
          go_big_quiet_want; (refine quiet_val ?_ ?_ ?_; rotate_left; (intro w; go_simp; rfl); go_simp; go_big_quiet_on)
          go_big_quiet_skip
          go_big_quiet_skip
          go_big_quiet_skip
          go_big_quiet_skip
          go_big_quiet_skip
          go_big_quiet_skip
          go_big_quiet_skip
          go_big_quiet_want; (refine quiet_val ?_ ?_ ?_; rotate_left; (intro w; go_simp; rfl); go_simp; go_big_quiet_on)
          refine wpQuiet_nil ?_
          intro V hV
          obtain ⟨qV, rfl⟩ := hV
          go_wp2_with fail
          go_roundw
          case rel => exact ⟨k + 1, out, by go_num, HM.out.on ((Away.refl [] wr).drewN _), .inr ⟨y, HY.out, HREL.out⟩⟩
          case measure => simp [intOf]; omega
        · obtain rfl : z2 = true := by cases z2 <;> simp_all
          clear hz
          go_wp2_with fail
          refine wp_region_cls (C := DrewC wr) (by kernel_rfl) (by kernel_rfl) ⟨1, rfl⟩ ?_
          go_big_quiet_want; (refine quiet_val ?_ ?_ ?_; rotate_left; (intro w; go_simp; rfl); go_simp; go_big_quiet_on)
          go_big_quiet_want; refine quiet_ld _ rfl (ad := ⟨g0, 0, none⟩) rfl (fun w' h => ld22 (h.cell k0)) ?_; go_simp; go_big_quiet_on
          go_big_quiet_want; (refine quiet_val ?_ ?_ ?_; rotate_left; (intro w; go_simp; rfl); go_simp; go_big_quiet_on)
          go_big_quiet_want; (refine quiet_val ?_ ?_ ?_; rotate_left; (intro w; go_simp; rfl); go_simp; go_big_quiet_on)
          go_big_quiet_want; refine quiet_ix40 _ _ rfl k rfl rfl (by omega) ?_; go_simp; go_big_quiet_on
          go_big_quiet_want; refine quiet_ld _ rfl (ad := ⟨eb, eo + k, none⟩) rfl (fun w' h => ld3 (h.cell c1)) ?_; go_simp; go_big_quiet_on
          go_big_quiet_want; refine quiet_call 45 #[.slice a na ca, .int .i64 x] (.bool true) ?_ (DrewC.same HC1.out) ?_
          · intro w; go_simp; done
          go_simp; go_big_quiet_on
          go_big_quiet_want; (refine quiet_val ?_ ?_ ?_; rotate_left; (intro w; go_simp; rfl); go_simp; go_big_quiet_on)
          go_big_quiet_want; (refine quiet_val ?_ ?_ ?_; rotate_left; (intro w; go_simp; rfl); go_simp; go_big_quiet_on)
          go_big_quiet_want; (refine quiet_val ?_ ?_ ?_; rotate_left; (intro w; go_simp; rfl); go_simp; go_big_quiet_on)
          go_big_quiet_want; refine quiet_ld _ rfl (ad := ⟨g0, 1, none⟩) rfl (fun w' h => ld22 (h.cell k1)) ?_; go_simp; go_big_quiet_on
          go_big_quiet_want; (refine quiet_val ?_ ?_ ?_; rotate_left; (intro w; go_simp; rfl); go_simp; go_big_quiet_on)
          go_big_quiet_want; (refine quiet_val ?_ ?_ ?_; rotate_left; (intro w; go_simp; rfl); go_simp; go_big_quiet_on)
          go_big_quiet_want; refine quiet_ix40 _ _ rfl k rfl rfl (by omega) ?_; go_simp; go_big_quiet_on
          go_big_quiet_want; refine quiet_ld _ rfl (ad := ⟨eb, eo + k, none⟩) rfl (fun w' h => ld3 (h.cell c1)) ?_; go_simp; go_big_quiet_on
          go_big_quiet_want; refine quiet_call 45 #[.slice b nb cb, .int .i64 x] (.bool true) ?_ (DrewC.same HC2.out) ?_
          · intro w; go_simp; done
          go_simp; go_big_quiet_on
          go_big_quiet_want; (refine quiet_val ?_ ?_ ?_; rotate_left; (intro w; go_simp; rfl); go_simp; go_big_quiet_on)
          refine wpQuiet_nil ?_
          intro V hV
          obtain ⟨qV, rfl⟩ := hV
          go_wp2_with fail
          go_roundw
          case rel => exact ⟨k + 1, out, by go_num, HM.out.on ((Away.refl [] wr).drewN _), .inr ⟨y, HY.out, HREL.out⟩⟩
          case measure => simp [intOf]; omega
    · have HOF : Hid (Of out f) := by
        rcases hst with ⟨h, _, rfl⟩ | ⟨x, hx, h⟩
        · exact HE.out.nil h
        · exact HE.out.fin k x out hx (by omega) h
      have hkb : k ≤ 65536 := by
        rcases hst with ⟨_, h, _⟩ | ⟨x, hx, _⟩
        · omega
        · have := getI_lt hx; omega
      clear hst
      have q1 : decide ((k : Int) + 1 < (e.length : Int)) = false := decide_eq_false (by omega)
      have q2 : decide (k + 1 < e.length) = false := decide_eq_false (by omega)
      go_wp2_with fail
      go_ret
      exact ⟨_, out, rfl, ⟨HM.out.1, HM.out.2.1.mono HW3.out.size, HW3.out.trans HM.out.2.2⟩, HOF.out⟩
#print axioms rlist_c
end Go.Proofs.Ytckiiidigajhpaa
