/-
  RecutBack.
-/
import Derived.Test.YtaicckenpplceaaDoorKit
import Derived.Test.YtaicckenpplceaaDoorDe
namespace Go.Proofs.YtaicckenpplceaaDoor
open Go.ChangeShapes Go.WideShapes Go.ChangeAt Go.RowKit Go.Deep Num
set_option linter.unusedVariables false
set_option maxHeartbeats 8000000
set_option maxRecDepth 100000

namespace recutBack
open R
theorem open_nums {H : Type} {enc : TypeId × Value → H} {w : World} {a : Option Addr} {len cap : Nat} {d : DataW H} {p : List MemPlace}
    (h : DataW.Trod enc Tryd.prog w 0 (fun _ => true) true 29 (.slice a len cap) d p) (hw : ∀ n ∈ d.weights Tryd.prog 29, n ≤ reachBytes) : Ints w a len ∧ len ≤ 140737488355328 := by
  obtain ⟨fuel, hf⟩ := h
  have k4 : Tryd.prog.cellsOf 3 = 1 := by kernel_rfl
  rcases open_ints Tryd.underlying29 Tryd.underlying3 k4 (by simpa [Value.cells] using hf) with ⟨hcs, hx⟩ | ⟨x, l, c', zs, hcs, _, hll, hm, hz, hx, hcz, hwz⟩
  · have hcs := (List.cons.inj hcs).1
    simp only [Value.slice.injEq] at hcs
    obtain ⟨rfl, rfl, rfl⟩ := hcs
    exact ⟨fun i hi => by omega, by omega⟩
  · have hcs := (List.cons.inj hcs).1
    have hD : d = _ := congrArg Prod.fst hx
    subst hD
    simp only [Value.slice.injEq] at hcs
    obtain ⟨rfl, rfl, rfl⟩ := hcs
    rw [if_pos rfl] at hz
    have hreach : 8 * ((zs.take len).length + (zs.drop len).length) ≤ 140737488351232 := by
      have := hw (((zs.take len).length + (zs.drop len).length) * 8) (by
        simp only [DataW.weights, Tryd.underlying29]
        simp [lits, show Tryd.prog.bytesOf 3 = 8 from by kernel_rfl])
      simp only [reachBytes] at this
      omega
    simp only [List.length_take, List.length_drop] at hreach
    refine ⟨fun i hi => ?_, by omega⟩
    obtain ⟨b, off, spot⟩ := x
    have hspot : spot = none := by simpa [Addr.add] using World.cell?_spot (hcz 0 (by omega))
    subst hspot
    have h1 := hcz i (by omega)
    rw [add_plain] at h1
    refine ⟨b, off, zs.getD i 0, rfl, h1, bounds_i64 (hwz _ ?_)⟩
    rw [List.getD_eq_getElem?_getD, List.getElem?_eq_getElem (by omega)]
    exact List.getElem_mem _
theorem wrapI (n : Int) : i64ok (IntKind.i64.wrap n) := by rw [IntKind.wrap_i64]; unfold i64ok; omega
/-- Two lists of packets of their own, one behind the other. -/
theorem cuts_app {w w' : World} {B C : Nat} {v v' u : Value} {xs ys : List X} (h : Cuts w B v xs) (k : Cuts w C u ys) (hBC : B ≤ C) (hold : ∀ x ∈ xs, ∀ q, x.o.ownBlock = some q ∨ x.d.ownBlock = some q → q < C) (hv : ∀ q, v.ownBlock = some q → q < C) (hl : LstP w' v' (xs ++ ys)) (hgr : w.grownBy w' v.ownBlock) (hmv : Moved w v v') (hB : B ≤ w.heap.size) : Cuts w' B v' (xs ++ ys) := by
  have hA : ∀ S : List Nat, (∀ k, v.ownBlock = some k → k ∈ S) → Away S w w' := fun S hS => (Away.refl S w).grown hgr (fun k hk => .inl (hS k hk))
  have keep : ∀ y : X, (∀ k, y.o.ownBlock = some k ∨ y.d.ownBlock = some k → v.ownBlock ≠ some k) → Mine w B y.p y.o y.d → Mine w' B y.p y.o y.d := fun y hy hm => by
    cases hb : v.ownBlock with
    | none => exact hm.on (hA [] (fun k hk => by rw [hb] at hk; simp at hk))
    | some g => exact hm.away (hA [g] (fun k hk => by rw [hb] at hk; simp at hk; simp [hk])) (fun k hk e => by simp at e; subst e; exact hy k hk hb)
  have hky : ∀ y ∈ ys, ∀ q, y.o.ownBlock = some q ∨ y.d.ownBlock = some q → C ≤ q ∧ q < w.heap.size := fun y hy q hq => ⟨((k.each y hy).2.lto q hq).2, ((k.each y hy).2.lto q hq).1⟩
  have hvy : ∀ y ∈ ys, ∀ q, y.o.ownBlock = some q ∨ y.d.ownBlock = some q → v.ownBlock ≠ some q := fun y hy q hq e => by have := (hky y hy q hq).1; have := hv q e; omega
  refine ⟨hl, h.new.moved hmv hB, fun y hy => ?_, fun y hy q hq e => ?_, List.pairwise_append.2 ⟨h.apart, k.apart, fun y hy z hz q hq => ?_⟩⟩
  · rcases List.mem_append.1 hy with hy | hy
    · exact ⟨(h.each y hy).1, keep y (h.far y hy) (h.each y hy).2⟩
    · exact ⟨(k.each y hy).1, keep y (hvy y hy) ((k.each y hy).2.mono hBC)⟩
  · rcases hmv q e with e | e
    · rcases List.mem_append.1 hy with hy | hy
      · exact h.far y hy q hq e
      · exact hvy y hy q hq e
    · have : q < w.heap.size := by
        rcases List.mem_append.1 hy with hy | hy
        · exact ((h.each y hy).2.lto q hq).1
        · exact (hky y hy q hq).2
      omega
  · have h1 := hold y hy q hq
    exact ⟨fun e => by have := (hky z hz q (.inl e)).1; omega, fun e => by have := (hky z hz q (.inr e)).1; omega⟩
theorem slice_l32 (a A : Option Addr) (len cap : Nat) (hA : A = if cap = 1 then a else a.map (·.add 46)) (hm : 1 ≤ len) (wx : World) :
    (Instr.sliceAt 32 (.slice a len cap) (some (.int .i64 1)) none none).run Tryd.prog wx = .ok (.slice A (len - 1) (cap - 1)) wx := by
  subst hA
  rw [run_sliceAt_slice (h := under32), run_slice_l (ht := under32) (h0 := by omega) (h1 := by omega), size28e]
  simp only [Result.andThen, sliced]
  rw [show (1 : Int).toNat = 1 from rfl, Nat.one_mul]
theorem pks_tail {w : World} {b cap : Nat} {d : X} {ds : List X} (h : Pks w (some ⟨b, 0, none⟩) (d :: ds)) (hc : (d :: ds).length ≤ cap) : Pks w (if cap = 1 then some ⟨b, 0, none⟩ else (some (⟨b, 0, none⟩ : Addr)).map (·.add 46)) ds := by
  refine ⟨by have := h.1; simp only [List.length_cons] at this; omega, fun x hx => h.2.1 x (by simp [hx]), ?_⟩
  by_cases h1 : cap = 1
  · left
    simp only [List.length_cons] at hc
    exact List.eq_nil_of_length_eq_zero (by omega)
  · right
    refine ⟨b, 46, by rw [if_neg h1]; simp [add_plain], fun i x hx => ?_⟩
    obtain ⟨b', o', e, hr, -⟩ := h.at (i := i + 1) (x := x) (by simpa using hx)
    simp only [Option.some.injEq, Addr.mk.injEq, and_true] at e
    obtain ⟨rfl, rfl⟩ := e
    have e2 : 0 + (i + 1) * 46 = 46 + i * 46 := by omega
    rw [e2] at hr
    exact hr
theorem cuts_grown_ok {w w' : World} {B : Nat} {v : Value} {xs : List X} (h : Cuts w B v xs) (hgr : w.grownBy w' v.ownBlock) : ∀ x ∈ xs, x.ok w' := fun x hx => by
  have hm := (h.each x hx).2.away ((Away.refl v.ownBlock.toList w).grown hgr (fun k hk => .inl (by simp [hk]))) (fun k hk e => by simp at e; exact h.far x hx k hk e)
  exact hm.pkt (h.each x hx).1
theorem mtu_of (n : Int) : mtuP (68 + n % (1500 + 1)) 4 = true := by rw [mtu_iff]; simp; omega
theorem ref_len {x : Pk} {l : List Pk} (h : Ref x l) : l.length ≤ x.d.length + 1 := by
  have key : ∀ (l : List Pk) (b : Bool), moresB b l → (∀ q ∈ l, rgtP q = true) → l.length ≤ (datas l).length + 1 := by
    intro l
    induction l with
    | nil => intro b h; exact h.elim
    | cons q r ih =>
      intro b hm hr
      cases r with
      | nil => simp
      | cons a c =>
        have h1 := ih b hm.2 (fun z hz => hr z (by simp [hz]))
        have h2 := more_pos (hr q (by simp)) hm.1
        have e : datas (q :: a :: c) = q.d ++ datas (a :: c) := rfl
        rw [e, List.length_append]
        simp only [List.length_cons] at h1 ⊢
        omega
  rw [← h.da]
  exact key l _ h.mo (fun q hq => (h.kin q hq).r)
theorem walk (p : Pk) (ov dv : Value) (mtu again : Int) (oa : Option Addr) (on oc : Nat) (w : World) (hg : Glob w) (hp : Pkt w p ov dv) (hpl1 : p.o.length ≤ 140737488351232) (hpl2 : p.d.length ≤ 140737488351232) (hmo0 : (Lit.int .i64 mtu).wf = true) (hag : (Lit.int .i64 again).wf = true) (ho : Ints w oa on) (hol : on ≤ 140737488355328) :
    Calls Tryd.prog 6 #[.agg (csP p ov dv), .int .i64 mtu, .int .i64 again, .slice oa on oc] w fun E w' => E = .returned (.bool true) ∧ Below w.heap.size w w' := by
  have HAD := Lib.hid hp.wf.ad
  have HP := Lib.hid hp; have HG := Lib.hid hg; have HO := Lib.hid ho; have HMO : Hid (i64ok mtu) := wf64 hmo0
  clear hp hg ho hmo0 hag hpl1 hpl2
  go_enter Tryd.func6, Tryd.ntmps6
  go_wp2_with (refine wpList_box28 rfl _ rfl p _ _ rfl ?_; refine Hid.out ?_)
  refine Lib.hid ?_
  intro g4 w1 hg4 hb haw
  have HB3 := Lib.hid hb; have HA := Lib.hid haw
  replace HP := Lib.hid (HP.out.on haw)
  replace HG := Lib.hid (HG.out.on haw)
  replace HO := Lib.hid (HO.out.on haw)
  clear hb haw hg4
  go_wp2_with (refine wpList_load28 rfl _ rfl g4 rfl p _ _ (by exact HB3.out) HAD.out ?_)
  refine (R.right_c p ov dv _ HP.out HG.out).mono ?_
  rintro E w2 ⟨q, qo, qd, rfl, hu, hwf, hqv, hqf, hmine, haw⟩
  have HU := Lib.hid hu; have HQW := Lib.hid hwf; have HQA := Lib.hid hwf.ad
  have HQ := Lib.hid (hmine.pkt hwf)
  have HO1 := Lib.hid hmine.o.one; have HD1 := Lib.hid hmine.d.one
  have HQV := Lib.hid hqv; have HQF := Lib.hid hqf
  replace HA := Lib.hid (HA.out.on haw)
  replace HG := Lib.hid (HG.out.on haw)
  replace HO := Lib.hid (HO.out.on haw)
  clear haw hu hwf hmine hqv hqf HP HB3 HAD
  go_wp2_with (refine wpList_new28 rfl rfl rfl _ _ rfl q qo qd (fun g => rfl) (fun g => rfl) HQA.out HO1.out HD1.out ?_; refine Hid.out ?_)
  refine Lib.hid ?_
  intro g9 w3 hg9 hb haw
  have HB := Lib.hid hb
  replace HA := Lib.hid (HA.out.on haw)
  replace HG := Lib.hid (HG.out.on haw)
  replace HO := Lib.hid (HO.out.on haw)
  replace HQ := Lib.hid (HQ.out.on haw)
  clear hb haw hg9
  have HMT := Lib.hid (mtu_of mtu)
  obtain ⟨r0, hr0⟩ : ∃ r, r = mtu % (1500 + 1) := ⟨_, rfl⟩
  have hr1 : 0 ≤ r0 ∧ r0 ≤ 1500 := by omega
  rw [← hr0] at HMT
  have KR : Hid (∀ w', Calls Tryd.prog 9 #[.int .i64 mtu, .int .i64 1500] w' fun E w'' => E = .returned (.int .i64 r0) ∧ w'' = w') := fun w' => by rw [hr0]; exact rest_c _ _ w' HMO.out (by omega) (by omega)
  clear hr0
  go_wp2_with fail
  refine (KR.out _).mono ?_
  rintro E _ ⟨rfl, rfl⟩
  clear KR
  obtain ⟨l0, hl0, href⟩ := recut_ref (m := 68 + r0) HQW.out HU.out.r HQV.out HQF.out HMT.out
  have HREF := Lib.hid href
  have HL0 := Lib.hid hl0
  clear href hl0
  go_wp2_with (refine wpList_load28 rfl _ rfl g9 rfl q _ _ (by exact HB.out) HQA.out ?_)
  refine (recut_c q qo qd (68 + r0) _ HQ.out HG.out).mono ?_
  unfold RecOut
  rw [HL0.out]
  rintro E w4 ⟨v, xs, rfl, hcu, hxm, haw⟩
  have HXM : Hid (xs.map X.p = l0) := hxm
  have hxl : xs.length ≤ 65536 := by
    rw [← List.length_map (f := X.p), HXM.out]
    have h1 := ref_len HREF.out; have h2 := HU.out.all.1; omega
  obtain ⟨xa, xc, hxv, hx4, hx5, hxp, -⟩ := hcu.pks (by omega)
  subst hxv
  have HXP := Lib.hid hxp
  replace HA := Lib.hid (HA.out.on haw)
  replace HG := Lib.hid (HG.out.on haw)
  replace HO := Lib.hid (HO.out.on haw)
  replace HQ := Lib.hid (HQ.out.on haw)
  replace HB := Lib.hid (HB.out.on haw)
  clear haw hcu hxm hxp
  obtain ⟨n, hn⟩ : ∃ n, n = xs.length := ⟨_, rfl⟩
  rw [← hn] at hxl hx4 ⊢
  have HN := Lib.hid hn
  clear hn
  go_wp2_with fail
  refine (known_c _ HG.out).mono ?_
  rintro E w5 ⟨rfl, haw⟩
  replace HA := Lib.hid (HA.out.on haw)
  replace HG := Lib.hid (HG.out.on haw)
  replace HO := Lib.hid (HO.out.on haw)
  replace HQ := Lib.hid (HQ.out.on haw)
  replace HB := Lib.hid (HB.out.on haw)
  replace HXP := Lib.hid (HXP.out.on haw)
  clear haw
  have HRT : Hid (rightP q = true) := by
    have := HU.out.r
    unfold rgtP at this
    rw [if_neg (by rw [HQV.out]; decide)] at this
    exact this
  go_wp2_with (refine wpList_load28 rfl _ rfl g9 rfl q _ _ (by exact HB.out) HQA.out ?_)
  refine (Go.Proofs.YtaicckenpplceaaDoor.right_c q qo qd _ HQ.out HG.out).mono ?_
  rw [HRT.out]
  rintro E w6 ⟨rfl, haw⟩
  replace HA := Lib.hid (HA.out.on haw)
  replace HG := Lib.hid (HG.out.on haw)
  replace HO := Lib.hid (HO.out.on haw)
  replace HQ := Lib.hid (HQ.out.on haw)
  replace HB := Lib.hid (HB.out.on haw)
  replace HXP := Lib.hid (HXP.out.on haw)
  clear haw
  go_wp2_with fail
  go_loopw [12, 13] (fun v i wr => ∃ (k : Nat) (cs : List X) (rs : List (Pk × List Pk)), i = .int .i64 (k : Int) ∧ k ≤ n ∧ Cuts wr w6.heap.size v cs ∧ rs.map Prod.fst = (xs.take k).map X.p ∧ (∀ y ∈ rs, Ref y.1 y.2) ∧ cs.map X.p = rs.flatMap Prod.snd ∧ cs.length ≤ k * 65536 ∧ Away [] w6 wr) (fun _ i _ => n - (intOf i).toNat)
  case atStart => exact ⟨0, [], [], rfl, by omega, Cuts.nil _ _, by simp, by simp, by simp, by simp, Away.refl _ _⟩
  case round =>
    obtain ⟨k, cs, rs, rfl, hk, hcu, hrf, hrr, hcm, hcl, haw⟩ := hrel
    have HCU := Lib.hid hcu; have HRF := Lib.hid hrf; have HRR := Lib.hid hrr; have HCM := Lib.hid hcm; have HAW := Lib.hid haw
    clear hcu hrf hrr hcm haw
    by_cases hlt : k < n
    · obtain ⟨x, hxk, hxm⟩ := get_of (show k < xs.length by have := HN.out; omega)
      obtain ⟨xb, xo, hxa, hrx, hokx⟩ := (HXP.out.on HAW.out).at hxk
      subst hxa
      have HRX : Hid (wr.rangeAt xb (xo + k * 46) (listP x.p x.o x.d)) := hrx
      have HOK : Hid (Pkt wr x.p x.o x.d) := hokx
      have HAX := Lib.hid hokx.wf.ad
      have HKX := Lib.hid (HREF.out.kin x.p (by rw [← HXM.out]; exact List.mem_map.2 ⟨x, hxm, rfl⟩))
      have HXK := Lib.hid hxk
      have HGr := Lib.hid (HG.out.on HAW.out)
      clear hxk hxm hrx hokx
      have HKV := Lib.hid (HKX.out.v.trans HQV.out)
      have HKF := Lib.hid (HKX.out.df.trans HQF.out)
      obtain ⟨A, eA⟩ : ∃ A, IntKind.i64.wrap (again + (k : Int)) = A := ⟨_, rfl⟩
      have HAO : Hid (i64ok A) := by rw [← eA]; exact wrapI _
      obtain ⟨r1, hr1'⟩ : ∃ r, r = A % (1500 + 1) := ⟨_, rfl⟩
      have hr2 : 0 ≤ r1 ∧ r1 ≤ 1500 := by omega
      have HM1 : Hid (mtuP (68 + r1) 4 = true) := by show _ = _; rw [hr1']; exact mtu_of A
      have KR2 : Hid (∀ w', Calls Tryd.prog 9 #[.int .i64 A, .int .i64 1500] w' fun E w'' => E = .returned (.int .i64 r1) ∧ w'' = w') := fun w' => by rw [hr1']; exact rest_c _ _ w' HAO.out (by omega) (by omega)
      clear hr1'
      have e8 : IntKind.i64.wrap (68 + r1) = 68 + r1 := by rw [IntKind.wrap_i64]; omega
      obtain ⟨l1, hl1, hrf1⟩ := recut_ref (m := 68 + r1) HKX.out.wf HKX.out.r HKV.out HKF.out HM1.out
      have HL1 := Lib.hid hl1; have HRF1 := Lib.hid hrf1
      clear hl1 hrf1
      have i2 : 0 ≤ (k : Int) := by omega
      have i3 : (k : Int) < (n : Int) := by omega
      have i4 : ((k : Int)).toNat = k := by omega
      go_wp2_with fail
      refine wp_region_held_drew (S := (fun w' => Away [] wr w')) (by kernel_rfl) ((Away.refl [] wr).drew) (fun hHeld => ?_)
      refine wpAnyH_take (i := 0) (v := ?_) (by simp only [List.getElem?_toArray, List.getElem?_cons_zero]; rfl) (by kernel_rfl) (by kernel_rfl) (by kernel_rfl) (by exact fun _ _ _ h => h) (Or.inl ⟨by rfl, ?_⟩) (by assumption) ?_
      rotate_left
      · intro wq hSw
        (try dsimp only at hSw)
        go_simp
        all_goals (with_reducible rfl)
      try simp only [Act.put, List.setIfInBounds_toArray, List.set_cons_zero, List.set_cons_succ]
      refine wpAnyH_take (i := 1) (v := ?_) (by simp only [List.getElem?_toArray, List.getElem?_cons_succ, List.getElem?_cons_zero]; rfl) (by kernel_rfl) (by kernel_rfl) (by kernel_rfl) (by exact fun _ _ _ h => h) (Or.inl ⟨by rfl, ?_⟩) (by assumption) ?_
      rotate_left
      · intro wq hSw
        (try dsimp only at hSw)
        go_simp
        all_goals (with_reducible rfl)
      try simp only [Act.put, List.setIfInBounds_toArray, List.set_cons_zero, List.set_cons_succ]
      refine wpAnyH_take (i := 2) (v := ?_) (by simp only [List.getElem?_toArray, List.getElem?_cons_succ, List.getElem?_cons_zero]; rfl) (by kernel_rfl) (by kernel_rfl) (by kernel_rfl) (by exact fun _ _ _ h => h) (Or.inl ⟨by rfl, ?_⟩) (by assumption) ?_
      rotate_left
      · intro wq hSw
        (try dsimp only at hSw)
        go_simp
        all_goals (with_reducible rfl)
      try simp only [Act.put, List.setIfInBounds_toArray, List.set_cons_zero, List.set_cons_succ]
      refine wpAnyH_take (i := 3) (by simp only [List.getElem?_toArray, List.getElem?_cons_succ, List.getElem?_cons_zero]; rfl) (by kernel_rfl) (by kernel_rfl) (by kernel_rfl) (by exact fun _ _ _ h => h) (yields_ld (ad := ⟨xb, xo + k * 46, none⟩) (by rfl) _ rfl rfl (fun w' h => load28m_run (by exact range_away h (by simp) HRX.out) HAX.out)) (by assumption) ?_
      try simp only [Act.put, List.setIfInBounds_toArray, List.set_cons_zero, List.set_cons_succ]
      refine wpAnyH_take (i := 4) (v := ?_) (by simp only [List.getElem?_toArray, List.getElem?_cons_succ, List.getElem?_cons_zero]; rfl) (by kernel_rfl) (by kernel_rfl) (by kernel_rfl) (by exact fun _ _ _ h => h) (Or.inl ⟨by rfl, ?_⟩) (by assumption) ?_
      rotate_left
      · intro wq hSw
        (try dsimp only at hSw)
        go_simp
        all_goals (with_reducible rfl)
      try simp only [Act.put, List.setIfInBounds_toArray, List.set_cons_zero, List.set_cons_succ]
      refine wpAnyH_take (i := 5) (v := ?_) (by simp only [List.getElem?_toArray, List.getElem?_cons_succ, List.getElem?_cons_zero]; rfl) (by kernel_rfl) (by kernel_rfl) (by kernel_rfl) (by exact fun _ _ _ h => h) (Or.inl ⟨by rfl, ?_⟩) (by assumption) ?_
      rotate_left
      · intro wq hSw
        (try dsimp only at hSw)
        go_simp
        all_goals (with_reducible rfl)
      try simp only [Act.put, List.setIfInBounds_toArray, List.set_cons_zero, List.set_cons_succ]
      refine wpAnyH_take (i := 6) (v := ?_) (by simp only [List.getElem?_toArray, List.getElem?_cons_succ, List.getElem?_cons_zero]; rfl) (by kernel_rfl) (by kernel_rfl) (by kernel_rfl) (by exact fun _ _ _ h => h) (Or.inl ⟨by rfl, ?_⟩) (by assumption) ?_
      rotate_left
      · intro wq hSw
        (try dsimp only at hSw)
        go_simp
        all_goals (with_reducible rfl)
      try simp only [Act.put, List.setIfInBounds_toArray, List.set_cons_zero, List.set_cons_succ]
      refine wpAnyH_ready (rs := [7]) (by kernel_rfl) (by simp) ?_
      refine AllReadyH.cons (by simp only [List.getElem?_toArray, List.getElem?_cons_succ, List.getElem?_cons_zero]; rfl) (fun K hK => ?_) AllReadyH.nil
      go_simp
      refine (KR2.out _).mono ?_
      rintro E y1 ⟨rfl, rfl⟩
      go_wp2_with fail
      refine hK.out _ _ hHeld (fun hHeld => ?_)
      clear hK K
      try simp only [Act.put, List.setIfInBounds_toArray, List.set_cons_zero, List.set_cons_succ]
      refine wpAnyH_take (i := 8) (v := ?_) (by simp only [List.getElem?_toArray, List.getElem?_cons_succ, List.getElem?_cons_zero]; rfl) (by kernel_rfl) (by kernel_rfl) (by kernel_rfl) (by exact fun _ _ _ h => h) (Or.inl ⟨by rfl, ?_⟩) (by assumption) ?_
      rotate_left
      · intro wq hSw
        (try dsimp only at hSw)
        go_simp
        all_goals (with_reducible rfl)
      try simp only [Act.put, List.setIfInBounds_toArray, List.set_cons_zero, List.set_cons_succ]
      refine wpAnyH_ready (rs := [9]) (by kernel_rfl) (by simp) ?_
      refine AllReadyH.cons (by simp only [List.getElem?_toArray, List.getElem?_cons_succ, List.getElem?_cons_zero]; rfl) (fun K hK => ?_) AllReadyH.nil
      go_simp
      refine (recut_c x.p x.o x.d (68 + r1) _ (by exact HOK.out.on hHeld) (by exact HGr.out.on hHeld)).mono ?_
      unfold RecOut
      rw [HL1.out]
      rintro E y2 ⟨mv, ms, rfl, hcu2, hxm2, haw⟩
      have hS := Away.on hHeld haw
      have hzC : wr.heap.size ≤ wr.heap.size := Nat.le_refl _
      replace hcu2 : Cuts y2 wr.heap.size mv ms := hcu2
      clear haw
      go_wp2_with fail
      refine hK.out _ _ hS (fun hHeld => ?_)
      clear hK K
      try simp only [Act.put, List.setIfInBounds_toArray, List.set_cons_zero, List.set_cons_succ]
      refine wpAnyH_take (i := 10) (v := ?_) (by simp only [List.getElem?_toArray, List.getElem?_cons_succ, List.getElem?_cons_zero]; rfl) (by kernel_rfl) (by kernel_rfl) (by kernel_rfl) (by exact fun _ _ _ h => h) (Or.inl ⟨by rfl, ?_⟩) (by assumption) ?_
      rotate_left
      · intro wq hSw
        (try dsimp only at hSw)
        go_simp
        all_goals (with_reducible rfl)
      try simp only [Act.put, List.setIfInBounds_toArray, List.set_cons_zero, List.set_cons_succ]
      refine wpAnyH_take (i := 11) (v := ?_) (by simp only [List.getElem?_toArray, List.getElem?_cons_succ, List.getElem?_cons_zero]; rfl) (by kernel_rfl) (by kernel_rfl) (by kernel_rfl) (by exact fun _ _ _ h => h) (Or.inl ⟨by rfl, ?_⟩) (by assumption) ?_
      rotate_left
      · intro wq hSw
        (try dsimp only at hSw)
        go_simp
        all_goals (with_reducible rfl)
      try simp only [Act.put, List.setIfInBounds_toArray, List.set_cons_zero, List.set_cons_succ]
      refine wpAnyH_take (i := 12) (v := ?_) (by simp only [List.getElem?_toArray, List.getElem?_cons_succ, List.getElem?_cons_zero]; rfl) (by kernel_rfl) (by kernel_rfl) (by kernel_rfl) (by exact fun _ _ _ h => h) (Or.inl ⟨by rfl, ?_⟩) (by assumption) ?_
      rotate_left
      · intro wq hSw
        (try dsimp only at hSw)
        go_simp
        all_goals (with_reducible rfl)
      try simp only [Act.put, List.setIfInBounds_toArray, List.set_cons_zero, List.set_cons_succ]
      refine wpAnyH_take (i := 13) (v := ?_) (by simp only [List.getElem?_toArray, List.getElem?_cons_succ, List.getElem?_cons_zero]; rfl) (by kernel_rfl) (by kernel_rfl) (by kernel_rfl) (by exact fun _ _ _ h => h) (Or.inl ⟨by rfl, ?_⟩) (by assumption) ?_
      rotate_left
      · intro wq hSw
        (try dsimp only at hSw)
        go_simp
        all_goals (with_reducible rfl)
      try simp only [Act.put, List.setIfInBounds_toArray, List.set_cons_zero, List.set_cons_succ]
      refine wpAnyH_take (i := 14) (v := ?_) (by simp only [List.getElem?_toArray, List.getElem?_cons_succ, List.getElem?_cons_zero]; rfl) (by kernel_rfl) (by kernel_rfl) (by kernel_rfl) (by exact fun _ _ _ h => h) (Or.inl ⟨by rfl, ?_⟩) (by assumption) ?_
      rotate_left
      · intro wq hSw
        (try dsimp only at hSw)
        go_simp
        all_goals (with_reducible rfl)
      try simp only [Act.put]
      refine wpAnyH_done (by kernel_rfl) ?_ _
      have HMS := Lib.hid hcu2; have HMM : Hid (ms.map X.p = l1) := hxm2
      have HCU2 := Lib.hid (HCU.out.on hHeld)
      have HAW2 := Lib.hid (HAW.out.on hHeld)
      have hml : ms.length ≤ 65536 := by
        rw [← List.length_map (f := X.p), HMM.out]
        have h1 := ref_len HRF1.out; have h2 := rgt_off HKX.out.r; omega
      have hm0 : 0 < ms.length := by
        rw [← List.length_map (f := X.p), HMM.out]; exact List.length_pos_iff.2 HRF1.out.ne
      obtain ⟨ma, mc, hmv', hm4, -, hmp, -⟩ := hcu2.pks (by omega)
      obtain ⟨mb, hmb⟩ : ∃ mb, ma = some ⟨mb, 0, none⟩ := by
        rcases hcu2.lst.2 with ⟨h1, h2⟩ | ⟨g, c, cur, h1, -⟩
        · omega
        · rw [hmv'] at h1; simp only [Value.slice.injEq] at h1; exact ⟨g, h1.1⟩
      subst hmb; subst hmv'
      have HMP := Lib.hid hmp
      have HOLD : Hid (∀ c ∈ cs, ∀ b, c.o.ownBlock = some b ∨ c.d.ownBlock = some b → b < wr.heap.size) := fun c hc b hb => by have := ((HCU.out.each c hc).2.lto b hb).1; omega
      have HVL : Hid (∀ b, u12.ownBlock = some b → b < wr.heap.size) := fun b hb => by have := HCU.out.lst.lt b hb; omega
      have hB6 : w6.heap.size ≤ wr.heap.size := by have := HAW.out.size; omega
      have hB7 : w6.heap.size ≤ y2.heap.size := HAW2.out.size
      obtain ⟨nm, hnm⟩ : ∃ nm, nm = ms.length := ⟨_, rfl⟩
      rw [← hnm] at hml hm0 hm4 ⊢
      have HNM := Lib.hid hnm
      clear hcu2 hxm2 hmp hHeld hzC hnm HCU HAW
      go_wp2_with (at_builtin; refine wpList_appQ rfl _ _ rfl _ cs ms rfl (by exact HCU2.out.lst) ⟨mb, 0, none⟩ nm mc rfl HNM.out.symm (by exact HMP.out) (by omega) ?_; refine Hid.out ?_)
      refine Lib.hid ?_
      intro v' y3 hl3 hgr hmv
      have HCU3 : Hid (Cuts y3 w6.heap.size v' (cs ++ ms)) := cuts_app HCU2.out HMS.out hB6 HOLD.out HVL.out hl3 hgr hmv hB7
      have HAW3 : Hid (Away [] w6 y3) := HAW2.out.grown hgr (fun b hb => .inr (HCU2.out.new b hb))
      clear hl3 hgr hmv
      have HR3 : Hid ((rs ++ [(x.p, l1)]).map Prod.fst = (xs.take (k + 1)).map X.p) := by
        show _ = _
        have h1 := lt_of_get HXK.out
        have h2 : xs[k] = x := by have := HXK.out; rw [List.getElem?_eq_getElem h1] at this; simpa using this
        rw [List.take_succ_eq_append_getElem h1, h2, List.map_append, List.map_append, HRF.out]; rfl
      have HRR3 : Hid (∀ y ∈ rs ++ [(x.p, l1)], Ref y.1 y.2) := fun y hy => by
        rcases List.mem_append.1 hy with hy | hy
        · exact HRR.out y hy
        · simp at hy; subst hy; exact HRF1.out
      have HCM3 : Hid ((cs ++ ms).map X.p = (rs ++ [(x.p, l1)]).flatMap Prod.snd) := by
        show _ = _
        rw [List.map_append, HCM.out, HMM.out, List.flatMap_append]; simp
      have HCL3 : Hid ((cs ++ ms).length ≤ (k + 1) * 65536) := by
        show _ ≤ _
        rw [List.length_append]; have := HNM.out; omega
      go_wp2_with fail
      go_roundw
      case rel => exact ⟨k + 1, cs ++ ms, rs ++ [(x.p, l1)], by go_num, by omega, HCU3.out, HR3.out, HRR3.out, HCM3.out, HCL3.out, HAW3.out⟩
      case measure => simp [intOf]; omega
    · obtain rfl : k = n := by omega
      have HRA : Hid (Ref q (cs.map X.p)) := by
        show Ref _ _
        rw [HCM.out]
        exact HREF.out.trans rs (by rw [HRF.out, List.take_of_length_le (by have := HN.out; omega)]; exact HXM.out) HRR.out
      obtain ⟨ca, cc, hcv, hc4, -, hcp, -⟩ := HCU.out.pks (by omega)
      have hc0 : 0 < cs.length := by rw [← List.length_map (f := X.p)]; exact List.length_pos_iff.2 HRA.out.ne
      obtain ⟨cb, hcb⟩ : ∃ cb, ca = some ⟨cb, 0, none⟩ := by
        rcases HCU.out.lst.2 with ⟨h1, h2⟩ | ⟨g, c, cur, h1, -⟩
        · omega
        · rw [hcv] at h1; simp only [Value.slice.injEq] at h1; exact ⟨g, h1.1⟩
      subst hcb; subst hcv
      have HCP := Lib.hid hcp
      have HOKC := Lib.hid HCU.out.ok
      obtain ⟨na, hna⟩ : ∃ na, na = cs.length := ⟨_, rfl⟩
      rw [← hna] at hc0 hc4 hcl ⊢
      have HNA := Lib.hid hna
      clear hna hcp HCU
      have HA0 := Lib.hid (HA.out.on HAW.out)
      by_cases h4 : 400 < na
      · have d4 : decide ((400 : Int) < (na : Int)) = true := by simp; omega
        go_wp2_with fail
        go_ret
        exact ⟨rfl, HA0.out.to_below⟩
      · have d4 : decide ((400 : Int) < (na : Int)) = false := by simp; omega
        have haw := HAW.out
        replace HA := HA0
        replace HG := Lib.hid (HG.out.on haw)
        replace HO := Lib.hid (HO.out.on haw)
        replace HQ := Lib.hid (HQ.out.on haw)
        replace HB := Lib.hid (HB.out.on haw)
        clear haw HA0 HAW
        go_wp2_with fail
        refine (dealt_c ⟨cb, 0, none⟩ cs na cc oa on oc _ HNA.out.symm (by omega) HCP.out HO.out hol).mono ?_
        rintro E v1 ⟨dv', ds, rfl, hdl, hdp, -, haw⟩
        have hdn : ds.length = na := by rw [hdp.length_eq]; exact HNA.out.symm
        have HDK : Hid (∀ d ∈ ds, d.ok v1) := fun d hd => (HOKC.out d (hdp.mem_iff.1 hd)).on haw
        obtain ⟨da, dc, hdv, hd4, -, hdpk, -⟩ := hdl.pks (by omega) HDK.out
        obtain ⟨db, hdb⟩ : ∃ db, da = some ⟨db, 0, none⟩ := by
          rcases hdl.2 with ⟨h1, h2⟩ | ⟨g, c, cur, h1, -⟩
          · omega
          · rw [hdv] at h1; simp only [Value.slice.injEq] at h1; exact ⟨g, h1.1⟩
        subst hdb; subst hdv
        have HDPM : Hid ((ds.map X.p).Perm (cs.map X.p)) := hdp.map _
        have HDP := Lib.hid hdpk
        replace HA := Lib.hid (HA.out.on haw)
        replace HG := Lib.hid (HG.out.on haw)
        replace HQ := Lib.hid (HQ.out.on haw)
        replace HB := Lib.hid (HB.out.on haw)
        clear haw hdl hdp hdpk HCP HOKC HO
        rw [hdn] at hd4 ⊢
        have HDN := Lib.hid hdn
        clear hdn
        go_wp2_with fail
        refine (join_c (some ⟨db, 0, none⟩) ds na dc _ HDN.out (by simp) HDP.out HG.out).mono ?_
        rintro E v2 ⟨jt, jc, jo, jd, hjt, rfl, hjw, hmn, haw⟩
        obtain ⟨rfl, rfl⟩ := join_all HU.out HQV.out HRA.out HDPM.out hjt
        have HJP := Lib.hid (hmn.pkt hjw)
        have HJ1 := Lib.hid hmn.o.one; have HJ2 := Lib.hid hmn.d.one
        replace HA := Lib.hid (HA.out.on haw)
        replace HG := Lib.hid (HG.out.on haw)
        replace HQ := Lib.hid (HQ.out.on haw)
        replace HB := Lib.hid (HB.out.on haw)
        replace HDP := Lib.hid (HDP.out.on haw)
        clear haw hjt hjw hmn
        go_wp2_with (refine wpList_new28 rfl rfl rfl _ _ rfl jt jo jd (fun g => rfl) (fun g => rfl) HQA.out HJ1.out HJ2.out ?_; refine Hid.out ?_)
        refine Lib.hid ?_
        intro g16 v3 hg16 hb haw
        have HB16 := Lib.hid hb
        replace HA := Lib.hid (HA.out.on haw)
        replace HG := Lib.hid (HG.out.on haw)
        replace HQ := Lib.hid (HQ.out.on haw)
        replace HB := Lib.hid (HB.out.on haw)
        replace HDP := Lib.hid (HDP.out.on haw)
        replace HJP := Lib.hid (HJP.out.on haw)
        clear haw hb hg16
        have dn0 : decide ((na : Int) = 0) = false := by simp; omega
        have dn1 : ((na : Int) == 0) = false := by simp; omega
        go_wp2_with (first
          | (refine wpList_load28 rfl _ rfl g9 rfl jt _ _ (by exact HB.out) HQA.out ?_)
          | (refine wpList_load28 rfl _ rfl g16 rfl jt _ _ (by exact HB16.out) HQA.out ?_))
        refine (Same_yes jt qo qd jo jd _ HQ.out HJP.out).mono ?_
        rintro E v4 ⟨rfl, haw⟩
        replace HA := Lib.hid (HA.out.on haw)
        replace HG := Lib.hid (HG.out.on haw)
        replace HDP := Lib.hid (HDP.out.on haw)
        clear haw HB HB16 HJP HQ
        obtain ⟨d0, dr, hds⟩ : ∃ d0 dr, ds = d0 :: dr := by
          cases ds with
          | nil => have := HDN.out; simp at this; omega
          | cons a b => exact ⟨a, b, rfl⟩
        subst hds
        obtain ⟨A, hA⟩ : ∃ A, A = if dc = 1 then some ⟨db, 0, none⟩ else (some (⟨db, 0, none⟩ : Addr)).map (·.add 46) := ⟨_, rfl⟩
        have hsl := slice_l32 (some ⟨db, 0, none⟩) A na dc hA (by omega)
        have HPT : Hid (Pks v4 A dr) := by show Pks _ _ _; rw [hA]; exact pks_tail HDP.out (by rw [HDN.out]; exact hd4)
        have HAN : Hid (A = none → dc - 1 = 0) := by intro e; rw [hA] at e; split at e <;> simp at e
        have HTL : Hid (dr.length = na - 1) := by show _ = _; have := HDN.out; simp only [List.length_cons] at this; omega
        clear hA
        go_wp2_with fail
        refine (join_c A dr (na - 1) (dc - 1) _ HTL.out HAN.out HPT.out HG.out).mono ?_
        rintro E v5 ⟨kt, kc, ko, kd, hkt, rfl, hkw, hmn, haw⟩
        obtain rfl : kc = 110 := join_less HU.out HRA.out (x := d0.p) HDPM.out hkt
        have HK1 := Lib.hid hmn.o.one; have HK2 := Lib.hid hmn.d.one; have HKA := Lib.hid hkw.ad
        replace HA := Lib.hid (HA.out.on haw)
        replace HG := Lib.hid (HG.out.on haw)
        replace HDP := Lib.hid (HDP.out.on haw)
        clear haw hkt hkw hmn HPT HAN HTL hsl
        go_wp2_with (refine wpList_new28 rfl rfl rfl _ _ rfl kt ko kd (fun g => rfl) (fun g => rfl) HKA.out HK1.out HK2.out ?_; refine Hid.out ?_)
        refine Lib.hid ?_
        intro g18 wk hg18 hb haw
        replace HA := Lib.hid (HA.out.on haw)
        replace HG := Lib.hid (HG.out.on haw)
        replace HDP := Lib.hid (HDP.out.on haw)
        clear haw hb hg18
        obtain ⟨b1, o1, hb1, hr1, hk1⟩ := HDP.out.at (i := 0) rfl
        obtain ⟨rfl, rfl⟩ : db = b1 ∧ 0 = o1 := by simpa using hb1
        have HD0R : Hid (wk.rangeAt db 0 (listP d0.p d0.o d0.d)) := by
          have : wk.rangeAt db (0 + 0 * 46) (listP d0.p d0.o d0.d) := hr1
          show wk.rangeAt db 0 _
          simpa using this
        have HD0K : Hid (X.ok wk d0) := hk1
        have HD0A := Lib.hid hk1.wf.ad; have HD0O := Lib.hid hk1.ov; have HD0D := Lib.hid hk1.dv
        clear hb1 hr1 hk1
        have i6 : 0 < na := hc0
        have i7 : (0 : Int) < (na : Int) := by omega
        go_upto_region 21 with fail
        go_cut [21] (fun v wc => v = .int .i64 1 ∧ Away [] wk wc)
        case first =>
          refine wp_region_held_drew (S := (fun w' => Away [] wk w')) (by kernel_rfl) ((Away.refl [] wk).drew) (fun hHeld => ?_)
          refine wpAnyH_take (i := 0) (v := ?_) (by simp only [List.getElem?_toArray, List.getElem?_cons_zero]; rfl) (by kernel_rfl) (by kernel_rfl) (by kernel_rfl) (by exact fun _ _ _ h => h) (Or.inl ⟨by rfl, ?_⟩) (by assumption) ?_
          rotate_left
          · intro wq hSw
            (try dsimp only at hSw)
            go_simp
            all_goals (with_reducible rfl)
          try simp only [Act.put, List.setIfInBounds_toArray, List.set_cons_zero, List.set_cons_succ]
          refine wpAnyH_take (i := 2) (v := ?_) (by simp only [List.getElem?_toArray, List.getElem?_cons_succ, List.getElem?_cons_zero]; rfl) (by kernel_rfl) (by kernel_rfl) (by kernel_rfl) (by exact fun _ _ _ h => h) (Or.inl ⟨by rfl, ?_⟩) (by assumption) ?_
          rotate_left
          · intro wq hSw
            (try dsimp only at hSw)
            go_simp
            all_goals (with_reducible rfl)
          try simp only [Act.put, List.setIfInBounds_toArray, List.set_cons_zero, List.set_cons_succ]
          refine wpAnyH_take (i := 3) (v := ?_) (by simp only [List.getElem?_toArray, List.getElem?_cons_succ, List.getElem?_cons_zero]; rfl) (by kernel_rfl) (by kernel_rfl) (by kernel_rfl) (by exact fun _ _ _ h => h) (Or.inl ⟨by rfl, ?_⟩) (by assumption) ?_
          rotate_left
          · intro wq hSw
            (try dsimp only at hSw)
            go_simp
            all_goals (with_reducible rfl)
          try simp only [Act.put, List.setIfInBounds_toArray, List.set_cons_zero, List.set_cons_succ]
          refine wpAnyH_take (i := 4) (by simp only [List.getElem?_toArray, List.getElem?_cons_succ, List.getElem?_cons_zero]; rfl) (by kernel_rfl) (by kernel_rfl) (by kernel_rfl) (by exact fun _ _ _ h => h) (yields_ld (ad := ⟨db, 0, none⟩) (by rfl) _ rfl rfl (fun w' h => load28m_run (by exact range_away h (by simp) HD0R.out) HD0A.out)) (by assumption) ?_
          try simp only [Act.put, List.setIfInBounds_toArray, List.set_cons_zero, List.set_cons_succ]
          refine wpAnyH_ready (rs := [1, 5, 11]) (by kernel_rfl) (by simp) ?_
          refine AllReadyH.cons (by simp only [List.getElem?_toArray, List.getElem?_cons_succ, List.getElem?_cons_zero]; rfl) (fun K hK => ?_) (AllReadyH.cons (by simp only [List.getElem?_toArray, List.getElem?_cons_succ, List.getElem?_cons_zero]; rfl) (fun K hK => ?_) (AllReadyH.cons (by simp only [List.getElem?_toArray, List.getElem?_cons_succ, List.getElem?_cons_zero]; rfl) (fun K hK => ?_) AllReadyH.nil))
          · go_simp
            refine (owns_c (some ⟨db, 0, none⟩) (d0 :: dr) na dc _ HDN.out (by exact HDP.out.on hHeld) (by omega)).mono ?_
            rintro E y11 ⟨ow, os, rfl, hos0, hom, haw⟩
            have hos : Cuts y11 wk.heap.size ow os := hos0.mono (Away.size hHeld)
            have hS := Away.on hHeld haw
            clear haw hos0
            go_wp2_with fail
            refine hK.out _ _ hS (fun hHeld => ?_)
            clear hK K
            try simp only [Act.put, List.setIfInBounds_toArray, List.set_cons_zero, List.set_cons_succ]
            as_aux_lemma =>
              refine wpAnyH_ready (rs := [5, 11]) (by kernel_rfl) (by simp) ?_
              refine AllReadyH.cons (by simp only [List.getElem?_toArray, List.getElem?_cons_succ, List.getElem?_cons_zero]; rfl) (fun K hK => ?_) (AllReadyH.cons (by simp only [List.getElem?_toArray, List.getElem?_cons_succ, List.getElem?_cons_zero]; rfl) (fun K hK => ?_) AllReadyH.nil)
              · rw [if_pos (by rfl)]
                refine wp_build28 _ rfl d0.p d0.o d0.d rfl HD0A.out ?_
                intro gq y12 hgq hbq haw hwe hge
                have hS := Away.on hHeld haw
                replace hos := hos.on haw
                clear haw hwe hge hgq
                refine hK.out _ _ hS (fun hHeld => ?_)
                clear hK K
                try simp only [Act.put, List.setIfInBounds_toArray, List.set_cons_zero, List.set_cons_succ]
                as_aux_lemma =>
                  refine wpAnyH_ready (rs := [6, 11]) (by kernel_rfl) (by simp) ?_
                  refine AllReadyH.cons (by simp only [List.getElem?_toArray, List.getElem?_cons_succ, List.getElem?_cons_zero]; rfl) (fun K hK => ?_) (AllReadyH.cons (by simp only [List.getElem?_toArray, List.getElem?_cons_succ, List.getElem?_cons_zero]; rfl) (fun K hK => ?_) AllReadyH.nil)
                  · rw [if_pos (by rfl)]
                    refine wp_appP _ _ rfl _ os rfl hos.lst gq 1 rfl d0.p d0.o d0.d hbq HD0A.out HD0O.out HD0D.out (by have := congrArg List.length hom; simp only [List.length_map] at this; have := HDN.out; omega) ?_
                    intro vn y13 hln hgr hmv
                    have hS : Away [] wk y13 := Away.grown hHeld hgr (fun k hk => .inr (hos.new k hk))
                    have hall : ∀ z ∈ os ++ [d0], z.ok y13 := fun z hz => by
                      rcases List.mem_append.1 hz with hz | hz
                      · exact cuts_grown_ok hos hgr z hz
                      · simp at hz; subst hz; exact HD0K.out.on hS
                    obtain ⟨va, vc, hvn, -, hvn0, hpn, -⟩ := LstP.pks (xs := os ++ [d0]) hln (by have := congrArg List.length hom; simp only [List.length_map] at this; have := HDN.out; rw [List.length_append]; simp; omega) hall
                    obtain ⟨nn, hnn⟩ : ∃ nn, (os ++ [d0]).length = nn := ⟨_, rfl⟩
                    rw [hnn] at hvn
                    subst hvn
                    clear hall hln hgr hmv hos hbq
                    refine hK.out _ _ hS (fun hHeld => ?_)
                    clear hK K
                    try simp only [Act.put, List.setIfInBounds_toArray, List.set_cons_zero, List.set_cons_succ]
                    as_aux_lemma =>
                      refine wpAnyH_ready (rs := [7, 11]) (by kernel_rfl) (by simp) ?_
                      refine AllReadyH.cons (by simp only [List.getElem?_toArray, List.getElem?_cons_succ, List.getElem?_cons_zero]; rfl) (fun K hK => ?_) (AllReadyH.cons (by simp only [List.getElem?_toArray, List.getElem?_cons_succ, List.getElem?_cons_zero]; rfl) (fun K hK => ?_) AllReadyH.nil)
                      · go_simp
                        refine (join_c va (os ++ [d0]) nn vc _ hnn hvn0 hpn (by exact HG.out.on hHeld)).mono ?_
                        rintro E y14 ⟨tt, tc, tov, tdv, htt, rfl, htw, hmn, haw⟩
                        obtain rfl : tc = 1 := join_twice HRA.out (x := d0.p) (by rw [List.map_append, hom]; exact (List.perm_append_comm (l₁ := (d0 :: dr).map X.p) (l₂ := [d0.p])).trans (List.Perm.cons _ HDPM.out)) (HDPM.out.mem_iff.1 (by simp)) htt
                        have hS := Away.on hHeld haw
                        have hto := hmn.o.one; have htd := hmn.d.one
                        clear haw htt hmn hpn
                        go_wp2_with fail
                        refine hK.out _ _ hS (fun hHeld => ?_)
                        clear hK K
                        try simp only [Act.put, List.setIfInBounds_toArray, List.set_cons_zero, List.set_cons_succ]
                        as_aux_lemma =>
                          refine wpAnyH_take (i := 8) (v := ?_) (by simp only [List.getElem?_toArray, List.getElem?_cons_succ, List.getElem?_cons_zero]; rfl) (by kernel_rfl) (by kernel_rfl) (by kernel_rfl) (by exact fun _ _ _ h => h) (Or.inl ⟨by rfl, ?_⟩) (by assumption) ?_
                          rotate_left
                          · intro wq hSw
                            (try dsimp only at hSw)
                            go_simp
                            all_goals (with_reducible rfl)
                          try simp only [Act.put, List.setIfInBounds_toArray, List.set_cons_zero, List.set_cons_succ]
                          refine wpAnyH_take (i := 9) (v := ?_) (by simp only [List.getElem?_toArray, List.getElem?_cons_succ, List.getElem?_cons_zero]; rfl) (by kernel_rfl) (by kernel_rfl) (by kernel_rfl) (by exact fun _ _ _ h => h) (Or.inl ⟨by rfl, ?_⟩) (by assumption) ?_
                          rotate_left
                          · intro wq hSw
                            (try dsimp only at hSw)
                            go_simp
                            all_goals (with_reducible rfl)
                          try simp only [Act.put, List.setIfInBounds_toArray, List.set_cons_zero, List.set_cons_succ]
                          refine wpAnyH_take (i := 10) (v := ?_) (by simp only [List.getElem?_toArray, List.getElem?_cons_succ, List.getElem?_cons_zero]; rfl) (by kernel_rfl) (by kernel_rfl) (by kernel_rfl) (by exact fun _ _ _ h => h) (Or.inl ⟨by rfl, ?_⟩) (by assumption) ?_
                          rotate_left
                          · intro wq hSw
                            (try dsimp only at hSw)
                            go_simp
                            all_goals (with_reducible rfl)
                          try simp only [Act.put, List.setIfInBounds_toArray, List.set_cons_zero, List.set_cons_succ]
                          refine wpAnyH_ready (rs := [11]) (by kernel_rfl) (by simp) ?_
                          refine AllReadyH.cons (by simp only [List.getElem?_toArray, List.getElem?_cons_succ, List.getElem?_cons_zero]; rfl) (fun K hK => ?_) AllReadyH.nil
                          rw [if_pos (by rfl)]
                          refine wp_alloc28 rfl ?_
                          intro g20 y15 hg20 hbx haw
                          have hgk : wk.heap.size ≤ g20 := Nat.le_trans (Away.size hHeld) hg20
                          have hS := Away.on hHeld haw
                          clear haw
                          refine hK.out _ _ hS (fun hHeld => ?_)
                          clear hK K
                          try simp only [Act.put, List.setIfInBounds_toArray, List.set_cons_zero, List.set_cons_succ]
                          as_aux_lemma =>
                            refine wpAnyH_ready (rs := [12]) (by kernel_rfl) (by simp) ?_
                            refine AllReadyH.cons (by simp only [List.getElem?_toArray, List.getElem?_cons_succ, List.getElem?_cons_zero]; rfl) (fun K hK => ?_) AllReadyH.nil
                            rw [if_pos (by rfl)]
                            refine wp_store28 (.tmp 20) (.tmp 107) rfl g20 rfl tt tov tdv rfl zeroPk (.slice none 0 0) (.slice none 0 0) (by exact hbx) htw.ad ⟨rfl, rfl⟩ hto htd ?_
                            intro y16 hb2 haw
                            have hS : Away [] wk y16 := Away.next hHeld haw (fun x hx => .inr (by simp at hx; omega))
                            clear haw
                            refine hK.out _ _ hS (fun hHeld => ?_)
                            clear hK K
                            try simp only [Act.put]
                            as_aux_lemma =>
                              refine wpAnyH_take (i := 13) (v := ?_) (by simp only [List.getElem?_toArray, List.getElem?_cons_succ, List.getElem?_cons_zero]; rfl) (by kernel_rfl) (by kernel_rfl) (by kernel_rfl) (by exact fun _ _ _ h => h) (Or.inl ⟨by rfl, ?_⟩) (by assumption) ?_
                              rotate_left
                              · intro wq hSw
                                (try dsimp only at hSw)
                                go_simp
                                all_goals (with_reducible rfl)
                              try simp only [Act.put]
                              refine wpAnyH_done (by kernel_rfl) ?_ _
                              go_wp2_with fail
                              go_meet
                              exact ⟨rfl, hHeld⟩
                      · rw [if_pos (by rfl)]
                        refine wp_alloc28 rfl ?_
                        intro g20 y14 hg20 hbx haw
                        have hgk : wk.heap.size ≤ g20 := Nat.le_trans (Away.size hHeld) hg20
                        have hS := Away.on hHeld haw
                        replace hpn := hpn.on haw
                        clear haw
                        refine hK.out _ _ hS (fun hHeld => ?_)
                        clear hK K
                        try simp only [Act.put, List.setIfInBounds_toArray, List.set_cons_zero, List.set_cons_succ]
                        as_aux_lemma =>
                          refine wpAnyH_ready (rs := [7]) (by kernel_rfl) (by simp) ?_
                          refine AllReadyH.cons (by simp only [List.getElem?_toArray, List.getElem?_cons_succ, List.getElem?_cons_zero]; rfl) (fun K hK => ?_) AllReadyH.nil
                          go_simp
                          refine (join_c va (os ++ [d0]) nn vc _ hnn hvn0 hpn (by exact HG.out.on hHeld)).mono ?_
                          rintro E y15 ⟨tt, tc, tov, tdv, htt, rfl, htw, hmn, haw⟩
                          obtain rfl : tc = 1 := join_twice HRA.out (x := d0.p) (by rw [List.map_append, hom]; exact (List.perm_append_comm (l₁ := (d0 :: dr).map X.p) (l₂ := [d0.p])).trans (List.Perm.cons _ HDPM.out)) (HDPM.out.mem_iff.1 (by simp)) htt
                          have hS := Away.on hHeld haw
                          have hto := hmn.o.one; have htd := hmn.d.one
                          replace hbx := hbx.on haw
                          clear haw htt hmn hpn
                          go_wp2_with fail
                          refine hK.out _ _ hS (fun hHeld => ?_)
                          clear hK K
                          try simp only [Act.put, List.setIfInBounds_toArray, List.set_cons_zero, List.set_cons_succ]
                          as_aux_lemma =>
                            refine wpAnyH_take (i := 8) (v := ?_) (by simp only [List.getElem?_toArray, List.getElem?_cons_succ, List.getElem?_cons_zero]; rfl) (by kernel_rfl) (by kernel_rfl) (by kernel_rfl) (by exact fun _ _ _ h => h) (Or.inl ⟨by rfl, ?_⟩) (by assumption) ?_
                            rotate_left
                            · intro wq hSw
                              (try dsimp only at hSw)
                              go_simp
                              all_goals (with_reducible rfl)
                            try simp only [Act.put, List.setIfInBounds_toArray, List.set_cons_zero, List.set_cons_succ]
                            refine wpAnyH_take (i := 9) (v := ?_) (by simp only [List.getElem?_toArray, List.getElem?_cons_succ, List.getElem?_cons_zero]; rfl) (by kernel_rfl) (by kernel_rfl) (by kernel_rfl) (by exact fun _ _ _ h => h) (Or.inl ⟨by rfl, ?_⟩) (by assumption) ?_
                            rotate_left
                            · intro wq hSw
                              (try dsimp only at hSw)
                              go_simp
                              all_goals (with_reducible rfl)
                            try simp only [Act.put, List.setIfInBounds_toArray, List.set_cons_zero, List.set_cons_succ]
                            refine wpAnyH_take (i := 10) (v := ?_) (by simp only [List.getElem?_toArray, List.getElem?_cons_succ, List.getElem?_cons_zero]; rfl) (by kernel_rfl) (by kernel_rfl) (by kernel_rfl) (by exact fun _ _ _ h => h) (Or.inl ⟨by rfl, ?_⟩) (by assumption) ?_
                            rotate_left
                            · intro wq hSw
                              (try dsimp only at hSw)
                              go_simp
                              all_goals (with_reducible rfl)
                            try simp only [Act.put, List.setIfInBounds_toArray, List.set_cons_zero, List.set_cons_succ]
                            refine wpAnyH_ready (rs := [12]) (by kernel_rfl) (by simp) ?_
                            refine AllReadyH.cons (by simp only [List.getElem?_toArray, List.getElem?_cons_succ, List.getElem?_cons_zero]; rfl) (fun K hK => ?_) AllReadyH.nil
                            rw [if_pos (by rfl)]
                            refine wp_store28 (.tmp 20) (.tmp 107) rfl g20 rfl tt tov tdv rfl zeroPk (.slice none 0 0) (.slice none 0 0) (by exact hbx) htw.ad ⟨rfl, rfl⟩ hto htd ?_
                            intro y16 hb2 haw
                            have hS : Away [] wk y16 := Away.next hHeld haw (fun x hx => .inr (by simp at hx; omega))
                            clear haw
                            refine hK.out _ _ hS (fun hHeld => ?_)
                            clear hK K
                            try simp only [Act.put]
                            as_aux_lemma =>
                              refine wpAnyH_take (i := 13) (v := ?_) (by simp only [List.getElem?_toArray, List.getElem?_cons_succ, List.getElem?_cons_zero]; rfl) (by kernel_rfl) (by kernel_rfl) (by kernel_rfl) (by exact fun _ _ _ h => h) (Or.inl ⟨by rfl, ?_⟩) (by assumption) ?_
                              rotate_left
                              · intro wq hSw
                                (try dsimp only at hSw)
                                go_simp
                                all_goals (with_reducible rfl)
                              try simp only [Act.put]
                              refine wpAnyH_done (by kernel_rfl) ?_ _
                              go_wp2_with fail
                              go_meet
                              exact ⟨rfl, hHeld⟩
                  · rw [if_pos (by rfl)]
                    refine wp_alloc28 rfl ?_
                    intro g20 y13 hg20 hbx haw
                    have hgk : wk.heap.size ≤ g20 := Nat.le_trans (Away.size hHeld) hg20
                    have hS := Away.on hHeld haw
                    have hox : ow.ownBlock ≠ some g20 := fun e => by have h1 := hos.lst.lt g20 e; omega
                    replace hos := hos.on haw
                    replace hbq := hbq.on haw
                    clear haw
                    refine hK.out _ _ hS (fun hHeld => ?_)
                    clear hK K
                    try simp only [Act.put, List.setIfInBounds_toArray, List.set_cons_zero, List.set_cons_succ]
                    as_aux_lemma =>
                      refine wpAnyH_ready (rs := [6]) (by kernel_rfl) (by simp) ?_
                      refine AllReadyH.cons (by simp only [List.getElem?_toArray, List.getElem?_cons_succ, List.getElem?_cons_zero]; rfl) (fun K hK => ?_) AllReadyH.nil
                      rw [if_pos (by rfl)]
                      refine wp_appP _ _ rfl _ os rfl hos.lst gq 1 rfl d0.p d0.o d0.d hbq HD0A.out HD0O.out HD0D.out (by have := congrArg List.length hom; simp only [List.length_map] at this; have := HDN.out; omega) ?_
                      intro vn y14 hln hgr hmv
                      have hS : Away [] wk y14 := Away.grown hHeld hgr (fun k hk => .inr (hos.new k hk))
                      have hall : ∀ z ∈ os ++ [d0], z.ok y14 := fun z hz => by
                        rcases List.mem_append.1 hz with hz | hz
                        · exact cuts_grown_ok hos hgr z hz
                        · simp at hz; subst hz; exact HD0K.out.on hS
                      obtain ⟨va, vc, hvn, -, hvn0, hpn, -⟩ := LstP.pks (xs := os ++ [d0]) hln (by have := congrArg List.length hom; simp only [List.length_map] at this; have := HDN.out; rw [List.length_append]; simp; omega) hall
                      obtain ⟨nn, hnn⟩ : ∃ nn, (os ++ [d0]).length = nn := ⟨_, rfl⟩
                      rw [hnn] at hvn
                      subst hvn
                      replace hbx := hbx.away ((Away.refl ow.ownBlock.toList _).grown hgr (fun k hk => .inl (by have hk2 : ow.ownBlock = some k := hk; simp [hk2]))) (fun e => by simp at e; exact hox e)
                      clear hall hln hgr hmv hos hbq
                      refine hK.out _ _ hS (fun hHeld => ?_)
                      clear hK K
                      try simp only [Act.put, List.setIfInBounds_toArray, List.set_cons_zero, List.set_cons_succ]
                      as_aux_lemma =>
                        refine wpAnyH_ready (rs := [7]) (by kernel_rfl) (by simp) ?_
                        refine AllReadyH.cons (by simp only [List.getElem?_toArray, List.getElem?_cons_succ, List.getElem?_cons_zero]; rfl) (fun K hK => ?_) AllReadyH.nil
                        go_simp
                        refine (join_c va (os ++ [d0]) nn vc _ hnn hvn0 hpn (by exact HG.out.on hHeld)).mono ?_
                        rintro E y15 ⟨tt, tc, tov, tdv, htt, rfl, htw, hmn, haw⟩
                        obtain rfl : tc = 1 := join_twice HRA.out (x := d0.p) (by rw [List.map_append, hom]; exact (List.perm_append_comm (l₁ := (d0 :: dr).map X.p) (l₂ := [d0.p])).trans (List.Perm.cons _ HDPM.out)) (HDPM.out.mem_iff.1 (by simp)) htt
                        have hS := Away.on hHeld haw
                        have hto := hmn.o.one; have htd := hmn.d.one
                        replace hbx := hbx.on haw
                        clear haw htt hmn hpn
                        go_wp2_with fail
                        refine hK.out _ _ hS (fun hHeld => ?_)
                        clear hK K
                        try simp only [Act.put, List.setIfInBounds_toArray, List.set_cons_zero, List.set_cons_succ]
                        as_aux_lemma =>
                          refine wpAnyH_take (i := 8) (v := ?_) (by simp only [List.getElem?_toArray, List.getElem?_cons_succ, List.getElem?_cons_zero]; rfl) (by kernel_rfl) (by kernel_rfl) (by kernel_rfl) (by exact fun _ _ _ h => h) (Or.inl ⟨by rfl, ?_⟩) (by assumption) ?_
                          rotate_left
                          · intro wq hSw
                            (try dsimp only at hSw)
                            go_simp
                            all_goals (with_reducible rfl)
                          try simp only [Act.put, List.setIfInBounds_toArray, List.set_cons_zero, List.set_cons_succ]
                          refine wpAnyH_take (i := 9) (v := ?_) (by simp only [List.getElem?_toArray, List.getElem?_cons_succ, List.getElem?_cons_zero]; rfl) (by kernel_rfl) (by kernel_rfl) (by kernel_rfl) (by exact fun _ _ _ h => h) (Or.inl ⟨by rfl, ?_⟩) (by assumption) ?_
                          rotate_left
                          · intro wq hSw
                            (try dsimp only at hSw)
                            go_simp
                            all_goals (with_reducible rfl)
                          try simp only [Act.put, List.setIfInBounds_toArray, List.set_cons_zero, List.set_cons_succ]
                          refine wpAnyH_take (i := 10) (v := ?_) (by simp only [List.getElem?_toArray, List.getElem?_cons_succ, List.getElem?_cons_zero]; rfl) (by kernel_rfl) (by kernel_rfl) (by kernel_rfl) (by exact fun _ _ _ h => h) (Or.inl ⟨by rfl, ?_⟩) (by assumption) ?_
                          rotate_left
                          · intro wq hSw
                            (try dsimp only at hSw)
                            go_simp
                            all_goals (with_reducible rfl)
                          try simp only [Act.put, List.setIfInBounds_toArray, List.set_cons_zero, List.set_cons_succ]
                          refine wpAnyH_ready (rs := [12]) (by kernel_rfl) (by simp) ?_
                          refine AllReadyH.cons (by simp only [List.getElem?_toArray, List.getElem?_cons_succ, List.getElem?_cons_zero]; rfl) (fun K hK => ?_) AllReadyH.nil
                          rw [if_pos (by rfl)]
                          refine wp_store28 (.tmp 20) (.tmp 107) rfl g20 rfl tt tov tdv rfl zeroPk (.slice none 0 0) (.slice none 0 0) (by exact hbx) htw.ad ⟨rfl, rfl⟩ hto htd ?_
                          intro y16 hb2 haw
                          have hS : Away [] wk y16 := Away.next hHeld haw (fun x hx => .inr (by simp at hx; omega))
                          clear haw
                          refine hK.out _ _ hS (fun hHeld => ?_)
                          clear hK K
                          try simp only [Act.put]
                          as_aux_lemma =>
                            refine wpAnyH_take (i := 13) (v := ?_) (by simp only [List.getElem?_toArray, List.getElem?_cons_succ, List.getElem?_cons_zero]; rfl) (by kernel_rfl) (by kernel_rfl) (by kernel_rfl) (by exact fun _ _ _ h => h) (Or.inl ⟨by rfl, ?_⟩) (by assumption) ?_
                            rotate_left
                            · intro wq hSw
                              (try dsimp only at hSw)
                              go_simp
                              all_goals (with_reducible rfl)
                            try simp only [Act.put]
                            refine wpAnyH_done (by kernel_rfl) ?_ _
                            go_wp2_with fail
                            go_meet
                            exact ⟨rfl, hHeld⟩
              · rw [if_pos (by rfl)]
                refine wp_alloc28 rfl ?_
                intro g20 y12 hg20 hbx haw
                have hgk : wk.heap.size ≤ g20 := Nat.le_trans (Away.size hHeld) hg20
                have hS := Away.on hHeld haw
                have hox : ow.ownBlock ≠ some g20 := fun e => by have h1 := hos.lst.lt g20 e; omega
                replace hos := hos.on haw
                clear haw
                refine hK.out _ _ hS (fun hHeld => ?_)
                clear hK K
                try simp only [Act.put, List.setIfInBounds_toArray, List.set_cons_zero, List.set_cons_succ]
                as_aux_lemma =>
                  refine wpAnyH_ready (rs := [5]) (by kernel_rfl) (by simp) ?_
                  refine AllReadyH.cons (by simp only [List.getElem?_toArray, List.getElem?_cons_succ, List.getElem?_cons_zero]; rfl) (fun K hK => ?_) AllReadyH.nil
                  rw [if_pos (by rfl)]
                  refine wp_build28 _ rfl d0.p d0.o d0.d rfl HD0A.out ?_
                  intro gq y13 hgq hbq haw hwe hge
                  have hS := Away.on hHeld haw
                  replace hos := hos.on haw
                  replace hbx := hbx.on haw
                  clear haw hwe hge hgq
                  refine hK.out _ _ hS (fun hHeld => ?_)
                  clear hK K
                  try simp only [Act.put, List.setIfInBounds_toArray, List.set_cons_zero, List.set_cons_succ]
                  as_aux_lemma =>
                    refine wpAnyH_ready (rs := [6]) (by kernel_rfl) (by simp) ?_
                    refine AllReadyH.cons (by simp only [List.getElem?_toArray, List.getElem?_cons_succ, List.getElem?_cons_zero]; rfl) (fun K hK => ?_) AllReadyH.nil
                    rw [if_pos (by rfl)]
                    refine wp_appP _ _ rfl _ os rfl hos.lst gq 1 rfl d0.p d0.o d0.d hbq HD0A.out HD0O.out HD0D.out (by have := congrArg List.length hom; simp only [List.length_map] at this; have := HDN.out; omega) ?_
                    intro vn y14 hln hgr hmv
                    have hS : Away [] wk y14 := Away.grown hHeld hgr (fun k hk => .inr (hos.new k hk))
                    have hall : ∀ z ∈ os ++ [d0], z.ok y14 := fun z hz => by
                      rcases List.mem_append.1 hz with hz | hz
                      · exact cuts_grown_ok hos hgr z hz
                      · simp at hz; subst hz; exact HD0K.out.on hS
                    obtain ⟨va, vc, hvn, -, hvn0, hpn, -⟩ := LstP.pks (xs := os ++ [d0]) hln (by have := congrArg List.length hom; simp only [List.length_map] at this; have := HDN.out; rw [List.length_append]; simp; omega) hall
                    obtain ⟨nn, hnn⟩ : ∃ nn, (os ++ [d0]).length = nn := ⟨_, rfl⟩
                    rw [hnn] at hvn
                    subst hvn
                    replace hbx := hbx.away ((Away.refl ow.ownBlock.toList _).grown hgr (fun k hk => .inl (by have hk2 : ow.ownBlock = some k := hk; simp [hk2]))) (fun e => by simp at e; exact hox e)
                    clear hall hln hgr hmv hos hbq
                    refine hK.out _ _ hS (fun hHeld => ?_)
                    clear hK K
                    try simp only [Act.put, List.setIfInBounds_toArray, List.set_cons_zero, List.set_cons_succ]
                    as_aux_lemma =>
                      refine wpAnyH_ready (rs := [7]) (by kernel_rfl) (by simp) ?_
                      refine AllReadyH.cons (by simp only [List.getElem?_toArray, List.getElem?_cons_succ, List.getElem?_cons_zero]; rfl) (fun K hK => ?_) AllReadyH.nil
                      go_simp
                      refine (join_c va (os ++ [d0]) nn vc _ hnn hvn0 hpn (by exact HG.out.on hHeld)).mono ?_
                      rintro E y15 ⟨tt, tc, tov, tdv, htt, rfl, htw, hmn, haw⟩
                      obtain rfl : tc = 1 := join_twice HRA.out (x := d0.p) (by rw [List.map_append, hom]; exact (List.perm_append_comm (l₁ := (d0 :: dr).map X.p) (l₂ := [d0.p])).trans (List.Perm.cons _ HDPM.out)) (HDPM.out.mem_iff.1 (by simp)) htt
                      have hS := Away.on hHeld haw
                      have hto := hmn.o.one; have htd := hmn.d.one
                      replace hbx := hbx.on haw
                      clear haw htt hmn hpn
                      go_wp2_with fail
                      refine hK.out _ _ hS (fun hHeld => ?_)
                      clear hK K
                      try simp only [Act.put, List.setIfInBounds_toArray, List.set_cons_zero, List.set_cons_succ]
                      as_aux_lemma =>
                        refine wpAnyH_take (i := 8) (v := ?_) (by simp only [List.getElem?_toArray, List.getElem?_cons_succ, List.getElem?_cons_zero]; rfl) (by kernel_rfl) (by kernel_rfl) (by kernel_rfl) (by exact fun _ _ _ h => h) (Or.inl ⟨by rfl, ?_⟩) (by assumption) ?_
                        rotate_left
                        · intro wq hSw
                          (try dsimp only at hSw)
                          go_simp
                          all_goals (with_reducible rfl)
                        try simp only [Act.put, List.setIfInBounds_toArray, List.set_cons_zero, List.set_cons_succ]
                        refine wpAnyH_take (i := 9) (v := ?_) (by simp only [List.getElem?_toArray, List.getElem?_cons_succ, List.getElem?_cons_zero]; rfl) (by kernel_rfl) (by kernel_rfl) (by kernel_rfl) (by exact fun _ _ _ h => h) (Or.inl ⟨by rfl, ?_⟩) (by assumption) ?_
                        rotate_left
                        · intro wq hSw
                          (try dsimp only at hSw)
                          go_simp
                          all_goals (with_reducible rfl)
                        try simp only [Act.put, List.setIfInBounds_toArray, List.set_cons_zero, List.set_cons_succ]
                        refine wpAnyH_take (i := 10) (v := ?_) (by simp only [List.getElem?_toArray, List.getElem?_cons_succ, List.getElem?_cons_zero]; rfl) (by kernel_rfl) (by kernel_rfl) (by kernel_rfl) (by exact fun _ _ _ h => h) (Or.inl ⟨by rfl, ?_⟩) (by assumption) ?_
                        rotate_left
                        · intro wq hSw
                          (try dsimp only at hSw)
                          go_simp
                          all_goals (with_reducible rfl)
                        try simp only [Act.put, List.setIfInBounds_toArray, List.set_cons_zero, List.set_cons_succ]
                        refine wpAnyH_ready (rs := [12]) (by kernel_rfl) (by simp) ?_
                        refine AllReadyH.cons (by simp only [List.getElem?_toArray, List.getElem?_cons_succ, List.getElem?_cons_zero]; rfl) (fun K hK => ?_) AllReadyH.nil
                        rw [if_pos (by rfl)]
                        refine wp_store28 (.tmp 20) (.tmp 107) rfl g20 rfl tt tov tdv rfl zeroPk (.slice none 0 0) (.slice none 0 0) (by exact hbx) htw.ad ⟨rfl, rfl⟩ hto htd ?_
                        intro y16 hb2 haw
                        have hS : Away [] wk y16 := Away.next hHeld haw (fun x hx => .inr (by simp at hx; omega))
                        clear haw
                        refine hK.out _ _ hS (fun hHeld => ?_)
                        clear hK K
                        try simp only [Act.put]
                        as_aux_lemma =>
                          refine wpAnyH_take (i := 13) (v := ?_) (by simp only [List.getElem?_toArray, List.getElem?_cons_succ, List.getElem?_cons_zero]; rfl) (by kernel_rfl) (by kernel_rfl) (by kernel_rfl) (by exact fun _ _ _ h => h) (Or.inl ⟨by rfl, ?_⟩) (by assumption) ?_
                          rotate_left
                          · intro wq hSw
                            (try dsimp only at hSw)
                            go_simp
                            all_goals (with_reducible rfl)
                          try simp only [Act.put]
                          refine wpAnyH_done (by kernel_rfl) ?_ _
                          go_wp2_with fail
                          go_meet
                          exact ⟨rfl, hHeld⟩
          · rw [if_pos (by rfl)]
            refine wp_build28 _ rfl d0.p d0.o d0.d rfl HD0A.out ?_
            intro gq y11 hgq hbq haw hwe hge
            have hS := Away.on hHeld haw
            clear haw hwe hge hgq
            refine hK.out _ _ hS (fun hHeld => ?_)
            clear hK K
            try simp only [Act.put, List.setIfInBounds_toArray, List.set_cons_zero, List.set_cons_succ]
            as_aux_lemma =>
              refine wpAnyH_ready (rs := [1, 11]) (by kernel_rfl) (by simp) ?_
              refine AllReadyH.cons (by simp only [List.getElem?_toArray, List.getElem?_cons_succ, List.getElem?_cons_zero]; rfl) (fun K hK => ?_) (AllReadyH.cons (by simp only [List.getElem?_toArray, List.getElem?_cons_succ, List.getElem?_cons_zero]; rfl) (fun K hK => ?_) AllReadyH.nil)
              · go_simp
                refine (owns_c (some ⟨db, 0, none⟩) (d0 :: dr) na dc _ HDN.out (by exact HDP.out.on hHeld) (by omega)).mono ?_
                rintro E y12 ⟨ow, os, rfl, hos0, hom, haw⟩
                have hos : Cuts y12 wk.heap.size ow os := hos0.mono (Away.size hHeld)
                have hS := Away.on hHeld haw
                replace hbq := hbq.on haw
                clear haw hos0
                go_wp2_with fail
                refine hK.out _ _ hS (fun hHeld => ?_)
                clear hK K
                try simp only [Act.put, List.setIfInBounds_toArray, List.set_cons_zero, List.set_cons_succ]
                as_aux_lemma =>
                  refine wpAnyH_ready (rs := [6, 11]) (by kernel_rfl) (by simp) ?_
                  refine AllReadyH.cons (by simp only [List.getElem?_toArray, List.getElem?_cons_succ, List.getElem?_cons_zero]; rfl) (fun K hK => ?_) (AllReadyH.cons (by simp only [List.getElem?_toArray, List.getElem?_cons_succ, List.getElem?_cons_zero]; rfl) (fun K hK => ?_) AllReadyH.nil)
                  · rw [if_pos (by rfl)]
                    refine wp_appP _ _ rfl _ os rfl hos.lst gq 1 rfl d0.p d0.o d0.d hbq HD0A.out HD0O.out HD0D.out (by have := congrArg List.length hom; simp only [List.length_map] at this; have := HDN.out; omega) ?_
                    intro vn y13 hln hgr hmv
                    have hS : Away [] wk y13 := Away.grown hHeld hgr (fun k hk => .inr (hos.new k hk))
                    have hall : ∀ z ∈ os ++ [d0], z.ok y13 := fun z hz => by
                      rcases List.mem_append.1 hz with hz | hz
                      · exact cuts_grown_ok hos hgr z hz
                      · simp at hz; subst hz; exact HD0K.out.on hS
                    obtain ⟨va, vc, hvn, -, hvn0, hpn, -⟩ := LstP.pks (xs := os ++ [d0]) hln (by have := congrArg List.length hom; simp only [List.length_map] at this; have := HDN.out; rw [List.length_append]; simp; omega) hall
                    obtain ⟨nn, hnn⟩ : ∃ nn, (os ++ [d0]).length = nn := ⟨_, rfl⟩
                    rw [hnn] at hvn
                    subst hvn
                    clear hall hln hgr hmv hos hbq
                    refine hK.out _ _ hS (fun hHeld => ?_)
                    clear hK K
                    try simp only [Act.put, List.setIfInBounds_toArray, List.set_cons_zero, List.set_cons_succ]
                    as_aux_lemma =>
                      refine wpAnyH_ready (rs := [7, 11]) (by kernel_rfl) (by simp) ?_
                      refine AllReadyH.cons (by simp only [List.getElem?_toArray, List.getElem?_cons_succ, List.getElem?_cons_zero]; rfl) (fun K hK => ?_) (AllReadyH.cons (by simp only [List.getElem?_toArray, List.getElem?_cons_succ, List.getElem?_cons_zero]; rfl) (fun K hK => ?_) AllReadyH.nil)
                      · go_simp
                        refine (join_c va (os ++ [d0]) nn vc _ hnn hvn0 hpn (by exact HG.out.on hHeld)).mono ?_
                        rintro E y14 ⟨tt, tc, tov, tdv, htt, rfl, htw, hmn, haw⟩
                        obtain rfl : tc = 1 := join_twice HRA.out (x := d0.p) (by rw [List.map_append, hom]; exact (List.perm_append_comm (l₁ := (d0 :: dr).map X.p) (l₂ := [d0.p])).trans (List.Perm.cons _ HDPM.out)) (HDPM.out.mem_iff.1 (by simp)) htt
                        have hS := Away.on hHeld haw
                        have hto := hmn.o.one; have htd := hmn.d.one
                        clear haw htt hmn hpn
                        go_wp2_with fail
                        refine hK.out _ _ hS (fun hHeld => ?_)
                        clear hK K
                        try simp only [Act.put, List.setIfInBounds_toArray, List.set_cons_zero, List.set_cons_succ]
                        as_aux_lemma =>
                          refine wpAnyH_take (i := 8) (v := ?_) (by simp only [List.getElem?_toArray, List.getElem?_cons_succ, List.getElem?_cons_zero]; rfl) (by kernel_rfl) (by kernel_rfl) (by kernel_rfl) (by exact fun _ _ _ h => h) (Or.inl ⟨by rfl, ?_⟩) (by assumption) ?_
                          rotate_left
                          · intro wq hSw
                            (try dsimp only at hSw)
                            go_simp
                            all_goals (with_reducible rfl)
                          try simp only [Act.put, List.setIfInBounds_toArray, List.set_cons_zero, List.set_cons_succ]
                          refine wpAnyH_take (i := 9) (v := ?_) (by simp only [List.getElem?_toArray, List.getElem?_cons_succ, List.getElem?_cons_zero]; rfl) (by kernel_rfl) (by kernel_rfl) (by kernel_rfl) (by exact fun _ _ _ h => h) (Or.inl ⟨by rfl, ?_⟩) (by assumption) ?_
                          rotate_left
                          · intro wq hSw
                            (try dsimp only at hSw)
                            go_simp
                            all_goals (with_reducible rfl)
                          try simp only [Act.put, List.setIfInBounds_toArray, List.set_cons_zero, List.set_cons_succ]
                          refine wpAnyH_take (i := 10) (v := ?_) (by simp only [List.getElem?_toArray, List.getElem?_cons_succ, List.getElem?_cons_zero]; rfl) (by kernel_rfl) (by kernel_rfl) (by kernel_rfl) (by exact fun _ _ _ h => h) (Or.inl ⟨by rfl, ?_⟩) (by assumption) ?_
                          rotate_left
                          · intro wq hSw
                            (try dsimp only at hSw)
                            go_simp
                            all_goals (with_reducible rfl)
                          try simp only [Act.put, List.setIfInBounds_toArray, List.set_cons_zero, List.set_cons_succ]
                          refine wpAnyH_ready (rs := [11]) (by kernel_rfl) (by simp) ?_
                          refine AllReadyH.cons (by simp only [List.getElem?_toArray, List.getElem?_cons_succ, List.getElem?_cons_zero]; rfl) (fun K hK => ?_) AllReadyH.nil
                          rw [if_pos (by rfl)]
                          refine wp_alloc28 rfl ?_
                          intro g20 y15 hg20 hbx haw
                          have hgk : wk.heap.size ≤ g20 := Nat.le_trans (Away.size hHeld) hg20
                          have hS := Away.on hHeld haw
                          clear haw
                          refine hK.out _ _ hS (fun hHeld => ?_)
                          clear hK K
                          try simp only [Act.put, List.setIfInBounds_toArray, List.set_cons_zero, List.set_cons_succ]
                          as_aux_lemma =>
                            refine wpAnyH_ready (rs := [12]) (by kernel_rfl) (by simp) ?_
                            refine AllReadyH.cons (by simp only [List.getElem?_toArray, List.getElem?_cons_succ, List.getElem?_cons_zero]; rfl) (fun K hK => ?_) AllReadyH.nil
                            rw [if_pos (by rfl)]
                            refine wp_store28 (.tmp 20) (.tmp 107) rfl g20 rfl tt tov tdv rfl zeroPk (.slice none 0 0) (.slice none 0 0) (by exact hbx) htw.ad ⟨rfl, rfl⟩ hto htd ?_
                            intro y16 hb2 haw
                            have hS : Away [] wk y16 := Away.next hHeld haw (fun x hx => .inr (by simp at hx; omega))
                            clear haw
                            refine hK.out _ _ hS (fun hHeld => ?_)
                            clear hK K
                            try simp only [Act.put]
                            as_aux_lemma =>
                              refine wpAnyH_take (i := 13) (v := ?_) (by simp only [List.getElem?_toArray, List.getElem?_cons_succ, List.getElem?_cons_zero]; rfl) (by kernel_rfl) (by kernel_rfl) (by kernel_rfl) (by exact fun _ _ _ h => h) (Or.inl ⟨by rfl, ?_⟩) (by assumption) ?_
                              rotate_left
                              · intro wq hSw
                                (try dsimp only at hSw)
                                go_simp
                                all_goals (with_reducible rfl)
                              try simp only [Act.put]
                              refine wpAnyH_done (by kernel_rfl) ?_ _
                              go_wp2_with fail
                              go_meet
                              exact ⟨rfl, hHeld⟩
                      · rw [if_pos (by rfl)]
                        refine wp_alloc28 rfl ?_
                        intro g20 y14 hg20 hbx haw
                        have hgk : wk.heap.size ≤ g20 := Nat.le_trans (Away.size hHeld) hg20
                        have hS := Away.on hHeld haw
                        replace hpn := hpn.on haw
                        clear haw
                        refine hK.out _ _ hS (fun hHeld => ?_)
                        clear hK K
                        try simp only [Act.put, List.setIfInBounds_toArray, List.set_cons_zero, List.set_cons_succ]
                        as_aux_lemma =>
                          refine wpAnyH_ready (rs := [7]) (by kernel_rfl) (by simp) ?_
                          refine AllReadyH.cons (by simp only [List.getElem?_toArray, List.getElem?_cons_succ, List.getElem?_cons_zero]; rfl) (fun K hK => ?_) AllReadyH.nil
                          go_simp
                          refine (join_c va (os ++ [d0]) nn vc _ hnn hvn0 hpn (by exact HG.out.on hHeld)).mono ?_
                          rintro E y15 ⟨tt, tc, tov, tdv, htt, rfl, htw, hmn, haw⟩
                          obtain rfl : tc = 1 := join_twice HRA.out (x := d0.p) (by rw [List.map_append, hom]; exact (List.perm_append_comm (l₁ := (d0 :: dr).map X.p) (l₂ := [d0.p])).trans (List.Perm.cons _ HDPM.out)) (HDPM.out.mem_iff.1 (by simp)) htt
                          have hS := Away.on hHeld haw
                          have hto := hmn.o.one; have htd := hmn.d.one
                          replace hbx := hbx.on haw
                          clear haw htt hmn hpn
                          go_wp2_with fail
                          refine hK.out _ _ hS (fun hHeld => ?_)
                          clear hK K
                          try simp only [Act.put, List.setIfInBounds_toArray, List.set_cons_zero, List.set_cons_succ]
                          as_aux_lemma =>
                            refine wpAnyH_take (i := 8) (v := ?_) (by simp only [List.getElem?_toArray, List.getElem?_cons_succ, List.getElem?_cons_zero]; rfl) (by kernel_rfl) (by kernel_rfl) (by kernel_rfl) (by exact fun _ _ _ h => h) (Or.inl ⟨by rfl, ?_⟩) (by assumption) ?_
                            rotate_left
                            · intro wq hSw
                              (try dsimp only at hSw)
                              go_simp
                              all_goals (with_reducible rfl)
                            try simp only [Act.put, List.setIfInBounds_toArray, List.set_cons_zero, List.set_cons_succ]
                            refine wpAnyH_take (i := 9) (v := ?_) (by simp only [List.getElem?_toArray, List.getElem?_cons_succ, List.getElem?_cons_zero]; rfl) (by kernel_rfl) (by kernel_rfl) (by kernel_rfl) (by exact fun _ _ _ h => h) (Or.inl ⟨by rfl, ?_⟩) (by assumption) ?_
                            rotate_left
                            · intro wq hSw
                              (try dsimp only at hSw)
                              go_simp
                              all_goals (with_reducible rfl)
                            try simp only [Act.put, List.setIfInBounds_toArray, List.set_cons_zero, List.set_cons_succ]
                            refine wpAnyH_take (i := 10) (v := ?_) (by simp only [List.getElem?_toArray, List.getElem?_cons_succ, List.getElem?_cons_zero]; rfl) (by kernel_rfl) (by kernel_rfl) (by kernel_rfl) (by exact fun _ _ _ h => h) (Or.inl ⟨by rfl, ?_⟩) (by assumption) ?_
                            rotate_left
                            · intro wq hSw
                              (try dsimp only at hSw)
                              go_simp
                              all_goals (with_reducible rfl)
                            try simp only [Act.put, List.setIfInBounds_toArray, List.set_cons_zero, List.set_cons_succ]
                            refine wpAnyH_ready (rs := [12]) (by kernel_rfl) (by simp) ?_
                            refine AllReadyH.cons (by simp only [List.getElem?_toArray, List.getElem?_cons_succ, List.getElem?_cons_zero]; rfl) (fun K hK => ?_) AllReadyH.nil
                            rw [if_pos (by rfl)]
                            refine wp_store28 (.tmp 20) (.tmp 107) rfl g20 rfl tt tov tdv rfl zeroPk (.slice none 0 0) (.slice none 0 0) (by exact hbx) htw.ad ⟨rfl, rfl⟩ hto htd ?_
                            intro y16 hb2 haw
                            have hS : Away [] wk y16 := Away.next hHeld haw (fun x hx => .inr (by simp at hx; omega))
                            clear haw
                            refine hK.out _ _ hS (fun hHeld => ?_)
                            clear hK K
                            try simp only [Act.put]
                            as_aux_lemma =>
                              refine wpAnyH_take (i := 13) (v := ?_) (by simp only [List.getElem?_toArray, List.getElem?_cons_succ, List.getElem?_cons_zero]; rfl) (by kernel_rfl) (by kernel_rfl) (by kernel_rfl) (by exact fun _ _ _ h => h) (Or.inl ⟨by rfl, ?_⟩) (by assumption) ?_
                              rotate_left
                              · intro wq hSw
                                (try dsimp only at hSw)
                                go_simp
                                all_goals (with_reducible rfl)
                              try simp only [Act.put]
                              refine wpAnyH_done (by kernel_rfl) ?_ _
                              go_wp2_with fail
                              go_meet
                              exact ⟨rfl, hHeld⟩
                  · rw [if_pos (by rfl)]
                    refine wp_alloc28 rfl ?_
                    intro g20 y13 hg20 hbx haw
                    have hgk : wk.heap.size ≤ g20 := Nat.le_trans (Away.size hHeld) hg20
                    have hS := Away.on hHeld haw
                    have hox : ow.ownBlock ≠ some g20 := fun e => by have h1 := hos.lst.lt g20 e; omega
                    replace hos := hos.on haw
                    replace hbq := hbq.on haw
                    clear haw
                    refine hK.out _ _ hS (fun hHeld => ?_)
                    clear hK K
                    try simp only [Act.put, List.setIfInBounds_toArray, List.set_cons_zero, List.set_cons_succ]
                    as_aux_lemma =>
                      refine wpAnyH_ready (rs := [6]) (by kernel_rfl) (by simp) ?_
                      refine AllReadyH.cons (by simp only [List.getElem?_toArray, List.getElem?_cons_succ, List.getElem?_cons_zero]; rfl) (fun K hK => ?_) AllReadyH.nil
                      rw [if_pos (by rfl)]
                      refine wp_appP _ _ rfl _ os rfl hos.lst gq 1 rfl d0.p d0.o d0.d hbq HD0A.out HD0O.out HD0D.out (by have := congrArg List.length hom; simp only [List.length_map] at this; have := HDN.out; omega) ?_
                      intro vn y14 hln hgr hmv
                      have hS : Away [] wk y14 := Away.grown hHeld hgr (fun k hk => .inr (hos.new k hk))
                      have hall : ∀ z ∈ os ++ [d0], z.ok y14 := fun z hz => by
                        rcases List.mem_append.1 hz with hz | hz
                        · exact cuts_grown_ok hos hgr z hz
                        · simp at hz; subst hz; exact HD0K.out.on hS
                      obtain ⟨va, vc, hvn, -, hvn0, hpn, -⟩ := LstP.pks (xs := os ++ [d0]) hln (by have := congrArg List.length hom; simp only [List.length_map] at this; have := HDN.out; rw [List.length_append]; simp; omega) hall
                      obtain ⟨nn, hnn⟩ : ∃ nn, (os ++ [d0]).length = nn := ⟨_, rfl⟩
                      rw [hnn] at hvn
                      subst hvn
                      replace hbx := hbx.away ((Away.refl ow.ownBlock.toList _).grown hgr (fun k hk => .inl (by have hk2 : ow.ownBlock = some k := hk; simp [hk2]))) (fun e => by simp at e; exact hox e)
                      clear hall hln hgr hmv hos hbq
                      refine hK.out _ _ hS (fun hHeld => ?_)
                      clear hK K
                      try simp only [Act.put, List.setIfInBounds_toArray, List.set_cons_zero, List.set_cons_succ]
                      as_aux_lemma =>
                        refine wpAnyH_ready (rs := [7]) (by kernel_rfl) (by simp) ?_
                        refine AllReadyH.cons (by simp only [List.getElem?_toArray, List.getElem?_cons_succ, List.getElem?_cons_zero]; rfl) (fun K hK => ?_) AllReadyH.nil
                        go_simp
                        refine (join_c va (os ++ [d0]) nn vc _ hnn hvn0 hpn (by exact HG.out.on hHeld)).mono ?_
                        rintro E y15 ⟨tt, tc, tov, tdv, htt, rfl, htw, hmn, haw⟩
                        obtain rfl : tc = 1 := join_twice HRA.out (x := d0.p) (by rw [List.map_append, hom]; exact (List.perm_append_comm (l₁ := (d0 :: dr).map X.p) (l₂ := [d0.p])).trans (List.Perm.cons _ HDPM.out)) (HDPM.out.mem_iff.1 (by simp)) htt
                        have hS := Away.on hHeld haw
                        have hto := hmn.o.one; have htd := hmn.d.one
                        replace hbx := hbx.on haw
                        clear haw htt hmn hpn
                        go_wp2_with fail
                        refine hK.out _ _ hS (fun hHeld => ?_)
                        clear hK K
                        try simp only [Act.put, List.setIfInBounds_toArray, List.set_cons_zero, List.set_cons_succ]
                        as_aux_lemma =>
                          refine wpAnyH_take (i := 8) (v := ?_) (by simp only [List.getElem?_toArray, List.getElem?_cons_succ, List.getElem?_cons_zero]; rfl) (by kernel_rfl) (by kernel_rfl) (by kernel_rfl) (by exact fun _ _ _ h => h) (Or.inl ⟨by rfl, ?_⟩) (by assumption) ?_
                          rotate_left
                          · intro wq hSw
                            (try dsimp only at hSw)
                            go_simp
                            all_goals (with_reducible rfl)
                          try simp only [Act.put, List.setIfInBounds_toArray, List.set_cons_zero, List.set_cons_succ]
                          refine wpAnyH_take (i := 9) (v := ?_) (by simp only [List.getElem?_toArray, List.getElem?_cons_succ, List.getElem?_cons_zero]; rfl) (by kernel_rfl) (by kernel_rfl) (by kernel_rfl) (by exact fun _ _ _ h => h) (Or.inl ⟨by rfl, ?_⟩) (by assumption) ?_
                          rotate_left
                          · intro wq hSw
                            (try dsimp only at hSw)
                            go_simp
                            all_goals (with_reducible rfl)
                          try simp only [Act.put, List.setIfInBounds_toArray, List.set_cons_zero, List.set_cons_succ]
                          refine wpAnyH_take (i := 10) (v := ?_) (by simp only [List.getElem?_toArray, List.getElem?_cons_succ, List.getElem?_cons_zero]; rfl) (by kernel_rfl) (by kernel_rfl) (by kernel_rfl) (by exact fun _ _ _ h => h) (Or.inl ⟨by rfl, ?_⟩) (by assumption) ?_
                          rotate_left
                          · intro wq hSw
                            (try dsimp only at hSw)
                            go_simp
                            all_goals (with_reducible rfl)
                          try simp only [Act.put, List.setIfInBounds_toArray, List.set_cons_zero, List.set_cons_succ]
                          refine wpAnyH_ready (rs := [12]) (by kernel_rfl) (by simp) ?_
                          refine AllReadyH.cons (by simp only [List.getElem?_toArray, List.getElem?_cons_succ, List.getElem?_cons_zero]; rfl) (fun K hK => ?_) AllReadyH.nil
                          rw [if_pos (by rfl)]
                          refine wp_store28 (.tmp 20) (.tmp 107) rfl g20 rfl tt tov tdv rfl zeroPk (.slice none 0 0) (.slice none 0 0) (by exact hbx) htw.ad ⟨rfl, rfl⟩ hto htd ?_
                          intro y16 hb2 haw
                          have hS : Away [] wk y16 := Away.next hHeld haw (fun x hx => .inr (by simp at hx; omega))
                          clear haw
                          refine hK.out _ _ hS (fun hHeld => ?_)
                          clear hK K
                          try simp only [Act.put]
                          as_aux_lemma =>
                            refine wpAnyH_take (i := 13) (v := ?_) (by simp only [List.getElem?_toArray, List.getElem?_cons_succ, List.getElem?_cons_zero]; rfl) (by kernel_rfl) (by kernel_rfl) (by kernel_rfl) (by exact fun _ _ _ h => h) (Or.inl ⟨by rfl, ?_⟩) (by assumption) ?_
                            rotate_left
                            · intro wq hSw
                              (try dsimp only at hSw)
                              go_simp
                              all_goals (with_reducible rfl)
                            try simp only [Act.put]
                            refine wpAnyH_done (by kernel_rfl) ?_ _
                            go_wp2_with fail
                            go_meet
                            exact ⟨rfl, hHeld⟩
              · rw [if_pos (by rfl)]
                refine wp_alloc28 rfl ?_
                intro g20 y12 hg20 hbx haw
                have hgk : wk.heap.size ≤ g20 := Nat.le_trans (Away.size hHeld) hg20
                have hS := Away.on hHeld haw
                replace hbq := hbq.on haw
                clear haw
                refine hK.out _ _ hS (fun hHeld => ?_)
                clear hK K
                try simp only [Act.put, List.setIfInBounds_toArray, List.set_cons_zero, List.set_cons_succ]
                as_aux_lemma =>
                  refine wpAnyH_ready (rs := [1]) (by kernel_rfl) (by simp) ?_
                  refine AllReadyH.cons (by simp only [List.getElem?_toArray, List.getElem?_cons_succ, List.getElem?_cons_zero]; rfl) (fun K hK => ?_) AllReadyH.nil
                  go_simp
                  refine (owns_c (some ⟨db, 0, none⟩) (d0 :: dr) na dc _ HDN.out (by exact HDP.out.on hHeld) (by omega)).mono ?_
                  rintro E y13 ⟨ow, os, rfl, hos0, hom, haw⟩
                  have hos : Cuts y13 wk.heap.size ow os := hos0.mono (Away.size hHeld)
                  have hS := Away.on hHeld haw
                  have hox : ow.ownBlock ≠ some g20 := fun e => by have h1 := hos0.new g20 e; have h2 := hbx.lt; omega
                  replace hbq := hbq.on haw
                  replace hbx := hbx.on haw
                  clear haw hos0
                  go_wp2_with fail
                  refine hK.out _ _ hS (fun hHeld => ?_)
                  clear hK K
                  try simp only [Act.put, List.setIfInBounds_toArray, List.set_cons_zero, List.set_cons_succ]
                  as_aux_lemma =>
                    refine wpAnyH_ready (rs := [6]) (by kernel_rfl) (by simp) ?_
                    refine AllReadyH.cons (by simp only [List.getElem?_toArray, List.getElem?_cons_succ, List.getElem?_cons_zero]; rfl) (fun K hK => ?_) AllReadyH.nil
                    rw [if_pos (by rfl)]
                    refine wp_appP _ _ rfl _ os rfl hos.lst gq 1 rfl d0.p d0.o d0.d hbq HD0A.out HD0O.out HD0D.out (by have := congrArg List.length hom; simp only [List.length_map] at this; have := HDN.out; omega) ?_
                    intro vn y14 hln hgr hmv
                    have hS : Away [] wk y14 := Away.grown hHeld hgr (fun k hk => .inr (hos.new k hk))
                    have hall : ∀ z ∈ os ++ [d0], z.ok y14 := fun z hz => by
                      rcases List.mem_append.1 hz with hz | hz
                      · exact cuts_grown_ok hos hgr z hz
                      · simp at hz; subst hz; exact HD0K.out.on hS
                    obtain ⟨va, vc, hvn, -, hvn0, hpn, -⟩ := LstP.pks (xs := os ++ [d0]) hln (by have := congrArg List.length hom; simp only [List.length_map] at this; have := HDN.out; rw [List.length_append]; simp; omega) hall
                    obtain ⟨nn, hnn⟩ : ∃ nn, (os ++ [d0]).length = nn := ⟨_, rfl⟩
                    rw [hnn] at hvn
                    subst hvn
                    replace hbx := hbx.away ((Away.refl ow.ownBlock.toList _).grown hgr (fun k hk => .inl (by have hk2 : ow.ownBlock = some k := hk; simp [hk2]))) (fun e => by simp at e; exact hox e)
                    clear hall hln hgr hmv hos hbq
                    refine hK.out _ _ hS (fun hHeld => ?_)
                    clear hK K
                    try simp only [Act.put, List.setIfInBounds_toArray, List.set_cons_zero, List.set_cons_succ]
                    as_aux_lemma =>
                      refine wpAnyH_ready (rs := [7]) (by kernel_rfl) (by simp) ?_
                      refine AllReadyH.cons (by simp only [List.getElem?_toArray, List.getElem?_cons_succ, List.getElem?_cons_zero]; rfl) (fun K hK => ?_) AllReadyH.nil
                      go_simp
                      refine (join_c va (os ++ [d0]) nn vc _ hnn hvn0 hpn (by exact HG.out.on hHeld)).mono ?_
                      rintro E y15 ⟨tt, tc, tov, tdv, htt, rfl, htw, hmn, haw⟩
                      obtain rfl : tc = 1 := join_twice HRA.out (x := d0.p) (by rw [List.map_append, hom]; exact (List.perm_append_comm (l₁ := (d0 :: dr).map X.p) (l₂ := [d0.p])).trans (List.Perm.cons _ HDPM.out)) (HDPM.out.mem_iff.1 (by simp)) htt
                      have hS := Away.on hHeld haw
                      have hto := hmn.o.one; have htd := hmn.d.one
                      replace hbx := hbx.on haw
                      clear haw htt hmn hpn
                      go_wp2_with fail
                      refine hK.out _ _ hS (fun hHeld => ?_)
                      clear hK K
                      try simp only [Act.put, List.setIfInBounds_toArray, List.set_cons_zero, List.set_cons_succ]
                      as_aux_lemma =>
                        refine wpAnyH_take (i := 8) (v := ?_) (by simp only [List.getElem?_toArray, List.getElem?_cons_succ, List.getElem?_cons_zero]; rfl) (by kernel_rfl) (by kernel_rfl) (by kernel_rfl) (by exact fun _ _ _ h => h) (Or.inl ⟨by rfl, ?_⟩) (by assumption) ?_
                        rotate_left
                        · intro wq hSw
                          (try dsimp only at hSw)
                          go_simp
                          all_goals (with_reducible rfl)
                        try simp only [Act.put, List.setIfInBounds_toArray, List.set_cons_zero, List.set_cons_succ]
                        refine wpAnyH_take (i := 9) (v := ?_) (by simp only [List.getElem?_toArray, List.getElem?_cons_succ, List.getElem?_cons_zero]; rfl) (by kernel_rfl) (by kernel_rfl) (by kernel_rfl) (by exact fun _ _ _ h => h) (Or.inl ⟨by rfl, ?_⟩) (by assumption) ?_
                        rotate_left
                        · intro wq hSw
                          (try dsimp only at hSw)
                          go_simp
                          all_goals (with_reducible rfl)
                        try simp only [Act.put, List.setIfInBounds_toArray, List.set_cons_zero, List.set_cons_succ]
                        refine wpAnyH_take (i := 10) (v := ?_) (by simp only [List.getElem?_toArray, List.getElem?_cons_succ, List.getElem?_cons_zero]; rfl) (by kernel_rfl) (by kernel_rfl) (by kernel_rfl) (by exact fun _ _ _ h => h) (Or.inl ⟨by rfl, ?_⟩) (by assumption) ?_
                        rotate_left
                        · intro wq hSw
                          (try dsimp only at hSw)
                          go_simp
                          all_goals (with_reducible rfl)
                        try simp only [Act.put, List.setIfInBounds_toArray, List.set_cons_zero, List.set_cons_succ]
                        refine wpAnyH_ready (rs := [12]) (by kernel_rfl) (by simp) ?_
                        refine AllReadyH.cons (by simp only [List.getElem?_toArray, List.getElem?_cons_succ, List.getElem?_cons_zero]; rfl) (fun K hK => ?_) AllReadyH.nil
                        rw [if_pos (by rfl)]
                        refine wp_store28 (.tmp 20) (.tmp 107) rfl g20 rfl tt tov tdv rfl zeroPk (.slice none 0 0) (.slice none 0 0) (by exact hbx) htw.ad ⟨rfl, rfl⟩ hto htd ?_
                        intro y16 hb2 haw
                        have hS : Away [] wk y16 := Away.next hHeld haw (fun x hx => .inr (by simp at hx; omega))
                        clear haw
                        refine hK.out _ _ hS (fun hHeld => ?_)
                        clear hK K
                        try simp only [Act.put]
                        as_aux_lemma =>
                          refine wpAnyH_take (i := 13) (v := ?_) (by simp only [List.getElem?_toArray, List.getElem?_cons_succ, List.getElem?_cons_zero]; rfl) (by kernel_rfl) (by kernel_rfl) (by kernel_rfl) (by exact fun _ _ _ h => h) (Or.inl ⟨by rfl, ?_⟩) (by assumption) ?_
                          rotate_left
                          · intro wq hSw
                            (try dsimp only at hSw)
                            go_simp
                            all_goals (with_reducible rfl)
                          try simp only [Act.put]
                          refine wpAnyH_done (by kernel_rfl) ?_ _
                          go_wp2_with fail
                          go_meet
                          exact ⟨rfl, hHeld⟩
          · rw [if_pos (by rfl)]
            refine wp_alloc28 rfl ?_
            intro g20 y11 hg20 hbx haw
            have hgk : wk.heap.size ≤ g20 := Nat.le_trans (Away.size hHeld) hg20
            have hS := Away.on hHeld haw
            clear haw
            refine hK.out _ _ hS (fun hHeld => ?_)
            clear hK K
            try simp only [Act.put, List.setIfInBounds_toArray, List.set_cons_zero, List.set_cons_succ]
            as_aux_lemma =>
              refine wpAnyH_ready (rs := [1, 5]) (by kernel_rfl) (by simp) ?_
              refine AllReadyH.cons (by simp only [List.getElem?_toArray, List.getElem?_cons_succ, List.getElem?_cons_zero]; rfl) (fun K hK => ?_) (AllReadyH.cons (by simp only [List.getElem?_toArray, List.getElem?_cons_succ, List.getElem?_cons_zero]; rfl) (fun K hK => ?_) AllReadyH.nil)
              · go_simp
                refine (owns_c (some ⟨db, 0, none⟩) (d0 :: dr) na dc _ HDN.out (by exact HDP.out.on hHeld) (by omega)).mono ?_
                rintro E y12 ⟨ow, os, rfl, hos0, hom, haw⟩
                have hos : Cuts y12 wk.heap.size ow os := hos0.mono (Away.size hHeld)
                have hS := Away.on hHeld haw
                have hox : ow.ownBlock ≠ some g20 := fun e => by have h1 := hos0.new g20 e; have h2 := hbx.lt; omega
                replace hbx := hbx.on haw
                clear haw hos0
                go_wp2_with fail
                refine hK.out _ _ hS (fun hHeld => ?_)
                clear hK K
                try simp only [Act.put, List.setIfInBounds_toArray, List.set_cons_zero, List.set_cons_succ]
                as_aux_lemma =>
                  refine wpAnyH_ready (rs := [5]) (by kernel_rfl) (by simp) ?_
                  refine AllReadyH.cons (by simp only [List.getElem?_toArray, List.getElem?_cons_succ, List.getElem?_cons_zero]; rfl) (fun K hK => ?_) AllReadyH.nil
                  rw [if_pos (by rfl)]
                  refine wp_build28 _ rfl d0.p d0.o d0.d rfl HD0A.out ?_
                  intro gq y13 hgq hbq haw hwe hge
                  have hS := Away.on hHeld haw
                  replace hos := hos.on haw
                  replace hbx := hbx.on haw
                  clear haw hwe hge hgq
                  refine hK.out _ _ hS (fun hHeld => ?_)
                  clear hK K
                  try simp only [Act.put, List.setIfInBounds_toArray, List.set_cons_zero, List.set_cons_succ]
                  as_aux_lemma =>
                    refine wpAnyH_ready (rs := [6]) (by kernel_rfl) (by simp) ?_
                    refine AllReadyH.cons (by simp only [List.getElem?_toArray, List.getElem?_cons_succ, List.getElem?_cons_zero]; rfl) (fun K hK => ?_) AllReadyH.nil
                    rw [if_pos (by rfl)]
                    refine wp_appP _ _ rfl _ os rfl hos.lst gq 1 rfl d0.p d0.o d0.d hbq HD0A.out HD0O.out HD0D.out (by have := congrArg List.length hom; simp only [List.length_map] at this; have := HDN.out; omega) ?_
                    intro vn y14 hln hgr hmv
                    have hS : Away [] wk y14 := Away.grown hHeld hgr (fun k hk => .inr (hos.new k hk))
                    have hall : ∀ z ∈ os ++ [d0], z.ok y14 := fun z hz => by
                      rcases List.mem_append.1 hz with hz | hz
                      · exact cuts_grown_ok hos hgr z hz
                      · simp at hz; subst hz; exact HD0K.out.on hS
                    obtain ⟨va, vc, hvn, -, hvn0, hpn, -⟩ := LstP.pks (xs := os ++ [d0]) hln (by have := congrArg List.length hom; simp only [List.length_map] at this; have := HDN.out; rw [List.length_append]; simp; omega) hall
                    obtain ⟨nn, hnn⟩ : ∃ nn, (os ++ [d0]).length = nn := ⟨_, rfl⟩
                    rw [hnn] at hvn
                    subst hvn
                    replace hbx := hbx.away ((Away.refl ow.ownBlock.toList _).grown hgr (fun k hk => .inl (by have hk2 : ow.ownBlock = some k := hk; simp [hk2]))) (fun e => by simp at e; exact hox e)
                    clear hall hln hgr hmv hos hbq
                    refine hK.out _ _ hS (fun hHeld => ?_)
                    clear hK K
                    try simp only [Act.put, List.setIfInBounds_toArray, List.set_cons_zero, List.set_cons_succ]
                    as_aux_lemma =>
                      refine wpAnyH_ready (rs := [7]) (by kernel_rfl) (by simp) ?_
                      refine AllReadyH.cons (by simp only [List.getElem?_toArray, List.getElem?_cons_succ, List.getElem?_cons_zero]; rfl) (fun K hK => ?_) AllReadyH.nil
                      go_simp
                      refine (join_c va (os ++ [d0]) nn vc _ hnn hvn0 hpn (by exact HG.out.on hHeld)).mono ?_
                      rintro E y15 ⟨tt, tc, tov, tdv, htt, rfl, htw, hmn, haw⟩
                      obtain rfl : tc = 1 := join_twice HRA.out (x := d0.p) (by rw [List.map_append, hom]; exact (List.perm_append_comm (l₁ := (d0 :: dr).map X.p) (l₂ := [d0.p])).trans (List.Perm.cons _ HDPM.out)) (HDPM.out.mem_iff.1 (by simp)) htt
                      have hS := Away.on hHeld haw
                      have hto := hmn.o.one; have htd := hmn.d.one
                      replace hbx := hbx.on haw
                      clear haw htt hmn hpn
                      go_wp2_with fail
                      refine hK.out _ _ hS (fun hHeld => ?_)
                      clear hK K
                      try simp only [Act.put, List.setIfInBounds_toArray, List.set_cons_zero, List.set_cons_succ]
                      as_aux_lemma =>
                        refine wpAnyH_take (i := 8) (v := ?_) (by simp only [List.getElem?_toArray, List.getElem?_cons_succ, List.getElem?_cons_zero]; rfl) (by kernel_rfl) (by kernel_rfl) (by kernel_rfl) (by exact fun _ _ _ h => h) (Or.inl ⟨by rfl, ?_⟩) (by assumption) ?_
                        rotate_left
                        · intro wq hSw
                          (try dsimp only at hSw)
                          go_simp
                          all_goals (with_reducible rfl)
                        try simp only [Act.put, List.setIfInBounds_toArray, List.set_cons_zero, List.set_cons_succ]
                        refine wpAnyH_take (i := 9) (v := ?_) (by simp only [List.getElem?_toArray, List.getElem?_cons_succ, List.getElem?_cons_zero]; rfl) (by kernel_rfl) (by kernel_rfl) (by kernel_rfl) (by exact fun _ _ _ h => h) (Or.inl ⟨by rfl, ?_⟩) (by assumption) ?_
                        rotate_left
                        · intro wq hSw
                          (try dsimp only at hSw)
                          go_simp
                          all_goals (with_reducible rfl)
                        try simp only [Act.put, List.setIfInBounds_toArray, List.set_cons_zero, List.set_cons_succ]
                        refine wpAnyH_take (i := 10) (v := ?_) (by simp only [List.getElem?_toArray, List.getElem?_cons_succ, List.getElem?_cons_zero]; rfl) (by kernel_rfl) (by kernel_rfl) (by kernel_rfl) (by exact fun _ _ _ h => h) (Or.inl ⟨by rfl, ?_⟩) (by assumption) ?_
                        rotate_left
                        · intro wq hSw
                          (try dsimp only at hSw)
                          go_simp
                          all_goals (with_reducible rfl)
                        try simp only [Act.put, List.setIfInBounds_toArray, List.set_cons_zero, List.set_cons_succ]
                        refine wpAnyH_ready (rs := [12]) (by kernel_rfl) (by simp) ?_
                        refine AllReadyH.cons (by simp only [List.getElem?_toArray, List.getElem?_cons_succ, List.getElem?_cons_zero]; rfl) (fun K hK => ?_) AllReadyH.nil
                        rw [if_pos (by rfl)]
                        refine wp_store28 (.tmp 20) (.tmp 107) rfl g20 rfl tt tov tdv rfl zeroPk (.slice none 0 0) (.slice none 0 0) (by exact hbx) htw.ad ⟨rfl, rfl⟩ hto htd ?_
                        intro y16 hb2 haw
                        have hS : Away [] wk y16 := Away.next hHeld haw (fun x hx => .inr (by simp at hx; omega))
                        clear haw
                        refine hK.out _ _ hS (fun hHeld => ?_)
                        clear hK K
                        try simp only [Act.put]
                        as_aux_lemma =>
                          refine wpAnyH_take (i := 13) (v := ?_) (by simp only [List.getElem?_toArray, List.getElem?_cons_succ, List.getElem?_cons_zero]; rfl) (by kernel_rfl) (by kernel_rfl) (by kernel_rfl) (by exact fun _ _ _ h => h) (Or.inl ⟨by rfl, ?_⟩) (by assumption) ?_
                          rotate_left
                          · intro wq hSw
                            (try dsimp only at hSw)
                            go_simp
                            all_goals (with_reducible rfl)
                          try simp only [Act.put]
                          refine wpAnyH_done (by kernel_rfl) ?_ _
                          go_wp2_with fail
                          go_meet
                          exact ⟨rfl, hHeld⟩
              · rw [if_pos (by rfl)]
                refine wp_build28 _ rfl d0.p d0.o d0.d rfl HD0A.out ?_
                intro gq y12 hgq hbq haw hwe hge
                have hS := Away.on hHeld haw
                replace hbx := hbx.on haw
                clear haw hwe hge hgq
                refine hK.out _ _ hS (fun hHeld => ?_)
                clear hK K
                try simp only [Act.put, List.setIfInBounds_toArray, List.set_cons_zero, List.set_cons_succ]
                as_aux_lemma =>
                  refine wpAnyH_ready (rs := [1]) (by kernel_rfl) (by simp) ?_
                  refine AllReadyH.cons (by simp only [List.getElem?_toArray, List.getElem?_cons_succ, List.getElem?_cons_zero]; rfl) (fun K hK => ?_) AllReadyH.nil
                  go_simp
                  refine (owns_c (some ⟨db, 0, none⟩) (d0 :: dr) na dc _ HDN.out (by exact HDP.out.on hHeld) (by omega)).mono ?_
                  rintro E y13 ⟨ow, os, rfl, hos0, hom, haw⟩
                  have hos : Cuts y13 wk.heap.size ow os := hos0.mono (Away.size hHeld)
                  have hS := Away.on hHeld haw
                  have hox : ow.ownBlock ≠ some g20 := fun e => by have h1 := hos0.new g20 e; have h2 := hbx.lt; omega
                  replace hbq := hbq.on haw
                  replace hbx := hbx.on haw
                  clear haw hos0
                  go_wp2_with fail
                  refine hK.out _ _ hS (fun hHeld => ?_)
                  clear hK K
                  try simp only [Act.put, List.setIfInBounds_toArray, List.set_cons_zero, List.set_cons_succ]
                  as_aux_lemma =>
                    refine wpAnyH_ready (rs := [6]) (by kernel_rfl) (by simp) ?_
                    refine AllReadyH.cons (by simp only [List.getElem?_toArray, List.getElem?_cons_succ, List.getElem?_cons_zero]; rfl) (fun K hK => ?_) AllReadyH.nil
                    rw [if_pos (by rfl)]
                    refine wp_appP _ _ rfl _ os rfl hos.lst gq 1 rfl d0.p d0.o d0.d hbq HD0A.out HD0O.out HD0D.out (by have := congrArg List.length hom; simp only [List.length_map] at this; have := HDN.out; omega) ?_
                    intro vn y14 hln hgr hmv
                    have hS : Away [] wk y14 := Away.grown hHeld hgr (fun k hk => .inr (hos.new k hk))
                    have hall : ∀ z ∈ os ++ [d0], z.ok y14 := fun z hz => by
                      rcases List.mem_append.1 hz with hz | hz
                      · exact cuts_grown_ok hos hgr z hz
                      · simp at hz; subst hz; exact HD0K.out.on hS
                    obtain ⟨va, vc, hvn, -, hvn0, hpn, -⟩ := LstP.pks (xs := os ++ [d0]) hln (by have := congrArg List.length hom; simp only [List.length_map] at this; have := HDN.out; rw [List.length_append]; simp; omega) hall
                    obtain ⟨nn, hnn⟩ : ∃ nn, (os ++ [d0]).length = nn := ⟨_, rfl⟩
                    rw [hnn] at hvn
                    subst hvn
                    replace hbx := hbx.away ((Away.refl ow.ownBlock.toList _).grown hgr (fun k hk => .inl (by have hk2 : ow.ownBlock = some k := hk; simp [hk2]))) (fun e => by simp at e; exact hox e)
                    clear hall hln hgr hmv hos hbq
                    refine hK.out _ _ hS (fun hHeld => ?_)
                    clear hK K
                    try simp only [Act.put, List.setIfInBounds_toArray, List.set_cons_zero, List.set_cons_succ]
                    as_aux_lemma =>
                      refine wpAnyH_ready (rs := [7]) (by kernel_rfl) (by simp) ?_
                      refine AllReadyH.cons (by simp only [List.getElem?_toArray, List.getElem?_cons_succ, List.getElem?_cons_zero]; rfl) (fun K hK => ?_) AllReadyH.nil
                      go_simp
                      refine (join_c va (os ++ [d0]) nn vc _ hnn hvn0 hpn (by exact HG.out.on hHeld)).mono ?_
                      rintro E y15 ⟨tt, tc, tov, tdv, htt, rfl, htw, hmn, haw⟩
                      obtain rfl : tc = 1 := join_twice HRA.out (x := d0.p) (by rw [List.map_append, hom]; exact (List.perm_append_comm (l₁ := (d0 :: dr).map X.p) (l₂ := [d0.p])).trans (List.Perm.cons _ HDPM.out)) (HDPM.out.mem_iff.1 (by simp)) htt
                      have hS := Away.on hHeld haw
                      have hto := hmn.o.one; have htd := hmn.d.one
                      replace hbx := hbx.on haw
                      clear haw htt hmn hpn
                      go_wp2_with fail
                      refine hK.out _ _ hS (fun hHeld => ?_)
                      clear hK K
                      try simp only [Act.put, List.setIfInBounds_toArray, List.set_cons_zero, List.set_cons_succ]
                      as_aux_lemma =>
                        refine wpAnyH_take (i := 8) (v := ?_) (by simp only [List.getElem?_toArray, List.getElem?_cons_succ, List.getElem?_cons_zero]; rfl) (by kernel_rfl) (by kernel_rfl) (by kernel_rfl) (by exact fun _ _ _ h => h) (Or.inl ⟨by rfl, ?_⟩) (by assumption) ?_
                        rotate_left
                        · intro wq hSw
                          (try dsimp only at hSw)
                          go_simp
                          all_goals (with_reducible rfl)
                        try simp only [Act.put, List.setIfInBounds_toArray, List.set_cons_zero, List.set_cons_succ]
                        refine wpAnyH_take (i := 9) (v := ?_) (by simp only [List.getElem?_toArray, List.getElem?_cons_succ, List.getElem?_cons_zero]; rfl) (by kernel_rfl) (by kernel_rfl) (by kernel_rfl) (by exact fun _ _ _ h => h) (Or.inl ⟨by rfl, ?_⟩) (by assumption) ?_
                        rotate_left
                        · intro wq hSw
                          (try dsimp only at hSw)
                          go_simp
                          all_goals (with_reducible rfl)
                        try simp only [Act.put, List.setIfInBounds_toArray, List.set_cons_zero, List.set_cons_succ]
                        refine wpAnyH_take (i := 10) (v := ?_) (by simp only [List.getElem?_toArray, List.getElem?_cons_succ, List.getElem?_cons_zero]; rfl) (by kernel_rfl) (by kernel_rfl) (by kernel_rfl) (by exact fun _ _ _ h => h) (Or.inl ⟨by rfl, ?_⟩) (by assumption) ?_
                        rotate_left
                        · intro wq hSw
                          (try dsimp only at hSw)
                          go_simp
                          all_goals (with_reducible rfl)
                        try simp only [Act.put, List.setIfInBounds_toArray, List.set_cons_zero, List.set_cons_succ]
                        refine wpAnyH_ready (rs := [12]) (by kernel_rfl) (by simp) ?_
                        refine AllReadyH.cons (by simp only [List.getElem?_toArray, List.getElem?_cons_succ, List.getElem?_cons_zero]; rfl) (fun K hK => ?_) AllReadyH.nil
                        rw [if_pos (by rfl)]
                        refine wp_store28 (.tmp 20) (.tmp 107) rfl g20 rfl tt tov tdv rfl zeroPk (.slice none 0 0) (.slice none 0 0) (by exact hbx) htw.ad ⟨rfl, rfl⟩ hto htd ?_
                        intro y16 hb2 haw
                        have hS : Away [] wk y16 := Away.next hHeld haw (fun x hx => .inr (by simp at hx; omega))
                        clear haw
                        refine hK.out _ _ hS (fun hHeld => ?_)
                        clear hK K
                        try simp only [Act.put]
                        as_aux_lemma =>
                          refine wpAnyH_take (i := 13) (v := ?_) (by simp only [List.getElem?_toArray, List.getElem?_cons_succ, List.getElem?_cons_zero]; rfl) (by kernel_rfl) (by kernel_rfl) (by kernel_rfl) (by exact fun _ _ _ h => h) (Or.inl ⟨by rfl, ?_⟩) (by assumption) ?_
                          rotate_left
                          · intro wq hSw
                            (try dsimp only at hSw)
                            go_simp
                            all_goals (with_reducible rfl)
                          try simp only [Act.put]
                          refine wpAnyH_done (by kernel_rfl) ?_ _
                          go_wp2_with fail
                          go_meet
                          exact ⟨rfl, hHeld⟩
        case rest =>
        obtain ⟨rfl, haw⟩ := hcut
        have HE := Lib.hid (HA.out.on haw)
        clear haw
        go_wp2_with fail
        go_ret
        exact ⟨rfl, HE.out.to_below⟩
end recutBack
namespace recutBack
theorem contract (H : Type) (enc : TypeId × Value → H) (W : World) (base : Nat) (args : Array Value) (ds gs : List (DataW H)) (before : List MemPlace)
    (hval0 : ∀ (j : Nat) t v, Tryd.f6.params[j]? = some t → args[j]? = some v → Value.okWide Tryd.prog W .any base t v)
    (hW : DataW.Whole enc Tryd.prog Tryd.f6.params.toList Rows.recutBackSpec.vars false W args.toList ds gs before)
    (hsz0 : (DataW.weightsEach Tryd.prog (Tryd.f6.params.toList ++ Rows.recutBackSpec.plain.varTypes Tryd.prog) (ds ++ gs)).all (· ≤ reachBytes) = true)
    (hL : laidMetH Tryd.prog Rows.recutBackRow.laid W) :
    Calls Tryd.prog 6 args W fun e W' => ∃ v, e = .returned v ∧ Rows.recutBackSpec.post enc Tryd.prog Tryd.f6 false true false false W args v W' := by
  have hval := hval0
  have hsz := hsz0
  have hW' := hW
  obtain ⟨p, q, hA0, hV, rfl, hfz, hnd⟩ := hW
  have hA : DataW.TrodAll enc Tryd.prog W 0 (fun _ => true) true Tryd.f6.params.toList args.toList ds p := hA0
  rw [Tryd.params6] at hA hval hsz
  obtain ⟨v0, vs0, d0, ds0, p0, q0, hargs, rfl, rfl, h0, r0⟩ := trodAll_cons hA
  obtain ⟨v1, vs1, d1, ds1, p1, q1, rfl, rfl, rfl, h1, r1⟩ := trodAll_cons r0
  obtain ⟨v2, vs2, d2, ds2, p2, q2, rfl, rfl, rfl, h2, r2⟩ := trodAll_cons r1
  obtain ⟨v3, vs3, d3, ds3, p3, q3, rfl, rfl, rfl, h3, r3⟩ := trodAll_cons r2
  obtain ⟨rfl, rfl, rfl⟩ := trodAll_nil r3
  obtain rfl : args = #[v0, v1, v2, v3] := by cases args; simp_all
  obtain ⟨rfl, rfl⟩ := trodVars_none hV
  have k0 := h0
  have lt0 : ∀ x ∈ p0, x.block < W.heap.size := by obtain ⟨m, hm⟩ := k0; exact DataW.trod_lt m _ _ _ hm
  have z0 : ∀ m ∈ d0.weights Tryd.prog 28, m ≤ reachBytes := fun m hm => by
    have := List.all_eq_true.1 hsz m (DataW.weights_mem_each (j := 0) (t := 28) rfl rfl m hm)
    simpa using this
  obtain ⟨x0, ov0, dv0, rfl, w0, ol0, dl0⟩ := open_pkt (hval 0 28 v0 rfl rfl) h0 z0
  obtain ⟨a1, rfl, rfl, rfl, w1⟩ := open_int Tryd.underlying3 (hval 1 3 v1 rfl rfl) h1
  obtain ⟨a2, rfl, rfl, rfl, w2⟩ := open_int Tryd.underlying3 (hval 2 3 v2 rfl rfl) h2
  have k3 := h3
  have lt3 : ∀ x ∈ p3, x.block < W.heap.size := by obtain ⟨m, hm⟩ := k3; exact DataW.trod_lt m _ _ _ hm
  have z3 : ∀ m ∈ d3.weights Tryd.prog 29, m ≤ reachBytes := fun m hm => by
    have := List.all_eq_true.1 hsz m (DataW.weights_mem_each (j := 3) (t := 29) rfl rfl m hm)
    simpa using this
  obtain ⟨a3, len3, cap3, rfl⟩ := okWide_slice Tryd.underlying29 (hval 3 29 v3 rfl rfl)
  obtain ⟨w3, n3⟩ := open_nums h3 z3
  clear hA0 hval0
  refine (walk x0 ov0 dv0 a1 a2 a3 len3 cap3 W (glob_of hL) w0 ol0 dl0 w1 w2 w3 n3).mono fun e W' ⟨he, bel⟩ => ?_
  subst he
  exact ⟨_, rfl, _, _, _, [], _, [], hW', trodAll_mk1 (shut_bool Tryd.underlying4 _), (trodAll_cons_mk (Below.trod laidOut (by kernel_rfl) (of_decide_eq_true (by kernel_rfl)) k0 bel lt0) (trodAll_cons_mk (shut_int Tryd.underlying3 w1) (trodAll_cons_mk (shut_int Tryd.underlying3 w2) (trodAll_cons_mk (Below.trod laidOut (by kernel_rfl) (of_decide_eq_true (by kernel_rfl)) k3 bel lt3) trodAll_mk0)))), rfl, bel.frame _, fun h => by cases h⟩
theorem laid_met (os : Os) : laidMet Tryd.prog Rows.recutBackRow.laid ((laidWorld Tryd.prog os).forCall (fun _ _ => 0) ⟨#[], #[.agg (csP zeroPk (.slice none 0 0) (.slice none 0 0)), .int .i64 0, .int .i64 0, .slice none 0 0], []⟩).memory :=
  laidMet_of_run' 8 (by kernel_rfl) (by kernel_rfl)
theorem reads (os : Os) {H : Type} (enc : TypeId × Value → H) : ∃ places, DataW.whole enc Tryd.prog ((laidWorld Tryd.prog os).forCall (fun _ _ => 0) ⟨#[], #[.agg (csP zeroPk (.slice none 0 0) (.slice none 0 0)), .int .i64 0, .int .i64 0, .slice none 0 0], []⟩).memory Tryd.f6.params.toList Rows.recutBackSpec.vars false #[.agg (csP zeroPk (.slice none 0 0) (.slice none 0 0)), .int .i64 0, .int .i64 0, .slice none 0 0].toList 8 = some ([.agg [.lit (.int .i64 0), .lit (.int .i64 0), .lit (.int .i64 0), .agg [.lit (.int .i64 0), .agg [.lit (.int .u8 0), .lit (.int .u8 0), .lit (.int .u8 0), .lit (.int .u8 0), .lit (.int .u8 0), .lit (.int .u8 0), .lit (.int .u8 0), .lit (.int .u8 0), .lit (.int .u8 0), .lit (.int .u8 0), .lit (.int .u8 0), .lit (.int .u8 0), .lit (.int .u8 0), .lit (.int .u8 0), .lit (.int .u8 0), .lit (.int .u8 0)]], .agg [.lit (.int .i64 0), .agg [.lit (.int .u8 0), .lit (.int .u8 0), .lit (.int .u8 0), .lit (.int .u8 0), .lit (.int .u8 0), .lit (.int .u8 0), .lit (.int .u8 0), .lit (.int .u8 0), .lit (.int .u8 0), .lit (.int .u8 0), .lit (.int .u8 0), .lit (.int .u8 0), .lit (.int .u8 0), .lit (.int .u8 0), .lit (.int .u8 0), .lit (.int .u8 0)]], .lit (.int .i64 0), .lit (.int .i64 0), .lit (.int .u32 0), .lit (.bool false), .lit (.bool false), .lit (.bool false), .lit (.int .i64 0), .nil, .nil], .lit (.int .i64 0), .lit (.int .i64 0), .nil], [], places) :=
  ⟨[], by kernel_rfl⟩
theorem lifted (os : Os) (started : os.Started) (H : Type) (enc : TypeId × Value → H) (F : Stop.Interp) :
    ReturnsInHanded {} Tryd.checked os 6 .any ((OpenSpec.ofChange Rows.recutBackSpec).preRow enc Tryd.prog Tryd.f6 Rows.recutBackRow.domain false Rows.recutBackRow.laid) (((OpenSpec.ofChange Rows.recutBackSpec).at F).post enc Tryd.prog Tryd.f6 false true false false) := by
  obtain ⟨places, hx⟩ := reads os enc
  refine returnsInHanded_of_row (C := Tryd.checked) (s := OpenSpec.ofChange Rows.recutBackSpec) ownKn started (by kernel_rfl) Tryd.func6
    (witness_row_at (enc := enc) (C := Tryd.checked) false (laidWorld Tryd.prog os) #[.agg (csP zeroPk (.slice none 0 0) (.slice none 0 0)), .int .i64 0, .int .i64 0, .slice none 0 0] rfl (by kernel_rfl) (by kernel_rfl) (by kernel_rfl)
      (OpenSpec.preRow_of_cond 8 hx (by kernel_rfl) (fun k hk => by cases hk) (by kernel_rfl) (laid_met os))) ?_
  intro W base args ds gs before hval hW _ hcond hsz hL hS _
  exact contract H enc W base args ds gs before hval hW hsz hL
theorem said : Rows.RecutBackSaid :=
  OpenClaim.holds_of_cond 6 Tryd.f6 rfl rfl rfl rfl rfl rfl rfl ⟨rfl, rfl, rfl, rfl, rfl⟩ rfl rfl rfl rfl rfl (by kernel_rfl) Tryd.func6 (by kernel_rfl)
    (of_decide_eq_true (by kernel_rfl)) (by unfold Func.isWrapper; first | (rw [if_pos (by decide +kernel)]; kernel_rfl) | (rw [if_neg (by decide +kernel)]; exact ⟨rfl, rfl⟩))
    (fun os started H enc _ F => by rw [OpenClaim.pre_eq_preRow]; exact lifted os started H enc F)
theorem plain (f : FuncId) (fn : Func) (hf : Tryd.pinned.checked.prog.funcNamed "mosaic/mosaiclaw11.RecutBack" = some f) (hfn : Tryd.pinned.checked.prog.funcs[f]? = some fn) :
    false = Tryd.pinned.checked.prog.looks [] ∧ ∀ (j : Nat) t, fn.params[j]? = some t → Tryd.pinned.checked.prog.wantsStandIn t = false := by
  obtain rfl : f = 6 := Option.some.inj ((show Tryd.prog.funcNamed "mosaic/mosaiclaw11.RecutBack" = some 6 by kernel_rfl).symm.trans hf) |>.symm
  obtain rfl : fn = Tryd.f6 := (Option.some.inj (Tryd.func6.symm.trans hfn)).symm
  refine ⟨by kernel_rfl, fun j t ht => ?_⟩
  rw [Tryd.params6] at ht
  have hm := Array.mem_of_getElem? ht
  simp only [List.mem_toArray, List.mem_cons, List.not_mem_nil, or_false] at hm
  have h28 : Tryd.prog.wantsStandIn 28 = false := by kernel_rfl
  have h26 : Tryd.prog.wantsStandIn 26 = false := by kernel_rfl
  have h3 : Tryd.prog.wantsStandIn 3 = false := by kernel_rfl
  have h25 : Tryd.prog.wantsStandIn 25 = false := by kernel_rfl
  have h4 : Tryd.prog.wantsStandIn 4 = false := by kernel_rfl
  have h29 : Tryd.prog.wantsStandIn 29 = false := by kernel_rfl
  rcases hm with rfl | rfl | rfl | rfl
  all_goals first | exact h28 | exact h26 | exact h3 | exact h25 | exact h4 | exact h29
theorem card : Rows.RecutBackCardSaid :=
  Claim7.holds_tied_plain_at .later [] _ _ _ _ said (fun _ h => by cases h) (by kernel_rfl) (fun _ h => by cases h) recutBack_row_tie rfl ⟨rfl, rfl⟩ (by kernel_rfl) rfl plain (by kernel_rfl)
end recutBack
theorem recutBack_holds : Rows.RecutBackCardSaid := recutBack.card
#print axioms recutBack_holds
end Go.Proofs.YtaicckenpplceaaDoor
