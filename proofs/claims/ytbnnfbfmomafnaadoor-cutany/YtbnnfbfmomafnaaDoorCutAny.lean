/-
  CutAny.
-/
import Derived.Test.YtbnnfbfmomafnaaDoorMwZ
import Derived.Test.YtbnnfbfmomafnaaDoorAmZ
import Derived.Test.YtbnnfbfmomafnaaDoorLg
import Derived.Test.YtbnnfbfmomafnaaDoorAlv
namespace Go.Proofs.YtbnnfbfmomafnaaDoor
open Go.ChangeShapes Go.WideShapes Go.ChangeAt Go.RowKit Go.Deep Num
set_option linter.unusedVariables false
set_option linter.unusedSimpArgs false
set_option maxHeartbeats 40000000
set_option maxRecDepth 100000

namespace cutAny
theorem open_nums {H : Type} {enc : TypeId × Value → H} {w : World} {a : Option Addr} {len cap : Nat} {d : DataW H} {p : List MemPlace}
    (h : DataW.Trod enc Tryd.prog w 0 (fun _ => true) true 38 (.slice a len cap) d p) (hw : ∀ n ∈ d.weights Tryd.prog 38, n ≤ reachBytes) : Ints w a len ∧ len ≤ 140737488355328 := by
  obtain ⟨fuel, hf⟩ := h
  have k4 : Tryd.prog.cellsOf 3 = 1 := by kernel_rfl
  rcases open_ints Tryd.underlying38 Tryd.underlying3 k4 (by simpa [Value.cells] using hf) with ⟨hcs, hx⟩ | ⟨x, l, c', zs, hcs, _, hll, hm, hz, hx, hcz, hwz⟩
  · have hcs := (List.cons.inj hcs).1
    simp only [Value.slice.injEq] at hcs
    obtain ⟨rfl, rfl, rfl⟩ := hcs
    exact ⟨fun i hi => by omega, by omega⟩
  · have hcs := (List.cons.inj hcs).1
    have hD : d = _ := congrArg Prod.fst hx
    subst hD
    simp only [Value.slice.injEq] at hcs
    obtain ⟨rfl, rfl, rfl⟩ := hcs
    rw [if_pos rfl] at hz
    have hreach : 8 * ((zs.take len).length + (zs.drop len).length) ≤ 140737488351232 := by
      have := hw (((zs.take len).length + (zs.drop len).length) * 8) (by
        simp only [DataW.weights, Tryd.underlying38]
        simp [lits, show Tryd.prog.bytesOf 3 = 8 from by kernel_rfl])
      simp only [reachBytes] at this
      omega
    simp only [List.length_take, List.length_drop] at hreach
    refine ⟨fun i hi => ?_, by omega⟩
    obtain ⟨b, off, spot⟩ := x
    have hspot : spot = none := by simpa [Addr.add] using World.cell?_spot (hcz 0 (by omega))
    subst hspot
    have h1 := hcz i (by omega)
    rw [add_plain] at h1
    refine ⟨b, off, zs.getD i 0, rfl, h1, bounds_i64 (hwz _ ?_)⟩
    rw [List.getD_eq_getElem?_getD, List.getElem?_eq_getElem (by omega)]
    exact List.getElem_mem _
end cutAny
theorem wp_ldc {o : Oper} {a : Act} {w : World} {K : Act → World → Prop} {Q : Exit → Act → World → Prop} (t : TypeId) (x : Operand) (ho : o.op = .load t x) (ad : Addr) (v : Value) (hx : a.eval x = .pointer (some ad)) (hr : (Instr.loadAt t (.pointer (some ad))).run Tryd.prog w = .ok v w) (h : K (a.put o.dst v) w) : Oper.wp Tryd.prog o a w K Q := by
  unfold Oper.wp execOp
  simp only [ho, hx, Sem.run_bind, hr, Result.andThen_ok, Sem.run_pure]
  exact h
theorem wp_stc {o : Oper} {a : Act} {w w' : World} {K : Act → World → Prop} {Q : Exit → Act → World → Prop} (t : TypeId) (x y : Operand) (ho : o.op = .store t x y) (ad : Addr) (v : Value) (hx : a.eval x = .pointer (some ad)) (hy : a.eval y = v) (hr : (Instr.storeAt t (.pointer (some ad)) v).run Tryd.prog w = .ok () w') (h : K (a.put o.dst undef) w') : Oper.wp Tryd.prog o a w K Q := by
  unfold Oper.wp execOp
  simp only [ho, hx, hy, Sem.run_bind, hr, Result.andThen_ok, Sem.run_pure]
  exact h
theorem put5 (w : World) (ad : Addr) (n : Int) (u : Value) (hc : w.cell? ad = some u) (hf : w.frozen? ad = false) : (Instr.storeAt 5 (.pointer (some ad)) (.int .u8 n)).run Tryd.prog w = .ok () (w.setCell ad (.int .u8 n)) := by
  simp [go_sem, Instr.storeAt, Instr.sureAddr, storeVar, hc, hf]
theorem and15 (n : Int) : 0 ≤ bits .and .i64 n 15 ∧ bits .and .i64 n 15 ≤ 15 := by
  have h : (BitVec.ofInt 64 15).toNat = 15 := by decide
  have key : (BitVec.ofInt 64 n &&& BitVec.ofInt 64 15).toNat ≤ 15 := by rw [BitVec.toNat_and, h]; exact Nat.and_le_right
  have e : bits .and .i64 n 15 = IntKind.i64.wrap ((BitVec.ofInt 64 n &&& BitVec.ofInt 64 15).toNat : Nat) := rfl
  rw [e, IntKind.wrap_i64]
  generalize (BitVec.ofInt 64 n &&& BitVec.ofInt 64 15).toNat = m at *
  omega
theorem and24 (n : Int) : 0 ≤ bits .and .i64 n 16777215 ∧ bits .and .i64 n 16777215 ≤ 16777215 := by
  have h : (BitVec.ofInt 64 16777215).toNat = 16777215 := by decide
  have key : (BitVec.ofInt 64 n &&& BitVec.ofInt 64 16777215).toNat ≤ 16777215 := by rw [BitVec.toNat_and, h]; exact Nat.and_le_right
  have e : bits .and .i64 n 16777215 = IntKind.i64.wrap ((BitVec.ofInt 64 n &&& BitVec.ofInt 64 16777215).toNat : Nat) := rfl
  rw [e, IntKind.wrap_i64]
  generalize (BitVec.ofInt 64 n &&& BitVec.ofInt 64 16777215).toNat = m at *
  omega
theorem isP_67 (p : Pk) (l : List Pk) : isP p 67 l = false := is_not l (by
  have : mtuP 67 p.v = false := by unfold mtuP; split <;> simp
  rw [this]; simp)
theorem listP_v {p : Pk} (h : Ad p) (ov dv : Value) : (csP p ov dv)[0]? = some (.int .i64 p.v) ∧ (csP p ov dv)[1]? = some (.int .i64 p.tos) ∧ (csP p ov dv)[21]? = some (.int .u8 (p.db[0]?.getD 0)) ∧ (csP p ov dv)[37]? = some (.int .i64 p.proto) ∧ (csP p ov dv)[38]? = some (.int .i64 p.ttl) ∧ (csP p ov dv)[39]? = some (.int .u32 p.id) ∧ (csP p ov dv)[40]? = some (.bool p.df) ∧ (csP p ov dv)[41]? = some (.bool p.more) ∧ (csP p ov dv)[42]? = some (.bool p.frag) ∧ (csP p ov dv)[43]? = some (.int .i64 p.off) ∧ (csP p ov dv)[44]? = some ov ∧ (csP p ov dv)[45]? = some dv := by
  obtain ⟨v, tos, flow, sv, sb, dv', db, proto, ttl, id, df, more, frag, off, o, d⟩ := p
  obtain ⟨h1, h2⟩ := h
  simp only at h1 h2
  obtain ⟨b0, b1, b2, b3, b4, b5, b6, b7, b8, b9, b10, b11, b12, b13, b14, b15, rfl⟩ := list16 h1
  obtain ⟨c0, c1, c2, c3, c4, c5, c6, c7, c8, c9, c10, c11, c12, c13, c14, c15, rfl⟩ := list16 h2
  exact ⟨rfl, rfl, rfl, rfl, rfl, rfl, rfl, rfl, rfl, rfl, rfl, rfl⟩
/-- One left out, in place. -/
theorem wp_del {o : Oper} {a : Act} {w : World} {K : Act → World → Prop} {Q : Exit → Act → World → Prop} (s t : Operand) (ho : o.op = .call { callee := .builtin .append, args := #[s, t], argTypes := #[32, 32] }) (gm n cap i : Nat) (ks : List X) (hl : LstP w (.slice (some ⟨gm, 0, none⟩) n cap) ks) (hn : ks.length = n) (hA : ∀ x ∈ ks, Ad x.p) (h1 : ∀ x ∈ ks, x.o.oneCell' = true ∧ x.d.oneCell' = true) (hc : n ≤ cap) (hi : i < n) (A : Option Addr) (c2 : Nat) (hAe : A = if cap = i + 1 then some ⟨gm, 0, none⟩ else (some (⟨gm, 0, none⟩ : Addr)).map (·.add ((i + 1) * 46)))
    (hs : a.eval s = .slice (some ⟨gm, 0, none⟩) i cap) (ht : a.eval t = .slice A (n - (i + 1)) c2)
    (h : ∀ w', LstP w' (.slice (some ⟨gm, 0, none⟩) (n - 1) cap) (ks.take i ++ ks.drop (i + 1)) → Away [gm] w w' → K (a.put o.dst (.slice (some ⟨gm, 0, none⟩) (n - 1) cap)) w') : Oper.wp Tryd.prog o a w K Q := by
  subst hn
  obtain ⟨i0, hi0, hz0, hz1, hz2⟩ := info_parts info28b
  have hlt : (ks.take i).length = i := by rw [List.length_take]; omega
  have hld : (ks.drop (i + 1)).length = ks.length - (i + 1) := by rw [List.length_drop]
  have hA2 : ∀ x ∈ ks.drop (i + 1), Ad x.p := fun x hx => hA x (List.mem_of_mem_drop hx)
  have hf := flatP_len (ks.drop (i + 1)) hA2
  have l1 := lst_take hl rfl hA i (by omega)
  have hfl := flatP_len ks hA
  have l1' : w.ownsRow 0 28 46 (.slice (some ⟨gm, 0, none⟩) i cap) i ((ks.take i).flatMap X.cells) := by have := l1; unfold LstP at this; rw [hlt] at this; exact this
  obtain ⟨ad, hAd, hcell⟩ : ∃ ad : Addr, A = some ad ∧ ∀ j u, ((ks.drop (i + 1)).flatMap X.cells)[j]? = some u → w.cell? (ad.add j) = some u := by
    by_cases he : cap = i + 1
    · refine ⟨_, by rw [hAe, if_pos he], fun j u hj => ?_⟩
      have : ks.drop (i + 1) = [] := List.eq_nil_of_length_eq_zero (by rw [hld]; omega)
      rw [this] at hj; simp at hj
    · refine ⟨(⟨gm, 0, none⟩ : Addr).add ((i + 1) * 46), by rw [hAe, if_neg he]; rfl, fun j u hj => ?_⟩
      have hx : ks.flatMap X.cells = (ks.take (i + 1)).flatMap X.cells ++ (ks.drop (i + 1)).flatMap X.cells := by rw [← List.flatMap_append, List.take_append_drop]
      have hl2 : ((ks.take (i + 1)).flatMap X.cells).length = (i + 1) * 46 := by rw [flatP_len _ (fun x hx => hA x (List.mem_of_mem_take hx)), List.length_take]; congr 1; omega
      have hjl := lt_of_get hj
      rw [hf, hld] at hjl
      rw [add_plain, add_plain, Nat.zero_add, World.ownsRow.cellAt hl ((i + 1) * 46 + j) (by omega), hx, List.getElem?_append_right (by omega), hl2, Nat.add_sub_cancel_left]
      exact hj
  subst hAd
  obtain ⟨w', hrun, r1, r2⟩ := run_append_fits (P := Tryd.prog) w 0 32 o.type 28 i0 46 Tryd.underlying32 hi0 hz1 gm i cap ((ks.take i).flatMap X.cells) l1' ad (ks.length - (i + 1)) c2 ((ks.drop (i + 1)).flatMap X.cells) (by rw [hf, hld]) hcell (fun u hu => by
    obtain ⟨x, hx, hu⟩ := List.mem_flatMap.1 hu
    have := h1 x (List.mem_of_mem_drop hx)
    exact listP_one x.p x.o x.d this.1 this.2 u hu) (by omega)
  have e1 : i + (ks.length - (i + 1)) = ks.length - 1 := by omega
  rw [e1] at r1 hrun
  unfold Oper.wp
  simp [execOp, ho, resolve, invoke, builtin, hs, ht, hrun, Result.andThen]
  refine h w' ?_ ((Away.refl [gm] w).grown r2 (fun k hk => .inl (by simp at hk; simp [hk])))
  unfold LstP
  rw [List.flatMap_append, List.length_append, hlt, hld, e1]
  exact r1
namespace cutAny
theorem walk (p : Pk) (ov dv : Value) (n : Int) (sa : Option Addr) (sn sc : Nat) (which kk : Int) (w : World) (hg : Glob w) (hp : Pkt w p ov dv) (hol : p.o.length ≤ 140737488351232) (hdl : p.d.length ≤ 140737488351232) (hwn : (Lit.int .i64 n).wf = true) (hI : Ints w sa sn) (hsn : sn ≤ 140737488355328) (hw1 : (Lit.int .i64 which).wf = true) (hw2 : (Lit.int .i64 kk).wf = true) :
    Calls Tryd.prog 4 #[.agg (csP p ov dv), .int .i64 n, .slice sa sn sc, .int .i64 which, .int .i64 kk] w fun E w' => E = .returned (.bool true) ∧ Below w.heap.size w w' := by
  have HPA := Lib.hid hp.wf.ad
  have HP := Lib.hid hp; have HG := Lib.hid hg; have HI := Lib.hid hI
  clear hp hg hol hdl hwn hw1 hw2 hI
  go_enter Tryd.func4, Tryd.ntmps4
  go_wp2_with (refine wpList_box28 rfl _ rfl p ov dv rfl ?_; refine Hid.out ?_)
  refine Lib.hid ?_
  intro g5 w1 hg_g5 hb haw
  have HA := Lib.hid haw
  have HB5 := Lib.hid hb
  clear hb haw hg_g5
  go_wp2_with fail
  refine (alive_c _ (HG.out.on HA.out)).mono ?_
  rintro E w3 ⟨rfl, haw⟩
  replace HA := Lib.hid (HA.out.trans haw)
  replace HB5 := Lib.hid (HB5.out.on haw)
  clear haw
  have hS_w3 := HA.out.size
  go_wp2_with (refine wpList_load28 rfl _ rfl g5 rfl p _ _ (by exact HB5.out) HPA.out ?_)
  refine (mended_c p ov dv _ (HP.out.on HA.out) (HG.out.on HA.out)).mono ?_
  rintro E w4 ⟨q, qo, qd, rfl, hu, hwf, hv_q, hmine, haw⟩
  have hS_w4 := haw.size
  replace HA := Lib.hid (HA.out.trans haw)
  replace HB5 := Lib.hid (HB5.out.on haw)
  have HUq := Lib.hid hu
  have HWq := Lib.hid hwf
  have HVq := Lib.hid hv_q
  have hO1 := hmine.o.one
  have hD1 := hmine.d.one
  have HMI := Lib.hid hmine
  clear hu hwf hmine haw hv_q
  go_wp2_with (refine wpList_new28 rfl rfl rfl _ _ rfl q qo qd (fun g => rfl) (fun g => rfl) HWq.out.ad hO1 hD1 ?_; refine Hid.out ?_)
  refine Lib.hid ?_
  intro g11 w5 hg_g11 hb haw
  have HQ : Hid (QV w3.heap.size w5.heap.size w5 g11 q qo qd) := ⟨hb, (HMI.out.on haw).pkt HWq.out, by omega, hb.lt, fun k hk => by have h1 := HMI.out.lto k hk; have h2 := haw.size; exact ⟨h1.2, by omega, by omega⟩⟩
  replace HA := Lib.hid (HA.out.trans haw)
  replace HB5 := Lib.hid (HB5.out.on haw)
  have hS_w5 := haw.size
  clear hb haw hO1 hD1 HMI hg_g11 HB5
  go_wp2_with (refine wpList_putF rfl 4 _ _ rfl g11 40 rfl (.bool false) rfl (fun u h1 h2 => put4 _ _ _ u h1 h2) q { q with df := false } _ _ _ _ (by exact HQ.out.box) (by exact HWq.out.ad) (by omega) (by exact (csP_set (p := q) HWq.out.ad _ _).2.2.2.2.2.2.2.2.1 _) ?_; refine Hid.out ?_)
  refine Lib.hid ?_
  intro w6 hb haw
  have hS_w6 := haw.size
  have HWr : Hid (Wf { q with df := false }) := by have h := HWq.out; exact ⟨h.v, h.tos, h.flow, h.sv, h.sl, h.sb, h.dv, h.dl, h.db, h.proto, h.ttl, h.id0, h.id1, h.off, h.o, h.ol, h.d, h.dn⟩
  have hg11 := HQ.out.lo
  have hh11 := HQ.out.hi
  replace HQ : Hid (QV w3.heap.size w5.heap.size w6 g11 { q with df := false } qo qd) := HQ.out.put hb haw HWr.out rfl rfl
  replace HA := Lib.hid (HA.out.next haw (fun k hk => .inr (by simp at hk; omega)))
  clear hb haw
  obtain ⟨qa, qc, hqd, -⟩ := HQ.out.pkt.d
  subst hqd
  have c45 := (HQ.out.box.cells HWr.out.ad).d
  have hx_q := HQ.out.pkt.d.of.2
  have hdn := HWq.out.dn
  have ed : ({ q with df := false } : Pk).d.length = q.d.length := rfl
  rw [ed] at c45 hx_q HQ
  clear ed
  go_upto_if 26 with fail
  go_cut [] (fun wc => ∃ du, QV w3.heap.size w5.heap.size wc g11 (shortP q 4000) qo du ∧ Away [g11] w6 wc)
  case first =>
    by_cases h3 : 4000 < q.d.length
    · have n1 : (4000 : Int) < (q.d.length : Int) := by omega
      have hsl := slice_h qa q.d.length qc 4000 4000 rfl (by omega)
      go_wp2_with (refine wpList_putF rfl 26 _ _ rfl g11 45 rfl (.slice qa 4000 qc) rfl (fun u h1 h2 => put26 _ _ _ _ _ u h1 h2) { q with df := false } (shortP q 4000) _ _ _ _ (by exact HQ.out.box) (by exact HWr.out.ad) (by omega) (by exact (csP_set (p := { q with df := false }) HWr.out.ad _ _).2.2.2.2.2.2.2.2.2.2.2.2.2 _ _) ?_; refine Hid.out ?_)
      refine Lib.hid ?_
      intro wz hb haw
      have HBZ := Lib.hid hb
      have HAZ := Lib.hid haw
      clear hb haw
      go_wp2_with fail
      go_meet
      exact ⟨_, HQ.out.putd HBZ.out HAZ.out (short_wf HWq.out 4000) rfl rfl (by omega), HAZ.out⟩
    · have n1 : ¬ ((4000 : Int) < (q.d.length : Int)) := by omega
      have ht : shortP q 4000 = { q with df := false } := by unfold shortP; rw [List.take_of_length_le (by omega)]
      have HT := Lib.hid ht
      clear ht
      go_wp2_with fail
      go_meet
      exact ⟨_, by rw [HT.out]; exact HQ.out, Away.refl _ _⟩
  case rest =>
    obtain ⟨qd1, hqv, haw⟩ := hcut
    generalize wc = w7 at *
    have hS_w7 := haw.size
    clear c45 hx_q hdn
    replace HQ := Lib.hid hqv
    replace HA := Lib.hid (HA.out.next haw (fun k hk => .inr (by simp at hk; omega)))
    clear haw hqv
    obtain ⟨z, hz⟩ : ∃ z, z = shortP q 4000 := ⟨_, rfl⟩
    have HZU : Hid (Unc z) := by rw [hz]; exact short_unc HUq.out 4000
    have HZW : Hid (Wf z) := by rw [hz]; exact short_wf HWq.out 4000
    have HZA : Hid (Ad z) := HZW.out.ad
    have HZV : Hid (z.v = 4 ∨ z.v = 6) := by rw [hz]; exact HVq.out
    have HZD : Hid (z.df = false) := by rw [hz]; exact Lib.hid rfl
    have HZL : Hid (z.d.length ≤ 4000) := by rw [hz]; show (q.d.take 4000).length ≤ 4000; rw [List.length_take]; omega
    rw [← hz] at HQ
    clear hz HUq HWq HVq HWr
    have c0 := (HQ.out.box.cells HZA.out).v
    go_wp2_with fail
    refine (link_c z.v n HZV.out _).mono ?_
    rintro E w8 ⟨m, rfl, hm, rfl⟩
    have HM := Lib.hid hm
    clear hm c0
    go_wp2_with (refine wpList_load28 rfl _ rfl g11 rfl z _ _ (by exact HQ.out.box) HZA.out ?_)
    refine (lparted_c z qo qd1 m sa sn sc 77 _ HQ.out.pkt (HG.out.on HA.out) HZU.out HZV.out HM.out (HI.out.on HA.out) hsn HZL.out (by omega) (by omega)).mono ?_
    rintro E w9 ⟨v, xs, rfl, hcu, hpre, haw⟩
    have hS_w9 := haw.size
    replace HA := Lib.hid (HA.out.trans haw)
    replace HQ := Lib.hid (HQ.out.on haw)
    have HC := Lib.hid hcu
    have HPRE := Lib.hid hpre
    have hxl : xs.length ≤ 4000 := by have h1 := hpre.len; rw [List.length_map] at h1; have h2 := HZL.out; omega
    obtain ⟨va, vc, hv, -⟩ := hcu.pks (by omega)
    subst hv
    clear hcu hpre haw
    obtain ⟨L, hL⟩ : ∃ L, L = xs.length := ⟨_, rfl⟩
    rw [← hL] at HC hxl ⊢
    have HL : Hid (xs.length = L) := hL.symm
    clear hL
    have HXL : Hid (xs.length ≤ 925904528640) := by refine Lib.hid ?_; rw [HL.out]; omega
    by_cases h2 : L < 2
    · have n2 : (L : Int) < 2 := by omega
      have hfl : fitsP z m = decide (((topP z + z.d.length : Nat) : Int) ≤ m) := by
        have h1 := fits_iff z m
        by_cases hc : ((topP z + z.d.length : Nat) : Int) ≤ m
        · rw [decide_eq_true hc]; exact h1.2 ⟨HZU.out.r, hc⟩
        · rw [decide_eq_false hc]
          cases hb : fitsP z m with
          | false => rfl
          | true => exact absurd (h1.1 hb).2 hc
      obtain ⟨LG, hLG⟩ : ∃ LG, LG = ((topP z + z.d.length : Nat) : Int) := ⟨_, rfl⟩
      rw [← hLG] at hfl
      have hlgc : ∀ w', Away [] w9 w' → True := fun _ _ => trivial
      go_upto_region 10 with fail
      refine wp_region_held_drew (S := (fun w' => Away [] w9 w')) (by kernel_rfl) (by exact (Away.refl [] w9).drew) (fun hHeld => ?_)
      refine wpAnyH_take (i := 0) (by simp only [List.getElem?_toArray, List.getElem?_cons_zero]; rfl) (by kernel_rfl) (by kernel_rfl) (by kernel_rfl) (by exact fun _ _ _ h => h) (yields_ld (ad := ⟨g11, 0, none⟩) (by rfl) _ rfl rfl (fun w' h => S6.load28_run (HQ.out.box.on h) HZA.out)) (by assumption) ?_
      try simp only [Act.put, List.setIfInBounds_toArray, List.set_cons_zero, List.set_cons_succ]
      refine wpAnyH_take (i := 1) (v := ?_) (by simp only [List.getElem?_toArray, List.getElem?_cons_succ, List.getElem?_cons_zero]; rfl) (by kernel_rfl) (by kernel_rfl) (by kernel_rfl) (by exact fun _ _ _ h => h) (Or.inl ⟨by rfl, ?_⟩) (by assumption) ?_
      rotate_left
      · intro wq hSw
        (try dsimp only at hSw)
        go_simp
        all_goals (with_reducible rfl)
      try simp only [Act.put, List.setIfInBounds_toArray, List.set_cons_zero, List.set_cons_succ]
      refine wpAnyH_take (i := 2) (by simp only [List.getElem?_toArray, List.getElem?_cons_succ, List.getElem?_cons_zero]; rfl) (by kernel_rfl) (by kernel_rfl) (by kernel_rfl) (by exact fun _ _ _ h => h) (yields_ld (ad := ⟨g11, 0, none⟩) (by rfl) _ rfl rfl (fun w' h => S6.load28_run (HQ.out.box.on h) HZA.out)) (by assumption) ?_
      try simp only [Act.put, List.setIfInBounds_toArray, List.set_cons_zero, List.set_cons_succ]
      refine wpAnyH_take (i := 6) (by simp only [List.getElem?_toArray, List.getElem?_cons_succ, List.getElem?_cons_zero]; rfl) (by kernel_rfl) (by kernel_rfl) (by kernel_rfl) (by exact fun _ _ _ h => h) (yields_ld (ad := ⟨g11, 0, none⟩) (by rfl) _ rfl rfl (fun w' h => S6.load28_run (HQ.out.box.on h) HZA.out)) (by assumption) ?_
      try simp only [Act.put, List.setIfInBounds_toArray, List.set_cons_zero, List.set_cons_succ]
      refine wpAnyH_take (i := 8) (v := ?_) (by simp only [List.getElem?_toArray, List.getElem?_cons_succ, List.getElem?_cons_zero]; rfl) (by kernel_rfl) (by kernel_rfl) (by kernel_rfl) (by exact fun _ _ _ h => h) (Or.inl ⟨by rfl, ?_⟩) (by assumption) ?_
      rotate_left
      · intro wq hSw
        (try dsimp only at hSw)
        go_simp
        all_goals (with_reducible rfl)
      try simp only [Act.put, List.setIfInBounds_toArray, List.set_cons_zero, List.set_cons_succ]
      refine wpAnyH_ready (rs := [3]) (by kernel_rfl) (by simp) ?_
      refine AllReadyH.cons (by simp only [List.getElem?_toArray, List.getElem?_cons_succ, List.getElem?_cons_zero]; rfl) (fun K hK => ?_) AllReadyH.nil
      go_simp
      refine (ownP_c z qo qd1 _ (by exact HQ.out.pkt.on hHeld)).mono ?_
      rintro E v1 ⟨co, cd, rfl, hmine, haw⟩
      have HCM := Lib.hid hmine
      have hb1 := hHeld.trans haw
      refine hK.out _ _ hb1 (fun hHeld => ?_)
      clear hK K haw hmine hb1
      try simp only [Act.put, List.setIfInBounds_toArray, List.set_cons_zero, List.set_cons_succ]
      refine wpAnyH_ready (rs := [4]) (by kernel_rfl) (by simp) ?_
      refine AllReadyH.cons (by simp only [List.getElem?_toArray, List.getElem?_cons_succ, List.getElem?_cons_zero]; rfl) (fun K hK => ?_) AllReadyH.nil
      rw [if_pos (by rfl)]
      refine wp_build28 _ rfl z co cd rfl HZA.out ?_
      intro gq v2 hgq hbq haw hwe hge
      have HBQ := Lib.hid hbq
      have hb1 := hHeld.trans haw
      replace HCM := Lib.hid (HCM.out.on haw)
      have HPK : Hid (Pks v2 (some ⟨gq, 0, none⟩) [⟨z, co, cd⟩]) := by
        obtain ⟨a', c', hv', -, -, hp', -⟩ := (lst_one HBQ.out HZA.out).pks (by simp) (fun x hx => by simp at hx; subst hx; exact HCM.out.pkt HZW.out)
        simp only [List.length_singleton, Value.slice.injEq] at hv'
        refine Lib.hid ?_
        rw [hv'.1]; exact hp'
      refine hK.out _ _ hb1 (fun hHeld => ?_)
      clear hK K haw hbq hwe hge hgq hb1
      try simp only [Act.put, List.setIfInBounds_toArray, List.set_cons_zero, List.set_cons_succ]
      refine wpAnyH_ready (rs := [5]) (by kernel_rfl) (by simp) ?_
      refine AllReadyH.cons (by simp only [List.getElem?_toArray, List.getElem?_cons_succ, List.getElem?_cons_zero]; rfl) (fun K hK => ?_) AllReadyH.nil
      go_simp
      have KI := is_c z qo qd1 m (some ⟨gq, 0, none⟩) [⟨z, co, cd⟩] 1 1 _ rfl (HQ.out.pkt.on hHeld) (by exact HPK.out) (HG.out.on (HA.out.trans hHeld))
      rw [show ([⟨z, co, cd⟩] : List X).map X.p = [z] from rfl, is_self HZU.out HM.out] at KI
      refine KI.mono ?_
      rintro E v3 ⟨rfl, haw⟩
      have hb1 := hHeld.trans haw
      refine hK.out _ _ hb1 (fun hHeld => ?_)
      clear hK K haw hb1 KI
      try simp only [Act.put, List.setIfInBounds_toArray, List.set_cons_zero, List.set_cons_succ]
      refine wpAnyH_ready (rs := [7]) (by kernel_rfl) (by simp) ?_
      refine AllReadyH.cons (by simp only [List.getElem?_toArray, List.getElem?_cons_succ, List.getElem?_cons_zero]; rfl) (fun K hK => ?_) AllReadyH.nil
      go_simp
      refine (long_c z qo qd1 _ HZV.out HZU.out.r (HQ.out.pkt.on hHeld) (HG.out.on (HA.out.trans hHeld))).mono ?_
      rintro E v4 ⟨rfl, haw⟩
      have hb1 := hHeld.trans haw
      refine hK.out _ _ hb1 (fun hHeld => ?_)
      clear hK K haw hb1
      try simp only [Act.put, List.setIfInBounds_toArray, List.set_cons_zero, List.set_cons_succ]
      refine wpAnyH_take (i := 9) (v := ?_) (by simp only [List.getElem?_toArray, List.getElem?_cons_succ, List.getElem?_cons_zero]; rfl) (by kernel_rfl) (by kernel_rfl) (by kernel_rfl) (by exact fun _ _ _ h => h) (Or.inl ⟨by rfl, ?_⟩) (by assumption) ?_
      rotate_left
      · intro wq hSw
        (try dsimp only at hSw)
        go_simp
        all_goals (with_reducible rfl)
      try simp only [Act.put, List.setIfInBounds_toArray, List.set_cons_zero, List.set_cons_succ]
      refine wpAnyH_take (i := 10) (v := ?_) (by simp only [List.getElem?_toArray, List.getElem?_cons_succ, List.getElem?_cons_zero]; rfl) (by kernel_rfl) (by kernel_rfl) (by kernel_rfl) (by exact fun _ _ _ h => h) (Or.inl ⟨by rfl, ?_⟩) (by assumption) ?_
      rotate_left
      · intro wq hSw
        (try dsimp only at hSw)
        go_simp
        all_goals (with_reducible rfl)
      try simp only [Act.put, List.setIfInBounds_toArray, List.set_cons_zero, List.set_cons_succ]
      refine wpAnyH_take (i := 11) (v := ?_) (by simp only [List.getElem?_toArray, List.getElem?_cons_succ, List.getElem?_cons_zero]; rfl) (by kernel_rfl) (by kernel_rfl) (by kernel_rfl) (by exact fun _ _ _ h => h) (Or.inl ⟨by rfl, ?_⟩) (by assumption) ?_
      rotate_left
      · intro wq hSw
        (try dsimp only at hSw)
        go_simp
        all_goals (with_reducible rfl)
      try simp only [Act.put, List.setIfInBounds_toArray, List.set_cons_zero, List.set_cons_succ]
      refine wpAnyH_take (i := 12) (by simp only [List.getElem?_toArray, List.getElem?_cons_succ, List.getElem?_cons_zero]; rfl) (by kernel_rfl) (by kernel_rfl) (by kernel_rfl) (by exact fun _ _ _ h => h) (yields_ld (ad := ⟨g11, 0, none⟩) (by rfl) _ rfl rfl (fun w' h => S6.load28_run (HQ.out.box.on h) HZA.out)) (by assumption) ?_
      try simp only [Act.put, List.setIfInBounds_toArray, List.set_cons_zero, List.set_cons_succ]
      refine wpAnyH_take (i := 13) (v := ?_) (by simp only [List.getElem?_toArray, List.getElem?_cons_succ, List.getElem?_cons_zero]; rfl) (by kernel_rfl) (by kernel_rfl) (by kernel_rfl) (by exact fun _ _ _ h => h) (Or.inl ⟨by rfl, ?_⟩) (by assumption) ?_
      rotate_left
      · intro wq hSw
        (try dsimp only at hSw)
        go_simp
        all_goals (with_reducible rfl)
      try simp only [Act.put, List.setIfInBounds_toArray, List.set_cons_zero, List.set_cons_succ]
      refine wpAnyH_ready (rs := [14]) (by kernel_rfl) (by simp) ?_
      refine AllReadyH.cons (by simp only [List.getElem?_toArray, List.getElem?_cons_succ, List.getElem?_cons_zero]; rfl) (fun K hK => ?_) AllReadyH.nil
      go_simp
      have KI := is_c z qo qd1 m none [] 0 0 _ rfl (HQ.out.pkt.on hHeld) (Pks.nil _ _) (HG.out.on (HA.out.trans hHeld))
      rw [show ([] : List X).map X.p = [] from rfl, is_none] at KI
      refine KI.mono ?_
      rintro E v5 ⟨rfl, haw⟩
      have hb1 := hHeld.trans haw
      refine hK.out _ _ hb1 (fun hHeld => ?_)
      clear hK K haw hb1 KI
      try simp only [Act.put, List.setIfInBounds_toArray, List.set_cons_zero, List.set_cons_succ]
      refine wpAnyH_take (i := 15) (v := ?_) (by simp only [List.getElem?_toArray, List.getElem?_cons_succ, List.getElem?_cons_zero]; rfl) (by kernel_rfl) (by kernel_rfl) (by kernel_rfl) (by exact fun _ _ _ h => h) (Or.inl ⟨by rfl, ?_⟩) (by assumption) ?_
      rotate_left
      · intro wq hSw
        (try dsimp only at hSw)
        go_simp
        all_goals (with_reducible rfl)
      try simp only [Act.put, List.setIfInBounds_toArray, List.set_cons_zero, List.set_cons_succ]
      refine wpAnyH_take (i := 16) (v := ?_) (by simp only [List.getElem?_toArray, List.getElem?_cons_succ, List.getElem?_cons_zero]; rfl) (by kernel_rfl) (by kernel_rfl) (by kernel_rfl) (by exact fun _ _ _ h => h) (Or.inl ⟨by rfl, ?_⟩) (by assumption) ?_
      rotate_left
      · intro wq hSw
        (try dsimp only at hSw)
        go_simp
        all_goals (with_reducible rfl)
      try simp only [Act.put, List.setIfInBounds_toArray, List.set_cons_zero, List.set_cons_succ]
      refine wpAnyH_take (i := 17) (v := ?_) (by simp only [List.getElem?_toArray, List.getElem?_cons_succ, List.getElem?_cons_zero]; rfl) (by kernel_rfl) (by kernel_rfl) (by kernel_rfl) (by exact fun _ _ _ h => h) (Or.inl ⟨by rfl, ?_⟩) (by assumption) ?_
      rotate_left
      · intro wq hSw
        (try dsimp only at hSw)
        go_simp
        all_goals (with_reducible rfl)
      try simp only [Act.put, List.setIfInBounds_toArray, List.set_cons_zero, List.set_cons_succ]
      have HAR := Lib.hid hHeld
      clear hHeld
      refine wpAnyH_done (by kernel_rfl) ?_ _
      go_wp2_with fail
      go_ret
      exact ⟨rfl, (HA.out.trans HAR.out).to_below⟩
    · have n2 : ¬ ((L : Int) < 2) := by omega
      have HF : Hid (Frg z m (xs.map X.p)) := HPRE.out.frg HZU.out HZW.out HM.out HZD.out (by omega) (by omega) (by rw [List.length_map, HL.out]; omega)
      have hxne : xs ≠ [] := fun h => by have := HL.out; rw [h] at this; simp at this; omega
      obtain ⟨gl, glc, hvl, glo, ghi, -⟩ := HC.out.shape hxne
      rw [HL.out] at hvl
      simp only [Value.slice.injEq, true_and] at hvl
      obtain ⟨rfl, rfl⟩ := hvl
      clear hxne
      have KI := Lib.hid (is_c z qo qd1 m (some ⟨gl, 0, none⟩) xs L vc w9 HL.out HQ.out.pkt (HC.out.pks' HXL.out) (HG.out.on HA.out))
      rw [HF.out.is] at KI
      go_wp2_with (first | (refine wpList_load28 rfl _ rfl g11 rfl z _ _ (by exact HQ.out.box) HZA.out ?_) | (go_at_call 14; refine KI.out.mono ?_; refine Hid.out ?_))
      refine Lib.hid ?_
      first | rintro E w10 rfl haw | rintro E w10 ⟨rfl, haw⟩
      replace HA := Lib.hid (HA.out.trans haw)
      replace HQ := Lib.hid (HQ.out.on haw)
      replace HC := Lib.hid (HC.out.on haw)
      clear haw KI
      obtain ⟨b24, hb24⟩ : ∃ b, bits .and .i64 kk 16777215 = b := ⟨_, rfl⟩
      have hb2 := and24 kk
      rw [hb24] at hb2
      obtain ⟨i, hi⟩ : ∃ i : Nat, (i : Int) = b24 % (L : Int) := ⟨(b24 % (L : Int)).toNat, by have := Int.emod_nonneg b24 (show (L : Int) ≠ 0 by omega); omega⟩
      have hiL : i < L := by have := Int.emod_lt_of_pos b24 (show (0 : Int) < (L : Int) by omega); omega
      have m1 : b24 % (L : Int) = (i : Int) := hi.symm
      have m1t : Int.tmod b24 (L : Int) = (i : Int) := by rw [Int.tmod_eq_emod_of_nonneg hb2.1]; exact m1
      obtain ⟨j, hj⟩ : ∃ j, j = (i + 1) % L := ⟨_, rfl⟩
      have hjL : j < L := by rw [hj]; exact Nat.mod_lt _ (by omega)
      have hij : i ≠ j := by
        rw [hj]
        by_cases h : i + 1 = L
        · rw [h, Nat.mod_self]; omega
        · rw [Nat.mod_eq_of_lt (by omega)]; omega
      have m2 : ((i : Int) + 1) % (L : Int) = (j : Int) := by rw [hj]; rfl
      have m2t : Int.tmod ((i : Int) + 1) (L : Int) = (j : Int) := by rw [Int.tmod_eq_emod_of_nonneg (by omega)]; exact m2
      have m2n : (i + 1) % L = j := hj.symm
      have m3 : (L : Int) ≠ 0 := by omega
      clear hi hj
      have HQ0 := HQ
      have HA0 := HA
      have HC0 := HC
      obtain ⟨B0, hB0⟩ : ∃ B, B = w10.heap.size := ⟨_, rfl⟩
      go_wp2_with fail
      go_loopw [16, 17] (fun v iv wr => ∃ (k : Nat) (ks : List X), iv = .int .i64 (k : Int) ∧ k ≤ L ∧ ks.length = k ∧ Cuts wr w10.heap.size v ks ∧ ks.map X.p = (xs.take k).map X.p ∧ Away [] w10 wr) (fun _ iv _ => L - (intOf iv).toNat)
      case atStart => exact ⟨0, [], rfl, by omega, rfl, Cuts.nil _ _, rfl, Away.refl _ _⟩
      case round =>
        obtain ⟨k, ks, rfl, hk, hkl, hcu, hkm, haw⟩ := hrel
        have HCU := Lib.hid hcu
        have HKM := Lib.hid hkm
        have HAW := Lib.hid haw
        clear hcu hkm haw m1 m1t m2 m2t m2n
        by_cases hkN : k < L
        · as_aux_lemma =>
          obtain ⟨x, hxk, hxm⟩ := get_of (show k < xs.length by rw [HL.out]; exact hkN)
          obtain ⟨xb, xo, hab, hrx, hokx⟩ := ((HC.out.pks' HXL.out).on HAW.out).at hxk
          simp only [Option.some.injEq, Addr.mk.injEq] at hab
          obtain ⟨rfl, rfl, -⟩ := hab
          have HAX : Hid (Ad x.p) := hokx.wf.ad
          have HRX : Hid (wr.rangeAt gl (0 + k * 46) (listP x.p x.o x.d)) := hrx
          have HOK := Lib.hid hokx
          have HXK := Lib.hid hxk
          clear hxk hxm hrx hokx
          have i2 : 0 ≤ (k : Int) := by omega
          have i3 : (k : Int) < (L : Int) := by omega
          have i4 : ((k : Int)).toNat = k := by omega
          go_wp2_with (refine wpList_load28m rfl _ rfl gl (0 + k * 46) (by simp [Act.eval]) x.p x.o x.d (by exact HRX.out) HAX.out ?_)
          refine (ownP_c x.p x.o x.d _ HOK.out).mono ?_
          rintro E v1 ⟨oq, dq, rfl, hmine, haw⟩
          have hs1 := haw.size
          have hsv := HAW.out.size
          have HCU1 := Lib.hid (HCU.out.on haw)
          have HLT : Hid (∀ y ∈ ks, ∀ k, y.o.ownBlock = some k ∨ y.d.ownBlock = some k → k < wr.heap.size) := fun y hy k hk => ((HCU.out.each y hy).2.lto k hk).1
          have HVL : Hid (∀ k, u16.ownBlock = some k → k < wr.heap.size) := HCU.out.lst.lt
          replace HAW := Lib.hid (HAW.out.on haw)
          have hsw := HAW.out.size
          have HMN := Lib.hid hmine
          have HO1 := Lib.hid hmine.o.one; have HD1 := Lib.hid hmine.d.one
          have HWX := Lib.hid HOK.out.wf
          clear haw hmine HRX HCU HOK
          go_wp2_with (refine wpList_build28 rfl _ rfl x.p oq dq rfl HAX.out ?_; refine Hid.out ?_)
          refine Lib.hid ?_
          intro gq v2 hgq hbq haw
          replace HCU1 := Lib.hid (HCU1.out.on haw)
          replace HMN := Lib.hid (HMN.out.on haw)
          replace HAW := Lib.hid (HAW.out.on haw)
          have hs2 := haw.size
          have HBQ := Lib.hid hbq
          clear haw hbq
          go_wp2_with (refine wpList_appP rfl _ _ rfl _ ks rfl (by exact HCU1.out.lst) gq 1 rfl x.p oq dq (by exact HBQ.out) HAX.out HO1.out HD1.out (by omega) ?_; refine Hid.out ?_)
          refine Lib.hid ?_
          intro v' v3 hl3 hgr hmv
          have HCU3 : Hid (Cuts v3 w10.heap.size v' (ks ++ [⟨x.p, oq, dq⟩])) := HCU1.out.snoc ⟨HWX.out, HMN.out.mono (by omega)⟩ (fun y hy k hk => by
            have h1 := HLT.out y hy k hk
            exact ⟨fun e => by have := (HMN.out.lto k (.inl e)).2; omega, fun e => by have := (HMN.out.lto k (.inr e)).2; omega⟩) (fun k hk e => by have h1 := (HMN.out.lto k hk).2; have h2 := HVL.out k e; omega) hl3 hgr hmv (by omega)
          have HA3 : Hid (Away [] w10 v3) := HAW.out.grown hgr (fun k hk => .inr (HCU1.out.new k hk))
          have HY3 : Hid ((ks ++ [(⟨x.p, oq, dq⟩ : X)]).map X.p = (xs.take (k + 1)).map X.p) := by
            show _ = _
            have h1 := lt_of_get HXK.out
            have h2 : xs[k] = x := by have := HXK.out; rw [List.getElem?_eq_getElem h1] at this; simpa using this
            rw [List.take_succ_eq_append_getElem h1, h2, List.map_append, List.map_append, HKM.out]; rfl
          clear hl3 hgr hmv
          go_wp2_with fail
          go_roundw
          case rel => exact ⟨k + 1, _, by go_num, by omega, by simp; omega, HCU3.out, HY3.out, HA3.out⟩
          case measure => simp [intOf]; omega
        · obtain rfl : k = L := by omega
          have hlt' : ¬ ((k : Int) < (k : Int)) := by omega
          have HKE : Hid (ks.map X.p = xs.map X.p) := by show _ = _; rw [HKM.out, List.take_of_length_le (by rw [HL.out]; omega)]
          have haw := HAW.out
          generalize wr = wL at *
          replace HA := Lib.hid (HA.out.trans haw)
          replace HQ := Lib.hid (HQ.out.on haw)
          replace HC := Lib.hid (HC.out.on haw)
          have HK := HCU
          have HKL : Hid (ks.length = k) := hkl
          have hks : ks ≠ [] := fun h => by rw [h] at hkl; simp at hkl; omega
          obtain ⟨gm, gmc, hvm, gmlo, gmhi, gmc2⟩ := HK.out.shape hks
          rw [hkl] at hvm gmc2
          subst hvm
          clear haw HCU HKM hkN hks
          replace HF : Hid (Frg z m (ks.map X.p)) := by rw [HKE.out]; exact HF.out
          obtain ⟨x, hxi, hxm⟩ := get_of (show i < ks.length by rw [HKL.out]; exact hiL)
          obtain ⟨y, hyj, hym⟩ := get_of (show j < ks.length by rw [HKL.out]; exact hjL)
          have HXI := Lib.hid hxi; have HYJ := Lib.hid hyj
          have HXW := Lib.hid (HK.out.each x hxm).1
          have HXM := Lib.hid (HK.out.each x hxm).2
          have HXMm := Lib.hid hxm; have HYMm := Lib.hid hym
          have HKA : Hid (∀ z ∈ ks, Ad z.p) := fun z hz => (HK.out.each z hz).1.ad
          have HPI : Hid ((ks.map X.p)[i]? = some x.p) := by refine Lib.hid ?_; rw [List.getElem?_map, hxi]; rfl
          have HPJ : Hid ((ks.map X.p)[j]? = some y.p) := by refine Lib.hid ?_; rw [List.getElem?_map, hyj]; rfl
          clear hxi hyj hxm hym hkl
          obtain ⟨c, hc⟩ : ∃ c, bits .and .i64 which 15 = c := ⟨_, rfl⟩
          have hc2 := and15 which
          rw [hc] at hc2
          have i2 : 0 ≤ (i : Int) := by omega
          have i3 : (i : Int) < (k : Int) := by omega
          have i4 : ((i : Int)).toNat = i := by omega
          have j2 : 0 ≤ (j : Int) := by omega
          have j3 : (j : Int) < (k : Int) := by omega
          have j4 : ((j : Int)).toNat = j := by omega
          go_upto_block 2 with fail
          go_cut [16] (fun mv wc => ∃ a nn cc ms, mv = .slice a nn cc ∧ ms.length = nn ∧ nn ≤ 100000 ∧ Pks wc a ms ∧ isP z m (ms.map X.p) = false ∧ Away [] w10 wc)
          case first =>
            by_cases c0 : c = 0
            · as_aux_lemma =>
              subst c0
              obtain ⟨SA, hSA⟩ : ∃ SA, SA = if gmc = i + 1 then some (⟨gm, 0, none⟩ : Addr) else (some (⟨gm, 0, none⟩ : Addr)).map (·.add ((i + 1) * 46)) := ⟨_, rfl⟩
              have HSA := Lib.hid hSA
              have w1i : IntKind.i64.wrap ((i : Int) + 1) = (i : Int) + 1 := by rw [IntKind.wrap_i64]; omega
              have s1 := slice_h32 (some ⟨gm, 0, none⟩) k gmc i (i : Int) rfl (by omega)
              have s2 := slice_l32 (some ⟨gm, 0, none⟩) SA k gmc (i + 1) ((i : Int) + 1) hSA rfl (by omega)
              clear hSA
              go_upto_region 23 with fail
              refine wp_region_held_drew (S := (fun _ => True)) (by kernel_rfl) trivial (fun hHeld => ?_)
              refine wpAnyH_take (i := 0) (v := ?_) (by simp only [List.getElem?_toArray, List.getElem?_cons_zero]; rfl) (by kernel_rfl) (by kernel_rfl) (by kernel_rfl) (by exact fun _ _ _ h => h) (Or.inl ⟨by rfl, ?_⟩) (by assumption) ?_
              rotate_left
              · intro wq hSw
                (try dsimp only at hSw)
                go_simp
                all_goals (with_reducible rfl)
              try simp only [Act.put, List.setIfInBounds_toArray, List.set_cons_zero, List.set_cons_succ]
              refine wpAnyH_take (i := 1) (v := ?_) (by simp only [List.getElem?_toArray, List.getElem?_cons_succ, List.getElem?_cons_zero]; rfl) (by kernel_rfl) (by kernel_rfl) (by kernel_rfl) (by exact fun _ _ _ h => h) (Or.inl ⟨by rfl, ?_⟩) (by assumption) ?_
              rotate_left
              · intro wq hSw
                (try dsimp only at hSw)
                go_simp
                all_goals (with_reducible rfl)
              try simp only [Act.put, List.setIfInBounds_toArray, List.set_cons_zero, List.set_cons_succ]
              refine wpAnyH_take (i := 2) (v := ?_) (by simp only [List.getElem?_toArray, List.getElem?_cons_succ, List.getElem?_cons_zero]; rfl) (by kernel_rfl) (by kernel_rfl) (by kernel_rfl) (by exact fun _ _ _ h => h) (Or.inl ⟨by rfl, ?_⟩) (by assumption) ?_
              rotate_left
              · intro wq hSw
                (try dsimp only at hSw)
                go_simp
                all_goals (with_reducible rfl)
              try simp only [Act.put, List.setIfInBounds_toArray, List.set_cons_zero, List.set_cons_succ]
              refine wpAnyH_take (i := 3) (v := ?_) (by simp only [List.getElem?_toArray, List.getElem?_cons_succ, List.getElem?_cons_zero]; rfl) (by kernel_rfl) (by kernel_rfl) (by kernel_rfl) (by exact fun _ _ _ h => h) (Or.inl ⟨by rfl, ?_⟩) (by assumption) ?_
              rotate_left
              · intro wq hSw
                (try dsimp only at hSw)
                go_simp
                all_goals (with_reducible rfl)
              try simp only [Act.put, List.setIfInBounds_toArray, List.set_cons_zero, List.set_cons_succ]
              refine wpAnyH_take (i := 4) (v := ?_) (by simp only [List.getElem?_toArray, List.getElem?_cons_succ, List.getElem?_cons_zero]; rfl) (by kernel_rfl) (by kernel_rfl) (by kernel_rfl) (by exact fun _ _ _ h => h) (Or.inl ⟨by rfl, ?_⟩) (by assumption) ?_
              rotate_left
              · intro wq hSw
                (try dsimp only at hSw)
                go_simp
                all_goals (with_reducible rfl)
              try simp only [Act.put, List.setIfInBounds_toArray, List.set_cons_zero, List.set_cons_succ]
              refine wpAnyH_take (i := 5) (v := ?_) (by simp only [List.getElem?_toArray, List.getElem?_cons_succ, List.getElem?_cons_zero]; rfl) (by kernel_rfl) (by kernel_rfl) (by kernel_rfl) (by exact fun _ _ _ h => h) (Or.inl ⟨by rfl, ?_⟩) (by assumption) ?_
              rotate_left
              · intro wq hSw
                (try dsimp only at hSw)
                go_simp
                all_goals (with_reducible rfl)
              try simp only [Act.put, List.setIfInBounds_toArray, List.set_cons_zero, List.set_cons_succ]
              refine wpAnyH_take (i := 6) (v := ?_) (by simp only [List.getElem?_toArray, List.getElem?_cons_succ, List.getElem?_cons_zero]; rfl) (by kernel_rfl) (by kernel_rfl) (by kernel_rfl) (by exact fun _ _ _ h => h) (Or.inl ⟨by rfl, ?_⟩) (by assumption) ?_
              rotate_left
              · intro wq hSw
                (try dsimp only at hSw)
                go_simp
                all_goals (with_reducible rfl)
              try simp only [Act.put, List.setIfInBounds_toArray, List.set_cons_zero, List.set_cons_succ]
              refine wpAnyH_ready (rs := [7]) (by kernel_rfl) (by simp) ?_
              refine AllReadyH.cons (by simp only [List.getElem?_toArray, List.getElem?_cons_succ, List.getElem?_cons_zero]; rfl) (fun K hK => ?_) AllReadyH.nil
              rw [if_pos (by rfl)]
              refine wp_del _ _ rfl gm k gmc i ks (by exact (HK.out.on (Away.refl [] wL).drew).lst) HKL.out HKA.out (fun x hx => ⟨(HK.out.each x hx).2.o.one, (HK.out.each x hx).2.d.one⟩) gmc2 hiL SA (gmc - (i + 1)) HSA.out rfl rfl ?_
              intro wn hln hawn
              have HLN := Lib.hid hln
              have HAN : Hid (Away [gm] wL wn) := ((Away.refl [gm] wL).drew).trans hawn
              clear hln hawn
              refine hK.out _ _ trivial (fun hHeld => ?_)
              clear hK K
              try simp only [Act.put, List.setIfInBounds_toArray, List.set_cons_zero, List.set_cons_succ]
              refine wpAnyH_take (i := 8) (v := ?_) (by simp only [List.getElem?_toArray, List.getElem?_cons_succ, List.getElem?_cons_zero]; rfl) (by kernel_rfl) (by kernel_rfl) (by kernel_rfl) (by exact fun _ _ _ h => h) (Or.inl ⟨by rfl, ?_⟩) (by assumption) ?_
              rotate_left
              · intro wq hSw
                (try dsimp only at hSw)
                go_simp
                all_goals (with_reducible rfl)
              try simp only [Act.put, List.setIfInBounds_toArray, List.set_cons_zero, List.set_cons_succ]
              clear hHeld
              refine wpAnyH_done (by kernel_rfl) ?_ _
              have HMM : Hid (∀ z ∈ ks.take i ++ ks.drop (i + 1), z ∈ ks) := fun z hz => by
                rcases List.mem_append.1 hz with h | h
                · exact List.mem_of_mem_take h
                · exact List.mem_of_mem_drop h
              have HLE : Hid ((ks.take i ++ ks.drop (i + 1)).length = k - 1) := by refine Lib.hid ?_; have := HKL.out; rw [List.length_append, List.length_take, List.length_drop]; omega
              have HPN : Hid (Pks wn (some ⟨gm, 0, none⟩) (ks.take i ++ ks.drop (i + 1))) := by
                obtain ⟨a', c', hv', -, -, hp', -⟩ := HLN.out.pks (by rw [HLE.out]; omega) (fun z hz => ((HK.out.each z (HMM.out z hz)).2.away HAN.out (fun q hq hc => by simp at hc; subst hc; exact HK.out.far z (HMM.out z hz) _ hq rfl)).pkt (HK.out.each z (HMM.out z hz)).1)
                simp only [Value.slice.injEq] at hv'
                refine Lib.hid ?_
                rw [hv'.1]; exact hp'
              have HNO : Hid (isP z m ((ks.take i ++ ks.drop (i + 1)).map X.p) = false) := by
                refine Lib.hid ?_
                rw [List.map_append, List.map_take, List.map_drop]
                exact no_less HF.out HPI.out
              have HAF : Hid (Away [] w10 wn) := HAW.out.next HAN.out (fun q hq => .inr (by simp at hq; omega))
              go_wp2_with fail
              go_meet
              exact ⟨_, _, _, _, rfl, HLE.out, by omega, HPN.out, HNO.out, HAF.out⟩
            have d0 : (c == 0) = false := by simp [c0]
            by_cases c1 : c = 1
            · as_aux_lemma =>
              subst c1
              have HRX : Hid (wL.rangeAt gm (i * 46) (listP x.p x.o x.d)) := fun q u hu => (lst_cell HK.out.lst HKL.out HKA.out HXI.out (f := q) (u := u) (by unfold csP; rw [List.getElem?_toArray]; exact hu)).1
              go_wp2_with (refine wpList_load28m rfl _ rfl gm (i * 46) (by simp [Act.eval]) x.p x.o x.d (by exact HRX.out) HXW.out.ad ?_)
              refine (ownP_c x.p x.o x.d _ (HXM.out.pkt HXW.out)).mono ?_
              rintro E v1 ⟨oq, dq, rfl, hmine, haw⟩
              have HK1 := Lib.hid (HK.out.on haw)
              have HMN := Lib.hid hmine
              have hO1 := hmine.o.one; have hD1 := hmine.d.one
              have HA1 := Lib.hid (HAW.out.trans haw)
              have hs1 := haw.size
              clear haw hmine HRX
              go_wp2_with (refine wpList_build28 rfl _ rfl x.p oq dq rfl HXW.out.ad ?_; refine Hid.out ?_)
              refine Lib.hid ?_
              intro gq v2 hgq hbq haw
              replace HK1 := Lib.hid (HK1.out.on haw)
              replace HMN := Lib.hid (HMN.out.on haw)
              replace HA1 := Lib.hid (HA1.out.trans haw)
              have HBQ := Lib.hid hbq
              have hs2 := haw.size
              clear haw hbq
              go_wp2_with (refine wpList_appP rfl _ _ rfl _ ks rfl (by exact HK1.out.lst) gq 1 rfl x.p oq dq (by exact HBQ.out) HXW.out.ad hO1 hD1 (by rw [HKL.out]; omega) ?_; refine Hid.out ?_)
              refine Lib.hid ?_
              intro v' v3 hl3 hgr hmv
              have hsw := HAW.out.size
              have HLT : Hid (∀ y ∈ ks, ∀ k, y.o.ownBlock = some k ∨ y.d.ownBlock = some k → k < wL.heap.size) := fun y hy k hk => ((HK.out.each y hy).2.lto k hk).1
              have HCU3 : Hid (Cuts v3 w10.heap.size v' (ks ++ [⟨x.p, oq, dq⟩])) := HK1.out.snoc ⟨HXW.out, HMN.out.mono (by omega)⟩ (fun y hy k hk => by
                have h1 := HLT.out y hy k hk
                exact ⟨fun e => by have := (HMN.out.lto k (.inl e)).2; omega, fun e => by have := (HMN.out.lto k (.inr e)).2; omega⟩) (fun k hk e => by have h1 := (HMN.out.lto k hk).2; have h2 := HK.out.lst.lt k e; omega) hl3 hgr hmv (by omega)
              have HA3 : Hid (Away [] w10 v3) := HA1.out.grown hgr (fun k hk => .inr (HK1.out.new k hk))
              have HLE : Hid ((ks ++ [(⟨x.p, oq, dq⟩ : X)]).length = k + 1) := by refine Lib.hid ?_; rw [List.length_append, HKL.out]; rfl
              obtain ⟨na, nc, hvn, -, -, hpn, -⟩ := HCU3.out.pks (by rw [HLE.out]; omega)
              rw [HLE.out] at hvn
              have HPN := Lib.hid hpn
              have HNO : Hid (isP z m ((ks ++ [(⟨x.p, oq, dq⟩ : X)]).map X.p) = false) := by refine Lib.hid ?_; rw [List.map_append]; exact no_more' HF.out HPI.out
              subst hvn
              clear hl3 hgr hmv hpn HCU3
              go_wp2_with fail
              go_meet
              exact ⟨_, _, _, _, rfl, HLE.out, by omega, HPN.out, HNO.out, HA3.out⟩
            have d1 : (c == 1) = false := by simp [c1]
            by_cases c2 : c = 2
            · as_aux_lemma =>
              subst c2
              have HYW := Lib.hid (HK.out.each y HYMm.out).1
              have HYM := Lib.hid (HK.out.each y HYMm.out).2
              have HKd := Lib.hid (HK.out.on (Away.refl [] wL).drew)
              have HRX : Hid (wL.drew.rangeAt gm (i * 46) (listP x.p x.o x.d)) := fun q u hu => (lst_cell HKd.out.lst HKL.out HKA.out HXI.out (f := q) (u := u) (by unfold csP; rw [List.getElem?_toArray]; exact hu)).1
              have HRY : Hid (wL.drew.rangeAt gm (j * 46) (listP y.p y.o y.d)) := fun q u hu => (lst_cell HKd.out.lst HKL.out HKA.out HYJ.out (f := q) (u := u) (by unfold csP; rw [List.getElem?_toArray]; exact hu)).1
              have HON : Hid ((csP y.p y.o y.d).all (·.oneCell') = true) := csP_one y.p y.o y.d HYM.out.o.one HYM.out.d.one
              have HOX : Hid ((csP x.p x.o x.d).all (·.oneCell') = true) := csP_one x.p x.o x.d HXM.out.o.one HXM.out.d.one
              have HTI : Hid (wL.drew.there gm (i * 46) (csP y.p y.o y.d).size) := by
                refine Lib.hid ?_
                rw [csP_size HYW.out.ad]
                intro q hq
                have h46 := csP_size HXW.out.ad x.o x.d
                have := lst_cell HKd.out.lst HKL.out HKA.out HXI.out (f := q) (u := (csP x.p x.o x.d)[q]'(by omega)) (Array.getElem?_eq_getElem _)
                exact ⟨by rw [this.1]; rfl, this.2⟩
              have HL1 : Hid (LstP (wL.drew.setCells gm (i * 46) (csP y.p y.o y.d).toList) (.slice (some ⟨gm, 0, none⟩) k gmc) (ks.set i y)) := lst_putall HKd.out.lst HKL.out HKA.out hiL HYW.out.ad
              have HTJ : Hid ((wL.drew.setCells gm (i * 46) (csP y.p y.o y.d).toList).there gm (j * 46) (csP x.p x.o x.d).size) := by
                refine Lib.hid ?_
                rw [csP_size HXW.out.ad]
                intro q hq
                have h46 := csP_size HYW.out.ad y.o y.d
                have hA1 : ∀ z ∈ ks.set i y, Ad z.p := fun z hz => by
                  rcases List.mem_or_eq_of_mem_set hz with h2 | h2
                  · exact HKA.out z h2
                  · rw [h2]; exact HYW.out.ad
                have := lst_cell HL1.out (by rw [List.length_set]; exact HKL.out) hA1 (i := j) (x := y) (by rw [List.getElem?_set_ne hij]; exact HYJ.out) (f := q) (u := (csP y.p y.o y.d)[q]'(by omega)) (Array.getElem?_eq_getElem _)
                exact ⟨by rw [this.1]; rfl, this.2⟩
              have HPS : Hid (Pks ((wL.drew.setCells gm (i * 46) (csP y.p y.o y.d).toList).setCells gm (j * 46) (csP x.p x.o x.d).toList) (some ⟨gm, 0, none⟩) ((ks.set i y).set j x)) := HKd.out.swap HKL.out (by omega) hiL hjL HXMm.out HYMm.out
              have HAF : Hid (Away [] w10 ((wL.drew.setCells gm (i * 46) (csP y.p y.o y.d).toList).setCells gm (j * 46) (csP x.p x.o x.d).toList)) := (HAW.out.drew).next ((away_cells _ wL.drew gm (i * 46)).trans (away_cells _ _ gm (j * 46))) (fun q hq => .inr (by simp at hq; omega))
              have HNO : Hid (isP z m (((ks.set i y).set j x).map X.p) = false) := by
                refine Lib.hid ?_
                rw [List.map_set, List.map_set]
                rcases Nat.lt_or_gt_of_ne hij with h | h
                · exact no_swap HF.out h HPI.out HPJ.out
                · rw [List.set_comm _ _ hij]; exact no_swap HF.out h HPJ.out HPI.out
              go_upto_region 27 with fail
              refine wp_region_held_drew (S := (fun _ => True)) (by kernel_rfl) trivial (fun hHeld => ?_)
              refine wpAnyH_take (i := 0) (v := ?_) (by simp only [List.getElem?_toArray, List.getElem?_cons_zero]; rfl) (by kernel_rfl) (by kernel_rfl) (by kernel_rfl) (by exact fun _ _ _ h => h) (Or.inl ⟨by rfl, ?_⟩) (by assumption) ?_
              rotate_left
              · intro wq hSw
                (try dsimp only at hSw)
                go_simp
                all_goals (with_reducible rfl)
              try simp only [Act.put, List.setIfInBounds_toArray, List.set_cons_zero, List.set_cons_succ]
              refine wpAnyH_take (i := 1) (v := ?_) (by simp only [List.getElem?_toArray, List.getElem?_cons_succ, List.getElem?_cons_zero]; rfl) (by kernel_rfl) (by kernel_rfl) (by kernel_rfl) (by exact fun _ _ _ h => h) (Or.inl ⟨by rfl, ?_⟩) (by assumption) ?_
              rotate_left
              · intro wq hSw
                (try dsimp only at hSw)
                go_simp
                all_goals (with_reducible rfl)
              try simp only [Act.put, List.setIfInBounds_toArray, List.set_cons_zero, List.set_cons_succ]
              refine wpAnyH_take (i := 2) (v := ?_) (by simp only [List.getElem?_toArray, List.getElem?_cons_succ, List.getElem?_cons_zero]; rfl) (by kernel_rfl) (by kernel_rfl) (by kernel_rfl) (by exact fun _ _ _ h => h) (Or.inl ⟨by rfl, ?_⟩) (by assumption) ?_
              rotate_left
              · intro wq hSw
                (try dsimp only at hSw)
                go_simp
                all_goals (with_reducible rfl)
              try simp only [Act.put, List.setIfInBounds_toArray, List.set_cons_zero, List.set_cons_succ]
              refine wpAnyH_take (i := 3) (v := ?_) (by simp only [List.getElem?_toArray, List.getElem?_cons_succ, List.getElem?_cons_zero]; rfl) (by kernel_rfl) (by kernel_rfl) (by kernel_rfl) (by exact fun _ _ _ h => h) (Or.inl ⟨by rfl, ?_⟩) (by assumption) ?_
              rotate_left
              · intro wq hSw
                (try dsimp only at hSw)
                go_simp
                all_goals (with_reducible rfl)
              try simp only [Act.put, List.setIfInBounds_toArray, List.set_cons_zero, List.set_cons_succ]
              refine wpAnyH_take (i := 4) (v := ?_) (by simp only [List.getElem?_toArray, List.getElem?_cons_succ, List.getElem?_cons_zero]; rfl) (by kernel_rfl) (by kernel_rfl) (by kernel_rfl) (by exact fun _ _ _ h => h) (Or.inl ⟨by rfl, ?_⟩) (by assumption) ?_
              rotate_left
              · intro wq hSw
                (try dsimp only at hSw)
                go_simp
                all_goals (with_reducible rfl)
              try simp only [Act.put, List.setIfInBounds_toArray, List.set_cons_zero, List.set_cons_succ]
              refine wpAnyH_take (i := 5) (v := ?_) (by simp only [List.getElem?_toArray, List.getElem?_cons_succ, List.getElem?_cons_zero]; rfl) (by kernel_rfl) (by kernel_rfl) (by kernel_rfl) (by exact fun _ _ _ h => h) (Or.inl ⟨by rfl, ?_⟩) (by assumption) ?_
              rotate_left
              · intro wq hSw
                (try dsimp only at hSw)
                go_simp
                all_goals (with_reducible rfl)
              try simp only [Act.put, List.setIfInBounds_toArray, List.set_cons_zero, List.set_cons_succ]
              refine wpAnyH_take (i := 6) (v := ?_) (by simp only [List.getElem?_toArray, List.getElem?_cons_succ, List.getElem?_cons_zero]; rfl) (by kernel_rfl) (by kernel_rfl) (by kernel_rfl) (by exact fun _ _ _ h => h) (Or.inl ⟨by rfl, ?_⟩) (by assumption) ?_
              rotate_left
              · intro wq hSw
                (try dsimp only at hSw)
                go_simp
                all_goals (with_reducible rfl)
              try simp only [Act.put, List.setIfInBounds_toArray, List.set_cons_zero, List.set_cons_succ]
              refine wpAnyH_take (i := 8) (v := ?_) (by simp only [List.getElem?_toArray, List.getElem?_cons_succ, List.getElem?_cons_zero]; rfl) (by kernel_rfl) (by kernel_rfl) (by kernel_rfl) (by exact fun _ _ _ h => h) (Or.inl ⟨by rfl, ?_⟩) (by assumption) ?_
              rotate_left
              · intro wq hSw
                (try dsimp only at hSw)
                go_simp
                all_goals (with_reducible rfl)
              try simp only [Act.put, List.setIfInBounds_toArray, List.set_cons_zero, List.set_cons_succ]
              refine wpAnyH_take (i := 9) (v := ?_) (by simp only [List.getElem?_toArray, List.getElem?_cons_succ, List.getElem?_cons_zero]; rfl) (by kernel_rfl) (by kernel_rfl) (by kernel_rfl) (by exact fun _ _ _ h => h) (Or.inl ⟨by rfl, ?_⟩) (by assumption) ?_
              rotate_left
              · intro wq hSw
                (try dsimp only at hSw)
                go_simp
                all_goals (with_reducible rfl)
              try simp only [Act.put, List.setIfInBounds_toArray, List.set_cons_zero, List.set_cons_succ]
              refine wpAnyH_take (i := 10) (v := ?_) (by simp only [List.getElem?_toArray, List.getElem?_cons_succ, List.getElem?_cons_zero]; rfl) (by kernel_rfl) (by kernel_rfl) (by kernel_rfl) (by exact fun _ _ _ h => h) (Or.inl ⟨by rfl, ?_⟩) (by assumption) ?_
              rotate_left
              · intro wq hSw
                (try dsimp only at hSw)
                go_simp
                all_goals (with_reducible rfl)
              try simp only [Act.put, List.setIfInBounds_toArray, List.set_cons_zero, List.set_cons_succ]
              refine wpAnyH_ready (rs := [7, 11]) (by kernel_rfl) (by simp) ?_
              refine AllReadyH.cons (by simp only [List.getElem?_toArray, List.getElem?_cons_succ, List.getElem?_cons_zero]; rfl) (fun K hK => ?_) (AllReadyH.cons (by simp only [List.getElem?_toArray, List.getElem?_cons_succ, List.getElem?_cons_zero]; rfl) (fun K hK => ?_) AllReadyH.nil)
              · rw [if_pos (by rfl)]
                refine wp_ldc 28 _ rfl ⟨gm, j * 46, none⟩ (.agg (csP y.p y.o y.d)) rfl (load28m_run (by exact HRY.out) HYW.out.ad) ?_
                refine hK.out _ _ trivial (fun hHeld => ?_)
                clear hK K
                try simp only [Act.put, List.setIfInBounds_toArray, List.set_cons_zero, List.set_cons_succ]
                refine wpAnyH_ready (rs := [11]) (by kernel_rfl) (by simp) ?_
                refine AllReadyH.cons (by simp only [List.getElem?_toArray, List.getElem?_cons_succ, List.getElem?_cons_zero]; rfl) (fun K hK => ?_) AllReadyH.nil
                rw [if_pos (by rfl)]
                refine wp_ldc 28 _ rfl ⟨gm, i * 46, none⟩ (.agg (csP x.p x.o x.d)) rfl (load28m_run (by exact HRX.out) HXW.out.ad) ?_
                refine hK.out _ _ trivial (fun hHeld => ?_)
                clear hK K
                try simp only [Act.put, List.setIfInBounds_toArray, List.set_cons_zero, List.set_cons_succ]
                refine wpAnyH_take (i := 12) (v := ?_) (by simp only [List.getElem?_toArray, List.getElem?_cons_succ, List.getElem?_cons_zero]; rfl) (by kernel_rfl) (by kernel_rfl) (by kernel_rfl) (by exact fun _ _ _ h => h) (Or.inl ⟨by rfl, ?_⟩) (by assumption) ?_
                rotate_left
                · intro wq hSw
                  (try dsimp only at hSw)
                  go_simp
                  all_goals (with_reducible rfl)
                try simp only [Act.put, List.setIfInBounds_toArray, List.set_cons_zero, List.set_cons_succ]
                refine wpAnyH_ready (rs := [13]) (by kernel_rfl) (by simp) ?_
                refine AllReadyH.cons (by simp only [List.getElem?_toArray, List.getElem?_cons_succ, List.getElem?_cons_zero]; rfl) (fun K hK => ?_) AllReadyH.nil
                rw [if_pos (by rfl)]
                refine wp_store_mid 28 _ _ rfl gm (i * 46) (csP y.p y.o y.d) rfl rfl HTI.out (by rw [csP_size HYW.out.ad]; exact info28) HON.out ?_
                refine hK.out _ _ trivial (fun hHeld => ?_)
                clear hK K
                try simp only [Act.put, List.setIfInBounds_toArray, List.set_cons_zero, List.set_cons_succ]
                refine wpAnyH_take (i := 14) (v := ?_) (by simp only [List.getElem?_toArray, List.getElem?_cons_succ, List.getElem?_cons_zero]; rfl) (by kernel_rfl) (by kernel_rfl) (by kernel_rfl) (by exact fun _ _ _ h => h) (Or.inl ⟨by rfl, ?_⟩) (by assumption) ?_
                rotate_left
                · intro wq hSw
                  (try dsimp only at hSw)
                  go_simp
                  all_goals (with_reducible rfl)
                try simp only [Act.put, List.setIfInBounds_toArray, List.set_cons_zero, List.set_cons_succ]
                refine wpAnyH_ready (rs := [15]) (by kernel_rfl) (by simp) ?_
                refine AllReadyH.cons (by simp only [List.getElem?_toArray, List.getElem?_cons_succ, List.getElem?_cons_zero]; rfl) (fun K hK => ?_) AllReadyH.nil
                rw [if_pos (by rfl)]
                refine wp_store_mid 28 _ _ rfl gm (j * 46) (csP x.p x.o x.d) rfl rfl HTJ.out (by rw [csP_size HXW.out.ad]; exact info28) HOX.out ?_
                refine hK.out _ _ trivial (fun hHeld => ?_)
                clear hK K
                try simp only [Act.put, List.setIfInBounds_toArray, List.set_cons_zero, List.set_cons_succ]
                clear hHeld
                refine wpAnyH_done (by kernel_rfl) ?_ _
                go_wp2_with fail
                go_meet
                exact ⟨_, _, _, _, rfl, by rw [List.length_set, List.length_set]; exact HKL.out, by omega, HPS.out, HNO.out, HAF.out⟩
              · rw [if_pos (by rfl)]
                refine wp_ldc 28 _ rfl ⟨gm, i * 46, none⟩ (.agg (csP x.p x.o x.d)) rfl (load28m_run (by exact HRX.out) HXW.out.ad) ?_
                refine hK.out _ _ trivial (fun hHeld => ?_)
                clear hK K
                try simp only [Act.put, List.setIfInBounds_toArray, List.set_cons_zero, List.set_cons_succ]
                refine wpAnyH_ready (rs := [7]) (by kernel_rfl) (by simp) ?_
                refine AllReadyH.cons (by simp only [List.getElem?_toArray, List.getElem?_cons_succ, List.getElem?_cons_zero]; rfl) (fun K hK => ?_) AllReadyH.nil
                rw [if_pos (by rfl)]
                refine wp_ldc 28 _ rfl ⟨gm, j * 46, none⟩ (.agg (csP y.p y.o y.d)) rfl (load28m_run (by exact HRY.out) HYW.out.ad) ?_
                refine hK.out _ _ trivial (fun hHeld => ?_)
                clear hK K
                try simp only [Act.put, List.setIfInBounds_toArray, List.set_cons_zero, List.set_cons_succ]
                refine wpAnyH_take (i := 12) (v := ?_) (by simp only [List.getElem?_toArray, List.getElem?_cons_succ, List.getElem?_cons_zero]; rfl) (by kernel_rfl) (by kernel_rfl) (by kernel_rfl) (by exact fun _ _ _ h => h) (Or.inl ⟨by rfl, ?_⟩) (by assumption) ?_
                rotate_left
                · intro wq hSw
                  (try dsimp only at hSw)
                  go_simp
                  all_goals (with_reducible rfl)
                try simp only [Act.put, List.setIfInBounds_toArray, List.set_cons_zero, List.set_cons_succ]
                refine wpAnyH_ready (rs := [13]) (by kernel_rfl) (by simp) ?_
                refine AllReadyH.cons (by simp only [List.getElem?_toArray, List.getElem?_cons_succ, List.getElem?_cons_zero]; rfl) (fun K hK => ?_) AllReadyH.nil
                rw [if_pos (by rfl)]
                refine wp_store_mid 28 _ _ rfl gm (i * 46) (csP y.p y.o y.d) rfl rfl HTI.out (by rw [csP_size HYW.out.ad]; exact info28) HON.out ?_
                refine hK.out _ _ trivial (fun hHeld => ?_)
                clear hK K
                try simp only [Act.put, List.setIfInBounds_toArray, List.set_cons_zero, List.set_cons_succ]
                refine wpAnyH_take (i := 14) (v := ?_) (by simp only [List.getElem?_toArray, List.getElem?_cons_succ, List.getElem?_cons_zero]; rfl) (by kernel_rfl) (by kernel_rfl) (by kernel_rfl) (by exact fun _ _ _ h => h) (Or.inl ⟨by rfl, ?_⟩) (by assumption) ?_
                rotate_left
                · intro wq hSw
                  (try dsimp only at hSw)
                  go_simp
                  all_goals (with_reducible rfl)
                try simp only [Act.put, List.setIfInBounds_toArray, List.set_cons_zero, List.set_cons_succ]
                refine wpAnyH_ready (rs := [15]) (by kernel_rfl) (by simp) ?_
                refine AllReadyH.cons (by simp only [List.getElem?_toArray, List.getElem?_cons_succ, List.getElem?_cons_zero]; rfl) (fun K hK => ?_) AllReadyH.nil
                rw [if_pos (by rfl)]
                refine wp_store_mid 28 _ _ rfl gm (j * 46) (csP x.p x.o x.d) rfl rfl HTJ.out (by rw [csP_size HXW.out.ad]; exact info28) HOX.out ?_
                refine hK.out _ _ trivial (fun hHeld => ?_)
                clear hK K
                try simp only [Act.put, List.setIfInBounds_toArray, List.set_cons_zero, List.set_cons_succ]
                clear hHeld
                refine wpAnyH_done (by kernel_rfl) ?_ _
                go_wp2_with fail
                go_meet
                exact ⟨_, _, _, _, rfl, by rw [List.length_set, List.length_set]; exact HKL.out, by omega, HPS.out, HNO.out, HAF.out⟩
            have d2 : (c == 2) = false := by simp [c2]
            by_cases c3 : c = 3
            · as_aux_lemma =>
              subst c3
              have hcl := lst_cell HK.out.lst HKL.out HKA.out HXI.out (f := 38) (listP_v HXW.out.ad x.o x.d).2.2.2.2.1
              have c1 := hcl.1
              have c2 := hcl.2
              clear hcl
              have HPF := Lib.hid (HK.out.fld HKL.out (by omega) (f := 38) (u := (.int .i64 (bits .xor .i64 x.p.ttl 1))) (q := { x.p with ttl := bits .xor .i64 x.p.ttl 1 }) HXI.out (by omega) ((csP_set (p := x.p) HXW.out.ad _ _).2.2.2.2.2.2.1 _) (by have h := HXW.out; exact ⟨h.v, h.tos, h.flow, h.sv, h.sl, h.sb, h.dv, h.dl, h.db, h.proto, xorI _ _, h.id0, h.id1, h.off, h.o, h.ol, h.d, h.dn⟩) rfl rfl)
              have HAF : Hid (Away [] w10 (wL.setCell ⟨gm, i * 46 + 38, none⟩ ((.int .i64 (bits .xor .i64 x.p.ttl 1))))) := HAW.out.setCell (.inr (by show w10.heap.size ≤ gm; omega)) _
              have HNO : Hid (isP z m ((ks.set i ⟨{ x.p with ttl := bits .xor .i64 x.p.ttl 1 }, x.o, x.d⟩).map X.p) = false) := by refine Lib.hid ?_; rw [List.map_set]; exact no_set HF.out HPI.out rfl (.inl (xor_ne _ _ HXW.out.ttl (by decide)))
              go_wp2_with fail
              go_meet
              exact ⟨_, _, _, ks.set i _, rfl, by rw [List.length_set]; exact HKL.out, by omega, HPF.out, HNO.out, HAF.out⟩
            have d3 : (c == 3) = false := by simp [c3]
            by_cases c4 : c = 4
            · as_aux_lemma =>
              subst c4
              have hcl := lst_cell HK.out.lst HKL.out HKA.out HXI.out (f := 1) (listP_v HXW.out.ad x.o x.d).2.1
              have c1 := hcl.1
              have c2 := hcl.2
              clear hcl
              have HPF := Lib.hid (HK.out.fld HKL.out (by omega) (f := 1) (u := (.int .i64 (bits .xor .i64 x.p.tos 4))) (q := { x.p with tos := bits .xor .i64 x.p.tos 4 }) HXI.out (by omega) ((csP_set (p := x.p) HXW.out.ad _ _).2.1 _) (by have h := HXW.out; exact ⟨h.v, xorI _ _, h.flow, h.sv, h.sl, h.sb, h.dv, h.dl, h.db, h.proto, h.ttl, h.id0, h.id1, h.off, h.o, h.ol, h.d, h.dn⟩) rfl rfl)
              have HAF : Hid (Away [] w10 (wL.setCell ⟨gm, i * 46 + 1, none⟩ ((.int .i64 (bits .xor .i64 x.p.tos 4))))) := HAW.out.setCell (.inr (by show w10.heap.size ≤ gm; omega)) _
              have HNO : Hid (isP z m ((ks.set i ⟨{ x.p with tos := bits .xor .i64 x.p.tos 4 }, x.o, x.d⟩).map X.p) = false) := by refine Lib.hid ?_; rw [List.map_set]; exact no_set HF.out HPI.out rfl (.inr (.inl (xor_ne _ _ HXW.out.tos (by decide))))
              go_wp2_with fail
              go_meet
              exact ⟨_, _, _, ks.set i _, rfl, by rw [List.length_set]; exact HKL.out, by omega, HPF.out, HNO.out, HAF.out⟩
            have d4 : (c == 4) = false := by simp [c4]
            by_cases c5 : c = 5
            · as_aux_lemma =>
              subst c5
              have hcl := lst_cell HK.out.lst HKL.out HKA.out HXI.out (f := 39) (listP_v HXW.out.ad x.o x.d).2.2.2.2.2.1
              have c1 := hcl.1
              have c2 := hcl.2
              clear hcl
              have HPF := Lib.hid (HK.out.fld HKL.out (by omega) (f := 39) (u := (.int .u32 (bits .xor .u32 x.p.id 1))) (q := { x.p with id := bits .xor .u32 x.p.id 1 }) HXI.out (by omega) ((csP_set (p := x.p) HXW.out.ad _ _).2.2.2.2.2.2.2.1 _) (by have h := HXW.out; exact ⟨h.v, h.tos, h.flow, h.sv, h.sl, h.sb, h.dv, h.dl, h.db, h.proto, h.ttl, (xor32 h.id0 h.id1).1, (xor32 h.id0 h.id1).2.1, h.off, h.o, h.ol, h.d, h.dn⟩) rfl rfl)
              have HAF : Hid (Away [] w10 (wL.setCell ⟨gm, i * 46 + 39, none⟩ ((.int .u32 (bits .xor .u32 x.p.id 1))))) := HAW.out.setCell (.inr (by show w10.heap.size ≤ gm; omega)) _
              have HNO : Hid (isP z m ((ks.set i ⟨{ x.p with id := bits .xor .u32 x.p.id 1 }, x.o, x.d⟩).map X.p) = false) := by refine Lib.hid ?_; rw [List.map_set]; exact no_set HF.out HPI.out rfl (.inr (.inr (.inr (.inr (.inr (.inl ((xor32 HXW.out.id0 HXW.out.id1).2.2)))))))
              go_wp2_with fail
              go_meet
              exact ⟨_, _, _, ks.set i _, rfl, by rw [List.length_set]; exact HKL.out, by omega, HPF.out, HNO.out, HAF.out⟩
            have d5 : (c == 5) = false := by simp [c5]
            by_cases c6 : c = 6
            · as_aux_lemma =>
              subst c6
              have hcl := lst_cell HK.out.lst HKL.out HKA.out HXI.out (f := 41) (listP_v HXW.out.ad x.o x.d).2.2.2.2.2.2.2.1
              have c1 := hcl.1
              have c2 := hcl.2
              clear hcl
              have HPF := Lib.hid (HK.out.fld HKL.out (by omega) (f := 41) (u := (.bool (!x.p.more))) (q := { x.p with more := !x.p.more }) HXI.out (by omega) ((csP_set (p := x.p) HXW.out.ad _ _).2.2.2.2.2.2.2.2.2.1 _) (by have h := HXW.out; exact ⟨h.v, h.tos, h.flow, h.sv, h.sl, h.sb, h.dv, h.dl, h.db, h.proto, h.ttl, h.id0, h.id1, h.off, h.o, h.ol, h.d, h.dn⟩) rfl rfl)
              have HAF : Hid (Away [] w10 (wL.setCell ⟨gm, i * 46 + 41, none⟩ ((.bool (!x.p.more))))) := HAW.out.setCell (.inr (by show w10.heap.size ≤ gm; omega)) _
              have HNO : Hid (isP z m ((ks.set i ⟨{ x.p with more := !x.p.more }, x.o, x.d⟩).map X.p) = false) := by refine Lib.hid ?_; rw [List.map_set]; exact no_set HF.out HPI.out rfl (.inr (.inr (.inr (.inr (.inr (.inr (.inr (.inl (by show (!x.p.more) ≠ x.p.more; cases x.p.more <;> decide)))))))))
              go_wp2_with fail
              go_meet
              exact ⟨_, _, _, ks.set i _, rfl, by rw [List.length_set]; exact HKL.out, by omega, HPF.out, HNO.out, HAF.out⟩
            have d6 : (c == 6) = false := by simp [c6]
            obtain ⟨tt, hpf, -⟩ := HF.out.pf
            have hoff := (hpf i x.p HPI.out).off
            have hsum : sumD ((ks.map X.p).take i) ≤ 4000 := by
              have h1 := is_sum HF.out.is HF.out.two
              have h2 : sumD ((ks.map X.p).take i) + sumD ((ks.map X.p).drop i) = sumD (ks.map X.p) := by rw [← sumD_app, List.take_append_drop]
              have h3 := HZL.out
              omega
            have hof : 0 ≤ x.p.off ∧ x.p.off ≤ 4000 := by omega
            clear hpf hoff hsum
            by_cases c7 : c = 7
            · as_aux_lemma =>
              subst c7
              have hcl := lst_cell HK.out.lst HKL.out HKA.out HXI.out (f := 43) (listP_v HXW.out.ad x.o x.d).2.2.2.2.2.2.2.2.2.1
              have c1 := hcl.1
              have c2 := hcl.2
              clear hcl
              have HPF := Lib.hid (HK.out.fld HKL.out (by omega) (f := 43) (u := (.int .i64 (x.p.off + 8))) (q := { x.p with off := x.p.off + 8 }) HXI.out (by omega) ((csP_set (p := x.p) HXW.out.ad _ _).2.2.2.2.2.2.2.2.2.2.2.1 _) (by have h := HXW.out; exact ⟨h.v, h.tos, h.flow, h.sv, h.sl, h.sb, h.dv, h.dl, h.db, h.proto, h.ttl, h.id0, h.id1, (by show i64ok (x.p.off + 8); unfold i64ok; omega), h.o, h.ol, h.d, h.dn⟩) rfl rfl)
              have HAF : Hid (Away [] w10 (wL.setCell ⟨gm, i * 46 + 43, none⟩ ((.int .i64 (x.p.off + 8))))) := HAW.out.setCell (.inr (by show w10.heap.size ≤ gm; omega)) _
              have HNO : Hid (isP z m ((ks.set i ⟨{ x.p with off := x.p.off + 8 }, x.o, x.d⟩).map X.p) = false) := by refine Lib.hid ?_; rw [List.map_set]; exact no_set HF.out HPI.out rfl (.inr (.inr (.inr (.inr (.inr (.inr (.inr (.inr (.inl (by show x.p.off + 8 ≠ x.p.off; omega))))))))))
              go_wp2_with fail
              go_meet
              exact ⟨_, _, _, ks.set i _, rfl, by rw [List.length_set]; exact HKL.out, by omega, HPF.out, HNO.out, HAF.out⟩
            have d7 : (c == 7) = false := by simp [c7]
            by_cases c8 : c = 8
            · as_aux_lemma =>
              subst c8
              obtain ⟨gd, dc, hxd⟩ := HXM.out.d.shape' (fun h => by have := HF.out.pos x.p (List.mem_map_of_mem HXMm.out); rw [h] at this; simp at this)
              obtain ⟨dn, hdn⟩ : ∃ dn, dn = x.p.d.length := ⟨_, rfl⟩
              rw [← hdn] at hxd
              have HDN : Hid (x.p.d.length = dn) := hdn.symm
              have hdp : 0 < dn := by rw [hdn]; exact HF.out.pos x.p (List.mem_map_of_mem HXMm.out)
              have HXD := Lib.hid hxd
              have HC45 : Hid (wL.drew.cell? ⟨gm, i * 46 + 45, none⟩ = some (.slice (some ⟨gd, 0, none⟩) dn dc)) := by
                have := (lst_cell HK.out.lst HKL.out HKA.out HXI.out (f := 45) (listP_v HXW.out.ad x.o x.d).2.2.2.2.2.2.2.2.2.2.2).1
                rw [hxd] at this
                exact this
              have hown := HXM.out.d
              rw [hxd] at hown
              obtain ⟨x0, hx0⟩ : ∃ x0, x0 = x.p.d[0]?.getD 0 := ⟨_, rfl⟩
              have HX0 := Lib.hid hx0
              have HCD : Hid (wL.drew.cell? ⟨gd, 0, none⟩ = some (.int .u8 x0) ∧ wL.drew.frozen? ⟨gd, 0, none⟩ = false) := by
                have := hown.cells 0 (by omega)
                rw [← hx0] at this
                exact this
              have hxb : 0 ≤ x0 ∧ x0 ≤ 255 := by
                have hl : 0 < x.p.d.length := by omega
                have := HXW.out.d (x.p.d[0]) (List.getElem_mem hl)
                rw [hx0, List.getElem?_eq_getElem hl]; exact this
              have hx8 := xor8_ne x0 hxb.1 hxb.2
              have hgd : w10.heap.size ≤ gd := HXM.out.nd gd (by rw [hxd]; rfl)
              have hgne : gd ≠ gm := fun h => HK.out.far x HXMm.out gd (.inr (by rw [hxd]; rfl)) (by rw [h]; rfl)
              have HPF := Lib.hid ((HK.out.on (Away.refl [] wL).drew).byte HKL.out (by omega) HXI.out HXD.out HDN.out hx8.2)
              have HCS : Hid ((wL.drew.setCell ⟨gd, 0, none⟩ (.int .u8 (bits .xor .u8 x0 1))).cell? ⟨gm, i * 46 + 45, none⟩ = some (.slice (some ⟨gd, 0, none⟩) dn dc)) := (away_put (w := wL.drew) (g := gd) 0 _).cell (by simp; exact fun h => hgne h.symm) HC45.out
              have HAF : Hid (Away [] w10 (wL.drew.setCell ⟨gd, 0, none⟩ (.int .u8 (bits .xor .u8 x0 1)))) := (HAW.out.drew).setCell (.inr hgd) _
              have HNO : Hid (isP z m ((ks.set i ⟨{ x.p with d := x.p.d.set 0 (bits .xor .u8 x0 1) }, x.o, x.d⟩).map X.p) = false) := by
                refine Lib.hid ?_
                rw [List.map_set]
                refine no_set HF.out HPI.out (by show (x.p.d.set 0 _).length = _; rw [List.length_set]) (.inr (.inr (.inr (.inr (.inr (.inr (.inr (.inr (.inr (.inr ?_))))))))))
                show x.p.d.set 0 _ ≠ x.p.d
                intro h
                have h1 := congrArg (fun l => l[0]?.getD 0) h
                have hl : 0 < x.p.d.length := by omega
                simp only [List.getElem?_set_self hl, Option.getD_some] at h1
                rw [← hx0] at h1
                exact hx8.1 h1
              have hd1 : 0 < dn := hdp
              have hd2 : (0 : Int) < (dn : Int) := by omega
              clear hxd hdn hown hx0
              go_upto_region 39 with fail
              refine wp_region_held_drew (S := (fun w' => w'.cell? ⟨gm, i * 46 + 45, none⟩ = some (.slice (some ⟨gd, 0, none⟩) dn dc))) (by kernel_rfl) (by exact HC45.out) (fun hHeld => ?_)
              refine wpAnyH_take (i := 0) (v := ?_) (by simp only [List.getElem?_toArray, List.getElem?_cons_zero]; rfl) (by kernel_rfl) (by kernel_rfl) (by kernel_rfl) (by exact fun _ _ _ h => h) (Or.inl ⟨by rfl, ?_⟩) (by assumption) ?_
              rotate_left
              · intro wq hSw
                (try dsimp only at hSw)
                go_simp
                all_goals (with_reducible rfl)
              try simp only [Act.put, List.setIfInBounds_toArray, List.set_cons_zero, List.set_cons_succ]
              refine wpAnyH_take (i := 1) (v := ?_) (by simp only [List.getElem?_toArray, List.getElem?_cons_succ, List.getElem?_cons_zero]; rfl) (by kernel_rfl) (by kernel_rfl) (by kernel_rfl) (by exact fun _ _ _ h => h) (Or.inl ⟨by rfl, ?_⟩) (by assumption) ?_
              rotate_left
              · intro wq hSw
                (try dsimp only at hSw)
                go_simp
                all_goals (with_reducible rfl)
              try simp only [Act.put, List.setIfInBounds_toArray, List.set_cons_zero, List.set_cons_succ]
              refine wpAnyH_take (i := 2) (v := ?_) (by simp only [List.getElem?_toArray, List.getElem?_cons_succ, List.getElem?_cons_zero]; rfl) (by kernel_rfl) (by kernel_rfl) (by kernel_rfl) (by exact fun _ _ _ h => h) (Or.inl ⟨by rfl, ?_⟩) (by assumption) ?_
              rotate_left
              · intro wq hSw
                (try dsimp only at hSw)
                go_simp
                all_goals (with_reducible rfl)
              try simp only [Act.put, List.setIfInBounds_toArray, List.set_cons_zero, List.set_cons_succ]
              refine wpAnyH_take (i := 3) (v := ?_) (by simp only [List.getElem?_toArray, List.getElem?_cons_succ, List.getElem?_cons_zero]; rfl) (by kernel_rfl) (by kernel_rfl) (by kernel_rfl) (by exact fun _ _ _ h => h) (Or.inl ⟨by rfl, ?_⟩) (by assumption) ?_
              rotate_left
              · intro wq hSw
                (try dsimp only at hSw)
                go_simp
                all_goals (with_reducible rfl)
              try simp only [Act.put, List.setIfInBounds_toArray, List.set_cons_zero, List.set_cons_succ]
              refine wpAnyH_take (i := 4) (by simp only [List.getElem?_toArray, List.getElem?_cons_succ, List.getElem?_cons_zero]; rfl) (by kernel_rfl) (by kernel_rfl) (by kernel_rfl) (by exact fun _ _ _ h => h) (yields_ld (ad := ⟨gm, i * 46 + 45, none⟩) (by rfl) _ rfl rfl (fun w' h => S6.ld26 h)) (by assumption) ?_
              try simp only [Act.put, List.setIfInBounds_toArray, List.set_cons_zero, List.set_cons_succ]
              refine wpAnyH_take (i := 5) (v := ?_) (by simp only [List.getElem?_toArray, List.getElem?_cons_succ, List.getElem?_cons_zero]; rfl) (by kernel_rfl) (by kernel_rfl) (by kernel_rfl) (by exact fun _ _ _ h => h) (Or.inl ⟨by rfl, ?_⟩) (by assumption) ?_
              rotate_left
              · intro wq hSw
                (try dsimp only at hSw)
                go_simp
                all_goals (with_reducible rfl)
              try simp only [Act.put, List.setIfInBounds_toArray, List.set_cons_zero, List.set_cons_succ]
              refine wpAnyH_take (i := 6) (v := ?_) (by simp only [List.getElem?_toArray, List.getElem?_cons_succ, List.getElem?_cons_zero]; rfl) (by kernel_rfl) (by kernel_rfl) (by kernel_rfl) (by exact fun _ _ _ h => h) (Or.inl ⟨by rfl, ?_⟩) (by assumption) ?_
              rotate_left
              · intro wq hSw
                (try dsimp only at hSw)
                go_simp
                all_goals (with_reducible rfl)
              try simp only [Act.put, List.setIfInBounds_toArray, List.set_cons_zero, List.set_cons_succ]
              refine wpAnyH_take (i := 7) (v := ?_) (by simp only [List.getElem?_toArray, List.getElem?_cons_succ, List.getElem?_cons_zero]; rfl) (by kernel_rfl) (by kernel_rfl) (by kernel_rfl) (by exact fun _ _ _ h => h) (Or.inl ⟨by rfl, ?_⟩) (by assumption) ?_
              rotate_left
              · intro wq hSw
                (try dsimp only at hSw)
                go_simp
                all_goals (with_reducible rfl)
              try simp only [Act.put, List.setIfInBounds_toArray, List.set_cons_zero, List.set_cons_succ]
              refine wpAnyH_take (i := 8) (v := ?_) (by simp only [List.getElem?_toArray, List.getElem?_cons_succ, List.getElem?_cons_zero]; rfl) (by kernel_rfl) (by kernel_rfl) (by kernel_rfl) (by exact fun _ _ _ h => h) (Or.inl ⟨by rfl, ?_⟩) (by assumption) ?_
              rotate_left
              · intro wq hSw
                (try dsimp only at hSw)
                go_simp
                all_goals (with_reducible rfl)
              try simp only [Act.put, List.setIfInBounds_toArray, List.set_cons_zero, List.set_cons_succ]
              refine wpAnyH_take (i := 9) (by simp only [List.getElem?_toArray, List.getElem?_cons_succ, List.getElem?_cons_zero]; rfl) (by kernel_rfl) (by kernel_rfl) (by kernel_rfl) (by exact fun _ _ _ h => h) (yields_ld (ad := ⟨gm, i * 46 + 45, none⟩) (by rfl) _ rfl rfl (fun w' h => S6.ld26 h)) (by assumption) ?_
              try simp only [Act.put, List.setIfInBounds_toArray, List.set_cons_zero, List.set_cons_succ]
              refine wpAnyH_take (i := 10) (v := ?_) (by simp only [List.getElem?_toArray, List.getElem?_cons_succ, List.getElem?_cons_zero]; rfl) (by kernel_rfl) (by kernel_rfl) (by kernel_rfl) (by exact fun _ _ _ h => h) (Or.inl ⟨by rfl, ?_⟩) (by assumption) ?_
              rotate_left
              · intro wq hSw
                (try dsimp only at hSw)
                go_simp
                all_goals (with_reducible rfl)
              try simp only [Act.put, List.setIfInBounds_toArray, List.set_cons_zero, List.set_cons_succ]
              refine wpAnyH_ready (rs := [11]) (by kernel_rfl) (by simp) ?_
              refine AllReadyH.cons (by simp only [List.getElem?_toArray, List.getElem?_cons_succ, List.getElem?_cons_zero]; rfl) (fun K hK => ?_) AllReadyH.nil
              rw [if_pos (by rfl)]
              refine wp_ldc 5 _ rfl ⟨gd, 0, none⟩ (.int .u8 x0) rfl (S6.ld5 (by exact HCD.out.1)) ?_
              refine hK.out _ _ (by exact hHeld) (fun hHeld => ?_)
              clear hK K
              try simp only [Act.put, List.setIfInBounds_toArray, List.set_cons_zero, List.set_cons_succ]
              refine wpAnyH_take (i := 12) (v := ?_) (by simp only [List.getElem?_toArray, List.getElem?_cons_succ, List.getElem?_cons_zero]; rfl) (by kernel_rfl) (by kernel_rfl) (by kernel_rfl) (by exact fun _ _ _ h => h) (Or.inl ⟨by rfl, ?_⟩) (by assumption) ?_
              rotate_left
              · intro wq hSw
                (try dsimp only at hSw)
                go_simp
                all_goals (with_reducible rfl)
              try simp only [Act.put, List.setIfInBounds_toArray, List.set_cons_zero, List.set_cons_succ]
              refine wpAnyH_take (i := 13) (v := ?_) (by simp only [List.getElem?_toArray, List.getElem?_cons_succ, List.getElem?_cons_zero]; rfl) (by kernel_rfl) (by kernel_rfl) (by kernel_rfl) (by exact fun _ _ _ h => h) (Or.inl ⟨by rfl, ?_⟩) (by assumption) ?_
              rotate_left
              · intro wq hSw
                (try dsimp only at hSw)
                go_simp
                all_goals (with_reducible rfl)
              try simp only [Act.put, List.setIfInBounds_toArray, List.set_cons_zero, List.set_cons_succ]
              refine wpAnyH_ready (rs := [14]) (by kernel_rfl) (by simp) ?_
              refine AllReadyH.cons (by simp only [List.getElem?_toArray, List.getElem?_cons_succ, List.getElem?_cons_zero]; rfl) (fun K hK => ?_) AllReadyH.nil
              rw [if_pos (by rfl)]
              refine wp_stc (w' := wL.drew.setCell ⟨gd, 0, none⟩ (.int .u8 (bits .xor .u8 x0 1))) 5 _ _ rfl ⟨gd, 0, none⟩ (.int .u8 (bits .xor .u8 x0 1)) rfl rfl (put5 _ _ _ _ (by exact HCD.out.1) (by exact HCD.out.2)) ?_
              refine hK.out _ _ (by exact HCS.out) (fun hHeld => ?_)
              clear hK K
              try simp only [Act.put, List.setIfInBounds_toArray, List.set_cons_zero, List.set_cons_succ]
              clear hHeld
              refine wpAnyH_done (by kernel_rfl) ?_ _
              go_wp2_with fail
              go_meet
              exact ⟨_, _, _, _, rfl, by rw [List.length_set]; exact HKL.out, by omega, HPF.out, HNO.out, HAF.out⟩
            have d8 : (c == 8) = false := by simp [c8]
            by_cases c9 : c = 9
            · as_aux_lemma =>
              subst c9
              have hcl := lst_cell HK.out.lst HKL.out HKA.out HXI.out (f := 21) (listP_v HXW.out.ad x.o x.d).2.2.1
              obtain ⟨x0, hx0⟩ : ∃ x0, x0 = x.p.db[0]?.getD 0 := ⟨_, rfl⟩
              rw [← hx0] at hcl
              have HCD : Hid (wL.drew.cell? ⟨gm, i * 46 + 21, none⟩ = some (.int .u8 x0) ∧ wL.drew.frozen? ⟨gm, i * 46 + 21, none⟩ = false) := hcl
              have hl : 0 < x.p.db.length := by have := HXW.out.dl; omega
              have hxb : 0 ≤ x0 ∧ x0 ≤ 255 := by
                have := HXW.out.db (x.p.db[0]) (List.getElem_mem hl)
                rw [hx0, List.getElem?_eq_getElem hl]; exact this
              have hx8 := xor8_ne x0 hxb.1 hxb.2
              have hby : Bytes (x.p.db.set 0 (bits .xor .u8 x0 1)) := fun b hb => by
                rcases List.mem_or_eq_of_mem_set hb with h1 | h1
                · exact HXW.out.db b h1
                · rw [h1]; exact hx8.2
              have HPF := Lib.hid ((HK.out.on (Away.refl [] wL).drew).fld HKL.out (by omega) (f := 21) (u := .int .u8 (bits .xor .u8 x0 1)) (q := { x.p with db := x.p.db.set 0 (bits .xor .u8 x0 1) }) HXI.out (by omega) (csP_db HXW.out.sl _ _ 0 hl _) (by have h := HXW.out; exact ⟨h.v, h.tos, h.flow, h.sv, h.sl, h.sb, h.dv, by show (x.p.db.set 0 _).length = 16; rw [List.length_set]; exact h.dl, hby, h.proto, h.ttl, h.id0, h.id1, h.off, h.o, h.ol, h.d, h.dn⟩) rfl rfl)
              have HAF : Hid (Away [] w10 (wL.drew.setCell ⟨gm, i * 46 + 21, none⟩ (.int .u8 (bits .xor .u8 x0 1)))) := (HAW.out.drew).setCell (.inr (by show w10.heap.size ≤ gm; omega)) _
              have HNO : Hid (isP z m ((ks.set i ⟨{ x.p with db := x.p.db.set 0 (bits .xor .u8 x0 1) }, x.o, x.d⟩).map X.p) = false) := by
                refine Lib.hid ?_
                rw [List.map_set]
                refine no_set HF.out HPI.out rfl (.inr (.inr (.inr (.inl ?_))))
                show x.p.db.set 0 _ ≠ x.p.db
                intro h
                have h1 := congrArg (fun l => l[0]?.getD 0) h
                simp only [List.getElem?_set_self hl, Option.getD_some] at h1
                rw [← hx0] at h1
                exact hx8.1 h1
              clear hcl hx0 hby
              go_upto_region 41 with fail
              refine wp_region_held_drew (S := (fun _ => True)) (by kernel_rfl) trivial (fun hHeld => ?_)
              refine wpAnyH_take (i := 0) (v := ?_) (by simp only [List.getElem?_toArray, List.getElem?_cons_zero]; rfl) (by kernel_rfl) (by kernel_rfl) (by kernel_rfl) (by exact fun _ _ _ h => h) (Or.inl ⟨by rfl, ?_⟩) (by assumption) ?_
              rotate_left
              · intro wq hSw
                (try dsimp only at hSw)
                go_simp
                all_goals (with_reducible rfl)
              try simp only [Act.put, List.setIfInBounds_toArray, List.set_cons_zero, List.set_cons_succ]
              refine wpAnyH_take (i := 1) (v := ?_) (by simp only [List.getElem?_toArray, List.getElem?_cons_succ, List.getElem?_cons_zero]; rfl) (by kernel_rfl) (by kernel_rfl) (by kernel_rfl) (by exact fun _ _ _ h => h) (Or.inl ⟨by rfl, ?_⟩) (by assumption) ?_
              rotate_left
              · intro wq hSw
                (try dsimp only at hSw)
                go_simp
                all_goals (with_reducible rfl)
              try simp only [Act.put, List.setIfInBounds_toArray, List.set_cons_zero, List.set_cons_succ]
              refine wpAnyH_take (i := 2) (v := ?_) (by simp only [List.getElem?_toArray, List.getElem?_cons_succ, List.getElem?_cons_zero]; rfl) (by kernel_rfl) (by kernel_rfl) (by kernel_rfl) (by exact fun _ _ _ h => h) (Or.inl ⟨by rfl, ?_⟩) (by assumption) ?_
              rotate_left
              · intro wq hSw
                (try dsimp only at hSw)
                go_simp
                all_goals (with_reducible rfl)
              try simp only [Act.put, List.setIfInBounds_toArray, List.set_cons_zero, List.set_cons_succ]
              refine wpAnyH_take (i := 3) (v := ?_) (by simp only [List.getElem?_toArray, List.getElem?_cons_succ, List.getElem?_cons_zero]; rfl) (by kernel_rfl) (by kernel_rfl) (by kernel_rfl) (by exact fun _ _ _ h => h) (Or.inl ⟨by rfl, ?_⟩) (by assumption) ?_
              rotate_left
              · intro wq hSw
                (try dsimp only at hSw)
                go_simp
                all_goals (with_reducible rfl)
              try simp only [Act.put, List.setIfInBounds_toArray, List.set_cons_zero, List.set_cons_succ]
              refine wpAnyH_take (i := 4) (v := ?_) (by simp only [List.getElem?_toArray, List.getElem?_cons_succ, List.getElem?_cons_zero]; rfl) (by kernel_rfl) (by kernel_rfl) (by kernel_rfl) (by exact fun _ _ _ h => h) (Or.inl ⟨by rfl, ?_⟩) (by assumption) ?_
              rotate_left
              · intro wq hSw
                (try dsimp only at hSw)
                go_simp
                all_goals (with_reducible rfl)
              try simp only [Act.put, List.setIfInBounds_toArray, List.set_cons_zero, List.set_cons_succ]
              refine wpAnyH_take (i := 5) (v := ?_) (by simp only [List.getElem?_toArray, List.getElem?_cons_succ, List.getElem?_cons_zero]; rfl) (by kernel_rfl) (by kernel_rfl) (by kernel_rfl) (by exact fun _ _ _ h => h) (Or.inl ⟨by rfl, ?_⟩) (by assumption) ?_
              rotate_left
              · intro wq hSw
                (try dsimp only at hSw)
                go_simp
                all_goals (with_reducible rfl)
              try simp only [Act.put, List.setIfInBounds_toArray, List.set_cons_zero, List.set_cons_succ]
              refine wpAnyH_take (i := 6) (v := ?_) (by simp only [List.getElem?_toArray, List.getElem?_cons_succ, List.getElem?_cons_zero]; rfl) (by kernel_rfl) (by kernel_rfl) (by kernel_rfl) (by exact fun _ _ _ h => h) (Or.inl ⟨by rfl, ?_⟩) (by assumption) ?_
              rotate_left
              · intro wq hSw
                (try dsimp only at hSw)
                go_simp
                all_goals (with_reducible rfl)
              try simp only [Act.put, List.setIfInBounds_toArray, List.set_cons_zero, List.set_cons_succ]
              refine wpAnyH_take (i := 7) (v := ?_) (by simp only [List.getElem?_toArray, List.getElem?_cons_succ, List.getElem?_cons_zero]; rfl) (by kernel_rfl) (by kernel_rfl) (by kernel_rfl) (by exact fun _ _ _ h => h) (Or.inl ⟨by rfl, ?_⟩) (by assumption) ?_
              rotate_left
              · intro wq hSw
                (try dsimp only at hSw)
                go_simp
                all_goals (with_reducible rfl)
              try simp only [Act.put, List.setIfInBounds_toArray, List.set_cons_zero, List.set_cons_succ]
              refine wpAnyH_take (i := 10) (v := ?_) (by simp only [List.getElem?_toArray, List.getElem?_cons_succ, List.getElem?_cons_zero]; rfl) (by kernel_rfl) (by kernel_rfl) (by kernel_rfl) (by exact fun _ _ _ h => h) (Or.inl ⟨by rfl, ?_⟩) (by assumption) ?_
              rotate_left
              · intro wq hSw
                (try dsimp only at hSw)
                go_simp
                all_goals (with_reducible rfl)
              try simp only [Act.put, List.setIfInBounds_toArray, List.set_cons_zero, List.set_cons_succ]
              refine wpAnyH_take (i := 11) (v := ?_) (by simp only [List.getElem?_toArray, List.getElem?_cons_succ, List.getElem?_cons_zero]; rfl) (by kernel_rfl) (by kernel_rfl) (by kernel_rfl) (by exact fun _ _ _ h => h) (Or.inl ⟨by rfl, ?_⟩) (by assumption) ?_
              rotate_left
              · intro wq hSw
                (try dsimp only at hSw)
                go_simp
                all_goals (with_reducible rfl)
              try simp only [Act.put, List.setIfInBounds_toArray, List.set_cons_zero, List.set_cons_succ]
              refine wpAnyH_take (i := 12) (v := ?_) (by simp only [List.getElem?_toArray, List.getElem?_cons_succ, List.getElem?_cons_zero]; rfl) (by kernel_rfl) (by kernel_rfl) (by kernel_rfl) (by exact fun _ _ _ h => h) (Or.inl ⟨by rfl, ?_⟩) (by assumption) ?_
              rotate_left
              · intro wq hSw
                (try dsimp only at hSw)
                go_simp
                all_goals (with_reducible rfl)
              try simp only [Act.put, List.setIfInBounds_toArray, List.set_cons_zero, List.set_cons_succ]
              refine wpAnyH_ready (rs := [8]) (by kernel_rfl) (by simp) ?_
              refine AllReadyH.cons (by simp only [List.getElem?_toArray, List.getElem?_cons_succ, List.getElem?_cons_zero]; rfl) (fun K hK => ?_) AllReadyH.nil
              rw [if_pos (by rfl)]
              refine wp_ldc 5 _ rfl ⟨gm, i * 46 + 21, none⟩ (.int .u8 x0) rfl (S6.ld5 (by exact HCD.out.1)) ?_
              refine hK.out _ _ trivial (fun hHeld => ?_)
              clear hK K
              try simp only [Act.put, List.setIfInBounds_toArray, List.set_cons_zero, List.set_cons_succ]
              refine wpAnyH_take (i := 9) (v := ?_) (by simp only [List.getElem?_toArray, List.getElem?_cons_succ, List.getElem?_cons_zero]; rfl) (by kernel_rfl) (by kernel_rfl) (by kernel_rfl) (by exact fun _ _ _ h => h) (Or.inl ⟨by rfl, ?_⟩) (by assumption) ?_
              rotate_left
              · intro wq hSw
                (try dsimp only at hSw)
                go_simp
                all_goals (with_reducible rfl)
              try simp only [Act.put, List.setIfInBounds_toArray, List.set_cons_zero, List.set_cons_succ]
              refine wpAnyH_take (i := 13) (v := ?_) (by simp only [List.getElem?_toArray, List.getElem?_cons_succ, List.getElem?_cons_zero]; rfl) (by kernel_rfl) (by kernel_rfl) (by kernel_rfl) (by exact fun _ _ _ h => h) (Or.inl ⟨by rfl, ?_⟩) (by assumption) ?_
              rotate_left
              · intro wq hSw
                (try dsimp only at hSw)
                go_simp
                all_goals (with_reducible rfl)
              try simp only [Act.put, List.setIfInBounds_toArray, List.set_cons_zero, List.set_cons_succ]
              refine wpAnyH_ready (rs := [14]) (by kernel_rfl) (by simp) ?_
              refine AllReadyH.cons (by simp only [List.getElem?_toArray, List.getElem?_cons_succ, List.getElem?_cons_zero]; rfl) (fun K hK => ?_) AllReadyH.nil
              rw [if_pos (by rfl)]
              refine wp_stc (w' := wL.drew.setCell ⟨gm, i * 46 + 21, none⟩ (.int .u8 (bits .xor .u8 x0 1))) 5 _ _ rfl ⟨gm, i * 46 + 21, none⟩ (.int .u8 (bits .xor .u8 x0 1)) rfl rfl (put5 _ _ _ _ (by exact HCD.out.1) (by exact HCD.out.2)) ?_
              refine hK.out _ _ trivial (fun hHeld => ?_)
              clear hK K
              try simp only [Act.put, List.setIfInBounds_toArray, List.set_cons_zero, List.set_cons_succ]
              clear hHeld
              refine wpAnyH_done (by kernel_rfl) ?_ _
              go_wp2_with fail
              go_meet
              exact ⟨_, _, _, _, rfl, by rw [List.length_set]; exact HKL.out, by omega, HPF.out, HNO.out, HAF.out⟩
            have d9 : (c == 9) = false := by simp [c9]
            by_cases c10 : c = 10
            · as_aux_lemma =>
              subst c10
              have hcl := lst_cell HK.out.lst HKL.out HKA.out HXI.out (f := 37) (listP_v HXW.out.ad x.o x.d).2.2.2.1
              have c1 := hcl.1
              have c2 := hcl.2
              clear hcl
              have HPF := Lib.hid (HK.out.fld HKL.out (by omega) (f := 37) (u := (.int .i64 (bits .xor .i64 x.p.proto 128))) (q := { x.p with proto := bits .xor .i64 x.p.proto 128 }) HXI.out (by omega) ((csP_set (p := x.p) HXW.out.ad _ _).2.2.2.2.2.1 _) (by have h := HXW.out; exact ⟨h.v, h.tos, h.flow, h.sv, h.sl, h.sb, h.dv, h.dl, h.db, xorI _ _, h.ttl, h.id0, h.id1, h.off, h.o, h.ol, h.d, h.dn⟩) rfl rfl)
              have HAF : Hid (Away [] w10 (wL.setCell ⟨gm, i * 46 + 37, none⟩ ((.int .i64 (bits .xor .i64 x.p.proto 128))))) := HAW.out.setCell (.inr (by show w10.heap.size ≤ gm; omega)) _
              have HNO : Hid (isP z m ((ks.set i ⟨{ x.p with proto := bits .xor .i64 x.p.proto 128 }, x.o, x.d⟩).map X.p) = false) := by refine Lib.hid ?_; rw [List.map_set]; exact no_set HF.out HPI.out rfl (.inr (.inr (.inl (xor_ne _ _ HXW.out.proto (by decide)))))
              go_wp2_with fail
              go_meet
              exact ⟨_, _, _, ks.set i _, rfl, by rw [List.length_set]; exact HKL.out, by omega, HPF.out, HNO.out, HAF.out⟩
            have d10 : (c == 10) = false := by simp [c10]
            have hdf : x.p.df = false := by obtain ⟨tt, hpf, -⟩ := HF.out.pf; have h1 := (hpf i x.p HPI.out).df; rw [h1]; exact HZD.out
            have HDF := Lib.hid hdf
            clear hdf
            by_cases c11 : c = 11
            · as_aux_lemma =>
              subst c11
              have hcl := lst_cell HK.out.lst HKL.out HKA.out HXI.out (f := 40) (listP_v HXW.out.ad x.o x.d).2.2.2.2.2.2.1
              have c1 := hcl.1
              have c2 := hcl.2
              clear hcl
              have HPF := Lib.hid (HK.out.fld HKL.out (by omega) (f := 40) (u := (.bool true)) (q := { x.p with df := true }) HXI.out (by omega) ((csP_set (p := x.p) HXW.out.ad _ _).2.2.2.2.2.2.2.2.1 _) (by have h := HXW.out; exact ⟨h.v, h.tos, h.flow, h.sv, h.sl, h.sb, h.dv, h.dl, h.db, h.proto, h.ttl, h.id0, h.id1, h.off, h.o, h.ol, h.d, h.dn⟩) rfl rfl)
              have HAF : Hid (Away [] w10 (wL.setCell ⟨gm, i * 46 + 40, none⟩ ((.bool true)))) := HAW.out.setCell (.inr (by show w10.heap.size ≤ gm; omega)) _
              have HNO : Hid (isP z m ((ks.set i ⟨{ x.p with df := true }, x.o, x.d⟩).map X.p) = false) := by refine Lib.hid ?_; rw [List.map_set]; exact no_set HF.out HPI.out rfl (.inr (.inr (.inr (.inr (.inl (by show true ≠ x.p.df; rw [HDF.out]; decide))))))
              go_wp2_with fail
              go_meet
              exact ⟨_, _, _, ks.set i _, rfl, by rw [List.length_set]; exact HKL.out, by omega, HPF.out, HNO.out, HAF.out⟩
            have d11 : (c == 11) = false := by simp [c11]
            by_cases c12 : c = 12
            · as_aux_lemma =>
              subst c12
              obtain ⟨oa, oc, hxo⟩ := HXM.out.o.shape
              have HXO := Lib.hid hxo
              obtain ⟨on, hon⟩ : ∃ on, on = x.p.o.length := ⟨_, rfl⟩
              rw [← hon] at hxo
              have HOL := Lib.hid hon
              have hcl := lst_cell HK.out.lst HKL.out HKA.out HXI.out (f := 44) (listP_v HXW.out.ad x.o x.d).2.2.2.2.2.2.2.2.2.2.1
              rw [hxo] at hcl
              have c1 := hcl.1
              have c2 := hcl.2
              have HOW : Hid (Owns wL (.slice oa on oc) x.p.o) := by have := HXM.out.o; rw [hxo] at this; exact this
              have HXO2 := Lib.hid hxo
              have HCC := Lib.hid hcl
              have holn := HXW.out.ol
              have hol2 : x.p.o.length + 4 ≤ 140737488355328 := by
                obtain ⟨tt, hpf, -⟩ := HF.out.pf
                have h1 := (hpf i x.p HPI.out).o
                have h2 := HZU.out
                have h3 : z.o.length ≤ 65535 := by
                  by_cases hv : z.v = 6
                  · have hr := h2.r; unfold rgtP at hr; rw [if_pos hv, S6.right_iff] at hr; rw [hr.o]; simp
                  · have := (h2.all.2 hv).1; omega
                have h4 := (carry_valid HZW.out.o).2.1
                rw [h1]; split <;> omega
              clear hcl hxo hon
              go_wp2_with (at_builtin; refine wpList_app rfl _ _ rfl _ x.p.o [1, 1, 1, 1] rfl (by exact HOW.out.away ((Away.refl [] _).alloc _) (by simp)) ⟨wL.heap.size, 0, none⟩ 4 4 rfl rfl (lit_cells _ [1, 1, 1, 1] _ rfl) (by omega) ?_; refine Hid.out ?_)
              refine Lib.hid ?_
              intro v' wn hown hgr hmv
              have hwa : Away [] wL (wL.alloc (.cells ([1, 1, 1, 1].map (Value.int .u8)).toArray 5)) := (Away.refl [] wL).alloc _
              have HKn := Lib.hid (HK.out.on hwa)
              have hby : Bytes (x.p.o ++ [1, 1, 1, 1]) := fun b hb => by
                rcases List.mem_append.1 hb with h | h
                · exact HXW.out.o b h
                · simp at h; subst h; decide
              have hop := HKn.out.opts HKL.out (by omega) HXI.out (by have := HAW.out.size; have := hwa.size; omega) (by rw [HXO2.out]; exact hgr) (by rw [HXO2.out]; exact hmv) hown hby (by rw [List.length_append]; simp only [List.length_cons, List.length_nil]; omega)
              obtain ⟨x1, x2, x3, hv'⟩ := hown.shp
              subst hv'
              have HPF := Lib.hid hop.1
              have HAF : Hid (Away [] w10 (wn.setCell ⟨gm, i * 46 + 44, none⟩ (.slice x1 x2 x3))) := (HAW.out.trans hwa).next hop.2 (fun q hq => .inr (by
                rcases List.mem_cons.1 hq with rfl | hq
                · omega
                · exact HXM.out.no q (by simpa using hq)))
              have HNO : Hid (isP z m ((ks.set i ⟨{ x.p with o := x.p.o ++ [1, 1, 1, 1] }, .slice x1 x2 x3, x.d⟩).map X.p) = false) := by
                refine Lib.hid ?_
                rw [List.map_set]
                refine no_set HF.out HPI.out rfl (.inr (.inr (.inr (.inr (.inr (.inr (.inr (.inr (.inr (.inl ?_))))))))))
                show x.p.o ++ [1, 1, 1, 1] ≠ x.p.o
                intro h
                have h1 := congrArg List.length h
                simp at h1
              have hgo : ∀ q, (Value.slice oa on oc).ownBlock = some q → q ≠ gm := fun q hq h => HK.out.far x HXMm.out q (.inl (by rw [HXO2.out]; exact hq)) (by rw [h]; rfl)
              have hkeep := HKn.out.lst.away ((Away.refl (Value.slice oa on oc).ownBlock.toList _).grown hgr (fun q hq => .inl (by simp [hq]))) (fun q hq hc => by simp [Value.ownBlock] at hq; subst hq; exact hgo _ (by simpa using hc) rfl)
              have hcl := lst_cell hkeep HKL.out HKA.out HXI.out (f := 44) (listP_v HXW.out.ad x.o x.d).2.2.2.2.2.2.2.2.2.2.1
              have c3 := hcl.1
              have c4 := hcl.2
              clear hcl hkeep hop hown hgr hmv c1 c2
              go_wp2_with fail
              go_meet
              exact ⟨_, _, _, ks.set i _, rfl, by rw [List.length_set]; exact HKL.out, by omega, HPF.out, HNO.out, HAF.out⟩
            have d12 : (c == 12) = false := by simp [c12]
            by_cases c13 : c = 13
            · as_aux_lemma =>
              subst c13
              obtain ⟨gd, dc, hxd⟩ := HXM.out.d.shape' (fun h => by have := HF.out.pos x.p (List.mem_map_of_mem HXMm.out); rw [h] at this; simp at this)
              obtain ⟨dn, hdn⟩ : ∃ dn, dn = x.p.d.length := ⟨_, rfl⟩
              rw [← hdn] at hxd
              have HDN : Hid (x.p.d.length = dn) := hdn.symm
              have hdp : 0 < dn := by rw [hdn]; exact HF.out.pos x.p (List.mem_map_of_mem HXMm.out)
              have HXD := Lib.hid hxd
              have hcl := lst_cell HK.out.lst HKL.out HKA.out HXI.out (f := 45) (listP_v HXW.out.ad x.o x.d).2.2.2.2.2.2.2.2.2.2.2
              rw [hxd] at hcl
              have HC45 : Hid (wL.drew.cell? ⟨gm, i * 46 + 45, none⟩ = some (.slice (some ⟨gd, 0, none⟩) dn dc)) := hcl.1
              have HF45 : Hid (wL.drew.frozen? ⟨gm, i * 46 + 45, none⟩ = false) := hcl.2
              have hsd := (HXM.out.d.sl HXW.out.d HXW.out.dn)
              rw [hxd] at hsd
              have hdc := hsd.of.2.1
              have hdl := HXW.out.dn
              rw [HDN.out] at hdl
              have hsl := slice_h (some ⟨gd, 0, none⟩) dn dc (dn - 1) ((dn : Int) - 1) (by omega) (by omega)
              have w1d : IntKind.i64.wrap ((dn : Int) - 1) = (dn : Int) - 1 := by rw [IntKind.wrap_i64]; omega
              have HPF := Lib.hid ((HK.out.on (Away.refl [] wL).drew).short HKL.out (by omega) (m := dn - 1) HXI.out HXD.out HDN.out (by omega))
              have HAF : Hid (Away [] w10 (wL.drew.setCell ⟨gm, i * 46 + 45, none⟩ (.slice (some ⟨gd, 0, none⟩) (dn - 1) dc))) := (HAW.out.drew).setCell (.inr (by show w10.heap.size ≤ gm; omega)) _
              have HNO : Hid (isP z m ((ks.set i ⟨{ x.p with d := x.p.d.take (dn - 1) }, x.o, .slice (some ⟨gd, 0, none⟩) (dn - 1) dc⟩).map X.p) = false) := by
                refine Lib.hid ?_
                rw [List.map_set]
                refine no_short HF.out HPI.out ?_
                show (x.p.d.take (dn - 1)).length < x.p.d.length
                rw [List.length_take, HDN.out]; omega
              clear hcl hxd hdn hsd
              go_upto_region 49 with fail
              refine wp_region_held_drew (S := (fun _ => True)) (by kernel_rfl) trivial (fun hHeld => ?_)
              refine wpAnyH_take (i := 0) (v := ?_) (by simp only [List.getElem?_toArray, List.getElem?_cons_zero]; rfl) (by kernel_rfl) (by kernel_rfl) (by kernel_rfl) (by exact fun _ _ _ h => h) (Or.inl ⟨by rfl, ?_⟩) (by assumption) ?_
              rotate_left
              · intro wq hSw
                (try dsimp only at hSw)
                go_simp
                all_goals (with_reducible rfl)
              try simp only [Act.put, List.setIfInBounds_toArray, List.set_cons_zero, List.set_cons_succ]
              refine wpAnyH_take (i := 1) (v := ?_) (by simp only [List.getElem?_toArray, List.getElem?_cons_succ, List.getElem?_cons_zero]; rfl) (by kernel_rfl) (by kernel_rfl) (by kernel_rfl) (by exact fun _ _ _ h => h) (Or.inl ⟨by rfl, ?_⟩) (by assumption) ?_
              rotate_left
              · intro wq hSw
                (try dsimp only at hSw)
                go_simp
                all_goals (with_reducible rfl)
              try simp only [Act.put, List.setIfInBounds_toArray, List.set_cons_zero, List.set_cons_succ]
              refine wpAnyH_take (i := 2) (v := ?_) (by simp only [List.getElem?_toArray, List.getElem?_cons_succ, List.getElem?_cons_zero]; rfl) (by kernel_rfl) (by kernel_rfl) (by kernel_rfl) (by exact fun _ _ _ h => h) (Or.inl ⟨by rfl, ?_⟩) (by assumption) ?_
              rotate_left
              · intro wq hSw
                (try dsimp only at hSw)
                go_simp
                all_goals (with_reducible rfl)
              try simp only [Act.put, List.setIfInBounds_toArray, List.set_cons_zero, List.set_cons_succ]
              refine wpAnyH_take (i := 3) (v := ?_) (by simp only [List.getElem?_toArray, List.getElem?_cons_succ, List.getElem?_cons_zero]; rfl) (by kernel_rfl) (by kernel_rfl) (by kernel_rfl) (by exact fun _ _ _ h => h) (Or.inl ⟨by rfl, ?_⟩) (by assumption) ?_
              rotate_left
              · intro wq hSw
                (try dsimp only at hSw)
                go_simp
                all_goals (with_reducible rfl)
              try simp only [Act.put, List.setIfInBounds_toArray, List.set_cons_zero, List.set_cons_succ]
              refine wpAnyH_take (i := 4) (v := ?_) (by simp only [List.getElem?_toArray, List.getElem?_cons_succ, List.getElem?_cons_zero]; rfl) (by kernel_rfl) (by kernel_rfl) (by kernel_rfl) (by exact fun _ _ _ h => h) (Or.inl ⟨by rfl, ?_⟩) (by assumption) ?_
              rotate_left
              · intro wq hSw
                (try dsimp only at hSw)
                go_simp
                all_goals (with_reducible rfl)
              try simp only [Act.put, List.setIfInBounds_toArray, List.set_cons_zero, List.set_cons_succ]
              refine wpAnyH_take (i := 5) (v := ?_) (by simp only [List.getElem?_toArray, List.getElem?_cons_succ, List.getElem?_cons_zero]; rfl) (by kernel_rfl) (by kernel_rfl) (by kernel_rfl) (by exact fun _ _ _ h => h) (Or.inl ⟨by rfl, ?_⟩) (by assumption) ?_
              rotate_left
              · intro wq hSw
                (try dsimp only at hSw)
                go_simp
                all_goals (with_reducible rfl)
              try simp only [Act.put, List.setIfInBounds_toArray, List.set_cons_zero, List.set_cons_succ]
              refine wpAnyH_take (i := 7) (v := ?_) (by simp only [List.getElem?_toArray, List.getElem?_cons_succ, List.getElem?_cons_zero]; rfl) (by kernel_rfl) (by kernel_rfl) (by kernel_rfl) (by exact fun _ _ _ h => h) (Or.inl ⟨by rfl, ?_⟩) (by assumption) ?_
              rotate_left
              · intro wq hSw
                (try dsimp only at hSw)
                go_simp
                all_goals (with_reducible rfl)
              try simp only [Act.put, List.setIfInBounds_toArray, List.set_cons_zero, List.set_cons_succ]
              refine wpAnyH_take (i := 8) (v := ?_) (by simp only [List.getElem?_toArray, List.getElem?_cons_succ, List.getElem?_cons_zero]; rfl) (by kernel_rfl) (by kernel_rfl) (by kernel_rfl) (by exact fun _ _ _ h => h) (Or.inl ⟨by rfl, ?_⟩) (by assumption) ?_
              rotate_left
              · intro wq hSw
                (try dsimp only at hSw)
                go_simp
                all_goals (with_reducible rfl)
              try simp only [Act.put, List.setIfInBounds_toArray, List.set_cons_zero, List.set_cons_succ]
              refine wpAnyH_take (i := 9) (v := ?_) (by simp only [List.getElem?_toArray, List.getElem?_cons_succ, List.getElem?_cons_zero]; rfl) (by kernel_rfl) (by kernel_rfl) (by kernel_rfl) (by exact fun _ _ _ h => h) (Or.inl ⟨by rfl, ?_⟩) (by assumption) ?_
              rotate_left
              · intro wq hSw
                (try dsimp only at hSw)
                go_simp
                all_goals (with_reducible rfl)
              try simp only [Act.put, List.setIfInBounds_toArray, List.set_cons_zero, List.set_cons_succ]
              refine wpAnyH_take (i := 10) (v := ?_) (by simp only [List.getElem?_toArray, List.getElem?_cons_succ, List.getElem?_cons_zero]; rfl) (by kernel_rfl) (by kernel_rfl) (by kernel_rfl) (by exact fun _ _ _ h => h) (Or.inl ⟨by rfl, ?_⟩) (by assumption) ?_
              rotate_left
              · intro wq hSw
                (try dsimp only at hSw)
                go_simp
                all_goals (with_reducible rfl)
              try simp only [Act.put, List.setIfInBounds_toArray, List.set_cons_zero, List.set_cons_succ]
              refine wpAnyH_ready (rs := [6, 11]) (by kernel_rfl) (by simp) ?_
              refine AllReadyH.cons (by simp only [List.getElem?_toArray, List.getElem?_cons_succ, List.getElem?_cons_zero]; rfl) (fun K hK => ?_) (AllReadyH.cons (by simp only [List.getElem?_toArray, List.getElem?_cons_succ, List.getElem?_cons_zero]; rfl) (fun K hK => ?_) AllReadyH.nil)
              · rw [if_pos (by rfl)]
                refine wp_ldc 26 _ rfl ⟨gm, i * 46 + 45, none⟩ (.slice (some ⟨gd, 0, none⟩) dn dc) rfl (S6.ld26 (by exact HC45.out)) ?_
                refine hK.out _ _ trivial (fun hHeld => ?_)
                clear hK K
                try simp only [Act.put, List.setIfInBounds_toArray, List.set_cons_zero, List.set_cons_succ]
                refine wpAnyH_ready (rs := [11]) (by kernel_rfl) (by simp) ?_
                refine AllReadyH.cons (by simp only [List.getElem?_toArray, List.getElem?_cons_succ, List.getElem?_cons_zero]; rfl) (fun K hK => ?_) AllReadyH.nil
                rw [if_pos (by rfl)]
                refine wp_ldc 26 _ rfl ⟨gm, i * 46 + 45, none⟩ (.slice (some ⟨gd, 0, none⟩) dn dc) rfl (S6.ld26 (by exact HC45.out)) ?_
                refine hK.out _ _ trivial (fun hHeld => ?_)
                clear hK K
                try simp only [Act.put, List.setIfInBounds_toArray, List.set_cons_zero, List.set_cons_succ]
                refine wpAnyH_take (i := 12) (v := ?_) (by simp only [List.getElem?_toArray, List.getElem?_cons_succ, List.getElem?_cons_zero]; rfl) (by kernel_rfl) (by kernel_rfl) (by kernel_rfl) (by exact fun _ _ _ h => h) (Or.inl ⟨by rfl, ?_⟩) (by assumption) ?_
                rotate_left
                · intro wq hSw
                  (try dsimp only at hSw)
                  go_simp
                  all_goals (with_reducible rfl)
                try simp only [Act.put, List.setIfInBounds_toArray, List.set_cons_zero, List.set_cons_succ]
                refine wpAnyH_take (i := 13) (v := ?_) (by simp only [List.getElem?_toArray, List.getElem?_cons_succ, List.getElem?_cons_zero]; rfl) (by kernel_rfl) (by kernel_rfl) (by kernel_rfl) (by exact fun _ _ _ h => h) (Or.inl ⟨by rfl, ?_⟩) (by assumption) ?_
                rotate_left
                · intro wq hSw
                  (try dsimp only at hSw)
                  go_simp
                  all_goals (with_reducible rfl)
                try simp only [Act.put, List.setIfInBounds_toArray, List.set_cons_zero, List.set_cons_succ]
                refine wpAnyH_take (i := 14) (v := ?_) (by simp only [List.getElem?_toArray, List.getElem?_cons_succ, List.getElem?_cons_zero]; rfl) (by kernel_rfl) (by kernel_rfl) (by kernel_rfl) (by exact fun _ _ _ h => h) (Or.inl ⟨by rfl, ?_⟩) (by assumption) ?_
                rotate_left
                · intro wq hSw
                  (try dsimp only at hSw)
                  go_simp
                  all_goals (with_reducible rfl)
                try simp only [Act.put, List.setIfInBounds_toArray, List.set_cons_zero, List.set_cons_succ]
                refine wpAnyH_take (i := 15) (v := ?_) (by simp only [List.getElem?_toArray, List.getElem?_cons_succ, List.getElem?_cons_zero]; rfl) (by kernel_rfl) (by kernel_rfl) (by kernel_rfl) (by exact fun _ _ _ h => h) (Or.inl ⟨by rfl, ?_⟩) (by assumption) ?_
                rotate_left
                · intro wq hSw
                  (try dsimp only at hSw)
                  go_simp
                  all_goals (with_reducible rfl)
                try simp only [Act.put, List.setIfInBounds_toArray, List.set_cons_zero, List.set_cons_succ]
                refine wpAnyH_take (i := 16) (v := ?_) (by simp only [List.getElem?_toArray, List.getElem?_cons_succ, List.getElem?_cons_zero]; rfl) (by kernel_rfl) (by kernel_rfl) (by kernel_rfl) (by exact fun _ _ _ h => h) (Or.inl ⟨by rfl, ?_⟩) (by assumption) ?_
                rotate_left
                · intro wq hSw
                  (try dsimp only at hSw)
                  go_simp
                  all_goals (with_reducible rfl)
                try simp only [Act.put, List.setIfInBounds_toArray, List.set_cons_zero, List.set_cons_succ]
                refine wpAnyH_ready (rs := [17]) (by kernel_rfl) (by simp) ?_
                refine AllReadyH.cons (by simp only [List.getElem?_toArray, List.getElem?_cons_succ, List.getElem?_cons_zero]; rfl) (fun K hK => ?_) AllReadyH.nil
                rw [if_pos (by rfl)]
                refine wp_stc (w' := wL.drew.setCell ⟨gm, i * 46 + 45, none⟩ (.slice (some ⟨gd, 0, none⟩) (dn - 1) dc)) 26 _ _ rfl ⟨gm, i * 46 + 45, none⟩ (.slice (some ⟨gd, 0, none⟩) (dn - 1) dc) rfl rfl (put26 _ _ _ _ _ _ (by exact HC45.out) (by exact HF45.out)) ?_
                refine hK.out _ _ trivial (fun hHeld => ?_)
                clear hK K
                try simp only [Act.put, List.setIfInBounds_toArray, List.set_cons_zero, List.set_cons_succ]
                clear hHeld
                refine wpAnyH_done (by kernel_rfl) ?_ _
                go_wp2_with fail
                go_meet
                exact ⟨_, _, _, _, rfl, by rw [List.length_set]; exact HKL.out, by omega, HPF.out, HNO.out, HAF.out⟩
              · rw [if_pos (by rfl)]
                refine wp_ldc 26 _ rfl ⟨gm, i * 46 + 45, none⟩ (.slice (some ⟨gd, 0, none⟩) dn dc) rfl (S6.ld26 (by exact HC45.out)) ?_
                refine hK.out _ _ trivial (fun hHeld => ?_)
                clear hK K
                try simp only [Act.put, List.setIfInBounds_toArray, List.set_cons_zero, List.set_cons_succ]
                refine wpAnyH_take (i := 12) (v := ?_) (by simp only [List.getElem?_toArray, List.getElem?_cons_succ, List.getElem?_cons_zero]; rfl) (by kernel_rfl) (by kernel_rfl) (by kernel_rfl) (by exact fun _ _ _ h => h) (Or.inl ⟨by rfl, ?_⟩) (by assumption) ?_
                rotate_left
                · intro wq hSw
                  (try dsimp only at hSw)
                  go_simp
                  all_goals (with_reducible rfl)
                try simp only [Act.put, List.setIfInBounds_toArray, List.set_cons_zero, List.set_cons_succ]
                refine wpAnyH_take (i := 13) (v := ?_) (by simp only [List.getElem?_toArray, List.getElem?_cons_succ, List.getElem?_cons_zero]; rfl) (by kernel_rfl) (by kernel_rfl) (by kernel_rfl) (by exact fun _ _ _ h => h) (Or.inl ⟨by rfl, ?_⟩) (by assumption) ?_
                rotate_left
                · intro wq hSw
                  (try dsimp only at hSw)
                  go_simp
                  all_goals (with_reducible rfl)
                try simp only [Act.put, List.setIfInBounds_toArray, List.set_cons_zero, List.set_cons_succ]
                refine wpAnyH_ready (rs := [6]) (by kernel_rfl) (by simp) ?_
                refine AllReadyH.cons (by simp only [List.getElem?_toArray, List.getElem?_cons_succ, List.getElem?_cons_zero]; rfl) (fun K hK => ?_) AllReadyH.nil
                rw [if_pos (by rfl)]
                refine wp_ldc 26 _ rfl ⟨gm, i * 46 + 45, none⟩ (.slice (some ⟨gd, 0, none⟩) dn dc) rfl (S6.ld26 (by exact HC45.out)) ?_
                refine hK.out _ _ trivial (fun hHeld => ?_)
                clear hK K
                try simp only [Act.put, List.setIfInBounds_toArray, List.set_cons_zero, List.set_cons_succ]
                refine wpAnyH_take (i := 14) (v := ?_) (by simp only [List.getElem?_toArray, List.getElem?_cons_succ, List.getElem?_cons_zero]; rfl) (by kernel_rfl) (by kernel_rfl) (by kernel_rfl) (by exact fun _ _ _ h => h) (Or.inl ⟨by rfl, ?_⟩) (by assumption) ?_
                rotate_left
                · intro wq hSw
                  (try dsimp only at hSw)
                  go_simp
                  all_goals (with_reducible rfl)
                try simp only [Act.put, List.setIfInBounds_toArray, List.set_cons_zero, List.set_cons_succ]
                refine wpAnyH_take (i := 15) (v := ?_) (by simp only [List.getElem?_toArray, List.getElem?_cons_succ, List.getElem?_cons_zero]; rfl) (by kernel_rfl) (by kernel_rfl) (by kernel_rfl) (by exact fun _ _ _ h => h) (Or.inl ⟨by rfl, ?_⟩) (by assumption) ?_
                rotate_left
                · intro wq hSw
                  (try dsimp only at hSw)
                  go_simp
                  all_goals (with_reducible rfl)
                try simp only [Act.put, List.setIfInBounds_toArray, List.set_cons_zero, List.set_cons_succ]
                refine wpAnyH_take (i := 16) (v := ?_) (by simp only [List.getElem?_toArray, List.getElem?_cons_succ, List.getElem?_cons_zero]; rfl) (by kernel_rfl) (by kernel_rfl) (by kernel_rfl) (by exact fun _ _ _ h => h) (Or.inl ⟨by rfl, ?_⟩) (by assumption) ?_
                rotate_left
                · intro wq hSw
                  (try dsimp only at hSw)
                  go_simp
                  all_goals (with_reducible rfl)
                try simp only [Act.put, List.setIfInBounds_toArray, List.set_cons_zero, List.set_cons_succ]
                refine wpAnyH_ready (rs := [17]) (by kernel_rfl) (by simp) ?_
                refine AllReadyH.cons (by simp only [List.getElem?_toArray, List.getElem?_cons_succ, List.getElem?_cons_zero]; rfl) (fun K hK => ?_) AllReadyH.nil
                rw [if_pos (by rfl)]
                refine wp_stc (w' := wL.drew.setCell ⟨gm, i * 46 + 45, none⟩ (.slice (some ⟨gd, 0, none⟩) (dn - 1) dc)) 26 _ _ rfl ⟨gm, i * 46 + 45, none⟩ (.slice (some ⟨gd, 0, none⟩) (dn - 1) dc) rfl rfl (put26 _ _ _ _ _ _ (by exact HC45.out) (by exact HF45.out)) ?_
                refine hK.out _ _ trivial (fun hHeld => ?_)
                clear hK K
                try simp only [Act.put, List.setIfInBounds_toArray, List.set_cons_zero, List.set_cons_succ]
                clear hHeld
                refine wpAnyH_done (by kernel_rfl) ?_ _
                go_wp2_with fail
                go_meet
                exact ⟨_, _, _, _, rfl, by rw [List.length_set]; exact HKL.out, by omega, HPF.out, HNO.out, HAF.out⟩
            have d13 : (c == 13) = false := by simp [c13]
            by_cases c14 : c = 14
            · as_aux_lemma =>
              subst c14
              have hcl := lst_cell HK.out.lst HKL.out HKA.out HXI.out (f := 42) (listP_v HXW.out.ad x.o x.d).2.2.2.2.2.2.2.2.1
              have c1 := hcl.1
              have c2 := hcl.2
              clear hcl
              have HPF := Lib.hid (HK.out.fld HKL.out (by omega) (f := 42) (u := (.bool (!x.p.frag))) (q := { x.p with frag := !x.p.frag }) HXI.out (by omega) ((csP_set (p := x.p) HXW.out.ad _ _).2.2.2.2.2.2.2.2.2.2.1 _) (by have h := HXW.out; exact ⟨h.v, h.tos, h.flow, h.sv, h.sl, h.sb, h.dv, h.dl, h.db, h.proto, h.ttl, h.id0, h.id1, h.off, h.o, h.ol, h.d, h.dn⟩) rfl rfl)
              have HAF : Hid (Away [] w10 (wL.setCell ⟨gm, i * 46 + 42, none⟩ ((.bool (!x.p.frag))))) := HAW.out.setCell (.inr (by show w10.heap.size ≤ gm; omega)) _
              have HNO : Hid (isP z m ((ks.set i ⟨{ x.p with frag := !x.p.frag }, x.o, x.d⟩).map X.p) = false) := by refine Lib.hid ?_; rw [List.map_set]; exact no_set HF.out HPI.out rfl (.inr (.inr (.inr (.inr (.inr (.inr (.inl (by show (!x.p.frag) ≠ x.p.frag; cases x.p.frag <;> decide))))))))
              go_wp2_with fail
              go_meet
              exact ⟨_, _, _, ks.set i _, rfl, by rw [List.length_set]; exact HKL.out, by omega, HPF.out, HNO.out, HAF.out⟩
            have d14 : (c == 14) = false := by simp [c14]
            as_aux_lemma =>
            obtain ⟨x0, hx0, hx0m⟩ := get_of (show 0 < ks.length by rw [HKL.out]; omega)
            have s1 := slice_h32 (some ⟨gm, 0, none⟩) k gmc 1 1 rfl (by omega)
            have HPF : Hid (Pks wL (some ⟨gm, 0, none⟩) (ks.take 1)) := by
              have hl1 := lst_take HK.out.lst HKL.out HKA.out 1 (by omega)
              obtain ⟨a', c', hv', -, -, hp', -⟩ := hl1.pks (by rw [List.length_take]; omega) (fun z hz => (HK.out.each z (List.mem_of_mem_take hz)).2.pkt (HK.out.each z (List.mem_of_mem_take hz)).1)
              simp only [Value.slice.injEq] at hv'
              refine Lib.hid ?_
              rw [hv'.1]; exact hp'
            have HLE : Hid ((ks.take 1).length = 1) := by refine Lib.hid ?_; have := HKL.out; rw [List.length_take]; omega
            have HNO : Hid (isP z m ((ks.take 1).map X.p) = false) := by
              refine Lib.hid ?_
              have h1 : ks.take 1 = [x0] := by
                obtain ⟨a, r, hks⟩ : ∃ a r, ks = a :: r := List.exists_cons_of_length_pos (by rw [HKL.out]; omega)
                rw [hks] at hx0 ⊢; simp at hx0; rw [hx0]; rfl
              rw [h1]
              exact no_one HF.out (k := 0) (x := x0.p) (by rw [List.getElem?_map, hx0]; rfl)
            clear hx0
            go_wp2_with fail
            go_meet
            exact ⟨_, _, _, _, rfl, HLE.out, by omega, HPF.out, HNO.out, HAW.out⟩
          case rest =>
            obtain ⟨ma, mn, mc, ms, rfl, hml, hmn, hmp, hno, haw⟩ := hcut
            generalize wc = wE at *
            have HWE : Hid (Away [] w10 wE) := haw
            have KI : Hid (Calls Tryd.prog 14 #[.agg (csP z qo qd1), .int .i64 m, .slice ma mn mc] wE fun E w' => E = .returned (.bool false) ∧ Away [] wE w') := by
              have h1 := is_c z qo qd1 m ma ms mn mc wE hml (HQ0.out.pkt.on haw) hmp (HG.out.on (HA0.out.trans haw))
              rw [hno] at h1
              exact h1
            have KJ : Hid (∀ w', Away [] wE w' → Calls Tryd.prog 14 #[.agg (csP z qo qd1), .int .i64 67, .slice (some ⟨gl, 0, none⟩) k vc] w' fun E w'' => E = .returned (.bool false) ∧ Away [] w' w'') := fun w' h => by
              have h1 := is_c z qo qd1 67 (some ⟨gl, 0, none⟩) xs k vc w' HL.out (HQ0.out.pkt.on (haw.trans h)) ((HC0.out.on (haw.trans h)).pks' HXL.out) (HG.out.on (HA0.out.trans (haw.trans h)))
              rw [isP_67] at h1
              exact h1
            have HBX := Lib.hid (HQ0.out.box.on haw)
            have HAE := Lib.hid (HA0.out.trans haw)
            clear hml hmp hno haw
            go_wp2_with (first | (refine wpList_load28 rfl _ rfl g11 rfl z _ _ (by exact HBX.out) HZA.out ?_) | (go_at_call 14; refine KI.out.mono ?_; refine Hid.out ?_))
            refine Lib.hid ?_
            first | rintro E wF rfl haw | rintro E wF ⟨rfl, haw⟩
            replace HBX := Lib.hid (HBX.out.on haw)
            replace HAE := Lib.hid (HAE.out.trans haw)
            replace KJ := Lib.hid (KJ.out _ haw)
            clear haw KI
            go_wp2_with (first | (refine wpList_load28 rfl _ rfl g11 rfl z _ _ (by exact HBX.out) HZA.out ?_) | (go_at_call 14; refine KJ.out.mono ?_; refine Hid.out ?_))
            refine Lib.hid ?_
            first | rintro E wH rfl haw | rintro E wH ⟨rfl, haw⟩
            go_wp2_with fail
            go_ret
            exact ⟨rfl, (HAE.out.trans haw).to_below⟩
end cutAny
namespace cutAny
theorem contract (H : Type) (enc : TypeId × Value → H) (W : World) (base : Nat) (args : Array Value) (ds gs : List (DataW H)) (before : List MemPlace)
    (hval0 : ∀ (j : Nat) t v, Tryd.f4.params[j]? = some t → args[j]? = some v → Value.okWide Tryd.prog W .any base t v)
    (hW : DataW.Whole enc Tryd.prog Tryd.f4.params.toList Rows.cutAnySpec.vars false W args.toList ds gs before)
    (hsz0 : (DataW.weightsEach Tryd.prog (Tryd.f4.params.toList ++ Rows.cutAnySpec.plain.varTypes Tryd.prog) (ds ++ gs)).all (· ≤ reachBytes) = true)
    (hL : laidMetH Tryd.prog Rows.cutAnyRow.laid W) :
    Calls Tryd.prog 4 args W fun e W' => ∃ v, e = .returned v ∧ Rows.cutAnySpec.post enc Tryd.prog Tryd.f4 false true false false W args v W' := by
  have hval := hval0
  have hsz := hsz0
  have hW' := hW
  obtain ⟨p, q, hA0, hV, rfl, hfz, hnd⟩ := hW
  have hA : DataW.TrodAll enc Tryd.prog W 0 (fun _ => true) true Tryd.f4.params.toList args.toList ds p := hA0
  rw [Tryd.params4] at hA hval hsz
  obtain ⟨v0, vs0, d0, ds0, p0, q0, hargs, rfl, rfl, h0, r0⟩ := trodAll_cons hA
  obtain ⟨v1, vs1, d1, ds1, p1, q1, rfl, rfl, rfl, h1, r1⟩ := trodAll_cons r0
  obtain ⟨v2, vs2, d2, ds2, p2, q2, rfl, rfl, rfl, h2, r2⟩ := trodAll_cons r1
  obtain ⟨v3, vs3, d3, ds3, p3, q3, rfl, rfl, rfl, h3, r3⟩ := trodAll_cons r2
  obtain ⟨v4, vs4, d4, ds4, p4, q4, rfl, rfl, rfl, h4, r4⟩ := trodAll_cons r3
  obtain ⟨rfl, rfl, rfl⟩ := trodAll_nil r4
  obtain rfl : args = #[v0, v1, v2, v3, v4] := by cases args; simp_all
  obtain ⟨rfl, rfl⟩ := trodVars_none hV
  have k0 := h0
  have lt0 : ∀ x ∈ p0, x.block < W.heap.size := by obtain ⟨m, hm⟩ := k0; exact DataW.trod_lt m _ _ _ hm
  have z0 : ∀ m ∈ d0.weights Tryd.prog 28, m ≤ reachBytes := fun m hm => by
    have := List.all_eq_true.1 hsz m (DataW.weights_mem_each (j := 0) (t := 28) rfl rfl m hm)
    simpa using this
  obtain ⟨x0, ov0, dv0, rfl, w0, ol0, dl0⟩ := open_pkt (hval 0 28 v0 rfl rfl) h0 z0
  obtain ⟨a1, rfl, rfl, rfl, w1⟩ := open_int Tryd.underlying3 (hval 1 3 v1 rfl rfl) h1
  have k2 := h2
  have lt2 : ∀ x ∈ p2, x.block < W.heap.size := by obtain ⟨m, hm⟩ := k2; exact DataW.trod_lt m _ _ _ hm
  have z2 : ∀ m ∈ d2.weights Tryd.prog 38, m ≤ reachBytes := fun m hm => by
    have := List.all_eq_true.1 hsz m (DataW.weights_mem_each (j := 2) (t := 38) rfl rfl m hm)
    simpa using this
  obtain ⟨a2, len2, cap2, rfl⟩ := okWide_slice Tryd.underlying38 (hval 2 38 v2 rfl rfl)
  obtain ⟨w2, n2⟩ := open_nums h2 z2
  obtain ⟨a3, rfl, rfl, rfl, w3⟩ := open_int Tryd.underlying3 (hval 3 3 v3 rfl rfl) h3
  obtain ⟨a4, rfl, rfl, rfl, w4⟩ := open_int Tryd.underlying3 (hval 4 3 v4 rfl rfl) h4
  clear hA0 hval0
  refine (walk x0 ov0 dv0 a1 a2 len2 cap2 a3 a4 W (glob_of hL) w0 ol0 dl0 w1 w2 n2 w3 w4).mono fun e W' ⟨he, bel⟩ => ?_
  subst he
  exact ⟨_, rfl, _, _, _, [], _, [], hW', trodAll_mk1 (shut_bool Tryd.underlying4 _), (trodAll_cons_mk (Below.trod laidOut (by kernel_rfl) (of_decide_eq_true (by kernel_rfl)) k0 bel lt0) (trodAll_cons_mk (shut_int Tryd.underlying3 w1) (trodAll_cons_mk (Below.trod laidOut (by kernel_rfl) (of_decide_eq_true (by kernel_rfl)) k2 bel lt2) (trodAll_cons_mk (shut_int Tryd.underlying3 w3) (trodAll_cons_mk (shut_int Tryd.underlying3 w4) trodAll_mk0))))), rfl, bel.frame _, fun h => by cases h⟩
theorem laid_met (os : Os) : laidMet Tryd.prog Rows.cutAnyRow.laid ((laidWorld Tryd.prog os).forCall (fun _ _ => 0) ⟨#[], #[.agg (csP zeroPk (.slice none 0 0) (.slice none 0 0)), .int .i64 0, .slice none 0 0, .int .i64 0, .int .i64 0], []⟩).memory :=
  laidMet_of_run' 8 (by kernel_rfl) (by kernel_rfl)
theorem reads (os : Os) {H : Type} (enc : TypeId × Value → H) : ∃ places, DataW.whole enc Tryd.prog ((laidWorld Tryd.prog os).forCall (fun _ _ => 0) ⟨#[], #[.agg (csP zeroPk (.slice none 0 0) (.slice none 0 0)), .int .i64 0, .slice none 0 0, .int .i64 0, .int .i64 0], []⟩).memory Tryd.f4.params.toList Rows.cutAnySpec.vars false #[.agg (csP zeroPk (.slice none 0 0) (.slice none 0 0)), .int .i64 0, .slice none 0 0, .int .i64 0, .int .i64 0].toList 8 = some ([.agg [.lit (.int .i64 0), .lit (.int .i64 0), .lit (.int .i64 0), .agg [.lit (.int .i64 0), .agg [.lit (.int .u8 0), .lit (.int .u8 0), .lit (.int .u8 0), .lit (.int .u8 0), .lit (.int .u8 0), .lit (.int .u8 0), .lit (.int .u8 0), .lit (.int .u8 0), .lit (.int .u8 0), .lit (.int .u8 0), .lit (.int .u8 0), .lit (.int .u8 0), .lit (.int .u8 0), .lit (.int .u8 0), .lit (.int .u8 0), .lit (.int .u8 0)]], .agg [.lit (.int .i64 0), .agg [.lit (.int .u8 0), .lit (.int .u8 0), .lit (.int .u8 0), .lit (.int .u8 0), .lit (.int .u8 0), .lit (.int .u8 0), .lit (.int .u8 0), .lit (.int .u8 0), .lit (.int .u8 0), .lit (.int .u8 0), .lit (.int .u8 0), .lit (.int .u8 0), .lit (.int .u8 0), .lit (.int .u8 0), .lit (.int .u8 0), .lit (.int .u8 0)]], .lit (.int .i64 0), .lit (.int .i64 0), .lit (.int .u32 0), .lit (.bool false), .lit (.bool false), .lit (.bool false), .lit (.int .i64 0), .nil, .nil], .lit (.int .i64 0), .nil, .lit (.int .i64 0), .lit (.int .i64 0)], [], places) :=
  ⟨[], by kernel_rfl⟩
theorem lifted (os : Os) (started : os.Started) (H : Type) (enc : TypeId × Value → H) (F : Stop.Interp) :
    ReturnsInHanded {} Tryd.checked os 4 .any ((OpenSpec.ofChange Rows.cutAnySpec).preRow enc Tryd.prog Tryd.f4 Rows.cutAnyRow.domain false Rows.cutAnyRow.laid) (((OpenSpec.ofChange Rows.cutAnySpec).at F).post enc Tryd.prog Tryd.f4 false true false false) := by
  obtain ⟨places, hx⟩ := reads os enc
  refine returnsInHanded_of_row (C := Tryd.checked) (s := OpenSpec.ofChange Rows.cutAnySpec) ownKn started (by kernel_rfl) Tryd.func4
    (witness_row_at (enc := enc) (C := Tryd.checked) false (laidWorld Tryd.prog os) #[.agg (csP zeroPk (.slice none 0 0) (.slice none 0 0)), .int .i64 0, .slice none 0 0, .int .i64 0, .int .i64 0] rfl (by kernel_rfl) (by kernel_rfl) (by kernel_rfl)
      (OpenSpec.preRow_of_cond 8 hx (by kernel_rfl) (fun k hk => by cases hk) (by kernel_rfl) (laid_met os))) ?_
  intro W base args ds gs before hval hW _ hcond hsz hL hS _
  exact contract H enc W base args ds gs before hval hW hsz hL
theorem said : Rows.CutAnySaid :=
  OpenClaim.holds_of_cond 4 Tryd.f4 rfl rfl rfl rfl rfl rfl rfl ⟨rfl, rfl, rfl, rfl, rfl⟩ rfl rfl rfl rfl rfl (by kernel_rfl) Tryd.func4 (by kernel_rfl)
    (of_decide_eq_true (by kernel_rfl)) (by unfold Func.isWrapper; first | (rw [if_pos (by decide +kernel)]; kernel_rfl) | (rw [if_neg (by decide +kernel)]; exact ⟨rfl, rfl⟩))
    (fun os started H enc _ F => by rw [OpenClaim.pre_eq_preRow]; exact lifted os started H enc F)
theorem plain (f : FuncId) (fn : Func) (hf : Tryd.pinned.checked.prog.funcNamed "mosaic/mosaiclaw10.CutAny" = some f) (hfn : Tryd.pinned.checked.prog.funcs[f]? = some fn) :
    false = Tryd.pinned.checked.prog.looks [] ∧ ∀ (j : Nat) t, fn.params[j]? = some t → Tryd.pinned.checked.prog.wantsStandIn t = false := by
  obtain rfl : f = 4 := Option.some.inj ((show Tryd.prog.funcNamed "mosaic/mosaiclaw10.CutAny" = some 4 by kernel_rfl).symm.trans hf) |>.symm
  obtain rfl : fn = Tryd.f4 := (Option.some.inj (Tryd.func4.symm.trans hfn)).symm
  refine ⟨by kernel_rfl, fun j t ht => ?_⟩
  rw [Tryd.params4] at ht
  have hm := Array.mem_of_getElem? ht
  simp only [List.mem_toArray, List.mem_cons, List.not_mem_nil, or_false] at hm
  have h28 : Tryd.prog.wantsStandIn 28 = false := by kernel_rfl
  have h26 : Tryd.prog.wantsStandIn 26 = false := by kernel_rfl
  have h3 : Tryd.prog.wantsStandIn 3 = false := by kernel_rfl
  have h25 : Tryd.prog.wantsStandIn 25 = false := by kernel_rfl
  have h4 : Tryd.prog.wantsStandIn 4 = false := by kernel_rfl
  have h38 : Tryd.prog.wantsStandIn 38 = false := by kernel_rfl
  rcases hm with rfl | rfl | rfl | rfl | rfl
  all_goals first | exact h28 | exact h26 | exact h3 | exact h25 | exact h4 | exact h38
theorem card : Rows.CutAnyCardSaid :=
  Claim7.holds_tied_plain_at .later [] _ _ _ _ said (fun _ h => by cases h) (by kernel_rfl) (fun _ h => by cases h) cutAny_row_tie rfl ⟨rfl, rfl⟩ (by kernel_rfl) rfl plain (by kernel_rfl)
end cutAny
theorem cutAny_holds : Rows.CutAnyCardSaid := cutAny.card
#print axioms cutAny_holds
end Go.Proofs.YtbnnfbfmomafnaaDoor
