/-
  IcmpNone: no error is made of a packet's bytes cut off, or with a byte more; Look of its quote cut off.
-/
import Derived.Test.YtbgpjhekohabiabDoorLm
import Derived.Test.YtbgpjhekohabiabDoorSnA
import Derived.Lib.MinMax
import Derived.Deep.Cut
import Derived.Deep.RegionHeld3
import Derived.Test.YtbgpjhekohabiabDoorAbt
import Derived.Test.YtbgpjhekohabiabDoorOwnP
import Derived.Test.YtbgpjhekohabiabDoorStp
import Derived.Test.YtbgpjhekohabiabDoorBuild6
import Derived.Test.YtbgpjhekohabiabDoorKit
import Derived.Deep.CondSized
namespace Go.Proofs.YtbgpjhekohabiabDoor
open Go.ChangeShapes Go.WideShapes Go.ChangeAt Go.RowKit Go.Deep Num
set_option linter.unusedVariables false
set_option maxHeartbeats 8000000
set_option maxRecDepth 100000

theorem step_appW {ops : Array Oper} {o : Oper} {a : Act} {w : World} {K : Act → World → Prop} {Q : Exit → Act → World → Prop} {E : Prop} (hw : Region.wanted o (yielded ops a.tmps) = true) (s x : Operand)
    (hop : o.op = .call { callee := .builtin .append, args := #[s, x], argTypes := #[26, 26] }) (v : Value) (l m : List Int) (hs : a.eval s = v) (hown : Owns w v l)
    (ad : Addr) (n c : Nat) (hx : a.eval x = .slice (some ad) n c) (hn : m.length = n) (hm : ∀ j u, (m.map (Value.int .u8))[j]? = some u → w.cell? (ad.add j) = some u) (hlen : l.length + n ≤ 140737488355328)
    (hK : ∀ v' w', Owns w' v' (l ++ m) → w.grownBy w' v.ownBlock → Moved w v v' → K (a.put o.dst v') w') :
    if Region.wanted o (yielded ops a.tmps) = true then Oper.wp Tryd.prog o a w K Q else E := by
  rw [if_pos hw]
  obtain ⟨v', w', hrun, r1, r2, r3⟩ := run_appB o.type w v l m hown ad n c hn hm hlen
  unfold Oper.wp
  simp [execOp, hop, resolve, invoke, builtin, hs, hx, hrun, Result.andThen]
  exact hK v' w' r1 r2 r3
/-- An append that may stand behind a guard. -/
theorem wpList_appG {w : World} {ops : Array Oper} {rest : List Oper} {o : Oper} {a : Act} {Q : Exit → Act → World → Prop} (hw : Region.wanted o (yielded ops a.tmps) = true) (s x : Operand)
    (ho : o.op = .call { callee := .builtin .append, args := #[s, x], argTypes := #[26, 26] }) (v : Value) (l m : List Int) (hs : a.eval s = v) (hown : Owns w v l)
    (ad : Addr) (n c : Nat) (hx : a.eval x = .slice (some ad) n c) (hn : m.length = n) (hm : ∀ j u, (m.map (Value.int .u8))[j]? = some u → w.cell? (ad.add j) = some u) (hlen : l.length + n ≤ 140737488355328)
    (h : ∀ v' w', Owns w' v' (l ++ m) → w.grownBy w' v.ownBlock → Moved w v v' → wpList Tryd.prog ops Q rest (a.put o.dst v') w') : wpList Tryd.prog ops Q (o :: rest) a w := by
  obtain ⟨v', w', hrun, r1, r2, r3⟩ := run_appB o.type w v l m hown ad n c hn hm hlen
  refine BigFrame.wpList_want hw fun K hK => ?_
  unfold Oper.wp
  simp [execOp, ho, resolve, invoke, builtin, hs, hx, hrun, Result.andThen]
  exact hK _ _ (h v' w' r1 r2 r3)
/-- The two marks. -/
def mk2 : List Int := [165, 166]
theorem mk2_bytes : Bytes mk2 := (Bytes.nil.cons (by omega) (by omega)).cons (by omega) (by omega)
theorem Owns.front {w : World} {g n c : Nat} {l : List Int} (h : Owns w (.slice (some ⟨g, 0, none⟩) n c) (l ++ mk2)) (hn : n = l.length + 2) (hb : Bytes l) (hl : l.length + 2 ≤ 140737488355328) (hc : n ≤ c) : Sl w (.slice (some ⟨g, 0, none⟩) l.length c) l := by
  have hr := h.row' (by simp [mk2]; omega) (hb.app mk2_bytes)
  have := hr.head l.length
  rw [List.take_left] at this
  exact ⟨_, _, rfl, by omega, by simp, this⟩
/-- Of no packet no error is made. -/
theorem errs_none {b : List Int} {k : Nat} (h4 : (parse4 b).2 ≠ 0) (h6 : (S6.parse6 b).2 ≠ 0) : errsP b 0 k = (zeroMg, 1) := by
  have ha : ∀ k, aboutP b k = (zeroMg, 1) := fun k => by unfold aboutP; rw [if_neg h4, if_neg h6]
  have hb : bigP b 0 = (zeroMg, 1) := by unfold bigP; rw [ha 0]; simp [zeroMg]
  unfold errsP
  split
  · exact hb
  · exact ha k
theorem lookP_ad {g : Mg} (hb : Bytes g.d) (hn : g.d.length ≤ 140737488355328) : Ad (lookP g).1 := by
  unfold lookP
  split
  · exact look4_ad hb hn
  split
  · exact look6_ad
  · exact ⟨rfl, rfl⟩
theorem wp_alloc28 {o : Oper} {a : Act} {w : World} {K : Act → World → Prop} {Q : Exit → Act → World → Prop} (ho : o.op = .alloc 28)
    (h : ∀ g w1, w.heap.size ≤ g → BoxP w1 g zeroPk (.slice none 0 0) (.slice none 0 0) → Away [] w w1 → K (a.put o.dst (.pointer (some ⟨g, 0, none⟩))) w1) : Oper.wp Tryd.prog o a w K Q := by
  have hz : (zeroValue 28).run Tryd.prog w = .ok (.agg (csP zeroPk (.slice none 0 0) (.slice none 0 0))) w := by
    have := zero28
    cases hi : Tryd.prog.info? 28 with
    | none => rw [hi] at this; simp at this
    | some i => rw [hi] at this; simp at this; simp [zeroValue, typeInfo, hi, this]
  unfold Oper.wp execOp
  simp only [ho, Sem.run_bind, Instr.alloc, hz, newVar, newRow, run_newObj_alloc, Sem.run_pure, Result.andThen_ok]
  exact h w.heap.size _ (Nat.le_refl _) (block_new _ _) ((Away.refl [] w).alloc _)
theorem wp_store28 {o : Oper} {a : Act} {w : World} {K : Act → World → Prop} {Q : Exit → Act → World → Prop} (x y : Operand) (ho : o.op = .store 28 x y)
    (g : Nat) (hx : a.eval x = .pointer (some ⟨g, 0, none⟩)) (p : Pk) (ov dv : Value) (hy : a.eval y = .agg (csP p ov dv)) (q : Pk) (ou du : Value) (hb : BoxP w g q ou du) (ha : Ad p) (hq : Ad q) (h1 : ov.oneCell' = true) (h2 : dv.oneCell' = true)
    (h : ∀ w1, Away [g] w w1 → K (a.put o.dst undef) w1) : Oper.wp Tryd.prog o a w K Q :=
  wp_store_row 28 x y ho g (csP p ov dv) hx hy 28 (csP q ou du) hb (by rw [csP_size ha]; exact info28) (by rw [csP_size ha, csP_size hq]) (csP_one p ov dv h1 h2) (h _ ((Away.refl [g] w).setRow (.inl (by simp)) _))
theorem yields_ld {ops : Array Oper} {S : World → Prop} {op : Oper} {a : Act} {t : TypeId} {v : Value} {ad : Addr} (hw : Region.wanted op (yielded ops a.tmps) = true) (x : Operand) (ho : op.op = .load t x) (hx : a.eval x = .pointer (some ad))
    (hS : ∀ w, S w → (Instr.loadAt t (.pointer (some ad))).run Tryd.prog w = .ok v w) : YieldsIf Tryd.prog ops S op v a :=
  .inl ⟨hw, fun w hw' => by
    unfold execOp
    simp only [ho, hx, Sem.run_bind, hS w hw', Result.andThen_ok, Sem.run_pure]⟩

namespace icmpNone
theorem walk (p : Pk) (ov dv : Value) (cut : Int) (W : World) (hg : Glob W) (hp : Pkt W p ov dv) (hol : p.o.length ≤ 140737488351232) (hdl : p.d.length ≤ 140737488351232) (hct : (Lit.int .i64 cut).wf = true) :
    Calls Tryd.prog 3 #[.agg (csP p ov dv), .int .i64 cut] W fun e W' => e = .returned (.bool true) ∧ Below W.heap.size W W' := by
  have HAD := Lib.hid hp.wf.ad
  have HWF := Lib.hid hp.wf
  have HP := Lib.hid hp
  have HG := Lib.hid hg
  have HA : Hid (Away [] W W) := Away.refl _ _
  obtain ⟨ct0, ct1⟩ := wf64 hct
  clear hp hg hct
  go_enter Tryd.func3, Tryd.ntmps3
  go_wp2_with (refine wpList_box28 rfl _ rfl p ov dv rfl ?_; refine Hid.out ?_)
  refine Lib.hid ?_
  intro g2 w1 hg_g2 hb haw
  replace HA := Lib.hid (HA.out.on haw)
  replace HP := Lib.hid (HP.out.on haw)
  clear haw
  have H2 := Lib.hid hb
  have hl_g2 := hb.lt
  clear hb
  go_wp2_with fail
  refine (alive_c _).mono ?_
  rintro E w2 ⟨rfl, haw⟩
  replace HA := Lib.hid (HA.out.on haw)
  replace HP := Lib.hid (HP.out.on haw)
  replace H2 := Lib.hid (H2.out.on haw)
  clear haw
  go_wp2_with (first | (refine wpList_load28 rfl _ rfl g2 rfl p _ _ (by exact H2.out) HAD.out ?_))
  refine (ownP_c p ov dv _ (by exact HP.out)).mono ?_
  rintro E w3 ⟨o1, d1, rfl, hmine, haw⟩
  replace HA := Lib.hid (HA.out.on haw)
  replace HP := Lib.hid (HP.out.on haw)
  replace H2 := Lib.hid (H2.out.on haw)
  clear haw
  have HM1 := Lib.hid hmine
  clear hmine
  go_wp2_with fail
  by_cases hr4 : rightP p = true
  · have HBE : Hid (build4 p = (lay4 p, 0)) := build_ok hr4
    refine (build_c p o1 d1 _ (by exact HM1.out.pkt HWF.out) (by exact HG.out.on HA.out)).mono ?_
    rintro E w4 ⟨vb, hE, hown, hnew, haw⟩
    rw [HBE.out] at hE hown
    subst hE
    have hs_vb := haw.size
    replace HA := Lib.hid (HA.out.on haw)
    replace HP := Lib.hid (HP.out.on haw)
    replace H2 := Lib.hid (H2.out.on haw)
    replace HM1 := Lib.hid (HM1.out.on haw)
    clear haw
    have HB := Lib.hid hown
    have hn_vb := Lib.hid hnew
    clear hown hnew
    have HPL := Lib.hid (parse_lay4 HWF.out hr4)
    obtain ⟨b, hb⟩ : ∃ b, b = lay4 p := ⟨_, rfl⟩
    have HBB : Hid (Owns w4 vb b) := by rw [hb]; exact HB.out
    have HLK : Hid (∀ n, n < b.length → (n < b.length - p.d.length → lookP ⟨p.v, 3, 0, 0, b.take n⟩ = (zeroPk, 0, 20)) ∧ (b.length - p.d.length ≤ n → ∃ q, lookP ⟨p.v, 3, 0, 0, b.take n⟩ = (q, (b.length : Int), 0))) := by rw [hb]; exact fun n hn => look_b4 HWF.out hr4 hn
    have HPB : Hid ((parse4 b).2 = 0 ∨ (S6.parse6 b).2 = 0) := .inl (by rw [hb, HPL.out])
    have hfm := (right_iff p).1 hr4
    have hvl := valid_len hfm.2
    have hll := lay4_len HWF.out
    have hall := hfm.1.all
    have HBY : Hid (Bytes b) := by rw [hb]; exact lay4_bytes HWF.out hfm.1 hvl.1
    rw [← hb] at hll
    have hb1 : 20 ≤ b.length := by omega
    have hb2 : b.length ≤ 65575 := by omega
    have hpd : p.d.length ≤ b.length := by omega
    clear hfm hvl hall
    clear HB
    clear hb HPL HBE hll hr4
    have hnb := hn_vb
    obtain ⟨gb, cb, rfl, hcb⟩ := HBB.out.block (fun e => by rw [e] at hb1; simp at hb1)
    clear HM1
    obtain ⟨t, ht⟩ : ∃ t, t = cut.tmod (b.length : Int) := ⟨_, rfl⟩
    have ht1 : t < (b.length : Int) := by rw [ht]; exact Int.tmod_lt_of_pos cut (by omega)
    have ht2 : -(b.length : Int) < t := by
      rw [ht]
      have := Int.tmod_lt_of_pos (-cut) (show (0 : Int) < (b.length : Int) by omega)
      rw [Int.neg_tmod] at this
      omega
    have hz : ((b.length : Int) == 0) = false := beq_eq_false_iff_ne.2 (by omega)
    have hz' : ¬ (b.length : Int) = 0 := by omega
    go_upto_region 10 with fail
    rw [← ht]
    clear ht hz hz'
    by_cases h0 : t < 0
    · obtain ⟨n, rfl⟩ : ∃ n : Nat, t = -(n : Int) := ⟨(-t).toNat, by omega⟩
      have hng : -(-(n : Int)) = (n : Int) := by omega
      have hneg : decide (-(n : Int) < 0) = true := decide_eq_true h0
      have hps : (0 : Int) < (n : Int) := by omega
      have hps2 : 0 < n := by omega
      have hpd : decide (0 < n) = true := decide_eq_true hps2
      have hpe : decide ((0 : Int) < (n : Int)) = true := decide_eq_true hps
      have hwn : IntKind.i64.wrap (n : Int) = (n : Int) := by rw [IntKind.wrap_i64]; omega
      have hnl : n < b.length := by omega
      clear ht1 ht2 h0
      obtain ⟨c, hc⟩ : ∃ c, c = b.take n := ⟨_, rfl⟩
      have HTN : Hid (c.length = n) := by rw [hc]; show _ = _; simp; omega
      have HCB : Hid (Bytes c) := by rw [hc]; exact HBY.out.take n
      have HCR : Hid (∀ W, Owns W (.slice (some ⟨gb, 0, none⟩) b.length cb) b → Row W (some ⟨gb, 0, none⟩) c) := fun W h => by rw [hc]; exact (h.row' (by omega) HBY.out).head n
      have HCN : Hid ((parse4 c).2 ≠ 0 ∧ (S6.parse6 c).2 ≠ 0) := by rw [hc]; exact none_cut HPB.out hnl
      have HCD := Lib.hid hc
      clear hc
      have s1 := slice_h (some ⟨gb, 0, none⟩) b.length cb n (n : Int) rfl (by omega)
      go_wp2_with fail
      go_loopw [10] (fun i wr => ∃ k : Nat, k ≤ 5 ∧ i = .int .i64 (k : Int) ∧ Away [] w4 wr) (fun i _ => 5 - (intOf i).toNat)
      case atStart => exact ⟨0, by omega, rfl, Away.refl _ _⟩
      case round =>
        obtain ⟨k, hk, rfl, haw0⟩ := hrel
        have haw := haw0
        have HAWX := Lib.hid haw0
        clear haw0
        replace HA := Lib.hid (HA.out.on haw)
        replace HP := Lib.hid (HP.out.on haw)
        replace H2 := Lib.hid (H2.out.on haw)
        replace HBB := Lib.hid (HBB.out.on haw)
        clear haw
        by_cases hlt : k < 5
        · have t1 : (k : Int) < 5 := by omega
          have HE1 := Lib.hid (errs_none (k := k) HCN.out.1 HCN.out.2)
          have HE2 := Lib.hid (errs_none (k := k) (none_more HPB.out).1 (none_more HPB.out).2)
          go_wp2_with fail
          refine (own_any (some ⟨gb, 0, none⟩) c n cb _ HTN.out (by exact HCR.out _ HBB.out)).mono ?_
          rintro E w5 ⟨vo, rfl, hown, hnew, haw, -, -⟩
          replace HA := Lib.hid (HA.out.on haw)
          replace HP := Lib.hid (HP.out.on haw)
          replace H2 := Lib.hid (H2.out.on haw)
          replace HBB := Lib.hid (HBB.out.on haw)
          replace HAWX := Lib.hid (HAWX.out.on haw)
          clear haw
          have HOO := Lib.hid hown
          clear hown
          obtain ⟨oa, oc, hvo, ho1, ho2⟩ := HOO.out.slc
          subst hvo
          go_wp2_with fail
          refine (errors_c k oa c oc 0 _ hlt (by exact HOO.out.row' (by rw [HTN.out]; omega) HCB.out) ho2 ho1 (by exact HG.out.on HA.out)).mono ?_
          rw [HE1.out]
          rintro E w6 ⟨vm, rfl, hown, hnew2, haw⟩
          replace HA := Lib.hid (HA.out.on haw)
          replace HP := Lib.hid (HP.out.on haw)
          replace H2 := Lib.hid (H2.out.on haw)
          replace HBB := Lib.hid (HBB.out.on haw)
          replace HAWX := Lib.hid (HAWX.out.on haw)
          replace HOO := Lib.hid (HOO.out.on haw)
          clear haw
          have HVM := Lib.hid hown
          clear hown
          clear HOO
          obtain ⟨ma, mc, hvm, -, -⟩ := HVM.out.slc
          subst hvm
          go_wp2_with (refine wpList_newM rfl rfl rfl _ _ rfl zeroMg (.slice ma 0 mc) (fun _ => rfl) (fun _ => rfl) rfl ?_; refine Hid.out ?_)
          refine Lib.hid ?_
          intro g11 w7 hg_g11 hb haw
          replace HA := Lib.hid (HA.out.on haw)
          replace HP := Lib.hid (HP.out.on haw)
          replace H2 := Lib.hid (H2.out.on haw)
          replace HBB := Lib.hid (HBB.out.on haw)
          replace HAWX := Lib.hid (HAWX.out.on haw)
          replace HVM := Lib.hid (HVM.out.on haw)
          clear haw
          have H11 := Lib.hid hb
          have hl_g11 := hb.lt
          clear hb
          go_wp2_with fail
          refine (own_any (some ⟨gb, 0, none⟩) b _ cb _ rfl (by exact HBB.out.row' (by omega) HBY.out)).mono ?_
          rintro E wo ⟨vp, rfl, hown, hnew, haw, -, -⟩
          have HOP := Lib.hid hown
          clear hown
          go_wp2_with (at_builtin; refine wpList_appG rfl _ _ rfl _ b [0] rfl (by exact HOP.out.away ((Away.refl [] _).alloc _) (by simp)) ⟨wo.heap.size, 0, none⟩ 1 1 rfl rfl (lit_cells _ [0] _ rfl) (by omega) ?_; refine Hid.out ?_)
          refine Lib.hid ?_
          intro vf w8 hownf hgr hmov
          have haw2 : Away [] w7 w8 := (haw.alloc _).grown hgr (fun k hk => .inr (hnew k hk))
          clear hgr hmov hnew haw HOP
          have haw := haw2
          clear haw2
          replace HA := Lib.hid (HA.out.on haw)
          replace HP := Lib.hid (HP.out.on haw)
          replace H2 := Lib.hid (H2.out.on haw)
          replace HBB := Lib.hid (HBB.out.on haw)
          replace HAWX := Lib.hid (HAWX.out.on haw)
          replace HVM := Lib.hid (HVM.out.on haw)
          replace H11 := Lib.hid (H11.out.on haw)
          clear haw
          obtain ⟨d, hd⟩ : ∃ d, d = b ++ [0] := ⟨_, rfl⟩
          rw [← hd] at hownf
          have HDB : Hid (Bytes d) := by rw [hd]; exact HBY.out.app (Bytes.nil.cons (by omega) (by omega))
          have hdl2 : d.length ≤ 65576 := by rw [hd]; simp; omega
          rw [← hd] at HE2
          clear hd
          have HVF := Lib.hid hownf
          clear hownf
          obtain ⟨fa, fc, hvf, hf1, hf2⟩ := HVF.out.slc
          subst hvf
          go_wp2_with fail
          refine (errors_c k fa d fc 0 _ hlt (by exact HVF.out.row' (by omega) HDB.out) hf2 hf1 (by exact HG.out.on HA.out)).mono ?_
          rw [HE2.out]
          rintro E w9 ⟨vn, rfl, hown, hnew2, haw⟩
          replace HA := Lib.hid (HA.out.on haw)
          replace HP := Lib.hid (HP.out.on haw)
          replace H2 := Lib.hid (H2.out.on haw)
          replace HBB := Lib.hid (HBB.out.on haw)
          replace HAWX := Lib.hid (HAWX.out.on haw)
          replace HVM := Lib.hid (HVM.out.on haw)
          replace H11 := Lib.hid (H11.out.on haw)
          replace HVF := Lib.hid (HVF.out.on haw)
          clear haw
          have HVN := Lib.hid hown
          clear hown
          clear HVF
          obtain ⟨na, nc, hvn, -, -⟩ := HVN.out.slc
          subst hvn
          go_wp2_with (refine wpList_newM rfl rfl rfl _ _ rfl zeroMg (.slice na 0 nc) (fun _ => rfl) (fun _ => rfl) rfl ?_; refine Hid.out ?_)
          refine Lib.hid ?_
          intro g13 w10 hg_g13 hb haw
          replace HA := Lib.hid (HA.out.on haw)
          replace HP := Lib.hid (HP.out.on haw)
          replace H2 := Lib.hid (H2.out.on haw)
          replace HBB := Lib.hid (HBB.out.on haw)
          replace HAWX := Lib.hid (HAWX.out.on haw)
          replace HVM := Lib.hid (HVM.out.on haw)
          replace H11 := Lib.hid (H11.out.on haw)
          replace HVN := Lib.hid (HVN.out.on haw)
          clear haw
          have H13 := Lib.hid hb
          have hl_g13 := hb.lt
          clear hb
          go_wp2_with (first | (refine wpList_loadM rfl _ rfl g11 rfl zeroMg _ (by exact H11.out) ?_) | (refine wpList_loadM rfl _ rfl g13 rfl zeroMg _ (by exact H13.out) ?_))
          refine (sameM_yes zeroMg _ _ _ (by exact HVM.out.sl Bytes.nil (by decide)) (by exact Sl.nil _)).mono ?_
          rintro E w11 ⟨rfl, haw⟩
          replace HA := Lib.hid (HA.out.on haw)
          replace HP := Lib.hid (HP.out.on haw)
          replace H2 := Lib.hid (H2.out.on haw)
          replace HBB := Lib.hid (HBB.out.on haw)
          replace HAWX := Lib.hid (HAWX.out.on haw)
          replace HVM := Lib.hid (HVM.out.on haw)
          replace H11 := Lib.hid (H11.out.on haw)
          replace HVN := Lib.hid (HVN.out.on haw)
          replace H13 := Lib.hid (H13.out.on haw)
          clear haw
          go_wp2_with (first | (refine wpList_loadM rfl _ rfl g11 rfl zeroMg _ (by exact H11.out) ?_) | (refine wpList_loadM rfl _ rfl g13 rfl zeroMg _ (by exact H13.out) ?_))
          refine (sameM_yes zeroMg _ _ _ (by exact HVN.out.sl Bytes.nil (by decide)) (by exact Sl.nil _)).mono ?_
          rintro E w12 ⟨rfl, haw⟩
          replace HA := Lib.hid (HA.out.on haw)
          replace HP := Lib.hid (HP.out.on haw)
          replace H2 := Lib.hid (H2.out.on haw)
          replace HBB := Lib.hid (HBB.out.on haw)
          replace HAWX := Lib.hid (HAWX.out.on haw)
          replace HVM := Lib.hid (HVM.out.on haw)
          replace H11 := Lib.hid (H11.out.on haw)
          replace HVN := Lib.hid (HVN.out.on haw)
          replace H13 := Lib.hid (H13.out.on haw)
          clear haw
          go_wp2_with fail
          go_roundw
          case rel => exact ⟨k + 1, by omega, by go_num, HAWX.out⟩
          case measure => simp [intOf]; omega
        · have t1 : ¬ (k : Int) < 5 := by omega
          have t1d : decide ((k : Int) < 5) = false := decide_eq_false (by omega)
          have t1e : decide (k < 5) = false := decide_eq_false (by omega)
          have HRW := Lib.hid (HCR.out _ HBB.out)
          have HWQ : Hid (WfM ⟨p.v, 3, 0, 0, c⟩) := ⟨HWF.out.v, by simp [i64ok], by simp [i64ok], by show (0 : Int) ≤ 0; decide, by show (0 : Int) ≤ 4294967295; decide, HCB.out, by show c.length ≤ _; rw [HTN.out]; omega⟩
          have HAQ := Lib.hid (lookP_ad (g := ⟨p.v, 3, 0, 0, c⟩) HCB.out (by show c.length ≤ _; rw [HTN.out]; omega))
          have hlk := HLK.out n hnl
          rw [← HCD.out] at hlk
          have hvv := (H2.out.cells HAD.out).v
          have hdd := (H2.out.cells HAD.out).d
          obtain ⟨da, dc, hde⟩ : ∃ da dc, dv = .slice da p.d.length dc := by obtain ⟨x1, x2, x3, -⟩ := HP.out.d; exact ⟨x1, x2, x3⟩
          subst hde
          obtain ⟨hn, hhn⟩ : ∃ hn, hn = b.length - p.d.length := ⟨_, rfl⟩
          rw [← hhn] at hlk
          have hsub : (b.length : Int) - (p.d.length : Int) = (hn : Int) := by omega
          have hsw : IntKind.i64.wrap ((hn : Int)) = (hn : Int) := by rw [IntKind.wrap_i64]; omega
          clear hhn
          obtain ⟨Q, lo, er, hlq, hcase⟩ : ∃ Q lo er, lookP ⟨p.v, 3, 0, 0, c⟩ = (Q, lo, er) ∧ ((n < hn ∧ lo = 0 ∧ er = 20) ∨ (hn ≤ n ∧ lo = (b.length : Int) ∧ er = 0)) := by
            by_cases h : n < hn
            · exact ⟨_, _, _, hlk.1 h, .inl ⟨h, rfl, rfl⟩⟩
            · obtain ⟨q, hq⟩ := hlk.2 (by omega)
              exact ⟨_, _, _, hq, .inr ⟨by omega, rfl, rfl⟩⟩
          rw [hlq] at HAQ
          have HLQ := Lib.hid hlq
          have HCS := Lib.hid hcase
          clear hlq hcase hlk HLK HCD
          simp only at HAQ
          go_upto_region 19 with fail
          go_cut [15, 16, 17] (fun v lo2 er2 wc => lo2 = .int .i64 lo ∧ er2 = .int .i64 er ∧ Away [] wr wc)
          case first =>
            refine wp_region_held_drew (S := (fun w' => Away [] wr w')) (by kernel_rfl) ((Away.refl [] wr).drew) (fun hHeld => ?_)
            refine wpAnyH_take (i := 0) (v := ?_) (by simp only [List.getElem?_toArray, List.getElem?_cons_zero]; rfl) (by kernel_rfl) (by kernel_rfl) (by kernel_rfl) (by exact fun _ _ _ h => h) (Or.inl ⟨by rfl, ?_⟩) (by assumption) ?_
            rotate_left
            · intro wq hSw
              (try dsimp only at hSw)
              go_simp
              all_goals (with_reducible rfl)
            try simp only [Act.put, List.setIfInBounds_toArray, List.set_cons_zero, List.set_cons_succ]
            refine wpAnyH_take (i := 1) (by simp only [List.getElem?_toArray, List.getElem?_cons_succ, List.getElem?_cons_zero]; rfl) (by kernel_rfl) (by kernel_rfl) (by kernel_rfl) (by exact fun _ _ _ h => h) (yields_ld (ad := ⟨g2, 0, none⟩) (by rfl) _ rfl rfl (fun w' h => S6.ld3 (h.cell (by simp) hvv))) (by assumption) ?_
            try simp only [Act.put, List.setIfInBounds_toArray, List.set_cons_zero, List.set_cons_succ]
            refine wpAnyH_take (i := 2) (v := ?_) (by simp only [List.getElem?_toArray, List.getElem?_cons_succ, List.getElem?_cons_zero]; rfl) (by kernel_rfl) (by kernel_rfl) (by kernel_rfl) (by exact fun _ _ _ h => h) (Or.inl ⟨by rfl, ?_⟩) (by assumption) ?_
            rotate_left
            · intro wq hSw
              (try dsimp only at hSw)
              go_simp
              all_goals (with_reducible rfl)
            try simp only [Act.put, List.setIfInBounds_toArray, List.set_cons_zero, List.set_cons_succ]
            refine wpAnyH_take (i := 3) (v := ?_) (by simp only [List.getElem?_toArray, List.getElem?_cons_succ, List.getElem?_cons_zero]; rfl) (by kernel_rfl) (by kernel_rfl) (by kernel_rfl) (by exact fun _ _ _ h => h) (Or.inl ⟨by rfl, ?_⟩) (by assumption) ?_
            rotate_left
            · intro wq hSw
              (try dsimp only at hSw)
              go_simp
              all_goals (with_reducible rfl)
            try simp only [Act.put, List.setIfInBounds_toArray, List.set_cons_zero, List.set_cons_succ]
            refine wpAnyH_take (i := 4) (v := ?_) (by simp only [List.getElem?_toArray, List.getElem?_cons_succ, List.getElem?_cons_zero]; rfl) (by kernel_rfl) (by kernel_rfl) (by kernel_rfl) (by exact fun _ _ _ h => h) (Or.inl ⟨by rfl, ?_⟩) (by assumption) ?_
            rotate_left
            · intro wq hSw
              (try dsimp only at hSw)
              go_simp
              all_goals (with_reducible rfl)
            try simp only [Act.put, List.setIfInBounds_toArray, List.set_cons_zero, List.set_cons_succ]
            refine wpAnyH_ready (rs := [5, 12]) (by kernel_rfl) (by simp) ?_
            refine AllReadyH.cons (by simp only [List.getElem?_toArray, List.getElem?_cons_succ, List.getElem?_cons_zero]; rfl) (fun K hK => ?_) (AllReadyH.cons (by simp only [List.getElem?_toArray, List.getElem?_cons_succ, List.getElem?_cons_zero]; rfl) (fun K hK => ?_) AllReadyH.nil)
            · go_simp
              refine (own_any (some ⟨gb, 0, none⟩) c n cb _ HTN.out (by exact HRW.out.on hHeld)).mono ?_
              rintro E y1 ⟨vo, rfl, hown, hnwo, haw, -, -⟩
              have hS := hHeld.on haw
              clear haw
              obtain ⟨oa, oc, rfl, ho1, ho2⟩ := hown.slc
              go_wp2_with fail
              refine hK.out _ _ hS (fun hHeld => ?_)
              clear hK K
              try simp only [Act.put, List.setIfInBounds_toArray, List.set_cons_zero, List.set_cons_succ]
              refine wpAnyH_take (i := 6) (v := ?_) (by simp only [List.getElem?_toArray, List.getElem?_cons_succ, List.getElem?_cons_zero]; rfl) (by kernel_rfl) (by kernel_rfl) (by kernel_rfl) (by exact fun _ _ _ h => h) (Or.inl ⟨by rfl, ?_⟩) (by assumption) ?_
              rotate_left
              · intro wq hSw
                (try dsimp only at hSw)
                go_simp
                all_goals (with_reducible rfl)
              try simp only [Act.put, List.setIfInBounds_toArray, List.set_cons_zero, List.set_cons_succ]
              refine wpAnyH_ready (rs := [7, 12]) (by kernel_rfl) (by simp) ?_
              refine AllReadyH.cons (by simp only [List.getElem?_toArray, List.getElem?_cons_succ, List.getElem?_cons_zero]; rfl) (fun K hK => ?_) (AllReadyH.cons (by simp only [List.getElem?_toArray, List.getElem?_cons_succ, List.getElem?_cons_zero]; rfl) (fun K hK => ?_) AllReadyH.nil)
              · go_simp
                refine (look_c ⟨p.v, 3, 0, 0, c⟩ (.slice oa c.length oc) _ (by exact ⟨HWQ.out, ⟨_, _, rfl, ho2, ho1, hown.row' HWQ.out.dn HCB.out⟩⟩) (by exact HG.out.on (HA.out.on hHeld))).mono ?_
                rw [HLQ.out]
                rintro E y2 ⟨qo, qd, rfl, hqo, hqd, -, -, -, haw⟩
                have hS := hHeld.on haw
                replace hown := hown.on haw
                clear haw
                obtain ⟨q1, q2, q3, rfl⟩ := hqo.shp
                obtain ⟨r1, r2, r3, rfl⟩ := hqd.shp
                go_wp2_with fail
                refine hK.out _ _ hS (fun hHeld => ?_)
                clear hK K
                try simp only [Act.put, List.setIfInBounds_toArray, List.set_cons_zero, List.set_cons_succ]
                refine wpAnyH_take (i := 8) (v := ?_) (by simp only [List.getElem?_toArray, List.getElem?_cons_succ, List.getElem?_cons_zero]; rfl) (by kernel_rfl) (by kernel_rfl) (by kernel_rfl) (by exact fun _ _ _ h => h) (Or.inl ⟨by rfl, ?_⟩) (by assumption) ?_
                rotate_left
                · intro wq hSw
                  (try dsimp only at hSw)
                  go_simp
                  all_goals (with_reducible rfl)
                try simp only [Act.put, List.setIfInBounds_toArray, List.set_cons_zero, List.set_cons_succ]
                refine wpAnyH_take (i := 9) (v := ?_) (by simp only [List.getElem?_toArray, List.getElem?_cons_succ, List.getElem?_cons_zero]; rfl) (by kernel_rfl) (by kernel_rfl) (by kernel_rfl) (by exact fun _ _ _ h => h) (Or.inl ⟨by rfl, ?_⟩) (by assumption) ?_
                rotate_left
                · intro wq hSw
                  (try dsimp only at hSw)
                  go_simp
                  all_goals (with_reducible rfl)
                try simp only [Act.put, List.setIfInBounds_toArray, List.set_cons_zero, List.set_cons_succ]
                refine wpAnyH_take (i := 10) (v := ?_) (by simp only [List.getElem?_toArray, List.getElem?_cons_succ, List.getElem?_cons_zero]; rfl) (by kernel_rfl) (by kernel_rfl) (by kernel_rfl) (by exact fun _ _ _ h => h) (Or.inl ⟨by rfl, ?_⟩) (by assumption) ?_
                rotate_left
                · intro wq hSw
                  (try dsimp only at hSw)
                  go_simp
                  all_goals (with_reducible rfl)
                try simp only [Act.put, List.setIfInBounds_toArray, List.set_cons_zero, List.set_cons_succ]
                refine wpAnyH_take (i := 11) (v := ?_) (by simp only [List.getElem?_toArray, List.getElem?_cons_succ, List.getElem?_cons_zero]; rfl) (by kernel_rfl) (by kernel_rfl) (by kernel_rfl) (by exact fun _ _ _ h => h) (Or.inl ⟨by rfl, ?_⟩) (by assumption) ?_
                rotate_left
                · intro wq hSw
                  (try dsimp only at hSw)
                  go_simp
                  all_goals (with_reducible rfl)
                try simp only [Act.put, List.setIfInBounds_toArray, List.set_cons_zero, List.set_cons_succ]
                refine wpAnyH_ready (rs := [12]) (by kernel_rfl) (by simp) ?_
                refine AllReadyH.cons (by simp only [List.getElem?_toArray, List.getElem?_cons_succ, List.getElem?_cons_zero]; rfl) (fun K hK => ?_) AllReadyH.nil
                rw [if_pos (by rfl)]
                refine wp_alloc28 rfl ?_
                intro g15 y3 hg15 hbx haw
                have hS := hHeld.on haw
                have hza := hHeld.size
                have hl15 := hbx.lt
                replace hown := hown.on haw
                clear haw
                refine hK.out _ _ hS (fun hHeld => ?_)
                clear hK K
                try simp only [Act.put, List.setIfInBounds_toArray, List.set_cons_zero, List.set_cons_succ]
                refine wpAnyH_ready (rs := [13]) (by kernel_rfl) (by simp) ?_
                refine AllReadyH.cons (by simp only [List.getElem?_toArray, List.getElem?_cons_succ, List.getElem?_cons_zero]; rfl) (fun K hK => ?_) AllReadyH.nil
                rw [if_pos (by rfl)]
                refine wp_store28 (.tmp 15) (.tmp 95) rfl g15 rfl Q (.slice q1 q2 q3) (.slice r1 r2 r3) rfl zeroPk (.slice none 0 0) (.slice none 0 0) (by exact hbx) HAQ.out ⟨rfl, rfl⟩ rfl rfl ?_
                intro y4 haw
                have hS : Away [] wr y4 := hHeld.next haw (fun x hx => .inr (by simp at hx; omega))
                clear haw
                refine hK.out _ _ hS (fun hHeld => ?_)
                clear hK K
                try simp only [Act.put]
                refine wpAnyH_take (i := 14) (v := ?_) (by simp only [List.getElem?_toArray, List.getElem?_cons_succ, List.getElem?_cons_zero]; rfl) (by kernel_rfl) (by kernel_rfl) (by kernel_rfl) (by exact fun _ _ _ h => h) (Or.inl ⟨by rfl, ?_⟩) (by assumption) ?_
                rotate_left
                · intro wq hSw
                  (try dsimp only at hSw)
                  go_simp
                  all_goals (with_reducible rfl)
                try simp only [Act.put, List.setIfInBounds_toArray, List.set_cons_zero, List.set_cons_succ]
                refine wpAnyH_take (i := 15) (v := ?_) (by simp only [List.getElem?_toArray, List.getElem?_cons_succ, List.getElem?_cons_zero]; rfl) (by kernel_rfl) (by kernel_rfl) (by kernel_rfl) (by exact fun _ _ _ h => h) (Or.inl ⟨by rfl, ?_⟩) (by assumption) ?_
                rotate_left
                · intro wq hSw
                  (try dsimp only at hSw)
                  go_simp
                  all_goals (with_reducible rfl)
                try simp only [Act.put, List.setIfInBounds_toArray, List.set_cons_zero, List.set_cons_succ]
                refine wpAnyH_done (by kernel_rfl) ?_ _
                go_wp2_with fail
                go_meet
                exact ⟨rfl, rfl, hHeld⟩
              · rw [if_pos (by rfl)]
                refine wp_alloc28 rfl ?_
                intro g15 y2 hg15 hbx haw
                have hS := hHeld.on haw
                have hza := hHeld.size
                have hl15 := hbx.lt
                replace hown := hown.on haw
                clear haw
                refine hK.out _ _ hS (fun hHeld => ?_)
                clear hK K
                try simp only [Act.put, List.setIfInBounds_toArray, List.set_cons_zero, List.set_cons_succ]
                refine wpAnyH_ready (rs := [7]) (by kernel_rfl) (by simp) ?_
                refine AllReadyH.cons (by simp only [List.getElem?_toArray, List.getElem?_cons_succ, List.getElem?_cons_zero]; rfl) (fun K hK => ?_) AllReadyH.nil
                go_simp
                refine (look_c ⟨p.v, 3, 0, 0, c⟩ (.slice oa c.length oc) _ (by exact ⟨HWQ.out, ⟨_, _, rfl, ho2, ho1, hown.row' HWQ.out.dn HCB.out⟩⟩) (by exact HG.out.on (HA.out.on hHeld))).mono ?_
                rw [HLQ.out]
                rintro E y3 ⟨qo, qd, rfl, hqo, hqd, -, -, -, haw⟩
                have hS := hHeld.on haw
                replace hown := hown.on haw
                replace hbx := hbx.on haw
                clear haw
                obtain ⟨q1, q2, q3, rfl⟩ := hqo.shp
                obtain ⟨r1, r2, r3, rfl⟩ := hqd.shp
                go_wp2_with fail
                refine hK.out _ _ hS (fun hHeld => ?_)
                clear hK K
                try simp only [Act.put, List.setIfInBounds_toArray, List.set_cons_zero, List.set_cons_succ]
                refine wpAnyH_take (i := 8) (v := ?_) (by simp only [List.getElem?_toArray, List.getElem?_cons_succ, List.getElem?_cons_zero]; rfl) (by kernel_rfl) (by kernel_rfl) (by kernel_rfl) (by exact fun _ _ _ h => h) (Or.inl ⟨by rfl, ?_⟩) (by assumption) ?_
                rotate_left
                · intro wq hSw
                  (try dsimp only at hSw)
                  go_simp
                  all_goals (with_reducible rfl)
                try simp only [Act.put, List.setIfInBounds_toArray, List.set_cons_zero, List.set_cons_succ]
                refine wpAnyH_take (i := 9) (v := ?_) (by simp only [List.getElem?_toArray, List.getElem?_cons_succ, List.getElem?_cons_zero]; rfl) (by kernel_rfl) (by kernel_rfl) (by kernel_rfl) (by exact fun _ _ _ h => h) (Or.inl ⟨by rfl, ?_⟩) (by assumption) ?_
                rotate_left
                · intro wq hSw
                  (try dsimp only at hSw)
                  go_simp
                  all_goals (with_reducible rfl)
                try simp only [Act.put, List.setIfInBounds_toArray, List.set_cons_zero, List.set_cons_succ]
                refine wpAnyH_take (i := 10) (v := ?_) (by simp only [List.getElem?_toArray, List.getElem?_cons_succ, List.getElem?_cons_zero]; rfl) (by kernel_rfl) (by kernel_rfl) (by kernel_rfl) (by exact fun _ _ _ h => h) (Or.inl ⟨by rfl, ?_⟩) (by assumption) ?_
                rotate_left
                · intro wq hSw
                  (try dsimp only at hSw)
                  go_simp
                  all_goals (with_reducible rfl)
                try simp only [Act.put, List.setIfInBounds_toArray, List.set_cons_zero, List.set_cons_succ]
                refine wpAnyH_take (i := 11) (v := ?_) (by simp only [List.getElem?_toArray, List.getElem?_cons_succ, List.getElem?_cons_zero]; rfl) (by kernel_rfl) (by kernel_rfl) (by kernel_rfl) (by exact fun _ _ _ h => h) (Or.inl ⟨by rfl, ?_⟩) (by assumption) ?_
                rotate_left
                · intro wq hSw
                  (try dsimp only at hSw)
                  go_simp
                  all_goals (with_reducible rfl)
                try simp only [Act.put, List.setIfInBounds_toArray, List.set_cons_zero, List.set_cons_succ]
                refine wpAnyH_ready (rs := [13]) (by kernel_rfl) (by simp) ?_
                refine AllReadyH.cons (by simp only [List.getElem?_toArray, List.getElem?_cons_succ, List.getElem?_cons_zero]; rfl) (fun K hK => ?_) AllReadyH.nil
                rw [if_pos (by rfl)]
                refine wp_store28 (.tmp 15) (.tmp 95) rfl g15 rfl Q (.slice q1 q2 q3) (.slice r1 r2 r3) rfl zeroPk (.slice none 0 0) (.slice none 0 0) (by exact hbx) HAQ.out ⟨rfl, rfl⟩ rfl rfl ?_
                intro y4 haw
                have hS : Away [] wr y4 := hHeld.next haw (fun x hx => .inr (by simp at hx; omega))
                clear haw
                refine hK.out _ _ hS (fun hHeld => ?_)
                clear hK K
                try simp only [Act.put]
                refine wpAnyH_take (i := 14) (v := ?_) (by simp only [List.getElem?_toArray, List.getElem?_cons_succ, List.getElem?_cons_zero]; rfl) (by kernel_rfl) (by kernel_rfl) (by kernel_rfl) (by exact fun _ _ _ h => h) (Or.inl ⟨by rfl, ?_⟩) (by assumption) ?_
                rotate_left
                · intro wq hSw
                  (try dsimp only at hSw)
                  go_simp
                  all_goals (with_reducible rfl)
                try simp only [Act.put, List.setIfInBounds_toArray, List.set_cons_zero, List.set_cons_succ]
                refine wpAnyH_take (i := 15) (v := ?_) (by simp only [List.getElem?_toArray, List.getElem?_cons_succ, List.getElem?_cons_zero]; rfl) (by kernel_rfl) (by kernel_rfl) (by kernel_rfl) (by exact fun _ _ _ h => h) (Or.inl ⟨by rfl, ?_⟩) (by assumption) ?_
                rotate_left
                · intro wq hSw
                  (try dsimp only at hSw)
                  go_simp
                  all_goals (with_reducible rfl)
                try simp only [Act.put, List.setIfInBounds_toArray, List.set_cons_zero, List.set_cons_succ]
                refine wpAnyH_done (by kernel_rfl) ?_ _
                go_wp2_with fail
                go_meet
                exact ⟨rfl, rfl, hHeld⟩
            · rw [if_pos (by rfl)]
              refine wp_alloc28 rfl ?_
              intro g15 y1 hg15 hbx haw
              have hS := hHeld.on haw
              have hza := hHeld.size
              have hl15 := hbx.lt
              clear haw
              refine hK.out _ _ hS (fun hHeld => ?_)
              clear hK K
              try simp only [Act.put, List.setIfInBounds_toArray, List.set_cons_zero, List.set_cons_succ]
              refine wpAnyH_ready (rs := [5]) (by kernel_rfl) (by simp) ?_
              refine AllReadyH.cons (by simp only [List.getElem?_toArray, List.getElem?_cons_succ, List.getElem?_cons_zero]; rfl) (fun K hK => ?_) AllReadyH.nil
              go_simp
              refine (own_any (some ⟨gb, 0, none⟩) c n cb _ HTN.out (by exact HRW.out.on hHeld)).mono ?_
              rintro E y2 ⟨vo, rfl, hown, hnwo, haw, -, -⟩
              have hS := hHeld.on haw
              replace hbx := hbx.on haw
              clear haw
              obtain ⟨oa, oc, rfl, ho1, ho2⟩ := hown.slc
              go_wp2_with fail
              refine hK.out _ _ hS (fun hHeld => ?_)
              clear hK K
              try simp only [Act.put, List.setIfInBounds_toArray, List.set_cons_zero, List.set_cons_succ]
              refine wpAnyH_take (i := 6) (v := ?_) (by simp only [List.getElem?_toArray, List.getElem?_cons_succ, List.getElem?_cons_zero]; rfl) (by kernel_rfl) (by kernel_rfl) (by kernel_rfl) (by exact fun _ _ _ h => h) (Or.inl ⟨by rfl, ?_⟩) (by assumption) ?_
              rotate_left
              · intro wq hSw
                (try dsimp only at hSw)
                go_simp
                all_goals (with_reducible rfl)
              try simp only [Act.put, List.setIfInBounds_toArray, List.set_cons_zero, List.set_cons_succ]
              refine wpAnyH_ready (rs := [7]) (by kernel_rfl) (by simp) ?_
              refine AllReadyH.cons (by simp only [List.getElem?_toArray, List.getElem?_cons_succ, List.getElem?_cons_zero]; rfl) (fun K hK => ?_) AllReadyH.nil
              go_simp
              refine (look_c ⟨p.v, 3, 0, 0, c⟩ (.slice oa c.length oc) _ (by exact ⟨HWQ.out, ⟨_, _, rfl, ho2, ho1, hown.row' HWQ.out.dn HCB.out⟩⟩) (by exact HG.out.on (HA.out.on hHeld))).mono ?_
              rw [HLQ.out]
              rintro E y3 ⟨qo, qd, rfl, hqo, hqd, -, -, -, haw⟩
              have hS := hHeld.on haw
              replace hbx := hbx.on haw
              replace hown := hown.on haw
              clear haw
              obtain ⟨q1, q2, q3, rfl⟩ := hqo.shp
              obtain ⟨r1, r2, r3, rfl⟩ := hqd.shp
              go_wp2_with fail
              refine hK.out _ _ hS (fun hHeld => ?_)
              clear hK K
              try simp only [Act.put, List.setIfInBounds_toArray, List.set_cons_zero, List.set_cons_succ]
              refine wpAnyH_take (i := 8) (v := ?_) (by simp only [List.getElem?_toArray, List.getElem?_cons_succ, List.getElem?_cons_zero]; rfl) (by kernel_rfl) (by kernel_rfl) (by kernel_rfl) (by exact fun _ _ _ h => h) (Or.inl ⟨by rfl, ?_⟩) (by assumption) ?_
              rotate_left
              · intro wq hSw
                (try dsimp only at hSw)
                go_simp
                all_goals (with_reducible rfl)
              try simp only [Act.put, List.setIfInBounds_toArray, List.set_cons_zero, List.set_cons_succ]
              refine wpAnyH_take (i := 9) (v := ?_) (by simp only [List.getElem?_toArray, List.getElem?_cons_succ, List.getElem?_cons_zero]; rfl) (by kernel_rfl) (by kernel_rfl) (by kernel_rfl) (by exact fun _ _ _ h => h) (Or.inl ⟨by rfl, ?_⟩) (by assumption) ?_
              rotate_left
              · intro wq hSw
                (try dsimp only at hSw)
                go_simp
                all_goals (with_reducible rfl)
              try simp only [Act.put, List.setIfInBounds_toArray, List.set_cons_zero, List.set_cons_succ]
              refine wpAnyH_take (i := 10) (v := ?_) (by simp only [List.getElem?_toArray, List.getElem?_cons_succ, List.getElem?_cons_zero]; rfl) (by kernel_rfl) (by kernel_rfl) (by kernel_rfl) (by exact fun _ _ _ h => h) (Or.inl ⟨by rfl, ?_⟩) (by assumption) ?_
              rotate_left
              · intro wq hSw
                (try dsimp only at hSw)
                go_simp
                all_goals (with_reducible rfl)
              try simp only [Act.put, List.setIfInBounds_toArray, List.set_cons_zero, List.set_cons_succ]
              refine wpAnyH_take (i := 11) (v := ?_) (by simp only [List.getElem?_toArray, List.getElem?_cons_succ, List.getElem?_cons_zero]; rfl) (by kernel_rfl) (by kernel_rfl) (by kernel_rfl) (by exact fun _ _ _ h => h) (Or.inl ⟨by rfl, ?_⟩) (by assumption) ?_
              rotate_left
              · intro wq hSw
                (try dsimp only at hSw)
                go_simp
                all_goals (with_reducible rfl)
              try simp only [Act.put, List.setIfInBounds_toArray, List.set_cons_zero, List.set_cons_succ]
              refine wpAnyH_ready (rs := [13]) (by kernel_rfl) (by simp) ?_
              refine AllReadyH.cons (by simp only [List.getElem?_toArray, List.getElem?_cons_succ, List.getElem?_cons_zero]; rfl) (fun K hK => ?_) AllReadyH.nil
              rw [if_pos (by rfl)]
              refine wp_store28 (.tmp 15) (.tmp 95) rfl g15 rfl Q (.slice q1 q2 q3) (.slice r1 r2 r3) rfl zeroPk (.slice none 0 0) (.slice none 0 0) (by exact hbx) HAQ.out ⟨rfl, rfl⟩ rfl rfl ?_
              intro y4 haw
              have hS : Away [] wr y4 := hHeld.next haw (fun x hx => .inr (by simp at hx; omega))
              clear haw
              refine hK.out _ _ hS (fun hHeld => ?_)
              clear hK K
              try simp only [Act.put]
              refine wpAnyH_take (i := 14) (v := ?_) (by simp only [List.getElem?_toArray, List.getElem?_cons_succ, List.getElem?_cons_zero]; rfl) (by kernel_rfl) (by kernel_rfl) (by kernel_rfl) (by exact fun _ _ _ h => h) (Or.inl ⟨by rfl, ?_⟩) (by assumption) ?_
              rotate_left
              · intro wq hSw
                (try dsimp only at hSw)
                go_simp
                all_goals (with_reducible rfl)
              try simp only [Act.put, List.setIfInBounds_toArray, List.set_cons_zero, List.set_cons_succ]
              refine wpAnyH_take (i := 15) (v := ?_) (by simp only [List.getElem?_toArray, List.getElem?_cons_succ, List.getElem?_cons_zero]; rfl) (by kernel_rfl) (by kernel_rfl) (by kernel_rfl) (by exact fun _ _ _ h => h) (Or.inl ⟨by rfl, ?_⟩) (by assumption) ?_
              rotate_left
              · intro wq hSw
                (try dsimp only at hSw)
                go_simp
                all_goals (with_reducible rfl)
              try simp only [Act.put, List.setIfInBounds_toArray, List.set_cons_zero, List.set_cons_succ]
              refine wpAnyH_done (by kernel_rfl) ?_ _
              go_wp2_with fail
              go_meet
              exact ⟨rfl, rfl, hHeld⟩
          case rest =>
          obtain ⟨rfl, rfl, haw⟩ := hcut
          generalize wc = w5 at *
          clear hvv
          replace hdd := haw.cell (by simp) hdd
          replace HA := Lib.hid (HA.out.on haw)
          replace HP := Lib.hid (HP.out.on haw)
          replace H2 := Lib.hid (H2.out.on haw)
          replace HBB := Lib.hid (HBB.out.on haw)
          replace HAWX := Lib.hid (HAWX.out.on haw)
          replace HRW := Lib.hid (HRW.out.on haw)
          clear haw
          rcases HCS.out with ⟨h1, h2, h3⟩ | ⟨h1, h2, h3⟩
          · subst h2
            subst h3
            have d1 : decide ((n : Int) < (hn : Int)) = true := decide_eq_true (by omega)
            have d2 : decide (n < hn) = true := decide_eq_true (by omega)
            go_wp2_with fail
            go_ret
            exact ⟨rfl, HA.out.to_below⟩
          · subst h2
            subst h3
            have d1 : decide ((n : Int) < (hn : Int)) = false := decide_eq_false (by omega)
            have d2 : decide (n < hn) = false := decide_eq_false (by omega)
            go_wp2_with fail
            go_ret
            exact ⟨rfl, HA.out.to_below⟩
    · obtain ⟨n, rfl⟩ : ∃ n : Nat, t = (n : Int) := ⟨t.toNat, by omega⟩
      have hnl : n < b.length := by omega
      clear ht1 ht2 h0
      obtain ⟨c, hc⟩ : ∃ c, c = b.take n := ⟨_, rfl⟩
      have HTN : Hid (c.length = n) := by rw [hc]; show _ = _; simp; omega
      have HCB : Hid (Bytes c) := by rw [hc]; exact HBY.out.take n
      have HCR : Hid (∀ W, Owns W (.slice (some ⟨gb, 0, none⟩) b.length cb) b → Row W (some ⟨gb, 0, none⟩) c) := fun W h => by rw [hc]; exact (h.row' (by omega) HBY.out).head n
      have HCN : Hid ((parse4 c).2 ≠ 0 ∧ (S6.parse6 c).2 ≠ 0) := by rw [hc]; exact none_cut HPB.out hnl
      have HCD := Lib.hid hc
      clear hc
      have s1 := slice_h (some ⟨gb, 0, none⟩) b.length cb n (n : Int) rfl (by omega)
      go_wp2_with fail
      go_loopw [10] (fun i wr => ∃ k : Nat, k ≤ 5 ∧ i = .int .i64 (k : Int) ∧ Away [] w4 wr) (fun i _ => 5 - (intOf i).toNat)
      case atStart => exact ⟨0, by omega, rfl, Away.refl _ _⟩
      case round =>
        obtain ⟨k, hk, rfl, haw0⟩ := hrel
        have haw := haw0
        have HAWX := Lib.hid haw0
        clear haw0
        replace HA := Lib.hid (HA.out.on haw)
        replace HP := Lib.hid (HP.out.on haw)
        replace H2 := Lib.hid (H2.out.on haw)
        replace HBB := Lib.hid (HBB.out.on haw)
        clear haw
        by_cases hlt : k < 5
        · have t1 : (k : Int) < 5 := by omega
          have HE1 := Lib.hid (errs_none (k := k) HCN.out.1 HCN.out.2)
          have HE2 := Lib.hid (errs_none (k := k) (none_more HPB.out).1 (none_more HPB.out).2)
          go_wp2_with fail
          refine (own_any (some ⟨gb, 0, none⟩) c n cb _ HTN.out (by exact HCR.out _ HBB.out)).mono ?_
          rintro E w5 ⟨vo, rfl, hown, hnew, haw, -, -⟩
          replace HA := Lib.hid (HA.out.on haw)
          replace HP := Lib.hid (HP.out.on haw)
          replace H2 := Lib.hid (H2.out.on haw)
          replace HBB := Lib.hid (HBB.out.on haw)
          replace HAWX := Lib.hid (HAWX.out.on haw)
          clear haw
          have HOO := Lib.hid hown
          clear hown
          obtain ⟨oa, oc, hvo, ho1, ho2⟩ := HOO.out.slc
          subst hvo
          go_wp2_with fail
          refine (errors_c k oa c oc 0 _ hlt (by exact HOO.out.row' (by rw [HTN.out]; omega) HCB.out) ho2 ho1 (by exact HG.out.on HA.out)).mono ?_
          rw [HE1.out]
          rintro E w6 ⟨vm, rfl, hown, hnew2, haw⟩
          replace HA := Lib.hid (HA.out.on haw)
          replace HP := Lib.hid (HP.out.on haw)
          replace H2 := Lib.hid (H2.out.on haw)
          replace HBB := Lib.hid (HBB.out.on haw)
          replace HAWX := Lib.hid (HAWX.out.on haw)
          replace HOO := Lib.hid (HOO.out.on haw)
          clear haw
          have HVM := Lib.hid hown
          clear hown
          clear HOO
          obtain ⟨ma, mc, hvm, -, -⟩ := HVM.out.slc
          subst hvm
          go_wp2_with (refine wpList_newM rfl rfl rfl _ _ rfl zeroMg (.slice ma 0 mc) (fun _ => rfl) (fun _ => rfl) rfl ?_; refine Hid.out ?_)
          refine Lib.hid ?_
          intro g11 w7 hg_g11 hb haw
          replace HA := Lib.hid (HA.out.on haw)
          replace HP := Lib.hid (HP.out.on haw)
          replace H2 := Lib.hid (H2.out.on haw)
          replace HBB := Lib.hid (HBB.out.on haw)
          replace HAWX := Lib.hid (HAWX.out.on haw)
          replace HVM := Lib.hid (HVM.out.on haw)
          clear haw
          have H11 := Lib.hid hb
          have hl_g11 := hb.lt
          clear hb
          go_wp2_with fail
          refine (own_any (some ⟨gb, 0, none⟩) b _ cb _ rfl (by exact HBB.out.row' (by omega) HBY.out)).mono ?_
          rintro E wo ⟨vp, rfl, hown, hnew, haw, -, -⟩
          have HOP := Lib.hid hown
          clear hown
          go_wp2_with (at_builtin; refine wpList_appG rfl _ _ rfl _ b [0] rfl (by exact HOP.out.away ((Away.refl [] _).alloc _) (by simp)) ⟨wo.heap.size, 0, none⟩ 1 1 rfl rfl (lit_cells _ [0] _ rfl) (by omega) ?_; refine Hid.out ?_)
          refine Lib.hid ?_
          intro vf w8 hownf hgr hmov
          have haw2 : Away [] w7 w8 := (haw.alloc _).grown hgr (fun k hk => .inr (hnew k hk))
          clear hgr hmov hnew haw HOP
          have haw := haw2
          clear haw2
          replace HA := Lib.hid (HA.out.on haw)
          replace HP := Lib.hid (HP.out.on haw)
          replace H2 := Lib.hid (H2.out.on haw)
          replace HBB := Lib.hid (HBB.out.on haw)
          replace HAWX := Lib.hid (HAWX.out.on haw)
          replace HVM := Lib.hid (HVM.out.on haw)
          replace H11 := Lib.hid (H11.out.on haw)
          clear haw
          obtain ⟨d, hd⟩ : ∃ d, d = b ++ [0] := ⟨_, rfl⟩
          rw [← hd] at hownf
          have HDB : Hid (Bytes d) := by rw [hd]; exact HBY.out.app (Bytes.nil.cons (by omega) (by omega))
          have hdl2 : d.length ≤ 65576 := by rw [hd]; simp; omega
          rw [← hd] at HE2
          clear hd
          have HVF := Lib.hid hownf
          clear hownf
          obtain ⟨fa, fc, hvf, hf1, hf2⟩ := HVF.out.slc
          subst hvf
          go_wp2_with fail
          refine (errors_c k fa d fc 0 _ hlt (by exact HVF.out.row' (by omega) HDB.out) hf2 hf1 (by exact HG.out.on HA.out)).mono ?_
          rw [HE2.out]
          rintro E w9 ⟨vn, rfl, hown, hnew2, haw⟩
          replace HA := Lib.hid (HA.out.on haw)
          replace HP := Lib.hid (HP.out.on haw)
          replace H2 := Lib.hid (H2.out.on haw)
          replace HBB := Lib.hid (HBB.out.on haw)
          replace HAWX := Lib.hid (HAWX.out.on haw)
          replace HVM := Lib.hid (HVM.out.on haw)
          replace H11 := Lib.hid (H11.out.on haw)
          replace HVF := Lib.hid (HVF.out.on haw)
          clear haw
          have HVN := Lib.hid hown
          clear hown
          clear HVF
          obtain ⟨na, nc, hvn, -, -⟩ := HVN.out.slc
          subst hvn
          go_wp2_with (refine wpList_newM rfl rfl rfl _ _ rfl zeroMg (.slice na 0 nc) (fun _ => rfl) (fun _ => rfl) rfl ?_; refine Hid.out ?_)
          refine Lib.hid ?_
          intro g13 w10 hg_g13 hb haw
          replace HA := Lib.hid (HA.out.on haw)
          replace HP := Lib.hid (HP.out.on haw)
          replace H2 := Lib.hid (H2.out.on haw)
          replace HBB := Lib.hid (HBB.out.on haw)
          replace HAWX := Lib.hid (HAWX.out.on haw)
          replace HVM := Lib.hid (HVM.out.on haw)
          replace H11 := Lib.hid (H11.out.on haw)
          replace HVN := Lib.hid (HVN.out.on haw)
          clear haw
          have H13 := Lib.hid hb
          have hl_g13 := hb.lt
          clear hb
          go_wp2_with (first | (refine wpList_loadM rfl _ rfl g11 rfl zeroMg _ (by exact H11.out) ?_) | (refine wpList_loadM rfl _ rfl g13 rfl zeroMg _ (by exact H13.out) ?_))
          refine (sameM_yes zeroMg _ _ _ (by exact HVM.out.sl Bytes.nil (by decide)) (by exact Sl.nil _)).mono ?_
          rintro E w11 ⟨rfl, haw⟩
          replace HA := Lib.hid (HA.out.on haw)
          replace HP := Lib.hid (HP.out.on haw)
          replace H2 := Lib.hid (H2.out.on haw)
          replace HBB := Lib.hid (HBB.out.on haw)
          replace HAWX := Lib.hid (HAWX.out.on haw)
          replace HVM := Lib.hid (HVM.out.on haw)
          replace H11 := Lib.hid (H11.out.on haw)
          replace HVN := Lib.hid (HVN.out.on haw)
          replace H13 := Lib.hid (H13.out.on haw)
          clear haw
          go_wp2_with (first | (refine wpList_loadM rfl _ rfl g11 rfl zeroMg _ (by exact H11.out) ?_) | (refine wpList_loadM rfl _ rfl g13 rfl zeroMg _ (by exact H13.out) ?_))
          refine (sameM_yes zeroMg _ _ _ (by exact HVN.out.sl Bytes.nil (by decide)) (by exact Sl.nil _)).mono ?_
          rintro E w12 ⟨rfl, haw⟩
          replace HA := Lib.hid (HA.out.on haw)
          replace HP := Lib.hid (HP.out.on haw)
          replace H2 := Lib.hid (H2.out.on haw)
          replace HBB := Lib.hid (HBB.out.on haw)
          replace HAWX := Lib.hid (HAWX.out.on haw)
          replace HVM := Lib.hid (HVM.out.on haw)
          replace H11 := Lib.hid (H11.out.on haw)
          replace HVN := Lib.hid (HVN.out.on haw)
          replace H13 := Lib.hid (H13.out.on haw)
          clear haw
          go_wp2_with fail
          go_roundw
          case rel => exact ⟨k + 1, by omega, by go_num, HAWX.out⟩
          case measure => simp [intOf]; omega
        · have t1 : ¬ (k : Int) < 5 := by omega
          have t1d : decide ((k : Int) < 5) = false := decide_eq_false (by omega)
          have t1e : decide (k < 5) = false := decide_eq_false (by omega)
          have HRW := Lib.hid (HCR.out _ HBB.out)
          have HWQ : Hid (WfM ⟨p.v, 3, 0, 0, c⟩) := ⟨HWF.out.v, by simp [i64ok], by simp [i64ok], by show (0 : Int) ≤ 0; decide, by show (0 : Int) ≤ 4294967295; decide, HCB.out, by show c.length ≤ _; rw [HTN.out]; omega⟩
          have HAQ := Lib.hid (lookP_ad (g := ⟨p.v, 3, 0, 0, c⟩) HCB.out (by show c.length ≤ _; rw [HTN.out]; omega))
          have hlk := HLK.out n hnl
          rw [← HCD.out] at hlk
          have hvv := (H2.out.cells HAD.out).v
          have hdd := (H2.out.cells HAD.out).d
          obtain ⟨da, dc, hde⟩ : ∃ da dc, dv = .slice da p.d.length dc := by obtain ⟨x1, x2, x3, -⟩ := HP.out.d; exact ⟨x1, x2, x3⟩
          subst hde
          obtain ⟨hn, hhn⟩ : ∃ hn, hn = b.length - p.d.length := ⟨_, rfl⟩
          rw [← hhn] at hlk
          have hsub : (b.length : Int) - (p.d.length : Int) = (hn : Int) := by omega
          have hsw : IntKind.i64.wrap ((hn : Int)) = (hn : Int) := by rw [IntKind.wrap_i64]; omega
          clear hhn
          obtain ⟨Q, lo, er, hlq, hcase⟩ : ∃ Q lo er, lookP ⟨p.v, 3, 0, 0, c⟩ = (Q, lo, er) ∧ ((n < hn ∧ lo = 0 ∧ er = 20) ∨ (hn ≤ n ∧ lo = (b.length : Int) ∧ er = 0)) := by
            by_cases h : n < hn
            · exact ⟨_, _, _, hlk.1 h, .inl ⟨h, rfl, rfl⟩⟩
            · obtain ⟨q, hq⟩ := hlk.2 (by omega)
              exact ⟨_, _, _, hq, .inr ⟨by omega, rfl, rfl⟩⟩
          rw [hlq] at HAQ
          have HLQ := Lib.hid hlq
          have HCS := Lib.hid hcase
          clear hlq hcase hlk HLK HCD
          simp only at HAQ
          go_upto_region 19 with fail
          go_cut [15, 16, 17] (fun v lo2 er2 wc => lo2 = .int .i64 lo ∧ er2 = .int .i64 er ∧ Away [] wr wc)
          case first =>
            refine wp_region_held_drew (S := (fun w' => Away [] wr w')) (by kernel_rfl) ((Away.refl [] wr).drew) (fun hHeld => ?_)
            refine wpAnyH_take (i := 0) (v := ?_) (by simp only [List.getElem?_toArray, List.getElem?_cons_zero]; rfl) (by kernel_rfl) (by kernel_rfl) (by kernel_rfl) (by exact fun _ _ _ h => h) (Or.inl ⟨by rfl, ?_⟩) (by assumption) ?_
            rotate_left
            · intro wq hSw
              (try dsimp only at hSw)
              go_simp
              all_goals (with_reducible rfl)
            try simp only [Act.put, List.setIfInBounds_toArray, List.set_cons_zero, List.set_cons_succ]
            refine wpAnyH_take (i := 1) (by simp only [List.getElem?_toArray, List.getElem?_cons_succ, List.getElem?_cons_zero]; rfl) (by kernel_rfl) (by kernel_rfl) (by kernel_rfl) (by exact fun _ _ _ h => h) (yields_ld (ad := ⟨g2, 0, none⟩) (by rfl) _ rfl rfl (fun w' h => S6.ld3 (h.cell (by simp) hvv))) (by assumption) ?_
            try simp only [Act.put, List.setIfInBounds_toArray, List.set_cons_zero, List.set_cons_succ]
            refine wpAnyH_take (i := 2) (v := ?_) (by simp only [List.getElem?_toArray, List.getElem?_cons_succ, List.getElem?_cons_zero]; rfl) (by kernel_rfl) (by kernel_rfl) (by kernel_rfl) (by exact fun _ _ _ h => h) (Or.inl ⟨by rfl, ?_⟩) (by assumption) ?_
            rotate_left
            · intro wq hSw
              (try dsimp only at hSw)
              go_simp
              all_goals (with_reducible rfl)
            try simp only [Act.put, List.setIfInBounds_toArray, List.set_cons_zero, List.set_cons_succ]
            refine wpAnyH_take (i := 3) (v := ?_) (by simp only [List.getElem?_toArray, List.getElem?_cons_succ, List.getElem?_cons_zero]; rfl) (by kernel_rfl) (by kernel_rfl) (by kernel_rfl) (by exact fun _ _ _ h => h) (Or.inl ⟨by rfl, ?_⟩) (by assumption) ?_
            rotate_left
            · intro wq hSw
              (try dsimp only at hSw)
              go_simp
              all_goals (with_reducible rfl)
            try simp only [Act.put, List.setIfInBounds_toArray, List.set_cons_zero, List.set_cons_succ]
            refine wpAnyH_take (i := 4) (v := ?_) (by simp only [List.getElem?_toArray, List.getElem?_cons_succ, List.getElem?_cons_zero]; rfl) (by kernel_rfl) (by kernel_rfl) (by kernel_rfl) (by exact fun _ _ _ h => h) (Or.inl ⟨by rfl, ?_⟩) (by assumption) ?_
            rotate_left
            · intro wq hSw
              (try dsimp only at hSw)
              go_simp
              all_goals (with_reducible rfl)
            try simp only [Act.put, List.setIfInBounds_toArray, List.set_cons_zero, List.set_cons_succ]
            refine wpAnyH_ready (rs := [5, 12]) (by kernel_rfl) (by simp) ?_
            refine AllReadyH.cons (by simp only [List.getElem?_toArray, List.getElem?_cons_succ, List.getElem?_cons_zero]; rfl) (fun K hK => ?_) (AllReadyH.cons (by simp only [List.getElem?_toArray, List.getElem?_cons_succ, List.getElem?_cons_zero]; rfl) (fun K hK => ?_) AllReadyH.nil)
            · go_simp
              refine (own_any (some ⟨gb, 0, none⟩) c n cb _ HTN.out (by exact HRW.out.on hHeld)).mono ?_
              rintro E y1 ⟨vo, rfl, hown, hnwo, haw, -, -⟩
              have hS := hHeld.on haw
              clear haw
              obtain ⟨oa, oc, rfl, ho1, ho2⟩ := hown.slc
              go_wp2_with fail
              refine hK.out _ _ hS (fun hHeld => ?_)
              clear hK K
              try simp only [Act.put, List.setIfInBounds_toArray, List.set_cons_zero, List.set_cons_succ]
              refine wpAnyH_take (i := 6) (v := ?_) (by simp only [List.getElem?_toArray, List.getElem?_cons_succ, List.getElem?_cons_zero]; rfl) (by kernel_rfl) (by kernel_rfl) (by kernel_rfl) (by exact fun _ _ _ h => h) (Or.inl ⟨by rfl, ?_⟩) (by assumption) ?_
              rotate_left
              · intro wq hSw
                (try dsimp only at hSw)
                go_simp
                all_goals (with_reducible rfl)
              try simp only [Act.put, List.setIfInBounds_toArray, List.set_cons_zero, List.set_cons_succ]
              refine wpAnyH_ready (rs := [7, 12]) (by kernel_rfl) (by simp) ?_
              refine AllReadyH.cons (by simp only [List.getElem?_toArray, List.getElem?_cons_succ, List.getElem?_cons_zero]; rfl) (fun K hK => ?_) (AllReadyH.cons (by simp only [List.getElem?_toArray, List.getElem?_cons_succ, List.getElem?_cons_zero]; rfl) (fun K hK => ?_) AllReadyH.nil)
              · go_simp
                refine (look_c ⟨p.v, 3, 0, 0, c⟩ (.slice oa c.length oc) _ (by exact ⟨HWQ.out, ⟨_, _, rfl, ho2, ho1, hown.row' HWQ.out.dn HCB.out⟩⟩) (by exact HG.out.on (HA.out.on hHeld))).mono ?_
                rw [HLQ.out]
                rintro E y2 ⟨qo, qd, rfl, hqo, hqd, -, -, -, haw⟩
                have hS := hHeld.on haw
                replace hown := hown.on haw
                clear haw
                obtain ⟨q1, q2, q3, rfl⟩ := hqo.shp
                obtain ⟨r1, r2, r3, rfl⟩ := hqd.shp
                go_wp2_with fail
                refine hK.out _ _ hS (fun hHeld => ?_)
                clear hK K
                try simp only [Act.put, List.setIfInBounds_toArray, List.set_cons_zero, List.set_cons_succ]
                refine wpAnyH_take (i := 8) (v := ?_) (by simp only [List.getElem?_toArray, List.getElem?_cons_succ, List.getElem?_cons_zero]; rfl) (by kernel_rfl) (by kernel_rfl) (by kernel_rfl) (by exact fun _ _ _ h => h) (Or.inl ⟨by rfl, ?_⟩) (by assumption) ?_
                rotate_left
                · intro wq hSw
                  (try dsimp only at hSw)
                  go_simp
                  all_goals (with_reducible rfl)
                try simp only [Act.put, List.setIfInBounds_toArray, List.set_cons_zero, List.set_cons_succ]
                refine wpAnyH_take (i := 9) (v := ?_) (by simp only [List.getElem?_toArray, List.getElem?_cons_succ, List.getElem?_cons_zero]; rfl) (by kernel_rfl) (by kernel_rfl) (by kernel_rfl) (by exact fun _ _ _ h => h) (Or.inl ⟨by rfl, ?_⟩) (by assumption) ?_
                rotate_left
                · intro wq hSw
                  (try dsimp only at hSw)
                  go_simp
                  all_goals (with_reducible rfl)
                try simp only [Act.put, List.setIfInBounds_toArray, List.set_cons_zero, List.set_cons_succ]
                refine wpAnyH_take (i := 10) (v := ?_) (by simp only [List.getElem?_toArray, List.getElem?_cons_succ, List.getElem?_cons_zero]; rfl) (by kernel_rfl) (by kernel_rfl) (by kernel_rfl) (by exact fun _ _ _ h => h) (Or.inl ⟨by rfl, ?_⟩) (by assumption) ?_
                rotate_left
                · intro wq hSw
                  (try dsimp only at hSw)
                  go_simp
                  all_goals (with_reducible rfl)
                try simp only [Act.put, List.setIfInBounds_toArray, List.set_cons_zero, List.set_cons_succ]
                refine wpAnyH_take (i := 11) (v := ?_) (by simp only [List.getElem?_toArray, List.getElem?_cons_succ, List.getElem?_cons_zero]; rfl) (by kernel_rfl) (by kernel_rfl) (by kernel_rfl) (by exact fun _ _ _ h => h) (Or.inl ⟨by rfl, ?_⟩) (by assumption) ?_
                rotate_left
                · intro wq hSw
                  (try dsimp only at hSw)
                  go_simp
                  all_goals (with_reducible rfl)
                try simp only [Act.put, List.setIfInBounds_toArray, List.set_cons_zero, List.set_cons_succ]
                refine wpAnyH_ready (rs := [12]) (by kernel_rfl) (by simp) ?_
                refine AllReadyH.cons (by simp only [List.getElem?_toArray, List.getElem?_cons_succ, List.getElem?_cons_zero]; rfl) (fun K hK => ?_) AllReadyH.nil
                rw [if_pos (by rfl)]
                refine wp_alloc28 rfl ?_
                intro g15 y3 hg15 hbx haw
                have hS := hHeld.on haw
                have hza := hHeld.size
                have hl15 := hbx.lt
                replace hown := hown.on haw
                clear haw
                refine hK.out _ _ hS (fun hHeld => ?_)
                clear hK K
                try simp only [Act.put, List.setIfInBounds_toArray, List.set_cons_zero, List.set_cons_succ]
                refine wpAnyH_ready (rs := [13]) (by kernel_rfl) (by simp) ?_
                refine AllReadyH.cons (by simp only [List.getElem?_toArray, List.getElem?_cons_succ, List.getElem?_cons_zero]; rfl) (fun K hK => ?_) AllReadyH.nil
                rw [if_pos (by rfl)]
                refine wp_store28 (.tmp 15) (.tmp 95) rfl g15 rfl Q (.slice q1 q2 q3) (.slice r1 r2 r3) rfl zeroPk (.slice none 0 0) (.slice none 0 0) (by exact hbx) HAQ.out ⟨rfl, rfl⟩ rfl rfl ?_
                intro y4 haw
                have hS : Away [] wr y4 := hHeld.next haw (fun x hx => .inr (by simp at hx; omega))
                clear haw
                refine hK.out _ _ hS (fun hHeld => ?_)
                clear hK K
                try simp only [Act.put]
                refine wpAnyH_take (i := 14) (v := ?_) (by simp only [List.getElem?_toArray, List.getElem?_cons_succ, List.getElem?_cons_zero]; rfl) (by kernel_rfl) (by kernel_rfl) (by kernel_rfl) (by exact fun _ _ _ h => h) (Or.inl ⟨by rfl, ?_⟩) (by assumption) ?_
                rotate_left
                · intro wq hSw
                  (try dsimp only at hSw)
                  go_simp
                  all_goals (with_reducible rfl)
                try simp only [Act.put, List.setIfInBounds_toArray, List.set_cons_zero, List.set_cons_succ]
                refine wpAnyH_take (i := 15) (v := ?_) (by simp only [List.getElem?_toArray, List.getElem?_cons_succ, List.getElem?_cons_zero]; rfl) (by kernel_rfl) (by kernel_rfl) (by kernel_rfl) (by exact fun _ _ _ h => h) (Or.inl ⟨by rfl, ?_⟩) (by assumption) ?_
                rotate_left
                · intro wq hSw
                  (try dsimp only at hSw)
                  go_simp
                  all_goals (with_reducible rfl)
                try simp only [Act.put, List.setIfInBounds_toArray, List.set_cons_zero, List.set_cons_succ]
                refine wpAnyH_done (by kernel_rfl) ?_ _
                go_wp2_with fail
                go_meet
                exact ⟨rfl, rfl, hHeld⟩
              · rw [if_pos (by rfl)]
                refine wp_alloc28 rfl ?_
                intro g15 y2 hg15 hbx haw
                have hS := hHeld.on haw
                have hza := hHeld.size
                have hl15 := hbx.lt
                replace hown := hown.on haw
                clear haw
                refine hK.out _ _ hS (fun hHeld => ?_)
                clear hK K
                try simp only [Act.put, List.setIfInBounds_toArray, List.set_cons_zero, List.set_cons_succ]
                refine wpAnyH_ready (rs := [7]) (by kernel_rfl) (by simp) ?_
                refine AllReadyH.cons (by simp only [List.getElem?_toArray, List.getElem?_cons_succ, List.getElem?_cons_zero]; rfl) (fun K hK => ?_) AllReadyH.nil
                go_simp
                refine (look_c ⟨p.v, 3, 0, 0, c⟩ (.slice oa c.length oc) _ (by exact ⟨HWQ.out, ⟨_, _, rfl, ho2, ho1, hown.row' HWQ.out.dn HCB.out⟩⟩) (by exact HG.out.on (HA.out.on hHeld))).mono ?_
                rw [HLQ.out]
                rintro E y3 ⟨qo, qd, rfl, hqo, hqd, -, -, -, haw⟩
                have hS := hHeld.on haw
                replace hown := hown.on haw
                replace hbx := hbx.on haw
                clear haw
                obtain ⟨q1, q2, q3, rfl⟩ := hqo.shp
                obtain ⟨r1, r2, r3, rfl⟩ := hqd.shp
                go_wp2_with fail
                refine hK.out _ _ hS (fun hHeld => ?_)
                clear hK K
                try simp only [Act.put, List.setIfInBounds_toArray, List.set_cons_zero, List.set_cons_succ]
                refine wpAnyH_take (i := 8) (v := ?_) (by simp only [List.getElem?_toArray, List.getElem?_cons_succ, List.getElem?_cons_zero]; rfl) (by kernel_rfl) (by kernel_rfl) (by kernel_rfl) (by exact fun _ _ _ h => h) (Or.inl ⟨by rfl, ?_⟩) (by assumption) ?_
                rotate_left
                · intro wq hSw
                  (try dsimp only at hSw)
                  go_simp
                  all_goals (with_reducible rfl)
                try simp only [Act.put, List.setIfInBounds_toArray, List.set_cons_zero, List.set_cons_succ]
                refine wpAnyH_take (i := 9) (v := ?_) (by simp only [List.getElem?_toArray, List.getElem?_cons_succ, List.getElem?_cons_zero]; rfl) (by kernel_rfl) (by kernel_rfl) (by kernel_rfl) (by exact fun _ _ _ h => h) (Or.inl ⟨by rfl, ?_⟩) (by assumption) ?_
                rotate_left
                · intro wq hSw
                  (try dsimp only at hSw)
                  go_simp
                  all_goals (with_reducible rfl)
                try simp only [Act.put, List.setIfInBounds_toArray, List.set_cons_zero, List.set_cons_succ]
                refine wpAnyH_take (i := 10) (v := ?_) (by simp only [List.getElem?_toArray, List.getElem?_cons_succ, List.getElem?_cons_zero]; rfl) (by kernel_rfl) (by kernel_rfl) (by kernel_rfl) (by exact fun _ _ _ h => h) (Or.inl ⟨by rfl, ?_⟩) (by assumption) ?_
                rotate_left
                · intro wq hSw
                  (try dsimp only at hSw)
                  go_simp
                  all_goals (with_reducible rfl)
                try simp only [Act.put, List.setIfInBounds_toArray, List.set_cons_zero, List.set_cons_succ]
                refine wpAnyH_take (i := 11) (v := ?_) (by simp only [List.getElem?_toArray, List.getElem?_cons_succ, List.getElem?_cons_zero]; rfl) (by kernel_rfl) (by kernel_rfl) (by kernel_rfl) (by exact fun _ _ _ h => h) (Or.inl ⟨by rfl, ?_⟩) (by assumption) ?_
                rotate_left
                · intro wq hSw
                  (try dsimp only at hSw)
                  go_simp
                  all_goals (with_reducible rfl)
                try simp only [Act.put, List.setIfInBounds_toArray, List.set_cons_zero, List.set_cons_succ]
                refine wpAnyH_ready (rs := [13]) (by kernel_rfl) (by simp) ?_
                refine AllReadyH.cons (by simp only [List.getElem?_toArray, List.getElem?_cons_succ, List.getElem?_cons_zero]; rfl) (fun K hK => ?_) AllReadyH.nil
                rw [if_pos (by rfl)]
                refine wp_store28 (.tmp 15) (.tmp 95) rfl g15 rfl Q (.slice q1 q2 q3) (.slice r1 r2 r3) rfl zeroPk (.slice none 0 0) (.slice none 0 0) (by exact hbx) HAQ.out ⟨rfl, rfl⟩ rfl rfl ?_
                intro y4 haw
                have hS : Away [] wr y4 := hHeld.next haw (fun x hx => .inr (by simp at hx; omega))
                clear haw
                refine hK.out _ _ hS (fun hHeld => ?_)
                clear hK K
                try simp only [Act.put]
                refine wpAnyH_take (i := 14) (v := ?_) (by simp only [List.getElem?_toArray, List.getElem?_cons_succ, List.getElem?_cons_zero]; rfl) (by kernel_rfl) (by kernel_rfl) (by kernel_rfl) (by exact fun _ _ _ h => h) (Or.inl ⟨by rfl, ?_⟩) (by assumption) ?_
                rotate_left
                · intro wq hSw
                  (try dsimp only at hSw)
                  go_simp
                  all_goals (with_reducible rfl)
                try simp only [Act.put, List.setIfInBounds_toArray, List.set_cons_zero, List.set_cons_succ]
                refine wpAnyH_take (i := 15) (v := ?_) (by simp only [List.getElem?_toArray, List.getElem?_cons_succ, List.getElem?_cons_zero]; rfl) (by kernel_rfl) (by kernel_rfl) (by kernel_rfl) (by exact fun _ _ _ h => h) (Or.inl ⟨by rfl, ?_⟩) (by assumption) ?_
                rotate_left
                · intro wq hSw
                  (try dsimp only at hSw)
                  go_simp
                  all_goals (with_reducible rfl)
                try simp only [Act.put, List.setIfInBounds_toArray, List.set_cons_zero, List.set_cons_succ]
                refine wpAnyH_done (by kernel_rfl) ?_ _
                go_wp2_with fail
                go_meet
                exact ⟨rfl, rfl, hHeld⟩
            · rw [if_pos (by rfl)]
              refine wp_alloc28 rfl ?_
              intro g15 y1 hg15 hbx haw
              have hS := hHeld.on haw
              have hza := hHeld.size
              have hl15 := hbx.lt
              clear haw
              refine hK.out _ _ hS (fun hHeld => ?_)
              clear hK K
              try simp only [Act.put, List.setIfInBounds_toArray, List.set_cons_zero, List.set_cons_succ]
              refine wpAnyH_ready (rs := [5]) (by kernel_rfl) (by simp) ?_
              refine AllReadyH.cons (by simp only [List.getElem?_toArray, List.getElem?_cons_succ, List.getElem?_cons_zero]; rfl) (fun K hK => ?_) AllReadyH.nil
              go_simp
              refine (own_any (some ⟨gb, 0, none⟩) c n cb _ HTN.out (by exact HRW.out.on hHeld)).mono ?_
              rintro E y2 ⟨vo, rfl, hown, hnwo, haw, -, -⟩
              have hS := hHeld.on haw
              replace hbx := hbx.on haw
              clear haw
              obtain ⟨oa, oc, rfl, ho1, ho2⟩ := hown.slc
              go_wp2_with fail
              refine hK.out _ _ hS (fun hHeld => ?_)
              clear hK K
              try simp only [Act.put, List.setIfInBounds_toArray, List.set_cons_zero, List.set_cons_succ]
              refine wpAnyH_take (i := 6) (v := ?_) (by simp only [List.getElem?_toArray, List.getElem?_cons_succ, List.getElem?_cons_zero]; rfl) (by kernel_rfl) (by kernel_rfl) (by kernel_rfl) (by exact fun _ _ _ h => h) (Or.inl ⟨by rfl, ?_⟩) (by assumption) ?_
              rotate_left
              · intro wq hSw
                (try dsimp only at hSw)
                go_simp
                all_goals (with_reducible rfl)
              try simp only [Act.put, List.setIfInBounds_toArray, List.set_cons_zero, List.set_cons_succ]
              refine wpAnyH_ready (rs := [7]) (by kernel_rfl) (by simp) ?_
              refine AllReadyH.cons (by simp only [List.getElem?_toArray, List.getElem?_cons_succ, List.getElem?_cons_zero]; rfl) (fun K hK => ?_) AllReadyH.nil
              go_simp
              refine (look_c ⟨p.v, 3, 0, 0, c⟩ (.slice oa c.length oc) _ (by exact ⟨HWQ.out, ⟨_, _, rfl, ho2, ho1, hown.row' HWQ.out.dn HCB.out⟩⟩) (by exact HG.out.on (HA.out.on hHeld))).mono ?_
              rw [HLQ.out]
              rintro E y3 ⟨qo, qd, rfl, hqo, hqd, -, -, -, haw⟩
              have hS := hHeld.on haw
              replace hbx := hbx.on haw
              replace hown := hown.on haw
              clear haw
              obtain ⟨q1, q2, q3, rfl⟩ := hqo.shp
              obtain ⟨r1, r2, r3, rfl⟩ := hqd.shp
              go_wp2_with fail
              refine hK.out _ _ hS (fun hHeld => ?_)
              clear hK K
              try simp only [Act.put, List.setIfInBounds_toArray, List.set_cons_zero, List.set_cons_succ]
              refine wpAnyH_take (i := 8) (v := ?_) (by simp only [List.getElem?_toArray, List.getElem?_cons_succ, List.getElem?_cons_zero]; rfl) (by kernel_rfl) (by kernel_rfl) (by kernel_rfl) (by exact fun _ _ _ h => h) (Or.inl ⟨by rfl, ?_⟩) (by assumption) ?_
              rotate_left
              · intro wq hSw
                (try dsimp only at hSw)
                go_simp
                all_goals (with_reducible rfl)
              try simp only [Act.put, List.setIfInBounds_toArray, List.set_cons_zero, List.set_cons_succ]
              refine wpAnyH_take (i := 9) (v := ?_) (by simp only [List.getElem?_toArray, List.getElem?_cons_succ, List.getElem?_cons_zero]; rfl) (by kernel_rfl) (by kernel_rfl) (by kernel_rfl) (by exact fun _ _ _ h => h) (Or.inl ⟨by rfl, ?_⟩) (by assumption) ?_
              rotate_left
              · intro wq hSw
                (try dsimp only at hSw)
                go_simp
                all_goals (with_reducible rfl)
              try simp only [Act.put, List.setIfInBounds_toArray, List.set_cons_zero, List.set_cons_succ]
              refine wpAnyH_take (i := 10) (v := ?_) (by simp only [List.getElem?_toArray, List.getElem?_cons_succ, List.getElem?_cons_zero]; rfl) (by kernel_rfl) (by kernel_rfl) (by kernel_rfl) (by exact fun _ _ _ h => h) (Or.inl ⟨by rfl, ?_⟩) (by assumption) ?_
              rotate_left
              · intro wq hSw
                (try dsimp only at hSw)
                go_simp
                all_goals (with_reducible rfl)
              try simp only [Act.put, List.setIfInBounds_toArray, List.set_cons_zero, List.set_cons_succ]
              refine wpAnyH_take (i := 11) (v := ?_) (by simp only [List.getElem?_toArray, List.getElem?_cons_succ, List.getElem?_cons_zero]; rfl) (by kernel_rfl) (by kernel_rfl) (by kernel_rfl) (by exact fun _ _ _ h => h) (Or.inl ⟨by rfl, ?_⟩) (by assumption) ?_
              rotate_left
              · intro wq hSw
                (try dsimp only at hSw)
                go_simp
                all_goals (with_reducible rfl)
              try simp only [Act.put, List.setIfInBounds_toArray, List.set_cons_zero, List.set_cons_succ]
              refine wpAnyH_ready (rs := [13]) (by kernel_rfl) (by simp) ?_
              refine AllReadyH.cons (by simp only [List.getElem?_toArray, List.getElem?_cons_succ, List.getElem?_cons_zero]; rfl) (fun K hK => ?_) AllReadyH.nil
              rw [if_pos (by rfl)]
              refine wp_store28 (.tmp 15) (.tmp 95) rfl g15 rfl Q (.slice q1 q2 q3) (.slice r1 r2 r3) rfl zeroPk (.slice none 0 0) (.slice none 0 0) (by exact hbx) HAQ.out ⟨rfl, rfl⟩ rfl rfl ?_
              intro y4 haw
              have hS : Away [] wr y4 := hHeld.next haw (fun x hx => .inr (by simp at hx; omega))
              clear haw
              refine hK.out _ _ hS (fun hHeld => ?_)
              clear hK K
              try simp only [Act.put]
              refine wpAnyH_take (i := 14) (v := ?_) (by simp only [List.getElem?_toArray, List.getElem?_cons_succ, List.getElem?_cons_zero]; rfl) (by kernel_rfl) (by kernel_rfl) (by kernel_rfl) (by exact fun _ _ _ h => h) (Or.inl ⟨by rfl, ?_⟩) (by assumption) ?_
              rotate_left
              · intro wq hSw
                (try dsimp only at hSw)
                go_simp
                all_goals (with_reducible rfl)
              try simp only [Act.put, List.setIfInBounds_toArray, List.set_cons_zero, List.set_cons_succ]
              refine wpAnyH_take (i := 15) (v := ?_) (by simp only [List.getElem?_toArray, List.getElem?_cons_succ, List.getElem?_cons_zero]; rfl) (by kernel_rfl) (by kernel_rfl) (by kernel_rfl) (by exact fun _ _ _ h => h) (Or.inl ⟨by rfl, ?_⟩) (by assumption) ?_
              rotate_left
              · intro wq hSw
                (try dsimp only at hSw)
                go_simp
                all_goals (with_reducible rfl)
              try simp only [Act.put, List.setIfInBounds_toArray, List.set_cons_zero, List.set_cons_succ]
              refine wpAnyH_done (by kernel_rfl) ?_ _
              go_wp2_with fail
              go_meet
              exact ⟨rfl, rfl, hHeld⟩
          case rest =>
          obtain ⟨rfl, rfl, haw⟩ := hcut
          generalize wc = w5 at *
          clear hvv
          replace hdd := haw.cell (by simp) hdd
          replace HA := Lib.hid (HA.out.on haw)
          replace HP := Lib.hid (HP.out.on haw)
          replace H2 := Lib.hid (H2.out.on haw)
          replace HBB := Lib.hid (HBB.out.on haw)
          replace HAWX := Lib.hid (HAWX.out.on haw)
          replace HRW := Lib.hid (HRW.out.on haw)
          clear haw
          rcases HCS.out with ⟨h1, h2, h3⟩ | ⟨h1, h2, h3⟩
          · subst h2
            subst h3
            have d1 : decide ((n : Int) < (hn : Int)) = true := decide_eq_true (by omega)
            have d2 : decide (n < hn) = true := decide_eq_true (by omega)
            go_wp2_with fail
            go_ret
            exact ⟨rfl, HA.out.to_below⟩
          · subst h2
            subst h3
            have d1 : decide ((n : Int) < (hn : Int)) = false := decide_eq_false (by omega)
            have d2 : decide (n < hn) = false := decide_eq_false (by omega)
            go_wp2_with fail
            go_ret
            exact ⟨rfl, HA.out.to_below⟩
  · have hr4f : rightP p = false := by simpa using hr4
    have HBE : Hid (build4 p = ([], 1)) := build_no hr4f
    refine (build_c p o1 d1 _ (by exact HM1.out.pkt HWF.out) (by exact HG.out.on HA.out)).mono ?_
    rintro E w4 ⟨vb, hE, hown, hnew, haw⟩
    rw [HBE.out] at hE hown
    subst hE
    have hs_vb := haw.size
    replace HA := Lib.hid (HA.out.on haw)
    replace HP := Lib.hid (HP.out.on haw)
    replace H2 := Lib.hid (H2.out.on haw)
    replace HM1 := Lib.hid (HM1.out.on haw)
    clear haw
    have HB := Lib.hid hown
    have hn_vb := Lib.hid hnew
    clear hown hnew
    clear HM1
    go_wp2_with (first | (refine wpList_load28 rfl _ rfl g2 rfl p _ _ (by exact H2.out) HAD.out ?_))
    refine (ownP_c p ov dv _ (by exact HP.out)).mono ?_
    rintro E w5 ⟨o2, d2, rfl, hmine, haw⟩
    replace HA := Lib.hid (HA.out.on haw)
    replace HP := Lib.hid (HP.out.on haw)
    replace H2 := Lib.hid (H2.out.on haw)
    replace HB := Lib.hid (HB.out.on haw)
    clear haw
    have HM2 := Lib.hid hmine
    clear hmine
    go_wp2_with fail
    by_cases hr6 : S6.rightP p = true
    · have HB6 : Hid (S6.build6 p = (S6.lay6 p, 0)) := S6.build_ok hr6
      refine (S6.build_c p o2 d2 _ (by exact ⟨HWF.out, HM2.out.o.sl HWF.out.o HWF.out.ol, HM2.out.d.sl HWF.out.d HWF.out.dn⟩)).mono ?_
      rintro E w6 ⟨vc, hE, hown, hnew, haw⟩
      rw [HB6.out] at hE hown
      subst hE
      have hs_vc := haw.size
      replace HA := Lib.hid (HA.out.on haw)
      replace HP := Lib.hid (HP.out.on haw)
      replace H2 := Lib.hid (H2.out.on haw)
      replace HB := Lib.hid (HB.out.on haw)
      replace HM2 := Lib.hid (HM2.out.on haw)
      clear haw
      have HC := Lib.hid hown
      have hn_vc := Lib.hid hnew
      clear hown hnew
      have HPL := Lib.hid (S6.parse_lay6 HWF.out hr6)
      obtain ⟨b, hb⟩ : ∃ b, b = S6.lay6 p := ⟨_, rfl⟩
      have HBB : Hid (Owns w6 vc b) := by rw [hb]; exact HC.out
      have HLK : Hid (∀ n, n < b.length → (n < b.length - p.d.length → lookP ⟨p.v, 3, 0, 0, b.take n⟩ = (zeroPk, 0, 20)) ∧ (b.length - p.d.length ≤ n → ∃ q, lookP ⟨p.v, 3, 0, 0, b.take n⟩ = (q, (b.length : Int), 0))) := by rw [hb]; exact fun n hn => look_b6 HWF.out hr6 hn
      have HPB : Hid ((parse4 b).2 = 0 ∨ (S6.parse6 b).2 = 0) := .inr (by rw [hb, HPL.out])
      have hbd := S6.lay6_bd HWF.out ((S6.right_iff p).1 hr6)
      have hll := S6.lay6_len HWF.out
      rw [← hb] at hbd hll
      have HBY := Lib.hid hbd.1
      have hb1 : 20 ≤ b.length := by omega
      have hb2 : b.length ≤ 65575 := by omega
      have hpd : p.d.length ≤ b.length := by omega
      clear HC
      clear hb HPL HBE hll HB6 hbd hr6 hr4f hr4
      have hnb := hn_vc
      obtain ⟨gb, cb, rfl, hcb⟩ := HBB.out.block (fun e => by rw [e] at hb1; simp at hb1)
      clear HB
      clear HM2
      obtain ⟨t, ht⟩ : ∃ t, t = cut.tmod (b.length : Int) := ⟨_, rfl⟩
      have ht1 : t < (b.length : Int) := by rw [ht]; exact Int.tmod_lt_of_pos cut (by omega)
      have ht2 : -(b.length : Int) < t := by
        rw [ht]
        have := Int.tmod_lt_of_pos (-cut) (show (0 : Int) < (b.length : Int) by omega)
        rw [Int.neg_tmod] at this
        omega
      have hz : ((b.length : Int) == 0) = false := beq_eq_false_iff_ne.2 (by omega)
      have hz' : ¬ (b.length : Int) = 0 := by omega
      go_upto_region 10 with fail
      rw [← ht]
      clear ht hz hz'
      by_cases h0 : t < 0
      · obtain ⟨n, rfl⟩ : ∃ n : Nat, t = -(n : Int) := ⟨(-t).toNat, by omega⟩
        have hng : -(-(n : Int)) = (n : Int) := by omega
        have hneg : decide (-(n : Int) < 0) = true := decide_eq_true h0
        have hps : (0 : Int) < (n : Int) := by omega
        have hps2 : 0 < n := by omega
        have hpd : decide (0 < n) = true := decide_eq_true hps2
        have hpe : decide ((0 : Int) < (n : Int)) = true := decide_eq_true hps
        have hwn : IntKind.i64.wrap (n : Int) = (n : Int) := by rw [IntKind.wrap_i64]; omega
        have hnl : n < b.length := by omega
        clear ht1 ht2 h0
        obtain ⟨c, hc⟩ : ∃ c, c = b.take n := ⟨_, rfl⟩
        have HTN : Hid (c.length = n) := by rw [hc]; show _ = _; simp; omega
        have HCB : Hid (Bytes c) := by rw [hc]; exact HBY.out.take n
        have HCR : Hid (∀ W, Owns W (.slice (some ⟨gb, 0, none⟩) b.length cb) b → Row W (some ⟨gb, 0, none⟩) c) := fun W h => by rw [hc]; exact (h.row' (by omega) HBY.out).head n
        have HCN : Hid ((parse4 c).2 ≠ 0 ∧ (S6.parse6 c).2 ≠ 0) := by rw [hc]; exact none_cut HPB.out hnl
        have HCD := Lib.hid hc
        clear hc
        have s1 := slice_h (some ⟨gb, 0, none⟩) b.length cb n (n : Int) rfl (by omega)
        go_wp2_with fail
        go_loopw [10] (fun i wr => ∃ k : Nat, k ≤ 5 ∧ i = .int .i64 (k : Int) ∧ Away [] w6 wr) (fun i _ => 5 - (intOf i).toNat)
        case atStart => exact ⟨0, by omega, rfl, Away.refl _ _⟩
        case round =>
          obtain ⟨k, hk, rfl, haw0⟩ := hrel
          have haw := haw0
          have HAWX := Lib.hid haw0
          clear haw0
          replace HA := Lib.hid (HA.out.on haw)
          replace HP := Lib.hid (HP.out.on haw)
          replace H2 := Lib.hid (H2.out.on haw)
          replace HBB := Lib.hid (HBB.out.on haw)
          clear haw
          by_cases hlt : k < 5
          · have t1 : (k : Int) < 5 := by omega
            have HE1 := Lib.hid (errs_none (k := k) HCN.out.1 HCN.out.2)
            have HE2 := Lib.hid (errs_none (k := k) (none_more HPB.out).1 (none_more HPB.out).2)
            go_wp2_with fail
            refine (own_any (some ⟨gb, 0, none⟩) c n cb _ HTN.out (by exact HCR.out _ HBB.out)).mono ?_
            rintro E w7 ⟨vo, rfl, hown, hnew, haw, -, -⟩
            replace HA := Lib.hid (HA.out.on haw)
            replace HP := Lib.hid (HP.out.on haw)
            replace H2 := Lib.hid (H2.out.on haw)
            replace HBB := Lib.hid (HBB.out.on haw)
            replace HAWX := Lib.hid (HAWX.out.on haw)
            clear haw
            have HOO := Lib.hid hown
            clear hown
            obtain ⟨oa, oc, hvo, ho1, ho2⟩ := HOO.out.slc
            subst hvo
            go_wp2_with fail
            refine (errors_c k oa c oc 0 _ hlt (by exact HOO.out.row' (by rw [HTN.out]; omega) HCB.out) ho2 ho1 (by exact HG.out.on HA.out)).mono ?_
            rw [HE1.out]
            rintro E w8 ⟨vm, rfl, hown, hnew2, haw⟩
            replace HA := Lib.hid (HA.out.on haw)
            replace HP := Lib.hid (HP.out.on haw)
            replace H2 := Lib.hid (H2.out.on haw)
            replace HBB := Lib.hid (HBB.out.on haw)
            replace HAWX := Lib.hid (HAWX.out.on haw)
            replace HOO := Lib.hid (HOO.out.on haw)
            clear haw
            have HVM := Lib.hid hown
            clear hown
            clear HOO
            obtain ⟨ma, mc, hvm, -, -⟩ := HVM.out.slc
            subst hvm
            go_wp2_with (refine wpList_newM rfl rfl rfl _ _ rfl zeroMg (.slice ma 0 mc) (fun _ => rfl) (fun _ => rfl) rfl ?_; refine Hid.out ?_)
            refine Lib.hid ?_
            intro g11 w9 hg_g11 hb haw
            replace HA := Lib.hid (HA.out.on haw)
            replace HP := Lib.hid (HP.out.on haw)
            replace H2 := Lib.hid (H2.out.on haw)
            replace HBB := Lib.hid (HBB.out.on haw)
            replace HAWX := Lib.hid (HAWX.out.on haw)
            replace HVM := Lib.hid (HVM.out.on haw)
            clear haw
            have H11 := Lib.hid hb
            have hl_g11 := hb.lt
            clear hb
            go_wp2_with fail
            refine (own_any (some ⟨gb, 0, none⟩) b _ cb _ rfl (by exact HBB.out.row' (by omega) HBY.out)).mono ?_
            rintro E wo ⟨vp, rfl, hown, hnew, haw, -, -⟩
            have HOP := Lib.hid hown
            clear hown
            go_wp2_with (at_builtin; refine wpList_appG rfl _ _ rfl _ b [0] rfl (by exact HOP.out.away ((Away.refl [] _).alloc _) (by simp)) ⟨wo.heap.size, 0, none⟩ 1 1 rfl rfl (lit_cells _ [0] _ rfl) (by omega) ?_; refine Hid.out ?_)
            refine Lib.hid ?_
            intro vf w10 hownf hgr hmov
            have haw2 : Away [] w9 w10 := (haw.alloc _).grown hgr (fun k hk => .inr (hnew k hk))
            clear hgr hmov hnew haw HOP
            have haw := haw2
            clear haw2
            replace HA := Lib.hid (HA.out.on haw)
            replace HP := Lib.hid (HP.out.on haw)
            replace H2 := Lib.hid (H2.out.on haw)
            replace HBB := Lib.hid (HBB.out.on haw)
            replace HAWX := Lib.hid (HAWX.out.on haw)
            replace HVM := Lib.hid (HVM.out.on haw)
            replace H11 := Lib.hid (H11.out.on haw)
            clear haw
            obtain ⟨d, hd⟩ : ∃ d, d = b ++ [0] := ⟨_, rfl⟩
            rw [← hd] at hownf
            have HDB : Hid (Bytes d) := by rw [hd]; exact HBY.out.app (Bytes.nil.cons (by omega) (by omega))
            have hdl2 : d.length ≤ 65576 := by rw [hd]; simp; omega
            rw [← hd] at HE2
            clear hd
            have HVF := Lib.hid hownf
            clear hownf
            obtain ⟨fa, fc, hvf, hf1, hf2⟩ := HVF.out.slc
            subst hvf
            go_wp2_with fail
            refine (errors_c k fa d fc 0 _ hlt (by exact HVF.out.row' (by omega) HDB.out) hf2 hf1 (by exact HG.out.on HA.out)).mono ?_
            rw [HE2.out]
            rintro E w11 ⟨vn, rfl, hown, hnew2, haw⟩
            replace HA := Lib.hid (HA.out.on haw)
            replace HP := Lib.hid (HP.out.on haw)
            replace H2 := Lib.hid (H2.out.on haw)
            replace HBB := Lib.hid (HBB.out.on haw)
            replace HAWX := Lib.hid (HAWX.out.on haw)
            replace HVM := Lib.hid (HVM.out.on haw)
            replace H11 := Lib.hid (H11.out.on haw)
            replace HVF := Lib.hid (HVF.out.on haw)
            clear haw
            have HVN := Lib.hid hown
            clear hown
            clear HVF
            obtain ⟨na, nc, hvn, -, -⟩ := HVN.out.slc
            subst hvn
            go_wp2_with (refine wpList_newM rfl rfl rfl _ _ rfl zeroMg (.slice na 0 nc) (fun _ => rfl) (fun _ => rfl) rfl ?_; refine Hid.out ?_)
            refine Lib.hid ?_
            intro g13 w12 hg_g13 hb haw
            replace HA := Lib.hid (HA.out.on haw)
            replace HP := Lib.hid (HP.out.on haw)
            replace H2 := Lib.hid (H2.out.on haw)
            replace HBB := Lib.hid (HBB.out.on haw)
            replace HAWX := Lib.hid (HAWX.out.on haw)
            replace HVM := Lib.hid (HVM.out.on haw)
            replace H11 := Lib.hid (H11.out.on haw)
            replace HVN := Lib.hid (HVN.out.on haw)
            clear haw
            have H13 := Lib.hid hb
            have hl_g13 := hb.lt
            clear hb
            go_wp2_with (first | (refine wpList_loadM rfl _ rfl g11 rfl zeroMg _ (by exact H11.out) ?_) | (refine wpList_loadM rfl _ rfl g13 rfl zeroMg _ (by exact H13.out) ?_))
            refine (sameM_yes zeroMg _ _ _ (by exact HVM.out.sl Bytes.nil (by decide)) (by exact Sl.nil _)).mono ?_
            rintro E w13 ⟨rfl, haw⟩
            replace HA := Lib.hid (HA.out.on haw)
            replace HP := Lib.hid (HP.out.on haw)
            replace H2 := Lib.hid (H2.out.on haw)
            replace HBB := Lib.hid (HBB.out.on haw)
            replace HAWX := Lib.hid (HAWX.out.on haw)
            replace HVM := Lib.hid (HVM.out.on haw)
            replace H11 := Lib.hid (H11.out.on haw)
            replace HVN := Lib.hid (HVN.out.on haw)
            replace H13 := Lib.hid (H13.out.on haw)
            clear haw
            go_wp2_with (first | (refine wpList_loadM rfl _ rfl g11 rfl zeroMg _ (by exact H11.out) ?_) | (refine wpList_loadM rfl _ rfl g13 rfl zeroMg _ (by exact H13.out) ?_))
            refine (sameM_yes zeroMg _ _ _ (by exact HVN.out.sl Bytes.nil (by decide)) (by exact Sl.nil _)).mono ?_
            rintro E w14 ⟨rfl, haw⟩
            replace HA := Lib.hid (HA.out.on haw)
            replace HP := Lib.hid (HP.out.on haw)
            replace H2 := Lib.hid (H2.out.on haw)
            replace HBB := Lib.hid (HBB.out.on haw)
            replace HAWX := Lib.hid (HAWX.out.on haw)
            replace HVM := Lib.hid (HVM.out.on haw)
            replace H11 := Lib.hid (H11.out.on haw)
            replace HVN := Lib.hid (HVN.out.on haw)
            replace H13 := Lib.hid (H13.out.on haw)
            clear haw
            go_wp2_with fail
            go_roundw
            case rel => exact ⟨k + 1, by omega, by go_num, HAWX.out⟩
            case measure => simp [intOf]; omega
          · have t1 : ¬ (k : Int) < 5 := by omega
            have t1d : decide ((k : Int) < 5) = false := decide_eq_false (by omega)
            have t1e : decide (k < 5) = false := decide_eq_false (by omega)
            have HRW := Lib.hid (HCR.out _ HBB.out)
            have HWQ : Hid (WfM ⟨p.v, 3, 0, 0, c⟩) := ⟨HWF.out.v, by simp [i64ok], by simp [i64ok], by show (0 : Int) ≤ 0; decide, by show (0 : Int) ≤ 4294967295; decide, HCB.out, by show c.length ≤ _; rw [HTN.out]; omega⟩
            have HAQ := Lib.hid (lookP_ad (g := ⟨p.v, 3, 0, 0, c⟩) HCB.out (by show c.length ≤ _; rw [HTN.out]; omega))
            have hlk := HLK.out n hnl
            rw [← HCD.out] at hlk
            have hvv := (H2.out.cells HAD.out).v
            have hdd := (H2.out.cells HAD.out).d
            obtain ⟨da, dc, hde⟩ : ∃ da dc, dv = .slice da p.d.length dc := by obtain ⟨x1, x2, x3, -⟩ := HP.out.d; exact ⟨x1, x2, x3⟩
            subst hde
            obtain ⟨hn, hhn⟩ : ∃ hn, hn = b.length - p.d.length := ⟨_, rfl⟩
            rw [← hhn] at hlk
            have hsub : (b.length : Int) - (p.d.length : Int) = (hn : Int) := by omega
            have hsw : IntKind.i64.wrap ((hn : Int)) = (hn : Int) := by rw [IntKind.wrap_i64]; omega
            clear hhn
            obtain ⟨Q, lo, er, hlq, hcase⟩ : ∃ Q lo er, lookP ⟨p.v, 3, 0, 0, c⟩ = (Q, lo, er) ∧ ((n < hn ∧ lo = 0 ∧ er = 20) ∨ (hn ≤ n ∧ lo = (b.length : Int) ∧ er = 0)) := by
              by_cases h : n < hn
              · exact ⟨_, _, _, hlk.1 h, .inl ⟨h, rfl, rfl⟩⟩
              · obtain ⟨q, hq⟩ := hlk.2 (by omega)
                exact ⟨_, _, _, hq, .inr ⟨by omega, rfl, rfl⟩⟩
            rw [hlq] at HAQ
            have HLQ := Lib.hid hlq
            have HCS := Lib.hid hcase
            clear hlq hcase hlk HLK HCD
            simp only at HAQ
            go_upto_region 19 with fail
            go_cut [15, 16, 17] (fun v lo2 er2 wc => lo2 = .int .i64 lo ∧ er2 = .int .i64 er ∧ Away [] wr wc)
            case first =>
              refine wp_region_held_drew (S := (fun w' => Away [] wr w')) (by kernel_rfl) ((Away.refl [] wr).drew) (fun hHeld => ?_)
              refine wpAnyH_take (i := 0) (v := ?_) (by simp only [List.getElem?_toArray, List.getElem?_cons_zero]; rfl) (by kernel_rfl) (by kernel_rfl) (by kernel_rfl) (by exact fun _ _ _ h => h) (Or.inl ⟨by rfl, ?_⟩) (by assumption) ?_
              rotate_left
              · intro wq hSw
                (try dsimp only at hSw)
                go_simp
                all_goals (with_reducible rfl)
              try simp only [Act.put, List.setIfInBounds_toArray, List.set_cons_zero, List.set_cons_succ]
              refine wpAnyH_take (i := 1) (by simp only [List.getElem?_toArray, List.getElem?_cons_succ, List.getElem?_cons_zero]; rfl) (by kernel_rfl) (by kernel_rfl) (by kernel_rfl) (by exact fun _ _ _ h => h) (yields_ld (ad := ⟨g2, 0, none⟩) (by rfl) _ rfl rfl (fun w' h => S6.ld3 (h.cell (by simp) hvv))) (by assumption) ?_
              try simp only [Act.put, List.setIfInBounds_toArray, List.set_cons_zero, List.set_cons_succ]
              refine wpAnyH_take (i := 2) (v := ?_) (by simp only [List.getElem?_toArray, List.getElem?_cons_succ, List.getElem?_cons_zero]; rfl) (by kernel_rfl) (by kernel_rfl) (by kernel_rfl) (by exact fun _ _ _ h => h) (Or.inl ⟨by rfl, ?_⟩) (by assumption) ?_
              rotate_left
              · intro wq hSw
                (try dsimp only at hSw)
                go_simp
                all_goals (with_reducible rfl)
              try simp only [Act.put, List.setIfInBounds_toArray, List.set_cons_zero, List.set_cons_succ]
              refine wpAnyH_take (i := 3) (v := ?_) (by simp only [List.getElem?_toArray, List.getElem?_cons_succ, List.getElem?_cons_zero]; rfl) (by kernel_rfl) (by kernel_rfl) (by kernel_rfl) (by exact fun _ _ _ h => h) (Or.inl ⟨by rfl, ?_⟩) (by assumption) ?_
              rotate_left
              · intro wq hSw
                (try dsimp only at hSw)
                go_simp
                all_goals (with_reducible rfl)
              try simp only [Act.put, List.setIfInBounds_toArray, List.set_cons_zero, List.set_cons_succ]
              refine wpAnyH_take (i := 4) (v := ?_) (by simp only [List.getElem?_toArray, List.getElem?_cons_succ, List.getElem?_cons_zero]; rfl) (by kernel_rfl) (by kernel_rfl) (by kernel_rfl) (by exact fun _ _ _ h => h) (Or.inl ⟨by rfl, ?_⟩) (by assumption) ?_
              rotate_left
              · intro wq hSw
                (try dsimp only at hSw)
                go_simp
                all_goals (with_reducible rfl)
              try simp only [Act.put, List.setIfInBounds_toArray, List.set_cons_zero, List.set_cons_succ]
              refine wpAnyH_ready (rs := [5, 12]) (by kernel_rfl) (by simp) ?_
              refine AllReadyH.cons (by simp only [List.getElem?_toArray, List.getElem?_cons_succ, List.getElem?_cons_zero]; rfl) (fun K hK => ?_) (AllReadyH.cons (by simp only [List.getElem?_toArray, List.getElem?_cons_succ, List.getElem?_cons_zero]; rfl) (fun K hK => ?_) AllReadyH.nil)
              · go_simp
                refine (own_any (some ⟨gb, 0, none⟩) c n cb _ HTN.out (by exact HRW.out.on hHeld)).mono ?_
                rintro E y1 ⟨vo, rfl, hown, hnwo, haw, -, -⟩
                have hS := hHeld.on haw
                clear haw
                obtain ⟨oa, oc, rfl, ho1, ho2⟩ := hown.slc
                go_wp2_with fail
                refine hK.out _ _ hS (fun hHeld => ?_)
                clear hK K
                try simp only [Act.put, List.setIfInBounds_toArray, List.set_cons_zero, List.set_cons_succ]
                refine wpAnyH_take (i := 6) (v := ?_) (by simp only [List.getElem?_toArray, List.getElem?_cons_succ, List.getElem?_cons_zero]; rfl) (by kernel_rfl) (by kernel_rfl) (by kernel_rfl) (by exact fun _ _ _ h => h) (Or.inl ⟨by rfl, ?_⟩) (by assumption) ?_
                rotate_left
                · intro wq hSw
                  (try dsimp only at hSw)
                  go_simp
                  all_goals (with_reducible rfl)
                try simp only [Act.put, List.setIfInBounds_toArray, List.set_cons_zero, List.set_cons_succ]
                refine wpAnyH_ready (rs := [7, 12]) (by kernel_rfl) (by simp) ?_
                refine AllReadyH.cons (by simp only [List.getElem?_toArray, List.getElem?_cons_succ, List.getElem?_cons_zero]; rfl) (fun K hK => ?_) (AllReadyH.cons (by simp only [List.getElem?_toArray, List.getElem?_cons_succ, List.getElem?_cons_zero]; rfl) (fun K hK => ?_) AllReadyH.nil)
                · go_simp
                  refine (look_c ⟨p.v, 3, 0, 0, c⟩ (.slice oa c.length oc) _ (by exact ⟨HWQ.out, ⟨_, _, rfl, ho2, ho1, hown.row' HWQ.out.dn HCB.out⟩⟩) (by exact HG.out.on (HA.out.on hHeld))).mono ?_
                  rw [HLQ.out]
                  rintro E y2 ⟨qo, qd, rfl, hqo, hqd, -, -, -, haw⟩
                  have hS := hHeld.on haw
                  replace hown := hown.on haw
                  clear haw
                  obtain ⟨q1, q2, q3, rfl⟩ := hqo.shp
                  obtain ⟨r1, r2, r3, rfl⟩ := hqd.shp
                  go_wp2_with fail
                  refine hK.out _ _ hS (fun hHeld => ?_)
                  clear hK K
                  try simp only [Act.put, List.setIfInBounds_toArray, List.set_cons_zero, List.set_cons_succ]
                  refine wpAnyH_take (i := 8) (v := ?_) (by simp only [List.getElem?_toArray, List.getElem?_cons_succ, List.getElem?_cons_zero]; rfl) (by kernel_rfl) (by kernel_rfl) (by kernel_rfl) (by exact fun _ _ _ h => h) (Or.inl ⟨by rfl, ?_⟩) (by assumption) ?_
                  rotate_left
                  · intro wq hSw
                    (try dsimp only at hSw)
                    go_simp
                    all_goals (with_reducible rfl)
                  try simp only [Act.put, List.setIfInBounds_toArray, List.set_cons_zero, List.set_cons_succ]
                  refine wpAnyH_take (i := 9) (v := ?_) (by simp only [List.getElem?_toArray, List.getElem?_cons_succ, List.getElem?_cons_zero]; rfl) (by kernel_rfl) (by kernel_rfl) (by kernel_rfl) (by exact fun _ _ _ h => h) (Or.inl ⟨by rfl, ?_⟩) (by assumption) ?_
                  rotate_left
                  · intro wq hSw
                    (try dsimp only at hSw)
                    go_simp
                    all_goals (with_reducible rfl)
                  try simp only [Act.put, List.setIfInBounds_toArray, List.set_cons_zero, List.set_cons_succ]
                  refine wpAnyH_take (i := 10) (v := ?_) (by simp only [List.getElem?_toArray, List.getElem?_cons_succ, List.getElem?_cons_zero]; rfl) (by kernel_rfl) (by kernel_rfl) (by kernel_rfl) (by exact fun _ _ _ h => h) (Or.inl ⟨by rfl, ?_⟩) (by assumption) ?_
                  rotate_left
                  · intro wq hSw
                    (try dsimp only at hSw)
                    go_simp
                    all_goals (with_reducible rfl)
                  try simp only [Act.put, List.setIfInBounds_toArray, List.set_cons_zero, List.set_cons_succ]
                  refine wpAnyH_take (i := 11) (v := ?_) (by simp only [List.getElem?_toArray, List.getElem?_cons_succ, List.getElem?_cons_zero]; rfl) (by kernel_rfl) (by kernel_rfl) (by kernel_rfl) (by exact fun _ _ _ h => h) (Or.inl ⟨by rfl, ?_⟩) (by assumption) ?_
                  rotate_left
                  · intro wq hSw
                    (try dsimp only at hSw)
                    go_simp
                    all_goals (with_reducible rfl)
                  try simp only [Act.put, List.setIfInBounds_toArray, List.set_cons_zero, List.set_cons_succ]
                  refine wpAnyH_ready (rs := [12]) (by kernel_rfl) (by simp) ?_
                  refine AllReadyH.cons (by simp only [List.getElem?_toArray, List.getElem?_cons_succ, List.getElem?_cons_zero]; rfl) (fun K hK => ?_) AllReadyH.nil
                  rw [if_pos (by rfl)]
                  refine wp_alloc28 rfl ?_
                  intro g15 y3 hg15 hbx haw
                  have hS := hHeld.on haw
                  have hza := hHeld.size
                  have hl15 := hbx.lt
                  replace hown := hown.on haw
                  clear haw
                  refine hK.out _ _ hS (fun hHeld => ?_)
                  clear hK K
                  try simp only [Act.put, List.setIfInBounds_toArray, List.set_cons_zero, List.set_cons_succ]
                  refine wpAnyH_ready (rs := [13]) (by kernel_rfl) (by simp) ?_
                  refine AllReadyH.cons (by simp only [List.getElem?_toArray, List.getElem?_cons_succ, List.getElem?_cons_zero]; rfl) (fun K hK => ?_) AllReadyH.nil
                  rw [if_pos (by rfl)]
                  refine wp_store28 (.tmp 15) (.tmp 95) rfl g15 rfl Q (.slice q1 q2 q3) (.slice r1 r2 r3) rfl zeroPk (.slice none 0 0) (.slice none 0 0) (by exact hbx) HAQ.out ⟨rfl, rfl⟩ rfl rfl ?_
                  intro y4 haw
                  have hS : Away [] wr y4 := hHeld.next haw (fun x hx => .inr (by simp at hx; omega))
                  clear haw
                  refine hK.out _ _ hS (fun hHeld => ?_)
                  clear hK K
                  try simp only [Act.put]
                  refine wpAnyH_take (i := 14) (v := ?_) (by simp only [List.getElem?_toArray, List.getElem?_cons_succ, List.getElem?_cons_zero]; rfl) (by kernel_rfl) (by kernel_rfl) (by kernel_rfl) (by exact fun _ _ _ h => h) (Or.inl ⟨by rfl, ?_⟩) (by assumption) ?_
                  rotate_left
                  · intro wq hSw
                    (try dsimp only at hSw)
                    go_simp
                    all_goals (with_reducible rfl)
                  try simp only [Act.put, List.setIfInBounds_toArray, List.set_cons_zero, List.set_cons_succ]
                  refine wpAnyH_take (i := 15) (v := ?_) (by simp only [List.getElem?_toArray, List.getElem?_cons_succ, List.getElem?_cons_zero]; rfl) (by kernel_rfl) (by kernel_rfl) (by kernel_rfl) (by exact fun _ _ _ h => h) (Or.inl ⟨by rfl, ?_⟩) (by assumption) ?_
                  rotate_left
                  · intro wq hSw
                    (try dsimp only at hSw)
                    go_simp
                    all_goals (with_reducible rfl)
                  try simp only [Act.put, List.setIfInBounds_toArray, List.set_cons_zero, List.set_cons_succ]
                  refine wpAnyH_done (by kernel_rfl) ?_ _
                  go_wp2_with fail
                  go_meet
                  exact ⟨rfl, rfl, hHeld⟩
                · rw [if_pos (by rfl)]
                  refine wp_alloc28 rfl ?_
                  intro g15 y2 hg15 hbx haw
                  have hS := hHeld.on haw
                  have hza := hHeld.size
                  have hl15 := hbx.lt
                  replace hown := hown.on haw
                  clear haw
                  refine hK.out _ _ hS (fun hHeld => ?_)
                  clear hK K
                  try simp only [Act.put, List.setIfInBounds_toArray, List.set_cons_zero, List.set_cons_succ]
                  refine wpAnyH_ready (rs := [7]) (by kernel_rfl) (by simp) ?_
                  refine AllReadyH.cons (by simp only [List.getElem?_toArray, List.getElem?_cons_succ, List.getElem?_cons_zero]; rfl) (fun K hK => ?_) AllReadyH.nil
                  go_simp
                  refine (look_c ⟨p.v, 3, 0, 0, c⟩ (.slice oa c.length oc) _ (by exact ⟨HWQ.out, ⟨_, _, rfl, ho2, ho1, hown.row' HWQ.out.dn HCB.out⟩⟩) (by exact HG.out.on (HA.out.on hHeld))).mono ?_
                  rw [HLQ.out]
                  rintro E y3 ⟨qo, qd, rfl, hqo, hqd, -, -, -, haw⟩
                  have hS := hHeld.on haw
                  replace hown := hown.on haw
                  replace hbx := hbx.on haw
                  clear haw
                  obtain ⟨q1, q2, q3, rfl⟩ := hqo.shp
                  obtain ⟨r1, r2, r3, rfl⟩ := hqd.shp
                  go_wp2_with fail
                  refine hK.out _ _ hS (fun hHeld => ?_)
                  clear hK K
                  try simp only [Act.put, List.setIfInBounds_toArray, List.set_cons_zero, List.set_cons_succ]
                  refine wpAnyH_take (i := 8) (v := ?_) (by simp only [List.getElem?_toArray, List.getElem?_cons_succ, List.getElem?_cons_zero]; rfl) (by kernel_rfl) (by kernel_rfl) (by kernel_rfl) (by exact fun _ _ _ h => h) (Or.inl ⟨by rfl, ?_⟩) (by assumption) ?_
                  rotate_left
                  · intro wq hSw
                    (try dsimp only at hSw)
                    go_simp
                    all_goals (with_reducible rfl)
                  try simp only [Act.put, List.setIfInBounds_toArray, List.set_cons_zero, List.set_cons_succ]
                  refine wpAnyH_take (i := 9) (v := ?_) (by simp only [List.getElem?_toArray, List.getElem?_cons_succ, List.getElem?_cons_zero]; rfl) (by kernel_rfl) (by kernel_rfl) (by kernel_rfl) (by exact fun _ _ _ h => h) (Or.inl ⟨by rfl, ?_⟩) (by assumption) ?_
                  rotate_left
                  · intro wq hSw
                    (try dsimp only at hSw)
                    go_simp
                    all_goals (with_reducible rfl)
                  try simp only [Act.put, List.setIfInBounds_toArray, List.set_cons_zero, List.set_cons_succ]
                  refine wpAnyH_take (i := 10) (v := ?_) (by simp only [List.getElem?_toArray, List.getElem?_cons_succ, List.getElem?_cons_zero]; rfl) (by kernel_rfl) (by kernel_rfl) (by kernel_rfl) (by exact fun _ _ _ h => h) (Or.inl ⟨by rfl, ?_⟩) (by assumption) ?_
                  rotate_left
                  · intro wq hSw
                    (try dsimp only at hSw)
                    go_simp
                    all_goals (with_reducible rfl)
                  try simp only [Act.put, List.setIfInBounds_toArray, List.set_cons_zero, List.set_cons_succ]
                  refine wpAnyH_take (i := 11) (v := ?_) (by simp only [List.getElem?_toArray, List.getElem?_cons_succ, List.getElem?_cons_zero]; rfl) (by kernel_rfl) (by kernel_rfl) (by kernel_rfl) (by exact fun _ _ _ h => h) (Or.inl ⟨by rfl, ?_⟩) (by assumption) ?_
                  rotate_left
                  · intro wq hSw
                    (try dsimp only at hSw)
                    go_simp
                    all_goals (with_reducible rfl)
                  try simp only [Act.put, List.setIfInBounds_toArray, List.set_cons_zero, List.set_cons_succ]
                  refine wpAnyH_ready (rs := [13]) (by kernel_rfl) (by simp) ?_
                  refine AllReadyH.cons (by simp only [List.getElem?_toArray, List.getElem?_cons_succ, List.getElem?_cons_zero]; rfl) (fun K hK => ?_) AllReadyH.nil
                  rw [if_pos (by rfl)]
                  refine wp_store28 (.tmp 15) (.tmp 95) rfl g15 rfl Q (.slice q1 q2 q3) (.slice r1 r2 r3) rfl zeroPk (.slice none 0 0) (.slice none 0 0) (by exact hbx) HAQ.out ⟨rfl, rfl⟩ rfl rfl ?_
                  intro y4 haw
                  have hS : Away [] wr y4 := hHeld.next haw (fun x hx => .inr (by simp at hx; omega))
                  clear haw
                  refine hK.out _ _ hS (fun hHeld => ?_)
                  clear hK K
                  try simp only [Act.put]
                  refine wpAnyH_take (i := 14) (v := ?_) (by simp only [List.getElem?_toArray, List.getElem?_cons_succ, List.getElem?_cons_zero]; rfl) (by kernel_rfl) (by kernel_rfl) (by kernel_rfl) (by exact fun _ _ _ h => h) (Or.inl ⟨by rfl, ?_⟩) (by assumption) ?_
                  rotate_left
                  · intro wq hSw
                    (try dsimp only at hSw)
                    go_simp
                    all_goals (with_reducible rfl)
                  try simp only [Act.put, List.setIfInBounds_toArray, List.set_cons_zero, List.set_cons_succ]
                  refine wpAnyH_take (i := 15) (v := ?_) (by simp only [List.getElem?_toArray, List.getElem?_cons_succ, List.getElem?_cons_zero]; rfl) (by kernel_rfl) (by kernel_rfl) (by kernel_rfl) (by exact fun _ _ _ h => h) (Or.inl ⟨by rfl, ?_⟩) (by assumption) ?_
                  rotate_left
                  · intro wq hSw
                    (try dsimp only at hSw)
                    go_simp
                    all_goals (with_reducible rfl)
                  try simp only [Act.put, List.setIfInBounds_toArray, List.set_cons_zero, List.set_cons_succ]
                  refine wpAnyH_done (by kernel_rfl) ?_ _
                  go_wp2_with fail
                  go_meet
                  exact ⟨rfl, rfl, hHeld⟩
              · rw [if_pos (by rfl)]
                refine wp_alloc28 rfl ?_
                intro g15 y1 hg15 hbx haw
                have hS := hHeld.on haw
                have hza := hHeld.size
                have hl15 := hbx.lt
                clear haw
                refine hK.out _ _ hS (fun hHeld => ?_)
                clear hK K
                try simp only [Act.put, List.setIfInBounds_toArray, List.set_cons_zero, List.set_cons_succ]
                refine wpAnyH_ready (rs := [5]) (by kernel_rfl) (by simp) ?_
                refine AllReadyH.cons (by simp only [List.getElem?_toArray, List.getElem?_cons_succ, List.getElem?_cons_zero]; rfl) (fun K hK => ?_) AllReadyH.nil
                go_simp
                refine (own_any (some ⟨gb, 0, none⟩) c n cb _ HTN.out (by exact HRW.out.on hHeld)).mono ?_
                rintro E y2 ⟨vo, rfl, hown, hnwo, haw, -, -⟩
                have hS := hHeld.on haw
                replace hbx := hbx.on haw
                clear haw
                obtain ⟨oa, oc, rfl, ho1, ho2⟩ := hown.slc
                go_wp2_with fail
                refine hK.out _ _ hS (fun hHeld => ?_)
                clear hK K
                try simp only [Act.put, List.setIfInBounds_toArray, List.set_cons_zero, List.set_cons_succ]
                refine wpAnyH_take (i := 6) (v := ?_) (by simp only [List.getElem?_toArray, List.getElem?_cons_succ, List.getElem?_cons_zero]; rfl) (by kernel_rfl) (by kernel_rfl) (by kernel_rfl) (by exact fun _ _ _ h => h) (Or.inl ⟨by rfl, ?_⟩) (by assumption) ?_
                rotate_left
                · intro wq hSw
                  (try dsimp only at hSw)
                  go_simp
                  all_goals (with_reducible rfl)
                try simp only [Act.put, List.setIfInBounds_toArray, List.set_cons_zero, List.set_cons_succ]
                refine wpAnyH_ready (rs := [7]) (by kernel_rfl) (by simp) ?_
                refine AllReadyH.cons (by simp only [List.getElem?_toArray, List.getElem?_cons_succ, List.getElem?_cons_zero]; rfl) (fun K hK => ?_) AllReadyH.nil
                go_simp
                refine (look_c ⟨p.v, 3, 0, 0, c⟩ (.slice oa c.length oc) _ (by exact ⟨HWQ.out, ⟨_, _, rfl, ho2, ho1, hown.row' HWQ.out.dn HCB.out⟩⟩) (by exact HG.out.on (HA.out.on hHeld))).mono ?_
                rw [HLQ.out]
                rintro E y3 ⟨qo, qd, rfl, hqo, hqd, -, -, -, haw⟩
                have hS := hHeld.on haw
                replace hbx := hbx.on haw
                replace hown := hown.on haw
                clear haw
                obtain ⟨q1, q2, q3, rfl⟩ := hqo.shp
                obtain ⟨r1, r2, r3, rfl⟩ := hqd.shp
                go_wp2_with fail
                refine hK.out _ _ hS (fun hHeld => ?_)
                clear hK K
                try simp only [Act.put, List.setIfInBounds_toArray, List.set_cons_zero, List.set_cons_succ]
                refine wpAnyH_take (i := 8) (v := ?_) (by simp only [List.getElem?_toArray, List.getElem?_cons_succ, List.getElem?_cons_zero]; rfl) (by kernel_rfl) (by kernel_rfl) (by kernel_rfl) (by exact fun _ _ _ h => h) (Or.inl ⟨by rfl, ?_⟩) (by assumption) ?_
                rotate_left
                · intro wq hSw
                  (try dsimp only at hSw)
                  go_simp
                  all_goals (with_reducible rfl)
                try simp only [Act.put, List.setIfInBounds_toArray, List.set_cons_zero, List.set_cons_succ]
                refine wpAnyH_take (i := 9) (v := ?_) (by simp only [List.getElem?_toArray, List.getElem?_cons_succ, List.getElem?_cons_zero]; rfl) (by kernel_rfl) (by kernel_rfl) (by kernel_rfl) (by exact fun _ _ _ h => h) (Or.inl ⟨by rfl, ?_⟩) (by assumption) ?_
                rotate_left
                · intro wq hSw
                  (try dsimp only at hSw)
                  go_simp
                  all_goals (with_reducible rfl)
                try simp only [Act.put, List.setIfInBounds_toArray, List.set_cons_zero, List.set_cons_succ]
                refine wpAnyH_take (i := 10) (v := ?_) (by simp only [List.getElem?_toArray, List.getElem?_cons_succ, List.getElem?_cons_zero]; rfl) (by kernel_rfl) (by kernel_rfl) (by kernel_rfl) (by exact fun _ _ _ h => h) (Or.inl ⟨by rfl, ?_⟩) (by assumption) ?_
                rotate_left
                · intro wq hSw
                  (try dsimp only at hSw)
                  go_simp
                  all_goals (with_reducible rfl)
                try simp only [Act.put, List.setIfInBounds_toArray, List.set_cons_zero, List.set_cons_succ]
                refine wpAnyH_take (i := 11) (v := ?_) (by simp only [List.getElem?_toArray, List.getElem?_cons_succ, List.getElem?_cons_zero]; rfl) (by kernel_rfl) (by kernel_rfl) (by kernel_rfl) (by exact fun _ _ _ h => h) (Or.inl ⟨by rfl, ?_⟩) (by assumption) ?_
                rotate_left
                · intro wq hSw
                  (try dsimp only at hSw)
                  go_simp
                  all_goals (with_reducible rfl)
                try simp only [Act.put, List.setIfInBounds_toArray, List.set_cons_zero, List.set_cons_succ]
                refine wpAnyH_ready (rs := [13]) (by kernel_rfl) (by simp) ?_
                refine AllReadyH.cons (by simp only [List.getElem?_toArray, List.getElem?_cons_succ, List.getElem?_cons_zero]; rfl) (fun K hK => ?_) AllReadyH.nil
                rw [if_pos (by rfl)]
                refine wp_store28 (.tmp 15) (.tmp 95) rfl g15 rfl Q (.slice q1 q2 q3) (.slice r1 r2 r3) rfl zeroPk (.slice none 0 0) (.slice none 0 0) (by exact hbx) HAQ.out ⟨rfl, rfl⟩ rfl rfl ?_
                intro y4 haw
                have hS : Away [] wr y4 := hHeld.next haw (fun x hx => .inr (by simp at hx; omega))
                clear haw
                refine hK.out _ _ hS (fun hHeld => ?_)
                clear hK K
                try simp only [Act.put]
                refine wpAnyH_take (i := 14) (v := ?_) (by simp only [List.getElem?_toArray, List.getElem?_cons_succ, List.getElem?_cons_zero]; rfl) (by kernel_rfl) (by kernel_rfl) (by kernel_rfl) (by exact fun _ _ _ h => h) (Or.inl ⟨by rfl, ?_⟩) (by assumption) ?_
                rotate_left
                · intro wq hSw
                  (try dsimp only at hSw)
                  go_simp
                  all_goals (with_reducible rfl)
                try simp only [Act.put, List.setIfInBounds_toArray, List.set_cons_zero, List.set_cons_succ]
                refine wpAnyH_take (i := 15) (v := ?_) (by simp only [List.getElem?_toArray, List.getElem?_cons_succ, List.getElem?_cons_zero]; rfl) (by kernel_rfl) (by kernel_rfl) (by kernel_rfl) (by exact fun _ _ _ h => h) (Or.inl ⟨by rfl, ?_⟩) (by assumption) ?_
                rotate_left
                · intro wq hSw
                  (try dsimp only at hSw)
                  go_simp
                  all_goals (with_reducible rfl)
                try simp only [Act.put, List.setIfInBounds_toArray, List.set_cons_zero, List.set_cons_succ]
                refine wpAnyH_done (by kernel_rfl) ?_ _
                go_wp2_with fail
                go_meet
                exact ⟨rfl, rfl, hHeld⟩
            case rest =>
            obtain ⟨rfl, rfl, haw⟩ := hcut
            generalize wc = w7 at *
            clear hvv
            replace hdd := haw.cell (by simp) hdd
            replace HA := Lib.hid (HA.out.on haw)
            replace HP := Lib.hid (HP.out.on haw)
            replace H2 := Lib.hid (H2.out.on haw)
            replace HBB := Lib.hid (HBB.out.on haw)
            replace HAWX := Lib.hid (HAWX.out.on haw)
            replace HRW := Lib.hid (HRW.out.on haw)
            clear haw
            rcases HCS.out with ⟨h1, h2, h3⟩ | ⟨h1, h2, h3⟩
            · subst h2
              subst h3
              have d1 : decide ((n : Int) < (hn : Int)) = true := decide_eq_true (by omega)
              have d2 : decide (n < hn) = true := decide_eq_true (by omega)
              go_wp2_with fail
              go_ret
              exact ⟨rfl, HA.out.to_below⟩
            · subst h2
              subst h3
              have d1 : decide ((n : Int) < (hn : Int)) = false := decide_eq_false (by omega)
              have d2 : decide (n < hn) = false := decide_eq_false (by omega)
              go_wp2_with fail
              go_ret
              exact ⟨rfl, HA.out.to_below⟩
      · obtain ⟨n, rfl⟩ : ∃ n : Nat, t = (n : Int) := ⟨t.toNat, by omega⟩
        have hnl : n < b.length := by omega
        clear ht1 ht2 h0
        obtain ⟨c, hc⟩ : ∃ c, c = b.take n := ⟨_, rfl⟩
        have HTN : Hid (c.length = n) := by rw [hc]; show _ = _; simp; omega
        have HCB : Hid (Bytes c) := by rw [hc]; exact HBY.out.take n
        have HCR : Hid (∀ W, Owns W (.slice (some ⟨gb, 0, none⟩) b.length cb) b → Row W (some ⟨gb, 0, none⟩) c) := fun W h => by rw [hc]; exact (h.row' (by omega) HBY.out).head n
        have HCN : Hid ((parse4 c).2 ≠ 0 ∧ (S6.parse6 c).2 ≠ 0) := by rw [hc]; exact none_cut HPB.out hnl
        have HCD := Lib.hid hc
        clear hc
        have s1 := slice_h (some ⟨gb, 0, none⟩) b.length cb n (n : Int) rfl (by omega)
        go_wp2_with fail
        go_loopw [10] (fun i wr => ∃ k : Nat, k ≤ 5 ∧ i = .int .i64 (k : Int) ∧ Away [] w6 wr) (fun i _ => 5 - (intOf i).toNat)
        case atStart => exact ⟨0, by omega, rfl, Away.refl _ _⟩
        case round =>
          obtain ⟨k, hk, rfl, haw0⟩ := hrel
          have haw := haw0
          have HAWX := Lib.hid haw0
          clear haw0
          replace HA := Lib.hid (HA.out.on haw)
          replace HP := Lib.hid (HP.out.on haw)
          replace H2 := Lib.hid (H2.out.on haw)
          replace HBB := Lib.hid (HBB.out.on haw)
          clear haw
          by_cases hlt : k < 5
          · have t1 : (k : Int) < 5 := by omega
            have HE1 := Lib.hid (errs_none (k := k) HCN.out.1 HCN.out.2)
            have HE2 := Lib.hid (errs_none (k := k) (none_more HPB.out).1 (none_more HPB.out).2)
            go_wp2_with fail
            refine (own_any (some ⟨gb, 0, none⟩) c n cb _ HTN.out (by exact HCR.out _ HBB.out)).mono ?_
            rintro E w7 ⟨vo, rfl, hown, hnew, haw, -, -⟩
            replace HA := Lib.hid (HA.out.on haw)
            replace HP := Lib.hid (HP.out.on haw)
            replace H2 := Lib.hid (H2.out.on haw)
            replace HBB := Lib.hid (HBB.out.on haw)
            replace HAWX := Lib.hid (HAWX.out.on haw)
            clear haw
            have HOO := Lib.hid hown
            clear hown
            obtain ⟨oa, oc, hvo, ho1, ho2⟩ := HOO.out.slc
            subst hvo
            go_wp2_with fail
            refine (errors_c k oa c oc 0 _ hlt (by exact HOO.out.row' (by rw [HTN.out]; omega) HCB.out) ho2 ho1 (by exact HG.out.on HA.out)).mono ?_
            rw [HE1.out]
            rintro E w8 ⟨vm, rfl, hown, hnew2, haw⟩
            replace HA := Lib.hid (HA.out.on haw)
            replace HP := Lib.hid (HP.out.on haw)
            replace H2 := Lib.hid (H2.out.on haw)
            replace HBB := Lib.hid (HBB.out.on haw)
            replace HAWX := Lib.hid (HAWX.out.on haw)
            replace HOO := Lib.hid (HOO.out.on haw)
            clear haw
            have HVM := Lib.hid hown
            clear hown
            clear HOO
            obtain ⟨ma, mc, hvm, -, -⟩ := HVM.out.slc
            subst hvm
            go_wp2_with (refine wpList_newM rfl rfl rfl _ _ rfl zeroMg (.slice ma 0 mc) (fun _ => rfl) (fun _ => rfl) rfl ?_; refine Hid.out ?_)
            refine Lib.hid ?_
            intro g11 w9 hg_g11 hb haw
            replace HA := Lib.hid (HA.out.on haw)
            replace HP := Lib.hid (HP.out.on haw)
            replace H2 := Lib.hid (H2.out.on haw)
            replace HBB := Lib.hid (HBB.out.on haw)
            replace HAWX := Lib.hid (HAWX.out.on haw)
            replace HVM := Lib.hid (HVM.out.on haw)
            clear haw
            have H11 := Lib.hid hb
            have hl_g11 := hb.lt
            clear hb
            go_wp2_with fail
            refine (own_any (some ⟨gb, 0, none⟩) b _ cb _ rfl (by exact HBB.out.row' (by omega) HBY.out)).mono ?_
            rintro E wo ⟨vp, rfl, hown, hnew, haw, -, -⟩
            have HOP := Lib.hid hown
            clear hown
            go_wp2_with (at_builtin; refine wpList_appG rfl _ _ rfl _ b [0] rfl (by exact HOP.out.away ((Away.refl [] _).alloc _) (by simp)) ⟨wo.heap.size, 0, none⟩ 1 1 rfl rfl (lit_cells _ [0] _ rfl) (by omega) ?_; refine Hid.out ?_)
            refine Lib.hid ?_
            intro vf w10 hownf hgr hmov
            have haw2 : Away [] w9 w10 := (haw.alloc _).grown hgr (fun k hk => .inr (hnew k hk))
            clear hgr hmov hnew haw HOP
            have haw := haw2
            clear haw2
            replace HA := Lib.hid (HA.out.on haw)
            replace HP := Lib.hid (HP.out.on haw)
            replace H2 := Lib.hid (H2.out.on haw)
            replace HBB := Lib.hid (HBB.out.on haw)
            replace HAWX := Lib.hid (HAWX.out.on haw)
            replace HVM := Lib.hid (HVM.out.on haw)
            replace H11 := Lib.hid (H11.out.on haw)
            clear haw
            obtain ⟨d, hd⟩ : ∃ d, d = b ++ [0] := ⟨_, rfl⟩
            rw [← hd] at hownf
            have HDB : Hid (Bytes d) := by rw [hd]; exact HBY.out.app (Bytes.nil.cons (by omega) (by omega))
            have hdl2 : d.length ≤ 65576 := by rw [hd]; simp; omega
            rw [← hd] at HE2
            clear hd
            have HVF := Lib.hid hownf
            clear hownf
            obtain ⟨fa, fc, hvf, hf1, hf2⟩ := HVF.out.slc
            subst hvf
            go_wp2_with fail
            refine (errors_c k fa d fc 0 _ hlt (by exact HVF.out.row' (by omega) HDB.out) hf2 hf1 (by exact HG.out.on HA.out)).mono ?_
            rw [HE2.out]
            rintro E w11 ⟨vn, rfl, hown, hnew2, haw⟩
            replace HA := Lib.hid (HA.out.on haw)
            replace HP := Lib.hid (HP.out.on haw)
            replace H2 := Lib.hid (H2.out.on haw)
            replace HBB := Lib.hid (HBB.out.on haw)
            replace HAWX := Lib.hid (HAWX.out.on haw)
            replace HVM := Lib.hid (HVM.out.on haw)
            replace H11 := Lib.hid (H11.out.on haw)
            replace HVF := Lib.hid (HVF.out.on haw)
            clear haw
            have HVN := Lib.hid hown
            clear hown
            clear HVF
            obtain ⟨na, nc, hvn, -, -⟩ := HVN.out.slc
            subst hvn
            go_wp2_with (refine wpList_newM rfl rfl rfl _ _ rfl zeroMg (.slice na 0 nc) (fun _ => rfl) (fun _ => rfl) rfl ?_; refine Hid.out ?_)
            refine Lib.hid ?_
            intro g13 w12 hg_g13 hb haw
            replace HA := Lib.hid (HA.out.on haw)
            replace HP := Lib.hid (HP.out.on haw)
            replace H2 := Lib.hid (H2.out.on haw)
            replace HBB := Lib.hid (HBB.out.on haw)
            replace HAWX := Lib.hid (HAWX.out.on haw)
            replace HVM := Lib.hid (HVM.out.on haw)
            replace H11 := Lib.hid (H11.out.on haw)
            replace HVN := Lib.hid (HVN.out.on haw)
            clear haw
            have H13 := Lib.hid hb
            have hl_g13 := hb.lt
            clear hb
            go_wp2_with (first | (refine wpList_loadM rfl _ rfl g11 rfl zeroMg _ (by exact H11.out) ?_) | (refine wpList_loadM rfl _ rfl g13 rfl zeroMg _ (by exact H13.out) ?_))
            refine (sameM_yes zeroMg _ _ _ (by exact HVM.out.sl Bytes.nil (by decide)) (by exact Sl.nil _)).mono ?_
            rintro E w13 ⟨rfl, haw⟩
            replace HA := Lib.hid (HA.out.on haw)
            replace HP := Lib.hid (HP.out.on haw)
            replace H2 := Lib.hid (H2.out.on haw)
            replace HBB := Lib.hid (HBB.out.on haw)
            replace HAWX := Lib.hid (HAWX.out.on haw)
            replace HVM := Lib.hid (HVM.out.on haw)
            replace H11 := Lib.hid (H11.out.on haw)
            replace HVN := Lib.hid (HVN.out.on haw)
            replace H13 := Lib.hid (H13.out.on haw)
            clear haw
            go_wp2_with (first | (refine wpList_loadM rfl _ rfl g11 rfl zeroMg _ (by exact H11.out) ?_) | (refine wpList_loadM rfl _ rfl g13 rfl zeroMg _ (by exact H13.out) ?_))
            refine (sameM_yes zeroMg _ _ _ (by exact HVN.out.sl Bytes.nil (by decide)) (by exact Sl.nil _)).mono ?_
            rintro E w14 ⟨rfl, haw⟩
            replace HA := Lib.hid (HA.out.on haw)
            replace HP := Lib.hid (HP.out.on haw)
            replace H2 := Lib.hid (H2.out.on haw)
            replace HBB := Lib.hid (HBB.out.on haw)
            replace HAWX := Lib.hid (HAWX.out.on haw)
            replace HVM := Lib.hid (HVM.out.on haw)
            replace H11 := Lib.hid (H11.out.on haw)
            replace HVN := Lib.hid (HVN.out.on haw)
            replace H13 := Lib.hid (H13.out.on haw)
            clear haw
            go_wp2_with fail
            go_roundw
            case rel => exact ⟨k + 1, by omega, by go_num, HAWX.out⟩
            case measure => simp [intOf]; omega
          · have t1 : ¬ (k : Int) < 5 := by omega
            have t1d : decide ((k : Int) < 5) = false := decide_eq_false (by omega)
            have t1e : decide (k < 5) = false := decide_eq_false (by omega)
            have HRW := Lib.hid (HCR.out _ HBB.out)
            have HWQ : Hid (WfM ⟨p.v, 3, 0, 0, c⟩) := ⟨HWF.out.v, by simp [i64ok], by simp [i64ok], by show (0 : Int) ≤ 0; decide, by show (0 : Int) ≤ 4294967295; decide, HCB.out, by show c.length ≤ _; rw [HTN.out]; omega⟩
            have HAQ := Lib.hid (lookP_ad (g := ⟨p.v, 3, 0, 0, c⟩) HCB.out (by show c.length ≤ _; rw [HTN.out]; omega))
            have hlk := HLK.out n hnl
            rw [← HCD.out] at hlk
            have hvv := (H2.out.cells HAD.out).v
            have hdd := (H2.out.cells HAD.out).d
            obtain ⟨da, dc, hde⟩ : ∃ da dc, dv = .slice da p.d.length dc := by obtain ⟨x1, x2, x3, -⟩ := HP.out.d; exact ⟨x1, x2, x3⟩
            subst hde
            obtain ⟨hn, hhn⟩ : ∃ hn, hn = b.length - p.d.length := ⟨_, rfl⟩
            rw [← hhn] at hlk
            have hsub : (b.length : Int) - (p.d.length : Int) = (hn : Int) := by omega
            have hsw : IntKind.i64.wrap ((hn : Int)) = (hn : Int) := by rw [IntKind.wrap_i64]; omega
            clear hhn
            obtain ⟨Q, lo, er, hlq, hcase⟩ : ∃ Q lo er, lookP ⟨p.v, 3, 0, 0, c⟩ = (Q, lo, er) ∧ ((n < hn ∧ lo = 0 ∧ er = 20) ∨ (hn ≤ n ∧ lo = (b.length : Int) ∧ er = 0)) := by
              by_cases h : n < hn
              · exact ⟨_, _, _, hlk.1 h, .inl ⟨h, rfl, rfl⟩⟩
              · obtain ⟨q, hq⟩ := hlk.2 (by omega)
                exact ⟨_, _, _, hq, .inr ⟨by omega, rfl, rfl⟩⟩
            rw [hlq] at HAQ
            have HLQ := Lib.hid hlq
            have HCS := Lib.hid hcase
            clear hlq hcase hlk HLK HCD
            simp only at HAQ
            go_upto_region 19 with fail
            go_cut [15, 16, 17] (fun v lo2 er2 wc => lo2 = .int .i64 lo ∧ er2 = .int .i64 er ∧ Away [] wr wc)
            case first =>
              refine wp_region_held_drew (S := (fun w' => Away [] wr w')) (by kernel_rfl) ((Away.refl [] wr).drew) (fun hHeld => ?_)
              refine wpAnyH_take (i := 0) (v := ?_) (by simp only [List.getElem?_toArray, List.getElem?_cons_zero]; rfl) (by kernel_rfl) (by kernel_rfl) (by kernel_rfl) (by exact fun _ _ _ h => h) (Or.inl ⟨by rfl, ?_⟩) (by assumption) ?_
              rotate_left
              · intro wq hSw
                (try dsimp only at hSw)
                go_simp
                all_goals (with_reducible rfl)
              try simp only [Act.put, List.setIfInBounds_toArray, List.set_cons_zero, List.set_cons_succ]
              refine wpAnyH_take (i := 1) (by simp only [List.getElem?_toArray, List.getElem?_cons_succ, List.getElem?_cons_zero]; rfl) (by kernel_rfl) (by kernel_rfl) (by kernel_rfl) (by exact fun _ _ _ h => h) (yields_ld (ad := ⟨g2, 0, none⟩) (by rfl) _ rfl rfl (fun w' h => S6.ld3 (h.cell (by simp) hvv))) (by assumption) ?_
              try simp only [Act.put, List.setIfInBounds_toArray, List.set_cons_zero, List.set_cons_succ]
              refine wpAnyH_take (i := 2) (v := ?_) (by simp only [List.getElem?_toArray, List.getElem?_cons_succ, List.getElem?_cons_zero]; rfl) (by kernel_rfl) (by kernel_rfl) (by kernel_rfl) (by exact fun _ _ _ h => h) (Or.inl ⟨by rfl, ?_⟩) (by assumption) ?_
              rotate_left
              · intro wq hSw
                (try dsimp only at hSw)
                go_simp
                all_goals (with_reducible rfl)
              try simp only [Act.put, List.setIfInBounds_toArray, List.set_cons_zero, List.set_cons_succ]
              refine wpAnyH_take (i := 3) (v := ?_) (by simp only [List.getElem?_toArray, List.getElem?_cons_succ, List.getElem?_cons_zero]; rfl) (by kernel_rfl) (by kernel_rfl) (by kernel_rfl) (by exact fun _ _ _ h => h) (Or.inl ⟨by rfl, ?_⟩) (by assumption) ?_
              rotate_left
              · intro wq hSw
                (try dsimp only at hSw)
                go_simp
                all_goals (with_reducible rfl)
              try simp only [Act.put, List.setIfInBounds_toArray, List.set_cons_zero, List.set_cons_succ]
              refine wpAnyH_take (i := 4) (v := ?_) (by simp only [List.getElem?_toArray, List.getElem?_cons_succ, List.getElem?_cons_zero]; rfl) (by kernel_rfl) (by kernel_rfl) (by kernel_rfl) (by exact fun _ _ _ h => h) (Or.inl ⟨by rfl, ?_⟩) (by assumption) ?_
              rotate_left
              · intro wq hSw
                (try dsimp only at hSw)
                go_simp
                all_goals (with_reducible rfl)
              try simp only [Act.put, List.setIfInBounds_toArray, List.set_cons_zero, List.set_cons_succ]
              refine wpAnyH_ready (rs := [5, 12]) (by kernel_rfl) (by simp) ?_
              refine AllReadyH.cons (by simp only [List.getElem?_toArray, List.getElem?_cons_succ, List.getElem?_cons_zero]; rfl) (fun K hK => ?_) (AllReadyH.cons (by simp only [List.getElem?_toArray, List.getElem?_cons_succ, List.getElem?_cons_zero]; rfl) (fun K hK => ?_) AllReadyH.nil)
              · go_simp
                refine (own_any (some ⟨gb, 0, none⟩) c n cb _ HTN.out (by exact HRW.out.on hHeld)).mono ?_
                rintro E y1 ⟨vo, rfl, hown, hnwo, haw, -, -⟩
                have hS := hHeld.on haw
                clear haw
                obtain ⟨oa, oc, rfl, ho1, ho2⟩ := hown.slc
                go_wp2_with fail
                refine hK.out _ _ hS (fun hHeld => ?_)
                clear hK K
                try simp only [Act.put, List.setIfInBounds_toArray, List.set_cons_zero, List.set_cons_succ]
                refine wpAnyH_take (i := 6) (v := ?_) (by simp only [List.getElem?_toArray, List.getElem?_cons_succ, List.getElem?_cons_zero]; rfl) (by kernel_rfl) (by kernel_rfl) (by kernel_rfl) (by exact fun _ _ _ h => h) (Or.inl ⟨by rfl, ?_⟩) (by assumption) ?_
                rotate_left
                · intro wq hSw
                  (try dsimp only at hSw)
                  go_simp
                  all_goals (with_reducible rfl)
                try simp only [Act.put, List.setIfInBounds_toArray, List.set_cons_zero, List.set_cons_succ]
                refine wpAnyH_ready (rs := [7, 12]) (by kernel_rfl) (by simp) ?_
                refine AllReadyH.cons (by simp only [List.getElem?_toArray, List.getElem?_cons_succ, List.getElem?_cons_zero]; rfl) (fun K hK => ?_) (AllReadyH.cons (by simp only [List.getElem?_toArray, List.getElem?_cons_succ, List.getElem?_cons_zero]; rfl) (fun K hK => ?_) AllReadyH.nil)
                · go_simp
                  refine (look_c ⟨p.v, 3, 0, 0, c⟩ (.slice oa c.length oc) _ (by exact ⟨HWQ.out, ⟨_, _, rfl, ho2, ho1, hown.row' HWQ.out.dn HCB.out⟩⟩) (by exact HG.out.on (HA.out.on hHeld))).mono ?_
                  rw [HLQ.out]
                  rintro E y2 ⟨qo, qd, rfl, hqo, hqd, -, -, -, haw⟩
                  have hS := hHeld.on haw
                  replace hown := hown.on haw
                  clear haw
                  obtain ⟨q1, q2, q3, rfl⟩ := hqo.shp
                  obtain ⟨r1, r2, r3, rfl⟩ := hqd.shp
                  go_wp2_with fail
                  refine hK.out _ _ hS (fun hHeld => ?_)
                  clear hK K
                  try simp only [Act.put, List.setIfInBounds_toArray, List.set_cons_zero, List.set_cons_succ]
                  refine wpAnyH_take (i := 8) (v := ?_) (by simp only [List.getElem?_toArray, List.getElem?_cons_succ, List.getElem?_cons_zero]; rfl) (by kernel_rfl) (by kernel_rfl) (by kernel_rfl) (by exact fun _ _ _ h => h) (Or.inl ⟨by rfl, ?_⟩) (by assumption) ?_
                  rotate_left
                  · intro wq hSw
                    (try dsimp only at hSw)
                    go_simp
                    all_goals (with_reducible rfl)
                  try simp only [Act.put, List.setIfInBounds_toArray, List.set_cons_zero, List.set_cons_succ]
                  refine wpAnyH_take (i := 9) (v := ?_) (by simp only [List.getElem?_toArray, List.getElem?_cons_succ, List.getElem?_cons_zero]; rfl) (by kernel_rfl) (by kernel_rfl) (by kernel_rfl) (by exact fun _ _ _ h => h) (Or.inl ⟨by rfl, ?_⟩) (by assumption) ?_
                  rotate_left
                  · intro wq hSw
                    (try dsimp only at hSw)
                    go_simp
                    all_goals (with_reducible rfl)
                  try simp only [Act.put, List.setIfInBounds_toArray, List.set_cons_zero, List.set_cons_succ]
                  refine wpAnyH_take (i := 10) (v := ?_) (by simp only [List.getElem?_toArray, List.getElem?_cons_succ, List.getElem?_cons_zero]; rfl) (by kernel_rfl) (by kernel_rfl) (by kernel_rfl) (by exact fun _ _ _ h => h) (Or.inl ⟨by rfl, ?_⟩) (by assumption) ?_
                  rotate_left
                  · intro wq hSw
                    (try dsimp only at hSw)
                    go_simp
                    all_goals (with_reducible rfl)
                  try simp only [Act.put, List.setIfInBounds_toArray, List.set_cons_zero, List.set_cons_succ]
                  refine wpAnyH_take (i := 11) (v := ?_) (by simp only [List.getElem?_toArray, List.getElem?_cons_succ, List.getElem?_cons_zero]; rfl) (by kernel_rfl) (by kernel_rfl) (by kernel_rfl) (by exact fun _ _ _ h => h) (Or.inl ⟨by rfl, ?_⟩) (by assumption) ?_
                  rotate_left
                  · intro wq hSw
                    (try dsimp only at hSw)
                    go_simp
                    all_goals (with_reducible rfl)
                  try simp only [Act.put, List.setIfInBounds_toArray, List.set_cons_zero, List.set_cons_succ]
                  refine wpAnyH_ready (rs := [12]) (by kernel_rfl) (by simp) ?_
                  refine AllReadyH.cons (by simp only [List.getElem?_toArray, List.getElem?_cons_succ, List.getElem?_cons_zero]; rfl) (fun K hK => ?_) AllReadyH.nil
                  rw [if_pos (by rfl)]
                  refine wp_alloc28 rfl ?_
                  intro g15 y3 hg15 hbx haw
                  have hS := hHeld.on haw
                  have hza := hHeld.size
                  have hl15 := hbx.lt
                  replace hown := hown.on haw
                  clear haw
                  refine hK.out _ _ hS (fun hHeld => ?_)
                  clear hK K
                  try simp only [Act.put, List.setIfInBounds_toArray, List.set_cons_zero, List.set_cons_succ]
                  refine wpAnyH_ready (rs := [13]) (by kernel_rfl) (by simp) ?_
                  refine AllReadyH.cons (by simp only [List.getElem?_toArray, List.getElem?_cons_succ, List.getElem?_cons_zero]; rfl) (fun K hK => ?_) AllReadyH.nil
                  rw [if_pos (by rfl)]
                  refine wp_store28 (.tmp 15) (.tmp 95) rfl g15 rfl Q (.slice q1 q2 q3) (.slice r1 r2 r3) rfl zeroPk (.slice none 0 0) (.slice none 0 0) (by exact hbx) HAQ.out ⟨rfl, rfl⟩ rfl rfl ?_
                  intro y4 haw
                  have hS : Away [] wr y4 := hHeld.next haw (fun x hx => .inr (by simp at hx; omega))
                  clear haw
                  refine hK.out _ _ hS (fun hHeld => ?_)
                  clear hK K
                  try simp only [Act.put]
                  refine wpAnyH_take (i := 14) (v := ?_) (by simp only [List.getElem?_toArray, List.getElem?_cons_succ, List.getElem?_cons_zero]; rfl) (by kernel_rfl) (by kernel_rfl) (by kernel_rfl) (by exact fun _ _ _ h => h) (Or.inl ⟨by rfl, ?_⟩) (by assumption) ?_
                  rotate_left
                  · intro wq hSw
                    (try dsimp only at hSw)
                    go_simp
                    all_goals (with_reducible rfl)
                  try simp only [Act.put, List.setIfInBounds_toArray, List.set_cons_zero, List.set_cons_succ]
                  refine wpAnyH_take (i := 15) (v := ?_) (by simp only [List.getElem?_toArray, List.getElem?_cons_succ, List.getElem?_cons_zero]; rfl) (by kernel_rfl) (by kernel_rfl) (by kernel_rfl) (by exact fun _ _ _ h => h) (Or.inl ⟨by rfl, ?_⟩) (by assumption) ?_
                  rotate_left
                  · intro wq hSw
                    (try dsimp only at hSw)
                    go_simp
                    all_goals (with_reducible rfl)
                  try simp only [Act.put, List.setIfInBounds_toArray, List.set_cons_zero, List.set_cons_succ]
                  refine wpAnyH_done (by kernel_rfl) ?_ _
                  go_wp2_with fail
                  go_meet
                  exact ⟨rfl, rfl, hHeld⟩
                · rw [if_pos (by rfl)]
                  refine wp_alloc28 rfl ?_
                  intro g15 y2 hg15 hbx haw
                  have hS := hHeld.on haw
                  have hza := hHeld.size
                  have hl15 := hbx.lt
                  replace hown := hown.on haw
                  clear haw
                  refine hK.out _ _ hS (fun hHeld => ?_)
                  clear hK K
                  try simp only [Act.put, List.setIfInBounds_toArray, List.set_cons_zero, List.set_cons_succ]
                  refine wpAnyH_ready (rs := [7]) (by kernel_rfl) (by simp) ?_
                  refine AllReadyH.cons (by simp only [List.getElem?_toArray, List.getElem?_cons_succ, List.getElem?_cons_zero]; rfl) (fun K hK => ?_) AllReadyH.nil
                  go_simp
                  refine (look_c ⟨p.v, 3, 0, 0, c⟩ (.slice oa c.length oc) _ (by exact ⟨HWQ.out, ⟨_, _, rfl, ho2, ho1, hown.row' HWQ.out.dn HCB.out⟩⟩) (by exact HG.out.on (HA.out.on hHeld))).mono ?_
                  rw [HLQ.out]
                  rintro E y3 ⟨qo, qd, rfl, hqo, hqd, -, -, -, haw⟩
                  have hS := hHeld.on haw
                  replace hown := hown.on haw
                  replace hbx := hbx.on haw
                  clear haw
                  obtain ⟨q1, q2, q3, rfl⟩ := hqo.shp
                  obtain ⟨r1, r2, r3, rfl⟩ := hqd.shp
                  go_wp2_with fail
                  refine hK.out _ _ hS (fun hHeld => ?_)
                  clear hK K
                  try simp only [Act.put, List.setIfInBounds_toArray, List.set_cons_zero, List.set_cons_succ]
                  refine wpAnyH_take (i := 8) (v := ?_) (by simp only [List.getElem?_toArray, List.getElem?_cons_succ, List.getElem?_cons_zero]; rfl) (by kernel_rfl) (by kernel_rfl) (by kernel_rfl) (by exact fun _ _ _ h => h) (Or.inl ⟨by rfl, ?_⟩) (by assumption) ?_
                  rotate_left
                  · intro wq hSw
                    (try dsimp only at hSw)
                    go_simp
                    all_goals (with_reducible rfl)
                  try simp only [Act.put, List.setIfInBounds_toArray, List.set_cons_zero, List.set_cons_succ]
                  refine wpAnyH_take (i := 9) (v := ?_) (by simp only [List.getElem?_toArray, List.getElem?_cons_succ, List.getElem?_cons_zero]; rfl) (by kernel_rfl) (by kernel_rfl) (by kernel_rfl) (by exact fun _ _ _ h => h) (Or.inl ⟨by rfl, ?_⟩) (by assumption) ?_
                  rotate_left
                  · intro wq hSw
                    (try dsimp only at hSw)
                    go_simp
                    all_goals (with_reducible rfl)
                  try simp only [Act.put, List.setIfInBounds_toArray, List.set_cons_zero, List.set_cons_succ]
                  refine wpAnyH_take (i := 10) (v := ?_) (by simp only [List.getElem?_toArray, List.getElem?_cons_succ, List.getElem?_cons_zero]; rfl) (by kernel_rfl) (by kernel_rfl) (by kernel_rfl) (by exact fun _ _ _ h => h) (Or.inl ⟨by rfl, ?_⟩) (by assumption) ?_
                  rotate_left
                  · intro wq hSw
                    (try dsimp only at hSw)
                    go_simp
                    all_goals (with_reducible rfl)
                  try simp only [Act.put, List.setIfInBounds_toArray, List.set_cons_zero, List.set_cons_succ]
                  refine wpAnyH_take (i := 11) (v := ?_) (by simp only [List.getElem?_toArray, List.getElem?_cons_succ, List.getElem?_cons_zero]; rfl) (by kernel_rfl) (by kernel_rfl) (by kernel_rfl) (by exact fun _ _ _ h => h) (Or.inl ⟨by rfl, ?_⟩) (by assumption) ?_
                  rotate_left
                  · intro wq hSw
                    (try dsimp only at hSw)
                    go_simp
                    all_goals (with_reducible rfl)
                  try simp only [Act.put, List.setIfInBounds_toArray, List.set_cons_zero, List.set_cons_succ]
                  refine wpAnyH_ready (rs := [13]) (by kernel_rfl) (by simp) ?_
                  refine AllReadyH.cons (by simp only [List.getElem?_toArray, List.getElem?_cons_succ, List.getElem?_cons_zero]; rfl) (fun K hK => ?_) AllReadyH.nil
                  rw [if_pos (by rfl)]
                  refine wp_store28 (.tmp 15) (.tmp 95) rfl g15 rfl Q (.slice q1 q2 q3) (.slice r1 r2 r3) rfl zeroPk (.slice none 0 0) (.slice none 0 0) (by exact hbx) HAQ.out ⟨rfl, rfl⟩ rfl rfl ?_
                  intro y4 haw
                  have hS : Away [] wr y4 := hHeld.next haw (fun x hx => .inr (by simp at hx; omega))
                  clear haw
                  refine hK.out _ _ hS (fun hHeld => ?_)
                  clear hK K
                  try simp only [Act.put]
                  refine wpAnyH_take (i := 14) (v := ?_) (by simp only [List.getElem?_toArray, List.getElem?_cons_succ, List.getElem?_cons_zero]; rfl) (by kernel_rfl) (by kernel_rfl) (by kernel_rfl) (by exact fun _ _ _ h => h) (Or.inl ⟨by rfl, ?_⟩) (by assumption) ?_
                  rotate_left
                  · intro wq hSw
                    (try dsimp only at hSw)
                    go_simp
                    all_goals (with_reducible rfl)
                  try simp only [Act.put, List.setIfInBounds_toArray, List.set_cons_zero, List.set_cons_succ]
                  refine wpAnyH_take (i := 15) (v := ?_) (by simp only [List.getElem?_toArray, List.getElem?_cons_succ, List.getElem?_cons_zero]; rfl) (by kernel_rfl) (by kernel_rfl) (by kernel_rfl) (by exact fun _ _ _ h => h) (Or.inl ⟨by rfl, ?_⟩) (by assumption) ?_
                  rotate_left
                  · intro wq hSw
                    (try dsimp only at hSw)
                    go_simp
                    all_goals (with_reducible rfl)
                  try simp only [Act.put, List.setIfInBounds_toArray, List.set_cons_zero, List.set_cons_succ]
                  refine wpAnyH_done (by kernel_rfl) ?_ _
                  go_wp2_with fail
                  go_meet
                  exact ⟨rfl, rfl, hHeld⟩
              · rw [if_pos (by rfl)]
                refine wp_alloc28 rfl ?_
                intro g15 y1 hg15 hbx haw
                have hS := hHeld.on haw
                have hza := hHeld.size
                have hl15 := hbx.lt
                clear haw
                refine hK.out _ _ hS (fun hHeld => ?_)
                clear hK K
                try simp only [Act.put, List.setIfInBounds_toArray, List.set_cons_zero, List.set_cons_succ]
                refine wpAnyH_ready (rs := [5]) (by kernel_rfl) (by simp) ?_
                refine AllReadyH.cons (by simp only [List.getElem?_toArray, List.getElem?_cons_succ, List.getElem?_cons_zero]; rfl) (fun K hK => ?_) AllReadyH.nil
                go_simp
                refine (own_any (some ⟨gb, 0, none⟩) c n cb _ HTN.out (by exact HRW.out.on hHeld)).mono ?_
                rintro E y2 ⟨vo, rfl, hown, hnwo, haw, -, -⟩
                have hS := hHeld.on haw
                replace hbx := hbx.on haw
                clear haw
                obtain ⟨oa, oc, rfl, ho1, ho2⟩ := hown.slc
                go_wp2_with fail
                refine hK.out _ _ hS (fun hHeld => ?_)
                clear hK K
                try simp only [Act.put, List.setIfInBounds_toArray, List.set_cons_zero, List.set_cons_succ]
                refine wpAnyH_take (i := 6) (v := ?_) (by simp only [List.getElem?_toArray, List.getElem?_cons_succ, List.getElem?_cons_zero]; rfl) (by kernel_rfl) (by kernel_rfl) (by kernel_rfl) (by exact fun _ _ _ h => h) (Or.inl ⟨by rfl, ?_⟩) (by assumption) ?_
                rotate_left
                · intro wq hSw
                  (try dsimp only at hSw)
                  go_simp
                  all_goals (with_reducible rfl)
                try simp only [Act.put, List.setIfInBounds_toArray, List.set_cons_zero, List.set_cons_succ]
                refine wpAnyH_ready (rs := [7]) (by kernel_rfl) (by simp) ?_
                refine AllReadyH.cons (by simp only [List.getElem?_toArray, List.getElem?_cons_succ, List.getElem?_cons_zero]; rfl) (fun K hK => ?_) AllReadyH.nil
                go_simp
                refine (look_c ⟨p.v, 3, 0, 0, c⟩ (.slice oa c.length oc) _ (by exact ⟨HWQ.out, ⟨_, _, rfl, ho2, ho1, hown.row' HWQ.out.dn HCB.out⟩⟩) (by exact HG.out.on (HA.out.on hHeld))).mono ?_
                rw [HLQ.out]
                rintro E y3 ⟨qo, qd, rfl, hqo, hqd, -, -, -, haw⟩
                have hS := hHeld.on haw
                replace hbx := hbx.on haw
                replace hown := hown.on haw
                clear haw
                obtain ⟨q1, q2, q3, rfl⟩ := hqo.shp
                obtain ⟨r1, r2, r3, rfl⟩ := hqd.shp
                go_wp2_with fail
                refine hK.out _ _ hS (fun hHeld => ?_)
                clear hK K
                try simp only [Act.put, List.setIfInBounds_toArray, List.set_cons_zero, List.set_cons_succ]
                refine wpAnyH_take (i := 8) (v := ?_) (by simp only [List.getElem?_toArray, List.getElem?_cons_succ, List.getElem?_cons_zero]; rfl) (by kernel_rfl) (by kernel_rfl) (by kernel_rfl) (by exact fun _ _ _ h => h) (Or.inl ⟨by rfl, ?_⟩) (by assumption) ?_
                rotate_left
                · intro wq hSw
                  (try dsimp only at hSw)
                  go_simp
                  all_goals (with_reducible rfl)
                try simp only [Act.put, List.setIfInBounds_toArray, List.set_cons_zero, List.set_cons_succ]
                refine wpAnyH_take (i := 9) (v := ?_) (by simp only [List.getElem?_toArray, List.getElem?_cons_succ, List.getElem?_cons_zero]; rfl) (by kernel_rfl) (by kernel_rfl) (by kernel_rfl) (by exact fun _ _ _ h => h) (Or.inl ⟨by rfl, ?_⟩) (by assumption) ?_
                rotate_left
                · intro wq hSw
                  (try dsimp only at hSw)
                  go_simp
                  all_goals (with_reducible rfl)
                try simp only [Act.put, List.setIfInBounds_toArray, List.set_cons_zero, List.set_cons_succ]
                refine wpAnyH_take (i := 10) (v := ?_) (by simp only [List.getElem?_toArray, List.getElem?_cons_succ, List.getElem?_cons_zero]; rfl) (by kernel_rfl) (by kernel_rfl) (by kernel_rfl) (by exact fun _ _ _ h => h) (Or.inl ⟨by rfl, ?_⟩) (by assumption) ?_
                rotate_left
                · intro wq hSw
                  (try dsimp only at hSw)
                  go_simp
                  all_goals (with_reducible rfl)
                try simp only [Act.put, List.setIfInBounds_toArray, List.set_cons_zero, List.set_cons_succ]
                refine wpAnyH_take (i := 11) (v := ?_) (by simp only [List.getElem?_toArray, List.getElem?_cons_succ, List.getElem?_cons_zero]; rfl) (by kernel_rfl) (by kernel_rfl) (by kernel_rfl) (by exact fun _ _ _ h => h) (Or.inl ⟨by rfl, ?_⟩) (by assumption) ?_
                rotate_left
                · intro wq hSw
                  (try dsimp only at hSw)
                  go_simp
                  all_goals (with_reducible rfl)
                try simp only [Act.put, List.setIfInBounds_toArray, List.set_cons_zero, List.set_cons_succ]
                refine wpAnyH_ready (rs := [13]) (by kernel_rfl) (by simp) ?_
                refine AllReadyH.cons (by simp only [List.getElem?_toArray, List.getElem?_cons_succ, List.getElem?_cons_zero]; rfl) (fun K hK => ?_) AllReadyH.nil
                rw [if_pos (by rfl)]
                refine wp_store28 (.tmp 15) (.tmp 95) rfl g15 rfl Q (.slice q1 q2 q3) (.slice r1 r2 r3) rfl zeroPk (.slice none 0 0) (.slice none 0 0) (by exact hbx) HAQ.out ⟨rfl, rfl⟩ rfl rfl ?_
                intro y4 haw
                have hS : Away [] wr y4 := hHeld.next haw (fun x hx => .inr (by simp at hx; omega))
                clear haw
                refine hK.out _ _ hS (fun hHeld => ?_)
                clear hK K
                try simp only [Act.put]
                refine wpAnyH_take (i := 14) (v := ?_) (by simp only [List.getElem?_toArray, List.getElem?_cons_succ, List.getElem?_cons_zero]; rfl) (by kernel_rfl) (by kernel_rfl) (by kernel_rfl) (by exact fun _ _ _ h => h) (Or.inl ⟨by rfl, ?_⟩) (by assumption) ?_
                rotate_left
                · intro wq hSw
                  (try dsimp only at hSw)
                  go_simp
                  all_goals (with_reducible rfl)
                try simp only [Act.put, List.setIfInBounds_toArray, List.set_cons_zero, List.set_cons_succ]
                refine wpAnyH_take (i := 15) (v := ?_) (by simp only [List.getElem?_toArray, List.getElem?_cons_succ, List.getElem?_cons_zero]; rfl) (by kernel_rfl) (by kernel_rfl) (by kernel_rfl) (by exact fun _ _ _ h => h) (Or.inl ⟨by rfl, ?_⟩) (by assumption) ?_
                rotate_left
                · intro wq hSw
                  (try dsimp only at hSw)
                  go_simp
                  all_goals (with_reducible rfl)
                try simp only [Act.put, List.setIfInBounds_toArray, List.set_cons_zero, List.set_cons_succ]
                refine wpAnyH_done (by kernel_rfl) ?_ _
                go_wp2_with fail
                go_meet
                exact ⟨rfl, rfl, hHeld⟩
            case rest =>
            obtain ⟨rfl, rfl, haw⟩ := hcut
            generalize wc = w7 at *
            clear hvv
            replace hdd := haw.cell (by simp) hdd
            replace HA := Lib.hid (HA.out.on haw)
            replace HP := Lib.hid (HP.out.on haw)
            replace H2 := Lib.hid (H2.out.on haw)
            replace HBB := Lib.hid (HBB.out.on haw)
            replace HAWX := Lib.hid (HAWX.out.on haw)
            replace HRW := Lib.hid (HRW.out.on haw)
            clear haw
            rcases HCS.out with ⟨h1, h2, h3⟩ | ⟨h1, h2, h3⟩
            · subst h2
              subst h3
              have d1 : decide ((n : Int) < (hn : Int)) = true := decide_eq_true (by omega)
              have d2 : decide (n < hn) = true := decide_eq_true (by omega)
              go_wp2_with fail
              go_ret
              exact ⟨rfl, HA.out.to_below⟩
            · subst h2
              subst h3
              have d1 : decide ((n : Int) < (hn : Int)) = false := decide_eq_false (by omega)
              have d2 : decide (n < hn) = false := decide_eq_false (by omega)
              go_wp2_with fail
              go_ret
              exact ⟨rfl, HA.out.to_below⟩
    · have hr6f : S6.rightP p = false := by simpa using hr6
      have HB6 : Hid (S6.build6 p = ([], 1)) := S6.build_no hr6f
      refine (S6.build_c p o2 d2 _ (by exact ⟨HWF.out, HM2.out.o.sl HWF.out.o HWF.out.ol, HM2.out.d.sl HWF.out.d HWF.out.dn⟩)).mono ?_
      rintro E w6 ⟨vc, hE, hown, hnew, haw⟩
      rw [HB6.out] at hE hown
      subst hE
      have hs_vc := haw.size
      replace HA := Lib.hid (HA.out.on haw)
      replace HP := Lib.hid (HP.out.on haw)
      replace H2 := Lib.hid (H2.out.on haw)
      replace HB := Lib.hid (HB.out.on haw)
      replace HM2 := Lib.hid (HM2.out.on haw)
      clear haw
      have HC := Lib.hid hown
      have hn_vc := Lib.hid hnew
      clear hown hnew
      go_wp2_with fail
      go_ret
      exact ⟨rfl, HA.out.to_below⟩
end icmpNone
namespace icmpNone
theorem contract (H : Type) (enc : TypeId × Value → H) (W : World) (base : Nat) (args : Array Value) (ds gs : List (DataW H)) (before : List MemPlace)
    (hval0 : ∀ (j : Nat) t v, Tryd.f3.params[j]? = some t → args[j]? = some v → Value.okWide Tryd.prog W .any base t v)
    (hW : DataW.Whole enc Tryd.prog Tryd.f3.params.toList Rows.icmpNoneSpec.vars false W args.toList ds gs before)
    (hsz0 : (DataW.weightsEach Tryd.prog (Tryd.f3.params.toList ++ Rows.icmpNoneSpec.plain.varTypes Tryd.prog) (ds ++ gs)).all (· ≤ reachBytes) = true)
    (hL : laidMetH Tryd.prog Rows.icmpNoneRow.laid W) :
    Calls Tryd.prog 3 args W fun e W' => ∃ v, e = .returned v ∧ Rows.icmpNoneSpec.post enc Tryd.prog Tryd.f3 false true false false W args v W' := by
  have hval := hval0
  have hsz := hsz0
  have hW' := hW
  obtain ⟨p, q, hA0, hV, rfl, hfz, hnd⟩ := hW
  have hA : DataW.TrodAll enc Tryd.prog W 0 (fun _ => true) true Tryd.f3.params.toList args.toList ds p := hA0
  rw [Tryd.params3] at hA hval hsz
  obtain ⟨v0, vs0, d0, ds0, p0, q0, hargs, rfl, rfl, h0, r0⟩ := trodAll_cons hA
  obtain ⟨v1, vs1, d1, ds1, p1, q1, rfl, rfl, rfl, h1, r1⟩ := trodAll_cons r0
  obtain ⟨rfl, rfl, rfl⟩ := trodAll_nil r1
  obtain rfl : args = #[v0, v1] := by cases args; simp_all
  obtain ⟨rfl, rfl⟩ := trodVars_none hV
  have k0 := h0
  have lt0 : ∀ x ∈ p0, x.block < W.heap.size := by obtain ⟨m, hm⟩ := k0; exact DataW.trod_lt m _ _ _ hm
  have z0 : ∀ m ∈ d0.weights Tryd.prog 28, m ≤ reachBytes := fun m hm => by
    have := List.all_eq_true.1 hsz m (DataW.weights_mem_each (j := 0) (t := 28) rfl rfl m hm)
    simpa using this
  obtain ⟨x0, ov0, dv0, rfl, w0, ol0, dl0⟩ := open_pkt (hval 0 28 v0 rfl rfl) h0 z0
  obtain ⟨a1, rfl, rfl, rfl, w1⟩ := open_int Tryd.underlying3 (hval 1 3 v1 rfl rfl) h1
  clear hA0 hval0
  refine (walk x0 ov0 dv0 a1 W (glob_of hL) w0 ol0 dl0 w1).mono fun e W' ⟨he, bel⟩ => ?_
  subst he
  exact ⟨_, rfl, _, _, _, [], _, [], hW', trodAll_mk1 (shut_bool Tryd.underlying4 _), (trodAll_cons_mk (Below.trod laidOut (by kernel_rfl) (of_decide_eq_true (by kernel_rfl)) k0 bel lt0) (trodAll_cons_mk (shut_int Tryd.underlying3 w1) trodAll_mk0)), rfl, bel.frame _, fun h => by cases h⟩
theorem laid_met (os : Os) : laidMet Tryd.prog Rows.icmpNoneRow.laid ((laidWorld Tryd.prog os).forCall (fun _ _ => 0) ⟨#[], #[.agg (csP zeroPk (.slice none 0 0) (.slice none 0 0)), .int .i64 0], []⟩).memory :=
  laidMet_of_run' 8 (by kernel_rfl) (by kernel_rfl)
theorem reads (os : Os) {H : Type} (enc : TypeId × Value → H) : ∃ places, DataW.whole enc Tryd.prog ((laidWorld Tryd.prog os).forCall (fun _ _ => 0) ⟨#[], #[.agg (csP zeroPk (.slice none 0 0) (.slice none 0 0)), .int .i64 0], []⟩).memory Tryd.f3.params.toList Rows.icmpNoneSpec.vars false #[.agg (csP zeroPk (.slice none 0 0) (.slice none 0 0)), .int .i64 0].toList 8 = some ([.agg [.lit (.int .i64 0), .lit (.int .i64 0), .lit (.int .i64 0), .agg [.lit (.int .i64 0), .agg [.lit (.int .u8 0), .lit (.int .u8 0), .lit (.int .u8 0), .lit (.int .u8 0), .lit (.int .u8 0), .lit (.int .u8 0), .lit (.int .u8 0), .lit (.int .u8 0), .lit (.int .u8 0), .lit (.int .u8 0), .lit (.int .u8 0), .lit (.int .u8 0), .lit (.int .u8 0), .lit (.int .u8 0), .lit (.int .u8 0), .lit (.int .u8 0)]], .agg [.lit (.int .i64 0), .agg [.lit (.int .u8 0), .lit (.int .u8 0), .lit (.int .u8 0), .lit (.int .u8 0), .lit (.int .u8 0), .lit (.int .u8 0), .lit (.int .u8 0), .lit (.int .u8 0), .lit (.int .u8 0), .lit (.int .u8 0), .lit (.int .u8 0), .lit (.int .u8 0), .lit (.int .u8 0), .lit (.int .u8 0), .lit (.int .u8 0), .lit (.int .u8 0)]], .lit (.int .i64 0), .lit (.int .i64 0), .lit (.int .u32 0), .lit (.bool false), .lit (.bool false), .lit (.bool false), .lit (.int .i64 0), .nil, .nil], .lit (.int .i64 0)], [], places) :=
  ⟨[], by kernel_rfl⟩
theorem lifted (os : Os) (started : os.Started) (H : Type) (enc : TypeId × Value → H) (F : Stop.Interp) :
    ReturnsInHanded {} Tryd.checked os 3 .any ((OpenSpec.ofChange Rows.icmpNoneSpec).preRow enc Tryd.prog Tryd.f3 Rows.icmpNoneRow.domain false Rows.icmpNoneRow.laid) (((OpenSpec.ofChange Rows.icmpNoneSpec).at F).post enc Tryd.prog Tryd.f3 false true false false) := by
  obtain ⟨places, hx⟩ := reads os enc
  refine returnsInHanded_of_row (C := Tryd.checked) (s := OpenSpec.ofChange Rows.icmpNoneSpec) ownKn started (by kernel_rfl) Tryd.func3
    (witness_row_at (enc := enc) (C := Tryd.checked) false (laidWorld Tryd.prog os) #[.agg (csP zeroPk (.slice none 0 0) (.slice none 0 0)), .int .i64 0] rfl (by kernel_rfl) (by kernel_rfl) (by kernel_rfl)
      (OpenSpec.preRow_of_cond 8 hx (by kernel_rfl) (fun k hk => by cases hk) (by kernel_rfl) (laid_met os))) ?_
  intro W base args ds gs before hval hW _ hcond hsz hL hS _
  exact contract H enc W base args ds gs before hval hW hsz hL
theorem said : Rows.IcmpNoneSaid :=
  OpenClaim.holds_of_cond 3 Tryd.f3 rfl rfl rfl rfl rfl rfl rfl ⟨rfl, rfl, rfl, rfl, rfl⟩ rfl rfl rfl rfl rfl (by kernel_rfl) Tryd.func3 (by kernel_rfl)
    (of_decide_eq_true (by kernel_rfl)) (by unfold Func.isWrapper; first | (rw [if_pos (by decide +kernel)]; kernel_rfl) | (rw [if_neg (by decide +kernel)]; exact ⟨rfl, rfl⟩))
    (fun os started H enc _ F => by rw [OpenClaim.pre_eq_preRow]; exact lifted os started H enc F)
theorem plain (f : FuncId) (fn : Func) (hf : Tryd.pinned.checked.prog.funcNamed "mosaic/mosaiclaw08.IcmpNone" = some f) (hfn : Tryd.pinned.checked.prog.funcs[f]? = some fn) :
    false = Tryd.pinned.checked.prog.looks [] ∧ ∀ (j : Nat) t, fn.params[j]? = some t → Tryd.pinned.checked.prog.wantsStandIn t = false := by
  obtain rfl : f = 3 := Option.some.inj ((show Tryd.prog.funcNamed "mosaic/mosaiclaw08.IcmpNone" = some 3 by kernel_rfl).symm.trans hf) |>.symm
  obtain rfl : fn = Tryd.f3 := (Option.some.inj (Tryd.func3.symm.trans hfn)).symm
  refine ⟨by kernel_rfl, fun j t ht => ?_⟩
  rw [Tryd.params3] at ht
  have hm := Array.mem_of_getElem? ht
  simp only [List.mem_toArray, List.mem_cons, List.not_mem_nil, or_false] at hm
  have h28 : Tryd.prog.wantsStandIn 28 = false := by kernel_rfl
  have h26 : Tryd.prog.wantsStandIn 26 = false := by kernel_rfl
  have h3 : Tryd.prog.wantsStandIn 3 = false := by kernel_rfl
  rcases hm with rfl | rfl
  all_goals first | exact h28 | exact h26 | exact h3
theorem card : Rows.IcmpNoneCardSaid :=
  Claim7.holds_tied_plain_at .later [] _ _ _ _ said (fun _ h => by cases h) (by kernel_rfl) (fun _ h => by cases h) icmpNone_row_tie rfl ⟨rfl, rfl⟩ (by kernel_rfl) rfl plain (by kernel_rfl)
end icmpNone
theorem icmpNone_holds : Rows.IcmpNoneCardSaid := icmpNone.card
#print axioms icmpNone_holds
end Go.Proofs.YtbgpjhekohabiabDoor
