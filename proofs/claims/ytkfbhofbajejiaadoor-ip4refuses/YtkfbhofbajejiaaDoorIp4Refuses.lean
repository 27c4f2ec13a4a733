/-
  Ip4Refuses: P5.1, one thing that may not be.
-/
import Derived.Test.YtkfbhofbajejiaaDoorStp2
import Derived.Deep.CutBlock
import Derived.Deep.DeepCutAuto
namespace Go.Proofs.YtkfbhofbajejiaaDoor
open Go.ChangeShapes Go.WideShapes Go.ChangeAt Go.RowKit Go.Deep Num
set_option linter.unusedVariables false
set_option maxHeartbeats 4000000
set_option maxRecDepth 100000

theorem and_le (n : Int) (m : Nat) (hm : m < 9223372036854775808) (h : (BitVec.ofInt 64 (m : Int)).toNat = m) : 0 ≤ bits .and .i64 n (m : Int) ∧ bits .and .i64 n (m : Int) ≤ m := by
  have key : (BitVec.ofInt 64 n &&& BitVec.ofInt 64 (m : Int)).toNat ≤ m := by rw [BitVec.toNat_and, h]; exact Nat.and_le_right
  have e : bits .and .i64 n (m : Int) = IntKind.i64.wrap ((BitVec.ofInt 64 n &&& BitVec.ofInt 64 (m : Int)).toNat : Nat) := rfl
  rw [e, IntKind.wrap_i64]
  generalize (BitVec.ofInt 64 n &&& BitVec.ofInt 64 (m : Int)).toNat = k at *
  omega
theorem and65535 (n : Int) : 0 ≤ bits .and .i64 n 65535 ∧ bits .and .i64 n 65535 ≤ 65535 := and_le n 65535 (by omega) (by decide)
theorem and15i (n : Int) : 0 ≤ bits .and .i64 n 15 ∧ bits .and .i64 n 15 ≤ 15 := and_le n 15 (by omega) (by decide)
theorem and6 (n : Int) : 0 ≤ bits .and .i64 n 6 ∧ bits .and .i64 n 6 ≤ 6 ∧ bits .and .i64 n 6 % 2 = 0 := by
  have h : (BitVec.ofInt 64 6).toNat = 6 := by decide
  have key : (BitVec.ofInt 64 n &&& BitVec.ofInt 64 6).toNat ≤ 6 := by rw [BitVec.toNat_and, h]; exact Nat.and_le_right
  have k2 : (BitVec.ofInt 64 n &&& BitVec.ofInt 64 6).toNat % 2 = 0 := by
    rw [BitVec.toNat_and, h, show (2 : Nat) = 2 ^ 1 from rfl, ← Nat.and_two_pow_sub_one_eq_mod, Nat.and_assoc, show 6 &&& (2 ^ 1 - 1) = 0 from by decide, Nat.and_zero]
  have e : bits .and .i64 n 6 = IntKind.i64.wrap ((BitVec.ofInt 64 n &&& BitVec.ofInt 64 6).toNat : Nat) := rfl
  rw [e, IntKind.wrap_i64]
  generalize (BitVec.ofInt 64 n &&& BitVec.ofInt 64 6).toNat = m at *
  omega
theorem or1 (n : Int) (h0 : 0 ≤ n) (h1 : n ≤ 65528) (h8 : n % 8 = 0) : bits .or .i64 n 1 = n + 1 := by
  have e : bits .or .i64 n 1 = IntKind.i64.wrap ((BitVec.ofInt 64 n ||| BitVec.ofInt 64 1).toNat : Nat) := rfl
  obtain ⟨m, rfl⟩ := Int.eq_ofNat_of_zero_le h0
  have hm : (BitVec.ofInt 64 (m : Int)).toNat = m := by
    rw [BitVec.toNat_ofInt]; omega
  have hk : (BitVec.ofInt 64 (m : Int) ||| BitVec.ofInt 64 1).toNat = m + 1 := by
    rw [BitVec.toNat_or, hm, show (BitVec.ofInt 64 1).toNat = 1 from by decide]
    have : m = 2 ^ 3 * (m / 8) := by omega
    rw [this, ← Nat.two_pow_add_eq_or_of_lt (by omega)]
  rw [e, hk, IntKind.wrap_i64]
  omega
theorem Owns.take {w : World} {a : Option Addr} {n cap m : Nat} {l : List Int} (h : Owns w (.slice a n cap) l) (hm : m ≤ l.length) : Owns w (.slice a m cap) (l.take m) := by
  obtain ⟨h1, h2⟩ := h
  refine ⟨by simp, ?_⟩
  rcases h2 with ⟨h2, h3⟩ | ⟨g, cap', cur, h2, hg, hh, hn, hc, hs, ht⟩
  · simp only [Value.slice.injEq] at h2
    obtain ⟨rfl, rfl, rfl⟩ := h2
    have hl : l = [] := by simpa using h3
    subst hl
    left
    simp at hm
    subst hm
    exact ⟨rfl, rfl⟩
  · simp only [Value.slice.injEq] at h2
    obtain ⟨rfl, rfl, rfl⟩ := h2
    right
    have e : ((l.take m).map (Value.int .u8)).length = m := by simp; omega
    simp only [List.length_map] at hn
    refine ⟨g, cap, cur, by rw [e], hg, hh, by rw [e]; omega, hc, hs, ?_⟩
    rw [e]
    simp only [List.length_map] at ht
    rw [List.map_take, ← ht, List.take_take]
    congr 1
    omega
theorem own_len (a : Option Addr) (n c n' c' : Nat) : (Value.slice a n c).ownBlock = (Value.slice a n' c').ownBlock := by cases a <;> rfl
theorem not_right {q : Pk} (h : Formed q → validP q.o = true → False) : rightP q = false := by
  rw [Bool.eq_false_iff]
  intro hr
  obtain ⟨a, b⟩ := (right_iff q).1 hr
  exact h a b
theorem headP_no {q : Pk} (h : rightP q = false) : headP q = 0 := by unfold headP; rw [if_neg (by simp [h])]

theorem walk (p : Pk) (ov dv : Value) (n m : Int) (W : World) (hg : Glob W) (hp : Pkt W p ov dv) (_ : p.o.length ≤ 140737488351232) (_ : p.d.length ≤ 140737488351232) (_ : (Lit.int .i64 n).wf = true) (_ : (Lit.int .i64 m).wf = true) :
    Calls Tryd.prog 7 #[.agg (csP p ov dv), .int .i64 n, .int .i64 m] W fun e W' => e = .returned (.bool true) ∧ Below W.heap.size W W' := by
  have HG := Lib.hid hg
  have HP := Lib.hid hp
  have HA := Lib.hid (Away.refl [] W)
  have HAP := Lib.hid hp.wf.ad
  obtain ⟨q, hq⟩ : ∃ q, q = mendP p := ⟨_, rfl⟩
  have HQW : Hid (Wf q) := by rw [hq]; exact mend_wf hp.wf
  have HQR : Hid (rightP q = true) := by rw [hq]; exact mend_right hp.wf
  have HQA := Lib.hid HQW.out.ad
  have HF := Lib.hid ((right_iff q).1 HQR.out)
  obtain ⟨k, hk⟩ : ∃ k, bits .and .i64 n 15 = k := ⟨_, rfl⟩
  have hk15 := and15i n
  rw [hk] at hk15
  obtain ⟨F, hF⟩ : ∃ k, bits .and .i64 m 65535 = k := ⟨_, rfl⟩
  have hFb := and65535 m
  rw [hF] at hFb
  obtain ⟨J, hJ⟩ : ∃ k, bits .and .i64 m 7 = k := ⟨_, rfl⟩
  have hJb := and7 m
  rw [hJ] at hJb
  obtain ⟨K, hK⟩ : ∃ k, bits .and .i64 m 6 = k := ⟨_, rfl⟩
  have hKb := and6 m
  rw [hK] at hKb
  have hpos := Lib.hid hg.pos
  clear hg hp
  go_enter Tryd.func7, Tryd.ntmps7
  go_wp2_with (refine wpList_box28 rfl _ rfl p _ _ rfl ?_; refine Hid.out ?_)
  refine Lib.hid ?_
  intro g3 w1 hg_g3 hb haw
  replace HG := Lib.hid (HG.out.on haw)
  replace HP := Lib.hid (HP.out.on haw)
  replace HA := Lib.hid (HA.out.on haw)
  clear haw
  have HB3 := Lib.hid hb
  clear hb
  go_wp2_with fail
  refine (alive_c _ HG.out).mono ?_
  rintro E w2 ⟨rfl, haw⟩
  replace HG := Lib.hid (HG.out.on haw)
  replace HP := Lib.hid (HP.out.on haw)
  replace HA := Lib.hid (HA.out.on haw)
  replace HB3 := Lib.hid (HB3.out.on haw)
  clear haw
  have hsz2 := HA.out.size
  go_wp2_with (first | (refine wpList_load28 rfl _ rfl _ rfl p _ _ (by exact HB3.out) HAP.out ?_))
  refine (mended_c p _ _ _ HP.out).mono ?_
  rw [← hq]
  rintro E w3 ⟨ou, du, rfl, hmi, haw⟩
  replace HG := Lib.hid (HG.out.on haw)
  replace HP := Lib.hid (HP.out.on haw)
  replace HA := Lib.hid (HA.out.on haw)
  replace HB3 := Lib.hid (HB3.out.on haw)
  clear haw
  have HQ := Lib.hid hmi
  obtain ⟨oa, on, oc, rfl⟩ := hmi.o.shp
  obtain ⟨da, dn, dc, rfl⟩ := hmi.d.shp
  have hlo := Lib.hid hmi.o.lt
  have hld := Lib.hid hmi.d.lt
  have hon : q.o.length = on := (Sl.of (hmi.o.sl HQW.out.o HQW.out.ol)).1
  have hdn : q.d.length = dn := (Sl.of (hmi.d.sl HQW.out.d HQW.out.dn)).1
  have hdc := (Sl.of (hmi.d.sl HQW.out.d HQW.out.dn)).2.1
  clear hmi hq
  have hsz := HA.out.size
  clear HB3 HP
  go_wp2_with (first | (refine wpList_new28 rfl rfl rfl _ _ rfl q (.slice oa on oc) (.slice da dn dc) (fun _ => rfl) (fun _ => rfl) HQA.out rfl rfl ?_; refine Hid.out ?_))
  refine Lib.hid ?_
  intro g7 w4 hg_g7 hb haw
  replace HG := Lib.hid (HG.out.on haw)
  replace HA := Lib.hid (HA.out.on haw)
  replace HQ := Lib.hid (HQ.out.on haw)
  clear haw
  have HB7 := Lib.hid hb
  clear hb
  have hp0 := hpos.out
  have hb7l := HB7.out.lt
  have HNO : Hid (∀ k, (Value.slice oa on oc).ownBlock = some k → k ≠ g7 ∧ k < w3.heap.size ∧ (Value.slice da dn dc).ownBlock ≠ some k) := fun k hk => by have := hlo.out k hk; exact ⟨by omega, this, HQ.out.ap k hk⟩
  have HND : Hid (∀ k, (Value.slice da dn dc).ownBlock = some k → k ≠ g7 ∧ k < w3.heap.size ∧ (Value.slice oa on oc).ownBlock ≠ some k) := fun k hk => by have := hld.out k hk; exact ⟨by omega, this, fun e => HQ.out.ap k e hk⟩
  have hW7 : 0 < g7 := by omega
  have KW : Hid (∀ w', Away [g7] w4 w' → Glob w' ∧ Away [] W w' ∧ Sl w' (.slice oa on oc) q.o ∧ Sl w' (.slice da dn dc) q.d) := fun w' h => ⟨HG.out.away h (by simp; omega), HA.out.next h (fun k hk => .inr (by simp at hk; omega)), (HQ.out.o.away h (fun k hk => by simpa using (HNO.out k hk).1)).sl HQW.out.o HQW.out.ol, (HQ.out.d.away h (fun k hk => by simpa using (HND.out k hk).1)).sl HQW.out.d HQW.out.dn⟩
  go_upto_block 0 with fail
  go_cut [] (fun wc => ∃ z oz dz, rightP z = false ∧ Glob wc ∧ Away [] W wc ∧ BoxP wc g7 z oz dz ∧ Pkt wc z oz dz)
  case first =>
    obtain rfl | rfl | rfl | rfl | rfl | rfl | rfl | rfl | rfl | rfl | rfl | rfl | rfl | rfl | rfl | rfl : k = 0 ∨ k = 1 ∨ k = 2 ∨ k = 3 ∨ k = 4 ∨ k = 5 ∨ k = 6 ∨ k = 7 ∨ k = 8 ∨ k = 9 ∨ k = 10 ∨ k = 11 ∨ k = 12 ∨ k = 13 ∨ k = 14 ∨ k = 15 := by omega
    · have c2 := (HB7.out.cells HQA.out).v
      have c3 := HB7.out.free 0
      go_wp2_with fail
      go_meet
      obtain ⟨k1, k2, k5, k6⟩ := KW.out _ (away_put (w := w4) (g := g7) 0 (.int .i64 (6)))
      refine ⟨{ q with v := 6 }, (.slice oa on oc), (.slice da dn dc), ?_, k1, k2, HB7.out.put 0 (.int .i64 (6)) ((csP_set HQA.out _ _).1 _), ⟨{ HQW.out with v := by simp [i64ok] }, k5, k6⟩⟩
      exact not_right (fun h _ => by have := h.v; simp at this)
    · have c2 := (HB7.out.cells HQA.out).tos
      have c3 := HB7.out.free 1
      go_wp2_with fail
      go_meet
      obtain ⟨k1, k2, k5, k6⟩ := KW.out _ (away_put (w := w4) (g := g7) 1 (.int .i64 (256 + F)))
      refine ⟨{ q with tos := 256 + F }, (.slice oa on oc), (.slice da dn dc), ?_, k1, k2, HB7.out.put 1 (.int .i64 (256 + F)) ((csP_set HQA.out _ _).2.1 _), ⟨{ HQW.out with tos := by simp only [i64ok]; omega }, k5, k6⟩⟩
      exact not_right (fun h _ => by have := h.t1; simp at this; omega)
    · have c2 := (HB7.out.cells HQA.out).tos
      have c3 := HB7.out.free 1
      go_wp2_with fail
      go_meet
      obtain ⟨k1, k2, k5, k6⟩ := KW.out _ (away_put (w := w4) (g := g7) 1 (.int .i64 (-(256 + F))))
      refine ⟨{ q with tos := -(256 + F) }, (.slice oa on oc), (.slice da dn dc), ?_, k1, k2, HB7.out.put 1 (.int .i64 (-(256 + F))) ((csP_set HQA.out _ _).2.1 _), ⟨{ HQW.out with tos := by simp only [i64ok]; omega }, k5, k6⟩⟩
      exact not_right (fun h _ => by have := h.t0; simp at this; omega)
    · have c2 := (HB7.out.cells HQA.out).flow
      have c3 := HB7.out.free 2
      go_wp2_with fail
      go_meet
      obtain ⟨k1, k2, k5, k6⟩ := KW.out _ (away_put (w := w4) (g := g7) 2 (.int .i64 (256 + F)))
      refine ⟨{ q with flow := 256 + F }, (.slice oa on oc), (.slice da dn dc), ?_, k1, k2, HB7.out.put 2 (.int .i64 (256 + F)) ((csP_set HQA.out _ _).2.2.1 _), ⟨{ HQW.out with flow := by simp only [i64ok]; omega }, k5, k6⟩⟩
      exact not_right (fun h _ => by have := h.flow; simp at this; omega)
    · obtain rfl | rfl | rfl | rfl | rfl | rfl | rfl | rfl : J = 0 ∨ J = 1 ∨ J = 2 ∨ J = 3 ∨ J = 4 ∨ J = 5 ∨ J = 6 ∨ J = 7 := by omega
      · have c2 := range_cell HB7.out.srow 4 (q.sb[4]?.getD 0) (by rw [List.getElem?_eq_getElem (by rw [HQA.out.1]; omega)]; rfl)
        simp only [Nat.reduceAdd] at c2
        have c3 := HB7.out.free 8
        generalize q.sb[4]?.getD 0 = old at c2
        go_wp2_with fail
        go_meet
        obtain ⟨k1, k2, k5, k6⟩ := KW.out _ (away_put (w := w4) (g := g7) 8 (.int .u8 1))
        refine ⟨{ q with sb := q.sb.set 4 1 }, (.slice oa on oc), (.slice da dn dc), ?_, k1, k2, HB7.out.put 8 (.int .u8 1) (csP_sb _ _ 4 (by rw [HQA.out.1]; omega) 1), ⟨{ HQW.out with sl := by rw [List.length_set]; exact HQW.out.sl, sb := fun y hy => by rcases List.mem_or_eq_of_mem_set hy with h | h; exact HQW.out.sb y h; subst h; omega }, k5, k6⟩⟩
        exact not_right (fun h _ => by
          have := congrArg (fun l => l[0]?) h.sb
          have hl := HQA.out.1
          simp [z12, hl] at this)
      · have c2 := range_cell HB7.out.srow 5 (q.sb[5]?.getD 0) (by rw [List.getElem?_eq_getElem (by rw [HQA.out.1]; omega)]; rfl)
        simp only [Nat.reduceAdd] at c2
        have c3 := HB7.out.free 9
        generalize q.sb[5]?.getD 0 = old at c2
        go_wp2_with fail
        go_meet
        obtain ⟨k1, k2, k5, k6⟩ := KW.out _ (away_put (w := w4) (g := g7) 9 (.int .u8 1))
        refine ⟨{ q with sb := q.sb.set 5 1 }, (.slice oa on oc), (.slice da dn dc), ?_, k1, k2, HB7.out.put 9 (.int .u8 1) (csP_sb _ _ 5 (by rw [HQA.out.1]; omega) 1), ⟨{ HQW.out with sl := by rw [List.length_set]; exact HQW.out.sl, sb := fun y hy => by rcases List.mem_or_eq_of_mem_set hy with h | h; exact HQW.out.sb y h; subst h; omega }, k5, k6⟩⟩
        exact not_right (fun h _ => by
          have := congrArg (fun l => l[1]?) h.sb
          have hl := HQA.out.1
          simp [z12, hl] at this)
      · have c2 := range_cell HB7.out.srow 6 (q.sb[6]?.getD 0) (by rw [List.getElem?_eq_getElem (by rw [HQA.out.1]; omega)]; rfl)
        simp only [Nat.reduceAdd] at c2
        have c3 := HB7.out.free 10
        generalize q.sb[6]?.getD 0 = old at c2
        go_wp2_with fail
        go_meet
        obtain ⟨k1, k2, k5, k6⟩ := KW.out _ (away_put (w := w4) (g := g7) 10 (.int .u8 1))
        refine ⟨{ q with sb := q.sb.set 6 1 }, (.slice oa on oc), (.slice da dn dc), ?_, k1, k2, HB7.out.put 10 (.int .u8 1) (csP_sb _ _ 6 (by rw [HQA.out.1]; omega) 1), ⟨{ HQW.out with sl := by rw [List.length_set]; exact HQW.out.sl, sb := fun y hy => by rcases List.mem_or_eq_of_mem_set hy with h | h; exact HQW.out.sb y h; subst h; omega }, k5, k6⟩⟩
        exact not_right (fun h _ => by
          have := congrArg (fun l => l[2]?) h.sb
          have hl := HQA.out.1
          simp [z12, hl] at this)
      · have c2 := range_cell HB7.out.srow 7 (q.sb[7]?.getD 0) (by rw [List.getElem?_eq_getElem (by rw [HQA.out.1]; omega)]; rfl)
        simp only [Nat.reduceAdd] at c2
        have c3 := HB7.out.free 11
        generalize q.sb[7]?.getD 0 = old at c2
        go_wp2_with fail
        go_meet
        obtain ⟨k1, k2, k5, k6⟩ := KW.out _ (away_put (w := w4) (g := g7) 11 (.int .u8 1))
        refine ⟨{ q with sb := q.sb.set 7 1 }, (.slice oa on oc), (.slice da dn dc), ?_, k1, k2, HB7.out.put 11 (.int .u8 1) (csP_sb _ _ 7 (by rw [HQA.out.1]; omega) 1), ⟨{ HQW.out with sl := by rw [List.length_set]; exact HQW.out.sl, sb := fun y hy => by rcases List.mem_or_eq_of_mem_set hy with h | h; exact HQW.out.sb y h; subst h; omega }, k5, k6⟩⟩
        exact not_right (fun h _ => by
          have := congrArg (fun l => l[3]?) h.sb
          have hl := HQA.out.1
          simp [z12, hl] at this)
      · have c2 := range_cell HB7.out.srow 8 (q.sb[8]?.getD 0) (by rw [List.getElem?_eq_getElem (by rw [HQA.out.1]; omega)]; rfl)
        simp only [Nat.reduceAdd] at c2
        have c3 := HB7.out.free 12
        generalize q.sb[8]?.getD 0 = old at c2
        go_wp2_with fail
        go_meet
        obtain ⟨k1, k2, k5, k6⟩ := KW.out _ (away_put (w := w4) (g := g7) 12 (.int .u8 1))
        refine ⟨{ q with sb := q.sb.set 8 1 }, (.slice oa on oc), (.slice da dn dc), ?_, k1, k2, HB7.out.put 12 (.int .u8 1) (csP_sb _ _ 8 (by rw [HQA.out.1]; omega) 1), ⟨{ HQW.out with sl := by rw [List.length_set]; exact HQW.out.sl, sb := fun y hy => by rcases List.mem_or_eq_of_mem_set hy with h | h; exact HQW.out.sb y h; subst h; omega }, k5, k6⟩⟩
        exact not_right (fun h _ => by
          have := congrArg (fun l => l[4]?) h.sb
          have hl := HQA.out.1
          simp [z12, hl] at this)
      · have c2 := range_cell HB7.out.srow 9 (q.sb[9]?.getD 0) (by rw [List.getElem?_eq_getElem (by rw [HQA.out.1]; omega)]; rfl)
        simp only [Nat.reduceAdd] at c2
        have c3 := HB7.out.free 13
        generalize q.sb[9]?.getD 0 = old at c2
        go_wp2_with fail
        go_meet
        obtain ⟨k1, k2, k5, k6⟩ := KW.out _ (away_put (w := w4) (g := g7) 13 (.int .u8 1))
        refine ⟨{ q with sb := q.sb.set 9 1 }, (.slice oa on oc), (.slice da dn dc), ?_, k1, k2, HB7.out.put 13 (.int .u8 1) (csP_sb _ _ 9 (by rw [HQA.out.1]; omega) 1), ⟨{ HQW.out with sl := by rw [List.length_set]; exact HQW.out.sl, sb := fun y hy => by rcases List.mem_or_eq_of_mem_set hy with h | h; exact HQW.out.sb y h; subst h; omega }, k5, k6⟩⟩
        exact not_right (fun h _ => by
          have := congrArg (fun l => l[5]?) h.sb
          have hl := HQA.out.1
          simp [z12, hl] at this)
      · have c2 := range_cell HB7.out.srow 10 (q.sb[10]?.getD 0) (by rw [List.getElem?_eq_getElem (by rw [HQA.out.1]; omega)]; rfl)
        simp only [Nat.reduceAdd] at c2
        have c3 := HB7.out.free 14
        generalize q.sb[10]?.getD 0 = old at c2
        go_wp2_with fail
        go_meet
        obtain ⟨k1, k2, k5, k6⟩ := KW.out _ (away_put (w := w4) (g := g7) 14 (.int .u8 1))
        refine ⟨{ q with sb := q.sb.set 10 1 }, (.slice oa on oc), (.slice da dn dc), ?_, k1, k2, HB7.out.put 14 (.int .u8 1) (csP_sb _ _ 10 (by rw [HQA.out.1]; omega) 1), ⟨{ HQW.out with sl := by rw [List.length_set]; exact HQW.out.sl, sb := fun y hy => by rcases List.mem_or_eq_of_mem_set hy with h | h; exact HQW.out.sb y h; subst h; omega }, k5, k6⟩⟩
        exact not_right (fun h _ => by
          have := congrArg (fun l => l[6]?) h.sb
          have hl := HQA.out.1
          simp [z12, hl] at this)
      · have c2 := range_cell HB7.out.srow 11 (q.sb[11]?.getD 0) (by rw [List.getElem?_eq_getElem (by rw [HQA.out.1]; omega)]; rfl)
        simp only [Nat.reduceAdd] at c2
        have c3 := HB7.out.free 15
        generalize q.sb[11]?.getD 0 = old at c2
        go_wp2_with fail
        go_meet
        obtain ⟨k1, k2, k5, k6⟩ := KW.out _ (away_put (w := w4) (g := g7) 15 (.int .u8 1))
        refine ⟨{ q with sb := q.sb.set 11 1 }, (.slice oa on oc), (.slice da dn dc), ?_, k1, k2, HB7.out.put 15 (.int .u8 1) (csP_sb _ _ 11 (by rw [HQA.out.1]; omega) 1), ⟨{ HQW.out with sl := by rw [List.length_set]; exact HQW.out.sl, sb := fun y hy => by rcases List.mem_or_eq_of_mem_set hy with h | h; exact HQW.out.sb y h; subst h; omega }, k5, k6⟩⟩
        exact not_right (fun h _ => by
          have := congrArg (fun l => l[7]?) h.sb
          have hl := HQA.out.1
          simp [z12, hl] at this)
    · have c2 := (HB7.out.cells HQA.out).dv'
      have c3 := HB7.out.free 20
      go_wp2_with fail
      go_meet
      obtain ⟨k1, k2, k5, k6⟩ := KW.out _ (away_put (w := w4) (g := g7) 20 (.int .i64 (6)))
      refine ⟨{ q with dv := 6 }, (.slice oa on oc), (.slice da dn dc), ?_, k1, k2, HB7.out.put 20 (.int .i64 (6)) ((csP_set HQA.out _ _).2.2.2.2.1 _), ⟨{ HQW.out with dv := by simp [i64ok] }, k5, k6⟩⟩
      exact not_right (fun h _ => by have := h.dv; simp at this)
    · have c2 := (HB7.out.cells HQA.out).proto
      have c3 := HB7.out.free 37
      go_wp2_with fail
      go_meet
      obtain ⟨k1, k2, k5, k6⟩ := KW.out _ (away_put (w := w4) (g := g7) 37 (.int .i64 (256 + F)))
      refine ⟨{ q with proto := 256 + F }, (.slice oa on oc), (.slice da dn dc), ?_, k1, k2, HB7.out.put 37 (.int .i64 (256 + F)) ((csP_set HQA.out _ _).2.2.2.2.2.1 _), ⟨{ HQW.out with proto := by simp only [i64ok]; omega }, k5, k6⟩⟩
      exact not_right (fun h _ => by have := h.r1; simp at this; omega)
    · have c2 := (HB7.out.cells HQA.out).ttl
      have c3 := HB7.out.free 38
      go_wp2_with fail
      go_meet
      obtain ⟨k1, k2, k5, k6⟩ := KW.out _ (away_put (w := w4) (g := g7) 38 (.int .i64 (-1)))
      refine ⟨{ q with ttl := -1 }, (.slice oa on oc), (.slice da dn dc), ?_, k1, k2, HB7.out.put 38 (.int .i64 (-1)) ((csP_set HQA.out _ _).2.2.2.2.2.2.1 _), ⟨{ HQW.out with ttl := by simp [i64ok] }, k5, k6⟩⟩
      exact not_right (fun h _ => by have := h.l0; simp at this)
    · have c2 := (HB7.out.cells HQA.out).id
      have c3 := HB7.out.free 39
      go_wp2_with fail
      go_meet
      obtain ⟨k1, k2, k5, k6⟩ := KW.out _ (away_put (w := w4) (g := g7) 39 (.int .u32 (65536 + (256 + F))))
      refine ⟨{ q with id := 65536 + (256 + F) }, (.slice oa on oc), (.slice da dn dc), ?_, k1, k2, HB7.out.put 39 (.int .u32 (65536 + (256 + F))) ((csP_set HQA.out _ _).2.2.2.2.2.2.2.1 _), ⟨{ HQW.out with id0 := by show (0 : Int) ≤ 65536 + (256 + F); omega, id1 := by show 65536 + (256 + F) ≤ (4294967295 : Int); omega }, k5, k6⟩⟩
      exact not_right (fun h _ => by have := h.id; simp at this; omega)
    · have c2 := (HB7.out.cells HQA.out).frag
      have c3 := HB7.out.free 42
      go_wp2_with fail
      go_meet
      obtain ⟨k1, k2, k5, k6⟩ := KW.out _ (away_put (w := w4) (g := g7) 42 (.bool true))
      refine ⟨{ q with frag := true }, (.slice oa on oc), (.slice da dn dc), ?_, k1, k2, HB7.out.put 42 (.bool true) ((csP_set HQA.out _ _).2.2.2.2.2.2.2.2.2.2.1 _), ⟨{ HQW.out with  }, k5, k6⟩⟩
      exact not_right (fun h _ => by have := h.frag; simp at this)
    · have hof := or1 q.off HF.out.1.o0 HF.out.1.o1 HF.out.1.o8
      have ho0 := HF.out.1.o0
      have ho1 := HF.out.1.o1
      have c2 := (HB7.out.cells HQA.out).off
      have c3 := HB7.out.free 43
      go_wp2_with fail
      go_meet
      obtain ⟨k1, k2, k5, k6⟩ := KW.out _ (away_put (w := w4) (g := g7) 43 (.int .i64 (q.off + 1 + K)))
      refine ⟨{ q with off := q.off + 1 + K }, (.slice oa on oc), (.slice da dn dc), ?_, k1, k2, HB7.out.put 43 (.int .i64 (q.off + 1 + K)) ((csP_set HQA.out _ _).2.2.2.2.2.2.2.2.2.2.2.1 _), ⟨{ HQW.out with off := by simp only [i64ok]; omega }, k5, k6⟩⟩
      exact not_right (fun h _ => by have := h.o8; have h2 := HF.out.1.o8; simp at this; omega)
    · have c2 := (HB7.out.cells HQA.out).off
      have c3 := HB7.out.free 43
      go_wp2_with fail
      go_meet
      obtain ⟨k1, k2, k5, k6⟩ := KW.out _ (away_put (w := w4) (g := g7) 43 (.int .i64 (65536 + 8 * F)))
      refine ⟨{ q with off := 65536 + 8 * F }, (.slice oa on oc), (.slice da dn dc), ?_, k1, k2, HB7.out.put 43 (.int .i64 (65536 + 8 * F)) ((csP_set HQA.out _ _).2.2.2.2.2.2.2.2.2.2.2.1 _), ⟨{ HQW.out with off := by simp only [i64ok]; omega }, k5, k6⟩⟩
      exact not_right (fun h _ => by have := h.o1; simp at this; omega)
    · have c2 := (HB7.out.cells HQA.out).more
      have c3 := HB7.out.free 41
      have hb8 := HB7.out.put 41 (.bool true) ((csP_set HQA.out _ _).2.2.2.2.2.2.2.2.2.1 true)
      have hA8 := away_put (w := w4) (g := g7) 41 (.bool true)
      have HB8 := Lib.hid hb8
      have HO8 := Lib.hid (HQ.out.o.away hA8 (fun k hk => by simpa using (HNO.out k hk).1))
      have HD8 := Lib.hid (HQ.out.d.away hA8 (fun k hk => by simpa using (HND.out k hk).1))
      have HG8 := Lib.hid (HG.out.away hA8 (by simp; omega))
      have HA8 : Hid (Away [] W _) := HA.out.next hA8 (fun k hk => .inr (by simp at hk; omega))
      have hsz8 : w4.heap.size = (w4.setCell ⟨g7, 41, none⟩ (.bool true)).heap.size := by simp
      clear hb8 hA8
      go_upto_region 33 with fail
      clear c2 c3
      generalize w4.setCell ⟨g7, 41, none⟩ (.bool true) = w8 at *
      have hAD8 : Ad { q with more := true } := HQA.out
      have c45 := (HB8.out.cells hAD8).d
      have hm0 : dn / 8 * 8 ≤ q.d.length := by omega
      have hsl := slice_h da dn dc (dn / 8 * 8) ((dn : Int) / 8 * 8) (by omega) (by omega)
      have hdl := HF.out.1.all
      have hD9 := HD8.out.take hm0
      have htl : (q.d.take (dn / 8 * 8)).length = dn / 8 * 8 := by simp; omega
      have HD9 := Lib.hid hD9
      clear hD9
      go_wp2_with (at_builtin; refine wpList_app rfl _ _ rfl _ (q.d.take (dn / 8 * 8)) [1, 2, 3] rfl (by exact HD9.out.away ((Away.refl [] _).alloc _) (by simp)) ⟨w8.heap.size, 0, none⟩ 3 3 rfl rfl (lit_cells _ [1, 2, 3] _ rfl) (by rw [htl]; omega) ?_; refine Hid.out ?_)
      refine Lib.hid ?_
      intro v' w9 hown9 hgr hmov
      have hA9 : Away (Value.slice da dn dc).ownBlock.toList w8 w9 := ((Away.refl _ w8).alloc _).grown hgr (fun k hk => .inl (by rw [own_len da _ _ dn dc] at hk; simp [hk]))
      have hz9 := hA9.size
      have hv9 : ∀ k, v'.ownBlock = some k → k ≠ g7 := fun k hk => by
        rcases hmov k hk with h1 | h1
        · exact (HND.out k (by rw [own_len da _ _ dn dc] at h1; exact h1)).1
        · have : w8.heap.size + 1 ≤ k := by simpa using h1
          omega
      have HB9 := Lib.hid (HB8.out.away hA9 (fun hx => (HND.out g7 (by simpa using hx)).1 rfl))
      have HO9 := Lib.hid (HO8.out.away hA9 (fun k hk hx => (HNO.out k hk).2.2 (by simpa using hx)))
      have HG9 := Lib.hid (HG8.out.away hA9 (fun hx => by
        have h1 := HQ.out.nd 0 (by simpa using hx)
        omega))
      have HA9 : Hid (Away [] W w9) := HA8.out.next hA9 (fun k hk => .inr (by have h1 := HQ.out.nd k (by simpa using hk); omega))
      have HV9 := Lib.hid hown9
      obtain ⟨x1, x2, x3, rfl⟩ := hown9.shp
      have s45 := (HB9.out.cells hAD8).d
      have t45 := HB9.out.free 45
      have hlen : (q.d.take (dn / 8 * 8) ++ [1, 2, 3]).length = dn / 8 * 8 + 3 := by rw [List.length_append, htl]; rfl
      clear hA9 hgr hmov hown9 c45 hsl
      go_wp2_with fail
      go_meet
      have hA10 := away_put (w := w9) (g := g7) 45 (.slice x1 x2 x3)
      have hwd : Bytes (q.d.take (dn / 8 * 8) ++ [1, 2, 3]) := (HQW.out.d.take _).app (by unfold Bytes; decide)
      have hwn : (q.d.take (dn / 8 * 8) ++ [1, 2, 3]).length ≤ 140737488355328 := by omega
      refine ⟨{ q with more := true, d := q.d.take (dn / 8 * 8) ++ [1, 2, 3] }, (.slice oa on oc), .slice x1 x2 x3, ?_, HG9.out.away hA10 (by simp; omega), HA9.out.next hA10 (fun k hk => .inr (by simp at hk; omega)), HB9.out.put 45 (.slice x1 x2 x3) ((csP_set hAD8 _ _).2.2.2.2.2.2.2.2.2.2.2.2.2 _ _), ⟨{ HQW.out with d := hwd, dn := hwn }, (HO9.out.away hA10 (fun k hk => by simpa using (HNO.out k hk).1)).sl HQW.out.o HQW.out.ol, (HV9.out.away hA10 (fun k hk => by simpa using hv9 k hk)).sl hwd hwn⟩⟩
      exact not_right (fun h _ => by
        have h8 := h.m8 rfl
        have h9 : (q.d.take (dn / 8 * 8) ++ [1, 2, 3]).length % 8 = 0 := h8
        rw [hlen] at h9
        omega)
    · have c2 := (HB7.out.cells HQA.out).off
      have c3 := HB7.out.free 43
      have c4 := (HB7.out.cells HQA.out).d
      have c5 := HB7.out.free 45
      go_wp2_with fail
      go_meet
      have hA := (away_put (w := w4) (g := g7) 43 (.int .i64 8)).trans (away_put (g := g7) 45 (.slice none 0 0))
      obtain ⟨k1, k2, k5, k6⟩ := KW.out _ hA
      refine ⟨{ q with off := 8, d := [] }, (.slice oa on oc), .slice none 0 0, ?_, k1, k2, (HB7.out.put 43 (.int .i64 8) ((csP_set HQA.out _ _).2.2.2.2.2.2.2.2.2.2.2.1 8)).put 45 (.slice none 0 0) ((csP_set (by exact HQA.out) _ _).2.2.2.2.2.2.2.2.2.2.2.2.2 _ _), ⟨{ HQW.out with off := by simp [i64ok], d := Bytes.nil, dn := by simp }, k5, Sl.nil _⟩⟩
      exact not_right (fun h _ => by have := h.f0 (by show (0 : Int) < 8; omega); simp at this)
    · have c44 := (HB7.out.cells HQA.out).o
      have hol := HQW.out.ol
      have hol4 := valid_len HF.out.2
      go_wp2_with (at_builtin; refine wpList_app rfl _ _ rfl _ q.o [1] rfl (by exact HQ.out.o.away ((Away.refl [] _).alloc _) (by simp)) ⟨w4.heap.size, 0, none⟩ 1 1 rfl rfl (lit_cells _ [1] _ rfl) (by omega) ?_; refine Hid.out ?_)
      refine Lib.hid ?_
      intro v' w9 hown9 hgr hmov
      have hA9 : Away (Value.slice oa on oc).ownBlock.toList w4 w9 := ((Away.refl _ w4).alloc _).grown hgr (fun k hk => .inl (by simp [hk]))
      have hz9 := hA9.size
      have hv9 : ∀ k, v'.ownBlock = some k → k ≠ g7 := fun k hk => by
        rcases hmov k hk with h1 | h1
        · exact (HNO.out k h1).1
        · have : w4.heap.size + 1 ≤ k := by simpa using h1
          omega
      have HB9 := Lib.hid (HB7.out.away hA9 (fun hx => (HNO.out g7 (by simpa using hx)).1 rfl))
      have HD9 := Lib.hid (HQ.out.d.away hA9 (fun k hk hx => (HND.out k hk).2.2 (by simpa using hx)))
      have HG9 := Lib.hid (HG.out.away hA9 (fun hx => by
        have h1 := HQ.out.no 0 (by simpa using hx)
        omega))
      have HA9 : Hid (Away [] W w9) := HA.out.next hA9 (fun k hk => .inr (by have h1 := HQ.out.no k (by simpa using hk); omega))
      have HV9 := Lib.hid hown9
      obtain ⟨x1, x2, x3, rfl⟩ := hown9.shp
      have s44 := (HB9.out.cells HQA.out).o
      have t44 := HB9.out.free 44
      clear hA9 hgr hmov hown9 c44
      go_wp2_with fail
      go_meet
      have hA10 := away_put (w := w9) (g := g7) 44 (.slice x1 x2 x3)
      have hwd : Bytes (q.o ++ [1]) := HQW.out.o.app (by unfold Bytes; decide)
      have hwn : (q.o ++ [1]).length ≤ 140737488355328 := by simp; omega
      refine ⟨{ q with o := q.o ++ [1] }, .slice x1 x2 x3, (.slice da dn dc), ?_, HG9.out.away hA10 (by simp; omega), HA9.out.next hA10 (fun k hk => .inr (by simp at hk; omega)), HB9.out.put 44 (.slice x1 x2 x3) ((csP_set HQA.out _ _).2.2.2.2.2.2.2.2.2.2.2.2.1 _ _), ⟨{ HQW.out with o := hwd, ol := hwn }, (HV9.out.away hA10 (fun k hk => by simpa using hv9 k hk)).sl hwd hwn, (HD9.out.away hA10 (fun k hk => by simpa using (HND.out k hk).1)).sl HQW.out.d HQW.out.dn⟩⟩
      exact not_right (fun _ h => by
        have h4 := (valid_len h).2
        simp at h4
        omega)
    · have c44 := (HB7.out.cells HQA.out).o
      have t44 := HB7.out.free 44
      obtain ⟨u, hu⟩ : ∃ u : Value, u = .slice (some ⟨w4.heap.size, 0, none⟩) 4 4 := ⟨_, rfl⟩
      have hA5 := away_put (w := w4) (g := g7) 44 u
      have e5 : (w4.setCell ⟨g7, 44, none⟩ u).heap.size = w4.heap.size := by simp
      have hb5 := HB7.out.put 44 u ((csP_set HQA.out _ _).2.2.2.2.2.2.2.2.2.2.2.2.1 [7, 1, 1, 1] u)
      have hrl := Row.lit (w4.setCell ⟨g7, 44, none⟩ u) [7, 1, 1, 1] (by unfold Bytes; decide) (by simp)
      rw [e5] at hrl
      have hA6 : Away [] (w4.setCell ⟨g7, 44, none⟩ u) ((w4.setCell ⟨g7, 44, none⟩ u).alloc (.cells (([7, 1, 1, 1] : List Int).map (Value.int .u8)).toArray 5)) := (Away.refl [] _).alloc _
      obtain ⟨k1, k2, k5, k6⟩ := KW.out _ (hA5.next hA6 (by simp))
      have HK : Hid (∃ z oz dz, rightP z = false ∧ Glob ((w4.setCell ⟨g7, 44, none⟩ u).alloc (.cells (([7, 1, 1, 1] : List Int).map (Value.int .u8)).toArray 5)) ∧ Away [] W ((w4.setCell ⟨g7, 44, none⟩ u).alloc (.cells (([7, 1, 1, 1] : List Int).map (Value.int .u8)).toArray 5)) ∧ BoxP ((w4.setCell ⟨g7, 44, none⟩ u).alloc (.cells (([7, 1, 1, 1] : List Int).map (Value.int .u8)).toArray 5)) g7 z oz dz ∧ Pkt ((w4.setCell ⟨g7, 44, none⟩ u).alloc (.cells (([7, 1, 1, 1] : List Int).map (Value.int .u8)).toArray 5)) z oz dz) :=
        ⟨{ q with o := [7, 1, 1, 1] }, u, (.slice da dn dc), not_right (fun _ h => absurd (show validP [7, 1, 1, 1] = true from h) (by decide +kernel)), k1, k2, hb5.on hA6, ⟨{ HQW.out with o := show Bytes [7, 1, 1, 1] by unfold Bytes; decide, ol := by simp }, ⟨_, _, hu, by simp, by simp, hrl⟩, k6⟩⟩
      clear hA5 e5 hb5 hrl hA6 k1 k2 k5 k6
      subst hu
      go_wp2_with fail
      go_meet
      exact HK.out
  case rest =>
    clear HG HA HB7 HQ KW
    obtain ⟨z, oz, dz, hzr, k1, k2, k3, k4⟩ := hcut
    have HG := Lib.hid k1
    have HA := Lib.hid k2
    have HB7 := Lib.hid k3
    have HZ := Lib.hid k4
    have HZR := Lib.hid hzr
    have HZW := Lib.hid k4.wf
    have HZA := Lib.hid k4.wf.ad
    clear k1 k2 k3 k4 hzr
    go_wp2_with (first | (refine wpList_load28 rfl _ rfl _ rfl z _ _ (by exact HB7.out) HZA.out ?_))
    refine (ownP_c z _ _ _ HZ.out).mono ?_
    rintro E w10 ⟨o10, d10, rfl, hmi, haw⟩
    replace HG := Lib.hid (HG.out.on haw)
    replace HA := Lib.hid (HA.out.on haw)
    replace HB7 := Lib.hid (HB7.out.on haw)
    replace HZ := Lib.hid (HZ.out.on haw)
    clear haw
    have HQ1 := Lib.hid (hmi.pkt HZW.out)
    clear hmi
    go_wp2_with fail
    refine (build_c z _ _ _ HQ1.out HG.out).mono ?_
    rintro E w11 ⟨v10, rfl, hown, hnew, haw⟩
    replace HG := Lib.hid (HG.out.on haw)
    replace HA := Lib.hid (HA.out.on haw)
    replace HB7 := Lib.hid (HB7.out.on haw)
    replace HZ := Lib.hid (HZ.out.on haw)
    replace HQ1 := Lib.hid (HQ1.out.on haw)
    clear haw
    clear HQ1
    rw [build_no HZR.out] at hown
    rw [build_no HZR.out]
    replace hown : Owns w11 v10 [] := hown
    obtain ⟨a10, c10, hv10, -⟩ := hown.row (by simp) Bytes.nil
    subst hv10
    clear hown hnew
    go_wp2_with (first | (refine wpList_load28 rfl _ rfl _ rfl z _ _ (by exact HB7.out) HZA.out ?_))
    refine (right_c z _ _ _ HZ.out HG.out).mono ?_
    rintro E w12 ⟨rfl, haw⟩
    replace HG := Lib.hid (HG.out.on haw)
    replace HA := Lib.hid (HA.out.on haw)
    replace HB7 := Lib.hid (HB7.out.on haw)
    replace HZ := Lib.hid (HZ.out.on haw)
    clear haw
    rw [HZR.out]
    go_wp2_with (first | (refine wpList_load28 rfl _ rfl _ rfl z _ _ (by exact HB7.out) HZA.out ?_))
    refine (head_c z _ _ _ HZ.out HG.out).mono ?_
    rintro E w13 ⟨rfl, haw⟩
    replace HG := Lib.hid (HG.out.on haw)
    replace HA := Lib.hid (HA.out.on haw)
    replace HB7 := Lib.hid (HB7.out.on haw)
    replace HZ := Lib.hid (HZ.out.on haw)
    clear haw
    rw [headP_no HZR.out]
    go_wp2_with fail
    go_ret
    exact ⟨rfl, HA.out.to_below⟩
namespace ip4Refuses
theorem contract (H : Type) (enc : TypeId × Value → H) (W : World) (base : Nat) (args : Array Value) (ds gs : List (DataW H)) (before : List MemPlace)
    (hval0 : ∀ (j : Nat) t v, Tryd.f7.params[j]? = some t → args[j]? = some v → Value.okWide Tryd.prog W .any base t v)
    (hW : DataW.Whole enc Tryd.prog Tryd.f7.params.toList Rows.ip4RefusesSpec.vars false W args.toList ds gs before)
    (hsz0 : (DataW.weightsEach Tryd.prog (Tryd.f7.params.toList ++ Rows.ip4RefusesSpec.plain.varTypes Tryd.prog) (ds ++ gs)).all (· ≤ reachBytes) = true)
    (hL : laidMetH Tryd.prog Rows.ip4RefusesRow.laid W) :
    Calls Tryd.prog 7 args W fun e W' => ∃ v, e = .returned v ∧ Rows.ip4RefusesSpec.post enc Tryd.prog Tryd.f7 false true false false W args v W' := by
  have hval := hval0
  have hsz := hsz0
  have hW' := hW
  obtain ⟨p, q, hA0, hV, rfl, hfz, hnd⟩ := hW
  have hA : DataW.TrodAll enc Tryd.prog W 0 (fun _ => true) true Tryd.f7.params.toList args.toList ds p := hA0
  rw [Tryd.params7] at hA hval hsz
  obtain ⟨v0, vs0, d0, ds0, p0, q0, hargs, rfl, rfl, h0, r0⟩ := trodAll_cons hA
  obtain ⟨v1, vs1, d1, ds1, p1, q1, rfl, rfl, rfl, h1, r1⟩ := trodAll_cons r0
  obtain ⟨v2, vs2, d2, ds2, p2, q2, rfl, rfl, rfl, h2, r2⟩ := trodAll_cons r1
  obtain ⟨rfl, rfl, rfl⟩ := trodAll_nil r2
  obtain rfl : args = #[v0, v1, v2] := by cases args; simp_all
  obtain ⟨rfl, rfl⟩ := trodVars_none hV
  have k0 := h0
  have lt0 : ∀ x ∈ p0, x.block < W.heap.size := by obtain ⟨m, hm⟩ := k0; exact DataW.trod_lt m _ _ _ hm
  have z0 : ∀ m ∈ d0.weights Tryd.prog 28, m ≤ reachBytes := fun m hm => by
    have := List.all_eq_true.1 hsz m (DataW.weights_mem_each (j := 0) (t := 28) rfl rfl m hm)
    simpa using this
  obtain ⟨x0, ov0, dv0, rfl, w0, ol0, dl0⟩ := open_pkt (hval 0 28 v0 rfl rfl) h0 z0
  obtain ⟨a1, rfl, rfl, rfl, w1⟩ := open_int Tryd.underlying3 (hval 1 3 v1 rfl rfl) h1
  obtain ⟨a2, rfl, rfl, rfl, w2⟩ := open_int Tryd.underlying3 (hval 2 3 v2 rfl rfl) h2
  clear hA0 hval0
  refine (walk x0 ov0 dv0 a1 a2 W (glob_of hL) w0 ol0 dl0 w1 w2).mono fun e W' ⟨he, bel⟩ => ?_
  subst he
  exact ⟨_, rfl, _, _, _, [], _, [], hW', trodAll_mk1 (shut_bool Tryd.underlying4 _), (trodAll_cons_mk (Below.trod laidOut (by kernel_rfl) (of_decide_eq_true (by kernel_rfl)) k0 bel lt0) (trodAll_cons_mk (shut_int Tryd.underlying3 w1) (trodAll_cons_mk (shut_int Tryd.underlying3 w2) trodAll_mk0))), rfl, bel.frame _, fun h => by cases h⟩
theorem laid_met (os : Os) : laidMet Tryd.prog Rows.ip4RefusesRow.laid ((laidWorld Tryd.prog os).forCall (fun _ _ => 0) ⟨#[], #[.agg (csP zeroPk (.slice none 0 0) (.slice none 0 0)), .int .i64 0, .int .i64 0], []⟩).memory :=
  laidMet_of_run' 8 (by kernel_rfl) (by kernel_rfl)
theorem reads (os : Os) {H : Type} (enc : TypeId × Value → H) : ∃ places, DataW.whole enc Tryd.prog ((laidWorld Tryd.prog os).forCall (fun _ _ => 0) ⟨#[], #[.agg (csP zeroPk (.slice none 0 0) (.slice none 0 0)), .int .i64 0, .int .i64 0], []⟩).memory Tryd.f7.params.toList Rows.ip4RefusesSpec.vars false #[.agg (csP zeroPk (.slice none 0 0) (.slice none 0 0)), .int .i64 0, .int .i64 0].toList 8 = some ([.agg [.lit (.int .i64 0), .lit (.int .i64 0), .lit (.int .i64 0), .agg [.lit (.int .i64 0), .agg [.lit (.int .u8 0), .lit (.int .u8 0), .lit (.int .u8 0), .lit (.int .u8 0), .lit (.int .u8 0), .lit (.int .u8 0), .lit (.int .u8 0), .lit (.int .u8 0), .lit (.int .u8 0), .lit (.int .u8 0), .lit (.int .u8 0), .lit (.int .u8 0), .lit (.int .u8 0), .lit (.int .u8 0), .lit (.int .u8 0), .lit (.int .u8 0)]], .agg [.lit (.int .i64 0), .agg [.lit (.int .u8 0), .lit (.int .u8 0), .lit (.int .u8 0), .lit (.int .u8 0), .lit (.int .u8 0), .lit (.int .u8 0), .lit (.int .u8 0), .lit (.int .u8 0), .lit (.int .u8 0), .lit (.int .u8 0), .lit (.int .u8 0), .lit (.int .u8 0), .lit (.int .u8 0), .lit (.int .u8 0), .lit (.int .u8 0), .lit (.int .u8 0)]], .lit (.int .i64 0), .lit (.int .i64 0), .lit (.int .u32 0), .lit (.bool false), .lit (.bool false), .lit (.bool false), .lit (.int .i64 0), .nil, .nil], .lit (.int .i64 0), .lit (.int .i64 0)], [], places) :=
  ⟨[], by kernel_rfl⟩
theorem lifted (os : Os) (started : os.Started) (H : Type) (enc : TypeId × Value → H) (F : Stop.Interp) :
    ReturnsInHanded {} Tryd.checked os 7 .any ((OpenSpec.ofChange Rows.ip4RefusesSpec).preRow enc Tryd.prog Tryd.f7 Rows.ip4RefusesRow.domain false Rows.ip4RefusesRow.laid) (((OpenSpec.ofChange Rows.ip4RefusesSpec).at F).post enc Tryd.prog Tryd.f7 false true false false) := by
  obtain ⟨places, hx⟩ := reads os enc
  refine returnsInHanded_of_row (C := Tryd.checked) (s := OpenSpec.ofChange Rows.ip4RefusesSpec) ownKn started (by kernel_rfl) Tryd.func7
    (witness_row_at (enc := enc) (C := Tryd.checked) false (laidWorld Tryd.prog os) #[.agg (csP zeroPk (.slice none 0 0) (.slice none 0 0)), .int .i64 0, .int .i64 0] rfl (by kernel_rfl) (by kernel_rfl) (by kernel_rfl)
      (OpenSpec.preRow_of_cond 8 hx (by kernel_rfl) (fun k hk => by cases hk) (by kernel_rfl) (laid_met os))) ?_
  intro W base args ds gs before hval hW _ hcond hsz hL hS _
  exact contract H enc W base args ds gs before hval hW hsz hL
theorem said : Rows.Ip4RefusesSaid :=
  OpenClaim.holds_of_cond 7 Tryd.f7 rfl rfl rfl rfl rfl rfl rfl ⟨rfl, rfl, rfl, rfl, rfl⟩ rfl rfl rfl rfl rfl (by kernel_rfl) Tryd.func7 (by kernel_rfl)
    (of_decide_eq_true (by kernel_rfl)) (by unfold Func.isWrapper; first | (rw [if_pos (by decide +kernel)]; kernel_rfl) | (rw [if_neg (by decide +kernel)]; exact ⟨rfl, rfl⟩))
    (fun os started H enc _ F => by rw [OpenClaim.pre_eq_preRow]; exact lifted os started H enc F)
theorem plain (f : FuncId) (fn : Func) (hf : Tryd.pinned.checked.prog.funcNamed "mosaic/mosaiclaw05.Ip4Refuses" = some f) (hfn : Tryd.pinned.checked.prog.funcs[f]? = some fn) :
    false = Tryd.pinned.checked.prog.looks [] ∧ ∀ (j : Nat) t, fn.params[j]? = some t → Tryd.pinned.checked.prog.wantsStandIn t = false := by
  obtain rfl : f = 7 := Option.some.inj ((show Tryd.prog.funcNamed "mosaic/mosaiclaw05.Ip4Refuses" = some 7 by kernel_rfl).symm.trans hf) |>.symm
  obtain rfl : fn = Tryd.f7 := (Option.some.inj (Tryd.func7.symm.trans hfn)).symm
  refine ⟨by kernel_rfl, fun j t ht => ?_⟩
  rw [Tryd.params7] at ht
  have hm := Array.mem_of_getElem? ht
  simp only [List.mem_toArray, List.mem_cons, List.not_mem_nil, or_false] at hm
  have h28 : Tryd.prog.wantsStandIn 28 = false := by kernel_rfl
  have h26 : Tryd.prog.wantsStandIn 26 = false := by kernel_rfl
  have h3 : Tryd.prog.wantsStandIn 3 = false := by kernel_rfl
  rcases hm with rfl | rfl | rfl
  all_goals first | exact h28 | exact h26 | exact h3
theorem card : Rows.Ip4RefusesCardSaid :=
  Claim7.holds_tied_plain_at .later [] _ _ _ _ said (fun _ h => by cases h) (by kernel_rfl) (fun _ h => by cases h) ip4Refuses_row_tie rfl ⟨rfl, rfl⟩ (by kernel_rfl) rfl plain (by kernel_rfl)
end ip4Refuses
theorem ip4Refuses_holds : Rows.Ip4RefusesCardSaid := ip4Refuses.card
#print axioms ip4Refuses_holds
end Go.Proofs.YtkfbhofbajejiaaDoor
