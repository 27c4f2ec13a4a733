/-
  own and right of the laws.
-/
import Derived.Test.YtaicckenpplceaaGreatDoorJoinM
import Derived.Deep.CutRange
namespace Go.Proofs.YtaicckenpplceaaGreatDoor
open Go.ChangeShapes Go.WideShapes Go.ChangeAt Go.RowKit Num
set_option linter.unusedVariables false
set_option maxHeartbeats 4000000
set_option maxRecDepth 100000

namespace R
def smpB (n : Nat) : List Int := (List.range n).map (fun i => ((i % 256 : Nat) : Int))
def smp (n : Nat) : Pk := ⟨4, 0, 0, 4, [10, 0, 0, 1, 0, 0, 0, 0, 0, 0, 0, 0, 0, 0, 0, 0], 4, [10, 0, 0, 2, 0, 0, 0, 0, 0, 0, 0, 0, 0, 0, 0, 0], 17, 64, 5, false, false, false, 0, [], smpB n⟩
theorem smpB_succ (n : Nat) : smpB (n + 1) = smpB n ++ [((n % 256 : Nat) : Int)] := by simp [smpB, List.range_succ]
theorem smpB_len (n : Nat) : (smpB n).length = n := by simp [smpB]
theorem smpB_bytes (n : Nat) : Bytes (smpB n) := fun x hx => by
  obtain ⟨i, _, rfl⟩ := List.mem_map.1 hx; omega
/-- What sample tells. -/
def SmpOut (w : World) (n : Nat) (E : Ending) (w' : World) : Prop := ∃ dv, E = .returned (.agg (csP (smp n) (.slice none 0 0) dv)) ∧ Owns w' dv (smpB n) ∧ New w.heap.size dv ∧ Away [] w w'
theorem plain_c (n : Nat) (hn : n ≤ 100000) (w : World) : Calls Tryz.prog 23 #[.int .i64 (n : Int)] w fun E w' => SmpOut w n E w' := by
  go_enter Tryz.func23, Tryz.ntmps23
  go_wp2_with (refine wpList_alloc28 rfl rfl ?_; refine Hid.out ?_)
  refine Lib.hid ?_
  intro g2 w1 hg2 hb2 haw1
  have HB2 := Lib.hid hb2; have HA := Lib.hid haw1
  have hl2 := hb2.lt
  have hs1 := haw1.size
  clear hb2 haw1
  go_wp2_with (refine wpList_alloc28 rfl rfl ?_; refine Hid.out ?_)
  refine Lib.hid ?_
  intro g3 w2 hg3 hb3 haw2
  have HB3 := Lib.hid hb3
  have hl3 := hb3.lt
  replace HB2 := Lib.hid (HB2.out.on haw2)
  replace HA := Lib.hid (HA.out.next haw2 (by simp))
  have hs2 := haw2.size
  clear hb3 haw2
  go_wp2_with (refine wpList_store28 rfl _ _ rfl g3 rfl (smp 0) (.slice none 0 0) (.slice none 0 0) rfl zeroPk (.slice none 0 0) (.slice none 0 0) (by exact HB3.out) ⟨rfl, rfl⟩ ⟨rfl, rfl⟩ rfl rfl ?_; refine Hid.out ?_)
  refine Lib.hid ?_
  intro w3 hb3 haw3
  replace HB3 := Lib.hid hb3
  replace HB2 := Lib.hid (HB2.out.away haw3 (by simp; omega))
  replace HA := Lib.hid (HA.out.next haw3 (fun x hx => .inr (by simp at hx; omega)))
  have hs3 := haw3.size
  have hg23 : g2 < w3.heap.size ∧ g3 < w3.heap.size ∧ g2 ≠ g3 ∧ w.heap.size ≤ g2 ∧ w.heap.size ≤ g3 := by omega
  have HGG := Lib.hid hg23
  clear hb3 haw3 hs1 hs2 hs3 hl2 hl3 hg2 hg3 hg23
  go_wp2_with fail
  go_loopw [4] (fun i wr => ∃ (k : Nat) (dv : Value), k ≤ n ∧ i = .int .i64 (k : Int) ∧ BoxP wr g3 (smp k) (.slice none 0 0) dv ∧ Owns wr dv (smpB k) ∧ New w3.heap.size dv ∧ Away [g3] w3 wr) (fun i _ => n - (intOf i).toNat)
  case atStart => exact ⟨0, .slice none 0 0, by omega, rfl, HB3.out, Owns.nil _, New.nil _, Away.refl _ _⟩
  case round =>
    obtain ⟨k, dv, hk, rfl, hb, hown, hnew, haw⟩ := hrel
    have hgg := HGG.out
    have HB := Lib.hid hb; have HO := Lib.hid hown; have HN := Lib.hid hnew; have HAW := Lib.hid haw
    have hsz := haw.size
    clear hb hown hnew haw HB3
    by_cases hlt : k < n
    · obtain ⟨a3, n3, c3, rfl⟩ := HO.out.shp
      have c45 := (HB.out.cells ⟨rfl, rfl⟩).d
      have hcv : IntKind.u8.wrap (k : Int) = ((k % 256 : Nat) : Int) := by rw [IntKind.wrap_u8]; omega
      have HCV := Lib.hid hcv
      clear hcv
      go_wp2_with (at_builtin; refine wpList_app rfl _ _ rfl _ (smpB k) [IntKind.u8.wrap (k : Int)] rfl (by exact HO.out.away ((Away.refl [] _).alloc _) (by simp)) ⟨wr.heap.size, 0, none⟩ 1 1 rfl rfl (lit_cells _ [IntKind.u8.wrap (k : Int)] _ rfl) (by rw [smpB_len]; omega) ?_; refine Hid.out ?_)
      refine Lib.hid ?_
      intro v' w5 hown5 hgr hmv
      rw [HCV.out, ← smpB_succ] at hown5
      have HO5 := Lib.hid hown5
      have HN5 : Hid (New w3.heap.size v') := HN.out.moved hmv (by simp; omega)
      have HA5 : Hid (Away [g3] w3 w5) := (HAW.out.alloc _).grown hgr (fun k hk => .inr (HN.out k hk))
      have HB5 : Hid (BoxP w5 g3 (smp k) (.slice none 0 0) (.slice a3 n3 c3)) := by
        have hb := HB.out.on ((Away.refl [] wr).alloc (.cells #[Value.int .u8 (IntKind.u8.wrap (k : Int))] 5))
        exact (hgr.block g3 (lt_of_block hb) (fun e => by have := HN.out g3 e.symm; omega)).trans hb
      clear hown5 hgr hmv c45
      obtain ⟨a4, n4, c4, rfl⟩ := HO5.out.shp
      have s45 := (HB5.out.cells ⟨rfl, rfl⟩).d
      have t45 := HB5.out.free 45
      have hA := away_put (w := w5) (g := g3) 45 (.slice a4 n4 c4)
      have HB6 := Lib.hid (show BoxP _ g3 (smp (k + 1)) (.slice none 0 0) (.slice a4 n4 c4) from HB5.out.put 45 (.slice a4 n4 c4) ((csP_set ⟨rfl, rfl⟩ _ _).2.2.2.2.2.2.2.2.2.2.2.2.2 (smpB (k + 1)) (.slice a4 n4 c4)))
      have HO6 := Lib.hid (HO5.out.away hA (fun k hk => by have := HN5.out k hk; simp; omega))
      have HA6 := Lib.hid (HA5.out.trans hA)
      clear hA
      go_wp2_with fail
      go_roundw
      case rel => exact ⟨k + 1, _, by omega, by go_num, HB6.out, HO6.out, HN5.out, HA6.out⟩
      case measure => simp [intOf]; omega
    · obtain rfl : k = n := by omega
      have HD1 := Lib.hid HO.out.one
      have HB2r := Lib.hid (HB2.out.away HAW.out (by simp; omega))
      go_wp2_with (first
        | (refine wpList_load28 rfl _ rfl g3 rfl (smp k) _ _ (by exact HB.out) ⟨rfl, rfl⟩ ?_)
        | (refine wpList_store28 rfl _ _ rfl g2 rfl (smp k) (.slice none 0 0) dv rfl zeroPk (.slice none 0 0) (.slice none 0 0) (by exact HB2r.out) ⟨rfl, rfl⟩ ⟨rfl, rfl⟩ rfl HD1.out ?_; refine Hid.out ?_))
      refine Lib.hid ?_
      intro w9 hb9 haw9
      have HB9 := Lib.hid hb9
      have HO9 := Lib.hid (HO.out.away haw9 (fun k hk => by have := HN.out k hk; simp; omega))
      have HA9 : Hid (Away [] w w9) := (HA.out.next HAW.out (fun x hx => .inr (by simp at hx; omega))).next haw9 (fun x hx => .inr (by simp at hx; omega))
      clear hb9 haw9
      have hs := HA.out.size
      go_wp2_with fail
      exact bodyPost_ret (result28 rfl _ _ _ _ _ _ rfl HB9.out ⟨rfl, rfl⟩) rfl ⟨_, rfl, HO9.out, HN.out.mono hs, HA9.out⟩
/-! rest. -/
theorem tmod_fix (n k : Int) (hk : 0 < k) : (n.tmod k < 0 → n.tmod k + k = n % k) ∧ (¬ n.tmod k < 0 → n.tmod k = n % k) := by
  have h1 := Int.emod_nonneg n (show k ≠ 0 by omega)
  have h2 := Int.emod_lt_of_pos n hk
  have h3 := @Int.tmod_eq_emod n k
  rw [h3]
  split
  · omega
  · rename_i h
    have : (k.natAbs : Int) = k := by omega
    have h4 : n % k ≠ 0 := fun e => h (.inr (Int.dvd_of_emod_eq_zero e))
    omega
theorem same_yes (a b : Option Addr) (l : List Int) (n cap cap' : Nat) (w : World) (hn : l.length = n) (hr : Row w a l) (hs : Row w b l) :
    Calls Tryz.prog 26 #[.slice a n cap, .slice b n cap'] w fun E w' => E = .returned (.bool true) ∧ Away [] w w' := by
  have HR := Lib.hid hr; have HS := Lib.hid hs; have HN := Lib.hid hn
  have hlen := hr.1
  rw [hn] at hlen
  clear hr hs hn
  go_enter Tryz.func26, Tryz.ntmps26
  go_wp2_with fail
  go_loopw [5] (fun i wr => ∃ k : Nat, i = .int .i64 (k : Int) ∧ k ≤ n ∧ Away [] w wr) (fun i _ => n - (intOf i).toNat)
  case atStart => exact ⟨0, rfl, by omega, Away.refl _ _⟩
  case round =>
    obtain ⟨k, rfl, hk, haw⟩ := hrel
    have HAW := Lib.hid haw
    clear haw
    by_cases hlt : k < n
    · obtain ⟨xb, xo, rfl, hcx⟩ : ∃ xb xo, a = some ⟨xb, xo, none⟩ ∧ ∀ i, i < l.length → wr.cell? ⟨xb, xo + i, none⟩ = some (.int .u8 (l[i]?.getD 0)) := by
        rcases (HR.out.on HAW.out).2.2 with h | ⟨b', o', h, hc⟩
        · have := HN.out; rw [h] at this; simp at this; omega
        · exact ⟨b', o', h, hc⟩
      obtain ⟨yb, yo, rfl, hcy⟩ : ∃ xb xo, b = some ⟨xb, xo, none⟩ ∧ ∀ i, i < l.length → wr.cell? ⟨xb, xo + i, none⟩ = some (.int .u8 (l[i]?.getD 0)) := by
        rcases (HS.out.on HAW.out).2.2 with h | ⟨b', o', h, hc⟩
        · have := HN.out; rw [h] at this; simp at this; omega
        · exact ⟨b', o', h, hc⟩
      have c1 := hcx k (by have := HN.out; omega)
      have c2 := hcy k (by have := HN.out; omega)
      clear hcx hcy
      obtain ⟨e, he⟩ : ∃ e, e = l[k]?.getD 0 := ⟨_, rfl⟩
      rw [← he] at c1 c2
      clear he
      have i2 : 0 ≤ (k : Int) := by omega
      have i3 : (k : Int) < (n : Int) := by omega
      have i4 : ((k : Int)).toNat = k := by omega
      go_wp2_with fail
      go_region
      replace HAW : Hid (Away [] w wr.drew) := HAW.out.drew
      clear c1 c2
      generalize wr.drew = wz at *
      go_wp2_with fail
      go_roundw
      case rel => exact ⟨k + 1, by go_num, by omega, HAW.out⟩
      case measure => simp [intOf]; omega
    · obtain rfl : k = n := by omega
      go_wp2_with fail
      go_ret
      exact ⟨rfl, HAW.out⟩
theorem wpList_ne24 {ops : Array Oper} {rest : List Oper} {o : Oper} {a : Act} {w : World} {Q : Exit → Act → World → Prop} (x y : Operand) (ho : o.op = .binOp .neq 25 x y 25)
    (c1 c2 : Array Value) (hx : a.eval x = .agg c1) (hy : a.eval y = .agg c2) (b : Bool) (hq : ∀ w, (Op.equalIn 10000 25 (.agg c1) (.agg c2)).run Tryz.prog w = .ok b w) (hw : Region.wanted o (yielded ops a.tmps) = true)
    (h : wpList Tryz.prog ops Q rest (a.put o.dst (.bool (!b))) w) : wpList Tryz.prog ops Q (o :: rest) a w :=
  BigFrame.wpList_want hw fun K hK => by
    have hg := guard24
    have e : (execOp a.eval o).run Tryz.prog w = .ok (.value (.bool (!b))) w := by
      unfold execOp
      simp only [ho, hx, hy]
      simp [go_sem, hq, hg]
    unfold Oper.wp
    rw [e, Oper.upon_value]
    exact hK _ _ h
theorem Same_yes (p : Pk) (ov dv ou du : Value) (w : World) (hp : Pkt w p ov dv) (hq : Pkt w p ou du) :
    Calls Tryz.prog 8 #[.agg (csP p ov dv), .agg (csP p ou du)] w fun E w' => E = .returned (.bool true) ∧ Away [] w w' := by
  have HAD := Lib.hid hp.wf.ad
  have KO : Hid (∀ w', Away [] w w' → Calls Tryz.prog 26 #[ov, ou] w' fun E w'' => E = .returned (.bool true) ∧ Away [] w' w'') := by
    obtain ⟨a, c, e, x1, x2, x3⟩ := hp.o
    obtain ⟨b, d, e', y1, y2, y3⟩ := hq.o
    rw [e, e']
    exact fun w' h => same_yes a b p.o _ c d w' rfl (x3.on h) (y3.on h)
  have KD : Hid (∀ w', Away [] w w' → Calls Tryz.prog 26 #[dv, du] w' fun E w'' => E = .returned (.bool true) ∧ Away [] w' w'') := by
    obtain ⟨a, c, e, x1, x2, x3⟩ := hp.d
    obtain ⟨b, d, e', y1, y2, y3⟩ := hq.d
    rw [e, e']
    exact fun w' h => same_yes a b p.d _ c d w' rfl (x3.on h) (y3.on h)
  obtain ⟨-, ⟨o1, o2, rfl, -⟩, ⟨o3, o4, rfl, -⟩⟩ := hp
  obtain ⟨-, ⟨o5, o6, rfl, -⟩, ⟨o7, o8, rfl, -⟩⟩ := hq
  obtain ⟨A1, hA1⟩ : ∃ A, A = csA p.sv p.sb := ⟨_, rfl⟩
  obtain ⟨A2, hA2⟩ : ∃ A, A = csA p.dv p.db := ⟨_, rfl⟩
  have HE1 : Hid (∀ wx, (Op.equalIn 10000 25 (.agg A1) (.agg A1)).run Tryz.prog wx = .ok true wx) := fun wx => by
    have := eq24 p.sv p.sv p.sb p.sb HAD.out.1 HAD.out.1 wx
    rw [show (decide (p.sv = p.sv) && eqL p.sb p.sb) = true from by simp [eqL], ← hA1] at this
    exact this
  have HE2 : Hid (∀ wx, (Op.equalIn 10000 25 (.agg A2) (.agg A2)).run Tryz.prog wx = .ok true wx) := fun wx => by
    have := eq24 p.dv p.dv p.db p.db HAD.out.2 HAD.out.2 wx
    rw [show (decide (p.dv = p.dv) && eqL p.db p.db) = true from by simp [eqL], ← hA2] at this
    exact this
  have HC1 := Lib.hid hA1; have HC2 := Lib.hid hA2
  clear hA1 hA2
  have hl1 := HAD.out.1; have hl2 := HAD.out.2
  generalize p.o.length = no at *
  generalize p.d.length = nd at *
  go_enter Tryz.func8, Tryz.ntmps8
  go_wp2_with (refine wpList_box28 rfl _ rfl p _ _ rfl ?_; refine Hid.out ?_)
  refine Lib.hid ?_
  intro g1 w1 hg1 hb1 haw1
  have HB1 := Lib.hid hb1; have HA := Lib.hid haw1
  clear hb1 haw1 hg1
  go_wp2_with (refine wpList_box28 rfl _ rfl p _ _ rfl ?_; refine Hid.out ?_)
  refine Lib.hid ?_
  intro g2 w2 hg2 hb2 haw2
  have HB2 := Lib.hid hb2
  replace HB1 := Lib.hid (HB1.out.on haw2)
  replace HA := Lib.hid (HA.out.on haw2)
  clear hb2 haw2 hg2
  have k1 := HB1.out.cells HAD.out
  have k2 := HB2.out.cells HAD.out
  have a0 := k1.v; have a1 := k1.tos; have a2 := k1.flow; have a5 := k1.proto; have a6 := k1.ttl
  have b0 := k2.v; have b1 := k2.tos; have b2 := k2.flow; have b5 := k2.proto; have b6 := k2.ttl
  have HR1 := Lib.hid HB1.out.srow
  have HR2 := Lib.hid HB2.out.srow
  have HR3 := Lib.hid (HB1.out.drow HAD.out)
  have HR4 := Lib.hid (HB2.out.drow HAD.out)
  clear k1 k2
  go_wp2_with (refine wpList_load24r _ rfl g1 3 rfl p.sv p.sb A1 HC1.out (by exact HR1.out) hl1 rfl ?_; refine Hid.out ?_)
  refine Lib.hid ?_
  go_wp2_with (refine wpList_load24r _ rfl g2 3 rfl p.sv p.sb A1 HC1.out (by exact HR2.out) hl1 rfl ?_; refine Hid.out ?_)
  refine Lib.hid ?_
  go_wp2_with (refine wpList_ne24 _ _ rfl A1 A1 rfl rfl _ HE1.out rfl ?_; refine Hid.out ?_)
  refine Lib.hid ?_
  go_wp2_with (refine wpList_load24r _ rfl g1 20 rfl p.dv p.db A2 HC2.out (by exact HR3.out) hl2 rfl ?_; refine Hid.out ?_)
  refine Lib.hid ?_
  go_wp2_with (refine wpList_load24r _ rfl g2 20 rfl p.dv p.db A2 HC2.out (by exact HR4.out) hl2 rfl ?_; refine Hid.out ?_)
  refine Lib.hid ?_
  go_wp2_with (refine wpList_ne24 _ _ rfl A2 A2 rfl rfl _ HE2.out rfl ?_; refine Hid.out ?_)
  refine Lib.hid ?_
  go_upto_region 3 with fail
  clear a0 a1 a2 a5 a6 b0 b1 b2 b5 b6
  have k1 := HB1.out.cells HAD.out
  have k2 := HB2.out.cells HAD.out
  have a7 := k1.id; have a8 := k1.df; have a9 := k1.more; have a10 := k1.frag; have a11 := k1.off; have a12 := k1.o
  have b7 := k2.id; have b8 := k2.df; have b9 := k2.more; have b10 := k2.frag; have b11 := k2.off; have b12 := k2.o
  clear k1 k2
  have fb : ∀ b : Bool, (b == b) = true := by decide
  have fdf := fb p.df; have fmo := fb p.more; have ffr := fb p.frag
  go_wp2_with fail
  refine (KO.out _ HA.out).mono ?_
  rintro E w3 ⟨rfl, haw⟩
  replace HB1 := Lib.hid (HB1.out.on haw)
  replace HB2 := Lib.hid (HB2.out.on haw)
  replace HA := Lib.hid (HA.out.on haw)
  clear haw a7 a8 a9 a10 a11 a12 b7 b8 b9 b10 b11 b12 KO
  have a13 := (HB1.out.cells HAD.out).d
  have b13 := (HB2.out.cells HAD.out).d
  go_wp2_with fail
  refine (KD.out _ HA.out).mono ?_
  rintro E w4 ⟨rfl, haw⟩
  replace HA := Lib.hid (HA.out.on haw)
  clear haw a13 b13 KD
  go_wp2_with fail
  go_ret
  exact ⟨rfl, HA.out⟩
end R
#print axioms R.Same_yes
end Go.Proofs.YtaicckenpplceaaGreatDoor

namespace Go.Proofs.YtaicckenpplceaaGreatDoor
open Go.ChangeShapes Go.WideShapes Go.ChangeAt Go.RowKit Num
set_option linter.unusedVariables false
set_option maxHeartbeats 4000000
set_option maxRecDepth 100000

namespace R
/-- There is one order. -/
theorem srt_uniq (l : List Pk) : ∀ s : List Pk, s.Perm l → Srt s → l.Pairwise (fun p q => p.off < q.off) → s = l := by
  induction l with
  | nil => intro s h _ _; exact h.eq_nil
  | cons a r ih =>
    intro s h hs hl
    cases s with
    | nil => exact absurd h.symm.eq_nil (by simp)
    | cons b t =>
      have hb : b ∈ a :: r := h.mem_iff.1 (by simp)
      have ha : a ∈ b :: t := h.mem_iff.2 (by simp)
      unfold Srt at hs
      rw [List.pairwise_cons] at hs hl
      have e : b = a := by
        rcases List.mem_cons.1 hb with e | hb
        · exact e
        · have h1 := hl.1 b hb
          rcases List.mem_cons.1 ha with e | ha
          · rw [e] at h1; omega
          · have := hs.1 a ha; omega
      subst e
      rw [ih t (List.Perm.cons_inv h) hs.2 hl.2]
theorem part_mono {p lat : Pk} {m m' : Int} (hm : m ≤ m') : ∀ (l : List Pk) (f : Pk) (n : Nat), partP p m lat f n l = true → partP p m' lat f n l = true
  | [], f, n, h => h
  | q :: r, f, n, h => by
    rw [partP] at h ⊢
    simp only [Bool.and_eq_true, fits_iff] at h ⊢
    obtain ⟨⟨⟨⟨h1, h1'⟩, h2⟩, h3⟩, h4⟩ := h
    exact ⟨⟨⟨⟨h1, by omega⟩, h2⟩, h3⟩, part_mono hm r lat _ h4⟩
theorem is_mono {p : Pk} {m m' : Int} (hm : m ≤ m') (hm' : m' ≤ 65535) {l : List Pk} (h2 : 2 ≤ l.length) (h : isP p m l = true) : isP p m' l = true := by
  unfold isP at h ⊢
  by_cases hc : (uncutP p && mtuP m p.v) = true
  · have hc' : (uncutP p && mtuP m' p.v) = true := by
      rw [Bool.and_eq_true, mtu_iff] at hc ⊢
      exact ⟨hc.1, by omega, hm'⟩
    rw [hc] at h
    rw [hc']
    rcases l with _ | ⟨q, _ | ⟨q2, r⟩⟩
    · simp at h2
    · simp at h2
    · simp only [Bool.and_eq_true] at h ⊢
      exact ⟨h.1, h.2.1, part_mono hm _ _ _ h.2.2⟩
  · rw [Bool.eq_false_iff.2 hc] at h
    simp at h
abbrev P0 : Pk := smp 100
theorem p0_len : P0.d.length = 100 := smpB_len 100
def Q (n : Nat) (b : Bool) (k : Nat) : Pk := { P0 with off := (n : Int), more := b, d := (P0.d.drop n).take k }
theorem q_right (n : Nat) (b : Bool) (k : Nat) (h8 : n % 8 = 0) (hk : 0 < k) (hn : n + k ≤ 100) (hb : b = true → k % 8 = 0) : rgtP (Q n b k) = true := by
  have hl : ((P0.d.drop n).take k).length = k := by rw [List.length_take, List.length_drop, p0_len]; omega
  refine (if_neg (by simp [Q, smp])).trans ((right_iff _).2 ⟨?_, by show validP [] = true; unfold validP; rw [parseP_nil]; rfl⟩)
  exact ⟨rfl, rfl, rfl, by simp [Q, smp], by simp [Q, smp], by simp [Q, smp], by simp [Q, smp], by simp [Q, smp], by simp [Q, smp], by simp [Q, smp], rfl, rfl, rfl, rfl, by simp [Q], by show (n : Int) ≤ 65528; omega, by show (n : Int) % 8 = 0; omega, fun h => by show ((P0.d.drop n).take k).length % 8 = 0; rw [hl]; exact hb h, fun h => by show ((P0.d.drop n).take k).length ≠ 0; omega, fun h => by show ((P0.d.drop n).take k).length ≠ 0; omega, by show (n : Int) + ((P0.d.drop n).take k).length ≤ 65535; omega, by show 20 + 0 + ((P0.d.drop n).take k).length ≤ 65535; omega⟩
theorem q_len (n : Nat) (b : Bool) (k : Nat) (hn : n + k ≤ 100) : (Q n b k).d.length = k := by show ((P0.d.drop n).take k).length = k; rw [List.length_take, List.length_drop, p0_len]; omega
theorem p0_wf : Wf P0 := by
  have h1 : Bytes [10, 0, 0, 1, 0, 0, 0, 0, 0, 0, 0, 0, 0, 0, 0, 0] := by unfold Bytes; decide
  have h2 : Bytes [10, 0, 0, 2, 0, 0, 0, 0, 0, 0, 0, 0, 0, 0, 0, 0] := by unfold Bytes; decide
  exact ⟨by simp [smp, i64ok], by simp [smp, i64ok], by simp [smp, i64ok], by simp [smp, i64ok], rfl, h1, by simp [smp, i64ok], rfl, h2, by simp [smp, i64ok], by simp [smp, i64ok], by simp [smp], by simp [smp], by simp [smp, i64ok], Bytes.nil, by simp [smp], smpB_bytes _, by show (smpB 100).length ≤ _; rw [smpB_len]; omega⟩
theorem p0_whole : P0 = Q 0 false 100 := by
  have : (P0.d.drop 0).take 100 = P0.d := by rw [List.drop_zero, List.take_of_length_le (by rw [p0_len]; omega)]
  unfold Q; rw [this]; rfl
theorem p0_right : rgtP P0 = true := by rw [p0_whole]; exact q_right 0 false 100 rfl (by omega) (by omega) (by simp)
theorem p0_unc : Unc P0 := ⟨p0_right, rfl, rfl, rfl⟩
theorem p0_long : longP P0 = 120 := by rw [long_of p0_right, p0_len]; rfl
theorem p0_mtu : mtuP 68 P0.v = true := by decide
theorem p0_fits : fitsP P0 68 = false := by
  rw [Bool.eq_false_iff]
  intro h
  have := ((fits_iff _ _).1 h).2
  rw [p0_len] at this
  have h2 := top_pos P0
  omega
theorem p0_cut : cutL P0 68 0 = [Q 0 true 48, Q 48 true 48, Q 96 false 4] := by
  have hu := p0_unc; have hw := p0_wf
  have hd := p0_len
  have hf := hu.fst hw (id := 0) (by omega) (by omega)
  have hl := hu.lat hw (id := 0) (by omega) (by omega)
  have rf := (room_eq hu hw hf p0_mtu).2.1
  have rl := (room_eq hu hw hl p0_mtu).2.1
  have hc : carryP P0.o = [] := carry_nil rfl
  have tf : topP (fstP P0 0) = 20 := by rw [fst_top]; rfl
  have tl : topP (latP P0 0) = 20 := by rw [lat_top, hc]; rfl
  rw [tf] at rf; rw [tl] at rl
  have e1 : cutL P0 68 0 = pcsP P0 68 (latP P0 0) 100 (fstP P0 0) 0 := by unfold cutL; rw [hd]
  have s1 : shareP (P0.d.length - 0) (roomP (fstP P0 0) 68) P0.v = 48 := by rw [rf, hd]; rfl
  have s2 : shareP (P0.d.length - 48) (roomP (latP P0 0) 68) P0.v = 48 := by rw [rl, hd]; rfl
  have s3 : shareP (P0.d.length - 96) (roomP (latP P0 0) 68) P0.v = 4 := by rw [rl, hd]; rfl
  have ef : fstP P0 0 = { P0 with d := [] } := if_neg (by simp [smp])
  have el : latP P0 0 = { P0 with d := [] } := by unfold latP; rw [hc, ef]; rfl
  rw [e1, show (100 : Nat) = 97 + 1 + 1 + 1 from rfl, pcsP, if_pos (by rw [hd]; omega), s1, pcsP, if_pos (by rw [hd]; omega), Nat.zero_add, s2, pcsP, if_pos (by rw [hd]; omega), s3, pcs_nil (by rw [hd]; omega), ef, el]
  rw [show decide (48 < P0.d.length - 0) = true by rw [hd]; rfl, show decide (48 < P0.d.length - 48) = true by rw [hd]; rfl, show decide (4 < P0.d.length - (48 + 48)) = false by rw [hd]; rfl]
  rfl
theorem sh_q (n : Nat) (b : Bool) (k : Nat) (hn : n ≤ 100) : shP P0.off (Q n b k) = Q n b k ∧ shM P0.off (Q n b k) = Q n b k := by
  have h1 : wrap64 ((n : Int) + 0) = n := by unfold wrap64; omega
  have h2 : wrap64 ((n : Int) - 0) = n := by unfold wrap64; omega
  constructor
  · show { Q n b k with off := wrap64 ((n : Int) + 0) } = Q n b k
    rw [h1]; rfl
  · show { Q n b k with off := wrap64 ((n : Int) - 0) } = Q n b k
    rw [h2]; rfl
def L0 : List Pk := [Q 0 true 48, Q 48 true 48, Q 96 false 4]
theorem p0_recut : recutP P0 68 = (L0, 0) := by
  have hm : mtuP 68 4 = true := by decide
  unfold recutP
  rw [if_pos ⟨p0_right, hm⟩, p0_long, if_neg (by omega), if_neg (by simp [smp])]
  unfold recutL
  rw [show unP P0 = P0 from rfl, p0_cut]
  simp only [List.map_cons, List.map_nil, (sh_q 0 true 48 (by omega)).1, (sh_q 48 true 48 (by omega)).1, (sh_q 96 false 4 (by omega)).1]
  rfl
theorem p0_is : isR P0 119 L0 = true := by
  have h1 : isP P0 68 L0 = true := by
    have := is_cut p0_unc p0_wf (id := 0) (by omega) (by omega) p0_mtu p0_fits rfl
    rw [p0_cut] at this; exact this
  have h2 : isP P0 119 L0 = true := is_mono (by omega) (by omega) (by simp [L0]) h1
  have hm : mtuP 119 4 = true := by decide
  show (rgtP P0 && mtuP 119 4 && (decide (P0.v = 4) && partR P0 119 L0)) = true
  rw [p0_right, hm]
  unfold partR
  rw [show unP P0 = P0 from rfl, show lastM false (L0.map (shM P0.off)) = L0 by
    simp only [L0, List.map_cons, List.map_nil, (sh_q 0 true 48 (by omega)).2, (sh_q 48 true 48 (by omega)).2, (sh_q 96 false 4 (by omega)).2]
    rfl, h2]
  rfl
theorem p0_not : isR P0 67 L0 = false := by
  have hm : mtuP 67 4 = false := by decide
  show (rgtP P0 && mtuP 67 4 && (decide (P0.v = 4) && partR P0 67 L0)) = false
  rw [p0_right, hm]; rfl
theorem l0_right : ∀ q ∈ L0, rgtP q = true := by
  intro q hq
  simp only [L0, List.mem_cons, List.not_mem_nil, or_false] at hq
  rcases hq with rfl | rfl | rfl
  · exact q_right _ _ _ rfl (by omega) (by omega) (by simp)
  · exact q_right _ _ _ rfl (by omega) (by omega) (by simp)
  · exact q_right _ _ _ rfl (by omega) (by omega) (by simp)
theorem l0_join : joinS L0 = (P0, 0) := by
  have e0 := q_len 0 true 48 (by omega); have e1 := q_len 48 true 48 (by omega); have e2 := q_len 96 false 4 (by omega)
  have hc : clashL L0 = false := by
    show (!true || decide ((48 : Int) < 0 + (Q 0 true 48).d.length) || (!true || decide ((96 : Int) < 48 + (Q 48 true 48).d.length) || false)) = false
    rw [e0, e1]; rfl
  have hk : complL 0 L0 = true := by
    show (decide ((0 : Int) = 0) && (decide ((48 : Int) = 0 + (Q 0 true 48).d.length) && (decide ((96 : Int) = 48 + (Q 48 true 48).d.length) && true))) = true
    rw [e0, e1]; rfl
  have hd : datas L0 = P0.d := by
    have h1 : P0.d = P0.d.take 48 ++ ((P0.d.drop 48).take 48 ++ (P0.d.drop 96).take 4) := by
      rw [List.take_of_length_le (show (P0.d.drop 96).length ≤ 4 by rw [List.length_drop, p0_len]; omega)]
      rw [show P0.d.drop 96 = (P0.d.drop 48).drop 48 by rw [List.drop_drop], List.take_append_drop, List.take_append_drop]
    show (P0.d.drop 0).take 48 ++ ((P0.d.drop 48).take 48 ++ ((P0.d.drop 96).take 4 ++ [])) = P0.d
    rw [List.append_nil, List.drop_zero]; exact h1.symm
  have hj : joinD L0 = P0 := by
    show { joinH (Q 0 true 48) with d := datas L0 } = P0
    rw [hd]; rfl
  unfold joinS
  rw [hc, hk, hj, p0_right]; rfl
theorem l0_told {t : Pk} {c : Int} (h : JoinT [Q 96 false 4, Q 0 true 48, Q 48 true 48] t c) : t = P0 ∧ c = 0 := by
  have hk : ∀ n b k, keyB (Q n b k) (Q 96 false 4) = true := fun n b k => by
    simp [keyB, Q, eqL]
  have ha : akinL [Q 96 false 4, Q 0 true 48, Q 48 true 48] = true := by
    show List.all _ _ = true
    rw [List.all_eq_true]
    intro q hq
    have hr : rgtP q = true := l0_right q (by simp only [L0, List.mem_cons, List.not_mem_nil, or_false] at hq ⊢; rcases hq with h | h | h <;> simp [h])
    unfold likeB
    rw [hr]
    simp only [List.mem_cons, List.not_mem_nil, or_false] at hq
    rcases hq with rfl | rfl | rfl
    · exact hk 96 false 4
    · exact hk 0 true 48
    · exact hk 48 true 48
  rcases h with ⟨h1, -⟩ | ⟨-, s, hp, hs, e⟩
  · rw [ha] at h1; simp at h1
  · have hp2 : s.Perm L0 := hp.trans (by
      show List.Perm [Q 96 false 4, Q 0 true 48, Q 48 true 48] [Q 0 true 48, Q 48 true 48, Q 96 false 4]
      exact (List.perm_append_comm (l₁ := [Q 96 false 4]) (l₂ := [Q 0 true 48, Q 48 true 48])))
    have := srt_uniq L0 s hp2 hs (by simp [L0, Q])
    subst this
    rw [l0_join] at e
    simpa using e
end R
#print axioms R.l0_told
end Go.Proofs.YtaicckenpplceaaGreatDoor

namespace Go.Proofs.YtaicckenpplceaaGreatDoor
open Go.ChangeShapes Go.WideShapes Go.ChangeAt Go.RowKit Num
set_option linter.unusedVariables false
set_option maxHeartbeats 8000000
set_option maxRecDepth 100000

namespace R
theorem fold_at (off : Nat) : ∀ (l : List Value) (k : Nat) (z : List Value), off + k + l.length ≤ z.length → (l.zipIdx k).foldl (fun (cs : Array Value) (x : Value × Nat) => cs.setIfInBounds (off + x.2) x.1) z.toArray = (z.take (off + k) ++ (l ++ z.drop (off + k + l.length))).toArray
  | [], k, z, h => by simp
  | c :: l, k, z, h => by
    simp only [List.length_cons] at h
    rw [List.zipIdx_cons, List.foldl_cons]
    have e : z.toArray.setIfInBounds (off + k) c = (z.set (off + k) c).toArray := by simp
    rw [e, fold_at off l (k + 1) (z.set (off + k) c) (by rw [List.length_set]; omega)]
    have e2 : (z.set (off + k) c).take (off + (k + 1)) = z.take (off + k) ++ [c] := by
      rw [← Nat.add_assoc, List.take_succ_eq_append_getElem (by rw [List.length_set]; omega), List.getElem_set_self, List.take_set_of_le (Nat.le_refl _)]
    have e3 : (z.set (off + k) c).drop (off + (k + 1) + l.length) = z.drop (off + k + (l.length + 1)) := by
      rw [List.drop_set_of_lt (by omega)]
      congr 1
      omega
    rw [e2, e3]; simp
theorem fill_one (p : Pk) (ov dv : Value) (ha : Ad p) (i : Nat) (z : List Value) (hz : i * 46 + 46 ≤ z.length) (r : List (Nat × Value)) :
    Instr.fill (fun i => some (i * 46, 46)) z.toArray ((i, .agg (csP p ov dv)) :: r) = Instr.fill (fun i => some (i * 46, 46)) (z.take (i * 46) ++ (listP p ov dv ++ z.drop (i * 46 + 46))).toArray r := by
  have hs := csP_size ha ov dv
  have hc : (Value.agg (csP p ov dv)).cells = csP p ov dv := rfl
  rw [Instr.fill]
  rw [hc]
  simp only [hs]
  rw [if_neg (by simp; omega)]
  have := fold_at (i * 46) (listP p ov dv) 0 z (by rw [listP_len ha]; omega)
  simp only [Nat.add_zero, listP_len ha] at this
  rw [← Array.foldl_toList, Array.toList_zipIdx]
  have e : (csP p ov dv).toList = listP p ov dv := rfl
  rw [e, this]
theorem glue {α : Type} (A B C zs : List α) (ha : A.length = 46) (hb : B.length = 46) (hz : zs.length = 138) :
    ((zs.take (0 * 46) ++ (A ++ zs.drop (0 * 46 + 46))).take (1 * 46) ++ (B ++ (zs.take (0 * 46) ++ (A ++ zs.drop (0 * 46 + 46))).drop (1 * 46 + 46))).take (2 * 46) ++ (C ++ ((zs.take (0 * 46) ++ (A ++ zs.drop (0 * 46 + 46))).take (1 * 46) ++ (B ++ (zs.take (0 * 46) ++ (A ++ zs.drop (0 * 46 + 46))).drop (1 * 46 + 46))).drop (2 * 46 + 46)) = A ++ (B ++ (C ++ [])) := by
  have e1 : zs.take (0 * 46) ++ (A ++ zs.drop (0 * 46 + 46)) = A ++ zs.drop 46 := by simp
  rw [e1]
  have t1 : (A ++ zs.drop 46).take (1 * 46) = A := by
    rw [List.take_append_of_le_length (by omega), List.take_of_length_le (by omega)]
  have d1 : (A ++ zs.drop 46).drop (1 * 46 + 46) = zs.drop 92 := by
    rw [List.drop_append, List.drop_of_length_le (by omega), ha]; simp
  rw [t1, d1]
  have t2 : (A ++ (B ++ zs.drop 92)).take (2 * 46) = A ++ B := by
    rw [← List.append_assoc, List.take_append_of_le_length (by rw [List.length_append]; omega), List.take_of_length_le (by rw [List.length_append]; omega)]
  have d2 : (A ++ (B ++ zs.drop 92)).drop (2 * 46 + 46) = [] := by
    apply List.drop_of_length_le
    simp only [List.length_append, List.length_drop]; omega
  rw [t2, d2, List.append_assoc]
theorem run_build3 (w : World) (x y z : X) (hx : Ad x.p) (hy : Ad y.p) (hz : Ad z.p) : (Instr.buildSlice 22 3 #[(0, .agg (csP x.p x.o x.d)), (1, .agg (csP y.p y.o y.d)), (2, .agg (csP z.p z.o z.d))]).run Tryz.prog w = .ok (.slice (some ⟨w.heap.size, 0, none⟩) 3 3) (w.alloc (.cells ([x, y, z].flatMap X.cells).toArray 29)) := by
  have hu : Tryz.prog.underlying 22 = some (.slice 29) := Tryz.underlying22
  unfold Instr.buildSlice
  simp only [Sem.run_bind, run_underlying hu, Result.andThen_ok, size28]
  rw [if_neg (by decide), if_neg (by decide)]
  simp only [Sem.run_bind, Result.andThen_ok, zeros28, Sem.run_pure]
  have lx := listP_len hx x.o x.d; have ly := listP_len hy y.o y.d; have lz := listP_len hz z.o z.d
  obtain ⟨zs, hzs⟩ : ∃ zs : List Value, zs = ((Array.range (3 * 46)).map (fun i => (Value.agg (csP zeroPk (.slice none 0 0) (.slice none 0 0))).cells[i % (Value.agg (csP zeroPk (.slice none 0 0) (.slice none 0 0))).cells.size]!)).toList := ⟨_, rfl⟩
  have hl : zs.length = 138 := by rw [hzs]; simp
  have he : ((Array.range (3 * 46)).map (fun i => (Value.agg (csP zeroPk (.slice none 0 0) (.slice none 0 0))).cells[i % (Value.agg (csP zeroPk (.slice none 0 0) (.slice none 0 0))).cells.size]!)) = zs.toArray := by rw [hzs]
  rw [he]
  rw [fill_one x.p x.o x.d hx 0 zs (by omega), fill_one y.p y.o y.d hy 1 _ (by simp [lx, hl]), fill_one z.p z.o z.d hz 2 _ (by simp [lx, ly, hl]), Instr.fill]
  simp only [newRow, Sem.run_bind, run_newObj_alloc, Sem.run_pure, Result.andThen_ok]
  congr 3
  apply congrArg List.toArray
  exact glue _ _ _ _ lx ly hl
theorem lst_three {w : World} {g : Nat} {x y z : X} (hx : Ad x.p) (hy : Ad y.p) (hz : Ad z.p) (h : w.heap[g]? = some (.cells ([x, y, z].flatMap X.cells).toArray 29 (0, 0))) : LstP w (.slice (some ⟨g, 0, none⟩) 3 3) [x, y, z] := by
  have hl := flatP_len [x, y, z] (by intro q hq; simp at hq; rcases hq with rfl | rfl | rfl <;> assumption)
  refine ⟨hl, .inr ⟨g, 3, _, rfl, Nat.zero_le _, h, Nat.le_refl _, by unfold maxLen; omega, by simpa using hl, ?_⟩⟩
  rw [List.take_of_length_le (by rw [List.toList_toArray]; simp only [List.length_cons, List.length_nil] at hl ⊢; omega)]
theorem wp_build3 {o : Oper} {a : Act} {w : World} {K : Act → World → Prop} {Q : Exit → Act → World → Prop} (t0 t1 t2 : Operand) (ho : o.op = .buildSlice 22 3 #[(0, t0), (1, t1), (2, t2)]) (x y z : X) (h0 : a.eval t0 = .agg (csP x.p x.o x.d)) (h1 : a.eval t1 = .agg (csP y.p y.o y.d)) (h2 : a.eval t2 = .agg (csP z.p z.o z.d)) (hx : Ad x.p) (hy : Ad y.p) (hz : Ad z.p)
    (h : ∀ g w1, w.heap.size ≤ g → LstP w1 (.slice (some ⟨g, 0, none⟩) 3 3) [x, y, z] → Away [] w w1 → K (a.put o.dst (.slice (some ⟨g, 0, none⟩) 3 3)) w1) : Oper.wp Tryz.prog o a w K Q := by
  unfold Oper.wp execOp
  simp only [ho, List.map_toArray, List.map_cons, List.map_nil, h0, h1, h2, run_build3 w x y z hx hy hz, Sem.run_bind, Result.andThen_ok, Sem.run_pure]
  exact h w.heap.size _ (Nat.le_refl _) (lst_three hx hy hz (block_new _ _)) ((Away.refl [] w).alloc _)
theorem wp_alloc28 {o : Oper} {a : Act} {w : World} {K : Act → World → Prop} {Q : Exit → Act → World → Prop} (ho : o.op = .alloc 29)
    (h : ∀ g w1, w.heap.size ≤ g → BoxP w1 g zeroPk (.slice none 0 0) (.slice none 0 0) → Away [] w w1 → K (a.put o.dst (.pointer (some ⟨g, 0, none⟩))) w1) : Oper.wp Tryz.prog o a w K Q := by
  unfold Oper.wp execOp
  simp only [ho, Sem.run_bind, Instr.alloc, zeros28, newVar, newRow, run_newObj_alloc, Sem.run_pure, Result.andThen_ok]
  exact h w.heap.size _ (Nat.le_refl _) (block_new _ _) ((Away.refl [] w).alloc _)
theorem wp_store28 {o : Oper} {a : Act} {w : World} {K : Act → World → Prop} {Q : Exit → Act → World → Prop} (x y : Operand) (ho : o.op = .store 29 x y)
    (g : Nat) (hx : a.eval x = .pointer (some ⟨g, 0, none⟩)) (p : Pk) (ov dv : Value) (hy : a.eval y = .agg (csP p ov dv)) (q : Pk) (ou du : Value) (hb : BoxP w g q ou du) (ha : Ad p) (hq : Ad q) (h1 : ov.oneCell' = true) (h2 : dv.oneCell' = true)
    (h : ∀ w1, BoxP w1 g p ov dv → Away [g] w w1 → K (a.put o.dst undef) w1) : Oper.wp Tryz.prog o a w K Q :=
  wp_store_row 29 x y ho g (csP p ov dv) hx hy 29 (csP q ou du) hb (by rw [csP_size ha]; exact info28) (by rw [csP_size ha, csP_size hq]) (csP_one p ov dv h1 h2) (h _ (by
    unfold BoxP at hb ⊢; simp [World.setRow, Array.getElem?_modify, hb]) ((Away.refl [g] w).setRow (.inl (by simp)) _))
theorem three_of {xs : List X} {a b c : Pk} (h : xs.map X.p = [a, b, c]) : ∃ x y z : X, xs = [x, y, z] ∧ x.p = a ∧ y.p = b ∧ z.p = c := by
  have hl : xs.length = 3 := by rw [← List.length_map (f := X.p), h]; rfl
  rcases xs with _ | ⟨x, _ | ⟨y, _ | ⟨z, _ | ⟨u, r⟩⟩⟩⟩
  · simp at hl
  · simp at hl
  · simp at hl
  · simp at h; exact ⟨x, y, z, rfl, h.1, h.2.1, h.2.2⟩
  · simp at hl
theorem known_c (w : World) (hg : Glob w) : Calls Tryz.prog 7 #[] w fun E w' => E = .returned (.bool true) ∧ Away [] w w' := by
  have HG := Lib.hid hg
  clear hg
  go_enter Tryz.func7, Tryz.ntmps7
  go_wp2_with fail
  refine (plain_c 100 (by omega) w).mono ?_
  rintro E w1 ⟨dv, rfl, hown, hnew, haw⟩
  have HP : Hid (Pkt w1 P0 (.slice none 0 0) dv) := ⟨p0_wf, Sl.nil _, hown.sl p0_wf.d p0_wf.dn⟩
  have HD1 := Lib.hid hown.one
  have HA := Lib.hid haw
  have HAD : Hid (Ad P0) := p0_wf.ad
  clear hown hnew haw
  obtain ⟨q, hq⟩ : ∃ q, q = smp 100 := ⟨_, rfl⟩
  have HQ := Lib.hid hq
  rw [show P0 = q from hq.symm] at HP HAD
  rw [← hq]
  clear hq
  go_wp2_with (refine wpList_new28 rfl rfl rfl _ _ rfl q (.slice none 0 0) dv (fun g => rfl) (fun g => rfl) HAD.out rfl HD1.out ?_; refine Hid.out ?_)
  refine Lib.hid ?_
  intro g w2 hg2 hb haw
  have HB := Lib.hid hb
  replace HP := Lib.hid (HP.out.on haw)
  replace HA := Lib.hid (HA.out.on haw)
  clear hb haw hg2
  go_wp2_with (refine wpList_load28 rfl _ rfl g rfl q _ _ (by exact HB.out) HAD.out ?_)
  refine (recut_c q (.slice none 0 0) dv 68 _ HP.out (HG.out.on HA.out)).mono ?_
  unfold RecOut
  rw [show recutP q 68 = (L0, 0) by rw [HQ.out]; exact p0_recut]
  rintro E w3 ⟨v, xs, rfl, hcu, hxm, haw⟩
  obtain ⟨x0, x1, x2, rfl, h0, h1, h2⟩ := three_of hxm
  obtain ⟨va, vc, rfl, hvc, hvn, hpk, hvo⟩ := hcu.pks (by simp)
  have HPK := Lib.hid hpk
  obtain ⟨b0, o0, hb0, hr0, hk0⟩ := hpk.at (i := 0) rfl
  obtain ⟨b1', o1', hb1', hr1, hk1⟩ := hpk.at (i := 1) rfl
  obtain ⟨b2', o2', hb2', hr2, hk2⟩ := hpk.at (i := 2) rfl
  subst hb0
  obtain ⟨rfl, rfl⟩ : b0 = b1' ∧ o0 = o1' := by simpa using hb1'
  obtain ⟨rfl, rfl⟩ : b0 = b2' ∧ o0 = o2' := by simpa using hb2'
  obtain rfl : o0 = 0 := by simpa using (hvo _ rfl).2.1
  obtain ⟨d0, cd0, hd0, -⟩ := hk0.d
  obtain ⟨d2, cd2, hd2, -⟩ := hk2.d
  have l0 : x0.p.d.length = 48 := by rw [h0]; exact q_len _ _ _ (by omega)
  have l2 : x2.p.d.length = 4 := by rw [h2]; exact q_len _ _ _ (by omega)
  have g0 := csP_get hk0.wf.ad x0.o x0.d
  have g1 := csP_get hk1.wf.ad x1.o x1.d
  have g2 := csP_get hk2.wf.ad x2.o x2.d
  have c45 : w3.cell? ⟨b0, 45, none⟩ = some (.slice d0 48 cd0) := by
    have := hr0 45 x0.d (by simpa [X.cells, csP] using g0.2.2.2.2.2.2.2.2.2.2.2.2.2)
    rw [hd0, l0] at this
    simpa using this
  have c137 : w3.cell? ⟨b0, 137, none⟩ = some (.slice d2 4 cd2) := by
    have := hr2 45 x2.d (by simpa [X.cells, csP] using g2.2.2.2.2.2.2.2.2.2.2.2.2.2)
    rw [hd2, l2] at this
    simpa using this
  have c135 : w3.cell? ⟨b0, 135, none⟩ = some (.int .i64 96) := by
    have := hr2 43 (.int .i64 x2.p.off) (by simpa [X.cells, csP] using g2.2.2.2.2.2.2.2.2.2.2.2.1)
    rw [h2] at this
    simpa [Q] using this
  have c133 : w3.cell? ⟨b0, 133, none⟩ = some (.bool false) := by
    have := hr2 41 (.bool x2.p.more) (by simpa [X.cells, csP] using g2.2.2.2.2.2.2.2.2.2.1)
    rw [h2] at this
    simpa [Q] using this
  have c87 : w3.cell? ⟨b0, 87, none⟩ = some (.bool true) := by
    have := hr1 41 (.bool x1.p.more) (by simpa [X.cells, csP] using g1.2.2.2.2.2.2.2.2.2.1)
    rw [h1] at this
    simpa [Q] using this
  have HR0 : Hid (w3.rangeAt b0 0 (listP x0.p x0.o x0.d)) := by
    have : w3.rangeAt b0 (0 + 0 * 46) (listP x0.p x0.o x0.d) := hr0
    show w3.rangeAt b0 0 _
    simpa using this
  have HR1 : Hid (w3.rangeAt b0 46 (listP x1.p x1.o x1.d)) := by
    have : w3.rangeAt b0 (0 + 1 * 46) (listP x1.p x1.o x1.d) := hr1
    show w3.rangeAt b0 46 _
    simpa using this
  have HR2 : Hid (w3.rangeAt b0 92 (listP x2.p x2.o x2.d)) := by
    have : w3.rangeAt b0 (0 + 2 * 46) (listP x2.p x2.o x2.d) := hr2
    show w3.rangeAt b0 92 _
    simpa using this
  have HK0 : Hid (x0.ok w3) := hk0; have HK1 : Hid (x1.ok w3) := hk1; have HK2 : Hid (x2.ok w3) := hk2
  have HA0 := Lib.hid hk0.wf.ad; have HA1 := Lib.hid hk1.wf.ad; have HA2 := Lib.hid hk2.wf.ad
  have HJ : Hid ([x2, x0, x1].map X.p = [R.Q 96 false 4, R.Q 0 true 48, R.Q 48 true 48]) := by show _ = _; simp [h0, h1, h2]
  have HLS : Hid ([x0, x1, x2].map X.p = L0) := by show _ = _; simp [h0, h1, h2, L0]
  replace HB := Lib.hid (HB.out.on haw)
  replace HP := Lib.hid (HP.out.on haw)
  replace HA := Lib.hid (HA.out.on haw)
  have HG3 : Hid (Glob w3) := HG.out.on HA.out
  clear hcu hxm h0 h1 h2 hpk hvo hb1' hb2' hr0 hr1 hr2 hk0 hk1 hk2 g0 g1 g2 haw hd0 hd2 hvn l0 l2
  go_upto_region 5 with fail
  clear c45 c137 c135 c133 c87
  go_cut [4, 5] (fun v er wc => ∃ g4 jo jd, v = .pointer (some ⟨g4, 0, none⟩) ∧ er = .int .i64 0 ∧ BoxP wc g4 P0 jo jd ∧ Pkt wc P0 jo jd ∧ Away [] w3 wc)
  case first =>
    refine wp_region_held_drew (S := (fun w' => Away [] w3 w')) (by kernel_rfl) ((Away.refl [] w3).drew) (fun hHeld => ?_)
    refine wpAnyH_take (i := 0) (v := ?_) (by simp only [List.getElem?_toArray, List.getElem?_cons_zero]; rfl) (by kernel_rfl) (by kernel_rfl) (by kernel_rfl) (by exact fun _ _ _ h => h) (Or.inl ⟨by rfl, ?_⟩) (by assumption) ?_
    rotate_left
    · intro wq hSw
      (try dsimp only at hSw)
      go_simp
      all_goals (with_reducible rfl)
    try simp only [Act.put, List.setIfInBounds_toArray, List.set_cons_zero, List.set_cons_succ]
    refine wpAnyH_take (i := 1) (v := ?_) (by simp only [List.getElem?_toArray, List.getElem?_cons_succ, List.getElem?_cons_zero]; rfl) (by kernel_rfl) (by kernel_rfl) (by kernel_rfl) (by exact fun _ _ _ h => h) (Or.inl ⟨by rfl, ?_⟩) (by assumption) ?_
    rotate_left
    · intro wq hSw
      (try dsimp only at hSw)
      go_simp
      all_goals (with_reducible rfl)
    try simp only [Act.put, List.setIfInBounds_toArray, List.set_cons_zero, List.set_cons_succ]
    refine wpAnyH_take (i := 2) (by simp only [List.getElem?_toArray, List.getElem?_cons_succ, List.getElem?_cons_zero]; rfl) (by kernel_rfl) (by kernel_rfl) (by kernel_rfl) (by exact fun _ _ _ h => h) (yields_ld (ad := ⟨b0, 92, none⟩) (by rfl) _ rfl rfl (fun w' h => load28m_run (by exact range_away h (by simp) HR2.out) HA2.out)) (by assumption) ?_
    try simp only [Act.put, List.setIfInBounds_toArray, List.set_cons_zero, List.set_cons_succ]
    refine wpAnyH_take (i := 3) (v := ?_) (by simp only [List.getElem?_toArray, List.getElem?_cons_succ, List.getElem?_cons_zero]; rfl) (by kernel_rfl) (by kernel_rfl) (by kernel_rfl) (by exact fun _ _ _ h => h) (Or.inl ⟨by rfl, ?_⟩) (by assumption) ?_
    rotate_left
    · intro wq hSw
      (try dsimp only at hSw)
      go_simp
      all_goals (with_reducible rfl)
    try simp only [Act.put, List.setIfInBounds_toArray, List.set_cons_zero, List.set_cons_succ]
    refine wpAnyH_take (i := 4) (v := ?_) (by simp only [List.getElem?_toArray, List.getElem?_cons_succ, List.getElem?_cons_zero]; rfl) (by kernel_rfl) (by kernel_rfl) (by kernel_rfl) (by exact fun _ _ _ h => h) (Or.inl ⟨by rfl, ?_⟩) (by assumption) ?_
    rotate_left
    · intro wq hSw
      (try dsimp only at hSw)
      go_simp
      all_goals (with_reducible rfl)
    try simp only [Act.put, List.setIfInBounds_toArray, List.set_cons_zero, List.set_cons_succ]
    refine wpAnyH_take (i := 5) (by simp only [List.getElem?_toArray, List.getElem?_cons_succ, List.getElem?_cons_zero]; rfl) (by kernel_rfl) (by kernel_rfl) (by kernel_rfl) (by exact fun _ _ _ h => h) (yields_ld (ad := ⟨b0, 0, none⟩) (by rfl) _ rfl rfl (fun w' h => load28m_run (by exact range_away h (by simp) HR0.out) HA0.out)) (by assumption) ?_
    try simp only [Act.put, List.setIfInBounds_toArray, List.set_cons_zero, List.set_cons_succ]
    refine wpAnyH_take (i := 6) (v := ?_) (by simp only [List.getElem?_toArray, List.getElem?_cons_succ, List.getElem?_cons_zero]; rfl) (by kernel_rfl) (by kernel_rfl) (by kernel_rfl) (by exact fun _ _ _ h => h) (Or.inl ⟨by rfl, ?_⟩) (by assumption) ?_
    rotate_left
    · intro wq hSw
      (try dsimp only at hSw)
      go_simp
      all_goals (with_reducible rfl)
    try simp only [Act.put, List.setIfInBounds_toArray, List.set_cons_zero, List.set_cons_succ]
    refine wpAnyH_take (i := 7) (v := ?_) (by simp only [List.getElem?_toArray, List.getElem?_cons_succ, List.getElem?_cons_zero]; rfl) (by kernel_rfl) (by kernel_rfl) (by kernel_rfl) (by exact fun _ _ _ h => h) (Or.inl ⟨by rfl, ?_⟩) (by assumption) ?_
    rotate_left
    · intro wq hSw
      (try dsimp only at hSw)
      go_simp
      all_goals (with_reducible rfl)
    try simp only [Act.put, List.setIfInBounds_toArray, List.set_cons_zero, List.set_cons_succ]
    refine wpAnyH_take (i := 8) (by simp only [List.getElem?_toArray, List.getElem?_cons_succ, List.getElem?_cons_zero]; rfl) (by kernel_rfl) (by kernel_rfl) (by kernel_rfl) (by exact fun _ _ _ h => h) (yields_ld (ad := ⟨b0, 46, none⟩) (by rfl) _ rfl rfl (fun w' h => load28m_run (by exact range_away h (by simp) HR1.out) HA1.out)) (by assumption) ?_
    try simp only [Act.put, List.setIfInBounds_toArray, List.set_cons_zero, List.set_cons_succ]
    refine wpAnyH_ready (rs := [9, 14]) (by kernel_rfl) (by simp) ?_
    refine AllReadyH.cons (by simp only [List.getElem?_toArray, List.getElem?_cons_succ, List.getElem?_cons_zero]; rfl) (fun K hK => ?_) (AllReadyH.cons (by simp only [List.getElem?_toArray, List.getElem?_cons_succ, List.getElem?_cons_zero]; rfl) (fun K hK => ?_) AllReadyH.nil)
    · rw [if_pos (by rfl)]
      refine wp_build3 _ _ _ rfl x2 x0 x1 rfl rfl rfl HA2.out HA0.out HA1.out ?_
      intro gq y4 hgq hlq haw
      have hS := Away.on hHeld haw
      have hpq : Pks y4 (some ⟨gq, 0, none⟩) [x2, x0, x1] := by
        obtain ⟨a', c', hv', -, -, hp', -⟩ := hlq.pks (by simp) (fun x hx => by simp at hx; rcases hx with rfl | rfl | rfl; exact (HK2.out).on hS; exact (HK0.out).on hS; exact (HK1.out).on hS)
        simp only [List.length_cons, List.length_nil, Value.slice.injEq] at hv'
        rw [hv'.1]; exact hp'
      clear haw hlq
      refine hK.out _ _ hS (fun hHeld => ?_)
      clear hK K
      try simp only [Act.put, List.setIfInBounds_toArray, List.set_cons_zero, List.set_cons_succ]
      refine wpAnyH_ready (rs := [10, 14]) (by kernel_rfl) (by simp) ?_
      refine AllReadyH.cons (by simp only [List.getElem?_toArray, List.getElem?_cons_succ, List.getElem?_cons_zero]; rfl) (fun K hK => ?_) (AllReadyH.cons (by simp only [List.getElem?_toArray, List.getElem?_cons_succ, List.getElem?_cons_zero]; rfl) (fun K hK => ?_) AllReadyH.nil)
      · go_simp
        refine (join_c (some ⟨gq, 0, none⟩) [x2, x0, x1] 3 3 _ rfl (by simp) hpq (HG3.out.on hHeld)).mono ?_
        rintro E y5 ⟨jt, jc, jo, jd, hjt, rfl, hjw, hmn, haw⟩
        obtain ⟨rfl, rfl⟩ := l0_told (by rw [HJ.out] at hjt; exact hjt)
        have hS := Away.on hHeld haw
        have hzj : w3.heap.size ≤ _ := Away.size hHeld
        replace hpq := hpq.on haw
        have hmo := hmn.o.one; have hmd := hmn.d.one
        clear haw hjt
        go_wp2_with fail
        refine hK.out _ _ hS (fun hHeld => ?_)
        clear hK K
        try simp only [Act.put, List.setIfInBounds_toArray, List.set_cons_zero, List.set_cons_succ]
        refine wpAnyH_take (i := 11) (v := ?_) (by simp only [List.getElem?_toArray, List.getElem?_cons_succ, List.getElem?_cons_zero]; rfl) (by kernel_rfl) (by kernel_rfl) (by kernel_rfl) (by exact fun _ _ _ h => h) (Or.inl ⟨by rfl, ?_⟩) (by assumption) ?_
        rotate_left
        · intro wq hSw
          (try dsimp only at hSw)
          go_simp
          all_goals (with_reducible rfl)
        try simp only [Act.put, List.setIfInBounds_toArray, List.set_cons_zero, List.set_cons_succ]
        refine wpAnyH_take (i := 12) (v := ?_) (by simp only [List.getElem?_toArray, List.getElem?_cons_succ, List.getElem?_cons_zero]; rfl) (by kernel_rfl) (by kernel_rfl) (by kernel_rfl) (by exact fun _ _ _ h => h) (Or.inl ⟨by rfl, ?_⟩) (by assumption) ?_
        rotate_left
        · intro wq hSw
          (try dsimp only at hSw)
          go_simp
          all_goals (with_reducible rfl)
        try simp only [Act.put, List.setIfInBounds_toArray, List.set_cons_zero, List.set_cons_succ]
        refine wpAnyH_take (i := 13) (v := ?_) (by simp only [List.getElem?_toArray, List.getElem?_cons_succ, List.getElem?_cons_zero]; rfl) (by kernel_rfl) (by kernel_rfl) (by kernel_rfl) (by exact fun _ _ _ h => h) (Or.inl ⟨by rfl, ?_⟩) (by assumption) ?_
        rotate_left
        · intro wq hSw
          (try dsimp only at hSw)
          go_simp
          all_goals (with_reducible rfl)
        try simp only [Act.put, List.setIfInBounds_toArray, List.set_cons_zero, List.set_cons_succ]
        refine wpAnyH_ready (rs := [14]) (by kernel_rfl) (by simp) ?_
        refine AllReadyH.cons (by simp only [List.getElem?_toArray, List.getElem?_cons_succ, List.getElem?_cons_zero]; rfl) (fun K hK => ?_) AllReadyH.nil
        rw [if_pos (by rfl)]
        refine wp_alloc28 rfl ?_
        intro g4 y6 hg4 hbx haw
        have hS := Away.on hHeld haw
        have hza : w3.heap.size ≤ _ := Away.size hHeld
        have hne : ∀ k, jo.ownBlock = some k ∨ jd.ownBlock = some k → k ≠ g4 := fun k hk => by have := (hmn.lto k hk).1; omega
        replace hpq := hpq.on haw
        replace hmn := hmn.on haw
        clear haw
        refine hK.out _ _ hS (fun hHeld => ?_)
        clear hK K
        try simp only [Act.put, List.setIfInBounds_toArray, List.set_cons_zero, List.set_cons_succ]
        refine wpAnyH_ready (rs := [15]) (by kernel_rfl) (by simp) ?_
        refine AllReadyH.cons (by simp only [List.getElem?_toArray, List.getElem?_cons_succ, List.getElem?_cons_zero]; rfl) (fun K hK => ?_) AllReadyH.nil
        rw [if_pos (by rfl)]
        refine wp_store28 (.tmp 4) (.tmp 67) rfl g4 rfl P0 jo jd rfl zeroPk (.slice none 0 0) (.slice none 0 0) (by exact hbx) hjw.ad ⟨rfl, rfl⟩ hmo hmd ?_
        intro y7 hb2 haw
        have hS : Away [] w3 y7 := Away.next hHeld haw (fun x hx => .inr (by simp at hx; omega))
        have hmn2 := hmn.away haw (fun k hk => by have := hne k hk; simpa using this)
        clear haw
        refine hK.out _ _ hS (fun hHeld => ?_)
        clear hK K
        try simp only [Act.put]
        refine wpAnyH_take (i := 16) (v := ?_) (by simp only [List.getElem?_toArray, List.getElem?_cons_succ, List.getElem?_cons_zero]; rfl) (by kernel_rfl) (by kernel_rfl) (by kernel_rfl) (by exact fun _ _ _ h => h) (Or.inl ⟨by rfl, ?_⟩) (by assumption) ?_
        rotate_left
        · intro wq hSw
          (try dsimp only at hSw)
          go_simp
          all_goals (with_reducible rfl)
        try simp only [Act.put]
        refine wpAnyH_done (by kernel_rfl) ?_ _
        go_wp2_with fail
        go_meet
        exact ⟨g4, jo, jd, rfl, rfl, hb2, hmn2.pkt hjw, hHeld⟩
      · rw [if_pos (by rfl)]
        refine wp_alloc28 rfl ?_
        intro g4 y5 hg4 hbx haw
        have hS := Away.on hHeld haw
        have hza : w3.heap.size ≤ _ := Away.size hHeld
        replace hpq := hpq.on haw
        clear haw
        refine hK.out _ _ hS (fun hHeld => ?_)
        clear hK K
        try simp only [Act.put, List.setIfInBounds_toArray, List.set_cons_zero, List.set_cons_succ]
        refine wpAnyH_ready (rs := [10]) (by kernel_rfl) (by simp) ?_
        refine AllReadyH.cons (by simp only [List.getElem?_toArray, List.getElem?_cons_succ, List.getElem?_cons_zero]; rfl) (fun K hK => ?_) AllReadyH.nil
        go_simp
        refine (join_c (some ⟨gq, 0, none⟩) [x2, x0, x1] 3 3 _ rfl (by simp) hpq (HG3.out.on hHeld)).mono ?_
        rintro E y6 ⟨jt, jc, jo, jd, hjt, rfl, hjw, hmn, haw⟩
        obtain ⟨rfl, rfl⟩ := l0_told (by rw [HJ.out] at hjt; exact hjt)
        have hS := Away.on hHeld haw
        have hzj : w3.heap.size ≤ _ := Away.size hHeld
        have hlx := hbx.lt
        have hne : ∀ k, jo.ownBlock = some k ∨ jd.ownBlock = some k → k ≠ g4 := fun k hk => by have := (hmn.lto k hk).2; omega
        replace hpq := hpq.on haw
        replace hbx := hbx.on haw
        have hmo := hmn.o.one; have hmd := hmn.d.one
        clear haw hjt
        go_wp2_with fail
        refine hK.out _ _ hS (fun hHeld => ?_)
        clear hK K
        try simp only [Act.put, List.setIfInBounds_toArray, List.set_cons_zero, List.set_cons_succ]
        refine wpAnyH_take (i := 11) (v := ?_) (by simp only [List.getElem?_toArray, List.getElem?_cons_succ, List.getElem?_cons_zero]; rfl) (by kernel_rfl) (by kernel_rfl) (by kernel_rfl) (by exact fun _ _ _ h => h) (Or.inl ⟨by rfl, ?_⟩) (by assumption) ?_
        rotate_left
        · intro wq hSw
          (try dsimp only at hSw)
          go_simp
          all_goals (with_reducible rfl)
        try simp only [Act.put, List.setIfInBounds_toArray, List.set_cons_zero, List.set_cons_succ]
        refine wpAnyH_take (i := 12) (v := ?_) (by simp only [List.getElem?_toArray, List.getElem?_cons_succ, List.getElem?_cons_zero]; rfl) (by kernel_rfl) (by kernel_rfl) (by kernel_rfl) (by exact fun _ _ _ h => h) (Or.inl ⟨by rfl, ?_⟩) (by assumption) ?_
        rotate_left
        · intro wq hSw
          (try dsimp only at hSw)
          go_simp
          all_goals (with_reducible rfl)
        try simp only [Act.put, List.setIfInBounds_toArray, List.set_cons_zero, List.set_cons_succ]
        refine wpAnyH_take (i := 13) (v := ?_) (by simp only [List.getElem?_toArray, List.getElem?_cons_succ, List.getElem?_cons_zero]; rfl) (by kernel_rfl) (by kernel_rfl) (by kernel_rfl) (by exact fun _ _ _ h => h) (Or.inl ⟨by rfl, ?_⟩) (by assumption) ?_
        rotate_left
        · intro wq hSw
          (try dsimp only at hSw)
          go_simp
          all_goals (with_reducible rfl)
        try simp only [Act.put, List.setIfInBounds_toArray, List.set_cons_zero, List.set_cons_succ]
        refine wpAnyH_ready (rs := [15]) (by kernel_rfl) (by simp) ?_
        refine AllReadyH.cons (by simp only [List.getElem?_toArray, List.getElem?_cons_succ, List.getElem?_cons_zero]; rfl) (fun K hK => ?_) AllReadyH.nil
        rw [if_pos (by rfl)]
        refine wp_store28 (.tmp 4) (.tmp 67) rfl g4 rfl P0 jo jd rfl zeroPk (.slice none 0 0) (.slice none 0 0) (by exact hbx) hjw.ad ⟨rfl, rfl⟩ hmo hmd ?_
        intro y7 hb2 haw
        have hS : Away [] w3 y7 := Away.next hHeld haw (fun x hx => .inr (by simp at hx; omega))
        have hmn2 := hmn.away haw (fun k hk => by have := hne k hk; simpa using this)
        clear haw
        refine hK.out _ _ hS (fun hHeld => ?_)
        clear hK K
        try simp only [Act.put]
        refine wpAnyH_take (i := 16) (v := ?_) (by simp only [List.getElem?_toArray, List.getElem?_cons_succ, List.getElem?_cons_zero]; rfl) (by kernel_rfl) (by kernel_rfl) (by kernel_rfl) (by exact fun _ _ _ h => h) (Or.inl ⟨by rfl, ?_⟩) (by assumption) ?_
        rotate_left
        · intro wq hSw
          (try dsimp only at hSw)
          go_simp
          all_goals (with_reducible rfl)
        try simp only [Act.put]
        refine wpAnyH_done (by kernel_rfl) ?_ _
        go_wp2_with fail
        go_meet
        exact ⟨g4, jo, jd, rfl, rfl, hb2, hmn2.pkt hjw, hHeld⟩
    · rw [if_pos (by rfl)]
      refine wp_alloc28 rfl ?_
      intro g4 y4 hg4 hbx haw
      have hS := Away.on hHeld haw
      have hza : w3.heap.size ≤ _ := Away.size hHeld
      clear haw
      refine hK.out _ _ hS (fun hHeld => ?_)
      clear hK K
      try simp only [Act.put, List.setIfInBounds_toArray, List.set_cons_zero, List.set_cons_succ]
      refine wpAnyH_ready (rs := [9]) (by kernel_rfl) (by simp) ?_
      refine AllReadyH.cons (by simp only [List.getElem?_toArray, List.getElem?_cons_succ, List.getElem?_cons_zero]; rfl) (fun K hK => ?_) AllReadyH.nil
      rw [if_pos (by rfl)]
      refine wp_build3 _ _ _ rfl x2 x0 x1 rfl rfl rfl HA2.out HA0.out HA1.out ?_
      intro gq y5 hgq hlq haw
      have hS := Away.on hHeld haw
      have hpq : Pks y5 (some ⟨gq, 0, none⟩) [x2, x0, x1] := by
        obtain ⟨a', c', hv', -, -, hp', -⟩ := hlq.pks (by simp) (fun x hx => by simp at hx; rcases hx with rfl | rfl | rfl; exact (HK2.out).on hS; exact (HK0.out).on hS; exact (HK1.out).on hS)
        simp only [List.length_cons, List.length_nil, Value.slice.injEq] at hv'
        rw [hv'.1]; exact hp'
      replace hbx := hbx.on haw
      clear haw hlq
      refine hK.out _ _ hS (fun hHeld => ?_)
      clear hK K
      try simp only [Act.put, List.setIfInBounds_toArray, List.set_cons_zero, List.set_cons_succ]
      refine wpAnyH_ready (rs := [10]) (by kernel_rfl) (by simp) ?_
      refine AllReadyH.cons (by simp only [List.getElem?_toArray, List.getElem?_cons_succ, List.getElem?_cons_zero]; rfl) (fun K hK => ?_) AllReadyH.nil
      go_simp
      refine (join_c (some ⟨gq, 0, none⟩) [x2, x0, x1] 3 3 _ rfl (by simp) hpq (HG3.out.on hHeld)).mono ?_
      rintro E y6 ⟨jt, jc, jo, jd, hjt, rfl, hjw, hmn, haw⟩
      obtain ⟨rfl, rfl⟩ := l0_told (by rw [HJ.out] at hjt; exact hjt)
      have hS := Away.on hHeld haw
      have hzj : w3.heap.size ≤ _ := Away.size hHeld
      have hlx := hbx.lt
      have hne : ∀ k, jo.ownBlock = some k ∨ jd.ownBlock = some k → k ≠ g4 := fun k hk => by have := (hmn.lto k hk).2; omega
      replace hbx := hbx.on haw
      replace hpq := hpq.on haw
      have hmo := hmn.o.one; have hmd := hmn.d.one
      clear haw hjt
      go_wp2_with fail
      refine hK.out _ _ hS (fun hHeld => ?_)
      clear hK K
      try simp only [Act.put, List.setIfInBounds_toArray, List.set_cons_zero, List.set_cons_succ]
      refine wpAnyH_take (i := 11) (v := ?_) (by simp only [List.getElem?_toArray, List.getElem?_cons_succ, List.getElem?_cons_zero]; rfl) (by kernel_rfl) (by kernel_rfl) (by kernel_rfl) (by exact fun _ _ _ h => h) (Or.inl ⟨by rfl, ?_⟩) (by assumption) ?_
      rotate_left
      · intro wq hSw
        (try dsimp only at hSw)
        go_simp
        all_goals (with_reducible rfl)
      try simp only [Act.put, List.setIfInBounds_toArray, List.set_cons_zero, List.set_cons_succ]
      refine wpAnyH_take (i := 12) (v := ?_) (by simp only [List.getElem?_toArray, List.getElem?_cons_succ, List.getElem?_cons_zero]; rfl) (by kernel_rfl) (by kernel_rfl) (by kernel_rfl) (by exact fun _ _ _ h => h) (Or.inl ⟨by rfl, ?_⟩) (by assumption) ?_
      rotate_left
      · intro wq hSw
        (try dsimp only at hSw)
        go_simp
        all_goals (with_reducible rfl)
      try simp only [Act.put, List.setIfInBounds_toArray, List.set_cons_zero, List.set_cons_succ]
      refine wpAnyH_take (i := 13) (v := ?_) (by simp only [List.getElem?_toArray, List.getElem?_cons_succ, List.getElem?_cons_zero]; rfl) (by kernel_rfl) (by kernel_rfl) (by kernel_rfl) (by exact fun _ _ _ h => h) (Or.inl ⟨by rfl, ?_⟩) (by assumption) ?_
      rotate_left
      · intro wq hSw
        (try dsimp only at hSw)
        go_simp
        all_goals (with_reducible rfl)
      try simp only [Act.put, List.setIfInBounds_toArray, List.set_cons_zero, List.set_cons_succ]
      refine wpAnyH_ready (rs := [15]) (by kernel_rfl) (by simp) ?_
      refine AllReadyH.cons (by simp only [List.getElem?_toArray, List.getElem?_cons_succ, List.getElem?_cons_zero]; rfl) (fun K hK => ?_) AllReadyH.nil
      rw [if_pos (by rfl)]
      refine wp_store28 (.tmp 4) (.tmp 67) rfl g4 rfl P0 jo jd rfl zeroPk (.slice none 0 0) (.slice none 0 0) (by exact hbx) hjw.ad ⟨rfl, rfl⟩ hmo hmd ?_
      intro y7 hb2 haw
      have hS : Away [] w3 y7 := Away.next hHeld haw (fun x hx => .inr (by simp at hx; omega))
      have hmn2 := hmn.away haw (fun k hk => by have := hne k hk; simpa using this)
      clear haw
      refine hK.out _ _ hS (fun hHeld => ?_)
      clear hK K
      try simp only [Act.put]
      refine wpAnyH_take (i := 16) (v := ?_) (by simp only [List.getElem?_toArray, List.getElem?_cons_succ, List.getElem?_cons_zero]; rfl) (by kernel_rfl) (by kernel_rfl) (by kernel_rfl) (by exact fun _ _ _ h => h) (Or.inl ⟨by rfl, ?_⟩) (by assumption) ?_
      rotate_left
      · intro wq hSw
        (try dsimp only at hSw)
        go_simp
        all_goals (with_reducible rfl)
      try simp only [Act.put]
      refine wpAnyH_done (by kernel_rfl) ?_ _
      go_wp2_with fail
      go_meet
      exact ⟨g4, jo, jd, rfl, rfl, hb2, hmn2.pkt hjw, hHeld⟩
  case rest =>
  obtain ⟨g4, jo, jd, rfl, rfl, hb4, hpj, haw⟩ := hcut
  rw [show P0 = q from HQ.out.symm] at hb4 hpj
  have HB4 := Lib.hid hb4; have HPJ := Lib.hid hpj
  replace HB := Lib.hid (HB.out.on haw)
  replace HP := Lib.hid (HP.out.on haw)
  replace HA := Lib.hid (HA.out.on haw)
  replace HPK := Lib.hid (HPK.out.on haw)
  clear haw hb4 hpj HR0 HR1 HR2 HK0 HK1 HK2
  go_wp2_with (first | (refine wpList_load28 rfl _ rfl g rfl q _ _ (by exact HB.out) HAD.out ?_) | (refine wpList_load28 rfl _ rfl g4 rfl q _ _ (by exact HB4.out) HAD.out ?_))
  refine (Same_yes q (.slice none 0 0) dv jo jd _ HP.out HPJ.out).mono ?_
  rintro E w6 ⟨rfl, haw⟩
  replace HB := Lib.hid (HB.out.on haw)
  replace HP := Lib.hid (HP.out.on haw)
  replace HA := Lib.hid (HA.out.on haw)
  replace HPK := Lib.hid (HPK.out.on haw)
  clear haw
  go_wp2_with (refine wpList_load28 rfl _ rfl g rfl q _ _ (by exact HB.out) HAD.out ?_)
  refine (is_c q (.slice none 0 0) dv 119 (some ⟨b0, 0, none⟩) [x0, x1, x2] 3 vc _ rfl HP.out HPK.out (HG.out.on HA.out)).mono ?_
  rw [show isR q 119 ([x0, x1, x2].map X.p) = true by rw [HLS.out, HQ.out]; exact p0_is]
  rintro E w7 ⟨rfl, haw⟩
  replace HB := Lib.hid (HB.out.on haw)
  replace HP := Lib.hid (HP.out.on haw)
  replace HA := Lib.hid (HA.out.on haw)
  replace HPK := Lib.hid (HPK.out.on haw)
  clear haw
  go_wp2_with (refine wpList_load28 rfl _ rfl g rfl q _ _ (by exact HB.out) HAD.out ?_)
  refine (is_c q (.slice none 0 0) dv 67 (some ⟨b0, 0, none⟩) [x0, x1, x2] 3 vc _ rfl HP.out HPK.out (HG.out.on HA.out)).mono ?_
  rw [show isR q 67 ([x0, x1, x2].map X.p) = false by rw [HLS.out, HQ.out]; exact p0_not]
  rintro E w8 ⟨rfl, haw⟩
  replace HA := Lib.hid (HA.out.on haw)
  clear haw
  go_wp2_with fail
  go_ret
  exact ⟨rfl, HA.out⟩
end R
#print axioms R.known_c
end Go.Proofs.YtaicckenpplceaaGreatDoor

namespace Go.Proofs.YtaicckenpplceaaGreatDoor
open Go.ChangeShapes Go.WideShapes Go.ChangeAt Go.RowKit Num
set_option linter.unusedVariables false
set_option maxHeartbeats 8000000
set_option maxRecDepth 100000

namespace R
/-- own: a copy, at every depth. -/
theorem lown_c (p : Pk) (ov dv : Value) (w : World) (hp : Pkt w p ov dv) :
    Calls Tryz.prog 18 #[.agg (csP p ov dv)] w fun E w' => OwnOut w p E w' := by
  have HAD := Lib.hid hp.wf.ad
  have hol := hp.wf.ol; have hdn := hp.wf.dn
  have HO := Lib.hid hp.o; have HD := Lib.hid hp.d
  obtain ⟨o1, o2, hoe, -, -, -⟩ := hp.o
  obtain ⟨o3, o4, hde, -, -, -⟩ := hp.d
  rw [hoe] at HO ⊢
  rw [hde] at HD ⊢
  clear hoe hde hp
  go_enter Tryz.func18, Tryz.ntmps18
  go_wp2_with (refine wpList_box28 rfl _ rfl p _ _ rfl ?_; refine Hid.out ?_)
  refine Lib.hid ?_
  intro g1 w1 hg1 hb1 haw1
  have HB1 := Lib.hid hb1; have HA := Lib.hid haw1
  have hl1 := hb1.lt
  clear hb1 haw1
  go_wp2_with (refine wpList_alloc28 rfl rfl ?_; refine Hid.out ?_)
  refine Lib.hid ?_
  intro g2 w2 hg2 hb2 haw2
  have HB2 := Lib.hid hb2
  replace HB1 := Lib.hid (HB1.out.on haw2)
  replace HA := Lib.hid (HA.out.on haw2)
  have hl2 := hb2.lt
  have hs2 := haw2.size
  clear hb2 haw2
  have c44 := (HB1.out.cells HAD.out).o
  have HO2 := Lib.hid (HO.out.on HA.out)
  go_wp2_with (refine wpList_appAny rfl _ _ rfl _ _ p.o rfl (Owns.nil _) _ rfl (by exact HO2.out) (by simpa using hol) ?_; refine Hid.out ?_)
  refine Lib.hid ?_
  intro v1 w3 hown haway hmoved hsz
  have ha3 : Away [] w2 w3 := haway [] w2 (Away.refl _ _) (by simp [Value.ownBlock])
  have hn1 : New w2.heap.size v1 := fun k hk => by rcases hmoved k hk with h | h; simp [Value.ownBlock] at h; exact h
  have hown1 : Owns w3 v1 p.o := by simpa using hown
  obtain ⟨a3, n3, k3, rfl⟩ := hown1.shp
  replace HB1 := Lib.hid (HB1.out.on ha3)
  replace HB2 := Lib.hid (HB2.out.on ha3)
  replace HA := Lib.hid (HA.out.on ha3)
  have hl3 := hown1.lt
  have HO1 := Lib.hid hown1; have HN1 := Lib.hid hn1
  clear c44 HO2 hown haway hmoved ha3 hown1 hn1
  have HBa := Lib.hid (HB1.out.put 44 (.slice a3 n3 k3) ((csP_set HAD.out _ _).2.2.2.2.2.2.2.2.2.2.2.2.1 p.o (.slice a3 n3 k3)))
  have hAa := away_put (w := w3) (g := g1) 44 (.slice a3 n3 k3)
  have HO3 := Lib.hid (HO1.out.away hAa (fun k hk => by have := HN1.out k hk; simp; omega))
  have HB3 := Lib.hid (HB2.out.away hAa (by simp; omega))
  have HA3 := Lib.hid (HA.out.next hAa (fun x hx => .inr (by simp at hx; omega)))
  have HD3 := Lib.hid (HD.out.on HA3.out)
  have hz3 : (w3.setCell ⟨g1, 44, none⟩ (.slice a3 n3 k3)).heap.size = w3.heap.size := by simp
  have s44 := (HB1.out.cells HAD.out).o
  have f44 := HB1.out.free 44
  clear hAa HB1 HB2 HA HO1
  go_upto_region 2 with fail
  clear s44 f44
  generalize w3.setCell ⟨g1, 44, none⟩ (.slice a3 n3 k3) = w4 at *
  have HZ3 := Lib.hid hz3
  clear hz3
  have c45 := (HBa.out.cells HAD.out).d
  go_wp2_with (refine wpList_appAny rfl _ _ rfl _ _ p.d rfl (Owns.nil _) _ rfl (by exact HD3.out) (by simpa using hdn) ?_; refine Hid.out ?_)
  refine Lib.hid ?_
  intro v2 w5 hown haway hmoved hsz5
  have ha5 : Away [] w4 w5 := haway [] w4 (Away.refl _ _) (by simp [Value.ownBlock])
  have hn2 : New w4.heap.size v2 := fun k hk => by rcases hmoved k hk with h | h; simp [Value.ownBlock] at h; exact h
  have hown2 : Owns w5 v2 p.d := by simpa using hown
  obtain ⟨a5, n5, k5, rfl⟩ := hown2.shp
  replace HBa := Lib.hid (HBa.out.on ha5)
  replace HB3 := Lib.hid (HB3.out.on ha5)
  replace HA3 := Lib.hid (HA3.out.on ha5)
  replace HO3 := Lib.hid (HO3.out.on ha5)
  have HO5 := Lib.hid hown2
  have hz := HZ3.out
  have hv3 : ∀ k, (Value.slice a3 n3 k3).ownBlock = some k → k ≠ g1 ∧ k ≠ g2 ∧ w.heap.size ≤ k ∧ k < w4.heap.size := fun k hk => by
    have h1 := HN1.out k hk
    have h2 := hl3 k hk
    exact ⟨by omega, by omega, by omega, by omega⟩
  have hv5 : ∀ k, (Value.slice a5 n5 k5).ownBlock = some k → k ≠ g1 ∧ k ≠ g2 ∧ w.heap.size ≤ k ∧ w4.heap.size ≤ k := fun k hk => by
    have h1 := hn2 k hk
    exact ⟨by omega, by omega, by omega, h1⟩
  have hAb := away_put (w := w5) (g := g1) 45 (.slice a5 n5 k5)
  have HBb := Lib.hid (HBa.out.put 45 (.slice a5 n5 k5) ((csP_set (p := { p with o := p.o }) HAD.out _ _).2.2.2.2.2.2.2.2.2.2.2.2.2 p.d (.slice a5 n5 k5)))
  have HM := Lib.hid (show Mine _ w.heap.size p (.slice a3 n3 k3) (.slice a5 n5 k5) from ⟨HO3.out.away hAb (fun k hk => by simpa using (hv3 k hk).1), HO5.out.away hAb (fun k hk => by simpa using (hv5 k hk).1), fun k hk => (hv3 k hk).2.2.1, fun k hk => (hv5 k hk).2.2.1, fun k hk e => by
    have h1 := (hv3 k hk).2.2.2; have h2 := (hv5 k e).2.2.2; omega⟩)
  have HB6 := Lib.hid (HB3.out.away hAb (by simp; omega))
  have HA6 := Lib.hid (HA3.out.next hAb (fun x hx => .inr (by simp at hx; omega)))
  have HV := Lib.hid (show ∀ k, (Value.slice a3 n3 k3).ownBlock = some k ∨ (Value.slice a5 n5 k5).ownBlock = some k → k ≠ g2 from fun k hk => by
    rcases hk with hk | hk
    · exact (hv3 k hk).2.1
    · exact (hv5 k hk).2.1)
  have hz7 : w.heap.size ≤ g2 := by omega
  have s45 := (HBa.out.cells HAD.out).d
  have f45 := HBa.out.free 45
  clear c45 HD3 hown haway hmoved ha5 hown2 hn2 hv3 hv5 hAb HBa HB3 HA3 HO3 HO5 hz hsz hsz5
  go_upto_region 3 with fail
  clear s45 f45
  generalize w5.setCell ⟨g1, 45, none⟩ (.slice a5 n5 k5) = w6 at *
  go_wp2_with (first
    | (refine wpList_load28 rfl _ rfl _ rfl p _ _ (by exact HBb.out) HAD.out ?_)
    | (refine wpList_store28 rfl _ _ rfl _ rfl p (.slice a3 n3 k3) (.slice a5 n5 k5) rfl zeroPk (.slice none 0 0) (.slice none 0 0) (by exact HB6.out) HAD.out ⟨rfl, rfl⟩ rfl rfl ?_; refine Hid.out ?_))
  refine Lib.hid ?_
  intro w7 hb7 haw7
  have HB8 := Lib.hid hb7
  have HA8 : Hid (Away [] w w7) := HA6.out.next haw7 (fun x hx => .inr (by simp at hx; omega))
  have HM8 := Lib.hid (HM.out.away haw7 (fun k hk => by simpa using HV.out k hk))
  clear hb7 haw7
  go_wp2_with fail
  exact bodyPost_ret (result28 rfl _ _ _ _ _ _ rfl HB8.out HAD.out) rfl ⟨_, _, rfl, HM8.out, HA8.out⟩
end R
#print axioms R.lown_c
end Go.Proofs.YtaicckenpplceaaGreatDoor
