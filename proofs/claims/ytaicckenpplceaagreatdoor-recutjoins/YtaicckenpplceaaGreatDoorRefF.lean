/-
  The document's own: Address4, Fields, Right, Head.
-/
import Derived.Test.YtaicckenpplceaaGreatDoorRefO
namespace Go.Proofs.YtaicckenpplceaaGreatDoor
open Go.ChangeShapes Go.WideShapes Go.ChangeAt Go.RowKit Num
set_option linter.unusedVariables false
set_option maxHeartbeats 4000000
set_option maxRecDepth 100000

theorem wpList_box24 {ops : Array Oper} {rest : List Oper} {o : Oper} {a : Act} {w : World} {Q : Exit → Act → World → Prop} (hg : o.guard = none) (x : Operand) (ho : o.op = .box 25 x)
    (v : Int) (l : List Int) (hx : a.eval x = .agg (csA v l))
    (h : ∀ g w1, w.heap.size ≤ g → BoxA w1 g v l → Away [] w w1 → wpList Tryz.prog ops Q rest (a.put o.dst (.pointer (some ⟨g, 0, none⟩))) w1) : wpList Tryz.prog ops Q (o :: rest) a w := by
  refine wpList_plain hg fun K hK => ?_
  unfold Oper.wp execOp
  simp only [ho, hx, Sem.run_bind, Instr.box, newVar, newRow, run_newObj_alloc, Sem.run_pure, Result.andThen_ok]
  exact hK _ _ (h w.heap.size _ (Nat.le_refl _) (block_new _ _) ((Away.refl [] w).alloc _))
theorem BoxA.byte {w : World} {g : Nat} {v : Int} {l : List Int} (h : BoxA w g v l) (i : Nat) (hi : i < l.length) : w.cell? ⟨g, 1 + i, none⟩ = some (.int .u8 (gt l i)) := by
  rw [cell_of_block h]
  simp [csA, cellsA, gt, Nat.add_comm 1 i, hi]
theorem zeros_from (l : List Int) (hl : l.length = 16) : (∀ j, 4 ≤ j → j < 16 → gt l j = 0) ↔ l.drop 4 = z12 := by
  obtain ⟨b0, b1, b2, b3, b4, b5, b6, b7, b8, b9, b10, b11, b12, b13, b14, b15, rfl⟩ := list16 hl
  constructor
  · intro h
    have h4 := h 4 (by omega) (by omega); have h5 := h 5 (by omega) (by omega); have h6 := h 6 (by omega) (by omega); have h7 := h 7 (by omega) (by omega)
    have h8 := h 8 (by omega) (by omega); have h9 := h 9 (by omega) (by omega); have h10 := h 10 (by omega) (by omega); have h11 := h 11 (by omega) (by omega)
    have h12 := h 12 (by omega) (by omega); have h13 := h 13 (by omega) (by omega); have h14 := h 14 (by omega) (by omega); have h15 := h 15 (by omega) (by omega)
    simp only [gt] at h4 h5 h6 h7 h8 h9 h10 h11 h12 h13 h14 h15
    simp at h4 h5 h6 h7 h8 h9 h10 h11 h12 h13 h14 h15
    subst h4 h5 h6 h7 h8 h9 h10 h11 h12 h13 h14 h15
    rfl
  · intro h j h4 h16
    have e : gt [b0, b1, b2, b3, b4, b5, b6, b7, b8, b9, b10, b11, b12, b13, b14, b15] j = gt z12 (j - 4) := by
      rw [← h]; unfold gt; rw [List.getElem?_drop]; congr 2; omega
    rw [e]
    exact (show ∀ k, k < 12 → gt z12 k = 0 by decide) (j - 4) (by omega)
theorem raddr_c (v : Int) (l : List Int) (hl : l.length = 16) (w : World) :
    Calls Tryz.prog 76 #[.agg (csA v l)] w fun E w' => E = .returned (.bool (adrP v l)) ∧ Away [] w w' := by
  have hz := zeros_from l hl
  have HV : Hid (adrP v l = (decide (v = 4) && decide (l.drop 4 = z12))) := rfl
  have HZ := Lib.hid hz
  clear hz
  generalize adrP v l = V at *
  go_enter Tryz.func76, Tryz.ntmps76
  go_wp2_with (refine wpList_box24 rfl _ rfl v l rfl ?_; refine Hid.out ?_)
  refine Lib.hid ?_
  intro g w1 hg hb haw
  have HB := Lib.hid hb; have HA := Lib.hid haw
  clear hb haw
  go_wp2_with fail
  go_loopw [3] (fun i wr => ∃ k : Nat, 4 ≤ k ∧ k ≤ 16 ∧ i = .int .i64 k ∧ Hid (∀ j, 4 ≤ j → j < k → gt l j = 0) ∧ wr = w1) (fun i _ => 16 - (intOf i).toNat)
  case atStart => exact ⟨4, by omega, by omega, rfl, Lib.hid (fun j h1 h2 => by omega), rfl⟩
  case round =>
    obtain ⟨k, h4, h16, rfl, HK, rfl⟩ := hrel
    obtain rfl | rfl | rfl | rfl | rfl | rfl | rfl | rfl | rfl | rfl | rfl | rfl | rfl : k = 4 ∨ k = 5 ∨ k = 6 ∨ k = 7 ∨ k = 8 ∨ k = 9 ∨ k = 10 ∨ k = 11 ∨ k = 12 ∨ k = 13 ∨ k = 14 ∨ k = 15 ∨ k = 16 := by omega
    · have c0 := HB.out.byte 4 (by omega)
      simp only [Nat.reduceAdd] at c0
      by_cases hx : gt l 4 = 0
      · have HK2 : Hid (∀ j, 4 ≤ j → j < 5 → gt l j = 0) := fun j h1 h2 => by
          by_cases hj : j < 4
          · exact HK.out j h1 hj
          · obtain rfl : j = 4 := by omega
            exact hx
        rw [hx] at c0
        go_wp2_with fail
        go_roundw
        case rel => exact ⟨5, by omega, by omega, by rfl, HK2, by trivial⟩
        case measure => simp [intOf]
      · obtain rfl : V = false := by
          rw [HV.out, decide_eq_false (p := l.drop 4 = z12) (fun e => hx ((HZ.out.2 e) 4 (by omega) (by omega)))]; simp
        generalize gt l 4 = x at *
        go_wp2_with fail
        go_ret
        exact ⟨rfl, HA.out⟩
    · have c0 := HB.out.byte 5 (by omega)
      simp only [Nat.reduceAdd] at c0
      by_cases hx : gt l 5 = 0
      · have HK2 : Hid (∀ j, 4 ≤ j → j < 6 → gt l j = 0) := fun j h1 h2 => by
          by_cases hj : j < 5
          · exact HK.out j h1 hj
          · obtain rfl : j = 5 := by omega
            exact hx
        rw [hx] at c0
        go_wp2_with fail
        go_roundw
        case rel => exact ⟨6, by omega, by omega, by rfl, HK2, by trivial⟩
        case measure => simp [intOf]
      · obtain rfl : V = false := by
          rw [HV.out, decide_eq_false (p := l.drop 4 = z12) (fun e => hx ((HZ.out.2 e) 5 (by omega) (by omega)))]; simp
        generalize gt l 5 = x at *
        go_wp2_with fail
        go_ret
        exact ⟨rfl, HA.out⟩
    · have c0 := HB.out.byte 6 (by omega)
      simp only [Nat.reduceAdd] at c0
      by_cases hx : gt l 6 = 0
      · have HK2 : Hid (∀ j, 4 ≤ j → j < 7 → gt l j = 0) := fun j h1 h2 => by
          by_cases hj : j < 6
          · exact HK.out j h1 hj
          · obtain rfl : j = 6 := by omega
            exact hx
        rw [hx] at c0
        go_wp2_with fail
        go_roundw
        case rel => exact ⟨7, by omega, by omega, by rfl, HK2, by trivial⟩
        case measure => simp [intOf]
      · obtain rfl : V = false := by
          rw [HV.out, decide_eq_false (p := l.drop 4 = z12) (fun e => hx ((HZ.out.2 e) 6 (by omega) (by omega)))]; simp
        generalize gt l 6 = x at *
        go_wp2_with fail
        go_ret
        exact ⟨rfl, HA.out⟩
    · have c0 := HB.out.byte 7 (by omega)
      simp only [Nat.reduceAdd] at c0
      by_cases hx : gt l 7 = 0
      · have HK2 : Hid (∀ j, 4 ≤ j → j < 8 → gt l j = 0) := fun j h1 h2 => by
          by_cases hj : j < 7
          · exact HK.out j h1 hj
          · obtain rfl : j = 7 := by omega
            exact hx
        rw [hx] at c0
        go_wp2_with fail
        go_roundw
        case rel => exact ⟨8, by omega, by omega, by rfl, HK2, by trivial⟩
        case measure => simp [intOf]
      · obtain rfl : V = false := by
          rw [HV.out, decide_eq_false (p := l.drop 4 = z12) (fun e => hx ((HZ.out.2 e) 7 (by omega) (by omega)))]; simp
        generalize gt l 7 = x at *
        go_wp2_with fail
        go_ret
        exact ⟨rfl, HA.out⟩
    · have c0 := HB.out.byte 8 (by omega)
      simp only [Nat.reduceAdd] at c0
      by_cases hx : gt l 8 = 0
      · have HK2 : Hid (∀ j, 4 ≤ j → j < 9 → gt l j = 0) := fun j h1 h2 => by
          by_cases hj : j < 8
          · exact HK.out j h1 hj
          · obtain rfl : j = 8 := by omega
            exact hx
        rw [hx] at c0
        go_wp2_with fail
        go_roundw
        case rel => exact ⟨9, by omega, by omega, by rfl, HK2, by trivial⟩
        case measure => simp [intOf]
      · obtain rfl : V = false := by
          rw [HV.out, decide_eq_false (p := l.drop 4 = z12) (fun e => hx ((HZ.out.2 e) 8 (by omega) (by omega)))]; simp
        generalize gt l 8 = x at *
        go_wp2_with fail
        go_ret
        exact ⟨rfl, HA.out⟩
    · have c0 := HB.out.byte 9 (by omega)
      simp only [Nat.reduceAdd] at c0
      by_cases hx : gt l 9 = 0
      · have HK2 : Hid (∀ j, 4 ≤ j → j < 10 → gt l j = 0) := fun j h1 h2 => by
          by_cases hj : j < 9
          · exact HK.out j h1 hj
          · obtain rfl : j = 9 := by omega
            exact hx
        rw [hx] at c0
        go_wp2_with fail
        go_roundw
        case rel => exact ⟨10, by omega, by omega, by rfl, HK2, by trivial⟩
        case measure => simp [intOf]
      · obtain rfl : V = false := by
          rw [HV.out, decide_eq_false (p := l.drop 4 = z12) (fun e => hx ((HZ.out.2 e) 9 (by omega) (by omega)))]; simp
        generalize gt l 9 = x at *
        go_wp2_with fail
        go_ret
        exact ⟨rfl, HA.out⟩
    · have c0 := HB.out.byte 10 (by omega)
      simp only [Nat.reduceAdd] at c0
      by_cases hx : gt l 10 = 0
      · have HK2 : Hid (∀ j, 4 ≤ j → j < 11 → gt l j = 0) := fun j h1 h2 => by
          by_cases hj : j < 10
          · exact HK.out j h1 hj
          · obtain rfl : j = 10 := by omega
            exact hx
        rw [hx] at c0
        go_wp2_with fail
        go_roundw
        case rel => exact ⟨11, by omega, by omega, by rfl, HK2, by trivial⟩
        case measure => simp [intOf]
      · obtain rfl : V = false := by
          rw [HV.out, decide_eq_false (p := l.drop 4 = z12) (fun e => hx ((HZ.out.2 e) 10 (by omega) (by omega)))]; simp
        generalize gt l 10 = x at *
        go_wp2_with fail
        go_ret
        exact ⟨rfl, HA.out⟩
    · have c0 := HB.out.byte 11 (by omega)
      simp only [Nat.reduceAdd] at c0
      by_cases hx : gt l 11 = 0
      · have HK2 : Hid (∀ j, 4 ≤ j → j < 12 → gt l j = 0) := fun j h1 h2 => by
          by_cases hj : j < 11
          · exact HK.out j h1 hj
          · obtain rfl : j = 11 := by omega
            exact hx
        rw [hx] at c0
        go_wp2_with fail
        go_roundw
        case rel => exact ⟨12, by omega, by omega, by rfl, HK2, by trivial⟩
        case measure => simp [intOf]
      · obtain rfl : V = false := by
          rw [HV.out, decide_eq_false (p := l.drop 4 = z12) (fun e => hx ((HZ.out.2 e) 11 (by omega) (by omega)))]; simp
        generalize gt l 11 = x at *
        go_wp2_with fail
        go_ret
        exact ⟨rfl, HA.out⟩
    · have c0 := HB.out.byte 12 (by omega)
      simp only [Nat.reduceAdd] at c0
      by_cases hx : gt l 12 = 0
      · have HK2 : Hid (∀ j, 4 ≤ j → j < 13 → gt l j = 0) := fun j h1 h2 => by
          by_cases hj : j < 12
          · exact HK.out j h1 hj
          · obtain rfl : j = 12 := by omega
            exact hx
        rw [hx] at c0
        go_wp2_with fail
        go_roundw
        case rel => exact ⟨13, by omega, by omega, by rfl, HK2, by trivial⟩
        case measure => simp [intOf]
      · obtain rfl : V = false := by
          rw [HV.out, decide_eq_false (p := l.drop 4 = z12) (fun e => hx ((HZ.out.2 e) 12 (by omega) (by omega)))]; simp
        generalize gt l 12 = x at *
        go_wp2_with fail
        go_ret
        exact ⟨rfl, HA.out⟩
    · have c0 := HB.out.byte 13 (by omega)
      simp only [Nat.reduceAdd] at c0
      by_cases hx : gt l 13 = 0
      · have HK2 : Hid (∀ j, 4 ≤ j → j < 14 → gt l j = 0) := fun j h1 h2 => by
          by_cases hj : j < 13
          · exact HK.out j h1 hj
          · obtain rfl : j = 13 := by omega
            exact hx
        rw [hx] at c0
        go_wp2_with fail
        go_roundw
        case rel => exact ⟨14, by omega, by omega, by rfl, HK2, by trivial⟩
        case measure => simp [intOf]
      · obtain rfl : V = false := by
          rw [HV.out, decide_eq_false (p := l.drop 4 = z12) (fun e => hx ((HZ.out.2 e) 13 (by omega) (by omega)))]; simp
        generalize gt l 13 = x at *
        go_wp2_with fail
        go_ret
        exact ⟨rfl, HA.out⟩
    · have c0 := HB.out.byte 14 (by omega)
      simp only [Nat.reduceAdd] at c0
      by_cases hx : gt l 14 = 0
      · have HK2 : Hid (∀ j, 4 ≤ j → j < 15 → gt l j = 0) := fun j h1 h2 => by
          by_cases hj : j < 14
          · exact HK.out j h1 hj
          · obtain rfl : j = 14 := by omega
            exact hx
        rw [hx] at c0
        go_wp2_with fail
        go_roundw
        case rel => exact ⟨15, by omega, by omega, by rfl, HK2, by trivial⟩
        case measure => simp [intOf]
      · obtain rfl : V = false := by
          rw [HV.out, decide_eq_false (p := l.drop 4 = z12) (fun e => hx ((HZ.out.2 e) 14 (by omega) (by omega)))]; simp
        generalize gt l 14 = x at *
        go_wp2_with fail
        go_ret
        exact ⟨rfl, HA.out⟩
    · have c0 := HB.out.byte 15 (by omega)
      simp only [Nat.reduceAdd] at c0
      by_cases hx : gt l 15 = 0
      · have HK2 : Hid (∀ j, 4 ≤ j → j < 16 → gt l j = 0) := fun j h1 h2 => by
          by_cases hj : j < 15
          · exact HK.out j h1 hj
          · obtain rfl : j = 15 := by omega
            exact hx
        rw [hx] at c0
        go_wp2_with fail
        go_roundw
        case rel => exact ⟨16, by omega, by omega, by rfl, HK2, by trivial⟩
        case measure => simp [intOf]
      · obtain rfl : V = false := by
          rw [HV.out, decide_eq_false (p := l.drop 4 = z12) (fun e => hx ((HZ.out.2 e) 15 (by omega) (by omega)))]; simp
        generalize gt l 15 = x at *
        go_wp2_with fail
        go_ret
        exact ⟨rfl, HA.out⟩
    · have c0 := HB.out.v
      have e12 : decide (l.drop 4 = z12) = true := decide_eq_true (HZ.out.1 HK.out)
      by_cases hv : v = 4
      · subst hv
        obtain rfl : V = true := by rw [HV.out, e12]; simp
        go_wp2_with fail
        go_ret
        exact ⟨rfl, HA.out⟩
      · obtain rfl : V = false := by rw [HV.out, e12]; simp [hv]
        have hv' : (v == 4) = false := by simp [hv]
        go_wp2_with fail
        go_ret
        exact ⟨rfl, HA.out⟩
theorem rfields_c (p : Pk) (ov dv : Value) (w : World) (hp : Pkt w p ov dv) :
    Calls Tryz.prog 57 #[.agg (csP p ov dv)] w fun E w' => E = .returned (.bool (formedP p)) ∧ Away [] w w' := by
  have hwf := hp.wf
  have ha := hwf.ad
  obtain ⟨-, ⟨oa, oc, rfl, -⟩, ⟨da, dc, rfl, -⟩⟩ := hp
  have hid0 := hwf.id0
  have hol := hwf.ol; have hdl := hwf.dn
  have hob := hwf.off
  have HAD := Lib.hid ha
  have HV : Hid (formedP p = (decide (p.v = 4) && decide (p.flow = 0) && !p.frag && decide (p.id ≤ 65535) && octP p.tos && octP p.ttl && octP p.proto && adrP p.sv p.sb && adrP p.dv p.db && placedP p.off p.more p.d.length && decide (20 + p.o.length + p.d.length ≤ 65535))) := rfl
  generalize formedP p = V at *
  go_enter Tryz.func57, Tryz.ntmps57
  go_wp2_with (refine wpList_box28 rfl _ rfl p _ _ rfl ?_; refine Hid.out ?_)
  refine Lib.hid ?_
  intro g w1 hg hb haw
  have HB := Lib.hid hb; have HA := Lib.hid haw
  have cs := hb.cells ha
  have c_v := cs.v; have c_tos := cs.tos; have c_flow := cs.flow; have c_proto := cs.proto; have c_ttl := cs.ttl; have c_id := cs.id
  clear hb haw cs hg ha
  have no : ∀ b : Bool, b = false → V = false → V = false := fun _ _ h => h
  by_cases h1 : p.v = 4
  rotate_left
  · obtain rfl : V = false := by rw [HV.out]; simp [h1]
    have h1' : (p.v != 4) = true := by simp [h1]
    go_wp2_with fail
    go_ret
    exact ⟨rfl, HA.out⟩
  have h1' : (p.v != 4) = false := by simp [h1]
  by_cases h2 : p.tos < 0
  · obtain rfl : V = false := by rw [HV.out]; unfold octP; simp [show ¬ 0 ≤ p.tos from by omega]
    go_wp2_with fail
    go_ret
    exact ⟨rfl, HA.out⟩
  by_cases h3 : 255 < p.tos
  · obtain rfl : V = false := by rw [HV.out]; unfold octP; simp [show ¬ p.tos ≤ 255 from by omega]
    go_wp2_with fail
    go_ret
    exact ⟨rfl, HA.out⟩
  by_cases h4 : p.flow = 0
  rotate_left
  · obtain rfl : V = false := by rw [HV.out]; simp [h4]
    have h4' : (p.flow != 0) = true := by simp [h4]
    go_wp2_with fail
    go_ret
    exact ⟨rfl, HA.out⟩
  have h4' : (p.flow != 0) = false := by simp [h4]
  go_wp2_with (first | (refine wpList_load24m rfl _ rfl g 3 rfl p.sv p.sb (by exact HB.out.srow) HAD.out.1 ?_))
  refine (raddr_c p.sv p.sb HAD.out.1 _).mono ?_
  rintro E w2 ⟨rfl, haw⟩
  replace HB := Lib.hid (HB.out.on haw)
  replace HA := Lib.hid (HA.out.on haw)
  clear haw c_v c_tos c_flow c_proto c_ttl c_id
  have cs := HB.out.cells HAD.out
  have c_proto := cs.proto; have c_ttl := cs.ttl; have c_id := cs.id
  clear cs
  generalize adrP p.sv p.sb = A1 at *
  cases A1
  · obtain rfl : V = false := by rw [HV.out]; simp
    go_wp2_with fail
    go_ret
    exact ⟨rfl, HA.out⟩
  go_wp2_with (first | (refine wpList_load24m rfl _ rfl g 20 rfl p.dv p.db (by exact HB.out.drow HAD.out) HAD.out.2 ?_))
  refine (raddr_c p.dv p.db HAD.out.2 _).mono ?_
  rintro E w3 ⟨rfl, haw⟩
  replace HB := Lib.hid (HB.out.on haw)
  replace HA := Lib.hid (HA.out.on haw)
  clear haw c_proto c_ttl c_id
  have cs := HB.out.cells HAD.out
  have c_proto := cs.proto; have c_ttl := cs.ttl; have c_id := cs.id; have c_frag := cs.frag; have c_off := cs.off; have c_more := cs.more; have c_o := cs.o; have c_d := cs.d
  clear cs
  generalize adrP p.dv p.db = A2 at *
  cases A2
  · obtain rfl : V = false := by rw [HV.out]; simp
    go_wp2_with fail
    go_ret
    exact ⟨rfl, HA.out⟩
  by_cases h5 : p.proto < 0
  · obtain rfl : V = false := by rw [HV.out]; unfold octP; simp [show ¬ 0 ≤ p.proto from by omega]
    go_wp2_with fail
    go_ret
    exact ⟨rfl, HA.out⟩
  by_cases h5b : 255 < p.proto
  · obtain rfl : V = false := by rw [HV.out]; unfold octP; simp [show ¬ p.proto ≤ 255 from by omega]
    go_wp2_with fail
    go_ret
    exact ⟨rfl, HA.out⟩
  by_cases h7 : p.ttl < 0
  · obtain rfl : V = false := by rw [HV.out]; unfold octP; simp [show ¬ 0 ≤ p.ttl from by omega]
    go_wp2_with fail
    go_ret
    exact ⟨rfl, HA.out⟩
  by_cases h7b : 255 < p.ttl
  · obtain rfl : V = false := by rw [HV.out]; unfold octP; simp [show ¬ p.ttl ≤ 255 from by omega]
    go_wp2_with fail
    go_ret
    exact ⟨rfl, HA.out⟩
  by_cases h9 : 65535 < p.id
  · obtain rfl : V = false := by rw [HV.out]; simp [show ¬ p.id ≤ 65535 from by omega]
    go_wp2_with fail
    go_ret
    exact ⟨rfl, HA.out⟩
  generalize p.frag = fr at *
  cases fr
  rotate_left
  · obtain rfl : V = false := by rw [HV.out]; simp
    go_wp2_with fail
    go_ret
    exact ⟨rfl, HA.out⟩
  have HV2 : Hid (V = (placedP p.off p.more p.d.length && decide (20 + p.o.length + p.d.length ≤ 65535))) := by
    show _ = _
    rw [HV.out]; unfold octP
    simp [h1, h4, show 0 ≤ p.tos from by omega, show p.tos ≤ 255 from by omega, show 0 ≤ p.ttl from by omega, show p.ttl ≤ 255 from by omega, show 0 ≤ p.proto from by omega, show p.proto ≤ 255 from by omega, show p.id ≤ 65535 from by omega]
  have NP : Hid (¬ (0 ≤ p.off ∧ p.off ≤ 65528 ∧ p.off % 8 = 0 ∧ (p.more = true → p.d.length % 8 = 0) ∧ (p.more = true → p.d.length ≠ 0) ∧ (0 < p.off → p.d.length ≠ 0) ∧ p.off + p.d.length ≤ 65535) → V = false) := fun h => by
    rw [HV2.out, show placedP p.off p.more p.d.length = false from by rw [Bool.eq_false_iff]; exact fun e => h ((placed_iff _ _ _).1 e)]; rfl
  by_cases k1 : p.off < 0
  · obtain rfl := NP.out (by omega)
    go_wp2_with fail
    go_ret
    exact ⟨rfl, HA.out⟩
  by_cases k2 : 65528 < p.off
  · obtain rfl := NP.out (by omega)
    go_wp2_with fail
    go_ret
    exact ⟨rfl, HA.out⟩
  by_cases k3 : p.off % 8 = 0
  rotate_left
  · obtain rfl := NP.out (by omega)
    have k3' : (p.off % 8 != 0) = true := by simp [k3]
    go_wp2_with fail
    go_ret
    exact ⟨rfl, HA.out⟩
  have k3' : (p.off % 8 != 0) = false := by simp [k3]
  by_cases k4 : 65535 - p.off < (p.d.length : Int)
  · obtain rfl := NP.out (by omega)
    go_wp2_with fail
    go_ret
    exact ⟨rfl, HA.out⟩
  have hall : decide (20 + (p.o.length : Int) + (p.d.length : Int) ≤ 65535) = decide (20 + p.o.length + p.d.length ≤ 65535) := by
    by_cases h : 20 + p.o.length + p.d.length ≤ 65535
    · rw [decide_eq_true h, decide_eq_true (by omega)]
    · rw [decide_eq_false h, decide_eq_false (by omega)]
  have HALL := Lib.hid hall
  clear hall
  generalize hmo : p.more = mo at *
  have HMO := Lib.hid hmo
  clear hmo
  have tail : Hid (placedP p.off mo p.d.length = true → V = decide (20 + (p.o.length : Int) + (p.d.length : Int) ≤ 65535)) := fun h => by rw [HV2.out, h, HALL.out]; rfl
  cases mo
  · by_cases k5 : 0 < p.off
    · by_cases k6 : p.d.length = 0
      · obtain rfl := NP.out (by omega)
        have k6' : ((p.d.length : Int) == 0) = true := by simp [k6]
        have k6i : (p.d.length : Int) = 0 := by omega
        go_wp2_with fail
        go_ret
        exact ⟨rfl, HA.out⟩
      · have k6' : ((p.d.length : Int) == 0) = false := by simp [k6]
        have k6i : ¬ (p.d.length : Int) = 0 := by omega
        have HT := Lib.hid (tail.out ((placed_iff _ _ _).2 ⟨by omega, by omega, k3, by simp, by simp, fun _ => k6, by omega⟩))
        obtain rfl := HT.out
        go_wp2_with fail
        go_ret
        exact ⟨rfl, HA.out⟩
    · have HT := Lib.hid (tail.out ((placed_iff _ _ _).2 ⟨by omega, by omega, k3, by simp, by simp, fun h => absurd h k5, by omega⟩))
      obtain rfl := HT.out
      go_wp2_with fail
      go_ret
      exact ⟨rfl, HA.out⟩
  · by_cases k6 : p.d.length = 0
    · obtain rfl := NP.out (by simp [k6])
      have k6' : ((p.d.length : Int) == 0) = true := by simp [k6]
      have k6i : (p.d.length : Int) = 0 := by omega
      go_wp2_with fail
      go_ret
      exact ⟨rfl, HA.out⟩
    · have k6' : ((p.d.length : Int) == 0) = false := by simp [k6]
      have k6i : ¬ (p.d.length : Int) = 0 := by omega
      by_cases k7 : p.d.length % 8 = 0
      · have k7' : ((p.d.length : Int) % 8 != 0) = false := by simp; omega
        have k7i : (p.d.length : Int) % 8 = 0 := by omega
        have HT := Lib.hid (tail.out ((placed_iff _ _ _).2 ⟨by omega, by omega, k3, fun _ => k7, fun _ => k6, fun _ => k6, by omega⟩))
        by_cases k5 : 0 < p.off
        · obtain rfl := HT.out
          go_wp2_with fail
          go_ret
          exact ⟨rfl, HA.out⟩
        · obtain rfl := HT.out
          go_wp2_with fail
          go_ret
          exact ⟨rfl, HA.out⟩
      · obtain rfl := NP.out (by simp [k7])
        have k7' : ((p.d.length : Int) % 8 != 0) = true := by simp; omega
        have k7i : ¬ (p.d.length : Int) % 8 = 0 := by omega
        go_wp2_with fail
        go_ret
        exact ⟨rfl, HA.out⟩
theorem rright_c (p : Pk) (ov dv : Value) (w : World) (hp : Pkt w p ov dv) :
    Calls Tryz.prog 37 #[.agg (csP p ov dv)] w fun E w' => E = .returned (.bool (rightP p)) ∧ Away [] w w' := by
  have ha := hp.wf.ad
  have KF : Hid (∀ w', Away [] w w' → Calls Tryz.prog 57 #[.agg (csP p ov dv)] w' fun E w'' => E = .returned (.bool (formedP p)) ∧ Away [] w' w'') := fun w' h => rfields_c p ov dv w' (hp.on h)
  obtain ⟨hwf, ⟨ao, capo, rfl, q1, q2, q3⟩, hd⟩ := hp
  have KV : Hid (∀ w', Away [] w w' → Calls Tryz.prog 58 #[.slice ao p.o.length capo] w' fun E w'' => E = .returned (.bool (validP p.o)) ∧ w'' = w') := fun w' h => ropts_c ao p.o _ capo w' rfl (q3.away h (by simp))
  clear hwf hd q1 q2 q3
  obtain ⟨z, hz⟩ : ∃ z, z = rightP p := ⟨_, rfl⟩
  rw [← hz]
  have HZ : Hid (z = (formedP p && validP p.o)) := hz
  clear hz
  go_enter Tryz.func37, Tryz.ntmps37
  go_wp2_with (refine wpList_box28 rfl _ rfl p _ _ rfl ?_; refine Hid.out ?_)
  refine Lib.hid ?_
  intro g w1 hg hb haw
  have HA : Hid (Away [] w w1) := haw
  have HB : Hid (BoxP w1 g p (.slice ao p.o.length capo) dv) := hb
  have HAD : Hid (Ad p) := ha
  clear hb haw hg ha
  go_wp2_with (refine wpList_load28 rfl _ rfl _ rfl p _ _ (by exact HB.out) HAD.out ?_)
  refine (KF.out _ HA.out).mono ?_
  rintro E w2 ⟨rfl, haw⟩
  have c7 := ((HB.out.on haw).cells HAD.out).o
  have HA2 : Hid (Away [] w w2) := HA.out.next haw (by simp)
  clear HA HB haw
  generalize formedP p = y at *
  cases y
  · obtain rfl : z = false := by rw [HZ.out]; rfl
    go_wp2_with fail
    go_ret
    exact ⟨rfl, HA2.out⟩
  · go_wp2_with fail
    refine (KV.out _ HA2.out).mono ?_
    rintro E w3 ⟨rfl, rfl⟩
    generalize validP p.o = x at *
    obtain rfl : z = x := by rw [HZ.out]; simp
    go_wp2_with fail
    go_ret
    exact ⟨rfl, HA2.out⟩
end Go.Proofs.YtaicckenpplceaaGreatDoor
