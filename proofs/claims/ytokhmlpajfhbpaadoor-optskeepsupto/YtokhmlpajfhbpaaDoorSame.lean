/-
  same, sameOpts.
-/
import Derived.Test.YtokhmlpajfhbpaaDoorBuild
namespace Go.Proofs.YtokhmlpajfhbpaaDoor
open Go.ChangeShapes Go.WideShapes Go.ChangeAt Go.RowKit
set_option linter.unusedVariables false

/-- It answered, and drew. -/
def Told (w : World) (b : Bool) (E : Ending) (w' : World) : Prop := E = .returned (.bool b) ∧ ∃ n, w' = w.drewN n
theorem Told.away {w w' : World} {b : Bool} {E : Ending} (h : Told w b E w') : E = .returned (.bool b) ∧ Away [] w w' := by
  obtain ⟨h1, n, rfl⟩ := h
  exact ⟨h1, (Away.refl _ _).drewN n⟩
theorem cells_row {w : World} {a : Option Addr} {l : List Int} (h : Row w a l) {k : Nat} (hk : k < l.length) : ∃ b off, a = some ⟨b, off, none⟩ ∧ w.cell? ⟨b, off + k, none⟩ = some (.int .u8 (l[k]?.getD 0)) := by
  rcases h.2.2 with h0 | ⟨b, off, rfl, hc⟩
  · rw [h0] at hk; simp at hk
  · exact ⟨b, off, rfl, hc k hk⟩
theorem take_eq_step {l m : List Int} {k : Nat} (h : l.take k = m.take k) (hl : k < l.length) (hm : k < m.length) (he : l[k]?.getD 0 = m[k]?.getD 0) : l.take (k + 1) = m.take (k + 1) := by
  rw [List.take_succ_eq_append_getElem hl, List.take_succ_eq_append_getElem hm, h]
  rw [List.getElem?_eq_getElem hl, List.getElem?_eq_getElem hm, Option.getD_some, Option.getD_some] at he
  rw [he]
set_option maxHeartbeats 2000000 in
theorem same_c (a b : Option Addr) (l m : List Int) (n k cap cap' : Nat) (w : World) (hn : l.length = n) (hk : m.length = k) (hr : Row w a l) (hs : Row w b m) :
    Calls Tryd.prog 13 #[.slice a n cap, .slice b k cap'] w fun E w' => Told w (decide (l = m)) E w' := by
  subst hn; subst hk
  have hlen := hr.1
  have hlen' := hs.1
  obtain ⟨z, hz⟩ : ∃ z, z = decide (l = m) := ⟨_, rfl⟩
  rw [← hz]
  have HZ : Hid (z = decide (l = m)) := hz
  clear hz
  by_cases hd : l.length = m.length
  · rw [← hd]
    have HD : Hid (l.length = m.length) := hd
    clear hd
    go_enter Tryd.func13, Tryd.ntmps13
    go_wp2_with fail
    go_loopw [5] (fun i wr => ∃ (j n : Nat), j ≤ l.length ∧ i = .int .i64 (j : Int) ∧ l.take j = m.take j ∧ wr = w.drewN n) (fun i _ => l.length - (intOf i).toNat)
    case atStart => exact ⟨0, 0, by omega, rfl, rfl, rfl⟩
    case round =>
      obtain ⟨j, q, hj, rfl, ht, hW⟩ := hrel
      subst hW
      have HT : Hid (l.take j = m.take j) := ht
      clear ht
      by_cases hlt : j < l.length
      · obtain ⟨b1, o1, rfl, c1⟩ := cells_row hr hlt
        obtain ⟨b2, o2, rfl, c2⟩ := cells_row hs (show j < m.length by have := HD.out; omega)
        have t1 : decide ((j : Int) < (l.length : Int)) = true := by simp; omega
        have t2 : 0 ≤ (j : Int) := by omega
        have t3 : (j : Int) < (l.length : Int) := by omega
        have t4 : ((j : Int)).toNat = j := by omega
        have HX : Hid (l[j]?.getD 0 = m[j]?.getD 0 → l.take (j + 1) = m.take (j + 1)) := take_eq_step HT.out hlt (by have := HD.out; omega)
        have HY : Hid (l[j]?.getD 0 ≠ m[j]?.getD 0 → l ≠ m) := fun h e => h (by rw [e])
        generalize l[j]?.getD 0 = x at *
        generalize m[j]?.getD 0 = y at *
        by_cases hxy : x = y
        · subst hxy
          go_wp2_with fail
          go_region
          all_goals (go_wp2_with fail; go_roundw)
          case rel => exact ⟨j + 1, q + 1, by omega, by go_num, HX.out trivial, rfl⟩
          case measure => simp [intOf]; omega
        · have fb : decide (x = y) = false := by simp [hxy]
          obtain rfl : z = false := by rw [HZ.out]; simp [HY.out hxy]
          go_wp2_with fail
          go_region
          all_goals (go_wp2_with fail; go_ret)
          all_goals exact ⟨rfl, q + 1, rfl⟩
      · obtain rfl : z = true := by
          have h1 : l.take j = l := List.take_of_length_le (by omega)
          have h2 : m.take j = m := List.take_of_length_le (by have := HD.out; omega)
          rw [HZ.out, decide_eq_true_eq, ← h1, ← h2]; exact HT.out
        go_wp2_with fail
        go_ret
        exact ⟨rfl, q, rfl⟩
  · obtain rfl : z = false := by
      rw [HZ.out]
      simp; intro e; exact hd (by rw [e])
    have hd2 : ¬ ((l.length : Int) = (m.length : Int)) := by omega
    go_enter Tryd.func13, Tryd.ntmps13
    go_wp2_with fail
    go_ret
    exact ⟨rfl, 0, rfl⟩
#print axioms same_c
theorem same_b {z : Bool} (a b : Option Addr) (l m : List Int) (n k cap cap' : Nat) (w : World) (hn : l.length = n) (hk : m.length = k) (hr : Row w a l) (hs : Row w b m) (hz : decide (l = m) = z) :
    Calls Tryd.prog 13 #[.slice a n cap, .slice b k cap'] w fun E w' => E = .returned (.bool z) ∧ ∃ n, w' = w.drewN n := by
  have := same_c a b l m n k cap cap' w hn hk hr hs
  rw [hz] at this
  exact this
theorem cells_opts {w : World} {a : Option Addr} {xs : List V} (h : Opts w a xs) {k : Nat} {x : V} (hk : xs[k]? = some x) :
    ∃ b off, a = some ⟨b, off, none⟩ ∧ w.cell? ⟨b, off + k * 2, none⟩ = some (.int .i64 x.kd) ∧ w.cell? ⟨b, off + k * 2 + 1, none⟩ = some (.slice x.ba x.b.length x.bc) ∧ Row w x.ba x.b := by
  rcases h.2.2 with h0 | ⟨b, off, rfl, hc⟩
  · rw [h0] at hk; simp at hk
  · exact ⟨b, off, rfl, (hc k x hk).1, (hc k x hk).2, (h.2.1 x (List.mem_of_getElem? hk)).2.1⟩
set_option maxHeartbeats 4000000 in
theorem sameOpts_c (a b : Option Addr) (xs ys : List V) (n k cap cap' : Nat) (w : World) (hn : xs.length = n) (hk : ys.length = k) (hr : Opts w a xs) (hs : Opts w b ys) :
    Calls Tryd.prog 16 #[.slice a n cap, .slice b k cap'] w fun E w' => Told w (decide (xs.map V.o = ys.map V.o)) E w' := by
  subst hn; subst hk
  have hlen := hr.1
  have hlen' := hs.1
  obtain ⟨z, hz⟩ : ∃ z, z = decide (xs.map V.o = ys.map V.o) := ⟨_, rfl⟩
  rw [← hz]
  have HZ : Hid (z = decide (xs.map V.o = ys.map V.o)) := hz
  clear hz
  by_cases hd : xs.length = ys.length
  · rw [← hd]
    have HD : Hid (xs.length = ys.length) := hd
    clear hd
    go_enter Tryd.func16, Tryd.ntmps16
    go_wp2_with fail
    go_loopw [5] (fun i wr => ∃ (j n : Nat), j ≤ xs.length ∧ i = .int .i64 (j : Int) ∧ (xs.map V.o).take j = (ys.map V.o).take j ∧ wr = w.drewN n) (fun i _ => xs.length - (intOf i).toNat)
    case atStart => exact ⟨0, 0, by omega, rfl, rfl, rfl⟩
    case round =>
      obtain ⟨j, q, hj, rfl, ht, hW⟩ := hrel
      have HW : Hid (wr = w.drewN q) := hW
      have hr1 : Opts wr a xs := by rw [hW]; exact hr.drewN q
      have hs1 : Opts wr b ys := by rw [hW]; exact hs.drewN q
      clear hr hs hW
      have HT : Hid ((xs.map V.o).take j = (ys.map V.o).take j) := ht
      clear ht
      by_cases hlt : j < xs.length
      · obtain ⟨x, hx, _⟩ := get_of_lt hlt
        obtain ⟨y, hy, _⟩ := get_of_lt (show j < ys.length by have := HD.out; omega)
        obtain ⟨b1, o1, rfl, c1, c2, r1⟩ := cells_opts hr1 hx
        obtain ⟨b2, o2, rfl, c3, c4, r2⟩ := cells_opts hs1 hy
        have t1 : decide ((j : Int) < (xs.length : Int)) = true := by simp; omega
        have t2 : 0 ≤ (j : Int) := by omega
        have t3 : (j : Int) < (xs.length : Int) := by omega
        have t4 : ((j : Int)).toNat = j := by omega
        have HX : Hid (x.o = y.o → (xs.map V.o).take (j + 1) = (ys.map V.o).take (j + 1)) := by
          intro e
          rw [take_snoc (x := x.o) (by rw [List.getElem?_map, hx]; rfl), take_snoc (x := y.o) (by rw [List.getElem?_map, hy]; rfl), HT.out, e]
        have HY : Hid (x.o ≠ y.o → xs.map V.o ≠ ys.map V.o) := fun h e => h (by
          have h1 := congrArg (fun l => l[j]?) e
          simp only [List.getElem?_map, hx, hy, Option.map_some, Option.some.injEq] at h1
          exact h1)
        obtain ⟨xk, xa, xc, xb⟩ := x
        obtain ⟨yk, ya, yc, yb⟩ := y
        simp only at c1 c2 c3 c4 r1 r2
        have HR1 : Hid (Row wr xa xb) := r1
        have HR2 : Hid (Row wr ya yb) := r2
        clear hx hy r1 r2 hr1 hs1
        by_cases hxy : xk = yk
        · subst hxy
          have HB : Hid (V.o ⟨xk, xa, xc, xb⟩ = V.o ⟨xk, ya, yc, yb⟩ ↔ xb = yb) := by
            show _ ↔ _
            simp [V.o]
          by_cases hb : xb = yb
          · have hbb : decide (xb = yb) = true := by simp [hb]
            have HXX := HX.out (HB.out.2 hb)
            have HX2 : Hid ((xs.map V.o).take (j + 1) = (ys.map V.o).take (j + 1)) := HXX
            clear HXX hb
            go_wp2_with fail
            go_quiet ((go_at_call 13; exact Calls.quiet_of (same_b (z := true) xa ya xb yb _ _ _ _ _ rfl rfl (by exact HR1.out) (by exact HR2.out) hbb)))
            go_wp2_with fail
            go_roundw
            case rel => exact ⟨j + 1, q + nq, by omega, by go_num, HX2.out, by rw [HW.out, World.drewN_drewN]⟩
            case measure => simp [intOf]; omega
          · have hbb : decide (xb = yb) = false := by simp [hb]
            obtain rfl : z = false := by
              rw [HZ.out, decide_eq_false_iff_not]
              exact HY.out (fun e => hb (HB.out.1 e))
            go_wp2_with fail
            go_quiet ((go_at_call 13; exact Calls.quiet_of (same_b (z := false) xa ya xb yb _ _ _ _ _ rfl rfl (by exact HR1.out) (by exact HR2.out) hbb)))
            go_wp2_with fail
            go_ret
            exact ⟨rfl, q + nq, by rw [HW.out, World.drewN_drewN]⟩
        · have fb : decide (xk = yk) = false := by simp [hxy]
          obtain rfl : z = false := by
            rw [HZ.out, decide_eq_false_iff_not]
            exact HY.out (fun e => hxy (congrArg Prod.fst e))
          go_wp2_with fail
          go_quiet (fail)
          go_wp2_with fail
          go_ret
          exact ⟨rfl, q + nq, by rw [HW.out, World.drewN_drewN]⟩
      · obtain rfl : z = true := by
          have h1 : (xs.map V.o).take j = xs.map V.o := List.take_of_length_le (by simp; omega)
          have h2 : (ys.map V.o).take j = ys.map V.o := List.take_of_length_le (by have := HD.out; simp; omega)
          rw [HZ.out, decide_eq_true_eq, ← h1, ← h2]; exact HT.out
        go_wp2_with fail
        go_ret
        exact ⟨rfl, q, HW.out⟩
  · obtain rfl : z = false := by
      rw [HZ.out]
      simp; intro e; exact hd (by simpa using congrArg List.length e)
    have hd2 : ¬ ((xs.length : Int) = (ys.length : Int)) := by omega
    go_enter Tryd.func16, Tryd.ntmps16
    go_wp2_with fail
    go_ret
    exact ⟨rfl, 0, rfl⟩
#print axioms sameOpts_c
end Go.Proofs.YtokhmlpajfhbpaaDoor
