/-
  For EntryHolds: what its loops hold in memory.
-/
import Derived.Test.YtbkeilboneaejaaDoorHdA
import Derived.Test.YtbkeilboneaejaaDoorLwA
namespace Go.Proofs.YtbkeilboneaejaaDoor
open Go.ChangeShapes Go.WideShapes Go.ChangeAt Go.RowKit
set_option linter.unusedVariables false
set_option linter.unusedSimpArgs false
set_option maxRecDepth 20000

/-- A book of places. -/
def RowB (w : World) (g : Nat) (B : Int → Bool) : Prop := ∀ i : Nat, i < 1024 → w.cell? ⟨g, i, none⟩ = some (.bool (B i))
def allB (B : Int → Bool) (n : Nat) : Bool := (List.range n).all (fun i => B (i : Int))
theorem allB_iff {B : Int → Bool} {n : Nat} : allB B n = true ↔ ∀ i : Nat, i < n → B i = true := by simp [allB]
theorem allB_no {B : Int → Bool} {n k : Nat} (h : k < n) (hk : B k = false) : allB B n = false := by
  rw [Bool.eq_false_iff]; intro hc; rw [allB_iff.1 hc k h] at hk; simp at hk
set_option maxHeartbeats 1000000 in
theorem covered_c (w : World) (g : Nat) (B : Int → Bool) (n : Nat) (hn : n ≤ 1024) (hb : RowB w g B) :
    Calls Tryd.prog 14 #[.slice (some ⟨g, 0, none⟩) 1024 1024, .int .i64 (n : Int)] w fun E w' => E = .returned (.bool (allB B n)) ∧ w' = w := by
  obtain ⟨z, hz⟩ : ∃ z, z = allB B n := ⟨_, rfl⟩
  rw [← hz]
  have HZ := Lib.hid hz
  have HB := Lib.hid hb
  clear hz hb
  go_enter Tryd.func14, Tryd.ntmps14
  go_wp2_with fail
  go_loopw [5] (fun i wr => ∃ k : Nat, i = .int .i64 (k : Int) ∧ k ≤ n ∧ wr = w ∧ ∀ j : Nat, j < k → B j = true) (fun i _ => n - (intOf i).toNat)
  case atStart => exact ⟨0, rfl, by omega, rfl, by simp⟩
  case round =>
    obtain ⟨k, rfl, hk, hw, hall⟩ := hrel
    obtain rfl := hw.symm
    have HA := Lib.hid hall
    clear hall
    by_cases hlt : k < n
    · have c := HB.out k (by omega)
      have j1 : (k : Int) < (n : Int) := by omega
      have j2 : 0 ≤ (k : Int) := by omega
      have j3 : (k : Int) < 1024 := by omega
      have j4 : ((k : Int)).toNat = k := by omega
      cases hBk : B (k : Int) with
      | true =>
        rw [hBk] at c
        have HK := Lib.hid hBk
        clear hBk
        go_wp2_with fail
        go_roundw
        case rel => exact ⟨k + 1, by go_num, by omega, (by simp), fun j hj => by
          by_cases he : j = k
          · rw [he]; exact HK.out
          · exact HA.out j (by omega)⟩
        case measure => simp [intOf]; omega
      | false =>
        rw [hBk] at c
        obtain rfl : z = false := by rw [HZ.out]; exact allB_no hlt hBk
        clear hBk
        go_wp2_with fail
        go_ret
        exact ⟨rfl, rfl⟩
    · have j1 : ¬ ((k : Int) < (n : Int)) := by omega
      obtain rfl : z = true := by rw [HZ.out]; exact allB_iff.2 (fun i hi => HA.out i (by omega))
      go_wp2_with fail
      go_ret
      exact ⟨rfl, rfl⟩

/-- The last place that is there. -/
def lastB (B : Int → Bool) : Nat → Int
  | 0 => -1
  | k + 1 => if B (k : Int) = true then (k : Int) else lastB B k
theorem last_bd (B : Int → Bool) : ∀ k : Nat, -1 ≤ lastB B k ∧ lastB B k < k
  | 0 => by simp [lastB]
  | k + 1 => by
    have := last_bd B k
    unfold lastB
    split <;> omega
theorem last_is (B : Int → Bool) : ∀ k : Nat, (lastB B k = -1 ∨ B (lastB B k) = true) ∧ ∀ n : Int, lastB B k < n → n < k → B n = false
  | 0 => ⟨.inl rfl, fun n h1 h2 => by simp [lastB] at h1; omega⟩
  | k + 1 => by
    obtain ⟨h1, h2⟩ := last_is B k
    unfold lastB
    split
    · rename_i h
      exact ⟨.inr h, fun n h3 h4 => by omega⟩
    · rename_i h
      refine ⟨h1, fun n h3 h4 => ?_⟩
      by_cases he : n = (k : Int)
      · rw [he]; simpa using h
      · exact h2 n h3 (by omega)
def gapsN (B : Int → Bool) (e : Int) : Int := if e < 0 then 1 + H.cnt (H.gapB B) (lastB B 1024 + 1).toNat else H.cnt (H.gapB B) e.toNat
theorem cnt_succ (f : Int → Bool) (k : Nat) : H.cnt f (k + 1) = H.cnt f k + if f (k : Int) = true then 1 else 0 := rfl
set_option maxHeartbeats 4000000 in
theorem gaps_c (w : World) (g : Nat) (B : Int → Bool) (e : Int) (he : e ≤ 1024) (he0 : -1 ≤ e) (hb : RowB w g B) :
    Calls Tryd.prog 15 #[.slice (some ⟨g, 0, none⟩) 1024 1024, .int .i64 e] w fun E w' => E = .returned (.int .i64 (gapsN B e)) ∧ w' = w := by
  obtain ⟨z, hz⟩ : ∃ z, z = gapsN B e := ⟨_, rfl⟩
  rw [← hz]
  have HZ := Lib.hid hz
  have HB := Lib.hid hb
  clear hz hb
  go_enter Tryd.func15, Tryd.ntmps15
  go_wp2_with fail
  go_loopw [6, 7] (fun l i wr => ∃ k : Nat, i = .int .i64 (k : Int) ∧ k ≤ 1024 ∧ l = .int .i64 (lastB B k) ∧ wr = w) (fun _ i _ => 1024 - (intOf i).toNat)
  case atStart => exact ⟨0, rfl, by omega, rfl, rfl⟩
  case round =>
    obtain ⟨k, rfl, hk, rfl, hw⟩ := hrel
    obtain rfl := hw.symm
    by_cases hlt : k < 1024
    · have c := HB.out k hlt
      have j2 : 0 ≤ (k : Int) := by omega
      have j3 : (k : Int) < 1024 := by omega
      have j4 : ((k : Int)).toNat = k := by omega
      cases hBk : B (k : Int) with
      | true =>
        rw [hBk] at c
        have HL : Hid (lastB B (k + 1) = (k : Int)) := by show _ = _; unfold lastB; rw [if_pos hBk]
        clear hBk
        go_wp2_with fail
        go_roundw
        case rel => exact ⟨k + 1, by go_num, by omega, by rw [HL.out], (by simp)⟩
        case measure => simp [intOf]; omega
      | false =>
        rw [hBk] at c
        have HL : Hid (lastB B (k + 1) = lastB B k) := by show _ = _; rw [lastB]; rw [if_neg (by rw [hBk]; simp)]
        clear hBk
        generalize lastB B k = lk at *
        go_wp2_with fail
        go_roundw
        case rel => exact ⟨k + 1, by go_num, by omega, by rw [HL.out], (by simp)⟩
        case measure => simp [intOf]; omega
    · obtain rfl : k = 1024 := by omega
      have hlb := last_bd B 1024
      obtain ⟨lk, hlk⟩ : ∃ lk, lk = lastB B 1024 := ⟨_, rfl⟩
      rw [← hlk] at hlb ⊢
      have HLK := Lib.hid hlk
      clear hlk
      by_cases hneg : e < 0
      · obtain ⟨N, hN⟩ : ∃ N : Nat, (N : Int) = lk + 1 := ⟨(lk + 1).toNat, by omega⟩
        have hN2 : N ≤ 1024 := by omega
        have HV : Hid (z = 1 + H.cnt (H.gapB B) N) := by show _ = _; rw [HZ.out, gapsN, if_pos hneg, ← HLK.out, ← hN]; rfl
        have hw1 : IntKind.i64.wrap (lk + 1) = (N : Int) := by rw [IntKind.wrap_i64]; omega
        have HNN := Lib.hid hN
        clear hN
        go_wp2_with fail
        go_loopw [5, 9] (fun c i wr => ∃ k : Nat, i = .int .i64 (k : Int) ∧ k ≤ N ∧ c = .int .i64 (1 + H.cnt (H.gapB B) k) ∧ wr = w) (fun _ i _ => N - (intOf i).toNat)
        case atStart => exact ⟨0, rfl, by omega, rfl, rfl⟩
        case round =>
          obtain ⟨k, rfl, hk, rfl, hw⟩ := hrel
          obtain rfl := hw.symm
          have hcb := cnt_le (H.gapB B) k
          have hcs := cnt_succ (H.gapB B) k
          by_cases hlt : k < N
          · have c := HB.out k (by omega)
            have j1 : (k : Int) < (N : Int) := by omega
            have j2 : 0 ≤ (k : Int) := by omega
            have j3 : (k : Int) < 1024 := by omega
            have j4 : ((k : Int)).toNat = k := by omega
            cases hBk : B (k : Int) with
            | true =>
              rw [hBk] at c
              have HCS : Hid (H.cnt (H.gapB B) (k + 1) = H.cnt (H.gapB B) k) := by show _ = _; rw [hcs, if_neg (by unfold H.gapB; rw [hBk]; simp)]; omega
              clear hcs hBk
              generalize H.cnt (H.gapB B) k = cc at *
              go_wp2_with fail
              go_roundw
              case rel => exact ⟨k + 1, by go_num, by omega, by rw [HCS.out], (by simp)⟩
              case measure => simp [intOf]; omega
            | false =>
              rw [hBk] at c
              by_cases hk0 : k = 0
              · subst hk0
                have HCS : Hid (H.cnt (H.gapB B) (0 + 1) = H.cnt (H.gapB B) 0 + 1) := by show _ = _; rw [hcs, if_pos (by unfold H.gapB; rw [hBk]; simp)]
                clear hcs hBk
                generalize H.cnt (H.gapB B) 0 = cc at *
                have hw2 : IntKind.i64.wrap (1 + cc + 1) = 1 + (cc + 1) := by rw [IntKind.wrap_i64]; omega
                go_wp2_with fail
                go_roundw
                case rel => exact ⟨0 + 1, by go_num, by omega, by first | (rw [HCS.out]; done) | (rw [HCS.out]; rfl) | (rw [HCS.out]; congr 1 <;> omega), (by simp)⟩
                case measure => simp [intOf]; omega
              · have c2 := HB.out (k - 1) (by omega)
                have j5 : ((k : Int) == 0) = false := by rw [beq_eq_false_iff_ne]; omega
                have j6 : ((k - 1 : Nat) : Int) = (k : Int) - 1 := by omega
                have j7 : IntKind.i64.wrap ((k : Int) - 1) = (k : Int) - 1 := by rw [IntKind.wrap_i64]; omega
                have j8 : 0 ≤ (k : Int) - 1 := by omega
                have j9 : (k : Int) - 1 < 1024 := by omega
                have j10 : ((k : Int) - 1).toNat = k - 1 := by omega
                rw [j6] at c2
                cases hB2 : B ((k : Int) - 1) with
                | true =>
                  rw [hB2] at c2
                  have HCS : Hid (H.cnt (H.gapB B) (k + 1) = H.cnt (H.gapB B) k + 1) := by show _ = _; rw [hcs, if_pos (by unfold H.gapB; rw [hBk, hB2]; simp)]
                  clear hcs hBk hB2
                  generalize H.cnt (H.gapB B) k = cc at *
                  have hw2 : IntKind.i64.wrap (1 + cc + 1) = 1 + (cc + 1) := by rw [IntKind.wrap_i64]; omega
                  go_wp2_with fail
                  go_roundw
                  case rel => exact ⟨k + 1, by go_num, by omega, by first | (rw [HCS.out]; done) | (rw [HCS.out]; rfl) | (rw [HCS.out]; congr 1 <;> omega), (by simp)⟩
                  case measure => simp [intOf]; omega
                | false =>
                  rw [hB2] at c2
                  have HCS : Hid (H.cnt (H.gapB B) (k + 1) = H.cnt (H.gapB B) k) := by
                    show _ = _
                    rw [hcs, if_neg (by unfold H.gapB; rw [hBk, hB2]; simp; omega)]; omega
                  clear hcs hBk hB2
                  generalize H.cnt (H.gapB B) k = cc at *
                  go_wp2_with fail
                  go_roundw
                  case rel => exact ⟨k + 1, by go_num, by omega, by rw [HCS.out], (by simp)⟩
                  case measure => simp [intOf]; omega
          · obtain rfl : k = N := by omega
            have j1 : ¬ ((k : Int) < (k : Int)) := by omega
            have HV2 := Lib.hid HV.out
            clear hcs
            generalize H.cnt (H.gapB B) k = cc at *
            go_wp2_with fail
            go_ret
            exact ⟨by first | (rw [HV2.out]; rfl) | (rw [HV2.out, Int.zero_add]; rfl), rfl⟩
      · obtain ⟨N, hN⟩ : ∃ N : Nat, e = (N : Int) := ⟨e.toNat, by omega⟩
        subst hN
        have hN2 : N ≤ 1024 := by omega
        have HV : Hid (z = 0 + H.cnt (H.gapB B) N) := by show _ = _; rw [HZ.out, gapsN, if_neg hneg]; simp
        go_wp2_with fail
        go_loopw [5, 9] (fun c i wr => ∃ k : Nat, i = .int .i64 (k : Int) ∧ k ≤ N ∧ c = .int .i64 (0 + H.cnt (H.gapB B) k) ∧ wr = w) (fun _ i _ => N - (intOf i).toNat)
        case atStart => exact ⟨0, rfl, by omega, rfl, rfl⟩
        case round =>
          obtain ⟨k, rfl, hk, rfl, hw⟩ := hrel
          obtain rfl := hw.symm
          have hcb := cnt_le (H.gapB B) k
          have hcs := cnt_succ (H.gapB B) k
          by_cases hlt : k < N
          · have c := HB.out k (by omega)
            have j1 : (k : Int) < (N : Int) := by omega
            have j2 : 0 ≤ (k : Int) := by omega
            have j3 : (k : Int) < 1024 := by omega
            have j4 : ((k : Int)).toNat = k := by omega
            cases hBk : B (k : Int) with
            | true =>
              rw [hBk] at c
              have HCS : Hid (H.cnt (H.gapB B) (k + 1) = H.cnt (H.gapB B) k) := by show _ = _; rw [hcs, if_neg (by unfold H.gapB; rw [hBk]; simp)]; omega
              clear hcs hBk
              generalize H.cnt (H.gapB B) k = cc at *
              go_wp2_with fail
              go_roundw
              case rel => exact ⟨k + 1, by go_num, by omega, by rw [HCS.out], (by simp)⟩
              case measure => simp [intOf]; omega
            | false =>
              rw [hBk] at c
              by_cases hk0 : k = 0
              · subst hk0
                have HCS : Hid (H.cnt (H.gapB B) (0 + 1) = H.cnt (H.gapB B) 0 + 1) := by show _ = _; rw [hcs, if_pos (by unfold H.gapB; rw [hBk]; simp)]
                clear hcs hBk
                generalize H.cnt (H.gapB B) 0 = cc at *
                have hw2 : IntKind.i64.wrap (0 + cc + 1) = 0 + (cc + 1) := by rw [IntKind.wrap_i64]; omega
                go_wp2_with fail
                go_roundw
                case rel => exact ⟨0 + 1, by go_num, by omega, by first | (rw [HCS.out]; done) | (rw [HCS.out]; rfl) | (rw [HCS.out]; congr 1 <;> omega), (by simp)⟩
                case measure => simp [intOf]; omega
              · have c2 := HB.out (k - 1) (by omega)
                have j5 : ((k : Int) == 0) = false := by rw [beq_eq_false_iff_ne]; omega
                have j6 : ((k - 1 : Nat) : Int) = (k : Int) - 1 := by omega
                have j7 : IntKind.i64.wrap ((k : Int) - 1) = (k : Int) - 1 := by rw [IntKind.wrap_i64]; omega
                have j8 : 0 ≤ (k : Int) - 1 := by omega
                have j9 : (k : Int) - 1 < 1024 := by omega
                have j10 : ((k : Int) - 1).toNat = k - 1 := by omega
                rw [j6] at c2
                cases hB2 : B ((k : Int) - 1) with
                | true =>
                  rw [hB2] at c2
                  have HCS : Hid (H.cnt (H.gapB B) (k + 1) = H.cnt (H.gapB B) k + 1) := by show _ = _; rw [hcs, if_pos (by unfold H.gapB; rw [hBk, hB2]; simp)]
                  clear hcs hBk hB2
                  generalize H.cnt (H.gapB B) k = cc at *
                  have hw2 : IntKind.i64.wrap (0 + cc + 1) = 0 + (cc + 1) := by rw [IntKind.wrap_i64]; omega
                  go_wp2_with fail
                  go_roundw
                  case rel => exact ⟨k + 1, by go_num, by omega, by first | (rw [HCS.out]; done) | (rw [HCS.out]; rfl) | (rw [HCS.out]; congr 1 <;> omega), (by simp)⟩
                  case measure => simp [intOf]; omega
                | false =>
                  rw [hB2] at c2
                  have HCS : Hid (H.cnt (H.gapB B) (k + 1) = H.cnt (H.gapB B) k) := by
                    show _ = _
                    rw [hcs, if_neg (by unfold H.gapB; rw [hBk, hB2]; simp; omega)]; omega
                  clear hcs hBk hB2
                  generalize H.cnt (H.gapB B) k = cc at *
                  go_wp2_with fail
                  go_roundw
                  case rel => exact ⟨k + 1, by go_num, by omega, by rw [HCS.out], (by simp)⟩
                  case measure => simp [intOf]; omega
          · obtain rfl : k = N := by omega
            have j1 : ¬ ((k : Int) < (k : Int)) := by omega
            have HV2 := Lib.hid HV.out
            clear hcs
            generalize H.cnt (H.gapB B) k = cc at *
            go_wp2_with fail
            go_ret
            exact ⟨by first | (rw [HV2.out]; rfl) | (rw [HV2.out, Int.zero_add]; rfl), rfl⟩
#print axioms gaps_c
end Go.Proofs.YtbkeilboneaejaaDoor

namespace Go.Proofs.YtbkeilboneaejaaDoor
open Go.ChangeShapes Go.WideShapes Go.ChangeAt Go.RowKit
set_option linter.unusedVariables false
set_option linter.unusedSimpArgs false
set_option maxRecDepth 20000

theorem made_get {v : Value} (hv : v.cells = #[v]) (n i : Nat) (h : i < n) : (madeCells v.cells n)[i]? = some v := by
  rw [hv]
  unfold madeCells
  rw [Array.getElem?_map, Array.getElem?_eq_getElem (by simpa using h)]
  simp [Nat.mod_one]
theorem info4b : (Tryd.prog.info? 4).map (fun i => (i.zero, i.size, i.bytes)) = some (some (.bool false), 1, 1) := by kernel_rfl
/-- The book of places. -/
def Bk (w : World) (g : Nat) (B : Int → Bool) : Prop := ∃ cur, w.heap[g]? = some (.cells cur 4 (0, 0)) ∧ ∀ i : Nat, i < 1024 → cur[i]? = some (.bool (B i))
/-- The book of bytes. -/
def By (w : World) (g : Nat) (Y : Nat → Int) : Prop := ∃ cur, w.heap[g]? = some (.cells cur 5 (0, 0)) ∧ cur.size = 1024 ∧ ∀ i : Nat, i < 1024 → cur[i]? = some (.int .u8 (Y i))
theorem Bk.away {S : List Nat} {w w' : World} {g : Nat} {B : Int → Bool} (h : Bk w g B) (hw : Away S w w') (hg : g ∉ S) : Bk w' g B := by
  obtain ⟨cur, h1, h2⟩ := h
  exact ⟨cur, hw.keep hg h1, h2⟩
theorem Bk.on {w w' : World} {g : Nat} {B : Int → Bool} (h : Bk w g B) (hw : Away [] w w') : Bk w' g B := h.away hw (by simp)
theorem By.away {S : List Nat} {w w' : World} {g : Nat} {Y : Nat → Int} (h : By w g Y) (hw : Away S w w') (hg : g ∉ S) : By w' g Y := by
  obtain ⟨cur, h1, h2⟩ := h
  exact ⟨cur, hw.keep hg h1, h2⟩
theorem By.on {w w' : World} {g : Nat} {Y : Nat → Int} (h : By w g Y) (hw : Away [] w w') : By w' g Y := h.away hw (by simp)
theorem Bk.row {w : World} {g : Nat} {B : Int → Bool} (h : Bk w g B) : RowB w g B := fun i hi => by
  obtain ⟨cur, h1, h2⟩ := h
  rw [cell_of_block h1]; exact h2 i hi
theorem By.cell {w : World} {g : Nat} {Y : Nat → Int} (h : By w g Y) {i : Nat} (hi : i < 1024) : w.cell? ⟨g, i, none⟩ = some (.int .u8 (Y i)) := by
  obtain ⟨cur, h1, -, h2⟩ := h
  rw [cell_of_block h1]; exact h2 i hi
theorem Bk.free {w : World} {g : Nat} {B : Int → Bool} (h : Bk w g B) (i : Nat) : w.frozen? ⟨g, i, none⟩ = false := by obtain ⟨cur, h1, -⟩ := h; exact free_of_block h1 i
theorem By.free {w : World} {g : Nat} {Y : Nat → Int} (h : By w g Y) (i : Nat) : w.frozen? ⟨g, i, none⟩ = false := by obtain ⟨cur, h1, -⟩ := h; exact free_of_block h1 i
theorem Bk.lt {w : World} {g : Nat} {B : Int → Bool} (h : Bk w g B) : g < w.heap.size := by obtain ⟨cur, h1, -⟩ := h; exact lt_of_block h1
theorem By.lt {w : World} {g : Nat} {Y : Nat → Int} (h : By w g Y) : g < w.heap.size := by obtain ⟨cur, h1, -⟩ := h; exact lt_of_block h1
theorem Bk.congr {w : World} {g : Nat} {B C : Int → Bool} (h : Bk w g B) (hc : ∀ i : Nat, i < 1024 → B i = C i) : Bk w g C := by
  obtain ⟨cur, h1, h2⟩ := h
  exact ⟨cur, h1, fun i hi => by rw [← hc i hi]; exact h2 i hi⟩
theorem By.congr {w : World} {g : Nat} {Y Z : Nat → Int} (h : By w g Y) (hc : ∀ i : Nat, i < 1024 → Y i = Z i) : By w g Z := by
  obtain ⟨cur, h1, hs, h2⟩ := h
  exact ⟨cur, h1, hs, fun i hi => by rw [← hc i hi]; exact h2 i hi⟩
theorem arr_lt {cur : Array Value} {i : Nat} {v : Value} (h : cur[i]? = some v) : i < cur.size := by
  rcases Nat.lt_or_ge i cur.size with h4 | h4
  · exact h4
  · rw [Array.getElem?_eq_none h4] at h; simp at h
theorem Bk.set {w : World} {g : Nat} {B : Int → Bool} (h : Bk w g B) {i : Nat} (hi : i < 1024) : Bk (w.setCell ⟨g, i, none⟩ (.bool true)) g (fun n => if n = (i : Int) then true else B n) := by
  obtain ⟨cur, h1, h2⟩ := h
  refine ⟨cur.setIfInBounds i (.bool true), block_set h1 i _, fun j hj => ?_⟩
  rw [Array.getElem?_setIfInBounds]
  by_cases hij : i = j
  · subst hij
    rw [if_pos rfl, if_pos (arr_lt (h2 i hi))]; simp
  · rw [if_neg hij, h2 j hj]; dsimp only; rw [if_neg (by omega)]
theorem By.set {w : World} {g : Nat} {Y : Nat → Int} (h : By w g Y) {i : Nat} (hi : i < 1024) (y : Int) : By (w.setCell ⟨g, i, none⟩ (.int .u8 y)) g (fun n => if n = i then y else Y n) := by
  obtain ⟨cur, h1, hs, h2⟩ := h
  refine ⟨cur.setIfInBounds i (.int .u8 y), block_set h1 i _, by simpa using hs, fun j hj => ?_⟩
  rw [Array.getElem?_setIfInBounds]
  by_cases hij : i = j
  · subst hij
    rw [if_pos rfl, if_pos (arr_lt (h2 i hi))]; simp
  · rw [if_neg hij, h2 j hj]; dsimp only; rw [if_neg (by omega)]
def bookO : Obj := .cells (madeCells (Value.bool false).cells 1024) 4
def byteO : Obj := .cells (madeCells (Value.int .u8 0).cells 1024) 5
theorem make_book (wx : World) : (Instr.makeSlice 33 (.int .i64 1024) (.int .i64 1024)).run Tryd.prog wx = .ok (.slice (some ⟨wx.heap.size, 0, none⟩) 1024 1024) (wx.alloc bookO) := by
  obtain ⟨i0, hi, hz0, hz1, hz2⟩ := info_parts info4b
  have := run_make (P := Tryd.prog) wx 33 4 i0 _ Tryd.underlying33 hi hz0 .i64 .i64 1024 1024 (by omega) (by omega) (by rw [hz2]; omega) (by omega)
  rw [hz1] at this
  unfold bookO
  simpa using this
theorem make_byte (wx : World) : (Instr.makeSlice 34 (.int .i64 1024) (.int .i64 1024)).run Tryd.prog wx = .ok (.slice (some ⟨wx.heap.size, 0, none⟩) 1024 1024) (wx.alloc byteO) := by
  obtain ⟨i0, hi, hz0, hz1, hz2⟩ := info_parts info5
  have := run_make (P := Tryd.prog) wx 34 5 i0 _ Tryd.underlying34 hi hz0 .i64 .i64 1024 1024 (by omega) (by omega) (by rw [hz2]; omega) (by omega)
  rw [hz1] at this
  unfold byteO
  simpa using this
theorem book_new (w : World) : Bk (w.alloc bookO) w.heap.size (fun _ => false) := ⟨_, block_new w bookO, fun i hi => made_get rfl 1024 i hi⟩
theorem byte_new (w : World) : By (w.alloc byteO) w.heap.size (fun _ => 0) := ⟨_, block_new w byteO, size_madeCells _ _, fun i hi => made_get rfl 1024 i hi⟩
#print axioms byte_new
end Go.Proofs.YtbkeilboneaejaaDoor

namespace Go.Proofs.YtbkeilboneaejaaDoor
set_option linter.unusedVariables false
set_option linter.unusedSimpArgs false

section
variable {s : Es} {T : Int → Bool} {Y : Nat → Int} {p : Pk}
theorem holes_gaps (h : Hd s T Y) : (s.m.length : Int) = gapsN T s.e := by
  have hen := h.iv.ho.en
  unfold gapsN
  by_cases he : s.e = -1
  · have hb := last_bd T 1024
    obtain ⟨l1, l2⟩ := last_is T 1024
    have hho := h.iv.ho
    rw [he] at hho
    rw [if_pos (by omega)]
    refine H.holes_open hho (by omega) ?_ (fun n hn => ?_)
    · rcases l1 with l1 | l1
      · left; omega
      · right
        rw [show (((lastB T 1024 + 1).toNat : Nat) : Int) - 1 = lastB T 1024 from by omega]; exact l1
    · by_cases h2 : n < 1024
      · exact l2 n (by omega) (by omega)
      · rw [Bool.eq_false_iff]; intro hc
        have := h.lt n hc; omega
  · rw [if_neg (by omega)]
    exact H.holes_end h.iv.ho he
/-- covered, where the end is known. -/
theorem cov_full {e : Int} (he : 0 ≤ e) : allB T e.toNat = true ↔ Full e T := by
  rw [allB_iff]
  unfold Full
  constructor
  · intro h; exact ⟨by omega, fun n h0 h1 => by rw [show n = (n.toNat : Int) from by omega]; exact h n.toNat (by omega)⟩
  · intro h i hi; exact h.2 i (by omega) (by omega)
end
#print axioms holes_gaps
end Go.Proofs.YtbkeilboneaejaaDoor

namespace Go.Proofs.YtbkeilboneaejaaDoor
set_option linter.unusedVariables false
set_option linter.unusedSimpArgs false
set_option maxRecDepth 20000

/-- 'again'. -/
def agB (over n : Int) (m : Bool) (e : Int) : Bool := decide (over = n) && (m || decide (0 ≤ e))
/-- 'bad'. -/
def badB (oth m : Bool) (e t1 : Int) (bey : Bool) : Bool := oth || (m && decide (0 ≤ e) && decide (e < t1)) || (!m && (bey || (decide (0 ≤ e) && decide (e ≠ t1))))
/-- 'bad', behind the Put. -/
def bdB (b six : Bool) (over n : Int) : Bool := b || (six && decide (0 < over) && decide (n ≠ 3))
section
variable {s : Es} {T : Int → Bool} {Y : Nat → Int} {p : Pk}
theorem e_bd (h : Hd s T Y) : -1 ≤ s.e := by have := h.iv.ho.en; omega
theorem ag_iff (h : Hd s T Y) : agB (ovN T p.off p.d.length) p.d.length p.more s.e = true ↔ Again s T p := by
  have he := e_bd h
  unfold agB Again All
  rw [Bool.and_eq_true, Bool.or_eq_true, decide_eq_true_eq, decide_eq_true_eq, ov_full]
  constructor
  · rintro ⟨h1, h2⟩
    exact ⟨h1, h2.imp id (fun h => by omega)⟩
  · rintro ⟨h1, h2⟩
    exact ⟨h1, h2.imp id (fun h => by omega)⟩
theorem bad_iff (h : Hd s T Y) {t0 : Nat} (ht : t0 ≤ 1024) (he : p.off + p.d.length = (t0 : Int)) :
    badB (otB T Y p p.d.length) p.more s.e t0 (byd T t0 (1024 - t0)) = true ↔ (Other T Y p ∨ BadE s T p) := by
  have hb := e_bd h
  unfold badB BadE endP
  rw [he, Bool.or_eq_true, Bool.or_eq_true, Bool.and_eq_true, Bool.and_eq_true, Bool.and_eq_true, Bool.or_eq_true, Bool.and_eq_true, decide_eq_true_eq, decide_eq_true_eq, decide_eq_true_eq, ot_other, byd_beyond h ht, or_assoc]
  refine or_congr Iff.rfl (or_congr ?_ ?_)
  · constructor
    · rintro ⟨⟨h1, h2⟩, h3⟩; exact ⟨h1, by omega, h3⟩
    · rintro ⟨h1, h2, h3⟩; exact ⟨⟨h1, by omega⟩, h3⟩
  · refine and_congr (by cases p.more <;> simp) (or_congr Iff.rfl ?_)
    constructor
    · rintro ⟨h1, h2⟩; exact ⟨by omega, h2⟩
    · rintro ⟨h1, h2⟩; exact ⟨by omega, h2⟩
theorem none_iff : ovN T p.off p.d.length = 0 ↔ None' T p := by
  unfold None'; exact ov_zero T p.off p.d.length
/-- A Put that may not be. -/
theorem bd_yes (h : Hd s T Y) (hq : Plc p) (hw : Wf p) (ho : p.o.length ≤ 40) {t0 : Nat} (ht : t0 ≤ 1024) (he : p.off + p.d.length = (t0 : Int)) {six : Bool} (hs : six = true → p.v = 6)
    (hb : bdB (badB (otB T Y p p.d.length) p.more s.e t0 (byd T t0 (1024 - t0))) six (ovN T p.off p.d.length) (takeS s p).1 = true) : (takeS s p).1 = 4 := by
  unfold bdB at hb
  rw [Bool.or_eq_true, Bool.and_eq_true, Bool.and_eq_true, decide_eq_true_eq, decide_eq_true_eq, bad_iff h ht he] at hb
  rcases hb with hb | ⟨⟨h1, h2⟩, h3⟩
  · exact hold_bad h hq hw ho (by omega) hb
  · refine hold_six h hq (hs h1) (fun hn => ?_) h3
    have := none_iff.2 hn
    omega
/-- .. and one that is taken. -/
structure After (s : Es) (T : Int → Bool) (Y : Nat → Int) (p : Pk) (six ag : Bool) : Prop where
  n4 : (takeS s p).1 ≠ 4
  a3 : (takeS s p).1 = 3 → ag = true
  a4 : six = false → (takeS s p).1 ≠ 3 → ag = false
  pr : (takeS s p).1 = 3 ∨ (takeS s p).1 = progN (takeS s p).2
  hd : Hd (takeS s p).2 (TT T p) (YY Y p)
  ee : (takeS s p).2.e = if p.more = true then s.e else p.off + p.d.length
  hh : (takeS s p).2.h = s.h + (p.d.length - ovN T p.off p.d.length)
theorem bd_no (h : Hd s T Y) (hq : Plc p) (hw : Wf p) (ho : p.o.length ≤ 40) {t0 : Nat} (ht : t0 ≤ 1024) (he : p.off + p.d.length = (t0 : Int)) {six : Bool} (hs : six = true ↔ p.v = 6)
    (hb : bdB (badB (otB T Y p p.d.length) p.more s.e t0 (byd T t0 (1024 - t0))) six (ovN T p.off p.d.length) (takeS s p).1 = false) : After s T Y p six (agB (ovN T p.off p.d.length) p.d.length p.more s.e) := by
  have hov := ov_bd T p.off p.d.length
  have hb1 : ¬ (Other T Y p ∨ BadE s T p) := fun hc => by
    have := (bad_iff h ht he).2 hc
    unfold bdB at hb
    rw [this] at hb
    simp at hb
  have h6 : p.v = 6 → None' T p ∨ (takeS s p).1 = 3 := fun hv => by
    have h1 := hs.2 hv
    by_cases h3 : (takeS s p).1 = 3
    · exact .inr h3
    · left
      apply none_iff.1
      unfold bdB at hb
      rw [h1, Bool.or_eq_false_iff] at hb
      have h4 := hb.2
      simp [h3] at h4
      omega
  obtain ⟨g1, g2, g3, g4⟩ := hold_good h hq hw ho (by omega) (fun hc => hb1 (.inl hc)) (fun hc => hb1 (.inr hc)) h6
  have hhd := take_hd h hq hw ho (by omega) g1
  refine ⟨g1, fun h3 => (ag_iff h).2 (g2 h3), fun h1 h3 => ?_, g4, hhd, (take_me g1).2, ?_⟩
  · rw [Bool.eq_false_iff]
    intro hc
    refine h3 (g3 (fun hv => ?_) ((ag_iff h).1 hc))
    rw [hs.2 hv] at h1
    simp at h1
  · have e1 := hhd.iv.cnt
    have e2 := h.iv.cnt
    have h0 := hq.o0
    have e3 := cnt_tk T p.off hq.o0 p.d.length hq.tt
    rw [tk_all] at e3
    omega
/-- What is told behind it. -/
theorem After.fin {s' : Es} {T' : Int → Bool} {Y' : Nat → Int} (h : Hd s' T' Y') : doneB s' = (decide (0 ≤ s'.e) && allB T' s'.e.toNat) := by
  have he := e_bd h
  rw [Bool.eq_iff_iff, done_full h, Bool.and_eq_true, decide_eq_true_eq]
  constructor
  · intro hf
    have := hf.1
    exact ⟨by omega, (cov_full (by omega)).2 hf⟩
  · rintro ⟨h1, h2⟩
    exact (cov_full h1).1 h2
theorem hd_whole {s' : Es} {T' : Int → Bool} {Y' : Nat → Int} (h : Hd s' T' Y') : (wholeP s').2 = doneB s' ∧ (doneB s' = true → (wholeP s').1.d = (List.range s'.e.toNat).map Y') := by
  unfold wholeP
  rw [h.ok]
  cases hd : doneB s' with
  | false => simp
  | true =>
    simp
    exact whole_byt h ((done_full h).1 hd)
theorem hd_holes {s' : Es} {T' : Int → Bool} {Y' : Nat → Int} (h : Hd s' T' Y') : holesN s' = gapsN T' s'.e := by
  unfold holesN
  rw [h.ok]
  simp
  exact holes_gaps h
end
#print axioms bd_yes
#print axioms bd_no
end Go.Proofs.YtbkeilboneaejaaDoor

namespace Go.Proofs.YtbkeilboneaejaaDoor
open Go.ChangeShapes Go.WideShapes Go.ChangeAt Go.RowKit
set_option linter.unusedVariables false
set_option linter.unusedSimpArgs false
set_option maxRecDepth 20000

/-- The entry, the two books and the key. -/
structure Lm (w wr : World) (x : Bool) (g g5 g7 : Nat) (s : Es) (fp : List Nat) (T : Int → Bool) (Y : Nat → Int) : Prop where
  ey : Ey wr g s fp
  kk : s.k = keyP x
  bk : Bk wr g7 T
  yy : By wr (g7 + 1) Y
  yb : ∀ i : Nat, 0 ≤ Y i ∧ Y i ≤ 255
  bx : BoxK wr g5 (csK (keyP x))
  n7 : g7 ∉ fp
  n8 : g7 + 1 ∉ fp
  n5 : g5 ∉ fp
  n57 : g5 ≠ g7
  n58 : g5 ≠ g7 + 1
  lo : ∀ z ∈ fp, w.heap.size ≤ z
  l7 : w.heap.size ≤ g7
  aw : Away [] w wr
section
variable {w wr w' : World} {x : Bool} {g g5 g7 : Nat} {s s' : Es} {fp fp' : List Nat} {T : Int → Bool} {Y : Nat → Int}
theorem Lm.on (h : Lm w wr x g g5 g7 s fp T Y) (hw : Away [] wr w') : Lm w w' x g g5 g7 s fp T Y :=
  ⟨h.ey.on hw, h.kk, h.bk.on hw, h.yy.on hw, h.yb, hw.keep (by simp) h.bx, h.n7, h.n8, h.n5, h.n57, h.n58, h.lo, h.l7, h.aw.trans hw⟩
theorem Lm.put (h : Lm w wr x g g5 g7 s fp T Y) (hy : Ey w' g s' fp') (hk : s'.k = keyP x) (hw : Away fp wr w') (hf : ∀ z ∈ fp', z ∈ fp ∨ wr.heap.size ≤ z) : Lm w w' x g g5 g7 s' fp' T Y := by
  have h7 := h.bk.lt
  have h8 := h.yy.lt
  have h5 := lt_of_block h.bx
  have hs := h.aw.size
  have hno : ∀ q, q < wr.heap.size → q ∉ fp → q ∉ fp' := fun q hq hn hc => by
    rcases hf q hc with h1 | h1
    · exact hn h1
    · omega
  refine ⟨hy, hk, h.bk.away hw h.n7, h.yy.away hw h.n8, h.yb, hw.keep h.n5 h.bx, hno g7 h7 h.n7, hno _ h8 h.n8, hno g5 h5 h.n5, h.n57, h.n58, fun z hz => ?_, h.l7, h.aw.next hw (fun z hz => .inr (h.lo z hz))⟩
  rcases hf z hz with h1 | h1
  · exact h.lo z h1
  · omega
theorem away_one (w : World) (g i : Nat) (u : Value) : Away [g] w (w.setCell ⟨g, i, none⟩ u) := (Away.refl _ _).setCell (.inl (by simp)) u
theorem Lm.book (h : Lm w wr x g g5 g7 s fp T Y) {i : Nat} (hi : i < 1024) : Lm w (wr.setCell ⟨g7, i, none⟩ (.bool true)) x g g5 g7 s fp (fun n => if n = (i : Int) then true else T n) Y := by
  have aw := away_one wr g7 i (.bool true)
  refine ⟨h.ey.away aw (fun z hz hc => h.n7 (by simp at hc; rw [← hc]; exact hz)), h.kk, h.bk.set hi, h.yy.away aw (by simp), h.yb, aw.keep (by simpa using h.n57) h.bx, h.n7, h.n8, h.n5, h.n57, h.n58, h.lo, h.l7, h.aw.next aw (fun z hz => .inr ?_)⟩
  simp at hz; rw [hz]; exact h.l7
theorem Lm.byte (h : Lm w wr x g g5 g7 s fp T Y) {i : Nat} (hi : i < 1024) {y : Int} (hy : 0 ≤ y ∧ y ≤ 255) : Lm w (wr.setCell ⟨g7 + 1, i, none⟩ (.int .u8 y)) x g g5 g7 s fp T (fun n => if n = i then y else Y n) := by
  have aw := away_one wr (g7 + 1) i (.int .u8 y)
  refine ⟨h.ey.away aw (fun z hz hc => h.n8 (by simp at hc; rw [← hc]; exact hz)), h.kk, h.bk.away aw (by simp), h.yy.set hi y, fun n => ?_, aw.keep (by simpa using h.n58) h.bx, h.n7, h.n8, h.n5, h.n57, h.n58, h.lo, h.l7, h.aw.next aw (fun z hz => .inr ?_)⟩
  · split
    · exact hy
    · exact h.yb n
  · simp at hz; rw [hz]; have := h.l7; omega
theorem Lm.congr {T' : Int → Bool} {Y' : Nat → Int} (h : Lm w wr x g g5 g7 s fp T Y) (hT : T = T') (hY : Y = Y') : Lm w wr x g g5 g7 s fp T' Y' := by subst hT; subst hY; exact h
end
structure Lh (w wr : World) (x : Bool) (g g5 g7 : Nat) (s : Es) (fp : List Nat) (T : Int → Bool) (Y : Nat → Int) : Prop where
  lm : Lm w wr x g g5 g7 s fp T Y
  hd : Hd s T Y

/-- The piece of a round, in plain words. -/
structure Qs (x : Bool) (q : Pk) (o n : Nat) (m : Bool) : Prop where
  off : q.off = (o : Int)
  more : q.more = m
  len : q.d.length = n
  v : q.v = if x = true then 6 else 4
  oo : q.o = []
  wf : Wf q
  pl : Plc q
  l1 : 1 ≤ n
  b : o + n ≤ 1024
  own : ∀ s : Es, s.k = keyP x → ownB s q = (decide (0 < (o : Int)) || m)
theorem made_qs (x : Bool) (r : Rw) : ∃ o n : Nat, offR r = (o : Int) ∧ Qs x (madeP (keyP x) r) o n r.m := by
  obtain ⟨b1, b2, b3⟩ := off_bd r
  obtain ⟨l1, l2, -⟩ := len_bd r
  have hl : (madeP (keyP x) r).d.length = lenR r := dat_len r _
  have ho : (madeP (keyP x) r).off = offR r := rfl
  refine ⟨(offR r).toNat, lenR r, by omega, by rw [ho]; omega, rfl, hl, rfl, rfl, made_wf (key_wf x) r _ l2, ⟨by rw [ho]; exact b1, by rw [ho]; omega, by rw [hl]; exact l1, by rw [ho, hl]; omega⟩, l1, by omega, fun s hs => ?_⟩
  rw [made_own x r s hs]
  congr 2
  rw [show (((offR r).toNat : Nat) : Int) = offR r from by omega]
/-- .. and where it lies. -/
structure Pc (w wr : World) (x : Bool) (g g5 g7 : Nat) (s : Es) (fp : List Nat) (T : Int → Bool) (Y : Nat → Int) (q : Pk) (g12 : Nat) (dv : Value) : Prop where
  lm : Lm w wr x g g5 g7 s fp T Y
  bx : BoxP wr g12 q (.slice none 0 0) dv
  pk : Pkt wr q (.slice none 0 0) dv
  m12 : g12 ∉ fp
  n7 : g12 ≠ g7
  n8 : g12 ≠ g7 + 1
  dvo : ∀ z, dv.ownBlock = some z → z ∉ fp ∧ z ≠ g7 ∧ z ≠ g7 + 1
section
variable {w wr w' : World} {x : Bool} {g g5 g7 : Nat} {s s' : Es} {fp fp' : List Nat} {T : Int → Bool} {Y : Nat → Int} {q : Pk} {g12 : Nat} {dv : Value}
theorem Pc.on (h : Pc w wr x g g5 g7 s fp T Y q g12 dv) (hw : Away [] wr w') : Pc w w' x g g5 g7 s fp T Y q g12 dv := ⟨h.lm.on hw, h.bx.on hw, h.pk.on hw, h.m12, h.n7, h.n8, h.dvo⟩
theorem Pc.outs (h : Pc w wr x g g5 g7 s fp T Y q g12 dv) {S : List Nat} (hS : ∀ z ∈ S, z ∈ fp ∨ z = g7 ∨ z = g7 + 1) : Outs q (.slice none 0 0) dv S :=
  ⟨fun _ z hz => by simp [Value.ownBlock] at hz, fun _ z hz hm => by
    obtain ⟨a, b, c⟩ := h.dvo z hz
    rcases hS z hm with h1 | h1 | h1
    · exact a h1
    · exact b h1
    · exact c h1⟩
theorem Pc.put (h : Pc w wr x g g5 g7 s fp T Y q g12 dv) (hd : q.d ≠ []) (hy : Ey w' g s' fp') (hk : s'.k = keyP x) (hw : Away fp wr w') (hf : ∀ z ∈ fp', z ∈ fp ∨ wr.heap.size ≤ z) : Pc w w' x g g5 g7 s' fp' T Y q g12 dv := by
  have h1 := h.bx.lt
  refine ⟨h.lm.put hy hk hw hf, h.bx.away hw h.m12, h.pk.away hw (h.outs (fun z hz => .inl hz)), fun hc => ?_, h.n7, h.n8, fun z hz => ?_⟩
  · rcases hf _ hc with h2 | h2
    · exact h.m12 h2
    · omega
  · obtain ⟨a, b, c⟩ := h.dvo z hz
    refine ⟨fun hc => ?_, b, c⟩
    rcases hf _ hc with h2 | h2
    · exact a h2
    · have := h.pk.d.old hd z hz
      omega
theorem Pc.book (h : Pc w wr x g g5 g7 s fp T Y q g12 dv) {i : Nat} (hi : i < 1024) : Pc w (wr.setCell ⟨g7, i, none⟩ (.bool true)) x g g5 g7 s fp (fun n => if n = (i : Int) then true else T n) Y q g12 dv :=
  ⟨h.lm.book hi, h.bx.away (away_one wr g7 i _) (by simpa using h.n7), h.pk.away (away_one wr g7 i _) (h.outs (by simp)), h.m12, h.n7, h.n8, h.dvo⟩
theorem Pc.byte (h : Pc w wr x g g5 g7 s fp T Y q g12 dv) {i : Nat} (hi : i < 1024) {y : Int} (hy : 0 ≤ y ∧ y ≤ 255) : Pc w (wr.setCell ⟨g7 + 1, i, none⟩ (.int .u8 y)) x g g5 g7 s fp T (fun n => if n = i then y else Y n) q g12 dv :=
  ⟨h.lm.byte hi hy, h.bx.away (away_one wr (g7 + 1) i _) (by simpa using h.n8), h.pk.away (away_one wr (g7 + 1) i _) (h.outs (by simp)), h.m12, h.n7, h.n8, h.dvo⟩
theorem Pc.congr {T' : Int → Bool} {Y' : Nat → Int} (h : Pc w wr x g g5 g7 s fp T Y q g12 dv) (hT : T = T') (hY : Y = Y') : Pc w wr x g g5 g7 s fp T' Y' q g12 dv := by subst hT; subst hY; exact h
theorem Pc.dat {bd od len dcap : Nat} (h : Pc w wr x g g5 g7 s fp T Y q g12 (.slice (some ⟨bd, od, none⟩) len dcap)) (hd : q.d ≠ []) {i : Nat} (hi : i < q.d.length) : wr.cell? ⟨bd, od + i, none⟩ = some (.int .u8 (q.d[i]?.getD 0)) := by
  obtain ⟨-, -, -, h1⟩ := h.pk.d.of
  rcases h1.2.2 with h2 | ⟨b, o, h2, h3⟩
  · exact absurd h2 hd
  · simp only [Option.some.injEq, Addr.mk.injEq, and_true] at h2
    obtain ⟨rfl, rfl⟩ := h2
    exact h3 i hi
end
theorem whole_ad {s : Es} {T : Int → Bool} (h : Iv s T) : Ad (wholeP s).1 := by
  unfold wholeP
  split
  · exact ⟨rfl, rfl⟩
  · exact h.fw.ad
theorem By.rw {w : World} {g : Nat} {Y : Nat → Int} (h : By w g Y) (hb : ∀ i : Nat, 0 ≤ Y i ∧ Y i ≤ 255) {n : Nat} (hn : n ≤ 1024) : Row w (some ⟨g, 0, none⟩) ((List.range n).map Y) := by
  refine ⟨by simp; omega, fun y hy => ?_, .inr ⟨g, 0, rfl, fun i hi => ?_⟩⟩
  · obtain ⟨i, -, rfl⟩ := List.mem_map.1 hy
    have := hb i
    omega
  · have hi' : i < n := by simpa using hi
    rw [Nat.zero_add, h.cell (by omega), List.getElem?_map, List.getElem?_range hi']
    rfl
theorem whole_len {s : Es} {T : Int → Bool} {Y : Nat → Int} (h : Hd s T Y) : Bytes (wholeP s).1.d ∧ (wholeP s).1.d.length ≤ 140737488355328 := by
  have h1 := h.iv.db
  have h2 := h.iv.dl
  unfold wholeP
  split
  · exact ⟨Bytes.nil, by simp [zeroPk]⟩
  · refine ⟨h1.take _, ?_⟩
    show (s.d.take _).length ≤ _
    rw [List.length_take]; omega
theorem prog_cases {s : Es} {n : Int} (h : n = 3 ∨ n = progN s) : n = 3 ∨ (n = 6 ∧ doneB s = true) ∨ (n = 5 ∧ doneB s = false) := by
  rcases h with h | h
  · exact .inl h
  · right
    unfold progN at h
    cases hd : doneB s with
    | true => rw [hd] at h; exact .inl ⟨h, rfl⟩
    | false => rw [hd] at h; exact .inr ⟨h, rfl⟩
theorem h_bd {s : Es} {T : Int → Bool} (h : Iv s T) : 0 ≤ s.h ∧ s.h ≤ 65535 := by
  have h1 := h.cnt
  have h2 := cnt_le T 65535
  omega
/-- What a Put told, of an entry that is not poisoned. -/
theorem put_two {s : Es} {q : Pk} (hb : s.bad = false) (ho : ownB s q = true) : (putS s q).1 = (takeS s q).1 ∧ ((takeS s q).1 = 4 → (putS s q).2 = poisS s) ∧ ((takeS s q).1 ≠ 4 → (putS s q).2 = (takeS s q).2) := by
  unfold putS
  rw [if_neg (by rw [ho]; simp), if_neg (by rw [hb]; simp)]
  by_cases h4 : (takeS s q).1 = 4
  · rw [if_pos h4]; exact ⟨h4.symm, fun _ => rfl, fun h => absurd h4 h⟩
  · rw [if_neg h4]; exact ⟨rfl, fun h => absurd h h4, fun _ => rfl⟩
end Go.Proofs.YtbkeilboneaejaaDoor
