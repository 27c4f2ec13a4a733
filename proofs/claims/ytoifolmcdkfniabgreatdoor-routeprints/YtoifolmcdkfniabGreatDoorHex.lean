/-
  The library's numbers to the base of 16.
-/
import Derived.Test.YtoifolmcdkfniabGreatDoorGlob
import Derived.Deep.WholeRow
import Derived.Laws.IdiomStrings
namespace Go.Proofs.YtoifolmcdkfniabGreatDoor
open Go.ChangeShapes Go.WideShapes Go.ChangeAt Go.RowKit
set_option linter.unusedVariables false
set_option maxHeartbeats 4000000
set_option maxRecDepth 100000

def hexd (m : Nat) : UInt8 := if m < 10 then UInt8.ofNat (48 + m) else UInt8.ofNat (87 + m)
def low (n : Nat) : Nat → List UInt8
  | 0 => []
  | k + 1 => hexd (n / 16 ^ k % 16) :: low n k
def nd (n : Nat) : Nat := if n < 16 then 0 else if n < 256 then 1 else if n < 4096 then 2 else 3
def hx (n : Nat) : List UInt8 := low n (nd n + 1)
theorem low_length (n : Nat) : ∀ k, (low n k).length = k
  | 0 => rfl
  | k + 1 => by simp [low, low_length n k]
theorem tz_c (w : World) (hb : w.cell? ⟨3, 15, none⟩ = some (.int .u8 4)) : Calls Tryz.prog 93 #[.int .u64 16] w fun e w' => e = .returned (.int .i64 4) ∧ w' = w := by
  have e1 : bits .and .u64 16 (IntKind.u64.wrap (-16)) = 16 := by decide
  have e2 : (IntKind.u64.wrap (16 * 285870213051353865) / 288230376151711744).toNat = 15 := by decide
  have e3 : IntKind.u64.wrap (16 * 285870213051353865) / 288230376151711744 = 15 := by decide
  have e4 : IntKind.u64.wrap 4573923408821661840 / 288230376151711744 = 15 := by decide
  go_enter Tryz.func93, Tryz.ntmps93
  go_wp2
  all_goals (go_ret; exact ⟨rfl, rfl⟩)
theorem pow2_c (w : World) : Calls Tryz.prog 92 #[.int .i64 16] w fun e w' => e = .returned (.bool true) ∧ w' = w := by
  have e1 : bits .and .i64 16 15 = 0 := by decide
  go_enter Tryz.func92, Tryz.ntmps92
  go_wp2
  go_ret
  exact ⟨rfl, rfl⟩
theorem zero114 : (∀ w, (zeroValue 131).run Tryz.prog w = .ok (.agg (Array.replicate 65 (.int .u8 0))) w) ∧ (Tryz.prog.info? 131).map (·.size) = some 65 := zero_of_info (by kernel_rfl)
def Dg : ByteArray := ⟨#[48, 49, 50, 51, 52, 53, 54, 55, 56, 57, 97, 98, 99, 100, 101, 102, 103, 104, 105, 106, 107, 108, 109, 110, 111, 112, 113, 114, 115, 116, 117, 118, 119, 120, 121, 122]⟩
theorem dg_get : ∀ m : Fin 16, Dg[m.val]? = some (hexd m.val) := by decide
theorem index_dg (m : Nat) (hm : m < 16) (w : World) : (Instr.index 9 (.string Dg) (.int .u64 (m : Int))).run Tryz.prog w = .ok (.int .u8 ((hexd m).toNat : Int)) w := by
  have h := dg_get ⟨m, hm⟩
  simp only [Instr.index, asIntOf, Sem.run_bind, Sem.run_pure, Result.andThen, run_underlying Tryz.underlying9]
  rw [if_pos (by omega), Int.toNat_natCast, h]
  rfl
theorem dg_at (m : Nat) (hm : m < 16) (h : m < Dg.size) : Dg[m]'h = hexd m := by
  have h1 := dg_get ⟨m, hm⟩
  have h2 : Dg[m]? = some (Dg[m]'h) := by simp [getElem?_pos, h]
  rw [h2] at h1
  exact Option.some.inj h1
theorem and15 (m : Nat) (hm : m < 65536) : bits .and .u64 (m : Int) 15 = ((m % 16 : Nat) : Int) := by
  have h := u64_and_nat m 15 (by omega) (by omega)
  have e : m &&& 15 = m % 16 := Nat.and_two_pow_sub_one_eq_mod m 4
  rw [e] at h
  exact h
/-- The digits that are written. -/
def Wrote (w : World) (g n k : Nat) : Prop := ∃ C : Array Value, w.heap[g]? = some (.cells C 131 (0, 0)) ∧ C.size = 65 ∧ ∀ j d, (low n k)[j]? = some d → C[65 - k + j]? = some (.int .u8 (d.toNat : Int))
theorem Wrote.cell {w : World} {g n k : Nat} (h : Wrote w g n k) (i : Nat) (hi : i < 65) : ∃ v, w.cell? ⟨g, i, none⟩ = some v := by
  obtain ⟨C, h1, h2, _⟩ := h
  exact ⟨C[i]'(by omega), by simp [World.cell?, h1, show i < C.size by omega]⟩
theorem Wrote.free {w : World} {g n k : Nat} (h : Wrote w g n k) (i : Nat) : w.frozen? ⟨g, i, none⟩ = false := by
  obtain ⟨C, h1, h2, _⟩ := h
  simp [World.frozen?, h1]
theorem Wrote.step {w : World} {g n k i : Nat} (h : Wrote w g n k) (hk : k < 65) (hi : i = 64 - k) : Wrote (w.setCell ⟨g, i, none⟩ (.int .u8 ((hexd (n / 16 ^ k % 16)).toNat : Int))) g n (k + 1) := by
  subst hi
  obtain ⟨C, h1, h2, h3⟩ := h
  refine ⟨C.setIfInBounds (64 - k) (.int .u8 ((hexd (n / 16 ^ k % 16)).toNat : Int)), by simp [World.setCell, Array.getElem?_modify, h1], by simpa using h2, ?_⟩
  intro j d hj
  rw [Array.getElem?_setIfInBounds]
  rcases j with _ | j
  · simp only [low, List.getElem?_cons_zero, Option.some.injEq] at hj
    rw [if_pos (by omega), if_pos (by omega), hj]
  · simp only [low, List.getElem?_cons_succ] at hj
    rw [if_neg (by omega), show 65 - (k + 1) + (j + 1) = 65 - k + j from by omega]
    exact h3 j d hj
theorem Wrote.conv {w : World} {g n k o : Nat} (h : Wrote w g n k) (ho : o = 65 - k) (hk : k ≤ 65) (c : Nat) : (convert 32 9 (.slice (some ⟨g, o, none⟩) k c)).run Tryz.prog w = .ok (.string ⟨(low n k).toArray⟩) w := by
  subst ho
  obtain ⟨C, h1, h2, h3⟩ := h
  have := run_convert_bytes_back (P := Tryz.prog) w 32 9 5 ⟨g, 65 - k, none⟩ c (low n k) Tryz.underlying32 Tryz.underlying5 Tryz.underlying9 (fun j hj => by
    rw [add_plain]
    simp only [World.cell?, h1]
    exact h3 j _ (List.getElem?_eq_getElem hj))
  rwa [low_length] at this
theorem slice114 (g o : Nat) (ho : o < 65) (W : World) : (Instr.sliceAt 131 (.pointer (some ⟨g, 0, none⟩)) (some (.int .i64 (o : Int))) none none).run Tryz.prog W = .ok (.slice (some ⟨g, o, none⟩) (65 - o) (65 - o)) W := by
  have ht : Tryz.prog.underlying 131 = some (.array (Tryz.prog.arrayLen 131) (Tryz.prog.elem 131)) := by kernel_rfl
  have hal : Tryz.prog.arrayLen 131 = 65 := by kernel_rfl
  have hel : Tryz.prog.elem 131 = 5 := by kernel_rfl
  have hz : (sizeOf 5).run Tryz.prog W = .ok 1 W := by kernel_rfl
  have h := run_sliceAt_array_l (P := Tryz.prog) W 131 ⟨g, 0, none⟩ ht .i64 (o : Int) (by omega) (by rw [hal]; omega)
  rw [hal, hel, hz] at h
  rw [h]
  simp only [Result.andThen, slicedAt, add_plain]
  rw [Int.toNat_natCast, Nat.mul_one, Nat.zero_add, if_neg (by omega)]
theorem nd_div (n : Nat) (hn : n < 65536) (k : Nat) (hk : k ≤ 3) (h : ∀ j, j < k → 16 ≤ n / 16 ^ j) (h2 : n / 16 ^ k < 16) : nd n = k := by
  unfold nd
  rcases (by omega : k = 0 ∨ k = 1 ∨ k = 2 ∨ k = 3) with rfl | rfl | rfl | rfl
  · simp at h2; simp [h2]
  · have a := h 0 (by omega); simp at a h2; rw [if_neg (by omega), if_pos (by omega)]
  · have a := h 1 (by omega); simp at a h2; rw [if_neg (by omega), if_neg (by omega), if_pos (by omega)]
  · have a := h 2 (by omega); simp at a h2; rw [if_neg (by omega), if_neg (by omega), if_neg (by omega)]
theorem bits_c (n : Nat) (hn : n < 65536) (w : World) (hg : Glob w) : Calls Tryz.prog 78 #[.slice none 0 0, .int .u64 (n : Int), .int .i64 16, .bool false, .bool false] w fun e w' => (∃ v, e = .returned (.tuple #[v, .string ⟨(hx n).toArray⟩])) ∧ Below w.heap.size w w' := by
  obtain ⟨res, hres⟩ : ∃ r, r = hx n := ⟨_, rfl⟩
  rw [← hres]
  have HRES := Lib.hid hres; clear hres
  have z114 := zero114.1
  have W0 : Hid (Wrote (w.alloc (.cells (Array.replicate 65 (.int .u8 0)) 131)) w.heap.size n 0) := Lib.hid ⟨_, heap_alloc_new w _, by simp, fun j d h => by simp [low] at h⟩
  have hb4 : (w.alloc (.cells (Array.replicate 65 (.int .u8 0)) 131)).cell? ⟨3, 15, none⟩ = some (.int .u8 4) := (hg.alloc _).bru
  have HB0 : Hid (Below w.heap.size w (w.alloc (.cells (Array.replicate 65 (.int .u8 0)) 131))) := Lib.hid ((Below.refl _ _).alloc (Nat.le_refl _) _)
  obtain ⟨zz, hzz⟩ : ∃ c, c = Array.replicate 65 (Value.int .u8 0) := ⟨_, rfl⟩
  rw [← hzz] at z114 W0 hb4 HB0
  clear hzz
  have HTZ : Hid (Calls Tryz.prog 93 #[.int .u64 16] (w.alloc (.cells zz 131)) fun e w' => e = .returned (.int .i64 4) ∧ w' = (w.alloc (.cells zz 131))) := Lib.hid (tz_c _ hb4)
  clear hg hb4
  go_enter Tryz.func78, Tryz.ntmps78
  go_wp2_with (first
    | (go_at_call 92; refine (pow2_c _).mono ?_; rintro e w44 ⟨rfl, hw44⟩; have hw44 := hw44.symm; subst hw44)
    | (go_at_call 93; refine HTZ.out.mono ?_; rintro e w44 ⟨rfl, hw44⟩; have hw44 := hw44.symm; subst hw44))
  go_loopw [1, 13] (fun u i wr => ∃ k : Nat, k ≤ 3 ∧ u = .int .u64 ((n / 16 ^ k : Nat) : Int) ∧ i = .int .i64 ((65 - k : Nat) : Int) ∧ (∀ j, j < k → 16 ≤ n / 16 ^ j) ∧ Wrote wr w.heap.size n k ∧ Below w.heap.size w wr) (fun u _ _ => (intOf u).toNat)
  case atStart => exact ⟨0, by omega, by simp, rfl, fun j h => by omega, W0.out, HB0.out⟩
  case round =>
    obtain ⟨k, hk, rfl, rfl, hall, hW, hB⟩ := hrel
    obtain ⟨m, hm⟩ : ∃ m, m = n / 16 ^ k := ⟨_, rfl⟩
    rw [← hm]
    have hmn : m ≤ n := by rw [hm]; exact Nat.div_le_self _ _
    have hm64 : m < 65536 := by omega
    have ha := and15 m hm64
    have hdx := dg_at (m % 16) (Nat.mod_lt _ (by decide))
    have hdy : m < 16 → ∀ h : m < Dg.size, Dg[m]'h = hexd (m % 16) := fun h h' => by rw [Nat.mod_eq_of_lt h]; exact dg_at m h h'
    obtain ⟨cv, hcv⟩ := hW.cell (64 - k) (by omega)
    have hfv := hW.free (64 - k)
    have hD : Dg = ⟨#[48, 49, 50, 51, 52, 53, 54, 55, 56, 57, 97, 98, 99, 100, 101, 102, 103, 104, 105, 106, 107, 108, 109, 110, 111, 112, 113, 114, 115, 116, 117, 118, 119, 120, 121, 122]⟩ := rfl
    rw [hD] at hdx hdy
    have HSTEP : Hid (Wrote (wr.setCell ⟨w.heap.size, 64 - k, none⟩ (.int .u8 ((hexd (m % 16)).toNat : Int))) w.heap.size n (k + 1) ∧ Below w.heap.size w (wr.setCell ⟨w.heap.size, 64 - k, none⟩ (.int .u8 ((hexd (m % 16)).toNat : Int)))) := Lib.hid ⟨by rw [hm]; exact hW.step (by omega) rfl, hB.setCell (Nat.le_refl _) _⟩
    obtain ⟨hd, hhd⟩ : ∃ h, h = hexd (m % 16) := ⟨_, rfl⟩
    rw [← hhd] at hdx HSTEP hdy
    clear hhd
    have j1 : (((65 - k : Nat) : Int)) = 65 - (k : Int) := by omega
    have j2 : (65 - (k : Int) - 1).toNat = 64 - k := by omega
    have j3 : 0 ≤ 65 - (k : Int) - 1 := by omega
    have j4 : 65 - (k : Int) - 1 < 65 := by omega
    have HM := Lib.hid hm
    have HALL := Lib.hid hall
    clear hm hall hW hB hD W0 HB0 HTZ z114
    by_cases h16 : 16 ≤ m
    · have i1 : decide ((16 : Int) ≤ (m : Int)) = true := by simp; omega
      clear hdy
      go_wp2_with fail
      go_roundw
      case rel =>
        have hk2 : k ≤ 2 := by
          rcases Nat.lt_or_ge k 3 with h | h
          · omega
          · exfalso
            have h3 : k = 3 := by omega
            have := HM.out
            rw [h3] at this
            have : m < 16 := by rw [this]; omega
            omega
        refine ⟨k + 1, by omega, ?_, ?_, ?_, HSTEP.out⟩
        · congr 1
          rw [HM.out, Nat.pow_succ, ← Nat.div_div_eq_div_mul]
          omega
        · congr 1; omega
        · intro j hj
          rcases Nat.lt_or_ge j k with h | h
          · exact HALL.out j h
          · have : j = k := by omega
            subst this
            rw [← HM.out]; exact h16
      case measure => simp [intOf]; omega
    · have i1 : decide ((16 : Int) ≤ (m : Int)) = false := by simp; omega
      have hlt : m < 16 := by omega
      have hdz := hdy hlt
      have hnd : nd n = k := nd_div n hn k hk HALL.out (by rw [← HM.out]; exact hlt)
      have hsl := slice114 w.heap.size (64 - k) (by omega)
      rw [show ((64 - k : Nat) : Int) = 65 - (k : Int) - 1 from by omega, show 65 - (64 - k) = k + 1 from by omega] at hsl
      have hcvt := HSTEP.out.1.conv (o := 64 - k) (by omega) (by omega) (k + 1)
      have hrs : res = low n (k + 1) := by rw [HRES.out, hx, hnd]
      rw [← hrs] at hcvt
      have HF := Lib.hid HSTEP.out.2
      clear hdy hdx HSTEP hnd hrs HRES HALL HM
      go_wp2_with fail
      go_ret2
      exact ⟨⟨_, rfl⟩, HF.out⟩
theorem format_c (n : Nat) (hn : n < 65536) (w : World) (hg : Glob w) : Calls Tryz.prog 53 #[.int .u64 (n : Int), .int .i64 16] w fun e w' => e = .returned (.string ⟨(hx n).toArray⟩) ∧ Below w.heap.size w w' := by
  have HC := Lib.hid (bits_c n hn w hg)
  clear hg
  generalize hx n = r at *
  go_enter Tryz.func53, Tryz.ntmps53
  go_wp2_with (first
    | (go_at_call 74; refine Calls.mono ?_ (fun _ _ h => h); go_enter Tryz.func74, Tryz.ntmps74)
    | (go_at_call 78; refine HC.out.mono ?_; rintro e w2 ⟨⟨v2, rfl⟩, hb2⟩)
    | go_in)
  go_ret
  exact ⟨rfl, hb2⟩
end Go.Proofs.YtoifolmcdkfniabGreatDoor
