/-
  For AddrAsks: the document's Print.
-/
import Derived.Test.YtoifolmcdkfniabGreatDoorPrint
import Derived.Test.YtoifolmcdkfniabGreatDoorDrawn
import Derived.Test.YtoifolmcdkfniabGreatDoorLess
import Derived.Deep.RegionHeld3
import Derived.Deep.Cut
import Derived.Test.YtoifolmcdkfniabGreatDoorRefZ
namespace Go.Proofs.YtoifolmcdkfniabGreatDoor
set_option linter.unusedVariables false
set_option maxHeartbeats 4000000
set_option maxRecDepth 100000

def runP (gs : List Nat) (i : Nat) : Nat := ((gs.drop i).takeWhile (fun g => decide (g = 0))).length
def zstB (zs : List Bool) : Nat → Nat × Nat × Nat
  | 0 => (0, 0, 0)
  | k + 1 => if zs.getD k true = false then ((zstB zs k).1, (zstB zs k).2.1, k + 1)
    else if (zstB zs k).2.1 - (zstB zs k).1 < k + 1 - (zstB zs k).2.2 then ((zstB zs k).2.2, k + 1, (zstB zs k).2.2) else zstB zs k
def runB (zs : List Bool) (i : Nat) : Nat := ((zs.drop i).takeWhile id).length
theorem zst_b (gs : List Nat) : ∀ k, zst gs k = zstB (gs.map (fun g => decide (g = 0))) k
  | 0 => rfl
  | k + 1 => by
    have ih := zst_b gs k
    have e : (gs.map (fun g => decide (g = 0))).getD k true = decide (gs.getD k 0 = 0) := by
      rw [List.getD_eq_getElem?_getD, List.getD_eq_getElem?_getD, List.getElem?_map]
      cases gs[k]? <;> simp
    unfold zst zstB
    rw [ih, e]
    simp
theorem run_b (gs : List Nat) (i : Nat) : runP gs i = runB (gs.map (fun g => decide (g = 0))) i := by
  unfold runP runB
  rw [← List.map_drop, List.takeWhile_map, List.length_map]
  rfl
def lessB (zs : List Bool) (k : Nat) : Bool := (List.range 9).all fun i => decide (8 < i + k) || decide (runB zs i < k)
def chk (zs : List Bool) : Bool :=
  if (zstB zs 8).2.1 - (zstB zs 8).1 < 2 then (List.range 9).all fun k => decide (k < 2) || lessB zs k
  else decide ((zstB zs 8).2.1 ≤ 8) && decide ((zstB zs 8).2.1 - (zstB zs 8).1 ≤ runB zs (zstB zs 8).1) && ((List.range 9).all fun k => decide (k ≤ (zstB zs 8).2.1 - (zstB zs 8).1) || lessB zs k) && ((List.range (zstB zs 8).1).all fun i => decide (runB zs i < (zstB zs 8).2.1 - (zstB zs 8).1))
theorem chk_all : ∀ a b c d e f g h : Bool, chk [a, b, c, d, e, f, g, h] = true := by decide +kernel
theorem chk_of {zs : List Bool} (h : zs.length = 8) : chk zs = true := by
  match zs, h with
  | [a, b, c, d, e, f, g, i], _ => exact chk_all a b c d e f g i
/-- No run is as long as two. -/
theorem run_none {gs : List Nat} (hg : gs.length = 8) (h : (zst gs 8).2.1 - (zst gs 8).1 < 2) {k i : Nat} (hk : 2 ≤ k) (hi : i + k ≤ 8) : runP gs i < k := by
  have hc := chk_of (zs := gs.map (fun g => decide (g = 0))) (by simpa using hg)
  rw [zst_b] at h
  unfold chk at hc
  rw [if_pos h] at hc
  simp only [lessB, List.all_eq_true, List.mem_range, Bool.or_eq_true, decide_eq_true_eq] at hc
  rw [run_b]
  rcases hc k (by omega) with h1 | h1
  · omega
  · rcases h1 i (by omega) with h2 | h2
    · omega
    · exact h2
/-- The longest run, the first of them. -/
theorem run_first {gs : List Nat} (hg : gs.length = 8) {f t : Nat} (hf : f = (zst gs 8).1) (ht : t = (zst gs 8).2.1) (h : 2 ≤ t - f) :
    t ≤ 8 ∧ t - f ≤ runP gs f ∧ (∀ k i, t - f < k → i + k ≤ 8 → runP gs i < k) ∧ (∀ i, i < f → runP gs i < t - f) := by
  have hc := chk_of (zs := gs.map (fun g => decide (g = 0))) (by simpa using hg)
  rw [zst_b] at hf ht
  unfold chk at hc
  rw [← hf, ← ht, if_neg (by omega)] at hc
  simp only [lessB, Bool.and_eq_true, List.all_eq_true, List.mem_range, Bool.or_eq_true, decide_eq_true_eq] at hc
  obtain ⟨⟨⟨h1, h2⟩, h3⟩, h4⟩ := hc
  refine ⟨h1, by rw [run_b]; exact h2, fun k i hk hi => ?_, fun i hi => by rw [run_b]; exact h4 i hi⟩
  rw [run_b]
  rcases h3 k (by omega) with h5 | h5
  · omega
  · rcases h5 i (by omega) with h6 | h6
    · omega
    · exact h6
/-- A run, number by number. -/
theorem run_at {gs : List Nat} {i n : Nat} (h : ∀ j, j < n → gs[i + j]? = some 0) (he : ∀ x, gs[i + n]? = some x → x ≠ 0) : runP gs i = n := by
  unfold runP
  induction n generalizing i with
  | zero =>
    rcases hd : gs.drop i with _ | ⟨x, r⟩
    · rfl
    · have hx : gs[i]? = some x := by
        have := congrArg (fun l => l[0]?) hd
        simpa using this
      have := he x (by simpa using hx)
      rw [List.takeWhile_cons_of_neg (by simpa using this)]; rfl
  | succ n ih =>
    have h0 : gs[i]? = some 0 := by simpa using h 0 (by omega)
    obtain ⟨hi, hi2⟩ := List.getElem?_eq_some_iff.1 h0
    rw [List.drop_eq_getElem_cons hi, hi2, List.takeWhile_cons_of_pos (by simp), List.length_cons, ih (i := i + 1) (fun j hj => by
      have := h (j + 1) (by omega)
      rw [show i + 1 + j = i + (j + 1) from by omega]; exact this) (fun x hx => he x (by rw [show i + (n + 1) = i + 1 + n from by omega]; exact hx))]
/-- Digits. -/
def dgs (base n : Nat) : Nat → List UInt8
  | 0 => []
  | k + 1 => hexd (n / base ^ k % base) :: dgs base n k
theorem dgs_len (base n : Nat) : ∀ k, (dgs base n k).length = k
  | 0 => rfl
  | k + 1 => by simp [dgs, dgs_len base n k]
theorem dgs_low (n : Nat) : ∀ k, dgs 16 n k = low n k
  | 0 => rfl
  | k + 1 => by simp [dgs, low, dgs_low n k]
def dec3_a (n : Nat) : Nat := if n < 10 then 1 else if n < 100 then 2 else 3
def decOk : Bool := (List.range 256).all fun n => decide (dgs 10 n (dec3_a n) = Lib.itoa (n : Int))
theorem decOk_true : decOk = true := by decide +kernel
theorem dgs_itoa {n : Nat} (h : n < 256) : dgs 10 n (dec3_a n) = Lib.itoa (n : Int) := by
  have hc := decOk_true
  unfold decOk at hc
  simp only [List.all_eq_true, List.mem_range, decide_eq_true_eq] at hc
  exact hc n h
theorem dec3_at {n k : Nat} (hn : n < 256) (h0 : 1 ≤ k) (h1 : n / 10 ^ k = 0) (h2 : ∀ j, 1 ≤ j → j < k → n / 10 ^ j ≠ 0) : k = dec3_a n := by
  unfold dec3_a
  rcases (show k = 1 ∨ k = 2 ∨ k = 3 ∨ 3 < k by omega) with rfl | rfl | rfl | hk
  · rw [if_pos (by simp at h1; omega)]
  · have := h2 1 (by omega) (by omega)
    simp at this h1
    rw [if_neg (by omega), if_pos (by omega)]
  · have := h2 2 (by omega) (by omega)
    simp at this h1
    rw [if_neg (by omega), if_neg (by omega)]
  · exact absurd (by simp; omega) (h2 3 (by omega) hk)
theorem nd_at {n k : Nat} (hn : n < 65536) (h0 : 1 ≤ k) (h1 : n / 16 ^ k = 0) (h2 : ∀ j, 1 ≤ j → j < k → n / 16 ^ j ≠ 0) : k = nd n + 1 := by
  unfold nd
  rcases (show k = 1 ∨ k = 2 ∨ k = 3 ∨ k = 4 ∨ 4 < k by omega) with rfl | rfl | rfl | rfl | hk
  · rw [if_pos (by simp at h1; omega)]
  · have := h2 1 (by omega) (by omega)
    simp at this h1
    rw [if_neg (by omega), if_pos (by omega)]
  · have := h2 2 (by omega) (by omega)
    simp at this h1
    rw [if_neg (by omega), if_neg (by omega), if_pos (by omega)]
  · have := h2 3 (by omega) (by omega)
    simp at this h1
    rw [if_neg (by omega), if_neg (by omega), if_neg (by omega)]
  · exact absurd (by simp; omega) (h2 4 (by omega) hk)
#print axioms run_first
end Go.Proofs.YtoifolmcdkfniabGreatDoor

namespace Go.Proofs.YtoifolmcdkfniabGreatDoor
open Go.ChangeShapes Go.WideShapes Go.ChangeAt Go.RowKit
set_option linter.unusedVariables false
set_option maxHeartbeats 4000000
set_option maxRecDepth 100000

theorem conv1 {w : World} {g c : Nat} {z : Int} {d : UInt8} (hz : z = (d.toNat : Int)) (h : w.cell? ⟨g, 0, none⟩ = some (.int .u8 z)) : (convert 32 9 (.slice (some ⟨g, 0, none⟩) 1 c)).run Tryz.prog w = .ok (.string ⟨[d].toArray⟩) w := by
  subst hz
  have := run_convert_bytes_back (P := Tryz.prog) w 32 9 5 ⟨g, 0, none⟩ c [d] Tryz.underlying32 Tryz.underlying5 Tryz.underlying9 (fun j hj => by
    obtain rfl : j = 0 := by simp at hj; omega
    simpa [Addr.add] using h)
  simpa using this
theorem str_app (a b : List UInt8) : (ByteArray.mk a.toArray ++ ByteArray.mk b.toArray) = ByteArray.mk (a ++ b).toArray := by
  apply ByteArray.ext
  simp [ByteArray.data_append]
theorem cell_new (w : World) (z : Int) : (w.alloc (.cells #[.int .u8 z] 5)).cell? ⟨w.heap.size, 0, none⟩ = some (.int .u8 z) := by
  have h : (w.alloc (.cells #[.int .u8 z] 5)).heap[w.heap.size]? = some (.cells #[.int .u8 z] 5 (0, 0)) := heap_alloc_new w _
  simp only [World.cell?, h]
  rfl
theorem bsize (l : List UInt8) : (ByteArray.mk l.toArray).size = l.length := by simp [ByteArray.size]
theorem index22_a (g i o : Nat) (z : Int) (hz : z = (i : Int)) (hi : i < 16) (ho : o = 1 + i) (W : World) : (Instr.indexAt 35 (.pointer (some ⟨g, 1, none⟩)) (.int .i64 z)).run Tryz.prog W = .ok (.pointer (some ⟨g, o, none⟩)) W := by
  subst hz ho
  have ht : Tryz.prog.underlying 35 = some (.array (Tryz.prog.arrayLen 35) (Tryz.prog.elem 35)) := by kernel_rfl
  have hal : Tryz.prog.arrayLen 35 = 16 := by kernel_rfl
  have hel : Tryz.prog.elem 35 = 5 := by kernel_rfl
  have hsz : (sizeOf 5).run Tryz.prog W = .ok 1 W := by kernel_rfl
  rw [run_indexAt_array W 35 ⟨g, 1, none⟩ .i64 (i : Int) ht, hal, hel, if_pos ⟨by omega, by omega⟩, hsz]
  simp only [Result.andThen, add_plain, Int.toNat_natCast, Nat.mul_one]
theorem load5_a {w : World} {ad : Addr} {z : Int} (h : w.cell? ad = some (.int .u8 z)) : (Instr.loadAt 5 (.pointer (some ad))).run Tryz.prog w = .ok (.int .u8 z) w := by
  simp [go_sem, Instr.loadAt, Instr.sureAddr, h]
theorem quiet_load5 {o : Oper} {a : Act} {C : World → Prop} {K : Act → Prop} (x : Operand) (ho : o.op = .load 5 x) (ad : Addr) (hx : a.eval x = .pointer (some ad)) (z : Int) (hC : ∀ w, C w → w.cell? ad = some (.int .u8 z)) (hk : K (a.put o.dst (.int .u8 z))) : o.quiet Tryz.prog a C K := by
  refine ⟨.int .u8 z, fun w hw => ?_, hk⟩
  unfold Oper.quietAt execOp
  simp only [ho, hx, Sem.run_bind, load5_a (hC w hw), Result.andThen_ok]
  exact ⟨rfl, rfl⟩
theorem quiet_index22 {o : Oper} {a : Act} {C : World → Prop} {K : Act → Prop} (x ix : Operand) (ho : o.op = .indexAddr 35 x ix) (g i : Nat) (z : Int) (hx : a.eval x = .pointer (some ⟨g, 1, none⟩)) (hix : a.eval ix = .int .i64 z) (hz : z = (i : Int)) (hi : i < 16) (hk : K (a.put o.dst (.pointer (some ⟨g, 1 + i, none⟩)))) : o.quiet Tryz.prog a C K := by
  refine ⟨.pointer (some ⟨g, 1 + i, none⟩), fun w hw => ?_, hk⟩
  unfold Oper.quietAt execOp
  simp only [ho, hx, hix, Sem.run_bind, index22_a g i (1 + i) z hz hi rfl w, Result.andThen_ok]
  exact ⟨rfl, rfl⟩
def hexS : ByteArray := ⟨#[48, 49, 50, 51, 52, 53, 54, 55, 56, 57, 97, 98, 99, 100, 101, 102]⟩
theorem hexS_get : ∀ m : Fin 16, hexS[m.val]? = some (hexd m.val) := by decide
theorem index16 (m : Nat) (hm : m < 16) (w : World) : (Instr.index 9 (.string hexS) (.int .i64 (m : Int))).run Tryz.prog w = .ok (.int .u8 ((hexd m).toNat : Int)) w := by
  have h := hexS_get ⟨m, hm⟩
  simp only [Instr.index, asIntOf, Sem.run_bind, Sem.run_pure, Result.andThen, run_underlying Tryz.underlying9]
  rw [if_pos (by omega), Int.toNat_natCast, h]
  rfl
theorem hexS_at (m : Nat) (hm : m < 16) (h : m < hexS.size) : hexS[m]'h = hexd m := by
  have h1 := hexS_get ⟨m, hm⟩
  have h2 : hexS[m]? = some (hexS[m]'h) := by simp [getElem?_pos, h]
  rw [h2] at h1
  exact Option.some.inj h1
theorem text10_c (n m : Nat) (hn : n < 65536) (hm1 : 1 ≤ m) (hm4 : m ≤ 4) (he : n / 10 ^ m = 0) (hne : ∀ j, 1 ≤ j → j < m → n / 10 ^ j ≠ 0) (w : World) :
    Calls Tryz.prog 40 #[.int .i64 (n : Int), .int .i64 10] w fun e w' => e = .returned (.string ⟨(dgs 10 n m).toArray⟩) ∧ Below w.heap.size w w' := by
  obtain ⟨r, hr⟩ : ∃ r, r = dgs 10 n m := ⟨_, rfl⟩
  rw [← hr]
  have HR := Lib.hid hr
  have HE := Lib.hid he
  have HNE := Lib.hid hne
  clear hr he hne
  go_enter Tryz.func40, Tryz.ntmps40
  go_wp2_with fail
  go_loopw [0, 5] (fun nv sv wr => ∃ k : Nat, k < m ∧ nv = .int .i64 ((n / 10 ^ k : Nat) : Int) ∧ sv = .string ⟨(dgs 10 n k).toArray⟩ ∧ Below w.heap.size w wr) (fun _ sv _ => 5 - (match sv with | .string s => s.size | _ => 0))
  case atStart => exact ⟨0, by omega, by simp, rfl, Below.refl _ _⟩
  case round =>
    obtain ⟨k, hk, rfl, rfl, hW⟩ := hrel
    have HW := Lib.hid hW; clear hW
    have hlen : (dgs 10 n k).length = k := dgs_len 10 n k
    have hsz := bsize (dgs 10 n k)
    rw [hlen] at hsz
    have HSUCC : Hid (dgs 10 n (k + 1) = hexd (n / 10 ^ k % 10) :: dgs 10 n k) := Lib.hid rfl
    have HDIV : Hid (n / 10 ^ (k + 1) = n / 10 ^ k / 10) := Lib.hid (by rw [Nat.pow_succ, Nat.div_div_eq_div_mul])
    have hmb : n / 10 ^ k < 65536 := Nat.lt_of_le_of_lt (Nat.div_le_self _ _) hn
    have HLAST : Hid ((k + 1 = m → n / 10 ^ k / 10 = 0) ∧ (k + 1 ≠ m → n / 10 ^ k / 10 ≠ 0)) := Lib.hid ⟨fun h => by rw [← HDIV.out, h]; exact HE.out, fun h => by rw [← HDIV.out]; exact HNE.out (k + 1) (by omega) (by omega)⟩
    generalize dgs 10 n k = t at *
    generalize n / 10 ^ k = q at *
    have hd : q % 10 < 16 := by omega
    have hrem : Int.tmod (q : Int) 10 = ((q % 10 : Nat) : Int) := by simp [Int.tmod]
    have hquo : Int.tdiv (q : Int) 10 = ((q / 10 : Nat) : Int) := by simp [Int.tdiv]
    have hq : q / 10 ≤ q := Nat.div_le_self _ _
    generalize q % 10 = d at *
    generalize q / 10 = q2 at *
    have hix : ∀ W, (Instr.index 9 (.string ⟨#[48, 49, 50, 51, 52, 53, 54, 55, 56, 57, 97, 98, 99, 100, 101, 102]⟩) (.int .i64 (d : Int))).run Tryz.prog W = .ok (.int .u8 ((hexd d).toNat : Int)) W := index16 d hd
    have hcv := conv1 (c := 1) (d := hexd d) rfl (cell_new wr ((hexd d).toNat : Int))
    have HB : Hid (Below w.heap.size w (wr.alloc (.cells #[.int .u8 ((hexd d).toNat : Int)] 5))) := Lib.hid (HW.out.alloc HW.out.size _)
    have hcon : ByteArray.mk #[hexd d] ++ ByteArray.mk t.toArray = ByteArray.mk (dgs 10 n (k + 1)).toArray := by rw [HSUCC.out]; exact str_app [hexd d] t
    have hsz2 : (ByteArray.mk (dgs 10 n (k + 1)).toArray).size = k + 1 := by rw [bsize, dgs_len]
    have HCON := Lib.hid hcon
    have HS2 := Lib.hid hsz2
    clear hcon hsz2
    generalize hexd d = c at *
    by_cases hlast : k + 1 = m
    · have h0 := HLAST.out.1 hlast
      subst h0
      have HRR : Hid (ByteArray.mk #[c] ++ ByteArray.mk t.toArray = ByteArray.mk r.toArray) := Lib.hid (by rw [HCON.out, HR.out, hlast])
      clear HSUCC HDIV HLAST HE HNE HR HCON hlast
      go_wp2_with fail
      go_ret
      exact ⟨by rw [HRR.out]; rfl, HB.out⟩
    · have h0 := HLAST.out.2 hlast
      have h0' : ((q2 : Int) == 0) = false := beq_eq_false_iff_ne.2 (by omega)
      have h0d : decide ((q2 : Int) = 0) = false := decide_eq_false (by omega)
      have HREL : Hid ((∃ k : Nat, k < m ∧ Value.int .i64 (q2 : Int) = .int .i64 ((n / 10 ^ k : Nat) : Int) ∧ Value.string (ByteArray.mk #[c] ++ ByteArray.mk t.toArray) = .string ⟨(dgs 10 n k).toArray⟩ ∧ Below w.heap.size w (wr.alloc (.cells #[.int .u8 (c.toNat : Int)] 5))) ∧ (5 - (ByteArray.mk #[c] ++ ByteArray.mk t.toArray).size < 5 - (ByteArray.mk t.toArray).size)) := Lib.hid (by
        refine ⟨⟨k + 1, by omega, by rw [HDIV.out], by rw [HCON.out], HB.out⟩, ?_⟩
        rw [HCON.out, HS2.out, hsz]
        omega)
      clear HSUCC HDIV HLAST HE HNE HR HCON
      go_wp2_with fail
      exact HREL.out
theorem text16_c (n m : Nat) (hn : n < 65536) (hm1 : 1 ≤ m) (hm4 : m ≤ 4) (he : n / 16 ^ m = 0) (hne : ∀ j, 1 ≤ j → j < m → n / 16 ^ j ≠ 0) (w : World) :
    Calls Tryz.prog 40 #[.int .i64 (n : Int), .int .i64 16] w fun e w' => e = .returned (.string ⟨(dgs 16 n m).toArray⟩) ∧ Below w.heap.size w w' := by
  obtain ⟨r, hr⟩ : ∃ r, r = dgs 16 n m := ⟨_, rfl⟩
  rw [← hr]
  have HR := Lib.hid hr
  have HE := Lib.hid he
  have HNE := Lib.hid hne
  clear hr he hne
  go_enter Tryz.func40, Tryz.ntmps40
  go_wp2_with fail
  go_loopw [0, 5] (fun nv sv wr => ∃ k : Nat, k < m ∧ nv = .int .i64 ((n / 16 ^ k : Nat) : Int) ∧ sv = .string ⟨(dgs 16 n k).toArray⟩ ∧ Below w.heap.size w wr) (fun _ sv _ => 5 - (match sv with | .string s => s.size | _ => 0))
  case atStart => exact ⟨0, by omega, by simp, rfl, Below.refl _ _⟩
  case round =>
    obtain ⟨k, hk, rfl, rfl, hW⟩ := hrel
    have HW := Lib.hid hW; clear hW
    have hlen : (dgs 16 n k).length = k := dgs_len 16 n k
    have hsz := bsize (dgs 16 n k)
    rw [hlen] at hsz
    have HSUCC : Hid (dgs 16 n (k + 1) = hexd (n / 16 ^ k % 16) :: dgs 16 n k) := Lib.hid rfl
    have HDIV : Hid (n / 16 ^ (k + 1) = n / 16 ^ k / 16) := Lib.hid (by rw [Nat.pow_succ, Nat.div_div_eq_div_mul])
    have hmb : n / 16 ^ k < 65536 := Nat.lt_of_le_of_lt (Nat.div_le_self _ _) hn
    have HLAST : Hid ((k + 1 = m → n / 16 ^ k / 16 = 0) ∧ (k + 1 ≠ m → n / 16 ^ k / 16 ≠ 0)) := Lib.hid ⟨fun h => by rw [← HDIV.out, h]; exact HE.out, fun h => by rw [← HDIV.out]; exact HNE.out (k + 1) (by omega) (by omega)⟩
    generalize dgs 16 n k = t at *
    generalize n / 16 ^ k = q at *
    have hd : q % 16 < 16 := by omega
    have hrem : Int.tmod (q : Int) 16 = ((q % 16 : Nat) : Int) := by simp [Int.tmod]
    have hquo : Int.tdiv (q : Int) 16 = ((q / 16 : Nat) : Int) := by simp [Int.tdiv]
    have hq : q / 16 ≤ q := Nat.div_le_self _ _
    generalize q % 16 = d at *
    generalize q / 16 = q2 at *
    have hix : ∀ W, (Instr.index 9 (.string ⟨#[48, 49, 50, 51, 52, 53, 54, 55, 56, 57, 97, 98, 99, 100, 101, 102]⟩) (.int .i64 (d : Int))).run Tryz.prog W = .ok (.int .u8 ((hexd d).toNat : Int)) W := index16 d hd
    have hcv := conv1 (c := 1) (d := hexd d) rfl (cell_new wr ((hexd d).toNat : Int))
    have HB : Hid (Below w.heap.size w (wr.alloc (.cells #[.int .u8 ((hexd d).toNat : Int)] 5))) := Lib.hid (HW.out.alloc HW.out.size _)
    have hcon : ByteArray.mk #[hexd d] ++ ByteArray.mk t.toArray = ByteArray.mk (dgs 16 n (k + 1)).toArray := by rw [HSUCC.out]; exact str_app [hexd d] t
    have hsz2 : (ByteArray.mk (dgs 16 n (k + 1)).toArray).size = k + 1 := by rw [bsize, dgs_len]
    have HCON := Lib.hid hcon
    have HS2 := Lib.hid hsz2
    clear hcon hsz2
    generalize hexd d = c at *
    by_cases hlast : k + 1 = m
    · have h0 := HLAST.out.1 hlast
      subst h0
      have HRR : Hid (ByteArray.mk #[c] ++ ByteArray.mk t.toArray = ByteArray.mk r.toArray) := Lib.hid (by rw [HCON.out, HR.out, hlast])
      clear HSUCC HDIV HLAST HE HNE HR HCON hlast
      go_wp2_with fail
      go_ret
      exact ⟨by rw [HRR.out]; rfl, HB.out⟩
    · have h0 := HLAST.out.2 hlast
      have h0' : ((q2 : Int) == 0) = false := beq_eq_false_iff_ne.2 (by omega)
      have h0d : decide ((q2 : Int) = 0) = false := decide_eq_false (by omega)
      have HREL : Hid ((∃ k : Nat, k < m ∧ Value.int .i64 (q2 : Int) = .int .i64 ((n / 16 ^ k : Nat) : Int) ∧ Value.string (ByteArray.mk #[c] ++ ByteArray.mk t.toArray) = .string ⟨(dgs 16 n k).toArray⟩ ∧ Below w.heap.size w (wr.alloc (.cells #[.int .u8 (c.toNat : Int)] 5))) ∧ (5 - (ByteArray.mk #[c] ++ ByteArray.mk t.toArray).size < 5 - (ByteArray.mk t.toArray).size)) := Lib.hid (by
        refine ⟨⟨k + 1, by omega, by rw [HDIV.out], by rw [HCON.out], HB.out⟩, ?_⟩
        rw [HCON.out, HS2.out, hsz]
        omega)
      clear HSUCC HDIV HLAST HE HNE HR HCON
      go_wp2_with fail
      exact HREL.out
theorem hx_text (n : Nat) (hn : n < 65536) (w : World) : Calls Tryz.prog 40 #[.int .i64 (n : Int), .int .i64 16] w fun e w' => e = .returned (.string ⟨(hx n).toArray⟩) ∧ Below w.heap.size w w' := by
  obtain ⟨m, h0, h4, h1, h2⟩ : ∃ m, 1 ≤ m ∧ m ≤ 4 ∧ n / 16 ^ m = 0 ∧ ∀ j, 1 ≤ j → j < m → n / 16 ^ j ≠ 0 := by
    refine ⟨nd n + 1, by omega, by unfold nd; split; omega; split; omega; split <;> omega, ?_, ?_⟩
    · unfold nd
      split
      · simp; omega
      split
      · simp; omega
      split
      · simp; omega
      · simp; omega
    · intro j hj1 hj2
      unfold nd at hj2
      split at hj2
      · omega
      split at hj2
      · obtain rfl : j = 1 := by omega
        simp; omega
      split at hj2
      · rcases (show j = 1 ∨ j = 2 by omega) with rfl | rfl <;> simp <;> omega
      · rcases (show j = 1 ∨ j = 2 ∨ j = 3 by omega) with rfl | rfl | rfl <;> simp <;> omega
  have := text16_c n m hn h0 h4 h1 h2 w
  rw [dgs_low, nd_at hn h0 h1 h2] at this
  exact this
theorem it_text (n : Nat) (hn : n < 256) (w : World) : Calls Tryz.prog 40 #[.int .i64 (n : Int), .int .i64 10] w fun e w' => e = .returned (.string ⟨(Lib.itoa (n : Int)).toArray⟩) ∧ Below w.heap.size w w' := by
  obtain ⟨m, h0, h4, h1, h2⟩ : ∃ m, 1 ≤ m ∧ m ≤ 4 ∧ n / 10 ^ m = 0 ∧ ∀ j, 1 ≤ j → j < m → n / 10 ^ j ≠ 0 := by
    refine ⟨dec3_a n, by unfold dec3_a; split; omega; split <;> omega, by unfold dec3_a; split; omega; split <;> omega, ?_, ?_⟩
    · unfold dec3_a
      split
      · simp; omega
      split
      · simp; omega
      · simp; omega
    · intro j hj1 hj2
      unfold dec3_a at hj2
      split at hj2
      · omega
      split at hj2
      · obtain rfl : j = 1 := by omega
        simp; omega
      · rcases (show j = 1 ∨ j = 2 by omega) with rfl | rfl <;> simp <;> omega
  have := text10_c n m (by omega) h0 h4 h1 h2 w
  rw [dec3_at hn h0 h1 h2, dgs_itoa hn] at this
  exact this
#print axioms it_text
end Go.Proofs.YtoifolmcdkfniabGreatDoor

namespace Go.Proofs.YtoifolmcdkfniabGreatDoor
open Go.ChangeShapes Go.WideShapes Go.ChangeAt Go.RowKit
set_option linter.unusedVariables false
set_option maxHeartbeats 4000000
set_option maxRecDepth 100000

def hxx (n : Nat) : List UInt8 := hx n
theorem hxx_len (n : Nat) : (hxx n).length ≤ 4 := by
  unfold hxx hx; rw [low_length]; unfold nd; split; omega; split; omega; split <;> omega
theorem printG_snoc (l : List Nat) (g : Nat) : printG (l ++ [g]) = printG l ++ ((if l = [] then [] else [58]) ++ hx g) := by
  unfold printG
  rcases l with _ | ⟨a, r⟩
  · simp [Lib.join_one, Lib.join_nil]
  · rw [List.cons_append, List.map_cons, List.map_cons, Lib.join_cons, Lib.join_cons, if_neg (by simp), List.map_append]
    simp [Lib.joinTail, List.append_assoc]
/-- Bytes and groups of an address. -/
theorem grp_get {l : List Int} (hl : l.length = 16) (hb : ∀ x ∈ l, 0 ≤ x ∧ x ≤ 255) (k : Nat) (hk : k < 8) : ∃ x y : Nat, x < 256 ∧ y < 256 ∧ l[2 * k]? = some (x : Int) ∧ l[2 * k + 1]? = some (y : Int) ∧ (grpOf l)[k]? = some (x * 256 + y) := by
  obtain ⟨x, hx⟩ : ∃ x, l[2 * k]? = some x := ⟨_, List.getElem?_eq_getElem (by omega)⟩
  obtain ⟨y, hy⟩ : ∃ y, l[2 * k + 1]? = some y := ⟨_, List.getElem?_eq_getElem (by omega)⟩
  have h1 := hb x (List.mem_of_getElem? hx)
  have h2 := hb y (List.mem_of_getElem? hy)
  refine ⟨x.toNat, y.toNat, by omega, by omega, ?_, ?_, ?_⟩
  · rw [hx]; congr 1; omega
  · rw [hy]; congr 1; omega
  · exact grpOf_get l k x y hx hy
theorem rrun_c (v : Int) (l : List Int) (hl : l.length = 16) (hb : ∀ x ∈ l, 0 ≤ x ∧ x ≤ 255) (i : Nat) (hi : i ≤ 8) (w : World) :
    Calls Tryz.prog 41 #[.agg (csA v l), .int .i64 (i : Int)] w fun e w' => e = .returned (.int .i64 (runP (grpOf l) i : Int)) ∧ Below w.heap.size w w' := by
  obtain ⟨cs, hcs⟩ : ∃ c, c = csA v l := ⟨_, rfl⟩
  have hgl := grpOf_length hl
  have HGET := Lib.hid (grp_get hl hb)
  obtain ⟨gs, hgs⟩ : ∃ gs, gs = grpOf l := ⟨_, rfl⟩
  rw [← hgs] at HGET hgl ⊢
  have HGL := Lib.hid hgl
  obtain ⟨r, hr⟩ : ∃ r, r = runP gs i := ⟨_, rfl⟩
  rw [← hr]
  have HR := Lib.hid hr
  rw [← hcs]
  have HROW : Hid (rowAt (w.alloc (.cells cs 37)) w.heap.size = some (csA v l) ∧ Below w.heap.size w (w.alloc (.cells cs 37))) := Lib.hid (by
    refine ⟨by rw [← hcs]; exact rowAt_new w cs 37 (by rw [hcs]; exact csA_size hl), (Below.refl _ _).alloc (Nat.le_refl _) _⟩)
  clear hgl hgs hcs hb hr
  go_enter Tryz.func41, Tryz.ntmps41
  go_upto_region 1 with fail
  generalize w.alloc (.cells cs 37) = W at *
  obtain ⟨g, hg⟩ : ∃ g, g = w.heap.size := ⟨_, rfl⟩
  have HBW := Lib.hid HROW.out.2
  have HRO := Lib.hid HROW.out.1
  rw [← hg] at HRO ⊢
  clear HROW hg
  go_wp2_with fail
  go_loopw [5] (fun nv wr => ∃ k : Nat, nv = .int .i64 (k : Int) ∧ i + k ≤ 8 ∧ Hid (∀ j, j < k → gs[i + j]? = some 0) ∧ wr = W) (fun nv _ => 8 - (intOf nv).toNat)
  case atStart => exact ⟨0, rfl, by omega, Lib.hid (fun j hj => by omega), rfl⟩
  case round =>
    obtain ⟨k, rfl, hk8, HZ, hW⟩ := hrel
    subst hW
    by_cases hA : i + k < 8
    · obtain ⟨x, y, hx, hy, lx, ly, hgx⟩ := HGET.out (i + k) hA
      have c1 := rowAt_bytes HRO.out _ _ lx
      have c2 := rowAt_bytes HRO.out _ _ ly
      have a1 : (i : Int) + (k : Int) < 8 := by omega
      have b5 : (2 * ((i : Int) + (k : Int))).toNat = 2 * (i + k) := by omega
      have b6 : (2 * ((i : Int) + (k : Int)) + 1).toNat = 2 * (i + k) + 1 := by omega
      have HG := Lib.hid hgx
      clear hgx lx ly
      by_cases hx0 : x = 0
      · have hx0' : (x : Int) = 0 := by omega
        by_cases hy0 : y = 0
        · have hy0' : (y : Int) = 0 := by omega
          have HZ' : Hid (∀ j, j < k + 1 → gs[i + j]? = some 0) := Lib.hid (fun j h2 => by
            rcases Nat.lt_or_ge j k with h | h
            · exact HZ.out j h
            · obtain rfl : j = k := by omega
              rw [HG.out, hx0, hy0])
          go_wp2_with fail
          go_roundw
          case rel => exact ⟨k + 1, by go_num, by omega, HZ', by trivial⟩
          case measure => simp [intOf]; omega
        · have hy0' : ¬ (y : Int) = 0 := by omega
          have HE : Hid (r = k) := Lib.hid (by rw [HR.out]; exact run_at HZ.out (fun z hz => by rw [HG.out] at hz; simp at hz; omega))
          obtain rfl := HE.out
          clear HE HR
          go_wp2_with fail
          go_ret
          exact ⟨rfl, HBW.out⟩
      · have hx0' : ¬ (x : Int) = 0 := by omega
        have HE : Hid (r = k) := Lib.hid (by rw [HR.out]; exact run_at HZ.out (fun z hz => by rw [HG.out] at hz; simp at hz; omega))
        obtain rfl := HE.out
        clear HE HR
        go_wp2_with fail
        go_ret
        exact ⟨rfl, HBW.out⟩
    · have a1 : ¬ (i : Int) + (k : Int) < 8 := by omega
      have HE : Hid (r = k) := Lib.hid (by rw [HR.out]; exact run_at HZ.out (fun z hz => by rw [List.getElem?_eq_none (by have := HGL.out; omega)] at hz; simp at hz))
      obtain rfl := HE.out
      clear HE HR
      go_wp2_with fail
      go_ret
      exact ⟨rfl, HBW.out⟩
theorem rsome_c (v : Int) (l : List Int) (hl : l.length = 16) (hb : ∀ x ∈ l, 0 ≤ x ∧ x ≤ 255) (f t : Nat) (hft : f ≤ t) (ht : t ≤ 8) (w : World) :
    Calls Tryz.prog 42 #[.agg (csA v l), .int .i64 (f : Int), .int .i64 (t : Int)] w fun e w' => e = .returned (.string ⟨(printG (((grpOf l).drop f).take (t - f))).toArray⟩) ∧ Below w.heap.size w w' := by
  obtain ⟨cs, hcs⟩ : ∃ c, c = csA v l := ⟨_, rfl⟩
  have hgl := grpOf_length hl
  have HGET := Lib.hid (grp_get hl hb)
  obtain ⟨gs, hgs⟩ : ∃ gs, gs = grpOf l := ⟨_, rfl⟩
  rw [← hgs] at HGET hgl ⊢
  have HGL := Lib.hid hgl
  rw [← hcs]
  have HROW : Hid (rowAt (w.alloc (.cells cs 37)) w.heap.size = some (csA v l) ∧ Below w.heap.size w (w.alloc (.cells cs 37)) ∧ w.heap.size < (w.alloc (.cells cs 37)).heap.size) := Lib.hid (by
    refine ⟨by rw [← hcs]; exact rowAt_new w cs 37 (by rw [hcs]; exact csA_size hl), (Below.refl _ _).alloc (Nat.le_refl _) _, by simp⟩)
  obtain ⟨r, hr⟩ : ∃ r, r = printG ((gs.drop f).take (t - f)) := ⟨_, rfl⟩
  rw [← hr]
  have HR := Lib.hid hr
  clear hgl hgs hcs hb hr
  go_enter Tryz.func42, Tryz.ntmps42
  go_upto_region 1 with fail
  generalize w.alloc (.cells cs 37) = W at *
  go_wp2_with fail
  go_loopw [7, 8] (fun sv iv wr => ∃ (i : Nat) (u : List UInt8), f ≤ i ∧ i ≤ t ∧ iv = .int .i64 (i : Int) ∧ sv = .string ⟨u.toArray⟩ ∧ u.length ≤ 6 * i ∧ Hid (u = printG ((gs.drop f).take (i - f))) ∧ rowAt wr w.heap.size = some (csA v l) ∧ Below w.heap.size w wr ∧ w.heap.size < wr.heap.size) (fun _ iv _ => 8 - (intOf iv).toNat)
  case atStart => exact ⟨f, [], by omega, hft, rfl, rfl, by simp, Lib.hid (by rw [Nat.sub_self]; rfl), HROW.out⟩
  case round =>
    obtain ⟨i, u, hfi, hit, rfl, rfl, hul, HU, hR⟩ := hrel
    have HRW := Lib.hid hR
    clear hR HROW
    have hsz := bsize u
    by_cases h8 : i < t
    · obtain ⟨x, y, hx, hy, lx, ly, hgx⟩ := HGET.out i (by omega)
      have a0 : (i : Int) < (t : Int) := by omega
      have b5 : (2 * (i : Int)).toNat = 2 * i := by omega
      have b6 : (2 * (i : Int) + 1).toNat = 2 * i + 1 := by omega
      have LX := Lib.hid lx
      have LY := Lib.hid ly
      have hgn : x * 256 + y < 65536 := by omega
      obtain ⟨X, hX⟩ : ∃ X, X = hxx (x * 256 + y) := ⟨_, rfl⟩
      have hXl : X.length ≤ 4 := by rw [hX]; exact hxx_len _
      have HNEXT : Hid (printG ((gs.drop f).take (i + 1 - f)) = u ++ ((if i = f then [] else [58]) ++ X)) := Lib.hid (by
        have e : (gs.drop f)[i - f]? = some (x * 256 + y) := by rw [List.getElem?_drop, show f + (i - f) = i from by omega]; exact hgx
        rw [show i + 1 - f = i - f + 1 from by omega, List.take_add_one, e, Option.toList_some, printG_snoc, ← HU.out, hX]
        have hlen : ((gs.drop f).take (i - f)).length = i - f := by rw [List.length_take, List.length_drop, HGL.out]; omega
        by_cases h : i = f
        · rw [if_pos h, if_pos (List.eq_nil_of_length_eq_zero (by rw [hlen]; omega))]; rfl
        · rw [if_neg h, if_neg (fun hc => by rw [hc] at hlen; simp at hlen; omega)]; rfl)
      have HX : Hid (∀ W, (rowAt W w.heap.size = some (csA v l) ∧ Below w.heap.size w W ∧ w.heap.size < W.heap.size) → Calls Tryz.prog 40 #[.int .i64 ((x : Int) * 256 + (y : Int)), .int .i64 16] W fun e w' => e = .returned (.string ⟨X.toArray⟩) ∧ rowAt w' w.heap.size = some (csA v l) ∧ Below w.heap.size w w' ∧ w.heap.size < w'.heap.size) := Lib.hid (fun W h0 => by
        have := hx_text (x * 256 + y) hgn W
        rw [hX, show (x : Int) * 256 + (y : Int) = ((x * 256 + y : Nat) : Int) from by omega]
        refine this.mono ?_
        rintro e w2 ⟨he, h2⟩
        have hs := h2.size
        exact ⟨he, rowAt_below h0.1 h2 h0.2.2, h0.2.1.trans (h2.mono (by omega)), by omega⟩)
      have HD : Hid (rowAt wr.drew w.heap.size = some (csA v l) ∧ Below w.heap.size w wr.drew ∧ w.heap.size < wr.drew.heap.size) := Lib.hid ⟨HRW.out.1, HRW.out.2.1.drew, HRW.out.2.2⟩
      have k1 : IntKind.i64.wrap (2 * (i : Int)) = 2 * (i : Int) := by simp [IntKind.wrap, IntKind.bits, IntKind.signed]; omega
      have k2 : IntKind.i64.wrap (2 * (i : Int) + 1) = 2 * (i : Int) + 1 := by simp [IntKind.wrap, IntKind.bits, IntKind.signed]; omega
      have kx : IntKind.i64.wrap (x : Int) = (x : Int) := by simp [IntKind.wrap, IntKind.bits, IntKind.signed]; omega
      have ky : IntKind.i64.wrap (y : Int) = (y : Int) := by simp [IntKind.wrap, IntKind.bits, IntKind.signed]; omega
      have k3 : IntKind.i64.wrap ((x : Int) * 256) = (x : Int) * 256 := by simp [IntKind.wrap, IntKind.bits, IntKind.signed]; omega
      have k4 : IntKind.i64.wrap ((x : Int) * 256 + (y : Int)) = (x : Int) * 256 + (y : Int) := by simp [IntKind.wrap, IntKind.bits, IntKind.signed]; omega
      clear hX lx ly hgx HRW
      by_cases hif : i = f
      · have HN2 : Hid (u ++ X = printG ((gs.drop f).take (i + 1 - f)) ∧ (u ++ X).length ≤ 6 * (i + 1)) := Lib.hid ⟨by rw [HNEXT.out, if_pos hif]; rfl, by simp; omega⟩
        have cT : ∀ W, (Op.stringOp .add ⟨u.toArray⟩ ⟨X.toArray⟩).run Tryz.prog W = .ok (.string ⟨(u ++ X).toArray⟩) W := fun W => concat_c _ _ (by omega) W
        have p1 : decide ((f : Int) < (i : Int)) = false := decide_eq_false (by omega)
        have p2 : decide (f < i) = false := decide_eq_false (by omega)
        have HIF := Lib.hid hif
        clear HNEXT HU hif
        go_wp2_with fail
        refine wp_region_cls (C := fun w' => rowAt w' w.heap.size = some (csA v l) ∧ Below w.heap.size w w' ∧ w.heap.size < w'.heap.size) (by kernel_rfl) (by kernel_rfl) HD.out ?_
        repeat (first
            | go_big_quiet_skip
            | (go_big_quiet_want
               first
                 | (refine quiet_index22 _ _ rfl w.heap.size (2 * i) _ rfl rfl (by omega) (by omega) ?_; go_simp; go_big_quiet_on)
                 | (refine quiet_index22 _ _ rfl w.heap.size (2 * i + 1) _ rfl rfl (by omega) (by omega) ?_; go_simp; go_big_quiet_on)
                 | (refine quiet_load5 _ rfl ⟨w.heap.size, 1 + 2 * i, none⟩ rfl (x : Int) (fun w' h => rowAt_bytes h.1 _ _ LX.out) ?_; go_simp; go_big_quiet_on)
                 | (refine quiet_load5 _ rfl ⟨w.heap.size, 1 + (2 * i + 1), none⟩ rfl (y : Int) (fun w' h => rowAt_bytes h.1 _ _ LY.out) ?_; go_simp; go_big_quiet_on)
                 | (go_big_quiet_op; go_big_quiet_on)
                 | (refine quiet_call 40 #[.int .i64 ((x : Int) * 256 + (y : Int)), .int .i64 16] (.string ⟨X.toArray⟩) ?_ HX.out ?_
                    · intro w; go_simp; first | done | rw [kx, k3, ky, k4]
                    go_simp; go_big_quiet_on)
                 | (refine quiet_val ?_ ?_ ?_
                    rotate_left
                    · intro w; go_simp; rfl
                    go_simp; go_big_quiet_on)))
        refine wpQuiet_nil ?_
        intro V hV
        go_wp2_with fail
        go_roundw
        case rel => exact ⟨i + 1, u ++ X, by omega, by omega, by go_num, rfl, HN2.out.2, Lib.hid HN2.out.1, hV⟩
        case measure => simp [intOf]; omega
      · obtain ⟨T, hT⟩ : ∃ T, T = u ++ [58] := ⟨_, rfl⟩
        have HN2 : Hid (T ++ X = printG ((gs.drop f).take (i + 1 - f)) ∧ (T ++ X).length ≤ 6 * (i + 1)) := Lib.hid ⟨by rw [HNEXT.out, if_neg hif, hT]; simp, by rw [hT]; simp; omega⟩
        have cc : ∀ W, (Op.stringOp .add ⟨u.toArray⟩ ⟨#[58]⟩).run Tryz.prog W = .ok (.string ⟨T.toArray⟩) W := fun W => by rw [hT]; exact concat_c _ _ (by simp; omega) W
        have cT : ∀ W, (Op.stringOp .add ⟨T.toArray⟩ ⟨X.toArray⟩).run Tryz.prog W = .ok (.string ⟨(T ++ X).toArray⟩) W := fun W => concat_c _ _ (by rw [hT]; simp; omega) W
        have p1 : decide ((f : Int) < (i : Int)) = true := decide_eq_true (by omega)
        have p2 : decide (f < i) = true := decide_eq_true (by omega)
        clear HNEXT HU hT hif
        go_wp2_with fail
        refine wp_region_cls (C := fun w' => rowAt w' w.heap.size = some (csA v l) ∧ Below w.heap.size w w' ∧ w.heap.size < w'.heap.size) (by kernel_rfl) (by kernel_rfl) HD.out ?_
        repeat (first
            | go_big_quiet_skip
            | (go_big_quiet_want
               first
                 | (refine quiet_index22 _ _ rfl w.heap.size (2 * i) _ rfl rfl (by omega) (by omega) ?_; go_simp; go_big_quiet_on)
                 | (refine quiet_index22 _ _ rfl w.heap.size (2 * i + 1) _ rfl rfl (by omega) (by omega) ?_; go_simp; go_big_quiet_on)
                 | (refine quiet_load5 _ rfl ⟨w.heap.size, 1 + 2 * i, none⟩ rfl (x : Int) (fun w' h => rowAt_bytes h.1 _ _ LX.out) ?_; go_simp; go_big_quiet_on)
                 | (refine quiet_load5 _ rfl ⟨w.heap.size, 1 + (2 * i + 1), none⟩ rfl (y : Int) (fun w' h => rowAt_bytes h.1 _ _ LY.out) ?_; go_simp; go_big_quiet_on)
                 | (go_big_quiet_op; go_big_quiet_on)
                 | (refine quiet_call 40 #[.int .i64 ((x : Int) * 256 + (y : Int)), .int .i64 16] (.string ⟨X.toArray⟩) ?_ HX.out ?_
                    · intro w; go_simp; first | done | rw [kx, k3, ky, k4]
                    go_simp; go_big_quiet_on)
                 | (refine quiet_val ?_ ?_ ?_
                    rotate_left
                    · intro w; go_simp; rfl
                    go_simp; go_big_quiet_on)))
        refine wpQuiet_nil ?_
        intro V hV
        go_wp2_with fail
        go_roundw
        case rel => exact ⟨i + 1, T ++ X, by omega, by omega, by go_num, rfl, HN2.out.2, Lib.hid HN2.out.1, hV⟩
        case measure => simp [intOf]; omega
    · have a0 : ¬ (i : Int) < (t : Int) := by omega
      have a1 : decide ((i : Int) < (t : Int)) = false := decide_eq_false a0
      have a2 : decide (i < t) = false := decide_eq_false (by omega)
      have HE : Hid (r = u) := Lib.hid (by rw [HR.out, HU.out, show i = t from by omega])
      obtain rfl := HE.out
      clear HE HR HU
      go_wp2_with fail
      go_ret
      exact ⟨rfl, HRW.out.2.1⟩
#print axioms rsome_c
end Go.Proofs.YtoifolmcdkfniabGreatDoor

namespace Go.Proofs.YtoifolmcdkfniabGreatDoor
open Go.ChangeShapes Go.WideShapes Go.ChangeAt Go.RowKit
set_option linter.unusedVariables false
set_option maxHeartbeats 8000000
set_option maxRecDepth 100000

/-- Where the document's loops end is where the longest run lies. -/
theorem print_at {gs : List Nat} (hg : gs.length = 8) {i L : Nat} (hL : 2 ≤ L) (hi : i + L ≤ 8) (hr : L ≤ runP gs i) (h1 : ∀ k j, L < k → j + k ≤ 8 → runP gs j < k) (h2 : ∀ j, j < i → runP gs j < L) :
    printS gs (zst gs 8).1 (zst gs 8).2.1 = printG (gs.take i) ++ ([58, 58] ++ printG (gs.drop (i + L))) := by
  obtain ⟨f, hf⟩ : ∃ f, f = (zst gs 8).1 := ⟨_, rfl⟩
  obtain ⟨t, ht⟩ : ∃ t, t = (zst gs 8).2.1 := ⟨_, rfl⟩
  rw [← hf, ← ht]
  have hD : 2 ≤ t - f := by
    rcases Nat.lt_or_ge (t - f) 2 with h | h
    · have := run_none hg (by rw [← hf, ← ht]; exact h) hL hi; omega
    · exact h
  obtain ⟨a1, a2, a3, a4⟩ := run_first hg hf ht hD
  have e1 : t - f = L := by
    rcases Nat.lt_trichotomy (t - f) L with h | h | h
    · have := a3 L i h hi; omega
    · exact h
    · have := h1 (t - f) f h (by omega); omega
  have e2 : f = i := by
    rcases Nat.lt_trichotomy f i with h | h | h
    · have := h2 f h; omega
    · exact h
    · have := a4 i h; omega
  unfold printS
  rw [if_neg (by omega), e2, show t = i + L from by omega]
theorem print_none {gs : List Nat} (hg : gs.length = 8) (h1 : ∀ k j, 1 < k → j + k ≤ 8 → runP gs j < k) : printS gs (zst gs 8).1 (zst gs 8).2.1 = printG gs := by
  obtain ⟨f, hf⟩ : ∃ f, f = (zst gs 8).1 := ⟨_, rfl⟩
  obtain ⟨t, ht⟩ : ∃ t, t = (zst gs 8).2.1 := ⟨_, rfl⟩
  rw [← hf, ← ht]
  unfold printS
  rcases Nat.lt_or_ge (t - f) 2 with h | h
  · rw [if_pos h]
  · obtain ⟨a1, a2, a3, a4⟩ := run_first hg hf ht h
    have := h1 (t - f) f (by omega) (by omega)
    omega
theorem itoa_len_a {n : Nat} (h : n < 256) : (Lib.itoa (n : Int)).length ≤ 3 := by
  rw [← dgs_itoa h, dgs_len]; unfold dec3_a; split; omega; split <;> omega
def PC (w : World) (c : Array Value) (w' : World) : Prop := rowAt w' w.heap.size = some c ∧ Below w.heap.size w w' ∧ w.heap.size < w'.heap.size
theorem PC.on {w : World} {c : Array Value} {w1 w2 : World} (h : PC w c w1) (hb : Below w1.heap.size w1 w2) : PC w c w2 := by
  have hs := hb.size
  obtain ⟨h1, h2, h3⟩ := h
  exact ⟨rowAt_below h1 hb h3, h2.trans (hb.mono (by omega)), by omega⟩
theorem PC.drew {w : World} {c : Array Value} {w1 : World} (h : PC w c w1) : PC w c w1.drew := ⟨h.1, h.2.1.drew, h.2.2⟩
theorem rprint_c (v : Int) (l : List Int) (hl : l.length = 16) (hb : ∀ x ∈ l, 0 ≤ x ∧ x ≤ 255) (w : World) :
    Calls Tryz.prog 15 #[.agg (csA v l)] w fun e w' => e = .returned (.string ⟨(printP v l).toArray⟩) ∧ Below w.heap.size w w' := by
  obtain ⟨cs, hcs⟩ : ∃ c, c = csA v l := ⟨_, rfl⟩
  have hsz : cs.size = 17 := by rw [hcs]; exact csA_size hl
  have HPC : Hid (PC w cs (w.alloc (.cells cs 37))) := Lib.hid ⟨rowAt_new w cs 37 hsz, (Below.refl _ _).alloc (Nat.le_refl _) _, by simp⟩
  obtain ⟨z, hz⟩ : ∃ z, z = validP v l := ⟨_, rfl⟩
  obtain ⟨R, hR⟩ : ∃ R, R = printP v l := ⟨_, rfl⟩
  rw [← hR, ← hcs]
  have HV : Hid (∀ W, Calls Tryz.prog 39 #[.agg cs] W fun e w' => e = .returned (.bool z) ∧ Below W.heap.size W w') := Lib.hid (fun W => by rw [hcs, hz]; exact rvalid_c v l hl W)
  have HCS := Lib.hid hcs
  have HZ := Lib.hid hz
  have HR := Lib.hid hR
  clear hcs hz hR
  cases z
  · have HRE : Hid (R = []) := Lib.hid (by rw [HR.out]; unfold printP; rw [if_pos HZ.out.symm])
    obtain rfl := HRE.out
    clear HRE HR
    go_enter Tryz.func15, Tryz.ntmps15
    go_upto_region 1 with fail
    generalize w.alloc (.cells cs 37) = W at *
    have z1 := HPC.out.1
    go_wp2_with (first
      | (refine wpList_load24 rfl _ rfl _ rfl _ (by assumption) ?_)
      | (go_at_call 39; refine (HV.out _).mono ?_; rintro e t1 ⟨rfl, hb1⟩; replace HPC := Lib.hid (HPC.out.on hb1); clear hb1 z1))
    go_ret
    exact ⟨rfl, HPC.out.2.1⟩
  · by_cases h4 : v = 4
    · obtain ⟨x0, hx0⟩ : ∃ x : Nat, l[0]? = some (x : Int) ∧ x < 256 := by
        obtain ⟨x, y, h1, h2, h3, h4, _⟩ := grp_get hl hb 0 (by omega); exact ⟨x, by simpa using h3, h1⟩
      obtain ⟨x1, hx1⟩ : ∃ x : Nat, l[1]? = some (x : Int) ∧ x < 256 := by
        obtain ⟨x, y, h1, h2, h3, h4, _⟩ := grp_get hl hb 0 (by omega); exact ⟨y, by simpa using h4, h2⟩
      obtain ⟨x2, hx2⟩ : ∃ x : Nat, l[2]? = some (x : Int) ∧ x < 256 := by
        obtain ⟨x, y, h1, h2, h3, h4, _⟩ := grp_get hl hb 1 (by omega); exact ⟨x, by simpa using h3, h1⟩
      obtain ⟨x3, hx3⟩ : ∃ x : Nat, l[3]? = some (x : Int) ∧ x < 256 := by
        obtain ⟨x, y, h1, h2, h3, h4, _⟩ := grp_get hl hb 1 (by omega); exact ⟨y, by simpa using h4, h2⟩
      obtain ⟨hx0, hy0⟩ := hx0
      obtain ⟨hx1, hy1⟩ := hx1
      obtain ⟨hx2, hy2⟩ := hx2
      obtain ⟨hx3, hy3⟩ := hx3
      obtain ⟨X0, hX0⟩ : ∃ X, X = Lib.itoa (x0 : Int) := ⟨_, rfl⟩
      have hl0 : X0.length ≤ 3 := by rw [hX0]; exact itoa_len_a hy0
      have HT0 : Hid (∀ V, PC w cs V → Calls Tryz.prog 40 #[.int .i64 (x0 : Int), .int .i64 10] V fun e w' => e = .returned (.string ⟨X0.toArray⟩) ∧ PC w cs w') := Lib.hid (fun V hV => by rw [hX0]; exact (it_text x0 hy0 V).mono (fun _ _ h => ⟨h.1, hV.on h.2⟩))
      have HB0 : Hid (∀ V, PC w cs V → V.cell? ⟨w.heap.size, 1, none⟩ = some (.int .u8 (x0 : Int))) := Lib.hid (fun V hV => by have h := hV.1; rw [HCS.out] at h; exact rowAt_bytes h 0 _ hx0)
      have w0 : IntKind.i64.wrap (x0 : Int) = (x0 : Int) := by rw [IntKind.wrap_i64]; omega
      obtain ⟨X1, hX1⟩ : ∃ X, X = Lib.itoa (x1 : Int) := ⟨_, rfl⟩
      have hl1 : X1.length ≤ 3 := by rw [hX1]; exact itoa_len_a hy1
      have HT1 : Hid (∀ V, PC w cs V → Calls Tryz.prog 40 #[.int .i64 (x1 : Int), .int .i64 10] V fun e w' => e = .returned (.string ⟨X1.toArray⟩) ∧ PC w cs w') := Lib.hid (fun V hV => by rw [hX1]; exact (it_text x1 hy1 V).mono (fun _ _ h => ⟨h.1, hV.on h.2⟩))
      have HB1 : Hid (∀ V, PC w cs V → V.cell? ⟨w.heap.size, 2, none⟩ = some (.int .u8 (x1 : Int))) := Lib.hid (fun V hV => by have h := hV.1; rw [HCS.out] at h; exact rowAt_bytes h 1 _ hx1)
      have w1 : IntKind.i64.wrap (x1 : Int) = (x1 : Int) := by rw [IntKind.wrap_i64]; omega
      obtain ⟨X2, hX2⟩ : ∃ X, X = Lib.itoa (x2 : Int) := ⟨_, rfl⟩
      have hl2 : X2.length ≤ 3 := by rw [hX2]; exact itoa_len_a hy2
      have HT2 : Hid (∀ V, PC w cs V → Calls Tryz.prog 40 #[.int .i64 (x2 : Int), .int .i64 10] V fun e w' => e = .returned (.string ⟨X2.toArray⟩) ∧ PC w cs w') := Lib.hid (fun V hV => by rw [hX2]; exact (it_text x2 hy2 V).mono (fun _ _ h => ⟨h.1, hV.on h.2⟩))
      have HB2 : Hid (∀ V, PC w cs V → V.cell? ⟨w.heap.size, 3, none⟩ = some (.int .u8 (x2 : Int))) := Lib.hid (fun V hV => by have h := hV.1; rw [HCS.out] at h; exact rowAt_bytes h 2 _ hx2)
      have w2 : IntKind.i64.wrap (x2 : Int) = (x2 : Int) := by rw [IntKind.wrap_i64]; omega
      obtain ⟨X3, hX3⟩ : ∃ X, X = Lib.itoa (x3 : Int) := ⟨_, rfl⟩
      have hl3 : X3.length ≤ 3 := by rw [hX3]; exact itoa_len_a hy3
      have HT3 : Hid (∀ V, PC w cs V → Calls Tryz.prog 40 #[.int .i64 (x3 : Int), .int .i64 10] V fun e w' => e = .returned (.string ⟨X3.toArray⟩) ∧ PC w cs w') := Lib.hid (fun V hV => by rw [hX3]; exact (it_text x3 hy3 V).mono (fun _ _ h => ⟨h.1, hV.on h.2⟩))
      have HB3 : Hid (∀ V, PC w cs V → V.cell? ⟨w.heap.size, 4, none⟩ = some (.int .u8 (x3 : Int))) := Lib.hid (fun V hV => by have h := hV.1; rw [HCS.out] at h; exact rowAt_bytes h 3 _ hx3)
      have w3 : IntKind.i64.wrap (x3 : Int) = (x3 : Int) := by rw [IntKind.wrap_i64]; omega
      obtain ⟨D1, hD1⟩ : ∃ D, D = X0 ++ [46] := ⟨_, rfl⟩
      have hd1 : D1.length ≤ 4 := by rw [hD1]; simp; omega
      have cD1 : ∀ W, (Op.stringOp .add ⟨X0.toArray⟩ ⟨#[46]⟩).run Tryz.prog W = .ok (.string ⟨D1.toArray⟩) W := fun W => by rw [hD1]; exact concat_c _ _ (by simp; omega) W
      obtain ⟨E1, hE1⟩ : ∃ E, E = D1 ++ X1 := ⟨_, rfl⟩
      have he1 : E1.length ≤ 7 := by rw [hE1]; simp; omega
      have cE1 : ∀ W, (Op.stringOp .add ⟨D1.toArray⟩ ⟨X1.toArray⟩).run Tryz.prog W = .ok (.string ⟨E1.toArray⟩) W := fun W => by rw [hE1]; exact concat_c _ _ (by omega) W
      obtain ⟨D2, hD2⟩ : ∃ D, D = E1 ++ [46] := ⟨_, rfl⟩
      have hd2 : D2.length ≤ 8 := by rw [hD2]; simp; omega
      have cD2 : ∀ W, (Op.stringOp .add ⟨E1.toArray⟩ ⟨#[46]⟩).run Tryz.prog W = .ok (.string ⟨D2.toArray⟩) W := fun W => by rw [hD2]; exact concat_c _ _ (by simp; omega) W
      obtain ⟨E2, hE2⟩ : ∃ E, E = D2 ++ X2 := ⟨_, rfl⟩
      have he2 : E2.length ≤ 11 := by rw [hE2]; simp; omega
      have cE2 : ∀ W, (Op.stringOp .add ⟨D2.toArray⟩ ⟨X2.toArray⟩).run Tryz.prog W = .ok (.string ⟨E2.toArray⟩) W := fun W => by rw [hE2]; exact concat_c _ _ (by omega) W
      obtain ⟨D3, hD3⟩ : ∃ D, D = E2 ++ [46] := ⟨_, rfl⟩
      have hd3 : D3.length ≤ 12 := by rw [hD3]; simp; omega
      have cD3 : ∀ W, (Op.stringOp .add ⟨E2.toArray⟩ ⟨#[46]⟩).run Tryz.prog W = .ok (.string ⟨D3.toArray⟩) W := fun W => by rw [hD3]; exact concat_c _ _ (by simp; omega) W
      obtain ⟨E3, hE3⟩ : ∃ E, E = D3 ++ X3 := ⟨_, rfl⟩
      have he3 : E3.length ≤ 15 := by rw [hE3]; simp; omega
      have cE3 : ∀ W, (Op.stringOp .add ⟨D3.toArray⟩ ⟨X3.toArray⟩).run Tryz.prog W = .ok (.string ⟨E3.toArray⟩) W := fun W => by rw [hE3]; exact concat_c _ _ (by omega) W
      have HRE : Hid (R = E3) := Lib.hid (by
        have e4 : l.take 4 = [(x0 : Int), (x1 : Int), (x2 : Int), (x3 : Int)] := by
          apply List.ext_getElem?
          intro j
          rcases (show j = 0 ∨ j = 1 ∨ j = 2 ∨ j = 3 ∨ 4 ≤ j by omega) with rfl | rfl | rfl | rfl | h
          · rw [List.getElem?_take_of_lt (by omega), hx0]; rfl
          · rw [List.getElem?_take_of_lt (by omega), hx1]; rfl
          · rw [List.getElem?_take_of_lt (by omega), hx2]; rfl
          · rw [List.getElem?_take_of_lt (by omega), hx3]; rfl
          · rw [List.getElem?_eq_none (by simp; omega), List.getElem?_eq_none (by simp; omega)]
        rw [HR.out]
        unfold printP
        rw [if_neg (by rw [← HZ.out]; simp), if_pos h4, e4]
        unfold printD
        simp only [List.map_cons, List.map_nil]
        rw [Lib.join_cons, ← hX0, ← hX1, ← hX2, ← hX3, hE3, hD3, hE2, hD2, hE1, hD1]
        simp [Lib.joinTail])
      have f4 : (v == 4) = true := by rw [h4]; rfl
      have f4d : decide (v = 4) = true := decide_eq_true h4
      have H4 := Lib.hid h4
      clear hX0 hX1 hX2 hX3 hD1 hD2 hD3 hE1 hE2 hE3 hx0 hx1 hx2 hx3 h4 hb HR
      obtain rfl := HRE.out
      clear HRE
      go_enter Tryz.func15, Tryz.ntmps15
      go_upto_region 1 with fail
      generalize w.alloc (.cells cs 37) = W at *
      have z1 := HPC.out.1
      go_wp2_with (first
        | (refine wpList_load24 rfl _ rfl _ rfl _ (by assumption) ?_)
        | (go_at_call 39; refine (HV.out _).mono ?_; rintro e t1 ⟨rfl, hb1⟩; replace HPC := Lib.hid (HPC.out.on hb1); clear hb1 z1; have c0 := rowAt_cell HPC.out.1 0 (.int .i64 v) (by rw [HCS.out]; exact csA_zero v l); refine Hid.out ?_))
      refine Lib.hid ?_
      go_wp2_with fail
      refine wp_region_cls (C := fun w' => PC w cs w') (by kernel_rfl) (by kernel_rfl) HPC.out.drew ?_
      repeat (first
                | go_big_quiet_skip
                | (go_big_quiet_want
                   first
                     | (refine quiet_index22 _ _ rfl w.heap.size 0 _ rfl rfl (by omega) (by omega) ?_; go_simp; go_big_quiet_on)
                     | (refine quiet_index22 _ _ rfl w.heap.size 1 _ rfl rfl (by omega) (by omega) ?_; go_simp; go_big_quiet_on)
                     | (refine quiet_index22 _ _ rfl w.heap.size 2 _ rfl rfl (by omega) (by omega) ?_; go_simp; go_big_quiet_on)
                     | (refine quiet_index22 _ _ rfl w.heap.size 3 _ rfl rfl (by omega) (by omega) ?_; go_simp; go_big_quiet_on)
                     | (refine quiet_load5 _ rfl ⟨w.heap.size, 1, none⟩ rfl (x0 : Int) HB0.out ?_; go_simp; go_big_quiet_on)
                     | (refine quiet_load5 _ rfl ⟨w.heap.size, 2, none⟩ rfl (x1 : Int) HB1.out ?_; go_simp; go_big_quiet_on)
                     | (refine quiet_load5 _ rfl ⟨w.heap.size, 3, none⟩ rfl (x2 : Int) HB2.out ?_; go_simp; go_big_quiet_on)
                     | (refine quiet_load5 _ rfl ⟨w.heap.size, 4, none⟩ rfl (x3 : Int) HB3.out ?_; go_simp; go_big_quiet_on)
                     | (go_big_quiet_op; go_big_quiet_on)
                     | (refine quiet_call 40 #[.int .i64 (x0 : Int), .int .i64 10] (.string ⟨X0.toArray⟩) ?_ HT0.out ?_
                        · intro w; go_simp; first | done | rw [w0]
                        go_simp; go_big_quiet_on)
                     | (refine quiet_call 40 #[.int .i64 (x1 : Int), .int .i64 10] (.string ⟨X1.toArray⟩) ?_ HT1.out ?_
                        · intro w; go_simp; first | done | rw [w1]
                        go_simp; go_big_quiet_on)
                     | (refine quiet_call 40 #[.int .i64 (x2 : Int), .int .i64 10] (.string ⟨X2.toArray⟩) ?_ HT2.out ?_
                        · intro w; go_simp; first | done | rw [w2]
                        go_simp; go_big_quiet_on)
                     | (refine quiet_call 40 #[.int .i64 (x3 : Int), .int .i64 10] (.string ⟨X3.toArray⟩) ?_ HT3.out ?_
                        · intro w; go_simp; first | done | rw [w3]
                        go_simp; go_big_quiet_on)
                     | (refine quiet_val ?_ ?_ ?_
                        rotate_left
                        · intro w; go_simp; rfl
                        go_simp; go_big_quiet_on)))
      refine wpQuiet_nil ?_
      intro V hV
      go_wp2_with fail
      go_ret
      exact ⟨rfl, hV.2.1⟩
    · have hgl := grpOf_length hl
      obtain ⟨gs, hgs⟩ : ∃ gs, gs = grpOf l := ⟨_, rfl⟩
      rw [← hgs] at hgl
      have HGL := Lib.hid hgl
      have HRP : Hid (R = printS gs (zst gs 8).1 (zst gs 8).2.1) := Lib.hid (by rw [HR.out]; unfold printP; rw [if_neg (by rw [← HZ.out]; simp), if_neg h4, hgs])
      have HRUN : Hid (∀ (i : Nat), i ≤ 8 → ∀ V, PC w cs V → Calls Tryz.prog 41 #[.agg cs, .int .i64 (i : Int)] V fun e w' => e = .returned (.int .i64 (runP gs i : Int)) ∧ PC w cs w') := Lib.hid (fun i hi V hV => by rw [HCS.out, hgs]; rw [HCS.out] at hV; exact (rrun_c v l hl hb i hi V).mono (fun _ _ h => ⟨h.1, hV.on h.2⟩))
      have HSOM : Hid (∀ (f t : Nat), f ≤ t → t ≤ 8 → ∀ V, PC w cs V → Calls Tryz.prog 42 #[.agg cs, .int .i64 (f : Int), .int .i64 (t : Int)] V fun e w' => e = .returned (.string ⟨(printG ((gs.drop f).take (t - f))).toArray⟩) ∧ PC w cs w') := Lib.hid (fun f t hft ht V hV => by rw [HCS.out, hgs]; rw [HCS.out] at hV; exact (rsome_c v l hl hb f t hft ht V).mono (fun _ _ h => ⟨h.1, hV.on h.2⟩))
      have f4 : (v == 4) = false := beq_eq_false_iff_ne.2 h4
      have f4d : decide (v = 4) = false := decide_eq_false h4
      have HPL : Hid (∀ l' : List Nat, l'.length ≤ 8 → (printG l').length ≤ 300) := Lib.hid (fun l' h => printG_len l' h)
      have H4 := Lib.hid h4
      clear hgl hgs h4 hb HR
      go_enter Tryz.func15, Tryz.ntmps15
      go_upto_region 1 with fail
      generalize w.alloc (.cells cs 37) = W at *
      have z1 := HPC.out.1
      go_wp2_with (first
        | (refine wpList_load24 rfl _ rfl _ rfl _ (by assumption) ?_)
        | (go_at_call 39; refine (HV.out _).mono ?_; rintro e t1 ⟨rfl, hb1⟩; replace HPC := Lib.hid (HPC.out.on hb1); clear hb1 z1; have c0 := rowAt_cell HPC.out.1 0 (.int .i64 v) (by rw [HCS.out]; exact csA_zero v l); refine Hid.out ?_))
      refine Lib.hid ?_
      clear HV
      go_wp2_with fail
      clear c0
      go_loopw [4] (fun lv wr => ∃ L : Nat, lv = .int .i64 (L : Int) ∧ 1 ≤ L ∧ L ≤ 8 ∧ Hid (∀ k j, L < k → j + k ≤ 8 → runP gs j < k) ∧ PC w cs wr) (fun lv _ => (intOf lv).toNat)
      case atStart => exact ⟨8, rfl, by omega, by omega, Lib.hid (fun k j h1 h2 => by omega), HPC.out⟩
      case round =>
        clear HPC
        obtain ⟨L, rfl, hL1, hL8, HL, hpc⟩ := hrel
        have HPC := Lib.hid hpc
        clear hpc
        by_cases hL2 : 2 ≤ L
        · have a1 : decide ((2 : Int) ≤ (L : Int)) = true := decide_eq_true (by omega)
          have a2 : (2 : Int) ≤ (L : Int) := by omega
          go_wp2_with fail
          go_loopw [5] (fun iv wr => ∃ i : Nat, iv = .int .i64 (i : Int) ∧ i + L ≤ 9 ∧ Hid (∀ j, j < i → runP gs j < L) ∧ PC w cs wr) (fun iv _ => 9 - (intOf iv).toNat)
          case atStart => exact ⟨0, rfl, by omega, Lib.hid (fun j h => by omega), HPC.out⟩
          case round =>
            clear HPC
            obtain ⟨i, rfl, hi9, HI, hpc⟩ := hrel
            have HPC := Lib.hid hpc
            clear hpc
            have z1 := HPC.out.1
            by_cases hi8 : i + L ≤ 8
            · have b1 : decide ((i : Int) + (L : Int) ≤ 8) = true := decide_eq_true (by omega)
              have b2 : (i : Int) + (L : Int) ≤ 8 := by omega
              have HRI := Lib.hid (HRUN.out i (by omega))
              obtain ⟨n, hn⟩ : ∃ n, n = runP gs i := ⟨_, rfl⟩
              rw [← hn] at HRI
              have HNN := Lib.hid hn
              clear hn
              by_cases hnL : L ≤ n
              · have d1 : decide ((L : Int) ≤ (n : Int)) = true := decide_eq_true (by omega)
                have HRE : Hid (R = printG (gs.take i) ++ ([58, 58] ++ printG (gs.drop (i + L)))) := Lib.hid (by rw [HRP.out]; exact print_at HGL.out hL2 hi8 (by rw [← HNN.out]; exact hnL) HL.out HI.out)
                have HS1 := Lib.hid (HSOM.out 0 i (by omega) (by omega))
                have HS2 := Lib.hid (HSOM.out (i + L) 8 (by omega) (by omega))
                have e1 : (gs.drop 0).take (i - 0) = gs.take i := by simp
                have e2 : (gs.drop (i + L)).take (8 - (i + L)) = gs.drop (i + L) := List.take_of_length_le (by rw [List.length_drop, HGL.out]; omega)
                rw [e1] at HS1
                rw [e2, show ((i + L : Nat) : Int) = (i : Int) + (L : Int) from by omega] at HS2
                obtain ⟨P1, hP1⟩ : ∃ P, P = printG (gs.take i) := ⟨_, rfl⟩
                obtain ⟨P2, hP2⟩ : ∃ P, P = printG (gs.drop (i + L)) := ⟨_, rfl⟩
                have hp1 : P1.length ≤ 300 := by rw [hP1]; exact HPL.out _ (by simp; omega)
                have hp2 : P2.length ≤ 300 := by rw [hP2]; exact HPL.out _ (by rw [List.length_drop, HGL.out]; omega)
                rw [← hP1] at HS1 HRE
                rw [← hP2] at HS2 HRE
                obtain ⟨T1, hT1⟩ : ∃ T, T = P1 ++ [58, 58] := ⟨_, rfl⟩
                have hRT : R = T1 ++ P2 := by rw [HRE.out, hT1]; simp
                have c1 : ∀ W, (Op.stringOp .add ⟨P1.toArray⟩ ⟨#[58, 58]⟩).run Tryz.prog W = .ok (.string ⟨T1.toArray⟩) W := fun W => by rw [hT1]; exact concat_c _ _ (by simp; omega) W
                have c2 : ∀ W, (Op.stringOp .add ⟨T1.toArray⟩ ⟨P2.toArray⟩).run Tryz.prog W = .ok (.string ⟨R.toArray⟩) W := fun W => by rw [hRT, hT1]; exact concat_c _ _ (by simp; omega) W
                have wL : IntKind.i64.wrap ((i : Int) + (L : Int)) = (i : Int) + (L : Int) := by rw [IntKind.wrap_i64]; omega
                clear e1 e2 hP1 hP2 hT1 hRT HRE HRP HL HI HPL
                go_wp2_with (first
                  | (refine wpList_load24 rfl _ rfl _ rfl _ (by assumption) ?_)
                  | (go_at_call 41; refine (HRI.out _ HPC.out).mono ?_; rintro e t2 ⟨rfl, hpc2⟩; replace HPC := Lib.hid hpc2; clear hpc2 z1; refine Hid.out ?_))
                refine Lib.hid ?_
                go_wp2_with fail
                refine wp_region_cls (C := fun w' => PC w cs w') (by kernel_rfl) (by kernel_rfl) HPC.out.drew ?_
                repeat (first
                          | go_big_quiet_skip
                          | (go_big_quiet_want
                             first
                               | (go_big_quiet_op; go_big_quiet_on)
                               | (refine quiet_load24 _ rfl _ rfl _ (fun w h => h.1) ?_; go_simp; go_big_quiet_on)
                               | (refine quiet_val ?_ ?_ ?_
                                  rotate_left
                                  · intro w; go_simp; rfl
                                  go_simp; go_big_quiet_on)
                               | (refine quiet_call 42 #[.agg cs, .int .i64 ((0 : Nat) : Int), .int .i64 (i : Int)] (.string ⟨P1.toArray⟩) ?_ HS1.out ?_
                                  · intro w; go_simp; done
                                  go_simp; go_big_quiet_on)
                               | (refine quiet_call 42 #[.agg cs, .int .i64 ((i : Int) + (L : Int)), .int .i64 ((8 : Nat) : Int)] (.string ⟨P2.toArray⟩) ?_ HS2.out ?_
                                  · intro w; go_simp; first | done | rw [wL] | rfl
                                  go_simp; go_big_quiet_on)))
                refine wpQuiet_nil ?_
                intro V hV
                go_wp2_with fail
                go_ret
                exact ⟨rfl, hV.2.1⟩
              · have d1 : decide ((L : Int) ≤ (n : Int)) = false := decide_eq_false (by omega)
                have d1' : decide (L ≤ n) = false := decide_eq_false hnL
                have HI2 : Hid (∀ j, j < i + 1 → runP gs j < L) := Lib.hid (fun j h => by
                  rcases Nat.lt_or_ge j i with h' | h'
                  · exact HI.out j h'
                  · obtain rfl : j = i := by omega
                    rw [← HNN.out]; omega)
                go_wp2_with (first
                  | (refine wpList_load24 rfl _ rfl _ rfl _ (by assumption) ?_)
                  | (go_at_call 41; refine (HRI.out _ HPC.out).mono ?_; rintro e t2 ⟨rfl, hpc2⟩; replace HPC := Lib.hid hpc2; clear hpc2 z1; refine Hid.out ?_))
                refine Lib.hid ?_
                go_wp2_with fail
                go_roundw
                case rel => exact ⟨i + 1, by go_num, by omega, HI2, HPC.out⟩
                case measure => simp [intOf]; omega
            · have b1 : decide ((i : Int) + (L : Int) ≤ 8) = false := decide_eq_false (by omega)
              have b2 : ¬ (i : Int) + (L : Int) ≤ 8 := by omega
              have HL2 : Hid (∀ k j, L - 1 < k → j + k ≤ 8 → runP gs j < k) := Lib.hid (fun k j h1 h2 => by
                rcases Nat.lt_or_ge L k with h' | h'
                · exact HL.out k j h' h2
                · obtain rfl : k = L := by omega
                  exact HI.out j (by omega))
              clear z1
              go_wp2_with fail
              go_roundw
              case rel => exact ⟨L - 1, by go_num, by omega, by omega, HL2, HPC.out⟩
              case measure => simp [intOf]; omega
        · obtain rfl : L = 1 := by omega
          have a1 : decide ((2 : Int) ≤ ((1 : Nat) : Int)) = false := rfl
          have HRE : Hid (R = printG gs) := Lib.hid (by rw [HRP.out]; exact print_none HGL.out HL.out)
          have HS1 := Lib.hid (HSOM.out 0 8 (by omega) (by omega))
          have e1 : (gs.drop 0).take (8 - 0) = gs := by rw [List.drop_zero]; exact List.take_of_length_le (by rw [HGL.out]; omega)
          rw [e1, ← HRE.out] at HS1
          have z1 := HPC.out.1
          clear HL HRP e1
          go_wp2_with (first
            | (refine wpList_load24 rfl _ rfl _ rfl _ (by assumption) ?_)
            | (go_at_call 42; refine (HS1.out _ HPC.out).mono ?_; rintro e t2 ⟨rfl, hpc2⟩; replace HPC := Lib.hid hpc2; clear hpc2 z1; refine Hid.out ?_))
          refine Lib.hid ?_
          go_wp2_with fail
          go_ret
          exact ⟨rfl, HPC.out.2.1⟩
#print axioms rprint_c
end Go.Proofs.YtoifolmcdkfniabGreatDoor
