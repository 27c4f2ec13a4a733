/-
  For AddrAsks: the document's text, run, some.
-/
import Derived.Test.YtclfhajapohogaaDoorAsP
import Derived.Test.YtclfhajapohogaaDoorDrawn
import Derived.Test.YtclfhajapohogaaDoorLess
import Derived.Deep.RegionHeld3
namespace Go.Proofs.YtclfhajapohogaaDoor
open Go.ChangeShapes Go.WideShapes Go.ChangeAt Go.RowKit
set_option linter.unusedVariables false
set_option maxHeartbeats 4000000
set_option maxRecDepth 100000

theorem conv1 {w : World} {g c : Nat} {z : Int} {d : UInt8} (hz : z = (d.toNat : Int)) (h : w.cell? ⟨g, 0, none⟩ = some (.int .u8 z)) : (convert 43 9 (.slice (some ⟨g, 0, none⟩) 1 c)).run Tryd.prog w = .ok (.string ⟨[d].toArray⟩) w := by
  subst hz
  have := run_convert_bytes_back (P := Tryd.prog) w 43 9 5 ⟨g, 0, none⟩ c [d] Tryd.underlying43 Tryd.underlying5 Tryd.underlying9 (fun j hj => by
    obtain rfl : j = 0 := by simp at hj; omega
    simpa [Addr.add] using h)
  simpa using this
theorem str_app (a b : List UInt8) : (ByteArray.mk a.toArray ++ ByteArray.mk b.toArray) = ByteArray.mk (a ++ b).toArray := by
  apply ByteArray.ext
  simp [ByteArray.data_append]
theorem cell_new (w : World) (z : Int) : (w.alloc (.cells #[.int .u8 z] 5)).cell? ⟨w.heap.size, 0, none⟩ = some (.int .u8 z) := by
  have h : (w.alloc (.cells #[.int .u8 z] 5)).heap[w.heap.size]? = some (.cells #[.int .u8 z] 5 (0, 0)) := heap_alloc_new w _
  simp only [World.cell?, h]
  rfl
theorem bsize (l : List UInt8) : (ByteArray.mk l.toArray).size = l.length := by simp [ByteArray.size]
theorem index22 (g i o : Nat) (z : Int) (hz : z = (i : Int)) (hi : i < 16) (ho : o = 1 + i) (W : World) : (Instr.indexAt 22 (.pointer (some ⟨g, 1, none⟩)) (.int .i64 z)).run Tryd.prog W = .ok (.pointer (some ⟨g, o, none⟩)) W := by
  subst hz ho
  have ht : Tryd.prog.underlying 22 = some (.array (Tryd.prog.arrayLen 22) (Tryd.prog.elem 22)) := by kernel_rfl
  have hal : Tryd.prog.arrayLen 22 = 16 := by kernel_rfl
  have hel : Tryd.prog.elem 22 = 5 := by kernel_rfl
  have hsz : (sizeOf 5).run Tryd.prog W = .ok 1 W := by kernel_rfl
  rw [run_indexAt_array W 22 ⟨g, 1, none⟩ .i64 (i : Int) ht, hal, hel, if_pos ⟨by omega, by omega⟩, hsz]
  simp only [Result.andThen, add_plain, Int.toNat_natCast, Nat.mul_one]
theorem load5 {w : World} {ad : Addr} {z : Int} (h : w.cell? ad = some (.int .u8 z)) : (Instr.loadAt 5 (.pointer (some ad))).run Tryd.prog w = .ok (.int .u8 z) w := by
  simp [go_sem, Instr.loadAt, Instr.sureAddr, h]
theorem quiet_load5 {o : Oper} {a : Act} {C : World → Prop} {K : Act → Prop} (x : Operand) (ho : o.op = .load 5 x) (ad : Addr) (hx : a.eval x = .pointer (some ad)) (z : Int) (hC : ∀ w, C w → w.cell? ad = some (.int .u8 z)) (hk : K (a.put o.dst (.int .u8 z))) : o.quiet Tryd.prog a C K := by
  refine ⟨.int .u8 z, fun w hw => ?_, hk⟩
  unfold Oper.quietAt execOp
  simp only [ho, hx, Sem.run_bind, load5 (hC w hw), Result.andThen_ok]
  exact ⟨rfl, rfl⟩
theorem quiet_index22 {o : Oper} {a : Act} {C : World → Prop} {K : Act → Prop} (x ix : Operand) (ho : o.op = .indexAddr 22 x ix) (g i : Nat) (z : Int) (hx : a.eval x = .pointer (some ⟨g, 1, none⟩)) (hix : a.eval ix = .int .i64 z) (hz : z = (i : Int)) (hi : i < 16) (hk : K (a.put o.dst (.pointer (some ⟨g, 1 + i, none⟩)))) : o.quiet Tryd.prog a C K := by
  refine ⟨.pointer (some ⟨g, 1 + i, none⟩), fun w hw => ?_, hk⟩
  unfold Oper.quietAt execOp
  simp only [ho, hx, hix, Sem.run_bind, index22 g i (1 + i) z hz hi rfl w, Result.andThen_ok]
  exact ⟨rfl, rfl⟩
def hexS : ByteArray := ⟨#[48, 49, 50, 51, 52, 53, 54, 55, 56, 57, 97, 98, 99, 100, 101, 102]⟩
theorem hexS_get : ∀ m : Fin 16, hexS[m.val]? = some (hexd m.val) := by decide
theorem index16 (m : Nat) (hm : m < 16) (w : World) : (Instr.index 9 (.string hexS) (.int .i64 (m : Int))).run Tryd.prog w = .ok (.int .u8 ((hexd m).toNat : Int)) w := by
  have h := hexS_get ⟨m, hm⟩
  simp only [Instr.index, asIntOf, Sem.run_bind, Sem.run_pure, Result.andThen, run_underlying Tryd.underlying9]
  rw [if_pos (by omega), Int.toNat_natCast, h]
  rfl
theorem hexS_at (m : Nat) (hm : m < 16) (h : m < hexS.size) : hexS[m]'h = hexd m := by
  have h1 := hexS_get ⟨m, hm⟩
  have h2 : hexS[m]? = some (hexS[m]'h) := by simp [getElem?_pos, h]
  rw [h2] at h1
  exact Option.some.inj h1
theorem text10_c (n m : Nat) (hn : n < 65536) (hm1 : 1 ≤ m) (hm4 : m ≤ 4) (he : n / 10 ^ m = 0) (hne : ∀ j, 1 ≤ j → j < m → n / 10 ^ j ≠ 0) (w : World) :
    Calls Tryd.prog 43 #[.int .i64 (n : Int), .int .i64 10] w fun e w' => e = .returned (.string ⟨(dgs 10 n m).toArray⟩) ∧ Below w.heap.size w w' := by
  obtain ⟨r, hr⟩ : ∃ r, r = dgs 10 n m := ⟨_, rfl⟩
  rw [← hr]
  have HR := Lib.hid hr
  have HE := Lib.hid he
  have HNE := Lib.hid hne
  clear hr he hne
  go_enter Tryd.func43, Tryd.ntmps43
  go_wp2_with fail
  go_loopw [0, 5] (fun nv sv wr => ∃ k : Nat, k < m ∧ nv = .int .i64 ((n / 10 ^ k : Nat) : Int) ∧ sv = .string ⟨(dgs 10 n k).toArray⟩ ∧ Below w.heap.size w wr) (fun _ sv _ => 5 - (match sv with | .string s => s.size | _ => 0))
  case atStart => exact ⟨0, by omega, by simp, rfl, Below.refl _ _⟩
  case round =>
    obtain ⟨k, hk, rfl, rfl, hW⟩ := hrel
    have HW := Lib.hid hW; clear hW
    have hlen : (dgs 10 n k).length = k := dgs_len 10 n k
    have hsz := bsize (dgs 10 n k)
    rw [hlen] at hsz
    have HSUCC : Hid (dgs 10 n (k + 1) = hexd (n / 10 ^ k % 10) :: dgs 10 n k) := Lib.hid rfl
    have HDIV : Hid (n / 10 ^ (k + 1) = n / 10 ^ k / 10) := Lib.hid (by rw [Nat.pow_succ, Nat.div_div_eq_div_mul])
    have hmb : n / 10 ^ k < 65536 := Nat.lt_of_le_of_lt (Nat.div_le_self _ _) hn
    have HLAST : Hid ((k + 1 = m → n / 10 ^ k / 10 = 0) ∧ (k + 1 ≠ m → n / 10 ^ k / 10 ≠ 0)) := Lib.hid ⟨fun h => by rw [← HDIV.out, h]; exact HE.out, fun h => by rw [← HDIV.out]; exact HNE.out (k + 1) (by omega) (by omega)⟩
    generalize dgs 10 n k = t at *
    generalize n / 10 ^ k = q at *
    have hd : q % 10 < 16 := by omega
    have hrem : Int.tmod (q : Int) 10 = ((q % 10 : Nat) : Int) := by simp [Int.tmod]
    have hquo : Int.tdiv (q : Int) 10 = ((q / 10 : Nat) : Int) := by simp [Int.tdiv]
    have hq : q / 10 ≤ q := Nat.div_le_self _ _
    generalize q % 10 = d at *
    generalize q / 10 = q2 at *
    have hix : ∀ W, (Instr.index 9 (.string ⟨#[48, 49, 50, 51, 52, 53, 54, 55, 56, 57, 97, 98, 99, 100, 101, 102]⟩) (.int .i64 (d : Int))).run Tryd.prog W = .ok (.int .u8 ((hexd d).toNat : Int)) W := index16 d hd
    have hcv := conv1 (c := 1) (d := hexd d) rfl (cell_new wr ((hexd d).toNat : Int))
    have HB : Hid (Below w.heap.size w (wr.alloc (.cells #[.int .u8 ((hexd d).toNat : Int)] 5))) := Lib.hid (HW.out.alloc HW.out.size _)
    have hcon : ByteArray.mk #[hexd d] ++ ByteArray.mk t.toArray = ByteArray.mk (dgs 10 n (k + 1)).toArray := by rw [HSUCC.out]; exact str_app [hexd d] t
    have hsz2 : (ByteArray.mk (dgs 10 n (k + 1)).toArray).size = k + 1 := by rw [bsize, dgs_len]
    have HCON := Lib.hid hcon
    have HS2 := Lib.hid hsz2
    clear hcon hsz2
    generalize hexd d = c at *
    by_cases hlast : k + 1 = m
    · have h0 := HLAST.out.1 hlast
      subst h0
      have HRR : Hid (ByteArray.mk #[c] ++ ByteArray.mk t.toArray = ByteArray.mk r.toArray) := Lib.hid (by rw [HCON.out, HR.out, hlast])
      clear HSUCC HDIV HLAST HE HNE HR HCON hlast
      go_wp2_with fail
      go_ret
      exact ⟨by rw [HRR.out]; rfl, HB.out⟩
    · have h0 := HLAST.out.2 hlast
      have h0' : ((q2 : Int) == 0) = false := beq_eq_false_iff_ne.2 (by omega)
      have h0d : decide ((q2 : Int) = 0) = false := decide_eq_false (by omega)
      have HREL : Hid ((∃ k : Nat, k < m ∧ Value.int .i64 (q2 : Int) = .int .i64 ((n / 10 ^ k : Nat) : Int) ∧ Value.string (ByteArray.mk #[c] ++ ByteArray.mk t.toArray) = .string ⟨(dgs 10 n k).toArray⟩ ∧ Below w.heap.size w (wr.alloc (.cells #[.int .u8 (c.toNat : Int)] 5))) ∧ (5 - (ByteArray.mk #[c] ++ ByteArray.mk t.toArray).size < 5 - (ByteArray.mk t.toArray).size)) := Lib.hid (by
        refine ⟨⟨k + 1, by omega, by rw [HDIV.out], by rw [HCON.out], HB.out⟩, ?_⟩
        rw [HCON.out, HS2.out, hsz]
        omega)
      clear HSUCC HDIV HLAST HE HNE HR HCON
      go_wp2_with fail
      exact HREL.out
theorem text16_c (n m : Nat) (hn : n < 65536) (hm1 : 1 ≤ m) (hm4 : m ≤ 4) (he : n / 16 ^ m = 0) (hne : ∀ j, 1 ≤ j → j < m → n / 16 ^ j ≠ 0) (w : World) :
    Calls Tryd.prog 43 #[.int .i64 (n : Int), .int .i64 16] w fun e w' => e = .returned (.string ⟨(dgs 16 n m).toArray⟩) ∧ Below w.heap.size w w' := by
  obtain ⟨r, hr⟩ : ∃ r, r = dgs 16 n m := ⟨_, rfl⟩
  rw [← hr]
  have HR := Lib.hid hr
  have HE := Lib.hid he
  have HNE := Lib.hid hne
  clear hr he hne
  go_enter Tryd.func43, Tryd.ntmps43
  go_wp2_with fail
  go_loopw [0, 5] (fun nv sv wr => ∃ k : Nat, k < m ∧ nv = .int .i64 ((n / 16 ^ k : Nat) : Int) ∧ sv = .string ⟨(dgs 16 n k).toArray⟩ ∧ Below w.heap.size w wr) (fun _ sv _ => 5 - (match sv with | .string s => s.size | _ => 0))
  case atStart => exact ⟨0, by omega, by simp, rfl, Below.refl _ _⟩
  case round =>
    obtain ⟨k, hk, rfl, rfl, hW⟩ := hrel
    have HW := Lib.hid hW; clear hW
    have hlen : (dgs 16 n k).length = k := dgs_len 16 n k
    have hsz := bsize (dgs 16 n k)
    rw [hlen] at hsz
    have HSUCC : Hid (dgs 16 n (k + 1) = hexd (n / 16 ^ k % 16) :: dgs 16 n k) := Lib.hid rfl
    have HDIV : Hid (n / 16 ^ (k + 1) = n / 16 ^ k / 16) := Lib.hid (by rw [Nat.pow_succ, Nat.div_div_eq_div_mul])
    have hmb : n / 16 ^ k < 65536 := Nat.lt_of_le_of_lt (Nat.div_le_self _ _) hn
    have HLAST : Hid ((k + 1 = m → n / 16 ^ k / 16 = 0) ∧ (k + 1 ≠ m → n / 16 ^ k / 16 ≠ 0)) := Lib.hid ⟨fun h => by rw [← HDIV.out, h]; exact HE.out, fun h => by rw [← HDIV.out]; exact HNE.out (k + 1) (by omega) (by omega)⟩
    generalize dgs 16 n k = t at *
    generalize n / 16 ^ k = q at *
    have hd : q % 16 < 16 := by omega
    have hrem : Int.tmod (q : Int) 16 = ((q % 16 : Nat) : Int) := by simp [Int.tmod]
    have hquo : Int.tdiv (q : Int) 16 = ((q / 16 : Nat) : Int) := by simp [Int.tdiv]
    have hq : q / 16 ≤ q := Nat.div_le_self _ _
    generalize q % 16 = d at *
    generalize q / 16 = q2 at *
    have hix : ∀ W, (Instr.index 9 (.string ⟨#[48, 49, 50, 51, 52, 53, 54, 55, 56, 57, 97, 98, 99, 100, 101, 102]⟩) (.int .i64 (d : Int))).run Tryd.prog W = .ok (.int .u8 ((hexd d).toNat : Int)) W := index16 d hd
    have hcv := conv1 (c := 1) (d := hexd d) rfl (cell_new wr ((hexd d).toNat : Int))
    have HB : Hid (Below w.heap.size w (wr.alloc (.cells #[.int .u8 ((hexd d).toNat : Int)] 5))) := Lib.hid (HW.out.alloc HW.out.size _)
    have hcon : ByteArray.mk #[hexd d] ++ ByteArray.mk t.toArray = ByteArray.mk (dgs 16 n (k + 1)).toArray := by rw [HSUCC.out]; exact str_app [hexd d] t
    have hsz2 : (ByteArray.mk (dgs 16 n (k + 1)).toArray).size = k + 1 := by rw [bsize, dgs_len]
    have HCON := Lib.hid hcon
    have HS2 := Lib.hid hsz2
    clear hcon hsz2
    generalize hexd d = c at *
    by_cases hlast : k + 1 = m
    · have h0 := HLAST.out.1 hlast
      subst h0
      have HRR : Hid (ByteArray.mk #[c] ++ ByteArray.mk t.toArray = ByteArray.mk r.toArray) := Lib.hid (by rw [HCON.out, HR.out, hlast])
      clear HSUCC HDIV HLAST HE HNE HR HCON hlast
      go_wp2_with fail
      go_ret
      exact ⟨by rw [HRR.out]; rfl, HB.out⟩
    · have h0 := HLAST.out.2 hlast
      have h0' : ((q2 : Int) == 0) = false := beq_eq_false_iff_ne.2 (by omega)
      have h0d : decide ((q2 : Int) = 0) = false := decide_eq_false (by omega)
      have HREL : Hid ((∃ k : Nat, k < m ∧ Value.int .i64 (q2 : Int) = .int .i64 ((n / 16 ^ k : Nat) : Int) ∧ Value.string (ByteArray.mk #[c] ++ ByteArray.mk t.toArray) = .string ⟨(dgs 16 n k).toArray⟩ ∧ Below w.heap.size w (wr.alloc (.cells #[.int .u8 (c.toNat : Int)] 5))) ∧ (5 - (ByteArray.mk #[c] ++ ByteArray.mk t.toArray).size < 5 - (ByteArray.mk t.toArray).size)) := Lib.hid (by
        refine ⟨⟨k + 1, by omega, by rw [HDIV.out], by rw [HCON.out], HB.out⟩, ?_⟩
        rw [HCON.out, HS2.out, hsz]
        omega)
      clear HSUCC HDIV HLAST HE HNE HR HCON
      go_wp2_with fail
      exact HREL.out
theorem hx_text (n : Nat) (hn : n < 65536) (w : World) : Calls Tryd.prog 43 #[.int .i64 (n : Int), .int .i64 16] w fun e w' => e = .returned (.string ⟨(hx n).toArray⟩) ∧ Below w.heap.size w w' := by
  obtain ⟨m, h0, h4, h1, h2⟩ : ∃ m, 1 ≤ m ∧ m ≤ 4 ∧ n / 16 ^ m = 0 ∧ ∀ j, 1 ≤ j → j < m → n / 16 ^ j ≠ 0 := by
    refine ⟨nd n + 1, by omega, by unfold nd; split; omega; split; omega; split <;> omega, ?_, ?_⟩
    · unfold nd
      split
      · simp; omega
      split
      · simp; omega
      split
      · simp; omega
      · simp; omega
    · intro j hj1 hj2
      unfold nd at hj2
      split at hj2
      · omega
      split at hj2
      · obtain rfl : j = 1 := by omega
        simp; omega
      split at hj2
      · rcases (show j = 1 ∨ j = 2 by omega) with rfl | rfl <;> simp <;> omega
      · rcases (show j = 1 ∨ j = 2 ∨ j = 3 by omega) with rfl | rfl | rfl <;> simp <;> omega
  have := text16_c n m hn h0 h4 h1 h2 w
  rw [dgs_low, nd_at hn h0 h1 h2] at this
  exact this
theorem it_text (n : Nat) (hn : n < 256) (w : World) : Calls Tryd.prog 43 #[.int .i64 (n : Int), .int .i64 10] w fun e w' => e = .returned (.string ⟨(Lib.itoa (n : Int)).toArray⟩) ∧ Below w.heap.size w w' := by
  obtain ⟨m, h0, h4, h1, h2⟩ : ∃ m, 1 ≤ m ∧ m ≤ 4 ∧ n / 10 ^ m = 0 ∧ ∀ j, 1 ≤ j → j < m → n / 10 ^ j ≠ 0 := by
    refine ⟨dec3 n, by unfold dec3; split; omega; split <;> omega, by unfold dec3; split; omega; split <;> omega, ?_, ?_⟩
    · unfold dec3
      split
      · simp; omega
      split
      · simp; omega
      · simp; omega
    · intro j hj1 hj2
      unfold dec3 at hj2
      split at hj2
      · omega
      split at hj2
      · obtain rfl : j = 1 := by omega
        simp; omega
      · rcases (show j = 1 ∨ j = 2 by omega) with rfl | rfl <;> simp <;> omega
  have := text10_c n m (by omega) h0 h4 h1 h2 w
  rw [dec3_at hn h0 h1 h2, dgs_itoa hn] at this
  exact this
#print axioms it_text
end Go.Proofs.YtclfhajapohogaaDoor
