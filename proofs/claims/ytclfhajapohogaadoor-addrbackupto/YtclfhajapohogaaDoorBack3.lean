/-
  The law's own hex.
-/
import Derived.Test.YtclfhajapohogaaDoorBack2
import Derived.Test.YtclfhajapohogaaDoorHex
namespace Go.Proofs.YtclfhajapohogaaDoor
open Go.ChangeShapes Go.WideShapes Go.ChangeAt Go.RowKit
set_option linter.unusedVariables false
set_option maxHeartbeats 4000000
set_option maxRecDepth 100000

theorem conv1 {w : World} {g c : Nat} {z : Int} {d : UInt8} (hz : z = (d.toNat : Int)) (h : w.cell? ⟨g, 0, none⟩ = some (.int .u8 z)) : (convert 43 9 (.slice (some ⟨g, 0, none⟩) 1 c)).run Tryd.prog w = .ok (.string ⟨[d].toArray⟩) w := by
  subst hz
  have := run_convert_bytes_back (P := Tryd.prog) w 43 9 5 ⟨g, 0, none⟩ c [d] Tryd.underlying43 Tryd.underlying5 Tryd.underlying9 (fun j hj => by
    obtain rfl : j = 0 := by simp at hj; omega
    simpa [Addr.add] using h)
  simpa using this
theorem str_app (a b : List UInt8) : (ByteArray.mk a.toArray ++ ByteArray.mk b.toArray) = ByteArray.mk (a ++ b).toArray := by
  apply ByteArray.ext
  simp [ByteArray.data_append]
theorem hexU_lo : ∀ d : Fin 16, 9 < d.val → (97 + (d.val : Int) - 10) = ((hexU false d.val).toNat : Int) := by decide
theorem hexU_up : ∀ d : Fin 16, 9 < d.val → (65 + (d.val : Int) - 10) = ((hexU true d.val).toNat : Int) := by decide
theorem hexU_dg : ∀ (up : Bool) (d : Fin 16), ¬ 9 < d.val → (48 + (d.val : Int)) = ((hexU up d.val).toNat : Int) := by decide
theorem cell_new (w : World) (z : Int) : (w.alloc (.cells #[.int .u8 z] 5)).cell? ⟨w.heap.size, 0, none⟩ = some (.int .u8 z) := by
  have h : (w.alloc (.cells #[.int .u8 z] 5)).heap[w.heap.size]? = some (.cells #[.int .u8 z] 5 (0, 0)) := heap_alloc_new w _
  simp only [World.cell?, h]
  rfl
theorem hexl_c (n least : Nat) (up : Bool) (hn : n < 65536) (hl1 : 1 ≤ least) (hl : least ≤ 4) (w : World) :
    Calls Tryd.prog 37 #[.int .i64 (n : Int), .int .i64 (least : Int), .bool up] w fun e w' => e = .returned (.string ⟨(hxU n least up).toArray⟩) ∧ Below w.heap.size w w' := by
  obtain ⟨r, hr⟩ : ∃ r, r = hxU n least up := ⟨_, rfl⟩
  rw [← hr]
  have HR := Lib.hid hr
  clear hr
  have hc4 := (cnt_spec hn hl).1
  go_enter Tryd.func37, Tryd.ntmps37
  go_wp2_with fail
  go_loopw [0, 7] (fun nv sv wr => ∃ k : Nat, k ≤ cnt n least ∧ nv = .int .i64 ((n / 16 ^ k : Nat) : Int) ∧ sv = .string ⟨(lowU up n k).toArray⟩ ∧ Below w.heap.size w wr) (fun _ sv _ => 5 - (match sv with | .string s => s.size | _ => 0))
  case atStart => exact ⟨0, by omega, by simp, rfl, Below.refl _ _⟩
  case round =>
    obtain ⟨k, hk, rfl, rfl, hW⟩ := hrel
    have HW := Lib.hid hW; clear hW
    have hlen : (lowU up n k).length = k := lowU_length up n k
    have hsz := bsize (lowU up n k)
    have HSUCC : Hid (lowU up n (k + 1) = hexU up (n / 16 ^ k % 16) :: lowU up n k) := Lib.hid rfl
    have HDIV : Hid (n / 16 ^ (k + 1) = n / 16 ^ k / 16) := Lib.hid (by rw [Nat.pow_succ, Nat.div_div_eq_div_mul])
    have HMORE : Hid (∀ _ : 0 < n / 16 ^ k ∨ k < least, k < cnt n least) := Lib.hid (fun h => cnt_more hl1 h hn)
    have HEND : Hid (¬ 0 < n / 16 ^ k → ¬ k < least → r = lowU up n k) := Lib.hid (fun h1 h2 => by rw [HR.out, hxU, ← cnt_end hl1 h1 h2 hk])
    have hmb : n / 16 ^ k < 65536 := Nat.lt_of_le_of_lt (Nat.div_le_self _ _) hn
    rw [hlen] at hsz
    generalize lowU up n k = t at *
    generalize n / 16 ^ k = m at *
    by_cases hgo : 0 < m ∨ k < least
    · have hkc := HMORE.out hgo
      have hd : m % 16 < 16 := Nat.mod_lt _ (by decide)
      have hrem : Int.tmod (m : Int) 16 = ((m % 16 : Nat) : Int) := by simp [Int.tmod]
      have hquo : Int.tdiv (m : Int) 16 = ((m / 16 : Nat) : Int) := by simp [Int.tdiv]
      have hq : m / 16 ≤ m := Nat.div_le_self _ _
      generalize m % 16 = d at *
      generalize m / 16 = q at *
      have HC : Hid (∀ z : Int, z = ((hexU up d).toNat : Int) → (convert 43 9 (.slice (some ⟨wr.heap.size, 0, none⟩) 1 1)).run Tryd.prog (wr.alloc (.cells #[.int .u8 z] 5)) = .ok (.string ⟨[hexU up d].toArray⟩) (wr.alloc (.cells #[.int .u8 z] 5))) := Lib.hid (fun z hz => conv1 hz (cell_new wr z))
      have HB : Hid (∀ z : Int, Below w.heap.size w (wr.alloc (.cells #[.int .u8 z] 5))) := Lib.hid (fun z => HW.out.alloc HW.out.size _)
      have HEX : Hid ((9 < d → (97 + (d : Int) - 10) = ((hexU false d).toNat : Int)) ∧ (9 < d → (65 + (d : Int) - 10) = ((hexU true d).toNat : Int)) ∧ (¬ 9 < d → (48 + (d : Int)) = ((hexU up d).toNat : Int))) := Lib.hid ⟨hexU_lo ⟨d, hd⟩, hexU_up ⟨d, hd⟩, hexU_dg up ⟨d, hd⟩⟩
      have HREL : Hid (∀ wr', Below w.heap.size w wr' → (∃ k : Nat, k ≤ cnt n least ∧ Value.int .i64 (q : Int) = .int .i64 ((n / 16 ^ k : Nat) : Int) ∧ Value.string (ByteArray.mk #[hexU up d] ++ ByteArray.mk t.toArray) = .string ⟨(lowU up n k).toArray⟩ ∧ Below w.heap.size w wr') ∧ (5 - (ByteArray.mk #[hexU up d] ++ ByteArray.mk t.toArray).size < 5 - (ByteArray.mk t.toArray).size)) := Lib.hid (fun wr' hb => by
        have e := str_app [hexU up d] t
        have e' : (ByteArray.mk #[hexU up d] ++ ByteArray.mk t.toArray) = ByteArray.mk (lowU up n (k + 1)).toArray := by rw [HSUCC.out]; exact e
        refine ⟨⟨k + 1, by omega, by rw [HDIV.out], by rw [e'], hb⟩, ?_⟩
        rw [e', bsize, lowU_length, hsz]
        omega)
      clear HSUCC HDIV
      generalize cnt n least = ct at *
      rcases Nat.lt_or_ge 0 m with hm | hm
      · have hm' : (0 : Int) < (m : Int) := by omega
        by_cases h9 : 9 < d
        · have h9' : (9 : Int) < (d : Int) := by omega
          cases up
          · have hcv := HC.out _ (HEX.out.1 h9)
            generalize hexU false d = c at *
            go_wp2_with fail
            exact HREL.out _ (HB.out _)
          · have hcv := HC.out _ (HEX.out.2.1 h9)
            generalize hexU true d = c at *
            go_wp2_with fail
            exact HREL.out _ (HB.out _)
        · have h9' : ¬ (9 : Int) < (d : Int) := by omega
          have hcv := HC.out _ (HEX.out.2.2 h9)
          generalize hexU up d = c at *
          go_wp2_with fail
          exact HREL.out _ (HB.out _)
      · have hm' : ¬ (0 : Int) < (m : Int) := by omega
        have hk' : (k : Int) < (least : Int) := by omega
        by_cases h9 : 9 < d
        · have h9' : (9 : Int) < (d : Int) := by omega
          cases up
          · have hcv := HC.out _ (HEX.out.1 h9)
            generalize hexU false d = c at *
            go_wp2_with fail
            exact HREL.out _ (HB.out _)
          · have hcv := HC.out _ (HEX.out.2.1 h9)
            generalize hexU true d = c at *
            go_wp2_with fail
            exact HREL.out _ (HB.out _)
        · have h9' : ¬ (9 : Int) < (d : Int) := by omega
          have hcv := HC.out _ (HEX.out.2.2 h9)
          generalize hexU up d = c at *
          go_wp2_with fail
          exact HREL.out _ (HB.out _)
    · have hm0 : ¬ (0 : Int) < (m : Int) := by omega
      have hk0 : ¬ (k : Int) < (least : Int) := by omega
      obtain rfl := HEND.out (by omega) (by omega)
      go_wp2_with fail
      go_ret
      exact ⟨rfl, HW.out⟩
#print axioms hexl_c
end Go.Proofs.YtclfhajapohogaaDoor
