/-
  mended, as plain data.
-/
import Derived.Test.YtkfbhofbajejiaaDoorOwnP
namespace Go.Proofs.YtkfbhofbajejiaaDoor
open Go.ChangeShapes Go.WideShapes Go.ChangeAt Go.RowKit Num
set_option linter.unusedVariables false

theorem and255 (n : Int) : 0 ≤ bits .and .i64 n 255 ∧ bits .and .i64 n 255 ≤ 255 := by
  have h : (BitVec.ofInt 64 255).toNat = 255 := by decide
  have key : (BitVec.ofInt 64 n &&& BitVec.ofInt 64 255).toNat ≤ 255 := by rw [BitVec.toNat_and, h]; exact Nat.and_le_right
  have e : bits .and .i64 n 255 = IntKind.i64.wrap ((BitVec.ofInt 64 n &&& BitVec.ofInt 64 255).toNat : Nat) := rfl
  rw [e, IntKind.wrap_i64]
  generalize (BitVec.ofInt 64 n &&& BitVec.ofInt 64 255).toNat = m at *
  omega
theorem and65528 (n : Int) : 0 ≤ bits .and .i64 n 65528 ∧ bits .and .i64 n 65528 ≤ 65528 ∧ bits .and .i64 n 65528 % 8 = 0 := by
  have h : (BitVec.ofInt 64 65528).toNat = 65528 := by decide
  have key : (BitVec.ofInt 64 n &&& BitVec.ofInt 64 65528).toNat ≤ 65528 := by rw [BitVec.toNat_and, h]; exact Nat.and_le_right
  have k8 : (BitVec.ofInt 64 n &&& BitVec.ofInt 64 65528).toNat % 8 = 0 := by
    rw [BitVec.toNat_and, h, ← nat_mask3, Nat.and_assoc, show 65528 &&& 7 = 0 from by decide, Nat.and_zero]
  have e : bits .and .i64 n 65528 = IntKind.i64.wrap ((BitVec.ofInt 64 n &&& BitVec.ofInt 64 65528).toNat : Nat) := rfl
  rw [e, IntKind.wrap_i64]
  generalize (BitVec.ofInt 64 n &&& BitVec.ofInt 64 65528).toNat = m at *
  omega
theorem andid (n : Int) (h0 : 0 ≤ n) (h1 : n ≤ 4294967295) : 0 ≤ bits .and .u32 n 65535 ∧ bits .and .u32 n 65535 ≤ 65535 := by
  rw [u32_and _ _ h0 (by omega) (by omega) (by omega)]
  have : n.toNat &&& (65535 : Int).toNat ≤ 65535 := Nat.and_le_right
  omega
def mendM (p : Pk) : Nat := min (p.o.length / 4 * 4) 40
def mendOff (p : Pk) : Int := bits .and .i64 p.off 65528
def mendN1 (p : Pk) : Int := if 65535 - mendOff p < (p.d.length : Int) then 65535 - mendOff p else p.d.length
def mendN2 (p : Pk) : Int := if 65515 - (mendM p : Int) < mendN1 p then 65515 - (mendM p : Int) else mendN1 p
def mendN3 (p : Pk) : Int := if p.more = true then mendN2 p / 8 * 8 else mendN2 p
def mendP (p : Pk) : Pk :=
  ⟨4, bits .and .i64 p.tos 255, 0, 4, p.sb.take 4 ++ z12, 4, p.db.take 4 ++ z12, bits .and .i64 p.proto 255, bits .and .i64 p.ttl 255, bits .and .u32 p.id 65535, p.df, if mendN3 p = 0 then false else p.more, false, if mendN3 p = 0 then 0 else mendOff p, List.replicate (mendM p) 1, p.d.take (mendN3 p).toNat⟩
theorem mendM_bd (p : Pk) : mendM p ≤ 40 ∧ mendM p % 4 = 0 := by unfold mendM; omega
theorem mendN_bd (p : Pk) : 0 ≤ mendN1 p ∧ 0 ≤ mendN2 p ∧ 0 ≤ mendN3 p ∧ mendN1 p ≤ p.d.length ∧ mendN2 p ≤ mendN1 p ∧ mendN3 p ≤ mendN2 p ∧ mendOff p + mendN3 p ≤ 65535 ∧ 20 + (mendM p : Int) + mendN3 p ≤ 65535 ∧ (p.more = true → mendN3 p % 8 = 0) := by
  have h := and65528 p.off
  have hm := mendM_bd p
  have e : mendOff p = bits .and .i64 p.off 65528 := rfl
  have e1 : mendN1 p = if 65535 - mendOff p < (p.d.length : Int) then 65535 - mendOff p else p.d.length := rfl
  have e2 : mendN2 p = if 65515 - (mendM p : Int) < mendN1 p then 65515 - (mendM p : Int) else mendN1 p := rfl
  have e3 : mendN3 p = if p.more = true then mendN2 p / 8 * 8 else mendN2 p := rfl
  rw [← e] at h
  generalize mendN3 p = n3 at *
  generalize mendN2 p = n2 at *
  generalize mendN1 p = n1 at *
  generalize mendOff p = o at *
  generalize mendM p = m at *
  generalize p.more = mo at *
  cases mo
  · rw [if_neg (by simp)] at e3
    split at e1 <;> split at e2 <;> exact ⟨by omega, by omega, by omega, by omega, by omega, by omega, by omega, by omega, fun h => by simp at h⟩
  · rw [if_pos rfl] at e3
    split at e1 <;> split at e2 <;> exact ⟨by omega, by omega, by omega, by omega, by omega, by omega, by omega, by omega, fun _ => by omega⟩
theorem parse_ones : ∀ k : Nat, (parseP (List.replicate k 1)).isSome = true
  | 0 => by rw [List.replicate_zero, parseP_nil]; rfl
  | k + 1 => by
    rw [List.replicate_succ, parseP_one]
    have := parse_ones k
    cases h : parseP (List.replicate k 1) with
    | none => rw [h] at this; simp at this
    | some l => rfl
theorem valid_ones {k : Nat} (h : k ≤ 40) (h4 : k % 4 = 0) : validP (List.replicate k 1) = true := by
  unfold validP
  rw [parse_ones, List.length_replicate]
  simp [h, h4]
theorem mend_wf {p : Pk} (h : Wf p) : Wf (mendP p) := by
  have ht := and255 p.tos; have hr := and255 p.proto; have hl := and255 p.ttl; have hi := andid p.id h.id0 h.id1; have ho := and65528 p.off
  have hm := mendM_bd p
  have hn := mendN_bd p
  have hz : Bytes z12 := by unfold Bytes z12; decide
  refine ⟨by simp [mendP, i64ok], ?_, by simp [mendP, i64ok], by simp [mendP, i64ok], ?_, (h.sb.take 4).app hz, by simp [mendP, i64ok], ?_, (h.db.take 4).app hz, ?_, ?_, ?_, ?_, ?_, ?_, ?_, h.d.take _, ?_⟩
  · simp only [mendP, i64ok]; omega
  · simp [mendP, z12, h.sl]
  · simp [mendP, z12, h.dl]
  · simp only [mendP, i64ok]; omega
  · simp only [mendP, i64ok]; omega
  · simp only [mendP]; omega
  · simp only [mendP]; omega
  · simp only [mendP, i64ok, mendOff]; split <;> omega
  · intro n hn
    simp only [mendP] at hn
    rw [List.eq_of_mem_replicate hn]; omega
  · simp only [mendP, List.length_replicate]; omega
  · simp only [mendP, List.length_take]; have := h.dn; omega
theorem mend_len {p : Pk} : (mendP p).d.length = (mendN3 p).toNat := by
  have hn := mendN_bd p
  simp only [mendP, List.length_take]; omega
theorem mend_right {p : Pk} (h : Wf p) : rightP (mendP p) = true := by
  have ht := and255 p.tos; have hr := and255 p.proto; have hl := and255 p.ttl; have hi := andid p.id h.id0 h.id1; have ho := and65528 p.off
  have hm := mendM_bd p
  have hn := mendN_bd p
  have hlen := @mend_len p
  have e : mendOff p = bits .and .i64 p.off 65528 := rfl
  rw [right_iff]
  refine ⟨⟨rfl, rfl, rfl, hi.2, ht.1, ht.2, hl.1, hl.2, hr.1, hr.2, rfl, ?_, rfl, ?_, ?_, ?_, ?_, ?_, ?_, ?_, ?_, ?_⟩, valid_ones hm.1 hm.2⟩
  · show (p.sb.take 4 ++ z12).drop 4 = z12
    rw [List.drop_append_of_le_length (by simp [h.sl]), List.drop_eq_nil_of_le (by simp; omega), List.nil_append]
  · show (p.db.take 4 ++ z12).drop 4 = z12
    rw [List.drop_append_of_le_length (by simp [h.dl]), List.drop_eq_nil_of_le (by simp; omega), List.nil_append]
  · show 0 ≤ if mendN3 p = 0 then 0 else mendOff p
    split <;> omega
  · show (if mendN3 p = 0 then 0 else mendOff p) ≤ 65528
    split <;> omega
  · show (if mendN3 p = 0 then 0 else mendOff p) % 8 = 0
    split <;> omega
  · intro hmo
    rw [hlen]
    have : (if mendN3 p = 0 then false else p.more) = true := hmo
    split at this
    · simp at this
    · have := hn.2.2.2.2.2.2.2.2 this; omega
  · intro hmo
    rw [hlen]
    have : (if mendN3 p = 0 then false else p.more) = true := hmo
    split at this
    · simp at this
    · omega
  · intro hof
    rw [hlen]
    have : 0 < if mendN3 p = 0 then 0 else mendOff p := hof
    split at this
    · simp at this
    · omega
  · rw [hlen]
    show (if mendN3 p = 0 then 0 else mendOff p) + ((mendN3 p).toNat : Int) ≤ 65535
    split <;> omega
  · rw [hlen]
    show 20 + (List.replicate (mendM p) (1 : Int)).length + (mendN3 p).toNat ≤ 65535
    rw [List.length_replicate]; omega
#print axioms mend_right
end Go.Proofs.YtkfbhofbajejiaaDoor
