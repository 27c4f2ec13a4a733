/-
  What a whole script writes; 'size'.
-/
import Derived.Test.YtaiomhhndckccaaGot
namespace Go.Proofs.Ytaiomhhndckccaa
open Go.ChangeShapes Go.WideShapes Go.ChangeAt Go.RowKit Go.Deep
set_option linter.unusedVariables false

def flat (ops : List OpD) : List Int := (ops.map opBytes).flatten
theorem flat_nil : flat [] = [] := rfl
theorem take_op {ops : List OpD} {k : Nat} {o : OpD} (h : ops[k]? = some o) : ops.take (k + 1) = ops.take k ++ [o] := by
  obtain ⟨hk, rfl⟩ := List.getElem?_eq_some_iff.mp h
  exact List.take_succ_eq_append_getElem hk
theorem flat_take {ops : List OpD} {k : Nat} {o : OpD} (h : ops[k]? = some o) : flat (ops.take (k + 1)) = flat (ops.take k) ++ opBytes o := by
  rw [take_op h]; simp [flat]
theorem flat_drop {ops : List OpD} {k : Nat} {o : OpD} (h : ops[k]? = some o) : flat (ops.drop k) = opBytes o ++ flat (ops.drop (k + 1)) := by
  obtain ⟨hk, rfl⟩ := List.getElem?_eq_some_iff.mp h
  rw [List.drop_eq_getElem_cons hk]; simp only [flat, List.map_cons, List.flatten_cons]
theorem flat_split (ops : List OpD) (k : Nat) : flat ops = flat (ops.take k) ++ flat (ops.drop k) := by
  conv => lhs; rw [← List.take_append_drop k ops]
  simp only [flat, List.map_append, List.flatten_append]
theorem flat_take_le (ops : List OpD) (k : Nat) : (flat (ops.take k)).length ≤ (flat ops).length := by
  rw [flat_split ops k]; simp
theorem flat_len : ∀ ops : List OpD, (flat ops).length ≤ (ops.map (fun o => o.b.length + 4)).sum
  | [] => by simp [flat]
  | o :: r => by
    have h1 := flat_len r
    have h2 := opBytes_len o
    simp only [flat, List.map_cons, List.flatten_cons, List.length_append, List.sum_cons] at h1 ⊢
    omega
theorem flat_bytes {w : World} : ∀ ops : List OpD, (∀ o ∈ ops, o.ok w) → Bytes (flat ops)
  | [], _ => Bytes.nil
  | o :: r, h => by
    have := (opBytes_bytes (h o (by simp))).app (flat_bytes r (fun x hx => h x (List.mem_cons_of_mem _ hx)))
    simpa [flat] using this
theorem rd_app (m r : List Int) : rdOut (m ++ r) 0 m.length = m ∧ rdRest (m ++ r) 0 m.length = r ∧ rdErr (m ++ r) 0 m.length = 0 := by
  have h1 : (m.length : Int) ≤ ((m ++ r).length : Int) := by simp; omega
  refine ⟨?_, ?_, ?_⟩
  · unfold rdOut; rw [if_pos ⟨rfl, by omega, h1⟩, Int.toNat_natCast, List.take_left]
  · unfold rdRest; rw [if_pos ⟨rfl, by omega, h1⟩, Int.toNat_natCast, List.drop_left]
  · unfold rdErr; rw [if_pos rfl, if_neg (by omega), if_pos h1]
theorem rd_short (l : List Int) (n : Nat) (h : l.length < n) : rdRest l 0 n = l ∧ rdErr l 0 n = 20 := by
  refine ⟨?_, ?_⟩
  · unfold rdRest; rw [if_neg (by omega)]
  · unfold rdErr; rw [if_pos rfl, if_neg (by omega), if_neg (by omega)]
theorem rd_stuck (l : List Int) (n : Int) : rdRest l 20 n = l ∧ rdErr l 20 n = 20 := ⟨by unfold rdRest; rw [if_neg (by omega)], by unfold rdErr; rw [if_neg (by omega)]⟩
theorem wr_app (l m : List Int) (lim : Int) (h : (l.length : Int) + m.length ≤ lim) : wrAll l 0 lim m = l ++ m ∧ wrErr l 0 lim m.length = 0 := ⟨by unfold wrAll; rw [if_pos ⟨rfl, h⟩], by unfold wrErr; rw [if_pos rfl, if_pos h]⟩
theorem wr_over (l m : List Int) (lim : Int) (h : ¬ ((l.length : Int) + m.length ≤ lim)) : wrAll l 0 lim m = l ∧ wrErr l 0 lim m.length = 3 := ⟨by unfold wrAll; rw [if_neg (fun x => h x.2)], by unfold wrErr; rw [if_pos rfl, if_neg h]⟩
theorem wr_stuck (l m : List Int) (lim n : Int) : wrAll l 3 lim m = l ∧ wrErr l 3 lim n = 3 := ⟨by unfold wrAll; rw [if_neg (by omega)], by unfold wrErr; rw [if_neg (by omega)]⟩
/-- A reader of all but the last byte. -/
theorem cut_step (m r : List Int) (h : m ++ r ≠ []) : (r ≠ [] ∧ rdRest (m ++ r).dropLast 0 m.length = r.dropLast ∧ rdErr (m ++ r).dropLast 0 m.length = 0) ∨ (rdRest (m ++ r).dropLast 0 m.length = (m ++ r).dropLast ∧ rdErr (m ++ r).dropLast 0 m.length = 20) := by
  by_cases hr : r = []
  · right
    subst hr
    rw [List.append_nil] at h ⊢
    refine rd_short _ _ ?_
    have : 0 < m.length := List.length_pos_iff.mpr h
    simp; omega
  · left
    refine ⟨hr, ?_⟩
    rw [List.dropLast_append_of_ne_nil hr]
    have := rd_app m r.dropLast
    exact ⟨this.2.1, this.2.2⟩

set_option maxRecDepth 100000 in
set_option maxHeartbeats 1000000 in
theorem size_any (w : World) (a : Option Addr) (ops : List OpD) (cap : Nat) (hsc : Script w a ops) (hlen : (flat ops).length ≤ 1048576) :
    Calls Try.prog 35 #[.slice a ops.length cap] w fun E w' => E = .returned (.int .i64 (flat ops).length) ∧ w' = w := by
  have hol := hsc.1
  go_enter Try.func35, Try.ntmps35
  go_wp2_with fail
  go_loop [3, 4] (fun n i => ∃ k : Nat, k ≤ ops.length ∧ i = .int .i64 k ∧ n = .int .i64 (flat (ops.take k)).length) (fun _ i => ops.length - (intOf i).toNat)
  case atStart => exact ⟨0, by omega, rfl, rfl⟩
  case round =>
    obtain ⟨k, hk, rfl, rfl⟩ := hrel
    have hle := flat_take_le ops k
    by_cases hlt : k < ops.length
    · rcases hsc.2.2 with h0 | ⟨b, off, rfl, hcell⟩
      · rw [h0] at hlt; simp at hlt
      obtain ⟨o, ho⟩ : ∃ o, ops[k]? = some o := ⟨_, List.getElem?_eq_getElem hlt⟩
      obtain ⟨c0, c1, c2, c3, c4⟩ := hcell k o ho
      have hok := hsc.2.1 o (List.mem_of_getElem? ho)
      have hbl : o.b.length ≤ 140737488351232 := by have := hok.2.2.2.2.2.2; omega
      have HF : Hid ((flat (ops.take (k + 1))).length = (flat (ops.take k)).length + (opBytes o).length) := by show _ = _; rw [flat_take ho]; simp
      clear hcell ho hsc
      obtain ⟨kd, who, n, x, ba, bc, bb⟩ := o
      simp only at c0 c1 c2 c3 c4 hbl
      generalize (flat (ops.take k)).length = N at *
      by_cases h1 : kd = 1
      · subst h1
        rw [show opBytes ⟨1, who, n, x, ba, bc, bb⟩ = [x % 256] from by simp [opBytes]] at HF
        go_wp2_with fail
        exact ⟨⟨k + 1, by omega, by go_num, by rw [HF.out]; simp⟩, by simp [intOf]; omega⟩
      have b1 : (kd == 1) = false := by simp [h1]
      by_cases h2 : kd = 2
      · subst h2
        rw [show opBytes ⟨2, who, n, x, ba, bc, bb⟩ = [x % 65536 / 256, x % 65536 % 256] from by simp [opBytes]] at HF
        go_wp2_with fail
        exact ⟨⟨k + 1, by omega, by go_num, by rw [HF.out]; simp⟩, by simp [intOf]; omega⟩
      have b2 : (kd == 2) = false := by simp [h2]
      by_cases h3 : kd = 3
      · subst h3
        rw [show opBytes ⟨3, who, n, x, ba, bc, bb⟩ = [x / 16777216, x / 65536 % 256, x / 256 % 256, x % 256] from by simp [opBytes]] at HF
        go_wp2_with fail
        exact ⟨⟨k + 1, by omega, by go_num, by rw [HF.out]; simp⟩, by simp [intOf]; omega⟩
      have b3 : (kd == 3) = false := by simp [h3]
      by_cases h4 : kd = 4
      · subst h4
        rw [show opBytes ⟨4, who, n, x, ba, bc, bb⟩ = bb from by simp [opBytes]] at HF
        go_wp2_with fail
        exact ⟨⟨k + 1, by omega, by go_num, by rw [HF.out]; simp⟩, by simp [intOf]; omega⟩
      have b4 : (kd == 4) = false := by simp [h4]
      rw [show opBytes ⟨kd, who, n, x, ba, bc, bb⟩ = [] from by simp [opBytes, h1, h2, h3, h4]] at HF
      go_wp2_with fail
      exact ⟨⟨k + 1, by omega, by go_num, by rw [HF.out]; simp⟩, by simp [intOf]; omega⟩
    · have e0 : ops.take k = ops := List.take_of_length_le (by omega)
      have HE : Hid (ops.take k = ops) := e0
      clear e0
      go_wp2_with fail
      go_ret
      exact ⟨by rw [HE.out]; rfl, rfl⟩
#print axioms size_any
end Go.Proofs.Ytaiomhhndckccaa
