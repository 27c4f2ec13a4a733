/-
  What every row's step shares.
-/
import Derived.Test.YtbjnhjdbnliofaaRows
import Derived.Test.YtbjnhjdbnliofaaPart
import Derived.ProofKit
import Derived.ShutString
import Derived.ChangeOld
import Derived.Below
import Derived.SizedLaws
namespace Go.Proofs.Ytbjnhjdbnliofaa
open Go.ChangeShapes Go.WideShapes Go.ChangeAt Go.RowKit Num
set_option linter.unusedVariables false

theorem ownKn : ownKnob Try.prog.godebug = none := by kernel_rfl
theorem laidOut : laidOutB Try.prog = true := by kernel_rfl

def kindBytes : IntKind → Nat
  | .u8 => 1
  | .u16 => 2
  | _ => 8

/-- A slice of integers that came in: nil, or a row of 'cap' cells. -/
def IsRow (k : IntKind) (w : World) (a : Option Addr) (len cap : Nat) (zs : List Int) : Prop :=
  (a = none ∧ len = 0 ∧ cap = 0 ∧ zs = []) ∨
  ∃ x, a = some x ∧ len ≤ cap ∧ cap * kindBytes k ≤ 140737488351232 ∧ zs.length = cap ∧ (∀ i, i < zs.length → w.cell? (x.add i) = some (.int k (zs.getD i 0))) ∧ ∀ n ∈ zs, (Lit.int k n).wf = true

/-- Of bytes: their list. -/
theorem view {w : World} {a : Option Addr} {len cap : Nat} {zs : List Int} (h : IsRow .u8 w a len cap zs) :
    ∃ l : List Int, l.length = len ∧ len ≤ cap ∧ cap ≤ 140737488351232 ∧ Row w a l := by
  rcases h with ⟨rfl, rfl, rfl, rfl⟩ | ⟨x, rfl, hl, hm, hz, hcell, hwz⟩
  · exact ⟨[], rfl, Nat.le_refl _, by omega, by simp, Bytes.nil, .inl rfl⟩
  · simp only [kindBytes] at hm
    refine ⟨zs.take len, by simp; omega, hl, by omega, by simp; omega, fun n hn => bounds_u8 (hwz n (List.mem_of_mem_take hn)), ?_⟩
    by_cases h0 : len = 0
    · left; subst h0; simp
    · right
      obtain ⟨b, off, spot⟩ := x
      have hspot : spot = none := by simpa [Addr.add] using World.cell?_spot (hcell 0 (by omega))
      subst hspot
      refine ⟨b, off, rfl, fun i hi => ?_⟩
      have hi' : i < len := by simp at hi; omega
      have := hcell i (by omega)
      rw [add_plain] at this
      rw [List.getElem?_take, if_pos hi']
      simpa using this
/-- Of ints. -/
theorem view64 {w : World} {a : Option Addr} {len cap : Nat} {zs : List Int} (h : IsRow .i64 w a len cap zs) :
    len ≤ 140737488351232 ∧ (len = 0 ∨ ∃ b off, a = some ⟨b, off, none⟩ ∧ ∀ i, i < len → w.cell? ⟨b, off + i, none⟩ = some (.int .i64 (zs[i]?.getD 0))) ∧ ∀ i : Nat, -9223372036854775808 ≤ zs[i]?.getD 0 ∧ zs[i]?.getD 0 ≤ 9223372036854775807 := by
  rcases h with ⟨rfl, rfl, rfl, rfl⟩ | ⟨x, rfl, hl, hm, hz, hcell, hwz⟩
  · exact ⟨by omega, .inl rfl, fun i => by simp⟩
  · simp only [kindBytes] at hm
    refine ⟨by omega, ?_, fun i => ?_⟩
    · by_cases h0 : len = 0
      · exact .inl h0
      · right
        obtain ⟨b, off, spot⟩ := x
        have hspot : spot = none := by simpa [Addr.add] using World.cell?_spot (hcell 0 (by omega))
        subst hspot
        refine ⟨b, off, rfl, fun i hi => ?_⟩
        have := hcell i (by omega)
        rw [add_plain] at this
        simpa using this
    · rcases Nat.lt_or_ge i zs.length with hi | hi
      · rw [List.getElem?_eq_getElem hi]; exact bounds_i64 (hwz _ (List.getElem_mem hi))
      · rw [List.getElem?_eq_none hi]; simp

theorem part_at (a : Option Addr) (l : List Int) (len cap : Nat) (w : World) (hl : l.length = len) (hcap : len ≤ cap) (hr : Row w a l) :
    Calls Try.prog 11 #[.slice a len cap] w fun e w' => e = .returned (.int .u16 (pt l)) ∧ ∃ n, w' = w.drewN n := by
  subst hl; exact part_any a l cap hcap w hr
theorem of_at (a : Option Addr) (l : List Int) (len cap : Nat) (w : World) (hl : l.length = len) (hcap : len ≤ cap) (hr : Row w a l) :
    Calls Try.prog 15 #[.slice a len cap] w fun e w' => e = .returned (.int .u16 (65535 - pt l)) ∧ ∃ n, w' = w.drewN n := by
  subst hl; exact of_any a l cap hcap w hr
theorem join_at (l m L : List Int) (n : Int) (w : World) (hl : Bytes l) (hm : Bytes m) (hn : n = l.length) (hlen : l.length ≤ 140737488355328) (hL : l ++ m = L) :
    Calls Try.prog 13 #[.int .u16 (pt l), .int .i64 n, .int .u16 (pt m)] w fun e w' => e = .returned (.int .u16 (pt L)) ∧ w' = w := by
  have e := pt_join hl hm n (by omega)
  rw [hL] at e
  rw [← e]
  have b1 := pt_bd hl
  have b2 := pt_bd hm
  exact join_any _ _ _ b1.1 b1.2 b2.1 b2.2 (by omega) (by omega) w
theorem rest_at (n m : Int) (w : World) (hn : -9223372036854775808 ≤ n ∧ n ≤ 9223372036854775807) (hm : 0 ≤ m) (hm' : m ≤ 1152921504606846976) :
    Calls Try.prog 12 #[.int .i64 n, .int .i64 m] w fun e w' => ∃ t : Nat, e = .returned (.int .i64 t) ∧ (t : Int) ≤ m ∧ w' = w := by
  refine (rest_any n m hn.1 hn.2 hm hm' w).mono ?_
  rintro e w' ⟨⟨k, rfl, h1, h2⟩, rfl⟩
  obtain ⟨t, rfl⟩ := Int.eq_ofNat_of_zero_le h1
  exact ⟨t, rfl, h2, rfl⟩

/-- A run of a row, as a reslice tells it. -/
theorem Row.sub {w : World} {a : Option Addr} {l : List Int} (h : Row w a l) (k m cap : Nat) (hcap : l.length ≤ cap) (hk : k ≤ l.length) : Row w (if cap = k then a else a.map (·.add k)) ((l.drop k).take m) := by
  obtain ⟨h1, h2, h3⟩ := h
  refine ⟨by simp; omega, (h2.drop k).take m, ?_⟩
  by_cases he : (l.drop k).take m = []
  · exact .inl he
  · right
    have hne : k < l.length := by
      rcases Nat.lt_or_ge k l.length with h | h
      · exact h
      · exact absurd (by rw [List.drop_eq_nil_of_le h]; simp) he
    rcases h3 with rfl | ⟨b, off, rfl, hc⟩
    · simp at hne
    · refine ⟨b, off + k, by rw [if_neg (by omega)]; simp [add_plain], fun i hi => ?_⟩
      have hi' : i < m ∧ k + i < l.length := by simp at hi; omega
      rw [List.getElem?_take, if_pos hi'.1, List.getElem?_drop, Nat.add_assoc]
      exact hc (k + i) hi'.2
theorem Row.head {w : World} {a : Option Addr} {l : List Int} (h : Row w a l) (m : Nat) : Row w a (l.take m) := by
  have := h.sub 0 m (l.length + 1) (by omega) (by omega)
  obtain ⟨h1, h2, h3⟩ := h
  refine ⟨by simp; omega, h2.take m, ?_⟩
  rcases h3 with rfl | ⟨b, off, rfl, hc⟩
  · left; simp
  · right
    refine ⟨b, off, rfl, fun i hi => ?_⟩
    have hi' : i < m ∧ i < l.length := by simp at hi; omega
    rw [List.getElem?_take, if_pos hi'.1]
    exact hc i hi'.2
theorem Row.tail {w : World} {a : Option Addr} {l : List Int} (h : Row w a l) (k cap : Nat) (hcap : l.length ≤ cap) (hk : k ≤ l.length) : Row w (if cap = k then a else a.map (·.add k)) (l.drop k) := by
  have := h.sub k l.length cap hcap hk
  rwa [List.take_of_length_le (by simp)] at this
theorem Row.subN {w : World} {a : Option Addr} {l : List Int} (h : Row w a l) (k m cap : Nat) (hcap : l.length ≤ cap) (hk : k ≤ l.length) (hn : k < cap) : Row w (a.map (·.add k)) ((l.drop k).take m) := by
  have := h.sub k m cap hcap hk
  rwa [if_neg (by omega)] at this
theorem Row.subE {w : World} {a : Option Addr} {l : List Int} (h : Row w a l) (k m cap : Nat) (hcap : l.length ≤ cap) (hk : k ≤ l.length) (hn : ¬ k < cap) : Row w a ((l.drop k).take m) := by
  have := h.sub k m cap hcap hk
  rwa [if_pos (by omega)] at this
theorem Row.tailN {w : World} {a : Option Addr} {l : List Int} (h : Row w a l) (k cap : Nat) (hcap : l.length ≤ cap) (hk : k ≤ l.length) (hn : k < cap) : Row w (a.map (·.add k)) (l.drop k) := by
  have := h.tail k cap hcap hk
  rwa [if_neg (by omega)] at this
theorem Row.tailE {w : World} {a : Option Addr} {l : List Int} (h : Row w a l) (k cap : Nat) (hcap : l.length ≤ cap) (hk : k ≤ l.length) (hn : ¬ k < cap) : Row w a (l.drop k) := by
  have := h.tail k cap hcap hk
  rwa [if_pos (by omega)] at this
/-- Reslices, told without a case: the place is given by an equation. -/
theorem size5 (wx : World) : (sizeOf (Try.prog.elem 26)).run Try.prog wx = .ok 1 wx := by kernel_rfl
theorem under26 : Try.prog.underlying 26 = some (.slice (Try.prog.elem 26)) := by kernel_rfl
theorem slice_lh (a A : Option Addr) (len cap k m : Nat) (lo hi : Int) (hA : A = if cap = k then a else a.map (·.add k)) (hlo : lo = k) (hhi : hi = k + m) (hm : k + m ≤ cap) (wx : World) :
    (Instr.sliceAt 26 (.slice a len cap) (some (.int .i64 lo)) (some (.int .i64 hi)) none).run Try.prog wx = .ok (.slice A m (cap - k)) wx := by
  subst hlo; subst hhi; subst hA
  rw [run_sliceAt_slice (h := under26), run_slice_lh (ht := under26) (h0 := by omega) (h1 := by omega) (h2 := by omega), size5]
  simp only [Result.andThen, sliced]
  rw [show (k : Int).toNat = k from by omega, show ((k : Int) + m).toNat = k + m from by omega, Nat.mul_one, show k + m - k = m from by omega]
theorem slice_l (a A : Option Addr) (len cap k : Nat) (lo : Int) (hA : A = if cap = k then a else a.map (·.add k)) (hlo : lo = k) (hm : k ≤ len) (wx : World) :
    (Instr.sliceAt 26 (.slice a len cap) (some (.int .i64 lo)) none none).run Try.prog wx = .ok (.slice A (len - k) (cap - k)) wx := by
  subst hlo; subst hA
  rw [run_sliceAt_slice (h := under26), run_slice_l (ht := under26) (h0 := by omega) (h1 := by omega), size5]
  simp only [Result.andThen, sliced]
  rw [show (k : Int).toNat = k from by omega, Nat.mul_one]
end Go.Proofs.Ytbjnhjdbnliofaa
