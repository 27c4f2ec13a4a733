/-
  What Look tells of a right packet's bytes cut off, by the packet: plain data.
-/
import Derived.Test.YtbgpjhekohabiaaDoorLookN
namespace Go.Proofs.YtbgpjhekohabiaaDoor
open Num
set_option linter.unusedVariables false
set_option maxHeartbeats 1000000

theorem head_of4 {p : Pk} (hw : Wf p) (hr : rightP p = true) : headN (lay4 p) = 20 + p.o.length := by
  obtain ⟨hf, hv⟩ := (right_iff p).1 hr
  exact (head_lay hw hf (valid_len hv) p.d _ _).1
theorem look_b4 {p : Pk} (hw : Wf p) (hr : rightP p = true) {n : Nat} (hn : n < (lay4 p).length) :
    (n < (lay4 p).length - p.d.length → lookP ⟨p.v, 3, 0, 0, (lay4 p).take n⟩ = (zeroPk, 0, 20)) ∧ ((lay4 p).length - p.d.length ≤ n → ∃ q, lookP ⟨p.v, 3, 0, 0, (lay4 p).take n⟩ = (q, ((lay4 p).length : Int), 0)) := by
  obtain ⟨hf, hv⟩ := (right_iff p).1 hr
  have hl := lay4_len hw
  have hh := head_of4 hw hr
  have hp := parse_lay4 hw hr
  unfold lookP
  rw [if_pos hf.v]
  refine ⟨fun h => look4_cut_short hp (by omega) (by omega), fun h => ⟨_, look4_cut hp (by omega) (by omega)⟩⟩
theorem head_of6 {p : Pk} (hw : Wf p) (hr : S6.rightP p = true) : head6 (S6.lay6 p) = S6.hofP p := by
  have hg := (S6.right_iff p).1 hr
  have e : gt (S6.lay6 p) 6 = S6.nextP p := by rw [S6.lay6_bs hw]; rfl
  unfold head6 S6.hofP
  rw [e]
  unfold S6.nextP
  have := hg.r44
  cases hq : p.frag
  · simp [this]
  · simp
theorem look_b6 {p : Pk} (hw : Wf p) (hr : S6.rightP p = true) {n : Nat} (hn : n < (S6.lay6 p).length) :
    (n < (S6.lay6 p).length - p.d.length → lookP ⟨p.v, 3, 0, 0, (S6.lay6 p).take n⟩ = (zeroPk, 0, 20)) ∧ ((S6.lay6 p).length - p.d.length ≤ n → ∃ q, lookP ⟨p.v, 3, 0, 0, (S6.lay6 p).take n⟩ = (q, ((S6.lay6 p).length : Int), 0)) := by
  have hg := (S6.right_iff p).1 hr
  have hl := S6.lay6_len hw
  have hh := head_of6 hw hr
  have hp : (S6.parse6 (S6.lay6 p)).2 = 0 := by rw [S6.parse_lay6 hw hr]
  unfold lookP
  rw [if_neg (show ¬ p.v = 4 by rw [hg.v]; decide), if_pos (show p.v = 6 from hg.v)]
  refine ⟨fun h => look6_cut_short hp (by omega) (by omega), fun h => ⟨_, look6_cut hp (by omega) (by omega)⟩⟩
end Go.Proofs.YtbgpjhekohabiaaDoor
