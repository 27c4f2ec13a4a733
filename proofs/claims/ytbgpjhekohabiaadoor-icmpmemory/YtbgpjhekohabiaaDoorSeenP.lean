/-
  What the five errors about a right packet tell: plain data.
-/
import Derived.Test.YtbgpjhekohabiaaDoorLookB
import Derived.Test.YtbgpjhekohabiaaDoorAbt
namespace Go.Proofs.YtbgpjhekohabiaaDoor
open Num
set_option linter.unusedVariables false
set_option maxHeartbeats 1000000

structure Seen (p : Pk) (b : List Int) (n : Nat) (t : Int) (k : Nat) (m : Mg) : Prop where
  e : errsP b t k = (m, 0)
  v : m.v = p.v
  er : errP m = true
  lk : lookP m = ({ p with d := p.d.take n }, (b.length : Int), 0)
  re : m.re = if k = 0 then t else 0
  d : m.d = b.take m.d.length
  dl : m.d.length ≤ b.length
  d1 : m.d.length ≤ 1232
  d4 : p.v = 4 → m.d.length ≤ 68
theorem errs_ok {b : List Int} {t : Int} {k : Nat} {m : Mg} (h0 : 0 ≤ t) (h1 : t ≤ 65535) (h : aboutP b k = (m, 0)) (hm : m.re = 0) : errsP b t k = ({ m with re := if k = 0 then t else 0 }, 0) := by
  unfold errsP
  split
  · rename_i hk; subst hk
    unfold bigP
    rw [if_pos ⟨h0, h1⟩, h]
    simp
  · rw [h]
    obtain ⟨v, ty, co, re, d⟩ := m
    simp only at hm
    subst hm
    rfl
theorem seen4 {p : Pk} {t : Int} {k : Nat} (hw : Wf p) (hr : rightP p = true) (h0 : 0 ≤ t) (h1 : t ≤ 65535) (hk : k < 5) : ∃ m, Seen p (lay4 p) 8 t k m := by
  obtain ⟨hf, hv⟩ := (right_iff p).1 hr
  have hl := lay4_len hw
  have hh := head_of4 hw hr
  have hp := parse_lay4 hw hr
  have hvl := valid_len hv
  have ha : aboutP (lay4 p) k = (⟨4, ty4 k, co4 k, 0, (lay4 p).take (endP (lay4 p))⟩, 0) := by unfold aboutP; rw [if_pos (by rw [hp])]
  have he : endP (lay4 p) = min (lay4 p).length (headN (lay4 p) + 8) := rfl
  have hlen : ((lay4 p).take (endP (lay4 p))).length = endP (lay4 p) := by rw [List.length_take]; omega
  refine ⟨_, errs_ok h0 h1 ha rfl, hf.v.symm, ?_, ?_, rfl, ?_, ?_, ?_, ?_⟩
  · obtain rfl | rfl | rfl | rfl | rfl : k = 0 ∨ k = 1 ∨ k = 2 ∨ k = 3 ∨ k = 4 := by omega
    all_goals simp [errP, ty4]
  · unfold lookP
    rw [if_pos rfl]
    show look4P ((lay4 p).take (endP (lay4 p))) = _
    rw [look4_cut hp (by omega) (by omega)]
    have e : p.d.take (endP (lay4 p) - headN (lay4 p)) = p.d.take 8 := by
      rcases Nat.lt_or_ge p.d.length 8 with h | h
      · rw [List.take_of_length_le (by omega), List.take_of_length_le (by omega)]
      · rw [show endP (lay4 p) - headN (lay4 p) = 8 from by omega]
    rw [e]
  · show (lay4 p).take (endP (lay4 p)) = (lay4 p).take ((lay4 p).take (endP (lay4 p))).length
    rw [hlen]
  · show ((lay4 p).take (endP (lay4 p))).length ≤ _; omega
  · show ((lay4 p).take (endP (lay4 p))).length ≤ _; omega
  · intro _; show ((lay4 p).take (endP (lay4 p))).length ≤ _; omega
theorem no4_of6 {p : Pk} (hw : Wf p) (hr : S6.rightP p = true) : (parse4 (S6.lay6 p)).2 ≠ 0 := by
  have h : (S6.parse6 (S6.lay6 p)).2 = 0 := by rw [S6.parse_lay6 hw hr]
  obtain ⟨hm, _⟩ := S6.parse6_ok h
  obtain ⟨h40, h6, h4, h48⟩ := S6.meas_ok hm
  exact no4_v fun h' => by rw [h6]; decide
theorem seen6 {p : Pk} {t : Int} {k : Nat} (hw : Wf p) (hr : S6.rightP p = true) (h0 : 0 ≤ t) (h1 : t ≤ 65535) (hk : k < 5) : ∃ m, Seen p (S6.lay6 p) (1232 - S6.hofP p) t k m := by
  have hg := (S6.right_iff p).1 hr
  have hl := S6.lay6_len hw
  have hh := head_of6 hw hr
  have hpp := S6.parse_lay6 hw hr
  have hp : (S6.parse6 (S6.lay6 p)).2 = 0 := by rw [hpp]
  have hof : S6.hofP p = 40 ∨ S6.hofP p = 48 := by unfold S6.hofP; split <;> simp
  have ha : aboutP (S6.lay6 p) k = (⟨6, ty6 k, co6 k, 0, (S6.lay6 p).take (min (S6.lay6 p).length 1232)⟩, 0) := by unfold aboutP; rw [if_neg (no4_of6 hw hr), if_pos hp]
  have hlen : ((S6.lay6 p).take (min (S6.lay6 p).length 1232)).length = min (S6.lay6 p).length 1232 := by rw [List.length_take]; omega
  refine ⟨_, errs_ok h0 h1 ha rfl, hg.v.symm, ?_, ?_, rfl, ?_, ?_, ?_, ?_⟩
  · obtain rfl | rfl | rfl | rfl | rfl : k = 0 ∨ k = 1 ∨ k = 2 ∨ k = 3 ∨ k = 4 := by omega
    all_goals simp [errP, ty6]
  · unfold lookP
    rw [if_neg (by simp), if_pos rfl]
    show S6.look6P ((S6.lay6 p).take (min (S6.lay6 p).length 1232)) = _
    rw [look6_cut hp (by omega) (by omega), hpp]
    have e : p.d.take (min (S6.lay6 p).length 1232 - head6 (S6.lay6 p)) = p.d.take (1232 - S6.hofP p) := by
      rcases Nat.lt_or_ge p.d.length (1232 - S6.hofP p) with h | h
      · rw [List.take_of_length_le (by omega), List.take_of_length_le (by omega)]
      · rw [show min (S6.lay6 p).length 1232 - head6 (S6.lay6 p) = 1232 - S6.hofP p from by omega]
    rw [e]
  · show (S6.lay6 p).take (min (S6.lay6 p).length 1232) = (S6.lay6 p).take ((S6.lay6 p).take (min (S6.lay6 p).length 1232)).length
    rw [hlen]
  · show ((S6.lay6 p).take (min (S6.lay6 p).length 1232)).length ≤ _; omega
  · show ((S6.lay6 p).take (min (S6.lay6 p).length 1232)).length ≤ _; omega
  · intro h; rw [hg.v] at h; exact absurd h (by decide)
#print axioms seen6
end Go.Proofs.YtbgpjhekohabiaaDoor
