/-
  Steps that the texts below share.
-/
import Derived.Test.YtaicckenpplceaaGreatDoorRecM
namespace Go.Proofs.YtaicckenpplceaaGreatDoor
open Go.ChangeShapes Go.WideShapes Go.ChangeAt Go.RowKit Num
set_option linter.unusedVariables false
set_option maxHeartbeats 4000000
set_option maxRecDepth 100000

theorem Owns.shape {w : World} {v : Value} {l : List Int} (h : Owns w v l) : ∃ a cap, v = .slice a l.length cap := by
  rcases h.2 with ⟨rfl, h2⟩ | ⟨g, cap, cur, rfl, -⟩
  · exact ⟨none, 0, by rw [show l.length = 0 from by simpa using h2]⟩
  · exact ⟨some ⟨g, 0, none⟩, cap, by simp⟩
theorem Owns.shape' {w : World} {v : Value} {l : List Int} (h : Owns w v l) (hl : l ≠ []) : ∃ b cap, v = .slice (some ⟨b, 0, none⟩) l.length cap := by
  rcases h.2 with ⟨rfl, h2⟩ | ⟨g, cap, cur, rfl, -⟩
  · exact absurd (List.eq_nil_of_length_eq_zero (by simpa using h2)) hl
  · exact ⟨g, cap, by simp⟩
theorem Owns.head {w : World} {b n cap : Nat} {l : List Int} (h : Owns w (.slice (some ⟨b, 0, none⟩) n cap) l) (k : Nat) (hk : k ≤ l.length) : Owns w (.slice (some ⟨b, 0, none⟩) k cap) (l.take k) := by
  rcases h.2 with ⟨h2, -⟩ | ⟨g, cap', cur, he, hg, hh, hn, hc, hs, ht⟩
  · simp at h2
  · simp only [Value.slice.injEq, Option.some.injEq, Addr.mk.injEq] at he
    obtain ⟨⟨rfl, -, -⟩, -, rfl⟩ := he
    have hlen : ((l.take k).map (Value.int .u8)).length = k := by rw [List.length_map, List.length_take]; omega
    refine ⟨by rw [hlen]; simp, .inr ⟨b, cap, cur, by rw [hlen], hg, hh, by rw [hlen]; simp at hn; omega, hc, hs, ?_⟩⟩
    rw [hlen]
    simp only [List.length_map, Nat.mul_one] at ht ⊢
    rw [List.map_take, ← ht, List.take_take, Nat.min_eq_left hk]
theorem Row.at {w : World} {a : Option Addr} {l : List Int} (h : Row w a l) (i : Nat) (hi : i < l.length) : ∃ b off, a = some ⟨b, off, none⟩ ∧ w.cell? ⟨b, off + i, none⟩ = some (.int .u8 (gt l i)) := by
  rcases h.2.2 with h0 | ⟨b, off, rfl, hc⟩
  · rw [h0] at hi; simp at hi
  · exact ⟨b, off, rfl, hc i hi⟩
/-- A variable of its own for a packet. -/
theorem Pkt.zero (w : World) : Pkt w zeroPk (.slice none 0 0) (.slice none 0 0) := ⟨zero_wf, Sl.nil _, Sl.nil _⟩
theorem pkt_of {w : World} {p : Pk} {ov dv : Value} (hw : Wf p) (ho : Owns w ov p.o) (hd : Owns w dv p.d) : Pkt w p ov dv := ⟨hw, ho.sl hw.o hw.ol, hd.sl hw.d hw.dn⟩
end Go.Proofs.YtaicckenpplceaaGreatDoor
