/-
  fit of the law.
-/
import Derived.Test.YtbmppdihceaacabFitN
import Derived.Test.YtbmppdihceaacabOwnP
import Derived.Deep.CutRange
namespace Go.Proofs.Ytbmppdihceaacab
open Go.ChangeShapes Go.WideShapes Go.ChangeAt Go.RowKit Num
set_option linter.unusedVariables false
set_option maxHeartbeats 4000000
set_option maxRecDepth 100000

theorem Owns.take {w : World} {a : Option Addr} {n cap m : Nat} {l : List Int} (h : Owns w (.slice a n cap) l) (hm : m ≤ l.length) : Owns w (.slice a m cap) (l.take m) := by
  obtain ⟨h1, h2⟩ := h
  refine ⟨by simp, ?_⟩
  rcases h2 with ⟨h2, h3⟩ | ⟨g, cap', cur, h2, hg, hh, hn, hc, hs, ht⟩
  · simp only [Value.slice.injEq] at h2
    obtain ⟨rfl, rfl, rfl⟩ := h2
    have hl : l = [] := by simpa using h3
    subst hl
    left
    simp at hm
    subst hm
    exact ⟨rfl, rfl⟩
  · simp only [Value.slice.injEq] at h2
    obtain ⟨rfl, rfl, rfl⟩ := h2
    right
    have e : ((l.take m).map (Value.int .u8)).length = m := by simp; omega
    simp only [List.length_map] at hn
    refine ⟨g, cap, cur, by rw [e], hg, hh, by rw [e]; omega, hc, hs, ?_⟩
    rw [e]
    simp only [List.length_map] at ht
    rw [List.map_take, ← ht, List.take_take]
    congr 1
    omega
/-- The state of fit: the packet at g1, the result at g2. -/
structure FS (w wx : World) (g1 g2 : Nat) (p : Pk) (ov dv : Value) : Prop where
  b1 : BoxP wx g1 p ov dv
  b2 : BoxP wx g2 zeroPk (.slice none 0 0) (.slice none 0 0)
  d : Owns wx dv p.d
  nd : New w.heap.size dv
  aw : Away [] w wx
  n1 : w.heap.size ≤ g1
  n2 : w.heap.size ≤ g2
  e1 : g1 ≠ g2
  k1 : ∀ k, dv.ownBlock = some k → k ≠ g1 ∧ k ≠ g2
  ad : Ad p
theorem FS.put {w wx : World} {g1 g2 : Nat} {p q : Pk} {ov ou dv : Value} (h : FS w wx g1 g2 p ov dv) (i : Nat) (x : Value) (hx : (csP p ov dv).setIfInBounds i x = csP q ou dv) (hd : q.d = p.d) (hq : Ad q) : FS w (wx.setCell ⟨g1, i, none⟩ x) g1 g2 q ou dv :=
  ⟨h.b1.put i x hx, h.b2.away (away_put i x) (by simp; exact fun e => h.e1 e.symm), by rw [hd]; exact h.d.away (away_put (g := g1) i x) (fun k hk => by simpa using (h.k1 k hk).1), h.nd, h.aw.setCell (.inr h.n1) _, h.n1, h.n2, h.e1, h.k1, hq⟩
theorem FS.data {w wx : World} {g1 g2 : Nat} {p : Pk} {ov : Value} {a : Option Addr} {n c m : Nat} (h : FS w wx g1 g2 p ov (.slice a n c)) (hm : m ≤ p.d.length) :
    FS w (wx.setCell ⟨g1, 45, none⟩ (.slice a m c)) g1 g2 { p with d := p.d.take m } ov (.slice a m c) := by
  have hob : (Value.slice a m c).ownBlock = (Value.slice a n c).ownBlock := by cases a <;> rfl
  exact ⟨h.b1.put 45 _ ((csP_set h.ad _ _).2.2.2.2.2.2.2.2.2.2.2.2.2 _ _), h.b2.away (away_put 45 _) (by simp; exact fun e => h.e1 e.symm), (h.d.take hm).away (away_put (g := g1) 45 _) (fun k hk => by rw [hob] at hk; simpa using (h.k1 k hk).1), fun k hk => h.nd k (by rw [← hob]; exact hk), h.aw.setCell (.inr h.n1) _, h.n1, h.n2, h.e1, fun k hk => h.k1 k (by rw [← hob]; exact hk), h.ad⟩
theorem u64mod (n m : Int) (hm : m = 256 ∨ m = 1048576 ∨ m = 65536) : wrap64 ((IntKind.u64.wrap n).tmod m) = n % m := by
  rw [IntKind.wrap_u64, Int.tmod_eq_emod_of_nonneg (by omega)]
  unfold wrap64
  rcases hm with rfl | rfl | rfl <;> omega
theorem u64mod8 (n : Int) : wrap64 (IntKind.u64.wrap (IntKind.u64.wrap (((IntKind.u64.wrap n).tmod 65536).tdiv 8) * 8)) = n % 65536 / 8 * 8 := by
  simp only [IntKind.wrap_u64]
  rw [Int.tmod_eq_emod_of_nonneg (by omega), Int.tdiv_eq_ediv_of_nonneg (by omega)]
  unfold wrap64
  omega
theorem Owns.slc {w : World} {v : Value} {l : List Int} (h : Owns w v l) : ∃ a c, v = .slice a l.length c ∧ l.length ≤ c := by
  obtain ⟨h1, h2⟩ := h
  rcases h2 with ⟨rfl, h3⟩ | ⟨g, cap, cur, rfl, _, _, h4, _⟩
  · have : l = [] := by simpa using h3
    subst this
    exact ⟨none, 0, rfl, by simp⟩
  · simp only [List.length_map] at h4 ⊢
    exact ⟨_, cap, rfl, h4⟩
end Go.Proofs.Ytbmppdihceaacab
