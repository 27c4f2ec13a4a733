/-
  What Look tells of a packet's bytes cut off: plain data, nothing of the program.
-/
import Derived.Test.YtbgpjhekohabiaaDoorLook
namespace Go.Proofs.YtbgpjhekohabiaaDoor
open Num
set_option linter.unusedVariables false
set_option maxHeartbeats 1000000

theorem gt_take {b : List Int} {n i : Nat} (h : i < n) : gt (b.take n) i = gt b i := by unfold gt; rw [List.getElem?_take_of_lt h]
theorem w16_take {b : List Int} {n i : Nat} (h : i + 1 < n) : w16 (b.take n) i = w16 b i := by unfold w16; rw [gt_take h, gt_take (by omega)]
theorem slice_take {b : List Int} {n i k : Nat} (h : i + k ≤ n) : ((b.take n).drop i).take k = (b.drop i).take k := by
  rw [List.drop_take, List.take_take, Nat.min_eq_left (by omega)]
theorem head_take {b : List Int} {n : Nat} (h : 0 < n) : headN (b.take n) = headN b := by unfold headN; rw [gt_take h]
theorem read_cut {b : List Int} {n N : Nat} (h20 : 20 ≤ N) (h : N ≤ n) : readP (b.take n) N = { readP b N with d := (b.drop N).take (n - N) } := by
  unfold readP
  rw [gt_take (by omega), gt_take (by omega), gt_take (by omega), w16_take (by omega), w16_take (by omega), slice_take (by omega), slice_take (by omega), slice_take (by omega), List.drop_take]
theorem look4_cut_short {b : List Int} {p : Pk} {n : Nat} (hb : parse4 b = (p, 0)) (h : n < headN b) (hl : n ≤ b.length) : look4P (b.take n) = (zeroPk, 0, 20) := by
  obtain ⟨he, h6, hp, hf, hv⟩ := parse4_ok hb
  obtain ⟨h20, h4, hk, hkl, hlen, hsum⟩ := headE_ok he
  have hn : (b.take n).length = n := by simp; omega
  unfold look4P
  rw [hn]
  by_cases h' : n < 20
  · rw [if_pos h']
  · rw [if_neg h', head_take (by omega), gt_take (by omega), if_neg (by rintro (h | h); exact h h4; omega), if_pos h]
theorem bare_right {p : Pk} (hf : Formed p) (hv : validP p.o = true) : rightP (bareO p.o p.sb p.db) = true := by
  have hl := valid_len hv
  rw [right_iff]
  have h1 : (20 : Nat) + p.o.length + 0 ≤ 65535 := by omega
  have z : (0 : Int) ≤ 0 := by decide
  have q : (0 : Int) ≤ 255 := by decide
  have k0 : (0 : Int) ≤ 65535 := by decide
  have k1 : (0 : Int) ≤ 65528 := by decide
  have k2 : (0 : Int) % 8 = 0 := by decide
  have k3 : (0 : Int) + (([] : List Int).length : Int) ≤ 65535 := by decide
  have k4 : (20 : Nat) + p.o.length + ([] : List Int).length ≤ 65535 := h1
  exact ⟨⟨rfl, rfl, rfl, k0, z, q, z, q, z, q, rfl, hf.sb, rfl, hf.db, z, k1, k2, fun h => Bool.noConfusion h, fun h => Bool.noConfusion h, fun h => absurd (show (0 : Int) < 0 from h) (by decide), k3, k4⟩, hv⟩
theorem look4_cut {b : List Int} {p : Pk} {n : Nat} (hb : parse4 b = (p, 0)) (h : headN b ≤ n) (hl : n ≤ b.length) : look4P (b.take n) = ({ p with d := p.d.take (n - headN b) }, (b.length : Int), 0) := by
  obtain ⟨he, h6, hp, hf, hv⟩ := parse4_ok hb
  obtain ⟨h20, h4, hk, hkl, hlen, hsum⟩ := headE_ok he
  have hn : (b.take n).length = n := by simp; omega
  unfold look4P rest4P
  rw [hn, head_take (by omega), gt_take (by omega), gt_take (by omega), w16_take (by omega), w16_take (by omega), read_cut hk h, List.take_take, Nat.min_eq_left h]
  rw [if_neg (by omega), if_neg (by rintro (h | h); exact h h4; omega), if_neg (by omega), if_neg (by rw [hsum]; simp), if_neg (by omega), ← hp]
  rw [if_neg (by show ¬ rightP (bareO p.o p.sb p.db) = false; rw [bare_right hf hv]; simp), hlen]
  have hd : p.d = b.drop (headN b) := by rw [hp]; rfl
  rw [hd, List.drop_take, List.take_take]
  have : min (min n (b.length : Int).toNat - headN b) (n - headN b) = n - headN b := by simp; omega
  rw [this]
theorem wd_take {b : List Int} {n i : Nat} (h : i + 1 < n) : S6.wd (b.take n) i = S6.wd b i := by unfold S6.wd; rw [gt_take h, gt_take (by omega)]
theorem wd4_take {b : List Int} {n i : Nat} (h : i + 3 < n) : S6.wd4 (b.take n) i = S6.wd4 b i := by unfold S6.wd4; rw [gt_take (by omega), gt_take (by omega), gt_take (by omega), gt_take h]
theorem fix_take {b : List Int} {n : Nat} (h : 40 ≤ n) : S6.fixR (b.take n) = S6.fixR b := by
  unfold S6.fixR
  rw [wd4_take (by omega), slice_take (by omega), slice_take (by omega), gt_take (by omega), gt_take (by omega)]
/-- How long a packet's head is, by its bytes. -/
def head6 (b : List Int) : Nat := if gt b 6 = 44 then 48 else 40
theorem look6_cut_short {b : List Int} {n : Nat} (hb : (S6.parse6 b).2 = 0) (h : n < head6 b) (hl : n ≤ b.length) : S6.look6P (b.take n) = (zeroPk, 0, 20) := by
  obtain ⟨hm, hc, hr, hp⟩ := S6.parse6_ok hb
  obtain ⟨h40, h6, h4, h48⟩ := S6.meas_ok hm
  have hn : (b.take n).length = n := by simp; omega
  unfold S6.look6P
  rw [hn]
  by_cases h' : n < 40
  · rw [if_pos h']
  · have hf : gt b 6 = 44 := by
      unfold head6 at h
      split at h
      · assumption
      · omega
    have hh : head6 b = 48 := by unfold head6; rw [if_pos hf]
    rw [if_neg h', gt_take (by omega), gt_take (by omega), if_neg (by simpa using h6), if_pos hf, if_pos (by omega)]
theorem clean_take {b : List Int} {n : Nat} (h : 48 ≤ n) : S6.cleanP (b.take n) = S6.cleanP b := by
  unfold S6.cleanP; rw [gt_take (by omega), gt_take (by omega), wd_take (by omega)]
theorem frag_take {b : List Int} {n : Nat} (h : 48 ≤ n) : S6.frag6P (b.take n) = S6.frag6P b := by
  unfold S6.frag6P; rw [fix_take (by omega), gt_take (by omega), wd_take (by omega), wd4_take (by omega)]
theorem look6_cut {b : List Int} {n : Nat} (hb : (S6.parse6 b).2 = 0) (h : head6 b ≤ n) (hl : n ≤ b.length) : S6.look6P (b.take n) = ({ (S6.parse6 b).1 with d := (S6.parse6 b).1.d.take (n - head6 b) }, (b.length : Int), 0) := by
  obtain ⟨hm, hc, hr, hp⟩ := S6.parse6_ok hb
  obtain ⟨h40, h6, h4, h48⟩ := S6.meas_ok hm
  have hn : (b.take n).length = n := by simp; omega
  have hT : 40 + S6.wd b 4 = (b.length : Int) := by omega
  rw [hp]
  unfold S6.look6P
  by_cases hf : gt b 6 = 44
  · have hh : head6 b = 48 := by unfold head6; rw [if_pos hf]
    have hl8 := h48 hf
    have hrd : S6.readP b = { S6.frag6P b with d := b.drop 48 } := by unfold S6.readP S6.frag6P; rw [if_pos hf]
    have hpr : gt b 40 ≠ 44 := by
      have := ((S6.right_iff _).1 hr).r44
      rw [hrd] at this; exact this
    rw [hh] at h ⊢
    rw [hn, if_neg (by omega), gt_take (by omega), gt_take (by omega), gt_take (by omega), if_neg (by simpa using h6), if_pos hf, if_neg (by omega), clean_take h, wd_take (by omega), if_neg (by rintro (h | h | h); rw [hc] at h; cases h; exact hpr h; omega), hT, frag_take h, hrd, List.drop_take, List.take_take]
    have : min (min (n - 48) (S6.wd b 4 - 8).toNat) (n - 48) = n - 48 := by omega
    rw [this]
  · have hh : head6 b = 40 := by unfold head6; rw [if_neg hf]
    have hrd : S6.readP b = { S6.fixR b with d := b.drop 40 } := by unfold S6.readP; rw [if_neg hf]
    rw [hh] at h ⊢
    rw [hn, if_neg (by omega), gt_take (by omega), gt_take (by omega), if_neg (by simpa using h6), if_neg hf, wd_take (by omega), hT, fix_take h, hrd, List.drop_take, List.take_take]
    have : min (min (n - 40) (S6.wd b 4).toNat) (n - 40) = n - 40 := by omega
    rw [this]
/-- A length that is not the told one: no packet of version 4. -/
theorem no4_len {b : List Int} (h : 20 ≤ b.length → w16 b 2 ≠ b.length) : (parse4 b).2 ≠ 0 := by
  intro h0
  obtain ⟨q, e⟩ : ∃ q, parse4 b = (q, 0) := ⟨(parse4 b).1, by rw [← h0]⟩
  obtain ⟨he, _⟩ := parse4_ok e
  obtain ⟨h20, h4, hk, hkl, hlen, hsum⟩ := headE_ok he
  exact h h20 hlen
theorem no4_v {b : List Int} (h : 20 ≤ b.length → gt b 0 / 16 ≠ 4) : (parse4 b).2 ≠ 0 := by
  intro h0
  obtain ⟨q, e⟩ : ∃ q, parse4 b = (q, 0) := ⟨(parse4 b).1, by rw [← h0]⟩
  obtain ⟨he, _⟩ := parse4_ok e
  obtain ⟨h20, h4, hk, hkl, hlen, hsum⟩ := headE_ok he
  exact h h20 h4
theorem no6_len {b : List Int} (h : 40 ≤ b.length → S6.wd b 4 ≠ (b.length : Int) - 40) : (S6.parse6 b).2 ≠ 0 := by
  intro h0
  obtain ⟨hm, _⟩ := S6.parse6_ok h0
  obtain ⟨h40, h6, h4, h48⟩ := S6.meas_ok hm
  exact h h40 h4
theorem no6_v {b : List Int} (h : 40 ≤ b.length → gt b 0 / 16 ≠ 6) : (S6.parse6 b).2 ≠ 0 := by
  intro h0
  obtain ⟨hm, _⟩ := S6.parse6_ok h0
  obtain ⟨h40, h6, h4, h48⟩ := S6.meas_ok hm
  exact h h40 h6
/-- A packet's bytes cut off, or with a byte more, are none. -/
theorem none_cut {b : List Int} {n : Nat} (hb : (parse4 b).2 = 0 ∨ (S6.parse6 b).2 = 0) (hn : n < b.length) : (parse4 (b.take n)).2 ≠ 0 ∧ (S6.parse6 (b.take n)).2 ≠ 0 := by
  have hl : (b.take n).length = n := by simp; omega
  rcases hb with h | h
  · obtain ⟨q, e⟩ : ∃ q, parse4 b = (q, 0) := ⟨(parse4 b).1, by rw [← h]⟩
    obtain ⟨he, _⟩ := parse4_ok e
    obtain ⟨h20, h4, hk, hkl, hlen, hsum⟩ := headE_ok he
    refine ⟨no4_len fun h' => ?_, no6_v fun h' => ?_⟩
    · rw [hl] at h' ⊢; rw [w16_take (by omega), hlen]; omega
    · rw [hl] at h'; rw [gt_take (by omega), h4]; decide
  · obtain ⟨hm, _⟩ := S6.parse6_ok h
    obtain ⟨h40, h6, h4, h48⟩ := S6.meas_ok hm
    refine ⟨no4_v fun h' => ?_, no6_len fun h' => ?_⟩
    · rw [hl] at h'; rw [gt_take (by omega), h6]; decide
    · rw [hl] at h' ⊢; rw [wd_take (by omega), h4]; omega
theorem none_more {b : List Int} (hb : (parse4 b).2 = 0 ∨ (S6.parse6 b).2 = 0) : (parse4 (b ++ [0])).2 ≠ 0 ∧ (S6.parse6 (b ++ [0])).2 ≠ 0 := by
  have hl : (b ++ [0]).length = b.length + 1 := by simp
  rcases hb with h | h
  · obtain ⟨q, e⟩ : ∃ q, parse4 b = (q, 0) := ⟨(parse4 b).1, by rw [← h]⟩
    obtain ⟨he, _⟩ := parse4_ok e
    obtain ⟨h20, h4, hk, hkl, hlen, hsum⟩ := headE_ok he
    refine ⟨no4_len fun h' => ?_, no6_v fun h' => ?_⟩
    · rw [hl]; unfold w16 at hlen ⊢; rw [gt_app _ _ _ (by omega), gt_app _ _ _ (by omega), hlen]; omega
    · rw [gt_app _ _ _ (by omega), h4]; decide
  · obtain ⟨hm, _⟩ := S6.parse6_ok h
    obtain ⟨h40, h6, h4, h48⟩ := S6.meas_ok hm
    refine ⟨no4_v fun h' => ?_, no6_len fun h' => ?_⟩
    · rw [gt_app _ _ _ (by omega), h6]; decide
    · rw [hl]; unfold S6.wd at h4 ⊢; rw [gt_app _ _ _ (by omega), gt_app _ _ _ (by omega), h4]; omega
end Go.Proofs.YtbgpjhekohabiaaDoor
