/-
  There and back: what Print writes is read as the routes in their order.
-/
import Derived.Test.YtoifolmcdkfniaaDoorPn
import Derived.Test.YtoifolmcdkfniaaDoorPd
namespace Go.Proofs.YtoifolmcdkfniaaDoor
open Go.ChangeShapes Go.WideShapes Go.ChangeAt Go.RowKit
set_option linter.unusedVariables false
set_option linter.unusedSimpArgs false
set_option maxRecDepth 100000

/-! A sign that is no digit, dot or colon is in no address and no number. -/
theorem digs_odd {c : UInt8} (hc : 16 ≤ dig c) (base : Nat) (hb : base ≤ 16) : ∀ (l : List UInt8) (n : Nat), c ∈ l → digs base n l = none
  | [], n, h => by simp at h
  | d :: l, n, h => by
    unfold digs
    by_cases hd : d = c
    · subst hd
      rw [if_neg (by omega)]
    · split
      · exact digs_odd hc base hb l _ (by simpa [Ne.symm hd] using h)
      · rfl
theorem numOf_odd {c : UInt8} (hc : 16 ≤ dig c) {base most : Nat} (hb : base ≤ 16) {l : List UInt8} (h : c ∈ l) : numOf base most l = none := by
  unfold numOf; split
  · rfl
  · exact digs_odd hc base hb l 0 h
theorem dec_odd {c : UInt8} (hc : 16 ≤ dig c) {l : List UInt8} (h : c ∈ l) : dec l = none := by
  unfold dec; rw [numOf_odd hc (by decide) h]
theorem numR_odd {c : UInt8} (hc : 16 ≤ dig c) {l : List UInt8} (h : c ∈ l) : numR l = none := by
  unfold numR; split
  · rfl
  · exact numOf_odd hc (by decide) h
theorem grps_odd {c : UInt8} (hc : 16 ≤ dig c) (h58 : c ≠ 58) {l : List UInt8} (h : c ∈ l) : grps l = none := by
  unfold grps
  rw [if_neg (fun e => by rw [e] at h; simp at h)]
  obtain ⟨p, hp, hx⟩ := pieces_mem 58 l c h h58
  exact alls_none _ _ p hp (numOf_odd hc (by decide) hx)
theorem parse_odd {c : UInt8} (hc : 16 ≤ dig c) (h46 : c ≠ 46) (h58 : c ≠ 58) {l : List UInt8} (h : c ∈ l) : (parseP l).2.2 ≠ 0 := by
  unfold parseP
  split
  · have : parse6P l = none := by
      unfold parse6P
      rcases cut2_mem l c h h58 with h1 | h1
      · rw [grps_odd hc h58 h1]
      · rw [grps_odd hc h58 h1]; cases grps (Lib.cut l [58, 58]).1 <;> rfl
    rw [this]; decide
  · have : parse4P l = none := by
      unfold parse4P
      obtain ⟨p, hp, hx⟩ := pieces_mem 46 l c h h46
      rw [alls_none _ _ p hp (dec_odd hc hx)]
    rw [this]; decide
theorem print_free {c : UInt8} (hc : 16 ≤ dig c) (h46 : c ≠ 46) (h58 : c ≠ 58) {v : Int} {l : List Int} (hl : l.length = 16) (hb : Byt l) (hv : validP v l = true) : c ∉ printP v l := fun h => by
  have := parse_odd hc h46 h58 h
  rw [parse_print hl hb hv] at this
  exact this rfl
/-! Numbers. -/
def numsOk : Bool := (List.range 256).all fun n => numR (Lib.itoa (n : Int)) == some n
theorem numsOk_true : numsOk = true := by decide +kernel
theorem num_itoa {x : Int} (h0 : 0 ≤ x) (h1 : x ≤ 255) : ∃ n : Nat, x = n ∧ numR (Lib.itoa x) = some n := by
  obtain ⟨n, rfl⟩ := Int.eq_ofNat_of_zero_le h0
  have h := numsOk_true
  unfold numsOk at h
  simp only [List.all_eq_true, List.mem_range, beq_iff_eq] at h
  exact ⟨n, rfl, h n (by omega)⟩
theorem itoa_free {c : UInt8} (hc : 16 ≤ dig c) {x : Int} (h0 : 0 ≤ x) (h1 : x ≤ 255) : c ∉ Lib.itoa x := fun h => by
  obtain ⟨n, -, hn⟩ := num_itoa h0 h1
  rw [numR_odd hc h] at hn; simp at hn
/-- A route's line, without its end. -/
def bodyT (x : Rt) : List UInt8 := printP x.v x.l ++ 47 :: (Lib.itoa x.b ++ 32 :: Lib.itoa x.k)
theorem line_body (x : Rt) (r : List UInt8) : lineT x ++ r = bodyT x ++ 10 :: r := by
  unfold lineT bodyT; simp
theorem may_nums {x : Rt} (hm : mayR x = true) : validP x.v x.l = true ∧ (0 ≤ x.b ∧ x.b ≤ 255) ∧ 0 ≤ x.k ∧ x.k ≤ 255 := by
  obtain ⟨h1, -, h3, h4⟩ := mayR_iff.1 hm
  obtain ⟨h5, h6, h7⟩ := ok_iff.1 h1
  exact ⟨h5, ⟨h6, by split at h7 <;> omega⟩, h3, by omega⟩
theorem body_free {x : Rt} (hx : Okr x) (hm : mayR x = true) : (10 : UInt8) ∉ bodyT x := by
  obtain ⟨h1, h2, h3⟩ := may_nums hm
  unfold bodyT
  intro h
  simp only [List.mem_append, List.mem_cons] at h
  rcases h with h | h | h | h | h
  · exact print_free (by decide) (by decide) (by decide) hx.1 hx.2 h1 h
  · exact absurd h (by decide)
  · exact itoa_free (by decide) h2.1 h2.2 h
  · exact absurd h (by decide)
  · exact itoa_free (by decide) h3.1 h3.2 h
theorem line_back {x : Rt} (hx : Okr x) (hm : mayR x = true) : lineP (bodyT x) = some x := by
  obtain ⟨h1, h2, h3⟩ := may_nums hm
  obtain ⟨n, hn, hn'⟩ := num_itoa h2.1 h2.2
  obtain ⟨k, hk, hk'⟩ := num_itoa h3.1 h3.2
  rw [line_def]
  unfold bodyT
  rw [cut_app 47 _ _ (print_free (by decide) (by decide) (by decide) hx.1 hx.2 h1)]
  simp only
  rw [cut_app 32 _ _ (itoa_free (by decide) h2.1 h2.2)]
  simp only
  rw [parse_print hx.1 hx.2 h1, hn', hk']
  simp only [if_true]
  rw [← hn, ← hk]
theorem routes_text : ∀ S : List Rt, (∀ x ∈ S, Okr x ∧ mayR x = true) → routesP (textP S) = some S
  | [], _ => rfl
  | x :: r, h => by
    obtain ⟨hx, hm⟩ := h x (by simp)
    have ih := routes_text r (fun y hy => h y (by simp [hy]))
    have e : textP (x :: r) = bodyT x ++ 10 :: textP r := by
      unfold textP; rw [List.flatMap_cons]; exact line_body x _
    rw [e, routes_cut (by simp), cut_app 10 _ _ (body_free hx hm)]
    simp only [if_true]
    rw [line_back hx hm, ih]
    rfl
theorem parse_text {L S : List Rt} (hA : ∀ x ∈ L, Okr x) (hm : mayL L = true) (ho : IsOrd L S) : parseR (textP S) = (S, 0) := by
  have hS : ∀ x ∈ S, Okr x ∧ mayR x = true := fun x hx => ⟨hA x (ho.1.mem_iff.1 hx), (mayL_iff.1 hm).2.1 x (ho.1.mem_iff.1 hx)⟩
  unfold parseR
  rw [routes_text S hS]
  simp only
  rw [if_pos (by rw [mayL_perm ho.1]; exact hm)]
end Go.Proofs.YtoifolmcdkfniaaDoor
