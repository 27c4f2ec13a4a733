/-
  The law's apart.
-/
import Derived.Test.YtckiiidigajhpaaAp
namespace Go.Proofs.Ytckiiidigajhpaa
open Go.ChangeShapes Go.WideShapes Go.ChangeAt Go.RowKit
set_option linter.unusedVariables false
set_option maxRecDepth 100000
theorem hidJ {p : Prop} (h : p) : Hid p := h

/-- A list written full with marks. -/
def markL (i n : Nat) : List Sp := (List.range n).map (fun k : Nat => ((-1000 - (i : Int), (k : Int)) : Sp))
theorem mark_len (i n : Nat) : (markL i n).length = n := by simp [markL]
theorem mark_at {i n k : Nat} (h : k < n) : (markL i n)[k]? = some (-1000 - (i : Int), (k : Int)) := by simp [markL, h]
/-- Marked as far as k. -/
def MarkTo (i k : Nat) (l : List Sp) : Prop := ∀ q, q < k → l[q]? = some (-1000 - (i : Int), (q : Int))
theorem MarkTo.step {i k : Nat} {l : List Sp} (h : MarkTo i k l) (hk : k < l.length) : MarkTo i (k + 1) (l.set k (-1000 - (i : Int), (k : Int))) := fun q hq => by
  by_cases e : q = k
  · subst e; simp [hk]
  · rw [List.getElem?_set_ne (fun x => e x.symm)]; exact h q (by omega)
theorem MarkTo.full {i n : Nat} {l : List Sp} (h : MarkTo i n l) (hn : l.length = n) : l = markL i n := by
  apply List.ext_getElem?
  intro q
  by_cases hq : q < n
  · rw [h q hq, mark_at hq]
  · rw [List.getElem?_eq_none (by omega), List.getElem?_eq_none (by rw [mark_len]; omega)]
/-- What follows the marks. -/
def longL (i n k : Nat) : List Sp := markL i n ++ List.replicate k (-9000 - (i : Int), 0)
theorem long_zero (i n : Nat) : longL i n 0 = markL i n := by simp [longL]
theorem long_len (i n k : Nat) : (longL i n k).length = n + k := by simp [longL, mark_len]
theorem long_step (i n k : Nat) : longL i n k ++ [(-9000 - (i : Int), 0)] = longL i n (k + 1) := by simp [longL, List.replicate_succ', List.append_assoc]
theorem long_at1 {i n m k : Nat} (h : k < n) : (longL i n m)[k]? = some (-1000 - (i : Int), (k : Int)) := by
  unfold longL; rw [List.getElem?_append_left (by rw [mark_len]; exact h)]; exact mark_at h
theorem long_at2 {i n m k : Nat} (h : n ≤ k) (h2 : k < n + m) : (longL i n m)[k]? = some (-9000 - (i : Int), 0) := by
  unfold longL; rw [List.getElem?_append_right (by rw [mark_len]; exact h), mark_len, List.getElem?_replicate, if_pos (by omega)]
/-- Where a list lies, and its cells. -/
theorem Lst.shape {w : World} {v : Value} {l : List Sp} (h : Lst w v l) : ∃ a cap, v = .slice a l.length cap ∧ ∀ k x, l[k]? = some x → ∃ g, a = some ⟨g, 0, none⟩ ∧ w.cell? ⟨g, k * 2, none⟩ = some (.int .i64 x.1) ∧ w.cell? ⟨g, k * 2 + 1, none⟩ = some (.int .i64 x.2) ∧ (∀ i, w.frozen? ⟨g, i, none⟩ = false) := by
  have h0 := h
  rcases h.2 with ⟨rfl, h2⟩ | ⟨g, cap, cur, rfl, hg, hh, hn, hc, hs, ht⟩
  · obtain rfl : l = [] := by simpa using h2
    exact ⟨none, 0, rfl, by simp⟩
  · refine ⟨some ⟨g, 0, none⟩, cap, rfl, fun k x hx => ⟨g, rfl, ?_, ?_, h.free rfl⟩⟩
    · have hi := get_lt hx
      rw [World.ownsRow.cellAt h0 (k * 2) (by omega)]; exact (flat_get l k x hx).1
    · have hi := get_lt hx
      rw [World.ownsRow.cellAt h0 (k * 2 + 1) (by omega)]; exact (flat_get l k x hx).2
theorem NumL.shape {w : World} {v : Value} {l : List Int} (h : NumL w v l) : ∃ a cap, v = .slice a l.length cap ∧ ∀ k x, l[k]? = some x → ∃ g, a = some ⟨g, 0, none⟩ ∧ w.cell? ⟨g, k, none⟩ = some (.int .i64 x) := by
  have h0 := h
  rcases h.2 with ⟨rfl, h2⟩ | ⟨g, cap, cur, rfl, hg, hh, hn, hc, hs, ht⟩
  · obtain rfl : l = [] := by simpa using h2
    exact ⟨none, 0, rfl, by simp⟩
  · refine ⟨some ⟨g, 0, none⟩, cap, rfl, fun k x hx => ⟨g, rfl, ?_⟩⟩
    have hi := getI_lt hx
    rw [World.ownsRow.cellAt h0 k (by omega), List.getElem?_map, hx]; rfl
def lensL (len : Nat → Nat) (k : Nat) : List Int := (List.range k).map (fun j => (len j : Int))
theorem lens_len (len : Nat → Nat) (k : Nat) : (lensL len k).length = k := by simp [lensL]
theorem lens_at {len : Nat → Nat} {k j : Nat} (h : j < k) : (lensL len k)[j]? = some (len j : Int) := by simp [lensL, h]
theorem lens_snoc (len : Nat → Nat) (k : Nat) : lensL len k ++ [(len k : Int)] = lensL len (k + 1) := by simp [lensL, List.range_succ]
/-- All lists, the first i of them marked, the i-th as far as k. -/
def St1 (len : Nat → Nat) (n i k : Nat) (T : List Hl) : Prop := T.length = n ∧ ∀ (j : Nat) (t : Hl), T[j]? = some t → t.2.length = len j ∧ (j < i → t.2 = markL j (len j)) ∧ (j = i → MarkTo i k t.2)
theorem St1.next {len : Nat → Nat} {n i : Nat} {T : List Hl} (h : St1 len n i (len i) T) : St1 len n (i + 1) 0 T := ⟨h.1, fun j t ht => by
  obtain ⟨h1, h2, h3⟩ := h.2 j t ht
  refine ⟨h1, fun hj => ?_, fun _ q hq => by omega⟩
  by_cases e : j = i
  · subst e; exact (h3 rfl).full h1
  · exact h2 (by omega)⟩
theorem St1.step {len : Nat → Nat} {n i k : Nat} {T : List Hl} {v : Value} {l : List Sp} (h : St1 len n i k T) (ht : T[i]? = some (v, l)) (hk : k < l.length) : St1 len n i (k + 1) (T.set i (v, l.set k (-1000 - (i : Int), (k : Int)))) := ⟨by rw [List.length_set]; exact h.1, fun j t hj => by
  rcases get_set hj with ⟨rfl, rfl, _⟩ | ⟨hne, hj'⟩
  · obtain ⟨h1, h2, h3⟩ := h.2 j _ ht
    exact ⟨by simp only [List.length_set]; exact h1, fun hc => by omega, fun _ => (h3 rfl).step hk⟩
  · obtain ⟨h1, h2, h3⟩ := h.2 j t hj'
    exact ⟨h1, h2, fun e => absurd e hne⟩⟩
/-- The first i of them lengthened, the i-th by k. -/
def St2 (len : Nat → Nat) (n i k : Nat) (T : List Hl) : Prop := T.length = n ∧ ∀ (j : Nat) (t : Hl), T[j]? = some t → t.2 = longL j (len j) (if j < i then 64 else if j = i then k else 0)
theorem St2.start {len : Nat → Nat} {n : Nat} {T : List Hl} (h : St1 len n n 0 T) : St2 len n 0 0 T := ⟨h.1, fun j t ht => by
  obtain ⟨h1, h2, h3⟩ := h.2 j t ht
  have hj : j < T.length := by
    rcases Nat.lt_or_ge j T.length with h' | h'
    · exact h'
    · rw [List.getElem?_eq_none h'] at ht; simp at ht
  rw [h2 (by have := h.1; omega), if_neg (by omega), ite_self, long_zero]⟩
theorem St2.next {len : Nat → Nat} {n i : Nat} {T : List Hl} (h : St2 len n i 64 T) : St2 len n (i + 1) 0 T := ⟨h.1, fun j t ht => by
  rw [h.2 j t ht]
  by_cases h1 : j < i
  · rw [if_pos h1, if_pos (by omega)]
  · by_cases h2 : j = i
    · rw [if_neg h1, if_pos h2, if_pos (by omega)]
    · rw [if_neg h1, if_neg h2, if_neg (by omega), ite_self]⟩
theorem St2.at {len : Nat → Nat} {n i k : Nat} {T : List Hl} (h : St2 len n i k T) {t : Hl} (ht : T[i]? = some t) : t.2 = longL i (len i) k := by
  rw [h.2 i t ht, if_neg (by omega), if_pos rfl]
theorem St2.step {len : Nat → Nat} {n i k : Nat} {T : List Hl} {v v' : Value} {l : List Sp} (h : St2 len n i k T) (ht : T[i]? = some (v, l)) : St2 len n i (k + 1) (T.set i (v', l ++ [(-9000 - (i : Int), 0)])) := ⟨by rw [List.length_set]; exact h.1, fun j t hj => by
  rcases get_set hj with ⟨rfl, rfl, _⟩ | ⟨hne, hj'⟩
  · have e := h.at ht
    simp only at e ⊢
    rw [e, long_step]; simp
  · rw [h.2 j t hj', if_neg (fun e => hne e)]
    by_cases h1 : j < i
    · rw [if_pos h1, if_pos h1]
    · rw [if_neg h1, if_neg h1, if_neg hne]⟩
theorem getH {T : List Hl} {n i : Nat} (hn : T.length = n) (h : i < n) : ∃ v l, T[i]? = some (v, l) := by
  subst hn; exact ⟨T[i].1, T[i].2, by simp [h]⟩
set_option maxHeartbeats 16000000 in
theorem apart_c (B : Nat) (W0 w : World) (kv : Value) (T : List Hl) (h : Ap B W0 w kv (.slice none 0 0) T []) (hT : T.length ≤ 1000) (hlen : ∀ t ∈ T, t.2.length ≤ 100000) :
    Calls Try.prog 19 #[kv] w fun E w' => E = .returned (.bool true) ∧ Below B W0 w' := by
  obtain ⟨ka, kc, hke, -, -, -⟩ := h.kl.shape
  rw [List.length_map] at hke
  obtain ⟨N, hN⟩ : ∃ N, N = T.length := ⟨_, rfl⟩
  rw [← hN] at hke hT
  obtain ⟨len, hlf⟩ : ∃ len : Nat → Nat, ∀ j t, T[j]? = some t → t.2.length = len j := ⟨fun j => ((T[j]?).map (fun t => t.2.length)).getD 0, fun j t ht => by simp [ht]⟩
  have HLB : Hid (∀ j, j < N → len j ≤ 100000) := fun j hj => by
    obtain ⟨v, l, hjl⟩ := getH hN.symm hj
    rw [← hlf j _ hjl]; exact hlen _ (List.mem_of_getElem? hjl)
  subst hke
  have HAP := hidJ h
  have HST : Hid (St1 len N 0 0 T) := ⟨hN.symm, fun j t ht => ⟨hlf j t ht, fun hc => by omega, fun _ q hq => by omega⟩⟩
  clear h hN hlen hlf
  go_enter Try.func19, Try.ntmps19
  go_wp2_with fail
  go_loopw [3, 4] (fun nv x wr => ∃ (i : Nat) (T : List Hl), x = .int .i64 (i : Int) ∧ i ≤ N ∧ Ap B W0 wr (.slice ka N kc) nv T (lensL len i) ∧ St1 len N i 0 T) (fun _ x _ => N - (intOf x).toNat)
  case atStart => exact ⟨0, T, rfl, by omega, HAP.out, HST.out⟩
  case round =>
    clear HAP HST
    obtain ⟨i, T, rfl, hi, hap, hst⟩ := hrel
    have HAP := hidJ hap
    have HST := hidJ hst
    clear hap hst
    by_cases hlt : i < N
    · have i1 : decide ((i : Int) < (N : Int)) = true := decide_eq_true (by omega)
      have i2 : 0 ≤ (i : Int) := by omega
      have i3 : (i : Int) < (N : Int) := by omega
      have i4 : ((i : Int)).toNat = i := by omega
      obtain ⟨v, l, hvl⟩ := getH HST.out.1 hlt
      have HVL := hidJ hvl
      obtain ⟨a1, c1, he1, -, -, hx1⟩ := HAP.out.kl.shape
      simp only [Value.slice.injEq] at he1
      obtain ⟨rfl, -, -⟩ := he1
      obtain ⟨kg, rfl, z1⟩ := hx1 i v (map_at hvl)
      have hown := HAP.out.own _ (List.mem_of_getElem? hvl)
      obtain ⟨va, vc, hve, hcl⟩ := Lst.shape hown
      simp only at hve hcl
      have hll : l.length = len i := (HST.out.2 i _ hvl).1
      rw [hll] at hve
      subst hve
      have hln : len i ≤ 100000 := HLB.out i hlt
      clear hcl hown hx1 hvl hll
      have HLL : Hid ((lensL len i).length = i) := lens_len _ _
      go_wp2_with (at_builtin; first | (refine wpList_appI1 rfl _ _ rfl _ (lensL len i) rfl (by exact HAP.out.nl.on ((Away.refl [] _).alloc _)) ⟨_, 0, none⟩ 1 rfl (len i : Int) (by rw [World.cell?_alloc_at (hn := rfl)]; rfl) (by rw [HLL.out]; omega) ?_))
      intro nv2 w2 hown2 hgr2 hmov2
      rw [lens_snoc] at hown2
      have HAP2 : Hid (Ap B W0 w2 (.slice (some ⟨kg, 0, none⟩) N kc) nv2 T (lensL len (i + 1))) := (HAP.out.on ((Away.refl [] _).alloc _)).num hown2 hgr2 hmov2
      clear hown2 hgr2 hmov2 z1 HAP HVL
      go_wp2_with fail
      go_loopw [5] (fun x wr => ∃ (k : Nat) (T : List Hl), x = .int .i64 (k : Int) ∧ k ≤ len i ∧ Ap B W0 wr (.slice (some ⟨kg, 0, none⟩) N kc) nv2 T (lensL len (i + 1)) ∧ St1 len N i k T) (fun x _ => len i - (intOf x).toNat)
      case atStart => exact ⟨0, T, rfl, by omega, HAP2.out, HST.out⟩
      case round =>
        clear HAP2 HST
        obtain ⟨k, T, rfl, hk, hap, hst⟩ := hrel
        have HAP := hidJ hap
        have HST := hidJ hst
        clear hap hst
        obtain ⟨na, nc, hne, hnx⟩ := HAP.out.nl.shape
        rw [lens_len] at hne
        subst hne
        obtain ⟨ng, rfl, zn⟩ := hnx i (len i : Int) (lens_at (by omega))
        clear hnx
        have n3 : (i : Int) < (i : Int) + 1 := by omega
        have n5 : (((i + 1 : Nat) : Int)) = (i : Int) + 1 := by omega
        by_cases hlk : k < len i
        · have k1 : decide ((k : Int) < (len i : Int)) = true := decide_eq_true (by omega)
          have k2 : 0 ≤ (k : Int) := by omega
          have k3 : (k : Int) < (len i : Int) := by omega
          have k4 : ((k : Int)).toNat = k := by omega
          obtain ⟨v, l, hvl⟩ := getH HST.out.1 hlt
          have HVL := hidJ hvl
          obtain ⟨a1, c1, he1, -, -, hx1⟩ := HAP.out.kl.shape
          simp only [Value.slice.injEq] at he1
          obtain ⟨he1, -, -⟩ := he1
          obtain ⟨kg2, hkg, z1⟩ := hx1 i v (map_at hvl)
          have hown := HAP.out.own _ (List.mem_of_getElem? hvl)
          obtain ⟨va, vc, hve, hcl⟩ := Lst.shape hown
          simp only at hve hcl
          rw [← he1] at hkg
          simp only [Option.some.injEq, Addr.mk.injEq] at hkg
          obtain ⟨rfl, -⟩ := hkg
          have hll : l.length = len i := (HST.out.2 i _ hvl).1
          obtain ⟨y, hy, _⟩ := get_of (l := l) (i := k) (by omega)
          obtain ⟨g, rfl, s0, s1, hfr⟩ := hcl k y hy
          have f0 := hfr (k * 2)
          have f1 := hfr (k * 2 + 1)
          rw [hll] at hve
          subst hve
          have HAP3 := hidJ (HAP.out.put hvl hll.symm hlk (-1000 - (i : Int), (k : Int)))
          have HST3 := hidJ (HST.out.step hvl (by omega))
          have m1 : IntKind.i64.wrap (-1000 - (i : Int)) = -1000 - (i : Int) := by rw [IntKind.wrap_i64]; omega
          clear hcl hown hx1 hvl hll hy hfr HAP HST HVL he1
          go_wp2_with fail
          go_roundw
          case rel => exact ⟨k + 1, _, by go_num, by omega, HAP3.out, HST3.out⟩
          case measure => simp [intOf]; omega
        · have k1 : decide ((k : Int) < (len i : Int)) = false := decide_eq_false (by omega)
          have k1' : decide (k < len i) = false := decide_eq_false (by omega)
          obtain rfl : k = len i := by omega
          have HST4 := hidJ HST.out.next
          go_wp2_with fail
          go_roundw
          case rel => exact ⟨i + 1, T, by go_num, by omega, HAP.out, HST4.out⟩
          case measure => simp [intOf]; omega
    · obtain rfl : i = N := by omega
      have HS2 : Hid (St2 len i 0 0 T) := St2.start HST.out
      clear HST
      go_wp2_with fail
      go_loopw [6] (fun x wr => ∃ (j : Nat) (T : List Hl), x = .int .i64 (j : Int) ∧ j ≤ i ∧ Ap B W0 wr (.slice ka i kc) u3 T (lensL len i) ∧ St2 len i j 0 T) (fun x _ => i - (intOf x).toNat)
      case atStart => exact ⟨0, T, rfl, by omega, HAP.out, HS2.out⟩
      case round =>
        clear HAP HS2
        obtain ⟨j, T, rfl, hj, hap, hst⟩ := hrel
        have HAP := hidJ hap
        have HST := hidJ hst
        clear hap hst
        by_cases hlt2 : j < i
        · have j1 : decide ((j : Int) < (i : Int)) = true := decide_eq_true (by omega)
          have j2 : 0 ≤ (j : Int) := by omega
          have j3 : (j : Int) < (i : Int) := by omega
          have j4 : ((j : Int)).toNat = j := by omega
          have hln : len j ≤ 100000 := HLB.out j hlt2
          go_wp2_with fail
          go_loopw [7] (fun x wr => ∃ (k : Nat) (T : List Hl), x = .int .i64 (k : Int) ∧ k ≤ 64 ∧ Ap B W0 wr (.slice ka i kc) u3 T (lensL len i) ∧ St2 len i j k T) (fun x _ => 64 - (intOf x).toNat)
          case atStart => exact ⟨0, T, rfl, by omega, HAP.out, HST.out⟩
          case round =>
            clear HAP HST
            obtain ⟨k, T, rfl, hk, hap, hst⟩ := hrel
            have HAP := hidJ hap
            have HST := hidJ hst
            clear hap hst
            by_cases hlk : k < 64
            · have k1 : decide ((k : Int) < 64) = true := decide_eq_true (by omega)
              obtain ⟨v, l, hvl⟩ := getH HST.out.1 hlt2
              have HVL := hidJ hvl
              obtain ⟨a1, c1, he1, -, -, hx1⟩ := HAP.out.kl.shape
              simp only [Value.slice.injEq] at he1
              obtain ⟨rfl, -, -⟩ := he1
              obtain ⟨kg, rfl, z1⟩ := hx1 j v (map_at hvl)
              have hown := HAP.out.own _ (List.mem_of_getElem? hvl)
              obtain ⟨va, vc, hve, hcl⟩ := Lst.shape hown
              simp only at hve hcl
              have hlo : l.length = len j + k := by have := HST.out.at hvl; simp only at this; rw [this, long_len]
              have HLO := hidJ hlo
              have m1 : IntKind.i64.wrap (-9000 - (j : Int)) = -9000 - (j : Int) := by rw [IntKind.wrap_i64]; omega
              obtain ⟨ln, hln2⟩ : ∃ ln, ln = l.length := ⟨_, rfl⟩
              rw [← hln2] at hve
              subst hve
              clear hcl hx1 hvl hlo hln2
              have HOWN := hidJ hown
              clear hown
              go_wp2_with (at_builtin; first | (refine wpList_app2 rfl _ _ rfl _ l rfl (by exact HOWN.out.on ((Away.refl [] _).alloc _)) ⟨_, 0, none⟩ 1 rfl (-9000 - (j : Int), 0) (by rw [World.cell?_alloc_at (hn := rfl)]; rfl) (by rw [add_plain, World.cell?_alloc_at (hn := rfl)]; rfl) (by rw [HLO.out]; omega) ?_))
              intro v2 w2 hown2 hgr2 hmov2
              have HAP3 := hidJ ((HAP.out.on ((Away.refl [] _).alloc _)).app rfl HST.out.1.symm HVL.out hown2 hgr2 hmov2)
              have HST3 := hidJ (HST.out.step (v' := v2) HVL.out)
              have z2 : w2.cell? ⟨kg, j, none⟩ = some (.slice va ln vc) := by
                have hkl := (HAP.out.on ((Away.refl [] _).alloc _)).kl.away (((Away.refl _ _).grown hgr2 (fun k hk => .inl (by simp [hk]))) : Away (Value.slice va ln vc).ownBlock.toList _ w2) (fun q hq hin => HAP.out.sk _ (List.mem_of_getElem? HVL.out) q (by simpa using hin) hq)
                obtain ⟨a9, c9, he9, -, -, hx9⟩ := hkl.shape
                obtain ⟨g9, hg9, z9⟩ := hx9 j _ (map_at HVL.out)
                simp only [Value.slice.injEq] at he9
                rw [← he9.1] at hg9
                simp only [Option.some.injEq, Addr.mk.injEq] at hg9
                rw [hg9.1]; exact z9
              have f2 : w2.frozen? ⟨kg, j, none⟩ = false := by
                have hkl := (HAP.out.on ((Away.refl [] _).alloc _)).kl.away (((Away.refl _ _).grown hgr2 (fun k hk => .inl (by simp [hk]))) : Away (Value.slice va ln vc).ownBlock.toList _ w2) (fun q hq hin => HAP.out.sk _ (List.mem_of_getElem? HVL.out) q (by simpa using hin) hq)
                exact hkl.free (by rw [List.length_map]; exact HST.out.1.symm) j
              obtain ⟨v2a, v2n, v2c, rfl⟩ : ∃ a n c, v2 = .slice a n c := by
                rcases hown2.2 with ⟨h3, _⟩ | ⟨g9, cap9, cur9, h3, _⟩
                · exact ⟨_, _, _, h3⟩
                · exact ⟨_, _, _, h3⟩
              clear hown2 hgr2 hmov2 z1 HAP HST HVL HOWN HLO
              go_wp2_with fail
              go_roundw
              case rel => exact ⟨k + 1, _, by go_num, by omega, HAP3.out, HST3.out⟩
              case measure => simp [intOf]; omega
            · have k1 : decide ((k : Int) < 64) = false := decide_eq_false (by omega)
              obtain rfl : k = 64 := by omega
              have HST4 := hidJ HST.out.next
              go_wp2_with fail
              go_roundw
              case rel => exact ⟨j + 1, T, by go_num, by omega, HAP.out, HST4.out⟩
              case measure => simp [intOf]; omega
        · have j1 : decide ((j : Int) < (i : Int)) = false := decide_eq_false (by omega)
          have j1' : decide (j < i) = false := decide_eq_false (by omega)
          obtain rfl : j = i := by omega
          have HLT : Hid (∀ q t, T[q]? = some t → t.2 = longL q (len q) 64) := fun q t ht => by
            have hq : q < T.length := by
              rcases Nat.lt_or_ge q T.length with h' | h'
              · exact h'
              · rw [List.getElem?_eq_none h'] at ht; simp at ht
            rw [HST.out.2 q t ht, if_pos (by have := HST.out.1; omega)]
          have HTN : Hid (T.length = j) := HST.out.1
          clear HST
          go_wp2_with fail
          go_loopw [8] (fun x wr2 => ∃ (q : Nat), x = .int .i64 (q : Int) ∧ q ≤ j ∧ wr2 = wr) (fun x _ => j - (intOf x).toNat)
          case atStart => exact ⟨0, rfl, by omega, rfl⟩
          case round =>
            obtain ⟨q, rfl, hq, rfl⟩ := hrel
            by_cases hlq : q < j
            · have q1 : decide ((q : Int) < (j : Int)) = true := decide_eq_true (by omega)
              have q2 : 0 ≤ (q : Int) := by omega
              have q3 : (q : Int) < (j : Int) := by omega
              have q4 : ((q : Int)).toNat = q := by omega
              obtain ⟨v, l, hvl⟩ := getH HTN.out hlq
              obtain ⟨a1, c1, he1, -, -, hx1⟩ := HAP.out.kl.shape
              simp only [Value.slice.injEq] at he1
              obtain ⟨rfl, -, -⟩ := he1
              obtain ⟨kg, rfl, z1⟩ := hx1 q v (map_at hvl)
              have hown := HAP.out.own _ (List.mem_of_getElem? hvl)
              obtain ⟨va, vc, hve, hcl⟩ := Lst.shape hown
              have hlo := HLT.out q _ hvl
              simp only at hve hcl hlo
              have hll : l.length = len q + 64 := by rw [hlo, long_len]
              obtain ⟨na, nc, hne, hnx⟩ := HAP.out.nl.shape
              rw [lens_len] at hne
              obtain ⟨ng, hng, zn⟩ := hnx q (len q : Int) (lens_at hlq)
              rw [hng] at hne
              subst hne
              rw [hll] at hve
              subst hve
              have HCL := hidJ hcl
              have HLO := hidJ hlo
              have hln : len q ≤ 100000 := HLB.out q hlq
              have m1 : IntKind.i64.wrap (-1000 - (q : Int)) = -1000 - (q : Int) := by rw [IntKind.wrap_i64]; omega
              have m2 : IntKind.i64.wrap (-9000 - (q : Int)) = -9000 - (q : Int) := by rw [IntKind.wrap_i64]; omega
              clear hcl hown hx1 hvl hll hnx hlo
              go_wp2_with fail
              go_loopw [9] (fun x wr2 => ∃ (k : Nat), x = .int .i64 (k : Int) ∧ k ≤ len q + 64 ∧ wr2 = wr) (fun x _ => len q + 64 - (intOf x).toNat)
              case atStart => exact ⟨0, rfl, by omega, rfl⟩
              case round =>
                obtain ⟨k, rfl, hk, rfl⟩ := hrel
                have k2 : 0 ≤ (k : Int) := by omega
                have k4 : ((k : Int)).toNat = k := by omega
                by_cases hlk : k < len q + 64
                · have k1 : decide ((k : Int) < (len q : Int) + 64) = true := decide_eq_true (by omega)
                  have k3 : (k : Int) < (len q : Int) + 64 := by omega
                  by_cases hkn : k < len q
                  · obtain ⟨g, rfl, s0, s1, -⟩ := HCL.out k _ (by rw [HLO.out]; exact long_at1 hkn)
                    simp only at s0 s1
                    have k5 : decide ((k : Int) < (len q : Int)) = true := decide_eq_true (by omega)
                    have k6 : decide ((len q : Int) ≤ (k : Int)) = false := decide_eq_false (by omega)
                    have k6' : decide (len q ≤ k) = false := decide_eq_false (by omega)
                    go_wp2_with fail
                    go_roundw
                    case rel => exact ⟨k + 1, by go_num, by omega, by trivial⟩
                    case measure => simp [intOf]; omega
                  · obtain ⟨g, rfl, s0, s1, -⟩ := HCL.out k _ (by rw [HLO.out]; exact long_at2 (by omega) hlk)
                    simp only at s0 s1
                    have k5 : decide ((k : Int) < (len q : Int)) = false := decide_eq_false (by omega)
                    have k5' : decide (k < len q) = false := decide_eq_false (by omega)
                    have k6 : decide ((len q : Int) ≤ (k : Int)) = true := decide_eq_true (by omega)
                    go_wp2_with fail
                    go_roundw
                    case rel => exact ⟨k + 1, by go_num, by omega, by trivial⟩
                    case measure => simp [intOf]; omega
                · have k1 : decide ((k : Int) < (len q : Int) + 64) = false := decide_eq_false (by omega)
                  have k1' : decide (k < len q + 64) = false := decide_eq_false (by omega)
                  go_wp2_with fail
                  go_roundw
                  case rel => exact ⟨q + 1, by go_num, by omega, by trivial⟩
                  case measure => simp [intOf]; omega
            · have q1 : decide ((q : Int) < (j : Int)) = false := decide_eq_false (by omega)
              have q1' : decide (q < j) = false := decide_eq_false (by omega)
              go_wp2_with fail
              go_ret
              exact ⟨rfl, HAP.out.base⟩
#print axioms apart_c
end Go.Proofs.Ytckiiidigajhpaa
