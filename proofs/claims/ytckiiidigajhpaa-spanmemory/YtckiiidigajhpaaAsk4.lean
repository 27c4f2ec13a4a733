/-
  The document's Norm, Add, Cut, Holes, Has, Meets.
-/
import Derived.Test.YtckiiidigajhpaaKit
import Derived.Test.YtckiiidigajhpaaAsk3
namespace Go.Proofs.Ytckiiidigajhpaa
open Go.ChangeShapes Go.WideShapes Go.ChangeAt Go.RowKit
set_option linter.unusedVariables false
set_option maxRecDepth 100000

theorem set_nil (l : List Sp) (n : Int) : setP l [] n = inB l n := by unfold setP; rw [inB_nil]; simp
theorem set_one (s : Sp) (l : List Sp) (n : Int) : setP [s] l n = (inS s n && !inB l n) := by unfold setP; rw [inB_cons, inB_nil, Bool.or_false]
theorem Of.congr {l : List Sp} {f g : Int → Bool} (h : Of l f) (hfg : ∀ n, f n = g n) : Of l g := ⟨h.right, fun n => by rw [h.has, hfg]⟩
theorem Of.nil_iff {r : List Sp} {f : Int → Bool} (h : Of r f) : r = [] ↔ ∀ n, f n = false := by
  constructor
  · intro e n; rw [← h.has, e]; rfl
  · intro hf
    rcases r with _ | ⟨s, t⟩
    · rfl
    · have h1 := (rf_is h.right s (by simp)).1
      have h2 : inB (s :: t) s.1 = true := inB_iff.2 ⟨s, by simp, Int.le_refl _, h1.2.1⟩
      rw [h.has, hf] at h2; simp at h2
theorem Of.isOk {r : List Sp} {f : Int → Bool} (h : Of r f) : r.length ≤ 8796093022208 ∧ ∀ x ∈ r, OkS x := right_ok h.right
theorem mk_tells {w w' : World} {v : Value} {r r' : List Sp} {f : Int → Bool} (h : Mk w w' v r) (h1 : Of r f) (h2 : Of r' f) : ∃ (a : Option Addr) (c n : Nat), v = .slice a n c ∧ r'.length = n ∧ Sl w' a c r' ∧ Away [] w w' := by
  obtain rfl := h1.uniq h2
  obtain ⟨a, c, hv, hs⟩ := h.sl h1.isOk.1 h1.isOk.2
  exact ⟨a, c, r.length, hv, rfl, hs, h.2.2⟩
theorem cnt_nn (f : Int → Bool) : ∀ N : Nat, 0 ≤ cnt f N
  | 0 => by simp [cnt]
  | N + 1 => by have := cnt_nn f N; unfold cnt; split <;> omega
theorem cnt_pos {f : Int → Bool} : ∀ {N : Nat}, 0 < cnt f N ↔ ∃ n : Nat, n < N ∧ f n = true
  | 0 => by simp [cnt]
  | N + 1 => by
    have h0 := cnt_nn f N
    have ih := cnt_pos (f := f) (N := N)
    unfold cnt
    by_cases hf : f N = true
    · rw [if_pos hf]
      exact ⟨fun _ => ⟨N, by omega, hf⟩, fun _ => by omega⟩
    · rw [if_neg hf]
      constructor
      · intro h
        obtain ⟨n, h1, h2⟩ := ih.1 (by omega)
        exact ⟨n, by omega, h2⟩
      · rintro ⟨n, h1, h2⟩
        have : n ≠ N := fun e => hf (by rw [← e]; exact h2)
        have := ih.2 ⟨n, by omega, h2⟩
        omega
theorem has_list {l r : List Sp} {s : Sp} (hl : rightP l = true) (hs : isB s = true) (h : Of r (setP [s] l)) : decide (r.length = 0) = hasP l s := by
  rw [Bool.eq_iff_iff, decide_eq_true_eq, has_iff hl (isB_iff.1 hs), List.length_eq_zero_iff, h.nil_iff]
  constructor
  · intro hn n h1
    have := hn n
    rw [set_one, h1] at this
    simpa using this
  · intro hn n
    rw [set_one]
    cases h1 : inS s n
    · rfl
    · rw [hn n h1]; rfl
theorem meets_list {l r : List Sp} {s : Sp} (hl : rightP l = true) (hs : isB s = true) (h : Of r (setP [s] l)) : decide (sizeP r < s.2 - s.1) = meetsP l s := by
  have hi := isB_iff.1 hs
  have e1 : sizeP r = cnt (setP [s] l) 65535 := by rw [size_cnt h.right]; exact cnt_congr (fun n _ => h.has n)
  have e2 : s.2 - s.1 = cnt (inS s) 65535 := by rw [cnt_span s hi.1]; omega
  have e3 : cnt (inS s) 65535 = cnt (setP [s] l) 65535 + cnt (fun n => inS s n && inB l n) 65535 := by
    rw [← cnt_or]
    · refine cnt_congr (fun n _ => ?_)
      simp only [set_one]
      cases inS s n <;> cases inB l n <;> rfl
    · intro n hn
      simp only [set_one] at hn
      cases h1 : inB l n
      · simp
      · rw [h1] at hn; simp at hn
  rw [Bool.eq_iff_iff, decide_eq_true_eq, meets_iff, e1, e2, e3]
  constructor
  · intro hlt
    obtain ⟨n, _, hn⟩ := cnt_pos.1 (show 0 < cnt (fun n => inS s n && inB l n) 65535 by omega)
    simp only [Bool.and_eq_true] at hn
    exact ⟨n, hn⟩
  · rintro ⟨n, h1, h2⟩
    have h3 := inS_iff.1 h1
    have : 0 < cnt (fun n => inS s n && inB l n) 65535 := cnt_pos.2 ⟨n.toNat, by omega, by rw [show ((n.toNat : Nat) : Int) = n from by omega, h1, h2]; rfl⟩
    omega
set_option maxHeartbeats 4000000 in
theorem rnormY {w : World} {a : Option Addr} {l : List Sp} {n c : Nat} (r : List Sp) (h : Sl w a c l) (hn : l.length = n) (hi : allIs l = true) (hr : Of r (inB l)) :
    Calls Try.prog 24 #[.slice a n c] w fun E w' => Tells w E w' r := by
  subst hn
  have hlen := h.row.1
  have HR : Hid (Sl w a c l) := h
  have HI : Hid (∀ s ∈ l, Is s) := allIs_iff.1 hi
  have HO : Hid (Of r (setP l [])) := hr.congr (fun n => (set_nil l n).symm)
  clear h hi hr
  go_enter Try.func24, Try.ntmps24
  go_wp2_with fail
  go_loopw [4] (fun i wr => ∃ (k : Nat), k ≤ l.length ∧ i = .int .i64 (k : Int) ∧ Away [] w wr) (fun i _ => l.length - (intOf i).toNat)
  case atStart => exact ⟨0, by omega, rfl, Away.refl _ _⟩
  case round =>
    obtain ⟨k, hk, rfl, haw⟩ := hrel
    have HAW := hidI haw
    clear haw
    by_cases hlt : k < l.length
    · obtain ⟨x, hx, hxm⟩ := get_of hlt
      obtain ⟨b, off, rfl, c1, c2, -⟩ := (HR.out.row.on HAW.out).at hx
      have HB : Hid (isB x = true) := isB_iff.2 (HI.out x hxm)
      clear hx hxm
      obtain ⟨x1, x2⟩ := x
      simp only at c1 c2
      go_wp2_with fail
      refine (ris_b (x1, x2) _ HB.out).mono ?_
      rintro E w2 ⟨rfl, haw2⟩
      have HAW2 : Hid (Away [] w w2) := HAW.out.trans haw2
      clear haw2 c1 c2
      go_wp2_with fail
      go_roundw
      case rel => exact ⟨k + 1, by omega, by go_num, HAW2.out⟩
      case measure => simp [intOf]; omega
    · go_wp2_with fail
      refine (rlist_c a none l [] l.length 0 c 0 _ rfl rfl (by exact HR.out.row.on HAW.out) (by exact Row.nil _ _) HR.out.nil (fun _ => rfl) HI.out (by simp) (by simp; omega)).mono ?_
      rintro E w3 ⟨v, q, rfl, hmk, hof⟩
      obtain ⟨va, vc, vn, rfl, hvn, hvs, hva⟩ := mk_tells hmk hof HO.out
      go_wp2_with fail
      go_ret2
      exact ⟨va, vc, vn, rfl, hvn, hvs, HAW.out.trans hva⟩
theorem all_not : ∀ {l : List Sp}, allIs l = false → ∃ (k : Nat) (x : Sp), l[k]? = some x ∧ isB x = false ∧ ∀ j y, j < k → l[j]? = some y → isB y = true
  | [], h => by simp [allIs] at h
  | x :: r, h => by
    cases hx : isB x
    · exact ⟨0, x, rfl, hx, fun j y hj => by omega⟩
    · have : allIs r = false := by unfold allIs at h ⊢; rw [List.all_cons, hx, Bool.true_and] at h; exact h
      obtain ⟨k, y, h1, h2, h3⟩ := all_not this
      refine ⟨k + 1, y, by simpa using h1, h2, fun j z hj hz => ?_⟩
      match j, hj, hz with
      | 0, _, hz => simp at hz; rw [← hz]; exact hx
      | j + 1, hj, hz => exact h3 j z (by omega) (by simpa using hz)
set_option maxHeartbeats 4000000 in
theorem rnormN {w : World} {a : Option Addr} {l : List Sp} {n c : Nat} (h : Sl w a c l) (hn : l.length = n) (hi : allIs l = false) :
    Calls Try.prog 24 #[.slice a n c] w fun E w' => E = .returned (.tuple #[.slice none 0 0, .int .i64 1]) ∧ Away [] w w' := by
  subst hn
  have hlen := h.row.1
  have HR : Hid (Sl w a c l) := h
  obtain ⟨K, X, hX, hXB, hall⟩ := all_not hi
  have HX := hidI hX
  have HXB := hidI hXB
  have HALL := hidI hall
  have hKl := get_lt hX
  clear h hi hX hXB hall
  go_enter Try.func24, Try.ntmps24
  go_wp2_with fail
  go_loopw [4] (fun i wr => ∃ (k : Nat), k ≤ K ∧ i = .int .i64 (k : Int) ∧ Away [] w wr) (fun i _ => l.length - (intOf i).toNat)
  case atStart => exact ⟨0, by omega, rfl, Away.refl _ _⟩
  case round =>
    obtain ⟨k, hk, rfl, haw⟩ := hrel
    have HAW := hidI haw
    clear haw
    have hlt : k < l.length := by omega
    obtain ⟨x, hx, hxm⟩ := get_of hlt
    obtain ⟨b, off, rfl, c1, c2, -⟩ := (HR.out.row.on HAW.out).at hx
    by_cases hkK : k = K
    · have HB : Hid (isB x = false) := by
        have e := HX.out
        rw [← hkK, hx] at e
        simp at e; rw [e]; exact HXB.out
      clear hx hxm hkK
      obtain ⟨x1, x2⟩ := x
      simp only at c1 c2
      go_wp2_with fail
      refine (ris_b (x1, x2) _ HB.out).mono ?_
      rintro E w2 ⟨rfl, haw2⟩
      have HAW2 : Hid (Away [] w w2) := HAW.out.trans haw2
      clear haw2 c1 c2
      go_wp2_with fail
      go_ret2
      exact ⟨rfl, HAW2.out⟩
    · have HB : Hid (isB x = true) := HALL.out k x (by omega) hx
      clear hx hxm
      obtain ⟨x1, x2⟩ := x
      simp only at c1 c2
      go_wp2_with fail
      refine (ris_b (x1, x2) _ HB.out).mono ?_
      rintro E w2 ⟨rfl, haw2⟩
      have HAW2 : Hid (Away [] w w2) := HAW.out.trans haw2
      clear haw2 c1 c2
      go_wp2_with fail
      go_roundw
      case rel => exact ⟨k + 1, by omega, by go_num, HAW2.out⟩
      case measure => simp [intOf]; omega

set_option maxHeartbeats 4000000 in
theorem raddN {w : World} {a : Option Addr} {l : List Sp} {n c : Nat} (s : Sp) (h : Sl w a c l) (hn : l.length = n) (hb : (rightP l && isB s) = false) :
    Calls Try.prog 27 #[.slice a n c, valS s] w fun E w' => E = .returned (.tuple #[.slice none 0 0, .int .i64 1]) ∧ Away [] w w' := by
  have HB := hidI hb
  clear hb
  have HR : Hid (Sl w a c l) := h
  have HN : Hid (l.length = n) := hn
  clear h hn
  obtain ⟨s1, s2⟩ := s
  simp only [valS]
  go_enter Try.func27, Try.ntmps27
  go_wp2_with fail
  refine (rmay_b a l (s1, s2) n c _ HN.out (by exact HR.out.row.on ((Away.refl [] _).alloc _)) HB.out).mono ?_
  rintro E w2 ⟨rfl, haw2⟩
  have HAW2 : Hid (Away [] w w2) := ((Away.refl [] w).alloc _).trans haw2
  have c0 : w2.cell? ⟨w.heap.size, 0, none⟩ = some (.int .i64 s1) := haw2.cell (by simp) (by rw [World.cell?_alloc_at (hn := rfl)]; rfl)
  have c1 : w2.cell? ⟨w.heap.size, 1, none⟩ = some (.int .i64 s2) := haw2.cell (by simp) (by rw [World.cell?_alloc_at (hn := rfl)]; rfl)
  clear haw2
  go_wp2_with fail
  go_ret2
  exact ⟨rfl, HAW2.out⟩
set_option maxHeartbeats 4000000 in
theorem raddY {w : World} {a : Option Addr} {l : List Sp} {n c : Nat} (s : Sp) (r : List Sp) (h : Sl w a c l) (hn : l.length = n) (hb : rightP l = true) (hs : isB s = true) (hr : Of r (fun n => inB l n || inS s n)) :
    Calls Try.prog 27 #[.slice a n c, valS s] w fun E w' => Tells w E w' r := by
  have HB : Hid ((rightP l && isB s) = true) := by show _ = _; rw [hb, hs]; rfl
  have hsh := right_short hb
  have HI : Hid (∀ x ∈ l ++ [s], Is x) := fun x hx => by
    rcases List.mem_append.1 hx with hx | hx
    · exact (rf_is hb x hx).1
    · simp at hx; rw [hx]; exact isB_iff.1 hs
  have HO : Hid (Of r (setP (l ++ [s]) [])) := hr.congr (fun n => by rw [set_nil, inB_append, inB_cons, inB_nil, Bool.or_false])
  have HLE : Hid (l.length ≤ 32768) := hsh
  clear hb hs hr hsh
  have HR : Hid (Sl w a c l) := h
  have HN : Hid (l.length = n) := hn
  clear h hn
  obtain ⟨s1, s2⟩ := s
  simp only [valS]
  go_enter Try.func27, Try.ntmps27
  go_wp2_with fail
  refine (rmay_b a l (s1, s2) n c _ HN.out (by exact HR.out.row.on ((Away.refl [] _).alloc _)) HB.out).mono ?_
  rintro E w2 ⟨rfl, haw2⟩
  have HAW2 : Hid (Away [] w w2) := ((Away.refl [] w).alloc _).trans haw2
  have c0 : w2.cell? ⟨w.heap.size, 0, none⟩ = some (.int .i64 s1) := haw2.cell (by simp) (by rw [World.cell?_alloc_at (hn := rfl)]; rfl)
  have c1 : w2.cell? ⟨w.heap.size, 1, none⟩ = some (.int .i64 s2) := haw2.cell (by simp) (by rw [World.cell?_alloc_at (hn := rfl)]; rfl)
  clear haw2
  go_wp2_with (at_builtin; refine wpList_appL rfl _ _ rfl _ [] l rfl (by exact Lst.nil _) a n c rfl HN.out HR.out.nil (by exact HR.out.row.on HAW2.out) (by have := HLE.out; have := HN.out; simp; omega) ?_)
  intro v3 w3 hown3 hgr3 hmov3
  have HM3 : Hid (Mk w2 w3 v3 l) := ⟨by simpa using hown3, (New.nil _).moved hmov3 (Nat.le_refl _), (Away.refl [] w2).step hgr3 (New.nil _)⟩
  replace c0 := HM3.out.2.2.cell (by simp) c0
  replace c1 := HM3.out.2.2.cell (by simp) c1
  clear hown3 hgr3 hmov3
  go_wp2_with (at_builtin; refine wpList_app2 rfl _ _ rfl _ l rfl (by exact HM3.out.1.on ((Away.refl [] _).alloc _)) ⟨_, 0, none⟩ 1 rfl (s1, s2) (by rw [World.cell?_alloc_at (hn := rfl)]; rfl) (by rw [add_plain, World.cell?_alloc_at (hn := rfl)]; rfl) (by have := HLE.out; omega) ?_)
  intro v4 w4 hown4 hgr4 hmov4
  have hz3 := HM3.out.2.2.size
  have HM4 : Hid (Mk w2 w4 v4 (l ++ [(s1, s2)])) := ⟨hown4, HM3.out.2.1.moved hmov4 (by simp; omega), (HM3.out.2.2.alloc _).step hgr4 HM3.out.2.1⟩
  clear hown4 hgr4 hmov4 c0 c1
  obtain ⟨va, vc, rfl, hv1, hv2, hv3, -⟩ := HM4.out.1.row (by have := HLE.out; simp; omega) (fun x hx => (HI.out x hx).ok)
  have HV3 := hidI hv3
  have HV2 := hidI hv2
  clear hv1 hv2 hv3
  have HLL : Hid ((l ++ [(s1, s2)]).length ≤ 32769) := by have := HLE.out; show _ ≤ _; simp; omega
  generalize l ++ [(s1, s2)] = ls at *
  go_wp2_with fail
  refine (rlist_c va none ls [] ls.length 0 vc 0 _ rfl rfl (by exact HV3.out) (by exact Row.nil _ _) HV2.out (fun _ => rfl) HI.out (by simp) (by have := HLL.out; simp; omega)).mono ?_
  rintro E w5 ⟨v, q, rfl, hmk, hof⟩
  obtain ⟨ra, rc, rn, rfl, hvn, hvs, hva⟩ := mk_tells hmk hof HO.out
  go_wp2_with fail
  go_ret2
  exact ⟨ra, rc, rn, rfl, hvn, hvs, (HAW2.out.trans HM4.out.2.2).trans hva⟩

set_option maxHeartbeats 4000000 in
theorem rcutN {w : World} {a : Option Addr} {l : List Sp} {n c : Nat} (s : Sp) (h : Sl w a c l) (hn : l.length = n) (hb : (rightP l && isB s) = false) :
    Calls Try.prog 28 #[.slice a n c, valS s] w fun E w' => E = .returned (.tuple #[.slice none 0 0, .int .i64 1]) ∧ Away [] w w' := by
  have HB := hidI hb
  clear hb
  have HR : Hid (Sl w a c l) := h
  have HN : Hid (l.length = n) := hn
  clear h hn
  obtain ⟨s1, s2⟩ := s
  simp only [valS]
  go_enter Try.func28, Try.ntmps28
  go_wp2_with fail
  refine (rmay_b a l (s1, s2) n c _ HN.out (by exact HR.out.row.on ((Away.refl [] _).alloc _)) HB.out).mono ?_
  rintro E w2 ⟨rfl, haw2⟩
  have HAW2 : Hid (Away [] w w2) := ((Away.refl [] w).alloc _).trans haw2
  have c0 : w2.cell? ⟨w.heap.size, 0, none⟩ = some (.int .i64 s1) := haw2.cell (by simp) (by rw [World.cell?_alloc_at (hn := rfl)]; rfl)
  have c1 : w2.cell? ⟨w.heap.size, 1, none⟩ = some (.int .i64 s2) := haw2.cell (by simp) (by rw [World.cell?_alloc_at (hn := rfl)]; rfl)
  clear haw2
  go_wp2_with fail
  go_ret2
  exact ⟨rfl, HAW2.out⟩
set_option maxHeartbeats 4000000 in
theorem rcutY {w : World} {a : Option Addr} {l : List Sp} {n c : Nat} (s : Sp) (r : List Sp) (h : Sl w a c l) (hn : l.length = n) (hb : rightP l = true) (hs : isB s = true) (hr : Of r (fun n => inB l n && !inS s n)) :
    Calls Try.prog 28 #[.slice a n c, valS s] w fun E w' => Tells w E w' r := by
  have HB : Hid ((rightP l && isB s) = true) := by show _ = _; rw [hb, hs]; rfl
  have HI : Hid (∀ x ∈ l, Is x) := fun x hx => (rf_is hb x hx).1
  have HIS : Hid (Is s) := isB_iff.1 hs
  have HOK : Hid (OkS s) := (isB_iff.1 hs).ok
  have HO : Hid (Of r (setP l [s])) := hr.congr (fun n => by unfold setP; rw [inB_cons, inB_nil, Bool.or_false])
  have HLE : Hid (l.length ≤ 32768) := right_short hb
  clear hb hs hr
  have HR : Hid (Sl w a c l) := h
  have HN : Hid (l.length = n) := hn
  clear h hn
  obtain ⟨s1, s2⟩ := s
  simp only [valS]
  go_enter Try.func28, Try.ntmps28
  go_wp2_with fail
  refine (rmay_b a l (s1, s2) n c _ HN.out (by exact HR.out.row.on ((Away.refl [] _).alloc _)) HB.out).mono ?_
  rintro E w2 ⟨rfl, haw2⟩
  have HAW2 : Hid (Away [] w w2) := ((Away.refl [] w).alloc _).trans haw2
  have c0 : w2.cell? ⟨w.heap.size, 0, none⟩ = some (.int .i64 s1) := haw2.cell (by simp) (by rw [World.cell?_alloc_at (hn := rfl)]; rfl)
  have c1 : w2.cell? ⟨w.heap.size, 1, none⟩ = some (.int .i64 s2) := haw2.cell (by simp) (by rw [World.cell?_alloc_at (hn := rfl)]; rfl)
  clear haw2
  go_wp2_with fail
  refine (rlist_c a (some ⟨_, 0, none⟩) l [(s1, s2)] n 1 c 1 _ HN.out rfl (by exact (HR.out.row.on HAW2.out).on ((Away.refl [] _).alloc _)) (by exact (lit_row _ [(s1, s2)] (by simp) (by simp; exact HOK.out)).row) HR.out.nil (by simp) HI.out (by simp; exact HIS.out) (by have := HLE.out; simp; omega)).mono ?_
  rintro E w5 ⟨v, q, rfl, hmk, hof⟩
  obtain ⟨ra, rc, rn, rfl, hvn, hvs, hva⟩ := mk_tells hmk hof HO.out
  go_wp2_with fail
  go_ret2
  exact ⟨ra, rc, rn, rfl, hvn, hvs, (HAW2.out.alloc _).trans hva⟩

set_option maxHeartbeats 4000000 in
theorem rhasS {z : Bool} {w : World} {a : Option Addr} {l : List Sp} {n c : Nat} (s : Sp) (h : Sl w a c l) (hn : l.length = n) (hz : (rightP l && isB s && hasP l s) = z) :
    Calls Try.prog 30 #[.slice a n c, valS s] w fun E w' => E = .returned (.bool z) ∧ Away [] w w' := by
  cases hb : (rightP l && isB s)
  · obtain rfl : z = false := by rw [← hz, hb]; rfl
    have HB := hidI hb
    clear hb hz
    have HR : Hid (Sl w a c l) := h
    have HN : Hid (l.length = n) := hn
    clear h hn
    obtain ⟨s1, s2⟩ := s
    simp only [valS]
    go_enter Try.func30, Try.ntmps30
    go_wp2_with fail
    refine (rmay_b a l (s1, s2) n c _ HN.out (by exact HR.out.row.on ((Away.refl [] _).alloc _)) HB.out).mono ?_
    rintro E w2 ⟨rfl, haw2⟩
    have HAW2 : Hid (Away [] w w2) := ((Away.refl [] w).alloc _).trans haw2
    have c0 : w2.cell? ⟨w.heap.size, 0, none⟩ = some (.int .i64 s1) := haw2.cell (by simp) (by rw [World.cell?_alloc_at (hn := rfl)]; rfl)
    have c1 : w2.cell? ⟨w.heap.size, 1, none⟩ = some (.int .i64 s2) := haw2.cell (by simp) (by rw [World.cell?_alloc_at (hn := rfl)]; rfl)
    clear haw2
    go_wp2_with fail
    go_ret
    exact ⟨rfl, HAW2.out⟩
  · have HB := hidI hb
    obtain ⟨h1, h2⟩ : rightP l = true ∧ isB s = true := by simpa using hb
    have HI : Hid (∀ x ∈ l, Is x) := fun x hx => (rf_is h1 x hx).1
    have HIS : Hid (Is s) := isB_iff.1 h2
    have HOK : Hid (OkS s) := (isB_iff.1 h2).ok
    have HLE : Hid (l.length ≤ 32768) := right_short h1
    have HO : Hid (∀ q : List Sp, Of q (setP [s] l) → decide (q.length = 0) = z) := fun q hq => by rw [has_list h1 h2 hq, ← hz, hb]; rfl
    clear hb hz h1 h2
    have HR : Hid (Sl w a c l) := h
    have HN : Hid (l.length = n) := hn
    clear h hn
    obtain ⟨s1, s2⟩ := s
    simp only [valS]
    go_enter Try.func30, Try.ntmps30
    go_wp2_with fail
    refine (rmay_b a l (s1, s2) n c _ HN.out (by exact HR.out.row.on ((Away.refl [] _).alloc _)) HB.out).mono ?_
    rintro E w2 ⟨rfl, haw2⟩
    have HAW2 : Hid (Away [] w w2) := ((Away.refl [] w).alloc _).trans haw2
    have c0 : w2.cell? ⟨w.heap.size, 0, none⟩ = some (.int .i64 s1) := haw2.cell (by simp) (by rw [World.cell?_alloc_at (hn := rfl)]; rfl)
    have c1 : w2.cell? ⟨w.heap.size, 1, none⟩ = some (.int .i64 s2) := haw2.cell (by simp) (by rw [World.cell?_alloc_at (hn := rfl)]; rfl)
    clear haw2
    go_wp2_with fail
    refine (rlist_c (some ⟨_, 0, none⟩) a [(s1, s2)] l 1 n 1 c _ rfl HN.out (by exact (lit_row _ [(s1, s2)] (by simp) (by simp; exact HOK.out)).row) (by exact (HR.out.row.on HAW2.out).on ((Away.refl [] _).alloc _)) (by simp) HR.out.nil (by simp; exact HIS.out) HI.out (by have := HLE.out; simp; omega)).mono ?_
    rintro E w5 ⟨v, q, rfl, hmk, hof⟩
    have hz2 := HO.out q hof
    obtain ⟨ra, rc, rfl, hvs⟩ := hmk.sl hof.isOk.1 hof.isOk.2
    have HAW5 : Hid (Away [] w w5) := (HAW2.out.alloc _).trans hmk.2.2
    have hqb : ((q.length : Int) == 0) = z := by rw [← hz2, Bool.eq_iff_iff]; simp
    clear hz2 hmk hof hvs c0 c1
    go_wp2_with fail
    go_ret
    exact ⟨by first | rfl | (simp; done) | (simp; exact hqb), HAW5.out⟩

set_option maxHeartbeats 4000000 in
theorem rmeetsS {z : Bool} {w : World} {a : Option Addr} {l : List Sp} {n c : Nat} (s : Sp) (h : Sl w a c l) (hn : l.length = n) (hz : (rightP l && isB s && meetsP l s) = z) :
    Calls Try.prog 31 #[.slice a n c, valS s] w fun E w' => E = .returned (.bool z) ∧ Away [] w w' := by
  cases hb : (rightP l && isB s)
  · obtain rfl : z = false := by rw [← hz, hb]; rfl
    have HB := hidI hb
    clear hb hz
    have HR : Hid (Sl w a c l) := h
    have HN : Hid (l.length = n) := hn
    clear h hn
    obtain ⟨s1, s2⟩ := s
    simp only [valS]
    go_enter Try.func31, Try.ntmps31
    go_wp2_with fail
    refine (rmay_b a l (s1, s2) n c _ HN.out (by exact HR.out.row.on ((Away.refl [] _).alloc _)) HB.out).mono ?_
    rintro E w2 ⟨rfl, haw2⟩
    have HAW2 : Hid (Away [] w w2) := ((Away.refl [] w).alloc _).trans haw2
    have c0 : w2.cell? ⟨w.heap.size, 0, none⟩ = some (.int .i64 s1) := haw2.cell (by simp) (by rw [World.cell?_alloc_at (hn := rfl)]; rfl)
    have c1 : w2.cell? ⟨w.heap.size, 1, none⟩ = some (.int .i64 s2) := haw2.cell (by simp) (by rw [World.cell?_alloc_at (hn := rfl)]; rfl)
    clear haw2
    go_wp2_with fail
    go_quiet (fail)
    go_wp2_with fail
    go_ret
    exact ⟨rfl, HAW2.out.drewN _⟩
  · have HB := hidI hb
    obtain ⟨h1, h2⟩ : rightP l = true ∧ isB s = true := by simpa using hb
    have HI : Hid (∀ x ∈ l, Is x) := fun x hx => (rf_is h1 x hx).1
    have HIS : Hid (Is s) := isB_iff.1 h2
    have HOK : Hid (OkS s) := (isB_iff.1 h2).ok
    have HLE : Hid (l.length ≤ 32768) := right_short h1
    have HO : Hid (∀ q : List Sp, Of q (setP [s] l) → decide (sizeP q < s.2 - s.1) = z) := fun q hq => by rw [meets_list h1 h2 hq, ← hz, hb]; rfl
    clear hb hz h1 h2
    have HR : Hid (Sl w a c l) := h
    have HN : Hid (l.length = n) := hn
    clear h hn
    obtain ⟨s1, s2⟩ := s
    simp only [valS]
    go_enter Try.func31, Try.ntmps31
    go_wp2_with fail
    refine (rmay_b a l (s1, s2) n c _ HN.out (by exact HR.out.row.on ((Away.refl [] _).alloc _)) HB.out).mono ?_
    rintro E w2 ⟨rfl, haw2⟩
    have HAW2 : Hid (Away [] w w2) := ((Away.refl [] w).alloc _).trans haw2
    have c0 : w2.cell? ⟨w.heap.size, 0, none⟩ = some (.int .i64 s1) := haw2.cell (by simp) (by rw [World.cell?_alloc_at (hn := rfl)]; rfl)
    have c1 : w2.cell? ⟨w.heap.size, 1, none⟩ = some (.int .i64 s2) := haw2.cell (by simp) (by rw [World.cell?_alloc_at (hn := rfl)]; rfl)
    clear haw2
    have hsw : IntKind.i64.wrap (s2 - s1) = s2 - s1 := by
      have := HIS.out
      unfold Is at this
      simp only at this
      rw [IntKind.wrap_i64]; omega
    go_wp2_with fail
    go_region_held3 (fun w' => w'.cell? ⟨w.heap.size, 0, none⟩ = some (.int .i64 s1) ∧ w'.cell? ⟨w.heap.size, 1, none⟩ = some (.int .i64 s2)) (go_keep)
      (first
        | (go_at_call 39; refine (rlist_c (some ⟨_, 0, none⟩) a [(s1, s2)] l 1 n 1 c _ rfl HN.out (by exact (lit_row _ [(s1, s2)] (by simp) (by simp; exact HOK.out)).row) (by exact (HR.out.row.on (HAW2.out.drew)).on ((Away.refl [] _).alloc _)) (by simp) HR.out.nil (by simp; exact HIS.out) HI.out (by have := HLE.out; simp; omega)).mono ?_; rintro E w5 ⟨v, q, rfl, hmk, hof⟩; have hz2 := HO.out q hof; obtain ⟨ra, rc, rfl, hvs⟩ := hmk.sl hof.isOk.1 hof.isOk.2; have z0 := (((Away.refl [] w2).drew.alloc _).trans hmk.2.2).cell (by simp) c0; have z1 := (((Away.refl [] w2).drew.alloc _).trans hmk.2.2).cell (by simp) c1)
        | (go_at_call 26; refine (rsize_c ra q q.length rc _ rfl (by exact hvs.row)).mono ?_; rintro E w6 ⟨rfl, haw6⟩; have y0 := haw6.cell (by simp) z0; have y1 := haw6.cell (by simp) z1))
    all_goals
      go_wp2_with fail
      go_ret
      exact ⟨by first | rfl | (simp; done) | (simp [hz2]; done), ((HAW2.out.drew.alloc _).trans hmk.2.2).trans haw6⟩

set_option maxHeartbeats 4000000 in
theorem rholesN {w : World} {a : Option Addr} {l : List Sp} {n c : Nat} (to : Int) (h : Sl w a c l) (hn : l.length = n) (hb : (rightP l && decide (0 ≤ to ∧ to ≤ 65535)) = false) :
    Calls Try.prog 29 #[.slice a n c, .int .i64 to] w fun E w' => E = .returned (.tuple #[.slice none 0 0, .int .i64 1]) ∧ Away [] w w' := by
  have HR : Hid (Sl w a c l) := h
  have HN : Hid (l.length = n) := hn
  clear h hn
  cases hr : rightP l
  · have HB := hidI hr
    clear hb hr
    go_enter Try.func29, Try.ntmps29
    go_wp2_with fail
    refine (rright_b a l n c _ HN.out (by exact HR.out.row) HB.out).mono ?_
    rintro E w2 ⟨rfl, haw2⟩
    have HAW2 := hidI haw2
    clear haw2
    go_wp2_with fail
    go_ret2
    exact ⟨rfl, HAW2.out⟩
  · have HB := hidI hr
    have hq : ¬ (0 ≤ to ∧ to ≤ 65535) := by rw [hr] at hb; simpa using hb
    clear hb hr
    by_cases h0 : to < 0
    · clear hq
      go_enter Try.func29, Try.ntmps29
      go_wp2_with fail
      refine (rright_b a l n c _ HN.out (by exact HR.out.row) HB.out).mono ?_
      rintro E w2 ⟨rfl, haw2⟩
      have HAW2 := hidI haw2
      clear haw2
      go_wp2_with fail
      go_ret2
      exact ⟨rfl, HAW2.out⟩
    · have h1 : 65535 < to := by omega
      clear hq
      go_enter Try.func29, Try.ntmps29
      go_wp2_with fail
      refine (rright_b a l n c _ HN.out (by exact HR.out.row) HB.out).mono ?_
      rintro E w2 ⟨rfl, haw2⟩
      have HAW2 := hidI haw2
      clear haw2
      go_wp2_with fail
      go_ret2
      exact ⟨rfl, HAW2.out⟩
set_option maxHeartbeats 4000000 in
theorem rholesY {w : World} {a : Option Addr} {l : List Sp} {n c : Nat} (to : Int) (r : List Sp) (h : Sl w a c l) (hn : l.length = n) (hb : rightP l = true) (hs : 0 ≤ to ∧ to ≤ 65535) (hr : Of r (fun n => decide (0 ≤ n ∧ n < to) && !inB l n)) :
    Calls Try.prog 29 #[.slice a n c, .int .i64 to] w fun E w' => Tells w E w' r := by
  have HR : Hid (Sl w a c l) := h
  have HN : Hid (l.length = n) := hn
  have HB := hidI hb
  have HI : Hid (∀ x ∈ l, Is x) := fun x hx => (rf_is hb x hx).1
  have HLE : Hid (l.length ≤ 32768) := right_short hb
  obtain ⟨h0, h1⟩ := hs
  clear h hn hb
  by_cases hz : to = 0
  · have HO : Hid (r = []) := hr.nil_iff.2 (fun n => by
      have : decide (0 ≤ n ∧ n < to) = false := decide_eq_false (by omega)
      rw [this]; rfl)
    subst hz
    clear hr
    go_enter Try.func29, Try.ntmps29
    go_wp2_with fail
    refine (rright_b a l n c _ HN.out (by exact HR.out.row) HB.out).mono ?_
    rintro E w2 ⟨rfl, haw2⟩
    have HAW2 := hidI haw2
    clear haw2
    go_wp2_with fail
    go_ret2
    exact ⟨none, 0, 0, rfl, by rw [HO.out]; rfl, by rw [HO.out]; exact Sl.none _, HAW2.out⟩
  · have HIS : Hid (Is (0, to)) := ⟨by simp, by simp only; omega, h1⟩
    have HOK : Hid (OkS (0, to)) := HIS.out.ok
    have HO : Hid (Of r (setP [(0, to)] l)) := hr.congr (fun n => by rw [set_one]; rfl)
    clear hr
    go_enter Try.func29, Try.ntmps29
    go_wp2_with fail
    refine (rright_b a l n c _ HN.out (by exact HR.out.row) HB.out).mono ?_
    rintro E w2 ⟨rfl, haw2⟩
    have HAW2 := hidI haw2
    clear haw2
    go_wp2_with fail
    refine (rlist_c (some ⟨_, 0, none⟩) a [(0, to)] l 1 n 1 c _ rfl HN.out (by exact (lit_row _ [(0, to)] (by simp) (by simp; exact HOK.out)).row) (by exact (HR.out.row.on HAW2.out).on ((Away.refl [] _).alloc _)) (by simp) HR.out.nil (by simp; exact HIS.out) HI.out (by have := HLE.out; simp; omega)).mono ?_
    rintro E w5 ⟨v, q, rfl, hmk, hof⟩
    obtain ⟨ra, rc, rn, rfl, hvn, hvs, hva⟩ := mk_tells hmk hof HO.out
    go_wp2_with fail
    go_ret2
    exact ⟨ra, rc, rn, rfl, hvn, hvs, (HAW2.out.alloc _).trans hva⟩

end Go.Proofs.Ytckiiidigajhpaa
