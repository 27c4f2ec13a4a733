/-
  The document's Parse.
-/
import Derived.Test.YtoifolmcdkfniaaDig
import Derived.Test.YtoifolmcdkfniaaTxt
import Derived.Test.YtoifolmcdkfniaaOwn
import Derived.Test.YtoifolmcdkfniaaFour
import Derived.Test.YtoifolmcdkfniaaJoin
import Derived.Test.YtoifolmcdkfniaaSix
import Derived.ArgAppend
import Derived.Laws.AppendOwnNone
import Derived.Test.YtoifolmcdkfniaaParse
namespace Go.Proofs.Ytoifolmcdkfniaa
open Go.ChangeShapes Go.WideShapes Go.ChangeAt Go.RowKit
set_option linter.unusedVariables false
set_option maxHeartbeats 4000000
set_option maxRecDepth 100000

theorem rdigit_c (c : UInt8) (w : World) : Calls Try.prog 92 #[.int .u8 (c.toNat : Int)] w fun e w' => e = .returned (.int .i64 (dig c : Int)) ∧ w' = w := by
  have hc : c.toNat < 256 := c.toNat_lt
  obtain ⟨d, hd⟩ : ∃ d, d = dig c := ⟨_, rfl⟩
  rw [← hd]
  have HD : Hid (d = dig c) := hd
  clear hd
  unfold dig at HD
  generalize c.toNat = n at *
  by_cases h1 : 48 ≤ n ∧ n ≤ 57
  · obtain ⟨h1, h2⟩ := h1
    have e : d = n - 48 := by rw [HD.out, if_pos ⟨h1, h2⟩]
    have e2 : (d : Int) = (n : Int) - 48 := by omega
    rw [e2]
    have t1 : (48 : Int) ≤ n := by omega
    have t2 : (n : Int) ≤ 57 := by omega
    clear HD e e2
    go_enter Try.func92, Try.ntmps92
    go_wp2
    go_ret
    exact ⟨rfl, rfl⟩
  · by_cases h2 : 97 ≤ n ∧ n ≤ 102
    · obtain ⟨h3, h4⟩ := h2
      have e : d = n - 87 := by rw [HD.out, if_neg h1, if_pos ⟨h3, h4⟩]
      have e2 : (d : Int) = (n : Int) - 97 + 10 := by omega
      rw [e2]
      have t0 : (48 : Int) ≤ n := by omega
      have t00 : ¬ ((n : Int) ≤ 57) := by omega
      have t1 : (97 : Int) ≤ n := by omega
      have t2 : (n : Int) ≤ 102 := by omega
      clear HD e e2 h1
      go_enter Try.func92, Try.ntmps92
      go_wp2
      go_ret
      exact ⟨rfl, rfl⟩
    · by_cases h3 : 65 ≤ n ∧ n ≤ 70
      · obtain ⟨h4, h5⟩ := h3
        have e : d = n - 55 := by rw [HD.out, if_neg h1, if_neg h2, if_pos ⟨h4, h5⟩]
        have e2 : (d : Int) = (n : Int) - 65 + 10 := by omega
        rw [e2]
        have t0 : (48 : Int) ≤ n := by omega
        have t00 : ¬ ((n : Int) ≤ 57) := by omega
        have t1 : ¬ ((97 : Int) ≤ n) := by omega
        have t2 : (65 : Int) ≤ n := by omega
        have t3 : (n : Int) ≤ 70 := by omega
        clear HD e e2 h1 h2
        go_enter Try.func92, Try.ntmps92
        go_wp2
        go_ret
        exact ⟨rfl, rfl⟩
      · have e : d = 99 := by rw [HD.out, if_neg h1, if_neg h2, if_neg h3]
        subst e
        clear HD
        have f1 : (decide ((48 : Int) ≤ n) && decide ((n : Int) ≤ 57)) = false := by
          rw [Bool.and_eq_false_iff]; simp; omega
        have f2 : (decide ((97 : Int) ≤ n) && decide ((n : Int) ≤ 102)) = false := by
          rw [Bool.and_eq_false_iff]; simp; omega
        have f3 : (decide ((65 : Int) ≤ n) && decide ((n : Int) ≤ 70)) = false := by
          rw [Bool.and_eq_false_iff]; simp; omega
        go_enter Try.func92, Try.ntmps92
        by_cases p1 : (48 : Int) ≤ n
        · have p2 : ¬ ((n : Int) ≤ 57) := by omega
          by_cases p3 : (97 : Int) ≤ n
          · have p4 : ¬ ((n : Int) ≤ 102) := by omega
            have p5 : (65 : Int) ≤ n := by omega
            have p6 : ¬ ((n : Int) ≤ 70) := by omega
            clear f1 f2 f3 h1 h2 h3
            go_wp2
            go_ret
            exact ⟨rfl, rfl⟩
          · by_cases p5 : (65 : Int) ≤ n
            · have p6 : ¬ ((n : Int) ≤ 70) := by omega
              clear f1 f2 f3 h1 h2 h3
              go_wp2
              go_ret
              exact ⟨rfl, rfl⟩
            · clear f1 f2 f3 h1 h2 h3
              go_wp2
              go_ret
              exact ⟨rfl, rfl⟩
        · have p3 : ¬ ((97 : Int) ≤ n) := by omega
          have p5 : ¬ ((65 : Int) ≤ n) := by omega
          clear f1 f2 f3 h1 h2 h3
          go_wp2
          go_ret
          exact ⟨rfl, rfl⟩
/-! A byte and a run of a text. -/
theorem idx_eq (l : List UInt8) (i : Nat) (x : UInt8) (z : Int) (hz : z = i) (h : l[i]? = some x) (wx : World) : (Instr.index 9 (.string ⟨l.toArray⟩) (.int .i64 z)).run Try.prog wx = .ok (.int .u8 (x.toNat : Int)) wx := by
  subst hz
  have hi : i < l.length := (List.getElem?_eq_some_iff.1 h).1
  rw [run_index_string wx 9 _ .i64 _ Try.underlying9]
  have hs : (ByteArray.mk l.toArray).size = l.length := by simp [ByteArray.size]
  rw [dif_pos ⟨by omega, by rw [hs]; omega⟩]
  have e : l[i] = x := (List.getElem?_eq_some_iff.1 h).2
  subst e
  rfl
theorem bsize (l : List UInt8) : (ByteArray.mk l.toArray).size = l.length := by simp [ByteArray.size]
def numI (r : Option Nat) : Int := match r with | some n => (n : Int) | none => -1
theorem rnumber_c (l : List UInt8) (base most : Nat) (hb : 2 ≤ base) (hb16 : base ≤ 16) (hm : most ≤ 4) (hl : l.length ≤ 1048576) (w : World) :
    Calls Try.prog 83 #[.string ⟨l.toArray⟩, .int .i64 (base : Int), .int .i64 (most : Int)] w fun e w' => e = .returned (.int .i64 (numI (numOf base most l))) ∧ w' = w := by
  obtain ⟨r, hr⟩ : ∃ r, r = numI (numOf base most l) := ⟨_, rfl⟩
  rw [← hr]
  have HR : Hid (r = numI (numOf base most l)) := hr
  have hsz := bsize l
  clear hr
  by_cases h0 : l.length = 0
  · obtain rfl : r = -1 := by rw [HR.out, numOf, if_pos (.inl h0)]; rfl
    rw [h0] at hsz
    go_enter Try.func83, Try.ntmps83
    go_wp2
    go_ret
    exact ⟨rfl, rfl⟩
  · have h0' : ¬ ((l.length : Int) = 0) := by omega
    by_cases h1 : most < l.length
    · obtain rfl : r = -1 := by rw [HR.out, numOf, if_pos (.inr h1)]; rfl
      have h1' : (most : Int) < (l.length : Int) := by omega
      go_enter Try.func83, Try.ntmps83
      go_wp2
      go_ret
      exact ⟨rfl, rfl⟩
    · have h1' : ¬ ((most : Int) < (l.length : Int)) := by omega
      have HD : Hid (r = numI (digs base 0 l)) := by show _ = _; rw [HR.out, numOf, if_neg (by omega)]
      clear HR
      go_enter Try.func83, Try.ntmps83
      go_wp2_with fail
      go_loopw [7, 8] (fun nv iv wr => ∃ k n : Nat, k ≤ l.length ∧ iv = .int .i64 (k : Int) ∧ nv = .int .i64 (n : Int) ∧ n < 16 ^ k ∧ digs base 0 l = digs base n (l.drop k) ∧ wr = w) (fun _ iv _ => l.length - (intOf iv).toNat)
      case atStart => exact ⟨0, 0, by omega, rfl, rfl, by simp, by simp, rfl⟩
      case round =>
        obtain ⟨k, n, hk, rfl, rfl, hn, hd, hW⟩ := hrel
        subst hW
        have HDD : Hid (digs base 0 l = digs base n (l.drop k)) := hd
        clear hd
        have h16 : 16 ^ k ≤ 65536 := by
          have : 16 ^ k ≤ 16 ^ 4 := Nat.pow_le_pow_right (by decide) (by omega)
          omega
        by_cases hlt : k < l.length
        · obtain ⟨x, hx⟩ : ∃ x, l[k]? = some x := ⟨l[k], List.getElem?_eq_getElem hlt⟩
          have hix := idx_eq l k x (k : Int) rfl hx
          have hdrop : l.drop k = x :: l.drop (k + 1) := by
            rw [List.drop_eq_getElem_cons hlt, (List.getElem?_eq_some_iff.1 hx).2]
          have HS : Hid (digs base 0 l = if dig x < base then digs base (n * base + dig x) (l.drop (k + 1)) else none) := by
            show _ = _
            rw [HDD.out, hdrop]; rfl
          have hpow : Hid (16 ^ (k + 1) = 16 ^ k * 16) := Nat.pow_succ ..
          have hnb : n * base ≤ n * 16 := Nat.mul_le_mul_left n hb16
          have t1 : decide ((k : Int) < (l.length : Int)) = true := by simp; omega
          clear hx hdrop
          go_wp2_with fail
          refine (rdigit_c x _).mono ?_
          rintro E w' ⟨rfl, rfl⟩
          generalize dig x = d at *
          by_cases hdb : d < base
          · have hdb' : ¬ ((base : Int) ≤ (d : Int)) := by omega
            have HS2 : Hid (digs base 0 l = digs base (n * base + d) (l.drop (k + 1))) := by show _ = _; rw [HS.out, if_pos hdb]
            obtain ⟨P, hP⟩ : ∃ P, P = n * base := ⟨_, rfl⟩
            rw [← hP] at hnb HS2
            have hwm : IntKind.i64.wrap ((n : Int) * (base : Int)) = (P : Int) := by
              have : (n : Int) * (base : Int) = (P : Int) := by rw [hP]; simp
              rw [this]
              simp [IntKind.wrap, IntKind.bits, IntKind.signed]; omega
            clear hP
            go_wp2_with fail
            go_roundw
            case rel => exact ⟨k + 1, P + d, by omega, by go_num, by go_num, by have := hpow.out; omega, HS2.out, by trivial⟩
            case measure => simp [intOf]; omega
          · have hdb' : (base : Int) ≤ (d : Int) := by omega
            obtain rfl : r = -1 := by rw [HD.out, HS.out, if_neg hdb]; rfl
            go_wp2_with fail
            go_ret
            exact ⟨rfl, rfl⟩
        · have t1 : decide ((k : Int) < (l.length : Int)) = false := by simp; omega
          obtain rfl : r = (n : Int) := by rw [HD.out, HDD.out, List.drop_eq_nil_of_le (by omega)]; rfl
          go_wp2_with fail
          go_ret
          exact ⟨rfl, rfl⟩
theorem rhas_c (l : List UInt8) (c : UInt8) (hl : l.length ≤ 1048576) (w : World) :
    Calls Try.prog 58 #[.string ⟨l.toArray⟩, .int .u8 (c.toNat : Int)] w fun e w' => e = .returned (.bool (decide (c ∈ l))) ∧ w' = w := by
  obtain ⟨r, hr⟩ : ∃ r, r = decide (c ∈ l) := ⟨_, rfl⟩
  rw [← hr]
  have HR : Hid (r = decide (c ∈ l)) := hr
  have hsz := bsize l
  clear hr
  go_enter Try.func58, Try.ntmps58
  go_wp2_with fail
  go_loopw [5] (fun iv wr => ∃ k : Nat, k ≤ l.length ∧ iv = .int .i64 (k : Int) ∧ (c ∈ l ↔ c ∈ l.drop k) ∧ wr = w) (fun iv _ => l.length - (intOf iv).toNat)
  case atStart => exact ⟨0, by omega, rfl, by simp, rfl⟩
  case round =>
    obtain ⟨k, hk, rfl, hm, hW⟩ := hrel
    subst hW
    have HM : Hid (c ∈ l ↔ c ∈ l.drop k) := hm
    clear hm
    by_cases hlt : k < l.length
    · obtain ⟨x, hx⟩ : ∃ x, l[k]? = some x := ⟨l[k], List.getElem?_eq_getElem hlt⟩
      have hix := idx_eq l k x (k : Int) rfl hx
      have hdrop : l.drop k = x :: l.drop (k + 1) := by
        rw [List.drop_eq_getElem_cons hlt, (List.getElem?_eq_some_iff.1 hx).2]
      have t1 : decide ((k : Int) < (l.length : Int)) = true := by simp; omega
      by_cases hc : x = c
      · subst hc
        obtain rfl : r = true := by rw [HR.out, decide_eq_true_eq, HM.out, hdrop]; simp
        clear hdrop hx
        go_wp2_with fail
        go_ret
        exact ⟨rfl, rfl⟩
      · have hne : ¬ ((x.toNat : Int) = (c.toNat : Int)) := fun e => hc (UInt8.toNat_inj.1 (by omega))
        have HM2 : Hid (c ∈ l ↔ c ∈ l.drop (k + 1)) := by
          show _ ↔ _
          rw [HM.out, hdrop, List.mem_cons]
          exact ⟨fun h => h.elim (fun e => absurd e.symm hc) id, .inr⟩
        generalize x.toNat = xn at *
        generalize c.toNat = cn at *
        clear hdrop hx
        go_wp2_with fail
        go_roundw
        case rel => exact ⟨k + 1, by omega, by go_num, HM2.out, by trivial⟩
        case measure => simp [intOf]; omega
    · have t1 : decide ((k : Int) < (l.length : Int)) = false := by simp; omega
      obtain rfl : r = false := by rw [HR.out, decide_eq_false_iff_not, HM.out, List.drop_eq_nil_of_le (by omega)]; simp
      go_wp2_with fail
      go_ret
      exact ⟨rfl, rfl⟩
#print axioms rhas_c
end Go.Proofs.Ytoifolmcdkfniaa

namespace Go.Proofs.Ytoifolmcdkfniaa
open Go.ChangeShapes Go.WideShapes Go.ChangeAt Go.RowKit
set_option linter.unusedVariables false
set_option maxHeartbeats 4000000
set_option maxRecDepth 100000

def rs (ts : List (List UInt8)) : List Value := ts.map (fun t => Value.string ⟨t.toArray⟩)
theorem rs_snoc (ts : List (List UInt8)) (t : List UInt8) : rs (ts ++ [t]) = rs ts ++ [.string ⟨t.toArray⟩] := by simp [rs]
theorem slc_eq (l : List UInt8) (a b : Nat) (x y : Int) (hx : x = a) (hy : y = b) (hab : a ≤ b) (hb : b ≤ l.length) (wx : World) : (Instr.sliceAt 9 (.string ⟨l.toArray⟩) (some (.int .i64 x)) (some (.int .i64 y)) none).run Try.prog wx = .ok (.string ⟨((l.drop a).take (b - a)).toArray⟩) wx := by
  subst hx; subst hy
  rw [run_sliceAt_string (h := Try.underlying9), run_slice_string wx 9 _ .i64 .i64 _ _ Try.underlying9 (by omega) (by omega) (by rw [bsize]; omega), Int.toNat_natCast, Int.toNat_natCast, ByteArray.extract_mk]
theorem slc_h (l : List UInt8) (b : Nat) (y : Int) (hy : y = b) (hb : b ≤ l.length) (wx : World) : (Instr.sliceAt 9 (.string ⟨l.toArray⟩) none (some (.int .i64 y)) none).run Try.prog wx = .ok (.string ⟨(l.take b).toArray⟩) wx := by
  subst hy
  rw [run_sliceAt_string (h := Try.underlying9), run_slice_string_h (ht := Try.underlying9) (h0 := by omega) (h2 := by rw [bsize]; omega), Int.toNat_natCast, ByteArray.extract_mk]
  simp
theorem slc_l (l : List UInt8) (a : Nat) (x : Int) (hx : x = a) (ha : a ≤ l.length) (wx : World) : (Instr.sliceAt 9 (.string ⟨l.toArray⟩) (some (.int .i64 x)) none none).run Try.prog wx = .ok (.string ⟨(l.drop a).toArray⟩) wx := by
  subst hx
  rw [run_sliceAt_string (h := Try.underlying9), run_slice_string_l (ht := Try.underlying9) (h0 := by omega) (h1 := by rw [bsize]; omega), Int.toNat_natCast, ByteArray.extract_mk, bsize, List.take_of_length_le (by simp)]
/-- An append of one element that was just laid. -/
theorem wpList_app1b {w : World} {ops : Array Oper} {rest : List Oper} {o : Oper} {a : Act} {Q : Exit → Act → World → Prop} (hgd : o.guard = none) (s x : Operand) (t : TypeId)
    (ho : o.op = .call { callee := .builtin .append, args := #[s, x], argTypes := #[t, t] }) (B : Nat) (e : TypeId) (z : Value) (bytes : Nat) (ht : Try.prog.underlying t = some (.slice e)) (hi : (Try.prog.info? e).map (fun i => (i.zero, i.size, i.bytes)) = some (some z, 1, bytes)) (hzs : z.cells.size = 1)
    (v : Value) (n : Nat) (xs : List Value) (hs : a.eval s = v) (hown : w.ownsRow B e 1 v n xs) (u : Value) (hx : a.eval x = .slice (some ⟨w.heap.size, 0, none⟩) 1 1) (h1 : u.oneCell' = true) (hlen : n ≤ 4000000) (hb : bytes ≤ 16) (hB : B ≤ w.heap.size)
    (h : ∀ v' w', w'.ownsRow B e 1 v' (n + 1) (xs ++ [u]) → Below B w w' → wpList Try.prog ops Q rest (a.put o.dst v') w') : wpList Try.prog ops Q (o :: rest) a (w.alloc (.cells #[u] e)) := by
  obtain ⟨i0, hi0, hz0, hz1, hz2⟩ := info_parts hi
  have hbel : Below w.heap.size w (w.alloc (.cells #[u] e)) := (Below.refl _ _).alloc (Nat.le_refl _) _
  refine wpList_append_own (P := Try.prog) _ hgd s x t ho B e i0 z 1 bytes ht hi0 hz0 hz1 hz2 hzs (by decide) v n xs hs (own_below hown hbel) ⟨w.heap.size, 0, none⟩ 1 1 [u] hx rfl ?_ (by intro y hy; simp at hy; rw [hy]; exact h1) (by unfold maxLen; omega) ?_ (by simp; omega) ?_
  · intro j y hj
    have hj0 : j = 0 := by
      rcases j with _ | j
      · rfl
      · simp at hj
    subst hj0
    simp at hj
    subst hj
    rw [add_plain, Nat.zero_add, World.cell?_alloc_at (hn := rfl)]
    rfl
  · have : (n + 1) * bytes ≤ 4000001 * 16 := Nat.mul_le_mul (by omega) hb
    omega
  · intro v' w' h2 h3 _
    refine h v' w' h2 ?_
    exact ((Below.refl B w).alloc hB _).grown h3 (by simp; omega) (fun k hk => (World.ownsRow.lt (own_below hown hbel) k hk).1)
/-- What pieces tells. -/
def PcPost (ps : List (List UInt8)) (w : World) (e : Ending) (w' : World) : Prop := Below w.heap.size w w' ∧ ∃ v, e = .returned v ∧ w'.ownsRow w.heap.size 9 1 v ps.length (rs ps)
theorem take_grow (l : List UInt8) (f k : Nat) (x : UInt8) (hf : f ≤ k) (hx : l[k]? = some x) : (l.drop f).take (k + 1 - f) = (l.drop f).take (k - f) ++ [x] := by
  have hk : k < l.length := (List.getElem?_eq_some_iff.1 hx).1
  rw [show k + 1 - f = (k - f) + 1 from by omega]
  rw [List.take_succ_eq_append_getElem (by simp; omega)]
  congr 1
  rw [List.getElem_drop]
  have := (List.getElem?_eq_some_iff.1 hx).2
  congr 1
  rw [← this]
  congr 1
  omega
theorem rpieces_c (l : List UInt8) (c : UInt8) (hl : l.length ≤ 1048576) (w : World) :
    Calls Try.prog 82 #[.string ⟨l.toArray⟩, .int .u8 (c.toNat : Int)] w fun e w' => PcPost (pieces c l) w e w' := by
  have hsz := bsize l
  go_enter Try.func82, Try.ntmps82
  go_wp2_with fail
  go_loopw [5, 6, 7] (fun v fv iv wr => ∃ (k f : Nat) (out : List (List UInt8)), k ≤ l.length + 1 ∧ iv = .int .i64 (k : Int) ∧ fv = .int .i64 (f : Int) ∧ f ≤ k ∧ out.length ≤ k ∧ wr.ownsRow w.heap.size 9 1 v out.length (rs out) ∧ Below w.heap.size w wr ∧ (k ≤ l.length → pieces c l = out ++ pcons ((l.drop f).take (k - f)) (pieces c (l.drop k))) ∧ (k = l.length + 1 → pieces c l = out)) (fun _ _ iv _ => l.length + 1 - (intOf iv).toNat)
  case atStart => exact ⟨0, 0, [], by omega, rfl, rfl, by omega, by simp, World.ownsRow_nil _ _ _ _, Below.refl _ _, fun _ => by simp [pcons_nil (pieces_ne _ _)], fun h => by omega⟩
  case round =>
    obtain ⟨k, f, out, hk, rfl, rfl, hf, hol, hown, hbel, hp1, hp2⟩ := hrel
    have hsb := hbel.size
    by_cases hle : k ≤ l.length
    · have hp := hp1 hle
      have HP : Hid (pieces c l = out ++ pcons ((l.drop f).take (k - f)) (pieces c (l.drop k))) := hp
      have hsl := slc_eq l f k (f : Int) (k : Int) rfl rfl hf hle
      have t0 : decide ((k : Int) ≤ (l.length : Int)) = true := by simp; omega
      clear hp hp1 hp2
      by_cases heq : k = l.length
      · have hE : Hid (pieces c l = out ++ [(l.drop f).take (k - f)]) := by
          show _ = _
          have e0 : l.drop k = [] := List.drop_eq_nil_of_le (by omega)
          rw [HP.out, e0]
          simp [pieces, pcons]
        subst heq
        generalize (l.drop f).take (l.length - f) = cur at *
        go_wp2_with (at_builtin; refine wpList_app1b rfl _ _ 110 rfl w.heap.size 9 _ 16 Try.underlying110 info9 rfl _ out.length (rs out) rfl hown (.string ⟨cur.toArray⟩) rfl rfl (by omega) (by omega) hsb ?_)
        intro v' w' hown' hbel'
        have hown2 : w'.ownsRow w.heap.size 9 1 v' (out ++ [cur]).length (rs (out ++ [cur])) := by rw [rs_snoc, List.length_append]; exact hown'
        have hbel2 := hbel.trans hbel'
        clear hown hown' hbel hbel'
        go_wp2_with fail
        go_roundw
        case rel => exact ⟨l.length + 1, l.length + 1, out ++ [cur], by omega, by go_num, by go_num, by omega, by simp; omega, hown2, hbel2, fun h => by omega, fun _ => hE.out⟩
        case measure => simp [intOf]
      · have hlt : k < l.length := by omega
        obtain ⟨x, hx⟩ : ∃ x, l[k]? = some x := ⟨l[k], List.getElem?_eq_getElem hlt⟩
        have hix := idx_eq l k x (k : Int) rfl hx
        have hdrop : l.drop k = x :: l.drop (k + 1) := by
          rw [List.drop_eq_getElem_cons hlt, (List.getElem?_eq_some_iff.1 hx).2]
        have t1 : ¬ ((k : Int) = (l.length : Int)) := by omega
        by_cases hc : x = c
        · subst hc
          have hE : Hid (pieces x l = (out ++ [(l.drop f).take (k - f)]) ++ pcons ((l.drop (k + 1)).take (k + 1 - (k + 1))) (pieces x (l.drop (k + 1)))) := by
            show _ = _
            rw [HP.out, hdrop, pieces_hit, pcons_hit]
            simp [pcons_nil (pieces_ne _ _)]
          generalize (l.drop f).take (k - f) = cur at *
          generalize x.toNat = xn at *
          clear hdrop hx heq
          go_wp2_with (at_builtin; refine wpList_app1b rfl _ _ 110 rfl w.heap.size 9 _ 16 Try.underlying110 info9 rfl _ out.length (rs out) rfl hown (.string ⟨cur.toArray⟩) rfl rfl (by omega) (by omega) hsb ?_)
          intro v' w' hown' hbel'
          have hown2 : w'.ownsRow w.heap.size 9 1 v' (out ++ [cur]).length (rs (out ++ [cur])) := by rw [rs_snoc, List.length_append]; exact hown'
          have hbel2 := hbel.trans hbel'
          clear hown hown' hbel hbel'
          go_wp2_with fail
          go_roundw
          case rel => exact ⟨k + 1, k + 1, out ++ [cur], by omega, by go_num, by go_num, by omega, by simp; omega, hown2, hbel2, fun _ => hE.out, fun h => by omega⟩
          case measure => simp [intOf]; omega
        · have hne : ¬ ((x.toNat : Int) = (c.toNat : Int)) := fun e => hc (UInt8.toNat_inj.1 (by omega))
          have hE : Hid (pieces c l = out ++ pcons ((l.drop f).take (k + 1 - f)) (pieces c (l.drop (k + 1)))) := by
            show _ = _
            rw [HP.out, hdrop, pieces_miss _ hc, pcons_pcons, take_grow l f k x hf hx]
          generalize x.toNat = xn at *
          generalize c.toNat = cn at *
          have hne1 : ((xn : Int) == (cn : Int)) = false := by simpa using hne
          have t2 : ((k : Int) == (l.length : Int)) = false := by simpa using t1
          clear hdrop hx heq
          go_wp2_with fail
          go_roundw
          case rel => exact ⟨k + 1, f, out, by omega, by go_num, rfl, by omega, by omega, hown, hbel, fun _ => hE.out, fun h => by omega⟩
          case measure => simp [intOf]; omega
    · obtain rfl : k = l.length + 1 := by omega
      have hp := hp2 rfl
      have t0 : decide ((l.length : Int) + 1 ≤ (l.length : Int)) = false := by simp; omega
      obtain ⟨va, vc, rfl, _, _⟩ := own_shape hown
      have HF : Hid (PcPost (pieces c l) w (.returned (.slice va out.length vc)) wr) := ⟨hbel, _, rfl, by rw [hp]; exact hown⟩
      clear hp hp1 hp2 hown hbel
      go_wp2_with fail
      go_ret
      exact HF.out
#print axioms rpieces_c
end Go.Proofs.Ytoifolmcdkfniaa

namespace Go.Proofs.Ytoifolmcdkfniaa
open Go.ChangeShapes Go.WideShapes Go.ChangeAt Go.RowKit
set_option linter.unusedVariables false
set_option maxHeartbeats 4000000
set_option maxRecDepth 100000

theorem pieces_len (c : UInt8) : ∀ (l : List UInt8), (pieces c l).length ≤ l.length + 1 ∧ ∀ p ∈ pieces c l, p.length ≤ l.length
  | [] => by simp [pieces]
  | x :: l => by
    obtain ⟨h1, h2⟩ := pieces_len c l
    have hne := pieces_ne c l
    by_cases h : x = c
    · subst h
      rw [pieces_hit]
      refine ⟨by simp; omega, fun p hp => ?_⟩
      rcases List.mem_cons.1 hp with rfl | hp
      · simp
      · have := h2 p hp; simp; omega
    · rw [pieces_miss _ h]
      cases hp : pieces c l with
      | nil => exact absurd hp hne
      | cons a r =>
        rw [hp] at h1 h2
        refine ⟨by simp [pcons] at h1 ⊢; omega, fun p hq => ?_⟩
        simp only [pcons, List.headD_cons, List.tail_cons, List.mem_cons] at hq
        rcases hq with rfl | hq
        · have := h2 a (by simp); simp; omega
        · have := h2 p (by simp [hq]); simp; omega
theorem info3 : (Try.prog.info? 3).map (fun i => (i.zero, i.size, i.bytes)) = some (some (.int .i64 0), 1, 8) := by kernel_rfl
def ints (gs : List Nat) : List Value := gs.map (fun g : Nat => Value.int .i64 (g : Int))
theorem ints_snoc (ts : List Nat) (t : Nat) : ints (ts ++ [t]) = ints ts ++ [.int .i64 (t : Int)] := by simp [ints]
/-- What groups tells. -/
def RgPost (r : Option (List Nat)) (w : World) (e : Ending) (w' : World) : Prop :=
  Below w.heap.size w w' ∧ ∃ v, e = .returned (.tuple #[v, .bool r.isSome]) ∧ (r = none → v = .slice none 0 0) ∧ ∀ gs, r = some gs → w'.ownsRow w.heap.size 3 1 v gs.length (ints gs)
theorem own_cell {w : World} {B e n : Nat} {a : Option Addr} {c : Nat} {xs : List Value} (h : w.ownsRow B e 1 (.slice a n c) n xs) {k : Nat} {u : Value} (hk : xs[k]? = some u) : ∃ g, a = some ⟨g, 0, none⟩ ∧ w.cell? ⟨g, k, none⟩ = some u := by
  have hlt : k < xs.length := (List.getElem?_eq_some_iff.1 hk).1
  have h0 := h
  rcases h.2 with ⟨e1, e2⟩ | ⟨g, cap, cur, e1, _⟩
  · have := h.1; rw [e2] at this; omega
  · simp only [Value.slice.injEq, true_and] at e1
    obtain ⟨rfl, rfl⟩ := e1
    refine ⟨g, rfl, ?_⟩
    rw [World.ownsRow.cellAt h0 k (by have := h.1; omega), hk]
theorem own_mono {w : World} {B C e n : Nat} {v : Value} {xs : List Value} (h : w.ownsRow B e 1 v n xs) (hc : C ≤ B) : w.ownsRow C e 1 v n xs := by
  refine ⟨h.1, ?_⟩
  rcases h.2 with h2 | ⟨g, cap, cur, rfl, hg, r⟩
  · exact .inl h2
  · exact .inr ⟨g, cap, cur, rfl, by omega, r⟩
theorem alls_drop {α β : Type} (f : α → Option β) {ps : List α} {k : Nat} {p : α} (hk : ps[k]? = some p) : alls f (ps.drop k) = (match f p, alls f (ps.drop (k + 1)) with | some y, some r => some (y :: r) | _, _ => none) := by
  have hlt : k < ps.length := (List.getElem?_eq_some_iff.1 hk).1
  rw [List.drop_eq_getElem_cons hlt, (List.getElem?_eq_some_iff.1 hk).2]
  rfl
theorem rgroups_c (l : List UInt8) (hl : l.length ≤ 1048576) (w : World) :
    Calls Try.prog 80 #[.string ⟨l.toArray⟩] w fun e w' => RgPost (grps l) w e w' := by
  obtain ⟨r, hr⟩ : ∃ r, r = grps l := ⟨_, rfl⟩
  rw [← hr]
  have HR : Hid (r = grps l) := hr
  clear hr
  by_cases h0 : l = []
  · subst h0
    obtain rfl : r = some [] := by rw [HR.out]; rfl
    have hnil : (ByteArray.toList ⟨([] : List UInt8).toArray⟩ == ([] : List UInt8)) = true := by rw [Lib.toList_data]; rfl
    go_enter Try.func80, Try.ntmps80
    go_wp2
    go_ret2
    exact ⟨Below.refl _ _, _, rfl, fun h => by simp at h, fun gs h => by simp at h; subst h; exact World.ownsRow_nil _ _ _ _⟩
  · have hnil : (ByteArray.toList ⟨l.toArray⟩ == ([] : List UInt8)) = false := by
      rw [Lib.toList_data]; cases l with
      | nil => exact absurd rfl h0
      | cons a t => rfl
    have hie : l.isEmpty = false := by cases l with
      | nil => exact absurd rfl h0
      | cons a t => rfl
    have HA : Hid (r = alls (numOf 16 4) (pieces 58 l)) := by show _ = _; rw [HR.out, grps, if_neg h0]
    obtain ⟨hpl, hpe⟩ := pieces_len 58 l
    have HPC : Hid (∀ wx, Calls Try.prog 82 #[.string ⟨l.toArray⟩, .int .u8 58] wx fun e w' => PcPost (pieces 58 l) wx e w') := fun wx => rpieces_c l 58 hl wx
    generalize pieces 58 l = ps at *
    have HPE : Hid (∀ p ∈ ps, p.length ≤ l.length) := hpe
    clear HR h0 hpe
    go_enter Try.func80, Try.ntmps80
    go_wp2_with fail
    refine (HPC.out _).mono ?_
    rintro E w1 ⟨hb1, v1, rfl, hown1⟩
    obtain ⟨pa, pc, rfl, _, _⟩ := own_shape hown1
    have hrl : (rs ps).length = ps.length := by simp [rs]
    have HOW : Hid (w1.ownsRow w.heap.size 9 1 (.slice pa ps.length pc) ps.length (rs ps)) := hown1
    have hs1 := hb1.size
    clear hown1
    go_wp2_with fail
    go_loopw [5, 6] (fun v iv wr => ∃ (k : Nat) (done : List Nat), k ≤ ps.length ∧ iv = .int .i64 (k : Int) ∧ done.length = k ∧ wr.ownsRow w1.heap.size 3 1 v done.length (ints done) ∧ Below w1.heap.size w1 wr ∧ alls (numOf 16 4) ps = (alls (numOf 16 4) (ps.drop k)).map (done ++ ·)) (fun _ iv _ => ps.length - (intOf iv).toNat)
    case atStart => exact ⟨0, [], by omega, rfl, rfl, World.ownsRow_nil _ _ _ _, Below.refl _ _, by simp⟩
    case round =>
      obtain ⟨k, done, hk, rfl, hdl, hown, hbel, hal⟩ := hrel
      have HAL : Hid (alls (numOf 16 4) ps = (alls (numOf 16 4) (ps.drop k)).map (done ++ ·)) := hal
      have hsb := hbel.size
      have hbw : Below w.heap.size w wr := hb1.trans (hbel.mono hs1)
      clear hal
      by_cases hlt : k < ps.length
      · obtain ⟨p, hp⟩ : ∃ p, ps[k]? = some p := ⟨ps[k], List.getElem?_eq_getElem hlt⟩
        have hpm := List.mem_of_getElem? hp
        have hdr := alls_drop (numOf 16 4) hp
        obtain ⟨g, rfl, c0⟩ := own_cell (own_below HOW.out hbel) (k := k) (u := .string ⟨p.toArray⟩) (by unfold rs; rw [List.getElem?_map, hp]; rfl)
        have HNM : Hid (∀ wx, Calls Try.prog 83 #[.string ⟨p.toArray⟩, .int .i64 16, .int .i64 4] wx fun e w' => e = .returned (.int .i64 (numI (numOf 16 4 p))) ∧ w' = wx) := fun wx => rnumber_c p 16 4 (by omega) (by omega) (by omega) (by have := HPE.out p hpm; omega) wx
        have t1 : decide ((k : Int) < (ps.length : Int)) = true := by simp; omega
        have t2 : 0 ≤ (k : Int) := by omega
        have t3 : (k : Int) < (ps.length : Int) := by omega
        clear hp hpm
        cases hnum : numOf 16 4 p with
        | none =>
          obtain rfl : r = none := by rw [HA.out, HAL.out, hdr, hnum]; rfl
          rw [hnum] at HNM
          clear hdr hnum
          go_wp2_with fail
          refine (HNM.out _).mono ?_
          rintro E w' ⟨rfl, rfl⟩
          rw [show numI none = -1 from rfl]
          go_wp2_with fail
          go_ret2
          exact ⟨hbw, _, rfl, fun _ => rfl, fun gs h => by simp at h⟩
        | some n =>
          rw [hnum] at HNM
          have HS : Hid (alls (numOf 16 4) ps = (alls (numOf 16 4) (ps.drop (k + 1))).map ((done ++ [n]) ++ ·)) := by
            show _ = _
            rw [HAL.out, hdr, hnum]
            cases alls (numOf 16 4) (ps.drop (k + 1)) <;> simp
          clear hdr hnum
          go_wp2_with fail
          refine (HNM.out _).mono ?_
          rintro E w' ⟨rfl, rfl⟩
          rw [show numI (some n) = (n : Int) from rfl]
          have hn0 : ¬ ((n : Int) < 0) := by omega
          go_wp2_with (at_builtin; refine wpList_app1b rfl _ _ 106 rfl w1.heap.size 3 _ 8 Try.underlying106 info3 rfl _ done.length (ints done) rfl hown (.int .i64 (n : Int)) rfl rfl (by omega) (by omega) hsb ?_)
          intro v' w2 hown' hbel'
          have hown2 : w2.ownsRow w1.heap.size 3 1 v' (done ++ [n]).length (ints (done ++ [n])) := by rw [ints_snoc, List.length_append, hdl]; exact hown'
          have hbel2 := hbel.trans hbel'
          clear hown hown' hbel hbel' hbw
          go_wp2_with fail
          go_roundw
          case rel => exact ⟨k + 1, done ++ [n], by omega, by go_num, by simp; omega, hown2, hbel2, HS.out⟩
          case measure => simp [intOf]; omega
      · have t1 : decide ((k : Int) < (ps.length : Int)) = false := by simp; omega
        obtain rfl : r = some done := by rw [HA.out, HAL.out, List.drop_eq_nil_of_le (by omega)]; simp [alls]
        obtain ⟨va, vc, rfl, _, _⟩ := own_shape hown
        have HF : Hid (RgPost (some done) w (.returned (.tuple #[.slice va done.length vc, .bool true])) wr) := ⟨hbw, _, rfl, fun h => by simp at h, fun gs h => by simp at h; subst h; exact own_mono hown hs1⟩
        clear hown hbel hbw
        go_wp2_with fail
        go_ret2
        exact HF.out
#print axioms rgroups_c
end Go.Proofs.Ytoifolmcdkfniaa

namespace Go.Proofs.Ytoifolmcdkfniaa
open Go.ChangeShapes Go.WideShapes Go.ChangeAt Go.RowKit
set_option linter.unusedVariables false
set_option maxHeartbeats 4000000
set_option maxRecDepth 100000

theorem rfrom_c (b : Nat) (gs : List Nat) (cap : Nat) (w : World) (hg : gs.length = 8) (hb : ∀ g ∈ gs, g < 65536) (hblk : b < w.heap.size) (hcell : ∀ (k g : Nat), gs[k]? = some g → w.cell? ⟨b, k, none⟩ = some (.int .i64 (g : Int))) :
    Calls Try.prog 81 #[.slice (some ⟨b, 0, none⟩) 8 cap] w fun e w' => e = .returned (.agg (csA 6 (unG gs))) ∧ Below w.heap.size w w' := by
  have HCELL := Lib.hid hcell; clear hcell
  obtain ⟨res, hres⟩ : ∃ r, r = csA 6 (unG gs) := ⟨_, rfl⟩
  rw [← hres]
  have HRES := Lib.hid hres; clear hres
  have r1 : rowAt ((w.alloc (.cells (csA 0 z16) 31)).alloc (.cells (csA 0 z16) 31)) (w.heap.size + 1) = some (csA 0 z16) := rowAt_of (heap_alloc2_new w _ _) rfl
  have r0 : rowAt ((w.alloc (.cells (csA 0 z16) 31)).alloc (.cells (csA 0 z16) 31)) w.heap.size = some (csA 0 z16) := rowAt_of (heap_alloc2_old w _ _) rfl
  have hB : Below w.heap.size w ((w.alloc (.cells (csA 0 z16) 31)).alloc (.cells (csA 0 z16) 31)) := ((Below.refl _ _).alloc (Nat.le_refl _) _).alloc (by simp) _
  have HW : Hid (∀ W, W = ((w.alloc (.cells (csA 0 z16) 31)).alloc (.cells (csA 0 z16) 31)).setRow (w.heap.size + 1) (csA 6 z16) → Below w.heap.size w W ∧ rowAt W (w.heap.size + 1) = some (csA 6 (jn gs 0)) ∧ rowAt W w.heap.size = some (csA 0 z16)) := Lib.hid (by
    rintro W rfl
    have h1 := below_setRow hB (show w.heap.size ≤ w.heap.size + 1 by omega) (csA 6 z16)
    refine ⟨h1, rowAt_setRow r1 _ rfl, ?_⟩
    obtain ⟨t, hh, hs⟩ := rowAt_some r0
    exact rowAt_of (t := t) (by simp only [World.setRow, Array.getElem?_modify]; rw [if_neg (by omega)]; exact hh) hs)
  have e6 : csA 6 z16 = #[.int .i64 6, .int .u8 0, .int .u8 0, .int .u8 0, .int .u8 0, .int .u8 0, .int .u8 0, .int .u8 0, .int .u8 0, .int .u8 0, .int .u8 0, .int .u8 0, .int .u8 0, .int .u8 0, .int .u8 0, .int .u8 0, .int .u8 0] := rfl
  have s6 : (csA 6 z16).size = 17 := rfl
  have o6 := csA_one 6 z16
  rw [csA_z] at r1
  rw [csA_z, e6] at HW
  rw [e6] at s6 o6
  clear r0 hB
  go_enter Try.func81, Try.ntmps81
  go_wp2_with (refine wpList_store24o rfl _ _ rfl _ rfl _ _ r1 rfl s6 o6 ?_; obtain ⟨k1, k2, k3⟩ := HW.out _ rfl; generalize World.setRow _ _ _ = W at *)
  rw [← csA_z] at k3
  have HX : Hid (Below w.heap.size w W ∧ rowAt W (w.heap.size + 1) = some (csA 6 (jn gs 0)) ∧ rowAt W w.heap.size = some (csA 0 z16)) := Lib.hid ⟨k1, k2, k3⟩
  clear k1 k2 k3 r1 HW e6 s6 o6
  go_loopw [4] (fun i wr => ∃ k : Nat, k ≤ 8 ∧ i = .int .i64 (k : Int) ∧ Below w.heap.size w wr ∧ rowAt wr (w.heap.size + 1) = some (csA 6 (jn gs k)) ∧ rowAt wr w.heap.size = some (csA 0 z16)) (fun i _ => 8 - (intOf i).toNat)
  case atStart => exact ⟨0, by omega, rfl, HX.out⟩
  case round =>
    obtain ⟨k, hk, rfl, hB, d1, d2⟩ := hrel
    by_cases hlt : k < 8
    · obtain ⟨g, hgk⟩ : ∃ g, gs[k]? = some g := ⟨_, List.getElem?_eq_getElem (by omega)⟩
      have hgb : g < 65536 := hb g (List.mem_of_getElem? hgk)
      have cx : wr.cell? ⟨b, k, none⟩ = some (.int .i64 (g : Int)) := (hB.cell hblk).trans (HCELL.out k g hgk)
      have cx2 : ∀ u, (wr.setCell ⟨w.heap.size + 1, 1 + 2 * k, none⟩ u).cell? ⟨b, k, none⟩ = some (.int .i64 (g : Int)) := fun u => by
        rw [World.cell?_of_block (w := wr) (a := ⟨b, k, none⟩) (Below.heap_setCell _ _ _ _ (by simp only; omega))]; exact cx
      have f1 := rowAt_free d1 (1 + 2 * k)
      have f2 : ∀ u, (wr.setCell ⟨w.heap.size + 1, 1 + 2 * k, none⟩ u).frozen? ⟨w.heap.size + 1, 1 + (2 * k + 1), none⟩ = false := fun u => by
        have := rowAt_free d1 (1 + (2 * k + 1))
        simpa using this
      obtain ⟨x, hx⟩ : ∃ x, (jn gs k)[2 * k]? = some x := ⟨_, List.getElem?_eq_getElem (by rw [jn_length gs hg k hk]; omega)⟩
      obtain ⟨y, hy⟩ : ∃ y, (jn gs k)[2 * k + 1]? = some y := ⟨_, List.getElem?_eq_getElem (by rw [jn_length gs hg k hk]; omega)⟩
      have c1 := rowAt_bytes d1 (2 * k) x hx
      have c2 := rowAt_bytes d1 (2 * k + 1) y hy
      have b1 : decide ((k : Int) < 8) = true := by simp; omega
      have b2 : 0 ≤ (k : Int) := by omega
      have b3 : (k : Int) < 8 := by omega
      have b4 : ((k : Int)).toNat = k := by omega
      have b5 : (2 * (k : Int)).toNat = 2 * k := by omega
      have b6 : (2 * (k : Int) + 1).toNat = 2 * k + 1 := by omega
      have hgi : (g : Int) < 65536 := by omega
      clear HX
      have eh : hi g = (g : Int) / 256 := by unfold hi; omega
      have el : lo g = (g : Int) % 256 := by unfold lo; omega
      have HS : Hid (((jn gs k).set (2 * k) ((g : Int) / 256)).set (2 * k + 1) ((g : Int) % 256) = jn gs (k + 1)) := Lib.hid (by rw [← eh, ← el]; exact jn_succ gs hg k hlt g hgk)
      have D := Lib.hid d1; have D2 := Lib.hid d2; have HBB := Lib.hid hB
      clear eh el hx hy hgk d1 d2 hB
      go_wp2_with fail
      go_roundw
      case rel =>
        refine ⟨k + 1, by omega, by go_num, (HBB.out.setCell (by simp) _).setCell (by simp) _, ?_, ?_⟩
        · rw [← HS.out]
          exact rowAt_set (rowAt_set D.out (2 * k) _) (2 * k + 1) _
        · rw [rowAt_set_other (by omega), rowAt_set_other (by omega)]
          exact D2.out
      case measure => simp [intOf]; omega
    · obtain rfl : k = 8 := by omega
      rw [jn_last gs hg] at d1
      have hsz : (csA 6 (unG gs)).size = 17 := csA_size (by rw [unG_length, hg])
      have hon := csA_one 6 (unG gs)
      rw [← HRES.out] at d1 hsz hon
      have HF : Hid (Below w.heap.size w (wr.setRow w.heap.size res) ∧ rowAt (wr.setRow w.heap.size res) w.heap.size = some res) := Lib.hid ⟨below_setRow hB (by omega) _, rowAt_setRow d2 _ hsz⟩
      clear HX hB
      go_wp2_with (first
        | (refine wpList_load24 rfl _ rfl _ rfl _ d1 ?_)
        | (refine wpList_store24o rfl _ _ rfl _ rfl _ _ d2 rfl hsz hon ?_))
      refine bodyPost_ret (v := .agg res) ?_ rfl ⟨rfl, HF.out.1⟩
      exact result24 rfl _ _ _ _ rfl HF.out.2
#print axioms rfrom_c
end Go.Proofs.Ytoifolmcdkfniaa

namespace Go.Proofs.Ytoifolmcdkfniaa
open Go.ChangeShapes Go.WideShapes Go.ChangeAt Go.RowKit
set_option linter.unusedVariables false
set_option maxHeartbeats 4000000
set_option maxRecDepth 100000

def errOf (b : Bool) : Int := if b = true then 0 else 30
def R4Post (r : Option (List Nat)) (w : World) (e : Ending) (w' : World) : Prop := e = .returned (.tuple #[.agg (four4 r), .int .i64 (errOf r.isSome)]) ∧ Below w.heap.size w w'
theorem dec_none_of {p : List UInt8} (h : numOf 10 3 p = none) : dec p = none := by unfold dec; rw [h]
theorem dec_bad {p : List UInt8} {n : Nat} (h : numOf 10 3 p = some n) (hb : ¬ (n ≤ 255 ∧ ¬ (1 < p.length ∧ p.head? = some 48))) : dec p = none := by unfold dec; rw [h]; simp only; rw [if_neg hb]
theorem dec_good {p : List UInt8} {n : Nat} (h : numOf 10 3 p = some n) (hb : n ≤ 255 ∧ ¬ (1 < p.length ∧ p.head? = some 48)) : dec p = some n := by unfold dec; rw [h]; simp only; rw [if_pos hb]
theorem p4_len {l : List UInt8} (h : (pieces 46 l).length ≠ 4) : parse4P l = none := by
  unfold parse4P
  cases hr : alls dec (pieces 46 l) with
  | none => rfl
  | some r =>
    have := alls_length _ _ _ hr
    simp only
    rw [if_neg (by omega)]
theorem p4_none {l : List UInt8} (h : alls dec (pieces 46 l) = none) : parse4P l = none := by unfold parse4P; rw [h]
theorem p4_some {l : List UInt8} {r : List Nat} (h : alls dec (pieces 46 l) = some r) (h4 : r.length = 4) : parse4P l = some r := by unfold parse4P; rw [h]; simp only; rw [if_pos h4]
theorem rparse4_c (l : List UInt8) (hl : l.length ≤ 1048576) (w : World) :
    Calls Try.prog 60 #[.string ⟨l.toArray⟩] w fun e w' => R4Post (parse4P l) w e w' := by
  obtain ⟨res, hres⟩ : ∃ r, r = parse4P l := ⟨_, rfl⟩
  rw [← hres]
  have HR : Hid (res = parse4P l) := hres
  obtain ⟨hpl, hpe⟩ := pieces_len 46 l
  have HPC : Hid (∀ wx, Calls Try.prog 82 #[.string ⟨l.toArray⟩, .int .u8 46] wx fun e w' => PcPost (pieces 46 l) wx e w') := fun wx => rpieces_c l 46 hl wx
  have HLEN : Hid ((pieces 46 l).length ≠ 4 → res = none) := fun h => by rw [HR.out]; exact p4_len h
  have HNON : Hid (alls dec (pieces 46 l) = none → res = none) := fun h => by rw [HR.out]; exact p4_none h
  have HSOM : Hid (∀ r, alls dec (pieces 46 l) = some r → r.length = 4 → res = some r) := fun r h h4 => by rw [HR.out]; exact p4_some h h4
  generalize pieces 46 l = ps at *
  have HPE : Hid (∀ p ∈ ps, p.length ≤ l.length) := hpe
  have hz3 := csA_one 0 z16
  have hz1 : (csA 0 z16).size = 17 := rfl
  have e4 : csA 4 z16 = #[.int .i64 4, .int .u8 0, .int .u8 0, .int .u8 0, .int .u8 0, .int .u8 0, .int .u8 0, .int .u8 0, .int .u8 0, .int .u8 0, .int .u8 0, .int .u8 0, .int .u8 0, .int .u8 0, .int .u8 0, .int .u8 0, .int .u8 0] := rfl
  have s4 : (csA 4 z16).size = 17 := rfl
  have o4 := csA_one 4 z16
  have HA : Hid (∀ w1, Below (w.alloc (.cells (csA 0 z16) 31)).heap.size (w.alloc (.cells (csA 0 z16) 31)) w1 → Below w.heap.size w w1 ∧ rowAt w1 w.heap.size = some (csA 0 z16)) := Lib.hid (fun w1 h =>
    ⟨((Below.refl _ _).alloc (Nat.le_refl _) _).trans (h.mono (by simp)), rowAt_below (rowAt_new w _ 31 rfl) h (by simp)⟩)
  have HB : Hid (∀ w1 : World, ∀ g, g < w1.heap.size → rowAt w1 g = some (csA 0 z16) → rowAt (w1.alloc (.cells (csA 4 z16) 31)) w1.heap.size = some (csA 4 (fourB [])) ∧ rowAt (w1.alloc (.cells (csA 4 z16) 31)) g = some (csA 0 z16)) := Lib.hid (fun w1 g hg h => ⟨rowAt_new w1 _ 31 rfl, rowAt_old h _⟩)
  rw [csA_z] at hz3 hz1 HA
  rw [csA_z, e4] at HB
  rw [e4] at s4 o4
  have HZ : Hid (csA 0 z16 = #[.int .i64 0, .int .u8 0, .int .u8 0, .int .u8 0, .int .u8 0, .int .u8 0, .int .u8 0, .int .u8 0, .int .u8 0, .int .u8 0, .int .u8 0, .int .u8 0, .int .u8 0, .int .u8 0, .int .u8 0, .int .u8 0, .int .u8 0]) := csA_z
  clear hres hpe HR e4
  go_enter Try.func60, Try.ntmps60
  go_wp2_with fail
  refine (HPC.out _).mono ?_
  rintro E w1 ⟨hb1, v1, rfl, hown1⟩
  obtain ⟨hbw1, d0⟩ := HA.out w1 hb1
  have hs1 := hb1.size
  have hw1 : w.heap.size < w1.heap.size := rowAt_lt d0
  obtain ⟨k1, k2⟩ := HB.out w1 _ hw1 d0
  obtain ⟨pa, pc, rfl, _, _⟩ := own_shape hown1
  have hbw2 := hbw1.alloc (Nat.le_of_lt hw1) (.cells #[.int .i64 4, .int .u8 0, .int .u8 0, .int .u8 0, .int .u8 0, .int .u8 0, .int .u8 0, .int .u8 0, .int .u8 0, .int .u8 0, .int .u8 0, .int .u8 0, .int .u8 0, .int .u8 0, .int .u8 0, .int .u8 0, .int .u8 0] 31)
  have HOW : Hid (w1.ownsRow (w.alloc (.cells #[.int .i64 0, .int .u8 0, .int .u8 0, .int .u8 0, .int .u8 0, .int .u8 0, .int .u8 0, .int .u8 0, .int .u8 0, .int .u8 0, .int .u8 0, .int .u8 0, .int .u8 0, .int .u8 0, .int .u8 0, .int .u8 0, .int .u8 0] 31)).heap.size 9 1 (.slice pa ps.length pc) ps.length (rs ps)) := hown1
  have HFAIL : Hid (∀ W, Below w.heap.size w W → rowAt W w.heap.size = some #[.int .i64 0, .int .u8 0, .int .u8 0, .int .u8 0, .int .u8 0, .int .u8 0, .int .u8 0, .int .u8 0, .int .u8 0, .int .u8 0, .int .u8 0, .int .u8 0, .int .u8 0, .int .u8 0, .int .u8 0, .int .u8 0, .int .u8 0] → Below w.heap.size w (W.setRow w.heap.size #[.int .i64 0, .int .u8 0, .int .u8 0, .int .u8 0, .int .u8 0, .int .u8 0, .int .u8 0, .int .u8 0, .int .u8 0, .int .u8 0, .int .u8 0, .int .u8 0, .int .u8 0, .int .u8 0, .int .u8 0, .int .u8 0, .int .u8 0]) ∧ rowAt (W.setRow w.heap.size #[.int .i64 0, .int .u8 0, .int .u8 0, .int .u8 0, .int .u8 0, .int .u8 0, .int .u8 0, .int .u8 0, .int .u8 0, .int .u8 0, .int .u8 0, .int .u8 0, .int .u8 0, .int .u8 0, .int .u8 0, .int .u8 0, .int .u8 0]) w.heap.size = some #[.int .i64 0, .int .u8 0, .int .u8 0, .int .u8 0, .int .u8 0, .int .u8 0, .int .u8 0, .int .u8 0, .int .u8 0, .int .u8 0, .int .u8 0, .int .u8 0, .int .u8 0, .int .u8 0, .int .u8 0, .int .u8 0, .int .u8 0]) := Lib.hid (fun W hb hr => ⟨below_setRow hb (Nat.le_refl _) _, rowAt_setRow hr _ hz1⟩)
  clear hown1 hb1 HA HB
  by_cases h4 : ps.length = 4
  · have HB1 : Hid (Below w1.heap.size w1 (w1.alloc (.cells #[.int .i64 4, .int .u8 0, .int .u8 0, .int .u8 0, .int .u8 0, .int .u8 0, .int .u8 0, .int .u8 0, .int .u8 0, .int .u8 0, .int .u8 0, .int .u8 0, .int .u8 0, .int .u8 0, .int .u8 0, .int .u8 0, .int .u8 0] 31))) := Lib.hid ((Below.refl _ _).alloc (Nat.le_refl _) _)
    rw [h4]
    have H4 : Hid (ps.length = 4) := h4
    go_wp2_with (refine wpList_store24 rfl _ _ rfl rfl _ rfl s4 hz1 o4 ?_)
    have HST : Hid (rowAt (w1.alloc (.cells #[.int .i64 4, .int .u8 0, .int .u8 0, .int .u8 0, .int .u8 0, .int .u8 0, .int .u8 0, .int .u8 0, .int .u8 0, .int .u8 0, .int .u8 0, .int .u8 0, .int .u8 0, .int .u8 0, .int .u8 0, .int .u8 0, .int .u8 0] 31)) w1.heap.size = some (csA 4 (fourB [])) ∧ rowAt (w1.alloc (.cells #[.int .i64 4, .int .u8 0, .int .u8 0, .int .u8 0, .int .u8 0, .int .u8 0, .int .u8 0, .int .u8 0, .int .u8 0, .int .u8 0, .int .u8 0, .int .u8 0, .int .u8 0, .int .u8 0, .int .u8 0, .int .u8 0, .int .u8 0] 31)) w.heap.size = some #[.int .i64 0, .int .u8 0, .int .u8 0, .int .u8 0, .int .u8 0, .int .u8 0, .int .u8 0, .int .u8 0, .int .u8 0, .int .u8 0, .int .u8 0, .int .u8 0, .int .u8 0, .int .u8 0, .int .u8 0, .int .u8 0, .int .u8 0]) := Lib.hid ⟨k1, k2⟩
    generalize w1.alloc (.cells #[.int .i64 4, .int .u8 0, .int .u8 0, .int .u8 0, .int .u8 0, .int .u8 0, .int .u8 0, .int .u8 0, .int .u8 0, .int .u8 0, .int .u8 0, .int .u8 0, .int .u8 0, .int .u8 0, .int .u8 0, .int .u8 0, .int .u8 0] 31) = W2 at *
    clear h4 k1 k2 s4 o4
    go_loopw [6] (fun iv wr => ∃ (k : Nat) (done : List Nat), k ≤ 4 ∧ iv = .int .i64 (k : Int) ∧ done.length = k ∧ rowAt wr w1.heap.size = some (csA 4 (fourB done)) ∧ rowAt wr w.heap.size = some #[.int .i64 0, .int .u8 0, .int .u8 0, .int .u8 0, .int .u8 0, .int .u8 0, .int .u8 0, .int .u8 0, .int .u8 0, .int .u8 0, .int .u8 0, .int .u8 0, .int .u8 0, .int .u8 0, .int .u8 0, .int .u8 0, .int .u8 0] ∧ Below w1.heap.size w1 wr ∧ alls dec ps = (alls dec (ps.drop k)).map (done ++ ·)) (fun iv _ => 4 - (intOf iv).toNat)
    case atStart => exact ⟨0, [], by omega, rfl, rfl, HST.out.1, HST.out.2, HB1.out, by simp⟩
    case round =>
      obtain ⟨k, done, hk, rfl, hdl, d1, d2, hbel, hal⟩ := hrel
      have HAL : Hid (alls dec ps = (alls dec (ps.drop k)).map (done ++ ·)) := hal
      have hbw : Below w.heap.size w wr := hbw1.trans (hbel.mono (Nat.le_of_lt hw1))
      clear hal
      by_cases hlt : k < 4
      · obtain ⟨p, hp⟩ : ∃ p, ps[k]? = some p := ⟨_, List.getElem?_eq_getElem (by rw [H4.out]; exact hlt)⟩
        have hpm := List.mem_of_getElem? hp
        have hdr := alls_drop dec hp
        have hplen := HPE.out p hpm
        obtain ⟨g, rfl, c0⟩ := own_cell (own_below HOW.out hbel) (k := k) (u := .string ⟨p.toArray⟩) (by unfold rs; rw [List.getElem?_map, hp]; rfl)
        have HNM : Hid (∀ wx, Calls Try.prog 83 #[.string ⟨p.toArray⟩, .int .i64 10, .int .i64 3] wx fun e w' => e = .returned (.int .i64 (numI (numOf 10 3 p))) ∧ w' = wx) := fun wx => rnumber_c p 10 3 (by omega) (by omega) (by omega) (by omega) wx
        have HBAD : Hid (dec p = none → res = none) := fun h => HNON.out (by rw [HAL.out, hdr, h]; rfl)
        have HGOOD : Hid (∀ n, dec p = some n → alls dec ps = (alls dec (ps.drop (k + 1))).map ((done ++ [n]) ++ ·)) := fun n h => by
          rw [HAL.out, hdr, h]
          cases alls dec (ps.drop (k + 1)) <;> simp
        have hszp := bsize p
        have t1 : decide ((k : Int) < 4) = true := by simp; omega
        have t2 : 0 ≤ (k : Int) := by omega
        have t3 : (k : Int) < 4 := by omega
        have t4 : ((k : Int)).toNat = k := by omega
        have HD : Hid (rowAt wr w1.heap.size = some (csA 4 (fourB done)) ∧ Below w1.heap.size w1 wr) := Lib.hid ⟨d1, hbel⟩
        clear hp hpm hdr d1 hbel HST HB1
        cases hnum : numOf 10 3 p with
        | none =>
          rw [hnum] at HNM
          obtain rfl : res = none := HBAD.out (dec_none_of hnum)
          clear hnum
          go_wp2_with fail
          refine (HNM.out _).mono ?_
          rintro E w' ⟨rfl, rfl⟩
          rw [show numI none = -1 from rfl]
          go_wp2_with (first
            | (refine wpList_store24o rfl _ _ rfl _ rfl _ _ d2 rfl hz1 hz3 ?_))
          refine bodyPost_ret (v := .tuple #[.agg (csA 0 z16), .int .i64 30]) ?_ rfl ⟨rfl, (HFAIL.out _ hbw d2).1⟩
          rw [HZ.out]
          exact result24t rfl _ _ _ _ _ rfl rfl (HFAIL.out _ hbw d2).2
        | some n =>
          rw [hnum] at HNM
          have hn0 : ¬ ((n : Int) < 0) := by omega
          by_cases h255 : 255 < n
          · obtain rfl : res = none := HBAD.out (dec_bad hnum (by omega))
            have h255' : (255 : Int) < (n : Int) := by omega
            clear hnum
            go_wp2_with fail
            refine (HNM.out _).mono ?_
            rintro E w' ⟨rfl, rfl⟩
            rw [show numI (some n) = (n : Int) from rfl]
            go_wp2_with (refine wpList_store24o rfl _ _ rfl _ rfl _ _ d2 rfl hz1 hz3 ?_)
            refine bodyPost_ret (v := .tuple #[.agg (csA 0 z16), .int .i64 30]) ?_ rfl ⟨rfl, (HFAIL.out _ hbw d2).1⟩
            rw [HZ.out]
            exact result24t rfl _ _ _ _ _ rfl rfl (HFAIL.out _ hbw d2).2
          · have h255' : ¬ ((255 : Int) < (n : Int)) := by omega
            by_cases h1 : 1 < p.length
            · have h1' : (1 : Int) < (p.length : Int) := by omega
              obtain ⟨x, hx⟩ : ∃ x, p[0]? = some x := ⟨_, List.getElem?_eq_getElem (by omega)⟩
              have hix := idx_eq p 0 x 0 rfl hx
              have hhd : p.head? = some x := by rw [List.head?_eq_getElem?]; exact hx
              by_cases hx48 : x = 48
              · subst hx48
                obtain rfl : res = none := HBAD.out (dec_bad hnum (fun h => h.2 ⟨h1, hhd⟩))
                clear hnum hx hhd
                go_wp2_with fail
                refine (HNM.out _).mono ?_
                rintro E w' ⟨rfl, rfl⟩
                rw [show numI (some n) = (n : Int) from rfl]
                go_wp2_with (refine wpList_store24o rfl _ _ rfl _ rfl _ _ d2 rfl hz1 hz3 ?_)
                refine bodyPost_ret (v := .tuple #[.agg (csA 0 z16), .int .i64 30]) ?_ rfl ⟨rfl, (HFAIL.out _ hbw d2).1⟩
                rw [HZ.out]
                exact result24t rfl _ _ _ _ _ rfl rfl (HFAIL.out _ hbw d2).2
              · have hdec : dec p = some n := dec_good hnum ⟨by omega, fun h => hx48 (by have := h.2; rw [hhd] at this; exact Option.some.inj this)⟩
                have hne : ((x.toNat : Int) == 48) = false := by
                  have : x.toNat ≠ 48 := fun e => hx48 (UInt8.toNat_inj.1 (by rw [e]; rfl))
                  simp; omega
                generalize x.toNat = xn at *
                clear hnum hx hhd
                have HS : Hid (alls dec ps = (alls dec (ps.drop (k + 1))).map ((done ++ [n]) ++ ·)) := HGOOD.out n hdec
                have hd1 := HD.out.1
                have f1 := rowAt_free hd1 (1 + k)
                obtain ⟨y, hy⟩ : ∃ y, (fourB done)[k]? = some y := ⟨_, List.getElem?_eq_getElem (by rw [fourB_length done (by omega)]; omega)⟩
                have c1 := rowAt_bytes hd1 k y hy
                have hwr : IntKind.u8.wrap (n : Int) = (n : Int) := by simp [IntKind.wrap, IntKind.bits, IntKind.signed]; omega
                clear hd1 hy hdec HGOOD HBAD
                go_wp2_with fail
                refine (HNM.out _).mono ?_
                rintro E w' ⟨rfl, rfl⟩
                rw [show numI (some n) = (n : Int) from rfl]
                go_wp2_with fail
                go_roundw
                case rel =>
                  refine ⟨k + 1, done ++ [n], by omega, by go_num, by simp; omega, ?_, ?_, HD.out.2.setCell (by simp) _, HS.out⟩
                  · rw [← fourB_set done n (by omega), hdl]
                    exact rowAt_set HD.out.1 k _
                  · rw [rowAt_set_other (by omega)]; exact d2
                case measure => simp [intOf]; omega
            · have h1' : ¬ ((1 : Int) < (p.length : Int)) := by omega
              have hdec : dec p = some n := dec_good hnum ⟨by omega, fun h => h1 h.1⟩
              clear hnum
              have HS : Hid (alls dec ps = (alls dec (ps.drop (k + 1))).map ((done ++ [n]) ++ ·)) := HGOOD.out n hdec
              have hd1 := HD.out.1
              have f1 := rowAt_free hd1 (1 + k)
              obtain ⟨y, hy⟩ : ∃ y, (fourB done)[k]? = some y := ⟨_, List.getElem?_eq_getElem (by rw [fourB_length done (by omega)]; omega)⟩
              have c1 := rowAt_bytes hd1 k y hy
              have hwr : IntKind.u8.wrap (n : Int) = (n : Int) := by simp [IntKind.wrap, IntKind.bits, IntKind.signed]; omega
              clear hd1 hy hdec HGOOD HBAD
              go_wp2_with fail
              refine (HNM.out _).mono ?_
              rintro E w' ⟨rfl, rfl⟩
              rw [show numI (some n) = (n : Int) from rfl]
              go_wp2_with fail
              go_roundw
              case rel =>
                refine ⟨k + 1, done ++ [n], by omega, by go_num, by simp; omega, ?_, ?_, HD.out.2.setCell (by simp) _, HS.out⟩
                · rw [← fourB_set done n (by omega), hdl]
                  exact rowAt_set HD.out.1 k _
                · rw [rowAt_set_other (by omega)]; exact d2
              case measure => simp [intOf]; omega
      · obtain rfl : k = 4 := by omega
        have t1 : decide ((4 : Int) < 4) = false := by simp
        obtain rfl : res = some done := HSOM.out done (by rw [HAL.out, List.drop_eq_nil_of_le (by rw [H4.out]; omega)]; simp [alls]) hdl
        have hsz : (csA 4 (fourB done)).size = 17 := csA_size (fourB_length done (by omega))
        have hon := csA_one 4 (fourB done)
        have HF : Hid (Below w.heap.size w (wr.setRow w.heap.size (csA 4 (fourB done))) ∧ rowAt (wr.setRow w.heap.size (csA 4 (fourB done))) w.heap.size = some (csA 4 (fourB done))) := Lib.hid ⟨below_setRow hbw (Nat.le_refl _) _, rowAt_setRow d2 _ hsz⟩
        generalize hcs : csA 4 (fourB done) = cs at *
        have HCS : Hid (csA 4 (fourB done) = cs) := hcs
        clear hcs hbel hbw HST
        go_wp2_with (first
          | (refine wpList_load24 rfl _ rfl _ rfl _ d1 ?_)
          | (refine wpList_store24o rfl _ _ rfl _ rfl _ _ d2 rfl hsz hon ?_))
        refine bodyPost_ret (v := .tuple #[.agg cs, .int .i64 0]) ?_ rfl ⟨by show _ = Ending.returned (.tuple #[.agg (csA 4 (fourB done)), .int .i64 (errOf true)]); rw [HCS.out]; rfl, HF.out.1⟩
        exact result24t rfl _ _ _ _ _ rfl rfl HF.out.2
  · obtain rfl : res = none := HLEN.out h4
    have h4' : ¬ ((ps.length : Int) = 4) := by omega
    go_wp2_with (first
      | (refine wpList_store24 rfl _ _ rfl rfl _ rfl s4 hz1 o4 ?_)
      | (refine wpList_store24o rfl _ _ rfl _ rfl _ _ k2 rfl hz1 hz3 ?_))
    refine bodyPost_ret (v := .tuple #[.agg (csA 0 z16), .int .i64 30]) ?_ rfl ⟨rfl, (HFAIL.out _ hbw2 k2).1⟩
    rw [HZ.out]
    exact result24t rfl _ _ _ _ _ rfl rfl (HFAIL.out _ hbw2 k2).2
#print axioms rparse4_c
end Go.Proofs.Ytoifolmcdkfniaa

namespace Go.Proofs.Ytoifolmcdkfniaa
open Go.ChangeShapes Go.WideShapes Go.ChangeAt Go.RowKit
set_option linter.unusedVariables false
set_option maxHeartbeats 4000000
set_option maxRecDepth 100000

/-- An append of numbers: where the new slice lies. -/
theorem run_appM (B : Nat) (ty : TypeId) (w : World) (v : Value) (n : Nat) (xs : List Value) (hown : w.ownsRow B 3 1 v n xs) (hB : B ≤ w.heap.size) (ad : Addr) (m c : Nat) (news : List Value) (hn : news.length = m) (hm : ∀ j u, news[j]? = some u → w.cell? (ad.add j) = some u) (h1 : ∀ u ∈ news, u.oneCell' = true) (hlen : n + m ≤ 4000000) :
    ∃ v' w', (Builtin.append_ #[106, 106] ty #[v, .slice (some ad) m c]).run Try.prog w = .ok v' w' ∧ w'.ownsRow B 3 1 v' (n + m) (xs ++ news) ∧ w.grownBy w' v.ownBlock ∧ ∀ k, v'.ownBlock = some k → v.ownBlock = some k ∨ w.heap.size ≤ k := by
  obtain ⟨i0, hi, hz0, hz1, hz2⟩ := info_parts info3
  rcases hown.2 with ⟨rfl, rfl⟩ | ⟨g, cap, cur, rfl, hg, hh, hnc, hcm, hcs, htake⟩
  · have hx : xs = [] := List.eq_nil_of_length_eq_zero (by simpa using hown.1)
    subst hx
    obtain ⟨v', w', hrun, r1, r2, _⟩ := run_append_own (P := Try.prog) w w.heap.size 106 ty 3 i0 _ 1 8 Try.underlying106 hi hz0 hz1 hz2 rfl (by decide) (.slice none 0 0) 0 [] (World.ownsRow_nil _ _ _ _) ad m c news (by omega) hm h1 (by unfold maxLen; omega) (by omega) (Nat.le_refl _)
    exact ⟨v', w', hrun, own_mono r1 hB, r2, fun k hk => .inr (World.ownsRow.lt r1 k hk).1⟩
  · by_cases hroom : n + m ≤ cap
    · obtain ⟨w', hrun, r1, r2⟩ := run_append_fits (P := Try.prog) w B 106 ty 3 i0 1 Try.underlying106 hi hz1 g n cap xs hown ad m c news (by omega) hm h1 hroom
      exact ⟨_, w', hrun, r1, r2, fun k hk => .inl hk⟩
    · obtain ⟨v', w', hrun, r1, r2⟩ := run_append_arg_grows (P := Try.prog) w 106 ty 3 i0 _ 1 8 Try.underlying106 hi hz0 hz1 hz2 rfl (by decide) ⟨g, 0, none⟩ n cap xs hown.1 (fun j u hu => by
          have hj : j < xs.length := (List.getElem?_eq_some_iff.1 hu).1
          rw [add_plain, Nat.zero_add, World.ownsRow.cellAt hown j (by rw [← hown.1]; exact hj)]; exact hu) ad m c news (by omega) hm (by omega) (by unfold maxLen; omega) (by omega)
      exact ⟨v', w', hrun, own_mono r1 hB, ⟨r2.os, r2.tape, r2.output, r2.size, fun k hk _ => r2.block k hk (by simp)⟩, fun k hk => .inr (World.ownsRow.lt r1 k hk).1⟩
theorem wpList_appM {w : World} {ops : Array Oper} {rest : List Oper} {o : Oper} {a : Act} {Q : Exit → Act → World → Prop} (hgd : o.guard = none) (s x : Operand)
    (ho : o.op = .call { callee := .builtin .append, args := #[s, x], argTypes := #[106, 106] }) (B : Nat) (v : Value) (n : Nat) (xs : List Value) (hs : a.eval s = v) (hown : w.ownsRow B 3 1 v n xs) (hB : B ≤ w.heap.size)
    (ad : Addr) (m c : Nat) (news : List Value) (hx : a.eval x = .slice (some ad) m c) (hn : news.length = m) (hm : ∀ j u, news[j]? = some u → w.cell? (ad.add j) = some u) (h1 : ∀ u ∈ news, u.oneCell' = true) (hlen : n + m ≤ 4000000)
    (h : ∀ v' w', w'.ownsRow B 3 1 v' (n + m) (xs ++ news) → w.grownBy w' v.ownBlock → (∀ k, v'.ownBlock = some k → v.ownBlock = some k ∨ w.heap.size ≤ k) → wpList Try.prog ops Q rest (a.put o.dst v') w') : wpList Try.prog ops Q (o :: rest) a w := by
  obtain ⟨v', w', hrun, r1, r2, r3⟩ := run_appM B o.type w v n xs hown hB ad m c news hn hm h1 hlen
  refine wpList_plain hgd fun _ hK => ?_
  unfold Oper.wp
  simp [execOp, ho, resolve, invoke, builtin, hs, hx, hrun, Result.andThen]
  exact hK _ _ (h v' w' r1 r2 r3)
theorem own_grown {w w' : World} {B n : Nat} {v : Value} {xs : List Value} {row : Option Nat} (h : w.ownsRow B 3 1 v n xs) (hg : w.grownBy w' row) (hsep : ∀ k, v.ownBlock = some k → row ≠ some k) : w'.ownsRow B 3 1 v n xs := by
  refine ⟨h.1, ?_⟩
  rcases h.2 with h2 | ⟨g, cap, cur, rfl, hb, hh, r⟩
  · exact .inl h2
  · refine .inr ⟨g, cap, cur, rfl, hb, ?_, r⟩
    have hlt : g < w.heap.size := by
      rcases Nat.lt_or_ge g w.heap.size with h' | h'
      · exact h'
      · rw [Array.getElem?_eq_none h'] at hh; simp at hh
    rw [hg.block g hlt (fun e => hsep g rfl e.symm)]
    exact hh
def lenOfV : Value → Nat
  | .slice _ n _ => n
  | _ => 0
theorem one_lit (w : World) : ∀ j u, ([.int .i64 0] : List Value)[j]? = some u → (w.alloc (.cells #[.int .i64 0] 3)).cell? ((⟨w.heap.size, 0, none⟩ : Addr).add j) = some u := by
  intro j u hj
  rcases j with _ | j
  · simp at hj
    subst hj
    rw [add_plain, Nat.zero_add, World.cell?_alloc_at (hn := rfl)]
    rfl
  · simp at hj
theorem own_src3 {w : World} {B b n c : Nat} {xs : List Value} (h : w.ownsRow B 3 1 (.slice (some ⟨b, 0, none⟩) n c) n xs) : ∀ j u, xs[j]? = some u → w.cell? ((⟨b, 0, none⟩ : Addr).add j) = some u := by
  intro j u hj
  obtain ⟨g, hg, hc⟩ := own_cell h hj
  simp only [Option.some.injEq, Addr.mk.injEq, and_true] at hg
  subst hg
  rw [add_plain, Nat.zero_add]; exact hc
theorem ints_one (gs : List Nat) : ∀ u ∈ ints gs, u.oneCell' = true := by
  intro u hu
  obtain ⟨g, _, rfl⟩ := List.mem_map.1 hu
  rfl
theorem alls_lt : ∀ (ps : List (List UInt8)) (gs : List Nat), alls (numOf 16 4) ps = some gs → ∀ g ∈ gs, g < 65536
  | [], gs, h, g, hg => by simp [alls] at h; subst h; simp at hg
  | p :: r, gs, h, g, hg => by
    simp only [alls] at h
    split at h
    · rename_i y s h1 h2
      simp only [Option.some.injEq] at h
      subst h
      rcases List.mem_cons.1 hg with rfl | hg
      · exact numOf_lt h1
      · exact alls_lt r s h2 g hg
    · simp at h
theorem grps_lt {l : List UInt8} {gs : List Nat} (h : grps l = some gs) : ∀ g ∈ gs, g < 65536 := by
  unfold grps at h
  split at h
  · simp only [Option.some.injEq] at h; subst h; simp
  · exact alls_lt _ _ h
def R6Post (r : Option (List Nat)) (w : World) (e : Ending) (w' : World) : Prop := e = .returned (.tuple #[.agg (six r), .int .i64 (errOf r.isSome)]) ∧ Below w.heap.size w w'
theorem hit_two {l : List UInt8} {k : Nat} {x y : List Nat} (h : Hit l k x y) (hk : k + 2 ≤ l.length) : (l.drop k).take 2 = [58, 58] := by
  obtain ⟨⟨t, e, _⟩, _⟩ := h
  have hl : (l.take k).length = k := by simp; omega
  have : l.drop k = 58 :: 58 :: t := by
    conv => lhs; rw [e]
    have := List.drop_left (l₁ := l.take k) (l₂ := 58 :: 58 :: t)
    rwa [hl] at this
  rw [this]; rfl
theorem two_hit {l : List UInt8} {k : Nat} (h : (l.drop k).take 2 = [58, 58]) (hk : k + 2 ≤ l.length) : ∃ t, l = l.take k ++ 58 :: 58 :: t ∧ l.drop (k + 2) = t := by
  refine ⟨l.drop (k + 2), ?_, rfl⟩
  have e1 : l.drop k = (l.drop k).take 2 ++ (l.drop k).drop 2 := (List.take_append_drop _ _).symm
  rw [h, List.drop_drop] at e1
  conv => lhs; rw [← List.take_append_drop k l, e1]
  rfl
theorem rparse6_c (l : List UInt8) (hl : l.length ≤ 1048576) (w : World) :
    Calls Try.prog 59 #[.string ⟨l.toArray⟩] w fun e w' => R6Post (parse6P l) w e w' := by
  obtain ⟨res, hres⟩ : ∃ r, r = parse6P l := ⟨_, rfl⟩
  rw [← hres]
  have HR : Hid (res = parse6P l) := hres
  have hsz := bsize l
  have hz3 := csA_one 0 z16
  have hz1 : (csA 0 z16).size = 17 := rfl
  have HA : Hid (∀ w1, Below (w.alloc (.cells (csA 0 z16) 31)).heap.size (w.alloc (.cells (csA 0 z16) 31)) w1 → Below w.heap.size w w1 ∧ rowAt w1 w.heap.size = some (csA 0 z16)) := Lib.hid (fun w1 h =>
    ⟨((Below.refl _ _).alloc (Nat.le_refl _) _).trans (h.mono (by simp)), rowAt_below (rowAt_new w _ 31 rfl) h (by simp)⟩)
  rw [csA_z] at hz3 hz1 HA
  have HZ : Hid (csA 0 z16 = #[.int .i64 0, .int .u8 0, .int .u8 0, .int .u8 0, .int .u8 0, .int .u8 0, .int .u8 0, .int .u8 0, .int .u8 0, .int .u8 0, .int .u8 0, .int .u8 0, .int .u8 0, .int .u8 0, .int .u8 0, .int .u8 0, .int .u8 0]) := csA_z
  have HST : Hid (∀ W c, Below w.heap.size w W → rowAt W w.heap.size = some #[.int .i64 0, .int .u8 0, .int .u8 0, .int .u8 0, .int .u8 0, .int .u8 0, .int .u8 0, .int .u8 0, .int .u8 0, .int .u8 0, .int .u8 0, .int .u8 0, .int .u8 0, .int .u8 0, .int .u8 0, .int .u8 0, .int .u8 0] → c.size = 17 → Below w.heap.size w (W.setRow w.heap.size c) ∧ rowAt (W.setRow w.heap.size c) w.heap.size = some c) := Lib.hid (fun W c hb hr hc => ⟨below_setRow hb (Nat.le_refl _) _, rowAt_setRow hr _ hc⟩)
  clear hres
  go_enter Try.func59, Try.ntmps59
  go_wp2_with fail
  refine (rgroups_c l hl _).mono ?_
  rintro E w1 ⟨hb1, v1, rfl, hnon1, hown1⟩
  obtain ⟨hbw1, d0⟩ := HA.out w1 hb1
  have hw1 : w.heap.size < w1.heap.size := rowAt_lt d0
  by_cases hfull : ∃ g, grps l = some g ∧ g.length = 8
  · obtain ⟨g, hg, hg8⟩ := hfull
    have ho := hown1 g hg
    have hlt := grps_lt hg
    obtain rfl : res = some g := by rw [HR.out]; exact grps_full hg hg8
    rw [hg]
    rw [hg8] at ho
    obtain ⟨va, vc, rfl, _, _⟩ := own_shape ho
    obtain ⟨blk, rfl, _⟩ := own_cell ho (k := 0) (u := (ints g)[0]'(by simp [ints, hg8])) (by rw [List.getElem?_eq_getElem])
    have hcell : ∀ (k x : Nat), g[k]? = some x → w1.cell? ⟨blk, k, none⟩ = some (.int .i64 (x : Int)) := fun k x hx => by
      obtain ⟨b', hb', hc⟩ := own_cell ho (k := k) (u := .int .i64 (x : Int)) (by unfold ints; rw [List.getElem?_map, hx]; rfl)
      simp only [Option.some.injEq, Addr.mk.injEq, and_true] at hb'
      rw [hb']; exact hc
    have hblt : blk < w1.heap.size := (World.ownsRow.lt ho blk rfl).2
    have HFR : Hid (Calls Try.prog 81 #[.slice (some ⟨blk, 0, none⟩) 8 vc] w1 fun e w' => e = .returned (.agg (csA 6 (unG g))) ∧ Below w1.heap.size w1 w') := rfrom_c blk g vc w1 hg8 hlt hblt hcell
    have hcz : (csA 6 (unG g)).size = 17 := csA_size (by rw [unG_length, hg8])
    have hco := csA_one 6 (unG g)
    generalize hcs : csA 6 (unG g) = cs at *
    have HCS : Hid (csA 6 (unG g) = cs) := hcs
    clear ho hcell hcs hown1 hnon1 hlt hg HA
    go_wp2_with fail
    refine HFR.out.mono ?_
    rintro E w2 ⟨rfl, hb2⟩
    have hbw2 : Below w.heap.size w w2 := hbw1.trans (hb2.mono (Nat.le_of_lt hw1))
    have d2 := rowAt_below d0 hb2 hw1
    have HF := Lib.hid (HST.out w2 cs hbw2 d2 hcz)
    go_wp2_with (refine wpList_store24o rfl _ _ rfl _ rfl _ _ d2 rfl hcz hco ?_)
    refine bodyPost_ret (v := .tuple #[.agg cs, .int .i64 0]) ?_ rfl ⟨by show _ = Ending.returned (.tuple #[.agg (csA 6 (unG g)), .int .i64 (errOf true)]); rw [HCS.out]; rfl, HF.out.1⟩
    exact result24t rfl _ _ _ _ _ rfl rfl HF.out.2
  · have HN8 : Hid (∀ g, grps l = some g → g.length ≠ 8) := fun g hg h8 => hfull ⟨g, hg, h8⟩
    obtain ⟨va, vn, vc, rfl, hvn⟩ : ∃ va vn vc, v1 = .slice va vn vc ∧ ((grps l).isSome = true → vn ≠ 8) := by
      cases hg : grps l with
      | none => exact ⟨none, 0, 0, hnon1 hg, fun h => by simp at h⟩
      | some g =>
        obtain ⟨va, vc, rfl, _, _⟩ := own_shape (hown1 g hg)
        exact ⟨va, g.length, vc, rfl, fun _ h8 => hfull ⟨g, hg, h8⟩⟩
    generalize (grps l).isSome = okb at *
    have HX : Hid (Below w.heap.size w w1 ∧ rowAt w1 w.heap.size = some #[.int .i64 0, .int .u8 0, .int .u8 0, .int .u8 0, .int .u8 0, .int .u8 0, .int .u8 0, .int .u8 0, .int .u8 0, .int .u8 0, .int .u8 0, .int .u8 0, .int .u8 0, .int .u8 0, .int .u8 0, .int .u8 0, .int .u8 0]) := Lib.hid ⟨hbw1, d0⟩
    have hvn' : okb = false ∨ ((vn : Int) == 8) = false := by
      cases okb
      · exact .inl rfl
      · right; have := hvn rfl; simp; omega
    clear hown1 hnon1 hfull hvn hb1 hbw1 d0 HA
    have key : ∀ (P : Prop), (okb = false → P) → (((vn : Int) == 8) = false → P) → P := fun P h1 h2 => hvn'.elim h1 h2
    obtain ⟨r2, hr2⟩ : ∃ b : Bool, b = (okb && ((vn : Int) == 8)) := ⟨_, rfl⟩
    have hrf : (okb && ((vn : Int) == 8)) = false := by rcases hvn' with h | h <;> simp [h]
    clear hr2 key
    rcases Bool.eq_false_or_eq_true okb with hok | hok
    · subst hok
      have hv8 : ((vn : Int) == 8) = false := by simpa using hrf
      go_wp2_with fail
      go_loopw [6] (fun iv wr => ∃ k : Nat, k ≤ l.length ∧ iv = .int .i64 (k : Int) ∧ Below w.heap.size w wr ∧ rowAt wr w.heap.size = some #[.int .i64 0, .int .u8 0, .int .u8 0, .int .u8 0, .int .u8 0, .int .u8 0, .int .u8 0, .int .u8 0, .int .u8 0, .int .u8 0, .int .u8 0, .int .u8 0, .int .u8 0, .int .u8 0, .int .u8 0, .int .u8 0, .int .u8 0] ∧ ∀ j, j < k → ∀ x y, ¬ Hit l j x y) (fun iv _ => l.length - (intOf iv).toNat)
      case atStart => exact ⟨0, by omega, rfl, HX.out.1, HX.out.2, fun j hj => by omega⟩
      case round =>
        obtain ⟨k, hk, rfl, hbw, d2, hno⟩ := hrel
        have HNO : Hid (∀ j, j < k → ∀ x y, ¬ Hit l j x y) := hno
        clear hno
        by_cases hk2 : k + 2 ≤ l.length
        · have hsl := slc_eq l k (k + 2) (k : Int) ((k : Int) + 2) rfl (by omega) (by omega) hk2
          rw [show k + 2 - k = 2 from by omega] at hsl
          have t1 : decide ((k : Int) + 2 ≤ (l.length : Int)) = true := by simp; omega
          have HTWO : Hid ((l.drop k).take 2 ≠ [58, 58] → ∀ x y, ¬ Hit l k x y) := fun h x y hh => h (hit_two hh hk2)
          have HTW2 : Hid ((l.drop k).take 2 = [58, 58] → ∃ t, l = l.take k ++ 58 :: 58 :: t ∧ l.drop (k + 2) = t) := fun h => two_hit h hk2
          generalize (l.drop k).take 2 = q at *
          by_cases hq : q = [58, 58]
          · subst hq
            have hslh := slc_h l k (k : Int) rfl (by omega)
            have hsll := slc_l l (k + 2) ((k : Int) + 2) (by omega) hk2
            have HG1 : Hid (∀ wx, Calls Try.prog 80 #[.string ⟨(l.take k).toArray⟩] wx fun e w' => RgPost (grps (l.take k)) wx e w') := fun wx => rgroups_c (l.take k) (by simp; omega) wx
            have HG2 : Hid (∀ wx, Calls Try.prog 80 #[.string ⟨(l.drop (k + 2)).toArray⟩] wx fun e w' => RgPost (grps (l.drop (k + 2))) wx e w') := fun wx => rgroups_c (l.drop (k + 2)) (by simp; omega) wx
            have hlt0 : w.heap.size < wr.heap.size := rowAt_lt d2
            go_wp2_with fail
            refine (HG1.out _).mono ?_
            rintro E w2 ⟨hb2, v2, rfl, hnon2, hown2⟩
            have hs2 := hb2.size
            cases hx : grps (l.take k) with
            | none =>
              obtain rfl := hnon2 hx
              have HNX : Hid (∀ j, j < k + 1 → ∀ x y, ¬ Hit l j x y) := fun j hj x y => by
                rcases Nat.lt_or_ge j k with h | h
                · exact HNO.out j h x y
                · obtain rfl : j = k := by omega
                  intro hh; have := hh.2.1; rw [hx] at this; simp at this
              rw [show (none : Option (List Nat)).isSome = false from rfl]
              clear hnon2 hown2
              go_wp2_with fail
              refine (HG2.out _).mono ?_
              rintro E w3 ⟨hb3, v3, rfl, hnon3, hown3⟩
              have hb13 : Below wr.heap.size wr w3 := hb2.trans (hb3.mono hs2)
              have HB3 : Hid (Below w.heap.size w w3 ∧ rowAt w3 w.heap.size = some #[.int .i64 0, .int .u8 0, .int .u8 0, .int .u8 0, .int .u8 0, .int .u8 0, .int .u8 0, .int .u8 0, .int .u8 0, .int .u8 0, .int .u8 0, .int .u8 0, .int .u8 0, .int .u8 0, .int .u8 0, .int .u8 0, .int .u8 0]) := Lib.hid ⟨hbw.trans (hb13.mono (Nat.le_of_lt hlt0)), rowAt_below d2 hb13 hlt0⟩
              generalize (grps (l.drop (k + 2))).isSome = ok3 at *
              clear hnon3 hown3 hb3 hb13 hb2 d2 hbw
              go_wp2_with fail
              go_roundw
              case rel => exact ⟨k + 1, by omega, by go_num, HB3.out.1, HB3.out.2, HNX.out⟩
              case measure => simp [intOf]; omega
            | some x =>
              have hox := hown2 x hx
              obtain ⟨xa, xc, rfl, _, _⟩ := own_shape hox
              rw [show (some x : Option (List Nat)).isSome = true from rfl]
              have HXL : Hid (x.length ≤ 1048577) := by
                show _ ≤ _
                have h1 := hx
                unfold grps at h1
                split at h1
                · simp only [Option.some.injEq] at h1; rw [← h1]; simp
                · have h2 := alls_length _ _ _ h1
                  have h3 := (pieces_len 58 (l.take k)).1
                  simp at h3; omega
              have hxl := HXL.out
              clear hnon2 hown2
              go_wp2_with fail
              refine (HG2.out _).mono ?_
              rintro E w3 ⟨hb3, v3, rfl, hnon3, hown3⟩
              have hs3 := hb3.size
              have hb13 : Below wr.heap.size wr w3 := hb2.trans (hb3.mono hs2)
              have HB3 : Hid (Below w.heap.size w w3 ∧ rowAt w3 w.heap.size = some #[.int .i64 0, .int .u8 0, .int .u8 0, .int .u8 0, .int .u8 0, .int .u8 0, .int .u8 0, .int .u8 0, .int .u8 0, .int .u8 0, .int .u8 0, .int .u8 0, .int .u8 0, .int .u8 0, .int .u8 0, .int .u8 0, .int .u8 0]) := Lib.hid ⟨hbw.trans (hb13.mono (Nat.le_of_lt hlt0)), rowAt_below d2 hb13 hlt0⟩
              have hox3 := own_below hox hb3
              cases hy : grps (l.drop (k + 2)) with
              | none =>
                obtain rfl := hnon3 hy
                have HNX : Hid (∀ j, j < k + 1 → ∀ x y, ¬ Hit l j x y) := fun j hj x y => by
                  rcases Nat.lt_or_ge j k with h | h
                  · exact HNO.out j h x y
                  · obtain rfl : j = k := by omega
                    intro hh; have := hh.2.2.1; rw [hy] at this; simp at this
                rw [show (none : Option (List Nat)).isSome = false from rfl]
                clear hnon3 hown3 hb3 hb13 hb2 d2 hbw hox hox3
                go_wp2_with fail
                go_roundw
                case rel => exact ⟨k + 1, by omega, by go_num, HB3.out.1, HB3.out.2, HNX.out⟩
                case measure => simp [intOf]; omega
              | some y =>
                have hoy := hown3 y hy
                obtain ⟨ya, yc, rfl, hyc, hyn⟩ := own_shape hoy
                rw [show (some y : Option (List Nat)).isSome = true from rfl]
                have hyl : y.length ≤ 1048577 := by
                  have h1 := hy
                  unfold grps at h1
                  split at h1
                  · simp only [Option.some.injEq] at h1; rw [← h1]; simp
                  · have h2 := alls_length _ _ _ h1
                    have h3 := (pieces_len 58 (l.drop (k + 2))).1
                    simp at h3; omega
                by_cases h7 : 7 < x.length + y.length
                · have h7' : (7 : Int) < (x.length : Int) + (y.length : Int) := by omega
                  have HNX : Hid (∀ j, j < k + 1 → ∀ x y, ¬ Hit l j x y) := fun j hj x' y' => by
                    rcases Nat.lt_or_ge j k with h | h
                    · exact HNO.out j h x' y'
                    · obtain rfl : j = k := by omega
                      intro hh
                      have e1 := hh.2.1; have e2 := hh.2.2.1; have e3 := hh.2.2.2
                      rw [hx] at e1; rw [hy] at e2
                      obtain rfl := Option.some.inj e1
                      obtain rfl := Option.some.inj e2
                      omega
                  clear hnon3 hown3 hb3 hb13 hb2 d2 hbw hox hox3 hoy
                  go_wp2_with fail
                  go_roundw
                  case rel => exact ⟨k + 1, by omega, by go_num, HB3.out.1, HB3.out.2, HNX.out⟩
                  case measure => simp [intOf]; omega
                · have h7' : ¬ ((7 : Int) < (x.length : Int) + (y.length : Int)) := by omega
                  obtain rfl : res = some (joinG x y) := by rw [HR.out]; exact hit_parse ⟨HTW2.out (by trivial), hx, hy, by omega⟩
                  have hxlt := grps_lt hx
                  have hylt := grps_lt hy
                  have hsep0 : ∀ q, (Value.slice xa x.length xc).ownBlock = some q → (Value.slice ya y.length yc).ownBlock ≠ some q := fun q hq e => by
                    have h1 := (World.ownsRow.lt hox q hq).2
                    have h2 := (World.ownsRow.lt hoy q e).1
                    omega
                  have HIN : Hid (w3.ownsRow wr.heap.size 3 1 (.slice xa x.length xc) (x.length + 0) (ints (x ++ List.replicate 0 0)) ∧ w3.ownsRow w2.heap.size 3 1 (.slice ya y.length yc) y.length (ints y)) := Lib.hid ⟨by simpa using hox3, hoy⟩
                  have hlen8 : (joinG x y).length = 8 := joinG_length _ _ (by omega)
                  have HJL : Hid (∀ q ∈ joinG x y, q < 65536) := fun q hq => by
                    unfold joinG at hq
                    rcases List.mem_append.1 hq with h | h
                    · exact hxlt q h
                    · rcases List.mem_append.1 h with h | h
                      · rw [List.eq_of_mem_replicate h]; omega
                      · exact hylt q h
                  have hs12 : wr.heap.size ≤ w3.heap.size := hb13.size
                  have HSEP0 : Hid (∀ q, (Value.slice xa x.length xc).ownBlock = some q → (Value.slice ya y.length yc).ownBlock ≠ some q) := hsep0
                  clear hnon3 hown3 hb3 hb13 hb2 d2 hbw hox hox3 hoy hxlt hylt hsep0 hx hy
                  generalize hB0 : wr.heap.size = B0 at *
                  generalize hC0 : w2.heap.size = C0 at *
                  clear hB0 hC0
                  go_wp2_with fail
                  go_loopw [7] (fun xv wz => ∃ j : Nat, x.length + y.length + j ≤ 8 ∧ wz.ownsRow B0 3 1 xv (x.length + j) (ints (x ++ List.replicate j 0)) ∧ wz.ownsRow C0 3 1 (.slice ya y.length yc) y.length (ints y) ∧ Below B0 w3 wz ∧ ∀ q, xv.ownBlock = some q → (Value.slice ya y.length yc).ownBlock ≠ some q) (fun xv _ => 8 - lenOfV xv)
                  case atStart => exact ⟨0, by omega, HIN.out.1, HIN.out.2, Below.refl _ _, HSEP0.out⟩
                  case round =>
                    obtain ⟨j, hj, hox, hoy, hbz, hsep⟩ := hrel
                    have hsz3 := hbz.size
                    obtain ⟨za, zc, rfl, _, _⟩ := own_shape hox
                    by_cases hlt8 : x.length + j + y.length < 8
                    · have t8 : decide ((x.length : Int) + (j : Int) + (y.length : Int) < 8) = true := by simp; omega
                      have HOX : Hid (wr.ownsRow B0 3 1 (.slice za (x.length + j) zc) (x.length + j) (ints (x ++ List.replicate j 0))) := hox
                      have HOY : Hid (wr.ownsRow C0 3 1 (.slice ya y.length yc) y.length (ints y)) := hoy
                      have HSEP : Hid (∀ q, (Value.slice za (x.length + j) zc).ownBlock = some q → (Value.slice ya y.length yc).ownBlock ≠ some q) := hsep
                      clear hox hoy hsep
                      go_wp2_with (at_builtin; refine wpList_appM rfl _ _ rfl B0 (.slice za (x.length + j) zc) (x.length + j) (ints (x ++ List.replicate j 0)) rfl (by exact own_below HOX.out ((Below.refl _ _).alloc (Nat.le_refl _) _)) (by simp; omega) ⟨_, 0, none⟩ 1 1 [.int .i64 0] rfl rfl (by exact one_lit _) (by simp; rfl) (by omega) ?_)
                      intro v' w5 ho5 hg5 hm5
                      have hy5 : w5.ownsRow C0 3 1 (.slice ya y.length yc) y.length (ints y) := own_grown (own_below HOY.out ((Below.refl _ _).alloc (Nat.le_refl _) _)) hg5 (fun q hq e => HSEP.out q e hq)
                      have hb5 : Below B0 w3 w5 := hbz.trans (((Below.refl B0 wr).alloc (by omega) _).grown hg5 (by simp; omega) (fun q hq => (World.ownsRow.lt HOX.out q hq).1))
                      have hs5 : ∀ q, v'.ownBlock = some q → (Value.slice ya y.length yc).ownBlock ≠ some q := fun q hq e => by
                        rcases hm5 q hq with h | h
                        · exact HSEP.out q h e
                        · have := (World.ownsRow.lt HOY.out q e).2
                          omega
                      have HO5 : Hid (w5.ownsRow B0 3 1 v' (x.length + (j + 1)) (ints (x ++ List.replicate (j + 1) 0))) := by
                        rw [List.replicate_succ', ← List.append_assoc, ints_snoc]; exact ho5
                      clear ho5 hg5 hm5 hbz
                      obtain ⟨va5, vc5, rfl, _, _⟩ := own_shape HO5.out
                      go_wp2_with fail
                      go_roundw
                      case rel => exact ⟨j + 1, by omega, HO5.out, hy5, hb5, hs5⟩
                      case measure => simp [lenOfV]; omega
                    · have t8 : decide ((x.length : Int) + (j : Int) + (y.length : Int) < 8) = false := by simp; omega
                      have hjj : j = 8 - (x.length + y.length) := by omega
                      have HJG : Hid (ints (joinG x y) = ints (x ++ List.replicate j 0) ++ ints y) := by
                        show _ = _
                        unfold joinG
                        rw [← hjj]; simp [ints]
                      have HN9 : Hid (x.length + j + y.length = 8) := by show _ = _; omega
                      clear hjj
                      rcases hoy.2 with ⟨e, h0⟩ | ⟨gy, capy, cur, e, hgy, _⟩
                      · have hy0 : y = [] := List.eq_nil_of_length_eq_zero h0
                        subst hy0
                        simp only [List.length_nil, Value.slice.injEq, true_and] at e
                        obtain ⟨rfl, rfl⟩ := e
                        have hxj : x.length + j = 8 := by simpa using HN9.out
                        rw [hxj] at hox ⊢
                        have HO6 : Hid (wr.ownsRow B0 3 1 (.slice za 8 zc) 8 (ints (joinG x []))) := by
                          show World.ownsRow _ _ _ _ _ _ _
                          rw [HJG.out]; simpa [ints] using hox
                        have hb6 := hbz
                        clear hox hoy hsep
                        obtain ⟨i3, hi3, _⟩ := info_parts info3
                        go_wp2_with (at_builtin; refine wpList_append_own_none (P := Try.prog) rfl _ _ 106 rfl B0 3 i3 1 Try.underlying106 hi3 (.slice za 8 zc) 8 _ rfl (by exact HO6.out) rfl ?_)
                        have HBW : Hid (Below w.heap.size w wr ∧ rowAt wr w.heap.size = some #[.int .i64 0, .int .u8 0, .int .u8 0, .int .u8 0, .int .u8 0, .int .u8 0, .int .u8 0, .int .u8 0, .int .u8 0, .int .u8 0, .int .u8 0, .int .u8 0, .int .u8 0, .int .u8 0, .int .u8 0, .int .u8 0, .int .u8 0]) := Lib.hid ⟨HB3.out.1.trans (hb6.mono (Nat.le_of_lt hlt0)), rowAt_below HB3.out.2 hb6 hlt0⟩
                        have hs6 := hb6.size
                        obtain ⟨fa, fc, hfe, _, _⟩ := own_shape HO6.out
                        obtain ⟨blk, hblk, _⟩ : ∃ blk, fa = some ⟨blk, 0, none⟩ ∧ True := by
                          have h1 := HO6.out
                          rw [hfe] at h1
                          obtain ⟨b9, hb9, _⟩ := own_cell h1 (k := 0) (u := (ints (joinG x []))[0]'(by simp [ints, hlen8])) (by rw [List.getElem?_eq_getElem])
                          exact ⟨b9, hb9, trivial⟩
                        subst hblk
                        simp only [Value.slice.injEq, true_and] at hfe
                        obtain ⟨rfl, rfl⟩ := hfe
                        have HFR : Hid (Calls Try.prog 81 #[.slice (some ⟨blk, 0, none⟩) 8 zc] wr fun e w' => e = .returned (.agg (csA 6 (unG (joinG x [])))) ∧ Below (wr).heap.size wr w') := rfrom_c blk (joinG x []) zc wr hlen8 HJL.out (World.ownsRow.lt HO6.out blk rfl).2 (fun q z hz => by
                          obtain ⟨b', hb', hc⟩ := own_cell HO6.out (k := q) (u := .int .i64 (z : Int)) (by unfold ints; rw [List.getElem?_map, hz]; rfl)
                          simp only [Option.some.injEq, Addr.mk.injEq, and_true] at hb'
                          rw [hb']; exact hc)
                        have hlt6 : w.heap.size < (wr).heap.size := rowAt_lt HBW.out.2
                        have hcz : (csA 6 (unG (joinG x []))).size = 17 := csA_size (by rw [unG_length, hlen8])
                        have hco := csA_one 6 (unG (joinG x []))
                        generalize hcs : csA 6 (unG (joinG x [])) = cs at *
                        have HCS : Hid (csA 6 (unG (joinG x [])) = cs) := hcs
                        clear hcs hb6
                        go_wp2_with fail
                        refine HFR.out.mono ?_
                        rintro E w7 ⟨rfl, hb7⟩
                        have hbw7 : Below w.heap.size w w7 := HBW.out.1.trans (hb7.mono (Nat.le_of_lt hlt6))
                        have d7 := rowAt_below HBW.out.2 hb7 hlt6
                        have HF := Lib.hid (HST.out w7 cs hbw7 d7 hcz)
                        go_wp2_with (refine wpList_store24o rfl _ _ rfl _ rfl _ _ d7 rfl hcz hco ?_)
                        refine bodyPost_ret (v := .tuple #[.agg cs, .int .i64 0]) ?_ rfl ⟨by show _ = Ending.returned (.tuple #[.agg (csA 6 (unG (joinG x []))), .int .i64 (errOf true)]); rw [HCS.out]; rfl, HF.out.1⟩
                        exact result24t rfl _ _ _ _ _ rfl rfl HF.out.2
                      · simp only [Value.slice.injEq, true_and] at e
                        obtain ⟨rfl, rfl⟩ := e
                        have HOX : Hid (wr.ownsRow B0 3 1 (.slice za (x.length + j) zc) (x.length + j) (ints (x ++ List.replicate j 0))) := hox
                        have HOY : Hid (wr.ownsRow C0 3 1 (.slice (some ⟨gy, 0, none⟩) y.length yc) y.length (ints y)) := hoy
                        clear hox hoy hsep
                        go_wp2_with (at_builtin; refine wpList_appM rfl _ _ rfl B0 (.slice za (x.length + j) zc) (x.length + j) (ints (x ++ List.replicate j 0)) rfl (by exact HOX.out) (by omega) ⟨gy, 0, none⟩ y.length yc (ints y) rfl (by simp [ints]) (by exact own_src3 HOY.out) (ints_one y) (by have := HN9.out; omega) ?_)
                        intro v6 w6 ho6 hg6 hm6
                        have hb6 : Below B0 w3 w6 := hbz.trans ((Below.refl B0 wr).grown hg6 (by omega) (fun q hq => (World.ownsRow.lt HOX.out q hq).1))
                        have HO6 : Hid (w6.ownsRow B0 3 1 v6 8 (ints (joinG x y))) := by
                          show World.ownsRow _ _ _ _ _ _ _
                          rw [HJG.out]; rw [HN9.out] at ho6; exact ho6
                        clear ho6 hg6 hm6 hbz
                        have HBW : Hid (Below w.heap.size w w6 ∧ rowAt w6 w.heap.size = some #[.int .i64 0, .int .u8 0, .int .u8 0, .int .u8 0, .int .u8 0, .int .u8 0, .int .u8 0, .int .u8 0, .int .u8 0, .int .u8 0, .int .u8 0, .int .u8 0, .int .u8 0, .int .u8 0, .int .u8 0, .int .u8 0, .int .u8 0]) := Lib.hid ⟨HB3.out.1.trans (hb6.mono (Nat.le_of_lt hlt0)), rowAt_below HB3.out.2 hb6 hlt0⟩
                        have hs6 := hb6.size
                        obtain ⟨fa, fc, hfe, _, _⟩ := own_shape HO6.out
                        obtain ⟨blk, hblk, _⟩ : ∃ blk, fa = some ⟨blk, 0, none⟩ ∧ True := by
                          have h1 := HO6.out
                          rw [hfe] at h1
                          obtain ⟨b9, hb9, _⟩ := own_cell h1 (k := 0) (u := (ints (joinG x y))[0]'(by simp [ints, hlen8])) (by rw [List.getElem?_eq_getElem])
                          exact ⟨b9, hb9, trivial⟩
                        subst hblk
                        subst hfe
                        have HFR : Hid (Calls Try.prog 81 #[.slice (some ⟨blk, 0, none⟩) 8 fc] w6 fun e w' => e = .returned (.agg (csA 6 (unG (joinG x y)))) ∧ Below (w6).heap.size w6 w') := rfrom_c blk (joinG x y) fc w6 hlen8 HJL.out (World.ownsRow.lt HO6.out blk rfl).2 (fun q z hz => by
                          obtain ⟨b', hb', hc⟩ := own_cell HO6.out (k := q) (u := .int .i64 (z : Int)) (by unfold ints; rw [List.getElem?_map, hz]; rfl)
                          simp only [Option.some.injEq, Addr.mk.injEq, and_true] at hb'
                          rw [hb']; exact hc)
                        have hlt6 : w.heap.size < (w6).heap.size := rowAt_lt HBW.out.2
                        have hcz : (csA 6 (unG (joinG x y))).size = 17 := csA_size (by rw [unG_length, hlen8])
                        have hco := csA_one 6 (unG (joinG x y))
                        generalize hcs : csA 6 (unG (joinG x y)) = cs at *
                        have HCS : Hid (csA 6 (unG (joinG x y)) = cs) := hcs
                        clear hcs hb6
                        go_wp2_with fail
                        refine HFR.out.mono ?_
                        rintro E w7 ⟨rfl, hb7⟩
                        have hbw7 : Below w.heap.size w w7 := HBW.out.1.trans (hb7.mono (Nat.le_of_lt hlt6))
                        have d7 := rowAt_below HBW.out.2 hb7 hlt6
                        have HF := Lib.hid (HST.out w7 cs hbw7 d7 hcz)
                        go_wp2_with (refine wpList_store24o rfl _ _ rfl _ rfl _ _ d7 rfl hcz hco ?_)
                        refine bodyPost_ret (v := .tuple #[.agg cs, .int .i64 0]) ?_ rfl ⟨by show _ = Ending.returned (.tuple #[.agg (csA 6 (unG (joinG x y))), .int .i64 (errOf true)]); rw [HCS.out]; rfl, HF.out.1⟩
                        exact result24t rfl _ _ _ _ _ rfl rfl HF.out.2
          · have hq1 : (q == [58, 58]) = false := by simpa using hq
            have hq2 : (q != [58, 58]) = true := by simpa using hq
            have HNX : Hid (∀ j, j < k + 1 → ∀ x y, ¬ Hit l j x y) := fun j hj x y => by
              rcases Nat.lt_or_ge j k with h | h
              · exact HNO.out j h x y
              · obtain rfl : j = k := by omega
                exact HTWO.out hq x y
            go_wp2_with fail
            go_roundw
            case rel => exact ⟨k + 1, by omega, by go_num, hbw, d2, HNX.out⟩
            case measure => simp [intOf]; omega
        · have t1 : decide ((k : Int) + 2 ≤ (l.length : Int)) = false := by simp; omega
          obtain rfl : res = none := by rw [HR.out]; exact no_hit HN8.out (fun i x y hi => HNO.out i (by omega) x y)
          have HF := Lib.hid (HST.out wr _ hbw d2 hz1)
          go_wp2_with (refine wpList_store24o rfl _ _ rfl _ rfl _ _ d2 rfl hz1 hz3 ?_)
          refine bodyPost_ret (v := .tuple #[.agg (csA 0 z16), .int .i64 30]) ?_ rfl ⟨rfl, HF.out.1⟩
          rw [HZ.out]
          exact result24t rfl _ _ _ _ _ rfl rfl HF.out.2
    · subst hok
      go_wp2_with fail
      go_loopw [6] (fun iv wr => ∃ k : Nat, k ≤ l.length ∧ iv = .int .i64 (k : Int) ∧ Below w.heap.size w wr ∧ rowAt wr w.heap.size = some #[.int .i64 0, .int .u8 0, .int .u8 0, .int .u8 0, .int .u8 0, .int .u8 0, .int .u8 0, .int .u8 0, .int .u8 0, .int .u8 0, .int .u8 0, .int .u8 0, .int .u8 0, .int .u8 0, .int .u8 0, .int .u8 0, .int .u8 0] ∧ ∀ j, j < k → ∀ x y, ¬ Hit l j x y) (fun iv _ => l.length - (intOf iv).toNat)
      case atStart => exact ⟨0, by omega, rfl, HX.out.1, HX.out.2, fun j hj => by omega⟩
      case round =>
        obtain ⟨k, hk, rfl, hbw, d2, hno⟩ := hrel
        have HNO : Hid (∀ j, j < k → ∀ x y, ¬ Hit l j x y) := hno
        clear hno
        by_cases hk2 : k + 2 ≤ l.length
        · have hsl := slc_eq l k (k + 2) (k : Int) ((k : Int) + 2) rfl (by omega) (by omega) hk2
          rw [show k + 2 - k = 2 from by omega] at hsl
          have t1 : decide ((k : Int) + 2 ≤ (l.length : Int)) = true := by simp; omega
          have HTWO : Hid ((l.drop k).take 2 ≠ [58, 58] → ∀ x y, ¬ Hit l k x y) := fun h x y hh => h (hit_two hh hk2)
          have HTW2 : Hid ((l.drop k).take 2 = [58, 58] → ∃ t, l = l.take k ++ 58 :: 58 :: t ∧ l.drop (k + 2) = t) := fun h => two_hit h hk2
          generalize (l.drop k).take 2 = q at *
          by_cases hq : q = [58, 58]
          · subst hq
            have hslh := slc_h l k (k : Int) rfl (by omega)
            have hsll := slc_l l (k + 2) ((k : Int) + 2) (by omega) hk2
            have HG1 : Hid (∀ wx, Calls Try.prog 80 #[.string ⟨(l.take k).toArray⟩] wx fun e w' => RgPost (grps (l.take k)) wx e w') := fun wx => rgroups_c (l.take k) (by simp; omega) wx
            have HG2 : Hid (∀ wx, Calls Try.prog 80 #[.string ⟨(l.drop (k + 2)).toArray⟩] wx fun e w' => RgPost (grps (l.drop (k + 2))) wx e w') := fun wx => rgroups_c (l.drop (k + 2)) (by simp; omega) wx
            have hlt0 : w.heap.size < wr.heap.size := rowAt_lt d2
            go_wp2_with fail
            refine (HG1.out _).mono ?_
            rintro E w2 ⟨hb2, v2, rfl, hnon2, hown2⟩
            have hs2 := hb2.size
            cases hx : grps (l.take k) with
            | none =>
              obtain rfl := hnon2 hx
              have HNX : Hid (∀ j, j < k + 1 → ∀ x y, ¬ Hit l j x y) := fun j hj x y => by
                rcases Nat.lt_or_ge j k with h | h
                · exact HNO.out j h x y
                · obtain rfl : j = k := by omega
                  intro hh; have := hh.2.1; rw [hx] at this; simp at this
              rw [show (none : Option (List Nat)).isSome = false from rfl]
              clear hnon2 hown2
              go_wp2_with fail
              refine (HG2.out _).mono ?_
              rintro E w3 ⟨hb3, v3, rfl, hnon3, hown3⟩
              have hb13 : Below wr.heap.size wr w3 := hb2.trans (hb3.mono hs2)
              have HB3 : Hid (Below w.heap.size w w3 ∧ rowAt w3 w.heap.size = some #[.int .i64 0, .int .u8 0, .int .u8 0, .int .u8 0, .int .u8 0, .int .u8 0, .int .u8 0, .int .u8 0, .int .u8 0, .int .u8 0, .int .u8 0, .int .u8 0, .int .u8 0, .int .u8 0, .int .u8 0, .int .u8 0, .int .u8 0]) := Lib.hid ⟨hbw.trans (hb13.mono (Nat.le_of_lt hlt0)), rowAt_below d2 hb13 hlt0⟩
              generalize (grps (l.drop (k + 2))).isSome = ok3 at *
              clear hnon3 hown3 hb3 hb13 hb2 d2 hbw
              go_wp2_with fail
              go_roundw
              case rel => exact ⟨k + 1, by omega, by go_num, HB3.out.1, HB3.out.2, HNX.out⟩
              case measure => simp [intOf]; omega
            | some x =>
              have hox := hown2 x hx
              obtain ⟨xa, xc, rfl, _, _⟩ := own_shape hox
              rw [show (some x : Option (List Nat)).isSome = true from rfl]
              have HXL : Hid (x.length ≤ 1048577) := by
                show _ ≤ _
                have h1 := hx
                unfold grps at h1
                split at h1
                · simp only [Option.some.injEq] at h1; rw [← h1]; simp
                · have h2 := alls_length _ _ _ h1
                  have h3 := (pieces_len 58 (l.take k)).1
                  simp at h3; omega
              have hxl := HXL.out
              clear hnon2 hown2
              go_wp2_with fail
              refine (HG2.out _).mono ?_
              rintro E w3 ⟨hb3, v3, rfl, hnon3, hown3⟩
              have hs3 := hb3.size
              have hb13 : Below wr.heap.size wr w3 := hb2.trans (hb3.mono hs2)
              have HB3 : Hid (Below w.heap.size w w3 ∧ rowAt w3 w.heap.size = some #[.int .i64 0, .int .u8 0, .int .u8 0, .int .u8 0, .int .u8 0, .int .u8 0, .int .u8 0, .int .u8 0, .int .u8 0, .int .u8 0, .int .u8 0, .int .u8 0, .int .u8 0, .int .u8 0, .int .u8 0, .int .u8 0, .int .u8 0]) := Lib.hid ⟨hbw.trans (hb13.mono (Nat.le_of_lt hlt0)), rowAt_below d2 hb13 hlt0⟩
              have hox3 := own_below hox hb3
              cases hy : grps (l.drop (k + 2)) with
              | none =>
                obtain rfl := hnon3 hy
                have HNX : Hid (∀ j, j < k + 1 → ∀ x y, ¬ Hit l j x y) := fun j hj x y => by
                  rcases Nat.lt_or_ge j k with h | h
                  · exact HNO.out j h x y
                  · obtain rfl : j = k := by omega
                    intro hh; have := hh.2.2.1; rw [hy] at this; simp at this
                rw [show (none : Option (List Nat)).isSome = false from rfl]
                clear hnon3 hown3 hb3 hb13 hb2 d2 hbw hox hox3
                go_wp2_with fail
                go_roundw
                case rel => exact ⟨k + 1, by omega, by go_num, HB3.out.1, HB3.out.2, HNX.out⟩
                case measure => simp [intOf]; omega
              | some y =>
                have hoy := hown3 y hy
                obtain ⟨ya, yc, rfl, hyc, hyn⟩ := own_shape hoy
                rw [show (some y : Option (List Nat)).isSome = true from rfl]
                have hyl : y.length ≤ 1048577 := by
                  have h1 := hy
                  unfold grps at h1
                  split at h1
                  · simp only [Option.some.injEq] at h1; rw [← h1]; simp
                  · have h2 := alls_length _ _ _ h1
                    have h3 := (pieces_len 58 (l.drop (k + 2))).1
                    simp at h3; omega
                by_cases h7 : 7 < x.length + y.length
                · have h7' : (7 : Int) < (x.length : Int) + (y.length : Int) := by omega
                  have HNX : Hid (∀ j, j < k + 1 → ∀ x y, ¬ Hit l j x y) := fun j hj x' y' => by
                    rcases Nat.lt_or_ge j k with h | h
                    · exact HNO.out j h x' y'
                    · obtain rfl : j = k := by omega
                      intro hh
                      have e1 := hh.2.1; have e2 := hh.2.2.1; have e3 := hh.2.2.2
                      rw [hx] at e1; rw [hy] at e2
                      obtain rfl := Option.some.inj e1
                      obtain rfl := Option.some.inj e2
                      omega
                  clear hnon3 hown3 hb3 hb13 hb2 d2 hbw hox hox3 hoy
                  go_wp2_with fail
                  go_roundw
                  case rel => exact ⟨k + 1, by omega, by go_num, HB3.out.1, HB3.out.2, HNX.out⟩
                  case measure => simp [intOf]; omega
                · have h7' : ¬ ((7 : Int) < (x.length : Int) + (y.length : Int)) := by omega
                  obtain rfl : res = some (joinG x y) := by rw [HR.out]; exact hit_parse ⟨HTW2.out (by trivial), hx, hy, by omega⟩
                  have hxlt := grps_lt hx
                  have hylt := grps_lt hy
                  have hsep0 : ∀ q, (Value.slice xa x.length xc).ownBlock = some q → (Value.slice ya y.length yc).ownBlock ≠ some q := fun q hq e => by
                    have h1 := (World.ownsRow.lt hox q hq).2
                    have h2 := (World.ownsRow.lt hoy q e).1
                    omega
                  have HIN : Hid (w3.ownsRow wr.heap.size 3 1 (.slice xa x.length xc) (x.length + 0) (ints (x ++ List.replicate 0 0)) ∧ w3.ownsRow w2.heap.size 3 1 (.slice ya y.length yc) y.length (ints y)) := Lib.hid ⟨by simpa using hox3, hoy⟩
                  have hlen8 : (joinG x y).length = 8 := joinG_length _ _ (by omega)
                  have HJL : Hid (∀ q ∈ joinG x y, q < 65536) := fun q hq => by
                    unfold joinG at hq
                    rcases List.mem_append.1 hq with h | h
                    · exact hxlt q h
                    · rcases List.mem_append.1 h with h | h
                      · rw [List.eq_of_mem_replicate h]; omega
                      · exact hylt q h
                  have hs12 : wr.heap.size ≤ w3.heap.size := hb13.size
                  have HSEP0 : Hid (∀ q, (Value.slice xa x.length xc).ownBlock = some q → (Value.slice ya y.length yc).ownBlock ≠ some q) := hsep0
                  clear hnon3 hown3 hb3 hb13 hb2 d2 hbw hox hox3 hoy hxlt hylt hsep0 hx hy
                  generalize hB0 : wr.heap.size = B0 at *
                  generalize hC0 : w2.heap.size = C0 at *
                  clear hB0 hC0
                  go_wp2_with fail
                  go_loopw [7] (fun xv wz => ∃ j : Nat, x.length + y.length + j ≤ 8 ∧ wz.ownsRow B0 3 1 xv (x.length + j) (ints (x ++ List.replicate j 0)) ∧ wz.ownsRow C0 3 1 (.slice ya y.length yc) y.length (ints y) ∧ Below B0 w3 wz ∧ ∀ q, xv.ownBlock = some q → (Value.slice ya y.length yc).ownBlock ≠ some q) (fun xv _ => 8 - lenOfV xv)
                  case atStart => exact ⟨0, by omega, HIN.out.1, HIN.out.2, Below.refl _ _, HSEP0.out⟩
                  case round =>
                    obtain ⟨j, hj, hox, hoy, hbz, hsep⟩ := hrel
                    have hsz3 := hbz.size
                    obtain ⟨za, zc, rfl, _, _⟩ := own_shape hox
                    by_cases hlt8 : x.length + j + y.length < 8
                    · have t8 : decide ((x.length : Int) + (j : Int) + (y.length : Int) < 8) = true := by simp; omega
                      have HOX : Hid (wr.ownsRow B0 3 1 (.slice za (x.length + j) zc) (x.length + j) (ints (x ++ List.replicate j 0))) := hox
                      have HOY : Hid (wr.ownsRow C0 3 1 (.slice ya y.length yc) y.length (ints y)) := hoy
                      have HSEP : Hid (∀ q, (Value.slice za (x.length + j) zc).ownBlock = some q → (Value.slice ya y.length yc).ownBlock ≠ some q) := hsep
                      clear hox hoy hsep
                      go_wp2_with (at_builtin; refine wpList_appM rfl _ _ rfl B0 (.slice za (x.length + j) zc) (x.length + j) (ints (x ++ List.replicate j 0)) rfl (by exact own_below HOX.out ((Below.refl _ _).alloc (Nat.le_refl _) _)) (by simp; omega) ⟨_, 0, none⟩ 1 1 [.int .i64 0] rfl rfl (by exact one_lit _) (by simp; rfl) (by omega) ?_)
                      intro v' w5 ho5 hg5 hm5
                      have hy5 : w5.ownsRow C0 3 1 (.slice ya y.length yc) y.length (ints y) := own_grown (own_below HOY.out ((Below.refl _ _).alloc (Nat.le_refl _) _)) hg5 (fun q hq e => HSEP.out q e hq)
                      have hb5 : Below B0 w3 w5 := hbz.trans (((Below.refl B0 wr).alloc (by omega) _).grown hg5 (by simp; omega) (fun q hq => (World.ownsRow.lt HOX.out q hq).1))
                      have hs5 : ∀ q, v'.ownBlock = some q → (Value.slice ya y.length yc).ownBlock ≠ some q := fun q hq e => by
                        rcases hm5 q hq with h | h
                        · exact HSEP.out q h e
                        · have := (World.ownsRow.lt HOY.out q e).2
                          omega
                      have HO5 : Hid (w5.ownsRow B0 3 1 v' (x.length + (j + 1)) (ints (x ++ List.replicate (j + 1) 0))) := by
                        rw [List.replicate_succ', ← List.append_assoc, ints_snoc]; exact ho5
                      clear ho5 hg5 hm5 hbz
                      obtain ⟨va5, vc5, rfl, _, _⟩ := own_shape HO5.out
                      go_wp2_with fail
                      go_roundw
                      case rel => exact ⟨j + 1, by omega, HO5.out, hy5, hb5, hs5⟩
                      case measure => simp [lenOfV]; omega
                    · have t8 : decide ((x.length : Int) + (j : Int) + (y.length : Int) < 8) = false := by simp; omega
                      have hjj : j = 8 - (x.length + y.length) := by omega
                      have HJG : Hid (ints (joinG x y) = ints (x ++ List.replicate j 0) ++ ints y) := by
                        show _ = _
                        unfold joinG
                        rw [← hjj]; simp [ints]
                      have HN9 : Hid (x.length + j + y.length = 8) := by show _ = _; omega
                      clear hjj
                      rcases hoy.2 with ⟨e, h0⟩ | ⟨gy, capy, cur, e, hgy, _⟩
                      · have hy0 : y = [] := List.eq_nil_of_length_eq_zero h0
                        subst hy0
                        simp only [List.length_nil, Value.slice.injEq, true_and] at e
                        obtain ⟨rfl, rfl⟩ := e
                        have hxj : x.length + j = 8 := by simpa using HN9.out
                        rw [hxj] at hox ⊢
                        have HO6 : Hid (wr.ownsRow B0 3 1 (.slice za 8 zc) 8 (ints (joinG x []))) := by
                          show World.ownsRow _ _ _ _ _ _ _
                          rw [HJG.out]; simpa [ints] using hox
                        have hb6 := hbz
                        clear hox hoy hsep
                        obtain ⟨i3, hi3, _⟩ := info_parts info3
                        go_wp2_with (at_builtin; refine wpList_append_own_none (P := Try.prog) rfl _ _ 106 rfl B0 3 i3 1 Try.underlying106 hi3 (.slice za 8 zc) 8 _ rfl (by exact HO6.out) rfl ?_)
                        have HBW : Hid (Below w.heap.size w wr ∧ rowAt wr w.heap.size = some #[.int .i64 0, .int .u8 0, .int .u8 0, .int .u8 0, .int .u8 0, .int .u8 0, .int .u8 0, .int .u8 0, .int .u8 0, .int .u8 0, .int .u8 0, .int .u8 0, .int .u8 0, .int .u8 0, .int .u8 0, .int .u8 0, .int .u8 0]) := Lib.hid ⟨HB3.out.1.trans (hb6.mono (Nat.le_of_lt hlt0)), rowAt_below HB3.out.2 hb6 hlt0⟩
                        have hs6 := hb6.size
                        obtain ⟨fa, fc, hfe, _, _⟩ := own_shape HO6.out
                        obtain ⟨blk, hblk, _⟩ : ∃ blk, fa = some ⟨blk, 0, none⟩ ∧ True := by
                          have h1 := HO6.out
                          rw [hfe] at h1
                          obtain ⟨b9, hb9, _⟩ := own_cell h1 (k := 0) (u := (ints (joinG x []))[0]'(by simp [ints, hlen8])) (by rw [List.getElem?_eq_getElem])
                          exact ⟨b9, hb9, trivial⟩
                        subst hblk
                        simp only [Value.slice.injEq, true_and] at hfe
                        obtain ⟨rfl, rfl⟩ := hfe
                        have HFR : Hid (Calls Try.prog 81 #[.slice (some ⟨blk, 0, none⟩) 8 zc] wr fun e w' => e = .returned (.agg (csA 6 (unG (joinG x [])))) ∧ Below (wr).heap.size wr w') := rfrom_c blk (joinG x []) zc wr hlen8 HJL.out (World.ownsRow.lt HO6.out blk rfl).2 (fun q z hz => by
                          obtain ⟨b', hb', hc⟩ := own_cell HO6.out (k := q) (u := .int .i64 (z : Int)) (by unfold ints; rw [List.getElem?_map, hz]; rfl)
                          simp only [Option.some.injEq, Addr.mk.injEq, and_true] at hb'
                          rw [hb']; exact hc)
                        have hlt6 : w.heap.size < (wr).heap.size := rowAt_lt HBW.out.2
                        have hcz : (csA 6 (unG (joinG x []))).size = 17 := csA_size (by rw [unG_length, hlen8])
                        have hco := csA_one 6 (unG (joinG x []))
                        generalize hcs : csA 6 (unG (joinG x [])) = cs at *
                        have HCS : Hid (csA 6 (unG (joinG x [])) = cs) := hcs
                        clear hcs hb6
                        go_wp2_with fail
                        refine HFR.out.mono ?_
                        rintro E w7 ⟨rfl, hb7⟩
                        have hbw7 : Below w.heap.size w w7 := HBW.out.1.trans (hb7.mono (Nat.le_of_lt hlt6))
                        have d7 := rowAt_below HBW.out.2 hb7 hlt6
                        have HF := Lib.hid (HST.out w7 cs hbw7 d7 hcz)
                        go_wp2_with (refine wpList_store24o rfl _ _ rfl _ rfl _ _ d7 rfl hcz hco ?_)
                        refine bodyPost_ret (v := .tuple #[.agg cs, .int .i64 0]) ?_ rfl ⟨by show _ = Ending.returned (.tuple #[.agg (csA 6 (unG (joinG x []))), .int .i64 (errOf true)]); rw [HCS.out]; rfl, HF.out.1⟩
                        exact result24t rfl _ _ _ _ _ rfl rfl HF.out.2
                      · simp only [Value.slice.injEq, true_and] at e
                        obtain ⟨rfl, rfl⟩ := e
                        have HOX : Hid (wr.ownsRow B0 3 1 (.slice za (x.length + j) zc) (x.length + j) (ints (x ++ List.replicate j 0))) := hox
                        have HOY : Hid (wr.ownsRow C0 3 1 (.slice (some ⟨gy, 0, none⟩) y.length yc) y.length (ints y)) := hoy
                        clear hox hoy hsep
                        go_wp2_with (at_builtin; refine wpList_appM rfl _ _ rfl B0 (.slice za (x.length + j) zc) (x.length + j) (ints (x ++ List.replicate j 0)) rfl (by exact HOX.out) (by omega) ⟨gy, 0, none⟩ y.length yc (ints y) rfl (by simp [ints]) (by exact own_src3 HOY.out) (ints_one y) (by have := HN9.out; omega) ?_)
                        intro v6 w6 ho6 hg6 hm6
                        have hb6 : Below B0 w3 w6 := hbz.trans ((Below.refl B0 wr).grown hg6 (by omega) (fun q hq => (World.ownsRow.lt HOX.out q hq).1))
                        have HO6 : Hid (w6.ownsRow B0 3 1 v6 8 (ints (joinG x y))) := by
                          show World.ownsRow _ _ _ _ _ _ _
                          rw [HJG.out]; rw [HN9.out] at ho6; exact ho6
                        clear ho6 hg6 hm6 hbz
                        have HBW : Hid (Below w.heap.size w w6 ∧ rowAt w6 w.heap.size = some #[.int .i64 0, .int .u8 0, .int .u8 0, .int .u8 0, .int .u8 0, .int .u8 0, .int .u8 0, .int .u8 0, .int .u8 0, .int .u8 0, .int .u8 0, .int .u8 0, .int .u8 0, .int .u8 0, .int .u8 0, .int .u8 0, .int .u8 0]) := Lib.hid ⟨HB3.out.1.trans (hb6.mono (Nat.le_of_lt hlt0)), rowAt_below HB3.out.2 hb6 hlt0⟩
                        have hs6 := hb6.size
                        obtain ⟨fa, fc, hfe, _, _⟩ := own_shape HO6.out
                        obtain ⟨blk, hblk, _⟩ : ∃ blk, fa = some ⟨blk, 0, none⟩ ∧ True := by
                          have h1 := HO6.out
                          rw [hfe] at h1
                          obtain ⟨b9, hb9, _⟩ := own_cell h1 (k := 0) (u := (ints (joinG x y))[0]'(by simp [ints, hlen8])) (by rw [List.getElem?_eq_getElem])
                          exact ⟨b9, hb9, trivial⟩
                        subst hblk
                        subst hfe
                        have HFR : Hid (Calls Try.prog 81 #[.slice (some ⟨blk, 0, none⟩) 8 fc] w6 fun e w' => e = .returned (.agg (csA 6 (unG (joinG x y)))) ∧ Below (w6).heap.size w6 w') := rfrom_c blk (joinG x y) fc w6 hlen8 HJL.out (World.ownsRow.lt HO6.out blk rfl).2 (fun q z hz => by
                          obtain ⟨b', hb', hc⟩ := own_cell HO6.out (k := q) (u := .int .i64 (z : Int)) (by unfold ints; rw [List.getElem?_map, hz]; rfl)
                          simp only [Option.some.injEq, Addr.mk.injEq, and_true] at hb'
                          rw [hb']; exact hc)
                        have hlt6 : w.heap.size < (w6).heap.size := rowAt_lt HBW.out.2
                        have hcz : (csA 6 (unG (joinG x y))).size = 17 := csA_size (by rw [unG_length, hlen8])
                        have hco := csA_one 6 (unG (joinG x y))
                        generalize hcs : csA 6 (unG (joinG x y)) = cs at *
                        have HCS : Hid (csA 6 (unG (joinG x y)) = cs) := hcs
                        clear hcs hb6
                        go_wp2_with fail
                        refine HFR.out.mono ?_
                        rintro E w7 ⟨rfl, hb7⟩
                        have hbw7 : Below w.heap.size w w7 := HBW.out.1.trans (hb7.mono (Nat.le_of_lt hlt6))
                        have d7 := rowAt_below HBW.out.2 hb7 hlt6
                        have HF := Lib.hid (HST.out w7 cs hbw7 d7 hcz)
                        go_wp2_with (refine wpList_store24o rfl _ _ rfl _ rfl _ _ d7 rfl hcz hco ?_)
                        refine bodyPost_ret (v := .tuple #[.agg cs, .int .i64 0]) ?_ rfl ⟨by show _ = Ending.returned (.tuple #[.agg (csA 6 (unG (joinG x y))), .int .i64 (errOf true)]); rw [HCS.out]; rfl, HF.out.1⟩
                        exact result24t rfl _ _ _ _ _ rfl rfl HF.out.2
          · have hq1 : (q == [58, 58]) = false := by simpa using hq
            have hq2 : (q != [58, 58]) = true := by simpa using hq
            have HNX : Hid (∀ j, j < k + 1 → ∀ x y, ¬ Hit l j x y) := fun j hj x y => by
              rcases Nat.lt_or_ge j k with h | h
              · exact HNO.out j h x y
              · obtain rfl : j = k := by omega
                exact HTWO.out hq x y
            go_wp2_with fail
            go_roundw
            case rel => exact ⟨k + 1, by omega, by go_num, hbw, d2, HNX.out⟩
            case measure => simp [intOf]; omega
        · have t1 : decide ((k : Int) + 2 ≤ (l.length : Int)) = false := by simp; omega
          obtain rfl : res = none := by rw [HR.out]; exact no_hit HN8.out (fun i x y hi => HNO.out i (by omega) x y)
          have HF := Lib.hid (HST.out wr _ hbw d2 hz1)
          go_wp2_with (refine wpList_store24o rfl _ _ rfl _ rfl _ _ d2 rfl hz1 hz3 ?_)
          refine bodyPost_ret (v := .tuple #[.agg (csA 0 z16), .int .i64 30]) ?_ rfl ⟨rfl, HF.out.1⟩
          rw [HZ.out]
          exact result24t rfl _ _ _ _ _ rfl rfl HF.out.2
#print axioms rparse6_c
end Go.Proofs.Ytoifolmcdkfniaa

namespace Go.Proofs.Ytoifolmcdkfniaa
open Go.ChangeShapes Go.WideShapes Go.ChangeAt Go.RowKit
set_option linter.unusedVariables false
set_option maxHeartbeats 4000000
set_option maxRecDepth 100000

theorem rparse_c (l : List UInt8) (hl : l.length ≤ 1048576) (w : World) : Calls Try.prog 47 #[.string ⟨l.toArray⟩] w (ParsePost (parseP l) w) := by
  obtain ⟨res, hres⟩ : ∃ r, r = parseP l := ⟨_, rfl⟩
  rw [← hres]
  have HR := Lib.hid hres
  have HA : Hid (∀ w1 c, Below (w.alloc (.cells (csA 0 z16) 31)).heap.size (w.alloc (.cells (csA 0 z16) 31)) w1 → c.size = 17 → rowAt w1 w.heap.size = some (csA 0 z16) ∧ Below w.heap.size w (w1.setRow w.heap.size c) ∧ rowAt (w1.setRow w.heap.size c) w.heap.size = some c) := Lib.hid (fun w1 c h hc =>
    have h1 : Below w.heap.size w w1 := ((Below.refl _ _).alloc (Nat.le_refl _) _).trans (h.mono (by simp))
    have h2 := rowAt_below (rowAt_new w (csA 0 z16) 31 rfl) h (by simp)
    ⟨h2, below_setRow h1 (Nat.le_refl _) _, rowAt_setRow h2 _ hc⟩)
  rw [csA_z] at HA
  have HHAS : Hid (∀ wx, Calls Try.prog 58 #[.string ⟨l.toArray⟩, .int .u8 58] wx fun e w' => e = .returned (.bool (decide (58 ∈ l))) ∧ w' = wx) := fun wx => rhas_c l 58 hl wx
  clear hres
  by_cases hm : 58 ∈ l
  · rw [decide_eq_true hm] at HHAS
    have hr : res = (match parse6P l with | some g => (6, unG g, 0) | none => (0, z16, 30)) := by rw [HR.out]; exact parseP_six l hm
    obtain ⟨cr, hcr⟩ : ∃ c, c = six (parse6P l) := ⟨_, rfl⟩
    obtain ⟨er, her⟩ : ∃ b, b = errOf (parse6P l).isSome := ⟨_, rfl⟩
    have hcz : cr.size = 17 := by
      rw [hcr]
      cases h : parse6P l with
      | none => rfl
      | some r => exact csA_size (by rw [unG_length, parse6P_length h])
    have hco1 : cr.all (·.oneCell') = true := by
      rw [hcr]; unfold six; split <;> exact csA_one _ _
    have HC : Hid (∀ W, Calls Try.prog 59 #[.string ⟨l.toArray⟩] W fun e w' => e = .returned (.tuple #[.agg cr, .int .i64 er]) ∧ Below W.heap.size W w') := Lib.hid (fun W => by rw [hcr, her]; exact rparse6_c l hl W)
    have HRES : Hid (csA res.1 res.2.1 = cr ∧ res.2.2 = er) := Lib.hid (by
      rw [hr, hcr, her]
      cases parse6P l with
      | none => exact ⟨rfl, rfl⟩
      | some r => exact ⟨rfl, rfl⟩)
    clear HR hm hr hcr her
    go_enter Try.func47, Try.ntmps47
    go_wp2_with (first
      | (go_at_call 58; refine (HHAS.out _).mono ?_; rintro e w44 ⟨rfl, hw44⟩; have hw44 := hw44.symm; subst hw44)
      | (go_at_call 59; refine (HC.out _).mono ?_; rintro e w2 ⟨rfl, hb2⟩; obtain ⟨d1, k1, k2⟩ := HA.out w2 cr hb2 hcz; have K1 := Lib.hid k1; have K2 := Lib.hid k2; clear k1 k2 hb2)
      | (refine wpList_store24o rfl _ _ rfl _ rfl _ _ d1 rfl hcz hco1 ?_))
    refine bodyPost_ret (v := .tuple #[.agg cr, .int .i64 er]) ?_ rfl ⟨by rw [HRES.out.1, HRES.out.2], K1.out⟩
    exact result24t rfl _ _ _ _ _ rfl rfl K2.out
  · rw [decide_eq_false hm] at HHAS
    have hr : res = (match parse4P l with | some r => (4, fourB r, 0) | none => (0, z16, 30)) := by rw [HR.out]; exact parseP_four l hm
    obtain ⟨cr, hcr⟩ : ∃ c, c = four4 (parse4P l) := ⟨_, rfl⟩
    obtain ⟨er, her⟩ : ∃ b, b = errOf (parse4P l).isSome := ⟨_, rfl⟩
    have hcz : cr.size = 17 := by
      rw [hcr]
      cases h : parse4P l with
      | none => rfl
      | some r => exact csA_size (fourB_length r (by rw [parse4P_length h]; omega))
    have hco1 : cr.all (·.oneCell') = true := by
      rw [hcr]; unfold four4; split <;> exact csA_one _ _
    have HC : Hid (∀ W, Calls Try.prog 60 #[.string ⟨l.toArray⟩] W fun e w' => e = .returned (.tuple #[.agg cr, .int .i64 er]) ∧ Below W.heap.size W w') := Lib.hid (fun W => by rw [hcr, her]; exact rparse4_c l hl W)
    have HRES : Hid (csA res.1 res.2.1 = cr ∧ res.2.2 = er) := Lib.hid (by
      rw [hr, hcr, her]
      cases parse4P l with
      | none => exact ⟨rfl, rfl⟩
      | some r => exact ⟨rfl, rfl⟩)
    clear HR hm hr hcr her
    go_enter Try.func47, Try.ntmps47
    go_wp2_with (first
      | (go_at_call 58; refine (HHAS.out _).mono ?_; rintro e w44 ⟨rfl, hw44⟩; have hw44 := hw44.symm; subst hw44)
      | (go_at_call 60; refine (HC.out _).mono ?_; rintro e w2 ⟨rfl, hb2⟩; obtain ⟨d1, k1, k2⟩ := HA.out w2 cr hb2 hcz; have K1 := Lib.hid k1; have K2 := Lib.hid k2; clear k1 k2 hb2)
      | (refine wpList_store24o rfl _ _ rfl _ rfl _ _ d1 rfl hcz hco1 ?_))
    refine bodyPost_ret (v := .tuple #[.agg cr, .int .i64 er]) ?_ rfl ⟨by rw [HRES.out.1, HRES.out.2], K1.out⟩
    exact result24t rfl _ _ _ _ _ rfl rfl K2.out
#print axioms rparse_c
end Go.Proofs.Ytoifolmcdkfniaa
