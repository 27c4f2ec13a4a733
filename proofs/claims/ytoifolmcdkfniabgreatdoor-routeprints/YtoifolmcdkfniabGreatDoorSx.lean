/-
  Numbers, lines and texts of routes, plain; parseNumber.
-/
import Derived.Test.YtoifolmcdkfniabGreatDoorParse
import Derived.Test.YtoifolmcdkfniabGreatDoorPl
namespace Go.Proofs.YtoifolmcdkfniabGreatDoor
open Go.ChangeShapes Go.WideShapes Go.ChangeAt Go.RowKit
set_option linter.unusedVariables false
set_option linter.unusedSimpArgs false
set_option maxRecDepth 100000

theorem ixs (l : List UInt8) (i : Nat) (x : UInt8) (z : Int) (hz : z = i) (h : l[i]? = some x) (wx : World) : (Instr.index 9 (.string ⟨l.toArray⟩) (.int .i64 z)).run Tryz.prog wx = .ok (.int .u8 (x.toNat : Int)) wx := by
  subst hz
  have hi : i < l.length := (List.getElem?_eq_some_iff.1 h).1
  rw [run_index_string wx 9 _ .i64 _ Tryz.underlying9]
  have hs : (ByteArray.mk l.toArray).size = l.length := by simp [ByteArray.size]
  rw [dif_pos ⟨by omega, by rw [hs]; omega⟩]
  have e : l[i] = x := (List.getElem?_eq_some_iff.1 h).2
  subst e
  rfl
theorem bsz (l : List UInt8) : (ByteArray.mk l.toArray).size = l.length := by simp [ByteArray.size]
/-- One to three digits without a nought in front. -/
def numR (l : List UInt8) : Option Nat := if 1 < l.length ∧ l.head? = some 48 then none else numOf 10 3 l
def optV (r : Option Nat) : Int := match r with | some n => (n : Int) | none => 0
theorem numR_bad {l : List UInt8} (h : l.length = 0 ∨ 3 < l.length) : numR l = none := by
  unfold numR; split
  · rfl
  · rw [numOf, if_pos h]
/-- A line without its end. -/
def lineP (l : List UInt8) : Option Rt :=
  match parseP (Lib.cut l [47]).1, numR (Lib.cut (Lib.cut l [47]).2.1 [32]).1, numR (Lib.cut (Lib.cut l [47]).2.1 [32]).2.1 with
  | (v, b, e), some n, some k => if e = 0 then some ⟨v, b, n, k⟩ else none
  | _, _, _ => none
def routesP (l : List UInt8) : Option (List Rt) := if (pieces 10 l).getLast? = some [] then alls lineP (pieces 10 l).dropLast else none
def parseR (l : List UInt8) : List Rt × Int := match routesP l with
  | none => ([], 2)
  | some L => if mayL L = true then (L, 0) else ([], 1)
theorem cut_none (c : UInt8) : ∀ l : List UInt8, (Lib.cut l [c]).2.2 = false → (Lib.cut l [c]).1 = l
  | [], _ => by rw [cut_nil]
  | x :: l, h => by
    by_cases hx : x = c
    · subst hx; rw [cut_hit] at h; simp at h
    · rw [cut_miss c x l hx] at h ⊢
      simp only at h ⊢
      rw [cut_none c l h]
theorem routes_nil : routesP [] = some [] := rfl
theorem routes_cut {l : List UInt8} (h : l ≠ []) : routesP l = if (Lib.cut l [10]).2.2 = true then (match lineP (Lib.cut l [10]).1 with | some x => (routesP (Lib.cut l [10]).2.1).map (x :: ·) | none => none) else none := by
  cases hc : (Lib.cut l [10]).2.2 with
  | false =>
    have hp := pieces_cut 10 l
    rw [hc, cut_none 10 l hc] at hp
    simp only [Bool.false_eq_true, if_false] at hp
    unfold routesP
    rw [hp]
    simp [h]
  | true =>
    have hp := pieces_cut 10 l
    rw [hc] at hp
    simp only [if_true] at hp
    have hne := pieces_ne 10 (Lib.cut l [10]).2.1
    unfold routesP
    rw [hp]
    obtain ⟨a, r, hr⟩ : ∃ a r, pieces 10 (Lib.cut l [10]).2.1 = a :: r := by
      cases hq : pieces 10 (Lib.cut l [10]).2.1 with
      | nil => exact absurd hq hne
      | cons a r => exact ⟨a, r, rfl⟩
    rw [hr]
    simp only [List.getLast?_cons_cons, List.dropLast_cons_cons, alls, if_true]
    split
    · cases lineP (Lib.cut l [10]).1 with
      | none => rfl
      | some x =>
        cases alls lineP (a :: r).dropLast with
        | none => rfl
        | some y => rfl
    · cases lineP (Lib.cut l [10]).1 <;> rfl
theorem cut_lt (c : UInt8) : ∀ l : List UInt8, (Lib.cut l [c]).2.2 = true → (Lib.cut l [c]).2.1.length < l.length
  | [], h => by rw [cut_nil] at h; simp at h
  | x :: l, h => by
    by_cases hx : x = c
    · subst hx; rw [cut_hit]; simp
    · rw [cut_miss c x l hx] at h ⊢
      simp only at h ⊢
      have := cut_lt c l h
      simp; omega
/-! What is read is in range. -/
theorem digs_ltR (base : Nat) (hb : 0 < base) : ∀ (l : List UInt8) (n m : Nat), digs base n l = some m → m < (n + 1) * base ^ l.length
  | [], n, m, h => by simp [digs] at h; subst h; simp
  | c :: l, n, m, h => by
    unfold digs at h
    split at h
    · rename_i hd
      have := digs_ltR base hb l _ _ h
      have h2 : (n * base + dig c + 1) * base ^ l.length ≤ ((n + 1) * base) * base ^ l.length := Nat.mul_le_mul_right _ (by rw [Nat.add_mul]; omega)
      rw [List.length_cons, Nat.pow_succ, Nat.mul_comm (base ^ l.length) base, ← Nat.mul_assoc]
      omega
    · simp at h
theorem numOf_ltR {base most : Nat} (hb : 0 < base) {l : List UInt8} {m : Nat} (h : numOf base most l = some m) : m < base ^ most := by
  unfold numOf at h
  split at h
  · simp at h
  · rename_i hl
    have := digs_ltR base hb l 0 m h
    have h2 : base ^ l.length ≤ base ^ most := Nat.pow_le_pow_right hb (by omega)
    omega
theorem numR_lt {l : List UInt8} {m : Nat} (h : numR l = some m) : m < 1000 := by
  unfold numR at h
  split at h
  · simp at h
  · exact numOf_ltR (base := 10) (most := 3) (by decide) h
theorem alls_mem {α β : Type} (f : α → Option β) : ∀ (l : List α) (r : List β), alls f l = some r → ∀ y ∈ r, ∃ x ∈ l, f x = some y
  | [], r, h, y, hy => by simp [alls] at h; subst h; simp at hy
  | x :: l, r, h, y, hy => by
    simp only [alls] at h
    split at h
    · rename_i z s h1 h2
      simp only [Option.some.injEq] at h
      subst h
      rcases List.mem_cons.1 hy with rfl | hy
      · exact ⟨x, by simp, h1⟩
      · obtain ⟨a, ha, hb⟩ := alls_mem f l s h2 y hy
        exact ⟨a, by simp [ha], hb⟩
    · simp at h
theorem unG_byt : ∀ (g : List Nat), (∀ n ∈ g, n < 65536) → Byt (unG g)
  | [], _ => by simp [unG, Byt]
  | a :: r, h => by
    intro y hy
    simp only [unG, List.mem_cons] at hy
    have ha := h a (by simp)
    rcases hy with rfl | rfl | hy
    · unfold hi; omega
    · unfold lo; omega
    · exact unG_byt r (fun n hn => h n (by simp [hn])) y hy
theorem grps_lt {l : List UInt8} {g : List Nat} (h : grps l = some g) : ∀ n ∈ g, n < 65536 := by
  unfold grps at h
  split at h
  · simp at h; subst h; simp
  · intro n hn
    obtain ⟨x, -, hx⟩ := alls_mem _ _ _ h n hn
    exact numOf_ltR (base := 16) (most := 4) (by decide) hx
theorem rep_byt (n : Nat) : Byt (List.replicate n 0) := fun y hy => by
  rw [List.mem_replicate] at hy; omega
theorem joinG_lt {x y : List Nat} (hx : ∀ n ∈ x, n < 65536) (hy : ∀ n ∈ y, n < 65536) : ∀ n ∈ joinG x y, n < 65536 := by
  intro n hn
  unfold joinG at hn
  simp only [List.mem_append, List.mem_replicate] at hn
  rcases hn with h | ⟨-, h⟩ | h
  · exact hx n h
  · omega
  · exact hy n h
theorem parse6_lt {l : List UInt8} {g : List Nat} (h : parse6P l = some g) : ∀ n ∈ g, n < 65536 := by
  unfold parse6P at h
  split at h
  · rename_i x y h1 h2
    have hx := grps_lt h1
    have hy := grps_lt h2
    split at h <;> split at h
    · simp only [Option.some.injEq] at h; subst h; exact joinG_lt hx hy
    · simp at h
    · simp only [Option.some.injEq] at h; subst h; exact joinG_lt hx hy
    · simp at h
  · simp at h
theorem parse4_lt {l : List UInt8} {r : List Nat} (h : parse4P l = some r) : ∀ n ∈ r, n ≤ 255 := by
  unfold parse4P at h
  split at h
  · rename_i s hs
    split at h
    · simp only [Option.some.injEq] at h
      subst h
      intro n hn
      obtain ⟨x, -, hx⟩ := alls_mem _ _ _ hs n hn
      unfold dec at hx
      split at hx
      · split at hx
        · simp only [Option.some.injEq] at hx; omega
        · simp at hx
      · simp at hx
    · simp at h
  · simp at h
theorem parse_ok (l : List UInt8) : (parseP l).2.1.length = 16 ∧ Byt (parseP l).2.1 := by
  unfold parseP
  split
  · split
    · rename_i g hg
      refine ⟨by rw [unG_length, parse6P_length hg], unG_byt g (parse6_lt hg)⟩
    · exact ⟨by simp, rep_byt 16⟩
  · split
    · rename_i r hr
      refine ⟨by simp [parse4P_length hr], fun y hy => ?_⟩
      rw [List.mem_append] at hy
      rcases hy with hy | hy
      · obtain ⟨n, hn, rfl⟩ := List.mem_map.1 hy
        have := parse4_lt hr n hn
        exact ⟨Int.natCast_nonneg n, by show (n : Int) ≤ 255; omega⟩
      · exact rep_byt 12 y hy
    · exact ⟨by simp, rep_byt 16⟩
theorem line_ok {l : List UInt8} {x : Rt} (h : lineP l = some x) : Okr x := by
  unfold lineP at h
  have := parse_ok (Lib.cut l [47]).1
  split at h
  · rename_i v b e n k h1 h2 h3
    split at h
    · simp only [Option.some.injEq] at h
      subst h
      rw [h1] at this
      exact this
    · simp at h
  · simp at h
theorem routes_ok {l : List UInt8} {L : List Rt} (h : routesP l = some L) : ∀ x ∈ L, Okr x := by
  unfold routesP at h
  split at h
  · intro x hx
    obtain ⟨a, -, ha⟩ := alls_mem _ _ _ h x hx
    exact line_ok ha
  · simp at h
theorem may_take {L : List Rt} : mayL (L.take 33) = mayL L := by
  rcases Nat.lt_or_ge 32 L.length with h | h
  · have h1 : mayL L = false := by unfold mayL; simp; intro h2; omega
    have h2 : mayL (L.take 33) = false := by unfold mayL; simp; intro h3; omega
    rw [h1, h2]
  · rw [List.take_of_length_le (by omega)]
set_option maxHeartbeats 4000000 in
theorem number_r (l : List UInt8) (hl : l.length ≤ 140737488355328) (w : World) : Calls Tryz.prog 60 #[.string ⟨l.toArray⟩] w fun E w' => E = .returned (.tuple #[.int .i64 (optV (numR l)), .bool (numR l).isSome]) ∧ w' = w := by
  obtain ⟨r, hr⟩ : ∃ r, r = numR l := ⟨_, rfl⟩
  rw [← hr]
  have HR := Lib.hid hr
  have hsz := bsz l
  clear hr
  by_cases h0 : l.length = 0
  · obtain rfl : r = none := by rw [HR.out]; exact numR_bad (.inl h0)
    rw [h0] at hsz
    go_enter Tryz.func60, Tryz.ntmps60
    go_wp2_with fail
    go_ret2
    exact ⟨rfl, rfl⟩
  have h0' : ¬ ((l.length : Int) < 1) := by omega
  by_cases h3 : 3 < l.length
  · obtain rfl : r = none := by rw [HR.out]; exact numR_bad (.inr h3)
    have h3' : (l.length : Int) > 3 := by omega
    go_enter Tryz.func60, Tryz.ntmps60
    go_wp2_with fail
    go_ret2
    exact ⟨rfl, rfl⟩
  have h3' : ¬ ((l.length : Int) > 3) := by omega
  obtain ⟨x0, hx0⟩ : ∃ x, l[0]? = some x := ⟨l[0], List.getElem?_eq_getElem (by omega)⟩
  have hix0 := ixs l 0 x0 0 rfl hx0
  have hhd : l.head? = some x0 := by rw [List.head?_eq_getElem?]; exact hx0
  clear hx0
  by_cases hz : 1 < l.length ∧ l.head? = some 48
  · obtain rfl : r = none := by rw [HR.out, numR, if_pos hz]
    have hx : x0 = 48 := by rw [hhd] at hz; simpa using hz.2
    subst hx
    have h1' : (l.length : Int) > 1 := by omega
    clear hz hhd
    go_enter Tryz.func60, Tryz.ntmps60
    go_wp2_with fail
    go_ret2
    exact ⟨rfl, rfl⟩
  · have HD : Hid (r = digs 10 0 l) := by show _ = _; rw [HR.out, numR, if_neg hz, numOf, if_neg (by omega)]
    have HW : Hid (Calls Tryz.prog 60 #[.string ⟨l.toArray⟩] w fun E w' => E = .returned (.tuple #[.int .i64 (optV r), .bool r.isSome]) ∧ w' = w) := by
      clear HR
      by_cases h1 : 1 < l.length
      · have hxne : ¬ ((x0.toNat : Int) = 48) := by
          intro e
          apply hz
          refine ⟨h1, ?_⟩
          rw [hhd]
          congr 1
          apply UInt8.toNat_inj.1
          show x0.toNat = 48
          omega
        have h1' : (l.length : Int) > 1 := by omega
        clear hz hhd
        go_enter Tryz.func60, Tryz.ntmps60
        go_wp2_with fail
        clear hix0
        go_loopw [4, 26] (fun nv iv wr => ∃ k n : Nat, k ≤ l.length ∧ iv = .int .i64 (k : Int) ∧ nv = .int .i64 (n : Int) ∧ n < 10 ^ k ∧ digs 10 0 l = digs 10 n (l.drop k) ∧ wr = w) (fun _ iv _ => l.length - (intOf iv).toNat)
        case atStart => exact ⟨0, 0, by omega, rfl, rfl, by simp, by simp, rfl⟩
        case round =>
          obtain ⟨k, n, hk, rfl, rfl, hn, hd, hW⟩ := hrel
          subst hW
          have HDD : Hid (digs 10 0 l = digs 10 n (l.drop k)) := hd
          clear hd
          have h10 : 10 ^ k ≤ 1000 := by
            have : 10 ^ k ≤ 10 ^ 3 := Nat.pow_le_pow_right (by decide) (by omega)
            omega
          by_cases hlt : k < l.length
          · obtain ⟨x, hx⟩ : ∃ x, l[k]? = some x := ⟨l[k], List.getElem?_eq_getElem hlt⟩
            have hix := ixs l k x (k : Int) rfl hx
            have hdrop : l.drop k = x :: l.drop (k + 1) := by
              rw [List.drop_eq_getElem_cons hlt, (List.getElem?_eq_some_iff.1 hx).2]
            have HS : Hid (digs 10 0 l = if dig x < 10 then digs 10 (n * 10 + dig x) (l.drop (k + 1)) else none) := by
              show _ = _
              rw [HDD.out, hdrop]; rfl
            have hpow : Hid (10 ^ (k + 1) = 10 ^ k * 10) := Nat.pow_succ ..
            have t1 : decide (k < l.length) = true := by simp; omega
            have t2 : (k : Int) < (l.length : Int) := by omega
            have hd10 := dig10 x
            have hd10v := dig10v x
            have hx256 : x.toNat < 256 := x.toNat_lt
            obtain ⟨d, hd⟩ : ∃ d, d = dig x := ⟨_, rfl⟩
            rw [← hd] at HS hd10 hd10v
            obtain ⟨y, hy⟩ : ∃ y, y = x.toNat := ⟨_, rfl⟩
            rw [← hy] at hix hd10 hd10v hx256
            have HD10 := Lib.hid hd10
            have HD10V := Lib.hid hd10v
            clear hx hdrop hd hy hd10 hd10v
            by_cases ha : (y : Int) < 48
            · obtain rfl : r = none := by rw [HD.out, HS.out, if_neg (fun h => by have := HD10.out.1 h; omega)]
              go_wp2_with fail
              go_ret2
              exact ⟨rfl, rfl⟩
            · by_cases hb : (y : Int) > 57
              · obtain rfl : r = none := by rw [HD.out, HS.out, if_neg (fun h => by have := HD10.out.1 h; omega)]
                go_wp2_with fail
                go_ret2
                exact ⟨rfl, rfl⟩
              · have hdl : d < 10 := HD10.out.2 (by omega)
                have hdv := HD10V.out hdl
                have HS2 : Hid (digs 10 0 l = digs 10 (n * 10 + d) (l.drop (k + 1))) := by show _ = _; rw [HS.out, if_pos hdl]
                have hsub : ((y : Int) - 48) % 256 = (d : Int) := by omega
                go_wp2_with fail
                go_roundw
                case rel => exact ⟨k + 1, n * 10 + d, by omega, by go_num, by go_num, by have := hpow.out; omega, HS2.out, by trivial⟩
                case measure => simp [intOf]; omega
          · have t1 : decide (k < l.length) = false := by simp; omega
            have t2 : ¬ ((k : Int) < (l.length : Int)) := by omega
            obtain rfl : r = some n := by rw [HD.out, HDD.out, List.drop_eq_nil_of_le (by omega)]; rfl
            go_wp2_with fail
            go_ret2
            exact ⟨rfl, rfl⟩
      · have h1' : ¬ ((l.length : Int) > 1) := by omega
        clear hz hhd
        go_enter Tryz.func60, Tryz.ntmps60
        go_wp2_with fail
        clear hix0
        go_loopw [4, 26] (fun nv iv wr => ∃ k n : Nat, k ≤ l.length ∧ iv = .int .i64 (k : Int) ∧ nv = .int .i64 (n : Int) ∧ n < 10 ^ k ∧ digs 10 0 l = digs 10 n (l.drop k) ∧ wr = w) (fun _ iv _ => l.length - (intOf iv).toNat)
        case atStart => exact ⟨0, 0, by omega, rfl, rfl, by simp, by simp, rfl⟩
        case round =>
          obtain ⟨k, n, hk, rfl, rfl, hn, hd, hW⟩ := hrel
          subst hW
          have HDD : Hid (digs 10 0 l = digs 10 n (l.drop k)) := hd
          clear hd
          have h10 : 10 ^ k ≤ 1000 := by
            have : 10 ^ k ≤ 10 ^ 3 := Nat.pow_le_pow_right (by decide) (by omega)
            omega
          by_cases hlt : k < l.length
          · obtain ⟨x, hx⟩ : ∃ x, l[k]? = some x := ⟨l[k], List.getElem?_eq_getElem hlt⟩
            have hix := ixs l k x (k : Int) rfl hx
            have hdrop : l.drop k = x :: l.drop (k + 1) := by
              rw [List.drop_eq_getElem_cons hlt, (List.getElem?_eq_some_iff.1 hx).2]
            have HS : Hid (digs 10 0 l = if dig x < 10 then digs 10 (n * 10 + dig x) (l.drop (k + 1)) else none) := by
              show _ = _
              rw [HDD.out, hdrop]; rfl
            have hpow : Hid (10 ^ (k + 1) = 10 ^ k * 10) := Nat.pow_succ ..
            have t1 : decide (k < l.length) = true := by simp; omega
            have t2 : (k : Int) < (l.length : Int) := by omega
            have hd10 := dig10 x
            have hd10v := dig10v x
            have hx256 : x.toNat < 256 := x.toNat_lt
            obtain ⟨d, hd⟩ : ∃ d, d = dig x := ⟨_, rfl⟩
            rw [← hd] at HS hd10 hd10v
            obtain ⟨y, hy⟩ : ∃ y, y = x.toNat := ⟨_, rfl⟩
            rw [← hy] at hix hd10 hd10v hx256
            have HD10 := Lib.hid hd10
            have HD10V := Lib.hid hd10v
            clear hx hdrop hd hy hd10 hd10v
            by_cases ha : (y : Int) < 48
            · obtain rfl : r = none := by rw [HD.out, HS.out, if_neg (fun h => by have := HD10.out.1 h; omega)]
              go_wp2_with fail
              go_ret2
              exact ⟨rfl, rfl⟩
            · by_cases hb : (y : Int) > 57
              · obtain rfl : r = none := by rw [HD.out, HS.out, if_neg (fun h => by have := HD10.out.1 h; omega)]
                go_wp2_with fail
                go_ret2
                exact ⟨rfl, rfl⟩
              · have hdl : d < 10 := HD10.out.2 (by omega)
                have hdv := HD10V.out hdl
                have HS2 : Hid (digs 10 0 l = digs 10 (n * 10 + d) (l.drop (k + 1))) := by show _ = _; rw [HS.out, if_pos hdl]
                have hsub : ((y : Int) - 48) % 256 = (d : Int) := by omega
                go_wp2_with fail
                go_roundw
                case rel => exact ⟨k + 1, n * 10 + d, by omega, by go_num, by go_num, by have := hpow.out; omega, HS2.out, by trivial⟩
                case measure => simp [intOf]; omega
          · have t1 : decide (k < l.length) = false := by simp; omega
            have t2 : ¬ ((k : Int) < (l.length : Int)) := by omega
            obtain rfl : r = some n := by rw [HD.out, HDD.out, List.drop_eq_nil_of_le (by omega)]; rfl
            go_wp2_with fail
            go_ret2
            exact ⟨rfl, rfl⟩
    exact HW.out
end Go.Proofs.YtoifolmcdkfniabGreatDoor
