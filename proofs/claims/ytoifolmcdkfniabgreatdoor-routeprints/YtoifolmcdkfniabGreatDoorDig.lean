/-
  digit, group, number: the digits of a text.
-/
import Derived.Test.YtoifolmcdkfniabGreatDoorNum
import Derived.Test.YtoifolmcdkfniabGreatDoorRow
import Derived.Lib.ConvBytes
namespace Go.Proofs.YtoifolmcdkfniabGreatDoor
open Go.ChangeShapes Go.WideShapes Go.ChangeAt Go.RowKit
set_option linter.unusedVariables false
set_option maxHeartbeats 4000000
set_option maxRecDepth 100000

def digV (c : UInt8) : Int := if dig c < 16 then (dig c : Int) else 0
theorem digit_c (c : UInt8) (w : World) : Calls Tryz.prog 109 #[.int .u8 (c.toNat : Int)] w fun e w' => e = .returned (.tuple #[.int .u8 (digV c), .bool (decide (dig c < 16))]) ∧ w' = w := by
  have hc : c.toNat < 256 := c.toNat_lt
  obtain ⟨n, hn⟩ : ∃ n : Nat, n = c.toNat := ⟨_, rfl⟩
  have hd : dig c = if 48 ≤ n ∧ n ≤ 57 then n - 48 else if 97 ≤ n ∧ n ≤ 102 then n - 87 else if 65 ≤ n ∧ n ≤ 70 then n - 55 else 99 := by rw [hn]; rfl
  obtain ⟨dv, hdv⟩ : ∃ d : Int, d = digV c := ⟨_, rfl⟩
  obtain ⟨db, hdb⟩ : ∃ d : Bool, d = decide (dig c < 16) := ⟨_, rfl⟩
  rw [← hn, ← hdv, ← hdb]
  rw [← hn] at hc
  have H : Hid (dv = (if dig c < 16 then (dig c : Int) else 0) ∧ db = decide (dig c < 16)) := Lib.hid ⟨hdv, hdb⟩
  have HD := Lib.hid hd
  clear hdv hdb hn hd
  by_cases c1 : 48 ≤ n ∧ n ≤ 57
  · have e1 : dig c = n - 48 := by rw [HD.out, if_pos c1]
    have H2 : dv = (n : Int) - 48 ∧ db = true := by
      have := H.out; rw [e1, if_pos (by omega)] at this
      refine ⟨by omega, ?_⟩
      rw [this.2]; simp; omega
    obtain ⟨rfl, rfl⟩ := H2
    have c1a : (48 : Int) ≤ n := by omega
    have c1b : (n : Int) ≤ 57 := by omega
    go_enter Tryz.func109, Tryz.ntmps109
    go_wp2_with fail
    go_ret2
    exact ⟨rfl, rfl⟩
  · by_cases c2 : 97 ≤ n ∧ n ≤ 102
    · have e1 : dig c = n - 87 := by rw [HD.out, if_neg c1, if_pos c2]
      have H2 : dv = (n : Int) - 87 ∧ db = true := by
        have := H.out; rw [e1, if_pos (by omega)] at this
        refine ⟨by omega, ?_⟩
        rw [this.2]; simp; omega
      obtain ⟨rfl, rfl⟩ := H2
      have c1a : (97 : Int) ≤ n := by omega
      have c1b : (n : Int) ≤ 102 := by omega
      have c1c : decide ((n : Int) ≤ 57) = false := by simp; omega
      go_enter Tryz.func109, Tryz.ntmps109
      go_wp2_with fail
      go_ret2
      refine ⟨?_, rfl⟩
      congr 4
      go_num
    · by_cases c3 : 65 ≤ n ∧ n ≤ 70
      · have e1 : dig c = n - 55 := by rw [HD.out, if_neg c1, if_neg c2, if_pos c3]
        have H2 : dv = (n : Int) - 55 ∧ db = true := by
          have := H.out; rw [e1, if_pos (by omega)] at this
          refine ⟨by omega, ?_⟩
          rw [this.2]; simp; omega
        obtain ⟨rfl, rfl⟩ := H2
        have c1a : (65 : Int) ≤ n := by omega
        have c1b : (n : Int) ≤ 70 := by omega
        have c1c : decide ((n : Int) ≤ 57) = false := by simp; omega
        have c1d : decide ((97 : Int) ≤ n) = false := by simp; omega
        go_enter Tryz.func109, Tryz.ntmps109
        go_wp2_with fail
        go_ret2
        refine ⟨?_, rfl⟩
        congr 4
        go_num
      · have e1 : dig c = 99 := by rw [HD.out, if_neg c1, if_neg c2, if_neg c3]
        have H2 : dv = 0 ∧ db = false := by
          have := H.out; rw [e1, if_neg (by omega)] at this
          exact ⟨this.1, by rw [this.2]; rfl⟩
        obtain ⟨rfl, rfl⟩ := H2
        go_enter Tryz.func109, Tryz.ntmps109
        go_wp2_with fail
        all_goals first | (go_ret2; exact ⟨rfl, rfl⟩) | (exfalso; omega)

/-! The bytes of a text, converted. -/
theorem conv (s : ByteArray) (w : World) : (convert 9 32 (.string s)).run Tryz.prog w = .ok (.slice (some ⟨w.heap.size, 0, none⟩) s.size (grownCap w s.size 0 5)) (Lib.bytesWorld w 5 s) := Lib.run_convert_string_bytes w 9 32 5 s Tryz.underlying9 Tryz.underlying32 Tryz.underlying5
theorem conv_below (s : ByteArray) (w : World) : Below w.heap.size w (Lib.bytesWorld w 5 s) := by
  refine ⟨rfl, rfl, rfl, by rw [Lib.bytesWorld_size]; omega, fun k hk => Lib.bytesWorld_at_old w 5 s k hk⟩
theorem digs_lt (base : Nat) (hb : 0 < base) : ∀ (l : List UInt8) (n m : Nat), digs base n l = some m → m < (n + 1) * base ^ l.length
  | [], n, m, h => by simp [digs] at h; simp; omega
  | c :: l, n, m, h => by
    simp only [digs] at h
    split at h
    · rename_i hc
      have := digs_lt base hb l _ m h
      simp only [List.length_cons, Nat.pow_succ]
      have h2 : (n * base + dig c + 1) * base ^ l.length ≤ (n + 1) * (base ^ l.length * base) := by
        have : n * base + dig c + 1 ≤ (n + 1) * base := by rw [Nat.add_mul]; omega
        calc (n * base + dig c + 1) * base ^ l.length ≤ ((n + 1) * base) * base ^ l.length := Nat.mul_le_mul_right _ this
          _ = (n + 1) * (base ^ l.length * base) := by rw [Nat.mul_assoc, Nat.mul_comm base]
      omega
    · simp at h
theorem digs_snoc (base : Nat) : ∀ (l : List UInt8) (n : Nat) (c : UInt8), digs base n (l ++ [c]) = (digs base n l).bind fun m => if dig c < base then some (m * base + dig c) else none
  | [], n, c => by simp [digs]
  | x :: l, n, c => by
    simp only [List.cons_append, digs]
    split
    · exact digs_snoc base l _ c
    · rfl
theorem digs_none (base : Nat) : ∀ (l r : List UInt8) (n : Nat), digs base n l = none → digs base n (l ++ r) = none
  | [], r, n, h => by simp [digs] at h
  | x :: l, r, n, h => by
    simp only [List.cons_append, digs] at h ⊢
    split
    · rename_i hx; rw [if_pos hx] at h; exact digs_none base l r _ h
    · rfl
theorem or_nib (m d : Nat) (h1 : m < 4096) (h2 : d < 16) : bits .or .u16 ((m : Int) * 16) (d : Int) = ((m * 16 + d : Nat) : Int) := by
  have h := u16_or_nat (m * 16) d (by omega) (by omega)
  have e := Nat.two_pow_add_eq_or_of_lt (i := 4) (b := d) (by omega) m
  rw [show m * 16 = 2 ^ 4 * m from by omega] at h ⊢
  rw [e]
  rw [← h]
  congr 1
  omega
/-- group: what it answers. -/
def grpV (s : ByteArray) : Int := match numOf 16 4 s.data.toList with | some n => (n : Int) | none => 0
theorem group_c (s : ByteArray) (hs : s.size ≤ 140737488355328) (w : World) : Calls Tryz.prog 108 #[.string s] w fun e w' => e = .returned (.tuple #[.int .u16 (grpV s), .bool (numOf 16 4 s.data.toList).isSome]) ∧ Below w.heap.size w w' := by
  obtain ⟨l, hl⟩ : ∃ l, l = s.data.toList := ⟨_, rfl⟩
  have hlen : s.size = l.length := by rw [hl]; exact Lib.size_eq s
  obtain ⟨rv, hrv⟩ : ∃ r : Int, r = grpV s := ⟨_, rfl⟩
  obtain ⟨rb, hrb⟩ : ∃ r : Bool, r = (numOf 16 4 s.data.toList).isSome := ⟨_, rfl⟩
  rw [← hrv, ← hrb]
  have HR : Hid (rv = (match numOf 16 4 l with | some n => (n : Int) | none => 0) ∧ rb = (numOf 16 4 l).isSome) := Lib.hid ⟨by rw [hrv, grpV, hl], by rw [hrb, hl]⟩
  clear hrv hrb
  by_cases hbad : l.length = 0 ∨ 4 < l.length
  · have H2 : rv = 0 ∧ rb = false := by
      have := HR.out
      rw [show numOf 16 4 l = none from by rw [numOf, if_pos hbad]] at this
      exact ⟨this.1, this.2⟩
    obtain ⟨rfl, rfl⟩ := H2
    clear HR hl
    by_cases h0 : s.size = 0
    · have h1 : decide ((s.size : Int) < 1) = true := by simp; omega
      go_enter Tryz.func108, Tryz.ntmps108
      go_wp2_with fail
      go_ret2
      exact ⟨rfl, Below.refl _ _⟩
    · have h1 : decide ((s.size : Int) < 1) = false := by simp; omega
      have h2 : decide (4 < (s.size : Int)) = true := by simp; omega
      go_enter Tryz.func108, Tryz.ntmps108
      go_wp2_with fail
      go_ret2
      exact ⟨rfl, Below.refl _ _⟩
  · have h1 : 1 ≤ s.size := by omega
    have h2 : s.size ≤ 4 := by omega
    have hnum : numOf 16 4 l = digs 16 0 l := by rw [numOf, if_neg hbad]
    rw [hnum] at HR
    have hcv := conv s
    obtain ⟨c0, hc0⟩ : ∃ c, c = grownCap w s.size 0 5 := ⟨_, rfl⟩
    have HB : Hid (Below w.heap.size w (Lib.bytesWorld w 5 s)) := Lib.hid (conv_below s w)
    have HCELL : Hid (∀ j, j < s.size → (Lib.bytesWorld w 5 s).cell? ⟨w.heap.size, j, none⟩ = some (.int .u8 ((l.getD j 0).toNat : Int))) := Lib.hid (fun j hj => by rw [hl]; exact Lib.bytesWorld_cell w 5 s j hj)
    have h3 : decide ((s.size : Int) < 1) = false := by simp; omega
    have h4 : decide (4 < (s.size : Int)) = false := by simp; omega
    have HLEN := Lib.hid hlen
    clear hl hlen hnum hbad hc0
    go_enter Tryz.func108, Tryz.ntmps108
    go_wp2_with fail
    generalize Lib.bytesWorld w 5 s = W at *
    go_loopw [20, 4] (fun i g wr => ∃ k m : Nat, k ≤ s.size ∧ i = .int .i64 (k : Int) ∧ g = .int .u16 (m : Int) ∧ digs 16 0 (l.take k) = some m ∧ wr = W) (fun i _ _ => s.size - (intOf i).toNat)
    case atStart => exact ⟨0, 0, by omega, rfl, rfl, by simp [digs], rfl⟩
    case round =>
      obtain ⟨k, m, hk, rfl, rfl, hm, rfl⟩ := hrel
      by_cases hlt : k < s.size
      · have cx := HCELL.out k hlt
        have hkl : k < l.length := by rw [← HLEN.out]; exact hlt
        obtain ⟨c, hc⟩ : ∃ c, l.getD k 0 = c := ⟨_, rfl⟩
        rw [hc] at cx
        have htk : l.take (k + 1) = l.take k ++ [c] := by
          rw [List.take_succ_eq_append_getElem hkl]
          congr 2
          rw [← hc, List.getD_eq_getElem?_getD, List.getElem?_eq_getElem hkl]; rfl
        have hcn : (c.toNat : Int) ≤ 255 := by have := c.toNat_lt; omega
        have hm4 : m < 4096 := by
          have := digs_lt 16 (by decide) _ _ _ hm
          have h5 : (l.take k).length ≤ 3 := by simp; omega
          have h6 : 16 ^ (l.take k).length ≤ 16 ^ 3 := Nat.pow_le_pow_right (by decide) h5
          omega
        have hd : Hid (digs 16 0 (l.take (k + 1)) = if dig c < 16 then some (m * 16 + dig c) else none) := Lib.hid (by rw [htk, digs_snoc, hm]; rfl)
        have HNONE : Hid (dig c < 16 ∨ digs 16 0 l = none) := Lib.hid (by
          by_cases h : dig c < 16
          · exact .inl h
          · right
            have h1 : digs 16 0 (l.take (k + 1)) = none := by rw [hd.out, if_neg h]
            rw [← List.take_append_drop (k + 1) l]
            exact digs_none _ _ _ _ h1)
        clear htk hm hc hkl
        have b1 : decide ((k : Int) < (s.size : Int)) = true := by simp; omega
        have b2 : 0 ≤ (k : Int) := by omega
        have b3 : (k : Int) < (s.size : Int) := by omega
        have b4 : ((k : Int)).toNat = k := by omega
        by_cases h16 : dig c < 16
        · have e1 : digV c = (dig c : Int) := by rw [digV, if_pos h16]
          have HC : Hid (∀ W, Calls Tryz.prog 109 #[.int .u8 (c.toNat : Int)] W fun e w' => e = .returned (.tuple #[.int .u8 (dig c : Int), .bool true]) ∧ w' = W) := Lib.hid (fun W => by
            have := digit_c c W
            rwa [e1, show decide (dig c < 16) = true from by simpa using h16] at this)
          obtain ⟨d, hdd⟩ : ∃ d, d = dig c := ⟨_, rfl⟩
          rw [← hdd] at HC h16 hd
          clear HNONE HR hdd e1
          go_wp2_with (go_at_call 109; refine (HC.out _).mono ?_; rintro e w44 ⟨rfl, hw44⟩; have hw44 := hw44.symm; subst hw44)
          go_roundw
          case rel =>
            refine ⟨k + 1, m * 16 + d, by omega, by go_num, ?_, ?_, trivial⟩
            · rw [or_nib m d hm4 h16]
            · rw [hd.out, if_pos h16]
          case measure => simp [intOf]; omega
        · have e1 : digV c = 0 := by rw [digV, if_neg h16]
          have HC : Hid (∀ W, Calls Tryz.prog 109 #[.int .u8 (c.toNat : Int)] W fun e w' => e = .returned (.tuple #[.int .u8 0, .bool false]) ∧ w' = W) := Lib.hid (fun W => by
            have := digit_c c W
            rwa [e1, show decide (dig c < 16) = false from by simpa using h16] at this)
          have H2 : rv = 0 ∧ rb = false := by
            have h5 := HNONE.out.resolve_left h16
            have := HR.out
            rw [h5] at this
            exact ⟨this.1, this.2⟩
          obtain ⟨rfl, rfl⟩ := H2
          clear HNONE HR e1 hd h16
          go_wp2_with (go_at_call 109; refine (HC.out _).mono ?_; rintro e w44 ⟨rfl, hw44⟩; have hw44 := hw44.symm; subst hw44)
          go_ret2
          exact ⟨rfl, HB.out⟩
      · obtain rfl : k = s.size := by omega
        have H2 : rv = (m : Int) ∧ rb = true := by
          rw [List.take_of_length_le (by rw [← HLEN.out]; exact Nat.le_refl _)] at hm
          have := HR.out
          rw [hm] at this
          exact ⟨this.1, this.2⟩
        obtain ⟨rfl, rfl⟩ := H2
        clear hm HR
        go_wp2_with fail
        go_ret2
        exact ⟨rfl, HB.out⟩

/-! number: one of the four. -/
def decV (s : ByteArray) : Int := match dec s.data.toList with | some n => (n : Int) | none => 0
theorem digs_dec (l : List UInt8) (h : ¬ (l.length = 0 ∨ 3 < l.length)) : numOf 10 3 l = digs 10 0 l := by rw [numOf, if_neg h]
theorem dig10 (c : UInt8) : dig c < 10 ↔ 48 ≤ c.toNat ∧ c.toNat ≤ 57 := by
  unfold dig
  split
  · omega
  · split
    · omega
    · split <;> omega
theorem dig10v (c : UInt8) (h : dig c < 10) : dig c = c.toNat - 48 := by
  have := (dig10 c).1 h
  unfold dig
  rw [if_pos this]
def NumPost (rb : Bool) (rv : Int) (w : World) (e : Ending) (w' : World) : Prop := (∃ x : Int, e = .returned (.tuple #[.int .u8 x, .bool rb]) ∧ (rb = true → x = rv)) ∧ Below w.heap.size w w'
theorem number_c (s : ByteArray) (hs : s.size ≤ 140737488355328) (w : World) : Calls Tryz.prog 98 #[.string s] w (NumPost (dec s.data.toList).isSome (decV s) w) := by
  obtain ⟨l, hl⟩ : ∃ l, l = s.data.toList := ⟨_, rfl⟩
  have hlen : s.size = l.length := by rw [hl]; exact Lib.size_eq s
  have hst : s.toList = l := by rw [hl]; exact Lib.toList_data s
  obtain ⟨rv, hrv⟩ : ∃ r : Int, r = decV s := ⟨_, rfl⟩
  obtain ⟨rb, hrb⟩ : ∃ r : Bool, r = (dec s.data.toList).isSome := ⟨_, rfl⟩
  rw [← hrv, ← hrb]
  have HR : Hid (rv = (match dec l with | some n => (n : Int) | none => 0) ∧ rb = (dec l).isSome) := Lib.hid ⟨by rw [hrv, decV, hl], by rw [hrb, hl]⟩
  clear hrv hrb
  by_cases hbad : l.length = 0 ∨ 3 < l.length
  · have H2 : rb = false := by
      have := HR.out
      rw [show dec l = none from by rw [dec, show numOf 10 3 l = none from by rw [numOf, if_pos hbad]]] at this
      exact this.2
    subst H2
    clear HR hl hst
    by_cases h0 : s.size = 0
    · have h1 : decide ((s.size : Int) < 1) = true := by simp; omega
      go_enter Tryz.func98, Tryz.ntmps98
      go_wp2_with fail
      go_ret2
      exact ⟨⟨_, rfl, fun h => by simp at h⟩, Below.refl _ _⟩
    · have h1 : decide ((s.size : Int) < 1) = false := by simp; omega
      have h2 : decide (3 < (s.size : Int)) = true := by simp; omega
      go_enter Tryz.func98, Tryz.ntmps98
      go_wp2_with fail
      go_ret2
      exact ⟨⟨_, rfl, fun h => by simp at h⟩, Below.refl _ _⟩
  · have h1 : 1 ≤ s.size := by omega
    have h2 : s.size ≤ 3 := by omega
    have h3 : decide ((s.size : Int) < 1) = false := by simp; omega
    have h4 : decide (3 < (s.size : Int)) = false := by simp; omega
    have h5 : 0 < s.size := by omega
    have hhead : l.head? = some s[0] := by rw [hl, List.head?_eq_getElem?, List.getElem?_eq_getElem (by rw [← Lib.size_eq]; exact h5)]; rfl
    have hnum := digs_dec l hbad
    by_cases hz : 1 < l.length ∧ l.head? = some 48
    · have H2 : rb = false := by
        rw [HR.out.2, dec]
        split
        · rw [if_neg (fun h => h.2 hz)]; rfl
        · rfl
      subst H2
      have h6 : s[0] = 48 := by rw [hhead] at hz; simpa using hz.2
      have h7 : (s.toList == [48]) = false := by
        rw [hst]
        have : l ≠ [48] := fun e => by rw [e] at hz; simp at hz
        simpa using this
      clear HR hl hst hlen hbad hhead hnum hz
      go_enter Tryz.func98, Tryz.ntmps98
      go_wp2_with fail
      all_goals first | (go_ret2; exact ⟨⟨_, rfl, fun h => by simp at h⟩, Below.refl _ _⟩) | (simp_all; done)
    · have HDEC : Hid (dec l = match digs 10 0 l with | some n => if n ≤ 255 then some n else none | none => none) := Lib.hid (by
        rw [dec, hnum]
        split
        · rename_i n hn
          rw [hn]
          by_cases h : n ≤ 255
          · rw [if_pos ⟨h, hz⟩]; simp [h]
          · rw [if_neg (fun e => h e.1)]; simp [h]
        · rename_i hn; rw [hn])
      have hcv := conv s
      have HB : Hid (Below w.heap.size w (Lib.bytesWorld w 5 s)) := Lib.hid (conv_below s w)
      have HCELL : Hid (∀ j, j < s.size → (Lib.bytesWorld w 5 s).cell? ⟨w.heap.size, j, none⟩ = some (.int .u8 ((l.getD j 0).toNat : Int))) := Lib.hid (fun j hj => by rw [hl]; exact Lib.bytesWorld_cell w 5 s j hj)
      have HLEN := Lib.hid hlen
      by_cases h6 : s[0] = 48
      · have h7 : (s.toList == [48]) = true := by
          rw [hst]
          rw [hhead, h6] at hz
          have h8 : l.length = 1 := by simp at hz; omega
          match l, h8, hhead with
          | [x], _, hh => simp at hh; rw [hh, h6]; rfl
        clear hl hst hlen hbad hhead hnum hz
        go_enter Tryz.func98, Tryz.ntmps98
        go_wp2_with fail
        generalize Lib.bytesWorld w 5 s = W at *
        go_loopw [27, 4] (fun i g wr => ∃ k m : Nat, k ≤ s.size ∧ i = .int .i64 (k : Int) ∧ g = .int .i64 (m : Int) ∧ digs 10 0 (l.take k) = some m ∧ wr = W) (fun i _ _ => s.size - (intOf i).toNat)
        case atStart => exact ⟨0, 0, by omega, rfl, rfl, by simp [digs], rfl⟩
        case round =>
          obtain ⟨k, m, hk, rfl, rfl, hm, rfl⟩ := hrel
          by_cases hlt : k < s.size
          · have cx := HCELL.out k hlt
            have hkl : k < l.length := by rw [← HLEN.out]; exact hlt
            obtain ⟨c, hc⟩ : ∃ c, l.getD k 0 = c := ⟨_, rfl⟩
            rw [hc] at cx
            have htk : l.take (k + 1) = l.take k ++ [c] := by
              rw [List.take_succ_eq_append_getElem hkl]
              congr 2
              rw [← hc, List.getD_eq_getElem?_getD, List.getElem?_eq_getElem hkl]; rfl
            have hcn : (c.toNat : Int) ≤ 255 := by have := c.toNat_lt; omega
            have hm4 : m < 100 := by
              have := digs_lt 10 (by decide) _ _ _ hm
              have h5 : (l.take k).length ≤ 2 := by simp; omega
              have h6 : 10 ^ (l.take k).length ≤ 10 ^ 2 := Nat.pow_le_pow_right (by decide) h5
              omega
            have hd : Hid (digs 10 0 (l.take (k + 1)) = if dig c < 10 then some (m * 10 + dig c) else none) := Lib.hid (by rw [htk, digs_snoc, hm]; rfl)
            have HNONE : Hid (dig c < 10 ∨ digs 10 0 l = none) := Lib.hid (by
              by_cases h : dig c < 10
              · exact .inl h
              · right
                have h1 : digs 10 0 (l.take (k + 1)) = none := by rw [hd.out, if_neg h]
                rw [← List.take_append_drop (k + 1) l]
                exact digs_none _ _ _ _ h1)
            clear htk hm hc hkl
            have b1 : decide ((k : Int) < (s.size : Int)) = true := by simp; omega
            have b2 : 0 ≤ (k : Int) := by omega
            have b3 : (k : Int) < (s.size : Int) := by omega
            have b4 : ((k : Int)).toNat = k := by omega
            obtain ⟨z, hz⟩ : ∃ z : Nat, z = c.toNat := ⟨_, rfl⟩
            rw [← hz] at cx hcn
            have hzd : dig c < 10 ↔ 48 ≤ z ∧ z ≤ 57 := by rw [hz]; exact dig10 c
            have hzv : dig c < 10 → dig c = z - 48 := by rw [hz]; exact dig10v c
            by_cases h10 : 48 ≤ z ∧ z ≤ 57
            · have e1 := hzv (hzd.2 h10)
              rw [e1] at hd
              have hd2 : Hid (digs 10 0 (l.take (k + 1)) = some (m * 10 + (z - 48))) := Lib.hid (by rw [hd.out, if_pos (by omega)])
              obtain ⟨h11, h12⟩ := h10
              have i1 : decide ((z : Int) < 48) = false := by simp; omega
              have i2 : decide (57 < (z : Int)) = false := by simp; omega
              have i3 : (48 : Int) ≤ z := by omega
              have i4 : (z : Int) ≤ 57 := by omega
              clear HNONE HR hzd hzv hd e1
              go_wp2_with fail
              go_roundw
              case rel =>
                refine ⟨k + 1, m * 10 + (z - 48), by omega, by go_num, ?_, hd2.out, trivial⟩
                congr 1
                omega
              case measure => simp [intOf]; omega
            · have H2 : rb = false := by
                have h5 := HNONE.out.resolve_left (fun h => h10 (hzd.1 h))
                rw [HR.out.2, HDEC.out, h5]; rfl
              subst H2
              clear HNONE HR hzd hzv hd
              by_cases h11 : z < 48
              · have i1 : decide ((z : Int) < 48) = true := by simp; omega
                go_wp2_with fail
                go_ret2
                exact ⟨⟨_, rfl, fun h => by simp at h⟩, HB.out⟩
              · have i1 : decide ((z : Int) < 48) = false := by simp; omega
                have i2 : decide (57 < (z : Int)) = true := by simp; omega
                go_wp2_with fail
                go_ret2
                exact ⟨⟨_, rfl, fun h => by simp at h⟩, HB.out⟩
          · obtain rfl : k = s.size := by omega
            rw [List.take_of_length_le (by rw [← HLEN.out]; exact Nat.le_refl _)] at hm
            have hm5 : m < 1000 := by
              have := digs_lt 10 (by decide) _ _ _ hm
              have h5 : l.length ≤ 3 := by rw [← HLEN.out]; exact h2
              have h6 : 10 ^ l.length ≤ 10 ^ 3 := Nat.pow_le_pow_right (by decide) h5
              omega
            have HF : Hid (rb = decide ((m : Int) ≤ 255) ∧ (rb = true → rv = (m : Int))) := Lib.hid (by
              have h5 := HR.out
              rw [HDEC.out, hm] at h5
              by_cases h : m ≤ 255
              · simp only [if_pos h] at h5
                exact ⟨by rw [h5.2]; simp; omega, fun _ => h5.1⟩
              · simp only [if_neg h] at h5
                have : rb = false := h5.2
                exact ⟨by rw [this]; simp; omega, fun h => by simp [this] at h⟩)
            clear hm HR
            go_wp2_with fail
            go_ret2
            obtain ⟨rfl, h6⟩ := HF.out
            refine ⟨⟨_, rfl, fun h => ?_⟩, HB.out⟩
            rw [h6 h]
            have : (m : Int) ≤ 255 := by simpa using h
            go_num
      · have h7 : ((s[0].toNat : Int) == 48) = false := by
          have : s[0].toNat ≠ 48 := fun e => h6 (UInt8.toNat_inj.1 e)
          simp; omega
        clear hl hst hlen hbad hhead hnum hz
        go_enter Tryz.func98, Tryz.ntmps98
        go_wp2_with fail
        generalize Lib.bytesWorld w 5 s = W at *
        go_loopw [27, 4] (fun i g wr => ∃ k m : Nat, k ≤ s.size ∧ i = .int .i64 (k : Int) ∧ g = .int .i64 (m : Int) ∧ digs 10 0 (l.take k) = some m ∧ wr = W) (fun i _ _ => s.size - (intOf i).toNat)
        case atStart => exact ⟨0, 0, by omega, rfl, rfl, by simp [digs], rfl⟩
        case round =>
          obtain ⟨k, m, hk, rfl, rfl, hm, rfl⟩ := hrel
          by_cases hlt : k < s.size
          · have cx := HCELL.out k hlt
            have hkl : k < l.length := by rw [← HLEN.out]; exact hlt
            obtain ⟨c, hc⟩ : ∃ c, l.getD k 0 = c := ⟨_, rfl⟩
            rw [hc] at cx
            have htk : l.take (k + 1) = l.take k ++ [c] := by
              rw [List.take_succ_eq_append_getElem hkl]
              congr 2
              rw [← hc, List.getD_eq_getElem?_getD, List.getElem?_eq_getElem hkl]; rfl
            have hcn : (c.toNat : Int) ≤ 255 := by have := c.toNat_lt; omega
            have hm4 : m < 100 := by
              have := digs_lt 10 (by decide) _ _ _ hm
              have h5 : (l.take k).length ≤ 2 := by simp; omega
              have h6 : 10 ^ (l.take k).length ≤ 10 ^ 2 := Nat.pow_le_pow_right (by decide) h5
              omega
            have hd : Hid (digs 10 0 (l.take (k + 1)) = if dig c < 10 then some (m * 10 + dig c) else none) := Lib.hid (by rw [htk, digs_snoc, hm]; rfl)
            have HNONE : Hid (dig c < 10 ∨ digs 10 0 l = none) := Lib.hid (by
              by_cases h : dig c < 10
              · exact .inl h
              · right
                have h1 : digs 10 0 (l.take (k + 1)) = none := by rw [hd.out, if_neg h]
                rw [← List.take_append_drop (k + 1) l]
                exact digs_none _ _ _ _ h1)
            clear htk hm hc hkl
            have b1 : decide ((k : Int) < (s.size : Int)) = true := by simp; omega
            have b2 : 0 ≤ (k : Int) := by omega
            have b3 : (k : Int) < (s.size : Int) := by omega
            have b4 : ((k : Int)).toNat = k := by omega
            obtain ⟨z, hz⟩ : ∃ z : Nat, z = c.toNat := ⟨_, rfl⟩
            rw [← hz] at cx hcn
            have hzd : dig c < 10 ↔ 48 ≤ z ∧ z ≤ 57 := by rw [hz]; exact dig10 c
            have hzv : dig c < 10 → dig c = z - 48 := by rw [hz]; exact dig10v c
            by_cases h10 : 48 ≤ z ∧ z ≤ 57
            · have e1 := hzv (hzd.2 h10)
              rw [e1] at hd
              have hd2 : Hid (digs 10 0 (l.take (k + 1)) = some (m * 10 + (z - 48))) := Lib.hid (by rw [hd.out, if_pos (by omega)])
              obtain ⟨h11, h12⟩ := h10
              have i1 : decide ((z : Int) < 48) = false := by simp; omega
              have i2 : decide (57 < (z : Int)) = false := by simp; omega
              have i3 : (48 : Int) ≤ z := by omega
              have i4 : (z : Int) ≤ 57 := by omega
              clear HNONE HR hzd hzv hd e1
              go_wp2_with fail
              go_roundw
              case rel =>
                refine ⟨k + 1, m * 10 + (z - 48), by omega, by go_num, ?_, hd2.out, trivial⟩
                congr 1
                omega
              case measure => simp [intOf]; omega
            · have H2 : rb = false := by
                have h5 := HNONE.out.resolve_left (fun h => h10 (hzd.1 h))
                rw [HR.out.2, HDEC.out, h5]; rfl
              subst H2
              clear HNONE HR hzd hzv hd
              by_cases h11 : z < 48
              · have i1 : decide ((z : Int) < 48) = true := by simp; omega
                go_wp2_with fail
                go_ret2
                exact ⟨⟨_, rfl, fun h => by simp at h⟩, HB.out⟩
              · have i1 : decide ((z : Int) < 48) = false := by simp; omega
                have i2 : decide (57 < (z : Int)) = true := by simp; omega
                go_wp2_with fail
                go_ret2
                exact ⟨⟨_, rfl, fun h => by simp at h⟩, HB.out⟩
          · obtain rfl : k = s.size := by omega
            rw [List.take_of_length_le (by rw [← HLEN.out]; exact Nat.le_refl _)] at hm
            have hm5 : m < 1000 := by
              have := digs_lt 10 (by decide) _ _ _ hm
              have h5 : l.length ≤ 3 := by rw [← HLEN.out]; exact h2
              have h6 : 10 ^ l.length ≤ 10 ^ 3 := Nat.pow_le_pow_right (by decide) h5
              omega
            have HF : Hid (rb = decide ((m : Int) ≤ 255) ∧ (rb = true → rv = (m : Int))) := Lib.hid (by
              have h5 := HR.out
              rw [HDEC.out, hm] at h5
              by_cases h : m ≤ 255
              · simp only [if_pos h] at h5
                exact ⟨by rw [h5.2]; simp; omega, fun _ => h5.1⟩
              · simp only [if_neg h] at h5
                have : rb = false := h5.2
                exact ⟨by rw [this]; simp; omega, fun h => by simp [this] at h⟩)
            clear hm HR
            go_wp2_with fail
            go_ret2
            obtain ⟨rfl, h6⟩ := HF.out
            refine ⟨⟨_, rfl, fun h => ?_⟩, HB.out⟩
            rw [h6 h]
            have : (m : Int) ≤ 255 := by simpa using h
            go_num
end Go.Proofs.YtoifolmcdkfniabGreatDoor
