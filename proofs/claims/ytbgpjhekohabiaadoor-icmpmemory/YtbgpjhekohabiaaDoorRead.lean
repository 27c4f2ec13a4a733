/-
  The contracts of the Reader of wire.
-/
import Derived.Test.YtbgpjhekohabiaaDoorSlc
namespace Go.Proofs.YtbgpjhekohabiaaDoor
open Go.ChangeShapes Go.WideShapes Go.ChangeAt Go.RowKit Num
set_option linter.unusedVariables false
/-- The number that bytes make, the highest first. -/
def num (l : List Int) : Int := l.foldl (fun v x => 256 * v + x) 0
theorem num_snoc (l : List Int) (x : Int) : num (l ++ [x]) = 256 * num l + x := by simp [num]
theorem num_bd' : ∀ (n : Nat) (l : List Int), l.length = n → Bytes l → 0 ≤ num l ∧ num l < 256 ^ n
  | 0, l, hl, h => by rw [List.eq_nil_of_length_eq_zero hl]; simp [num]
  | n + 1, l, hl, h => by
    have hne : l ≠ [] := by intro e; rw [e] at hl; simp at hl
    have e := List.dropLast_concat_getLast hne
    have h1 := num_bd' n l.dropLast (by simp [hl]) (fun x hx => h x (by rw [List.dropLast_eq_take] at hx; exact List.mem_of_mem_take hx))
    have h2 := h _ (List.getLast_mem hne)
    rw [← e, num_snoc, Int.pow_succ]
    generalize (256 : Int) ^ n = p at *
    omega
theorem num_bd (l : List Int) (h : Bytes l) : 0 ≤ num l ∧ num l < 256 ^ l.length := num_bd' _ l rfl h



set_option maxHeartbeats 400000 in
theorem sclone_any (a : Option Addr) (l : List Int) (cap : Nat) (w : World) (ha : a = none → cap = 0) (hr : Row w a l) :
    Calls Tryd.prog 64 #[.slice a l.length cap] w fun e w' => ∃ v, e = .returned v ∧ Owns w' v l ∧ New w.heap.size v ∧ Away [] w w' := by
  have hlen := hr.1
  rcases a with _ | ad
  · have h0 : l = [] := by rcases hr.2.2 with h | ⟨_, _, h, _⟩ <;> simp_all
    subst h0
    obtain rfl := ha rfl
    have he := eqnil_none
    go_enter Tryd.func64, Tryd.ntmps64
    go_wp2
    go_ret
    exact ⟨_, rfl, Owns.nil _, by simp [New, Value.ownBlock], Away.refl _ _⟩
  · have hr2 : Row (w.alloc (.cells #[] 5)) (some ad) l := hr.away ((Away.refl [] w).alloc _) (by simp)
    have H1 : Hid (Row (w.alloc (.cells #[] 5)) (some ad) l) := hr2
    have hown : Owns (w.alloc (.cells #[] 5)) (.slice (some ⟨w.heap.size, 0, none⟩) 0 0) [] := World.ownsRow_lit w #[] 0 (Nat.zero_le _) (Nat.zero_le _) rfl
    clear hr hr2
    have he := eqnil_some ad l.length cap
    go_enter Tryd.func64, Tryd.ntmps64
    go_wp2_with (at_builtin; refine wpList_app rfl _ _ rfl _ [] l rfl hown ad l.length cap rfl rfl H1.out.src (by simpa using hlen) ?_)
    intro v' w2 hown2 hgr hblk
    go_wp2
    go_ret
    refine ⟨v', rfl, by simpa using hown2, fun k hk => ?_, ((Away.refl [] w).alloc _).grown hgr (fun k hk => ?_)⟩
    · rcases hblk k hk with h | h
      · simp [Value.ownBlock] at h; omega
      · have h2 : w.heap.size + 1 ≤ k := by simpa using h
        omega
    · simp [Value.ownBlock] at hk; right; omega

/-- A reader at block g, its bytes in block d: what is left, the error. -/
def Rd (w : World) (g d : Nat) (l : List Int) (e : Int) : Prop :=
  ∃ a cap, w.heap[g]? = some (.cells #[.slice a l.length cap, .int .i64 e] 108 (0, 0)) ∧ l.length ≤ cap ∧ (a = none → cap = 0) ∧ Row w a l ∧ (∀ x, a = some x → x.block = d ∧ d ≠ g) ∧ d < w.heap.size
theorem Rd.away {S : List Nat} {w w' : World} {g d : Nat} {l : List Int} {e : Int} (h : Rd w g d l e) (hw : Away S w w') (hg : g ∉ S) (hd : d ∉ S) : Rd w' g d l e := by
  obtain ⟨a, cap, h1, h2, h3, h4, h5, h6⟩ := h
  exact ⟨a, cap, hw.keep hg h1, h2, h3, h4.away hw (fun x hx => by rw [(h5 x hx).1]; exact hd), h5, Nat.lt_of_lt_of_le h6 hw.size⟩
theorem Rd.lt {w : World} {g d : Nat} {l : List Int} {e : Int} (h : Rd w g d l e) : g < w.heap.size ∧ d < w.heap.size := by
  obtain ⟨a, cap, h1, h2, h3, h4, h5, h6⟩ := h
  exact ⟨lt_of_block h1, h6⟩
theorem Rd.bytes {w : World} {g d : Nat} {l : List Int} {e : Int} (h : Rd w g d l e) : Bytes l ∧ l.length ≤ 140737488355328 := by
  obtain ⟨a, cap, h1, h2, h3, h4, h5, h6⟩ := h
  exact ⟨h4.2.1, h4.1⟩
theorem Rd.drewN {w : World} {g d : Nat} {l : List Int} {e : Int} (h : Rd w g d l e) (n : Nat) : Rd (w.drewN n) g d l e := h

/-- What a call for n bytes tells, leaves, and makes of the error. -/
def rdOut (l : List Int) (e n : Int) : List Int := if e = 0 ∧ 0 ≤ n ∧ n ≤ l.length then l.take n.toNat else []
def rdRest (l : List Int) (e n : Int) : List Int := if e = 0 ∧ 0 ≤ n ∧ n ≤ l.length then l.drop n.toNat else l
def rdErr (l : List Int) (e n : Int) : Int := if e = 0 then if n < 0 then 1 else if n ≤ l.length then 0 else 20 else e

/-- What 'take' did: it told m, left l with the error e. -/
def Took (w : World) (g d : Nat) (m l : List Int) (e : Int) (E : Ending) (w' : World) : Prop :=
  ∃ a cap, E = .returned (.slice a m.length cap) ∧ m.length ≤ cap ∧ (a = none → cap = 0) ∧ Row w' a m ∧ (∀ x, a = some x → x.block = d) ∧ Rd w' g d l e ∧ Away [g] w w'
set_option maxHeartbeats 400000 in
theorem take_any (w : World) (g d : Nat) (l : List Int) (e n : Int) (h : Rd w g d l e) :
    Calls Tryd.prog 69 #[.pointer (some ⟨g, 0, none⟩), .int .i64 n] w fun E w' => Took w g d (rdOut l e n) (rdRest l e n) (rdErr l e n) E w' := by
  obtain ⟨a, cap, hb, hcap, hnone, hrow, hat, hd⟩ := h
  have c0 : w.cell? ⟨g, 0, none⟩ = some (.slice a l.length cap) := by rw [cell_of_block hb]; rfl
  have c1 : w.cell? ⟨g, 1, none⟩ = some (.int .i64 e) := by rw [cell_of_block hb]; rfl
  have f0 := free_of_block hb 0
  have f1 := free_of_block hb 1
  have HB : Hid (w.heap[g]? = some (.cells #[.slice a l.length cap, .int .i64 e] 108 (0, 0))) := hb
  clear hb
  have hlen := hrow.1
  by_cases he : e = 0
  · subst he
    by_cases hneg : n < 0
    · have e1 : rdOut l 0 n = [] := by unfold rdOut; rw [if_neg (by omega)]
      have e2 : rdRest l 0 n = l := by unfold rdRest; rw [if_neg (by omega)]
      have e3 : rdErr l 0 n = 1 := by unfold rdErr; rw [if_pos rfl, if_pos hneg]
      rw [e1, e2, e3]
      clear e1 e2 e3
      go_enter Tryd.func69, Tryd.ntmps69
      go_wp2
      go_ret
      have haw : Away [g] w (w.setCell ⟨g, 1, none⟩ (.int .i64 1)) := (Away.refl [g] w).setCell (.inl (by simp)) _
      exact ⟨none, 0, rfl, Nat.le_refl _, fun _ => rfl, Row.nil _ _, by simp, ⟨a, cap, by rw [block_set HB.out]; rfl, hcap, hnone, hrow.away haw (fun x hx => by simpa [(hat x hx).1] using (hat x hx).2), hat, by simpa using hd⟩, haw⟩
    · by_cases hbig : (l.length : Int) < n
      · have e1 : rdOut l 0 n = [] := by unfold rdOut; rw [if_neg (by omega)]
        have e2 : rdRest l 0 n = l := by unfold rdRest; rw [if_neg (by omega)]
        have e3 : rdErr l 0 n = 20 := by unfold rdErr; rw [if_pos rfl, if_neg hneg, if_neg (by omega)]
        rw [e1, e2, e3]
        clear e1 e2 e3
        go_enter Tryd.func69, Tryd.ntmps69
        go_wp2
        go_ret
        have haw : Away [g] w (w.setCell ⟨g, 1, none⟩ (.int .i64 20)) := (Away.refl [g] w).setCell (.inl (by simp)) _
        exact ⟨none, 0, rfl, Nat.le_refl _, fun _ => rfl, Row.nil _ _, by simp, ⟨a, cap, by rw [block_set HB.out]; rfl, hcap, hnone, hrow.away haw (fun x hx => by simpa [(hat x hx).1] using (hat x hx).2), hat, by simpa using hd⟩, haw⟩
      · obtain ⟨k, rfl⟩ := Int.eq_ofNat_of_zero_le (show 0 ≤ n by omega)
        have hk : k ≤ l.length := by omega
        have e1 : rdOut l 0 k = l.take k := by unfold rdOut; rw [if_pos (by omega), Int.toNat_natCast]
        have e2 : rdRest l 0 k = l.drop k := by unfold rdRest; rw [if_pos (by omega), Int.toNat_natCast]
        have e3 : rdErr l 0 k = 0 := by unfold rdErr; rw [if_pos rfl, if_neg hneg, if_pos (by omega)]
        rw [e1, e2, e3]
        clear e1 e2 e3
        obtain ⟨A, hA⟩ : ∃ A, A = if cap = k then a else a.map (·.add k) := ⟨_, rfl⟩
        have s1 := slice_h a l.length cap k (k : Int) rfl (by omega)
        have s2 := slice_l a A l.length cap k (k : Int) hA rfl hk
        have HA : Hid (A = if cap = k then a else a.map (·.add k)) := hA
        clear hA
        go_enter Tryd.func69, Tryd.ntmps69
        go_wp2
        go_ret
        have haw : Away [g] w (w.setCell ⟨g, 0, none⟩ (.slice A (l.length - k) (cap - k))) := (Away.refl [g] w).setCell (.inl (by simp)) _
        have hA := HA.out
        have hAn : A = none → a = none := by rw [hA]; split <;> cases a <;> simp
        have hAb : ∀ x, A = some x → x.block = d ∧ d ≠ g := by
          intro x hx
          rw [hA] at hx
          split at hx
          · exact hat x hx
          · cases a with
            | none => simp at hx
            | some y => simp at hx; subst hx; rw [add_block]; exact hat y rfl
        have hrt := (hrow.tail k cap hcap hk)
        rw [← hA] at hrt
        refine ⟨a, cap, by rw [List.length_take, Nat.min_eq_left hk]; rfl, by simp; omega, hnone, (hrow.head k).away haw (fun x hx => by simpa [(hat x hx).1] using (hat x hx).2), fun x hx => (hat x hx).1, ⟨A, cap - k, ?_, by simp; omega, fun h => by rw [hnone (hAn h)]; omega, hrt.away haw (fun x hx => by simpa [(hAb x hx).1] using (hAb x hx).2), hAb, by simpa using hd⟩, haw⟩
        rw [block_set HB.out, List.length_drop]
        rfl
  · have e1 : rdOut l e n = [] := by unfold rdOut; rw [if_neg (by omega)]
    have e2 : rdRest l e n = l := by unfold rdRest; rw [if_neg (by omega)]
    have e3 : rdErr l e n = e := by unfold rdErr; rw [if_neg he]
    rw [e1, e2, e3]
    clear e1 e2 e3
    have b1 : (e == 0) = false := by simp [he]
    have b2 : (e != 0) = true := by simp [he]
    go_enter Tryd.func69, Tryd.ntmps69
    go_wp2
    go_ret
    exact ⟨none, 0, rfl, Nat.le_refl _, fun _ => rfl, Row.nil _ _, by simp, ⟨a, cap, HB.out, hcap, hnone, hrow, hat, hd⟩, Away.refl _ _⟩


theorem rdOut_len (l : List Int) (e : Int) (n : Nat) : (rdOut l e n).length ≤ n := by
  unfold rdOut; split
  · simp; omega
  · simp
theorem rdOut_bytes {l : List Int} (h : Bytes l) (e n : Int) : Bytes (rdOut l e n) := by
  unfold rdOut; split
  · exact h.take _
  · exact Bytes.nil

theorem or_byte (p x : Int) (h0 : 0 ≤ p) (h1 : p < 16777216) (h2 : 0 ≤ x) (h3 : x ≤ 255) : bits .or .u32 (p * 256) x = 256 * p + x := by
  rw [u32_or _ _ (by omega) (by omega) (by omega) (by omega)]
  obtain ⟨a, rfl⟩ := Int.eq_ofNat_of_zero_le h0
  obtain ⟨b, rfl⟩ := Int.eq_ofNat_of_zero_le h2
  have e1 : ((a : Int) * 256).toNat = 2 ^ 8 * a := by omega
  rw [e1, Int.toNat_natCast, ← Nat.two_pow_add_eq_or_of_lt (by omega)]
  omega
theorem pow_le3 (k : Nat) (h : k ≤ 3) : (256 : Int) ^ k ≤ 16777216 := by
  match k, h with
  | 0, _ => decide
  | 1, _ => decide
  | 2, _ => decide
  | 3, _ => decide

/-- What a number read did. -/
def Numb (k : IntKind) (w : World) (g d : Nat) (z : Int) (l : List Int) (e : Int) (E : Ending) (w' : World) : Prop :=
  E = .returned (.int k z) ∧ Rd w' g d l e ∧ Away [g] w w'

set_option maxHeartbeats 400000 in
theorem number_any (w : World) (g d : Nat) (l : List Int) (e n : Int) (hn : 0 ≤ n) (hn4 : n ≤ 4) (h : Rd w g d l e) :
    Calls Tryd.prog 68 #[.pointer (some ⟨g, 0, none⟩), .int .i64 n] w fun E w' => Numb .u32 w g d (num (rdOut l e n)) (rdRest l e n) (rdErr l e n) E w' := by
  have hm4 : (rdOut l e n).length ≤ 4 := by
    obtain ⟨k, rfl⟩ := Int.eq_ofNat_of_zero_le hn
    have := rdOut_len l e k
    omega
  have key := take_any w g d l e n h
  generalize rdOut l e n = m at *
  generalize rdRest l e n = l' at *
  generalize rdErr l e n = e' at *
  have KEY := key
  clear key
  go_enter Tryd.func68, Tryd.ntmps68
  go_wp2_with fail
  refine KEY.mono ?_
  rintro E w1 ⟨a, cap, rfl, hcap, hnone, hrow, hat, hrd, haw⟩
  have hmb := hrow.2.1
  clear KEY
  go_wp2_with fail
  go_loop [5, 12] (fun v i => ∃ k : Nat, k ≤ m.length ∧ i = .int .i64 k ∧ v = .int .u32 (num (m.take k))) (fun _ i => m.length - (intOf i).toNat)
  case atStart => exact ⟨0, by omega, rfl, rfl⟩
  case round =>
    obtain ⟨k, hk, rfl, rfl⟩ := hrel
    by_cases hlt : k < m.length
    · rcases hrow.2.2 with h0 | ⟨b, off, rfl, hcell⟩
      · rw [h0] at hlt; simp at hlt
      · have c0 := hcell k hlt
        have bx := hmb.getD k
        have HS : Hid (num (m.take (k + 1)) = 256 * num (m.take k) + m[k]?.getD 0) := by
          show _ = _
          rw [List.take_succ_eq_append_getElem hlt, num_snoc, List.getElem?_eq_getElem hlt]; rfl
        have hb := num_bd _ (hmb.take k)
        have hb2 : num (m.take k) < 16777216 := by
          have := pow_le3 (m.take k).length (by simp; omega)
          omega
        have hb1 := hb.1
        generalize num (m.take k) = p at *
        generalize m[k]?.getD 0 = x at *
        have bx0 := bx.1
        have bx1 := bx.2
        have hor := or_byte p x hb1 hb2 bx0 bx1
        clear hb hcell bx
        go_wp2_with fail
        exact ⟨⟨k + 1, by omega, by go_num, by rw [HS.out]⟩, by simp [intOf]; omega⟩
    · go_wp2_with fail
      go_ret
      have e0 : m.take k = m := List.take_of_length_le (by omega)
      exact ⟨by rw [e0]; rfl, hrd, haw⟩
theorem num_lt (l : List Int) (e : Int) (n : Nat) (h : Bytes l) : 0 ≤ num (rdOut l e n) ∧ num (rdOut l e n) < 256 ^ n := by
  have h1 := num_bd _ (rdOut_bytes h e n)
  have h2 := rdOut_len l e n
  refine ⟨h1.1, Int.lt_of_lt_of_le h1.2 ?_⟩
  have h3 : ((256 ^ (rdOut l e n).length : Nat) : Int) ≤ ((256 ^ n : Nat) : Int) := Int.ofNat_le.mpr (Nat.pow_le_pow_right (by decide) h2)
  rwa [Int.natCast_pow, Int.natCast_pow] at h3

set_option maxHeartbeats 400000 in
theorem u8_any (w : World) (g d : Nat) (l : List Int) (e : Int) (h : Rd w g d l e) :
    Calls Tryd.prog 39 #[.pointer (some ⟨g, 0, none⟩)] w fun E w' => Numb .u8 w g d (num (rdOut l e 1)) (rdRest l e 1) (rdErr l e 1) E w' := by
  have hz := num_lt l e 1 h.bytes.1
  have KEY := number_any w g d l e 1 (by omega) (by omega) h
  have hz0 : 0 ≤ num (rdOut l e 1) := hz.1
  have hz1 : num (rdOut l e 1) ≤ 255 := by have := hz.2; simp at this; omega
  clear hz
  generalize num (rdOut l e 1) = z at *
  generalize rdRest l e 1 = l' at *
  generalize rdErr l e 1 = e' at *
  go_enter Tryd.func39, Tryd.ntmps39
  go_wp2_with fail
  refine KEY.mono ?_
  rintro E w1 ⟨rfl, hrd, haw⟩
  clear KEY
  go_wp2_with fail
  go_ret
  exact ⟨rfl, hrd, haw⟩
set_option maxHeartbeats 400000 in
theorem u16_any (w : World) (g d : Nat) (l : List Int) (e : Int) (h : Rd w g d l e) :
    Calls Tryd.prog 40 #[.pointer (some ⟨g, 0, none⟩)] w fun E w' => Numb .u16 w g d (num (rdOut l e 2)) (rdRest l e 2) (rdErr l e 2) E w' := by
  have hz := num_lt l e 2 h.bytes.1
  have KEY := number_any w g d l e 2 (by omega) (by omega) h
  have hz0 : 0 ≤ num (rdOut l e 2) := hz.1
  have hz1 : num (rdOut l e 2) ≤ 65535 := by have := hz.2; simp at this; omega
  clear hz
  generalize num (rdOut l e 2) = z at *
  generalize rdRest l e 2 = l' at *
  generalize rdErr l e 2 = e' at *
  go_enter Tryd.func40, Tryd.ntmps40
  go_wp2_with fail
  refine KEY.mono ?_
  rintro E w1 ⟨rfl, hrd, haw⟩
  clear KEY
  go_wp2_with fail
  go_ret
  exact ⟨rfl, hrd, haw⟩
/-- What Bytes did. -/
def Gave (w : World) (g d : Nat) (m l : List Int) (e : Int) (E : Ending) (w' : World) : Prop :=
  ∃ v, E = .returned v ∧ Owns w' v m ∧ New w.heap.size v ∧ Rd w' g d l e ∧ Away [g] w w' ∧ Bytes m ∧ m.length ≤ 140737488355328
set_option maxHeartbeats 400000 in
theorem bytes_any (w : World) (g d : Nat) (l : List Int) (e n : Int) (h : Rd w g d l e) :
    Calls Tryd.prog 42 #[.pointer (some ⟨g, 0, none⟩), .int .i64 n] w fun E w' => Gave w g d (rdOut l e n) (rdRest l e n) (rdErr l e n) E w' := by
  have KEY := take_any w g d l e n h
  generalize rdOut l e n = m at *
  generalize rdRest l e n = l' at *
  generalize rdErr l e n = e' at *
  go_enter Tryd.func42, Tryd.ntmps42
  go_wp2_with fail
  refine KEY.mono ?_
  rintro E w1 ⟨a, cap, rfl, hcap, hnone, hrow, hat, hrd, haw⟩
  clear KEY
  go_wp2_with fail
  refine (sclone_any a m cap _ hnone (by exact hrow)).mono ?_
  rintro E w2 ⟨v, rfl, hown, hnew, haw2⟩
  go_wp2_with fail
  go_ret
  have hs := haw.size
  exact ⟨v, rfl, hown, fun k hk => Nat.le_trans hs (hnew k hk), hrd.away haw2 (by simp) (by simp), haw.next haw2 (by simp), hrow.2.1, hrow.1⟩
set_option maxHeartbeats 400000 in
theorem left_any (w : World) (g d : Nat) (l : List Int) (e : Int) (h : Rd w g d l e) :
    Calls Tryd.prog 43 #[.pointer (some ⟨g, 0, none⟩)] w fun E w' => E = .returned (.int .i64 l.length) ∧ w' = w := by
  obtain ⟨a, cap, hb, hcap, hnone, hrow, hat, hd⟩ := h
  have c0 : w.cell? ⟨g, 0, none⟩ = some (.slice a l.length cap) := by rw [cell_of_block hb]; rfl
  clear hb hrow hat
  go_enter Tryd.func43, Tryd.ntmps43
  go_wp2
  go_ret
  exact ⟨rfl, rfl⟩
/-- What NewReader did. -/
def Opened (w : World) (l : List Int) (E : Ending) (w' : World) : Prop :=
  ∃ g d, E = .returned (.pointer (some ⟨g, 0, none⟩)) ∧ Rd w' g d l 0 ∧ w.heap.size ≤ g ∧ w.heap.size ≤ d ∧ Away [] w w'
set_option maxHeartbeats 400000 in
theorem newReader_any (a : Option Addr) (l : List Int) (n cap : Nat) (w : World) (hn : l.length = n) (ha : a = none → cap = 0) (hr : Row w a l) :
    Calls Tryd.prog 38 #[.slice a n cap] w fun E w' => Opened w l E w' := by
  subst hn
  go_enter Tryd.func38, Tryd.ntmps38
  go_wp2_with fail
  refine (sclone_any a l cap _ ha (by exact hr)).mono ?_
  rintro E w2 ⟨v, rfl, hown, hnew, haw2⟩
  obtain ⟨a2, cap2, rfl, hcap2, hnone2, hrow2, hblk2, _⟩ := hown.row hr.1 hr.2.1
  have hlt := hown.lt
  clear hown
  go_wp2_with fail
  go_ret
  have hs := haw2.size
  have haw3 : Away [] w2 (w2.alloc (.cells #[.slice a2 l.length cap2, .int .i64 0] 108)) := (Away.refl [] _).alloc _
  refine ⟨w2.heap.size, (match a2 with | none => w2.heap.size | some x => x.block), rfl, ⟨a2, cap2, block_new _ _, hcap2, hnone2, hrow2.away haw3 (by simp), ?_, ?_⟩, hs, ?_, haw2.next haw3 (by simp)⟩
  · intro x hx
    subst hx
    have := hlt x.block rfl
    exact ⟨rfl, by simp; omega⟩
  · cases a2 with
    | none => simp
    | some x => have := hlt x.block rfl; simp; omega
  · cases a2 with
    | none => exact hs
    | some x => exact hnew x.block rfl

set_option maxHeartbeats 400000 in
theorem u32_any (w : World) (g d : Nat) (l : List Int) (e : Int) (h : Rd w g d l e) :
    Calls Tryd.prog 41 #[.pointer (some ⟨g, 0, none⟩)] w fun E w' => Numb .u32 w g d (num (rdOut l e 4)) (rdRest l e 4) (rdErr l e 4) E w' := by
  have KEY := number_any w g d l e 4 (by omega) (by omega) h
  generalize num (rdOut l e 4) = z at *
  generalize rdRest l e 4 = l' at *
  generalize rdErr l e 4 = e' at *
  go_enter Tryd.func41, Tryd.ntmps41
  go_wp2_with fail
  refine KEY.mono ?_
  rintro E w1 ⟨rfl, hrd, haw⟩
  clear KEY
  go_wp2_with fail
  go_ret
  exact ⟨rfl, hrd, haw⟩
end Go.Proofs.YtbgpjhekohabiaaDoor
