/-
  The contracts of wire's Reader.
-/
import Derived.Test.YtaiomhhndckccaaBase
namespace Go.Proofs.Ytaiomhhndckccaa
open Go.ChangeShapes Go.WideShapes Go.ChangeAt Go.RowKit
set_option linter.unusedVariables false

/-- Where a slice of new memory lies. -/
def New (B : Nat) (v : Value) : Prop := ∀ k, v.ownBlock = some k → B ≤ k
theorem eqnil_some (a : Addr) (n c : Nat) (w : World) : (binOp .eql 22 (.slice (some a) n c) (.slice none 0 0)).run Try.prog w = .ok (.bool false) w := by kernel_rfl
theorem eqnil_none (w : World) : (binOp .eql 22 (.slice none 0 0) (.slice none 0 0)).run Try.prog w = .ok (.bool true) w := by kernel_rfl

set_option maxHeartbeats 400000 in
theorem clone_any (a : Option Addr) (l : List Int) (cap : Nat) (w : World) (ha : a = none → cap = 0) (hr : Row w a l) :
    Calls Try.prog 38 #[.slice a l.length cap] w fun e w' => ∃ v, e = .returned v ∧ Owns w' v l ∧ New w.heap.size v ∧ Away [] w w' := by
  have hlen := hr.1
  rcases a with _ | ad
  · have h0 : l = [] := by rcases hr.2.2 with h | ⟨_, _, h, _⟩ <;> simp_all
    subst h0
    obtain rfl := ha rfl
    have he := eqnil_none
    go_enter Try.func38, Try.ntmps38
    go_wp2
    go_ret
    exact ⟨_, rfl, Owns.nil _, by simp [New, Value.ownBlock], Away.refl _ _⟩
  · have hr2 : Row (w.alloc (.cells #[] 5)) (some ad) l := hr.away ((Away.refl [] w).alloc _) (by simp)
    have H1 : Hid (Row (w.alloc (.cells #[] 5)) (some ad) l) := hr2
    have hown : Owns (w.alloc (.cells #[] 5)) (.slice (some ⟨w.heap.size, 0, none⟩) 0 0) [] := World.ownsRow_lit w #[] 0 (Nat.zero_le _) (Nat.zero_le _) rfl
    clear hr hr2
    have he := eqnil_some ad l.length cap
    go_enter Try.func38, Try.ntmps38
    go_wp2_with (at_builtin; refine wpList_app rfl _ _ rfl _ [] l rfl hown ad l.length cap rfl rfl H1.out.src (by simpa using hlen) ?_)
    intro v' w2 hown2 hgr hblk
    go_wp2
    go_ret
    refine ⟨v', rfl, by simpa using hown2, fun k hk => ?_, ((Away.refl [] w).alloc _).grown hgr (fun k hk => ?_)⟩
    · rcases hblk k hk with h | h
      · simp [Value.ownBlock] at h; omega
      · have h2 : w.heap.size + 1 ≤ k := by simpa using h
        omega
    · simp [Value.ownBlock] at hk; right; omega

/-- A reader at block g, its bytes in block d: what is left, the error. -/
def Rd (w : World) (g d : Nat) (l : List Int) (e : Int) : Prop :=
  ∃ a cap, w.heap[g]? = some (.cells #[.slice a l.length cap, .int .i64 e] 76 (0, 0)) ∧ l.length ≤ cap ∧ (a = none → cap = 0) ∧ Row w a l ∧ (∀ x, a = some x → x.block = d ∧ d ≠ g) ∧ d < w.heap.size
theorem Rd.away {S : List Nat} {w w' : World} {g d : Nat} {l : List Int} {e : Int} (h : Rd w g d l e) (hw : Away S w w') (hg : g ∉ S) (hd : d ∉ S) : Rd w' g d l e := by
  obtain ⟨a, cap, h1, h2, h3, h4, h5, h6⟩ := h
  exact ⟨a, cap, hw.keep hg h1, h2, h3, h4.away hw (fun x hx => by rw [(h5 x hx).1]; exact hd), h5, Nat.lt_of_lt_of_le h6 hw.size⟩
theorem Rd.lt {w : World} {g d : Nat} {l : List Int} {e : Int} (h : Rd w g d l e) : g < w.heap.size ∧ d < w.heap.size := by
  obtain ⟨a, cap, h1, h2, h3, h4, h5, h6⟩ := h
  exact ⟨lt_of_block h1, h6⟩
theorem Rd.bytes {w : World} {g d : Nat} {l : List Int} {e : Int} (h : Rd w g d l e) : Bytes l ∧ l.length ≤ 140737488355328 := by
  obtain ⟨a, cap, h1, h2, h3, h4, h5, h6⟩ := h
  exact ⟨h4.2.1, h4.1⟩
theorem Rd.drewN {w : World} {g d : Nat} {l : List Int} {e : Int} (h : Rd w g d l e) (n : Nat) : Rd (w.drewN n) g d l e := h

/-- What a call for n bytes tells, leaves, and makes of the error. -/
def rdOut (l : List Int) (e n : Int) : List Int := if e = 0 ∧ 0 ≤ n ∧ n ≤ l.length then l.take n.toNat else []
def rdRest (l : List Int) (e n : Int) : List Int := if e = 0 ∧ 0 ≤ n ∧ n ≤ l.length then l.drop n.toNat else l
def rdErr (l : List Int) (e n : Int) : Int := if e = 0 then if n < 0 then 1 else if n ≤ l.length then 0 else 20 else e

theorem size5 (wx : World) : (sizeOf (Try.prog.elem 22)).run Try.prog wx = .ok 1 wx := by kernel_rfl
theorem under22 : Try.prog.underlying 22 = some (.slice (Try.prog.elem 22)) := by kernel_rfl
theorem slice_lh (a A : Option Addr) (len cap k m : Nat) (lo hi : Int) (hA : A = if cap = k then a else a.map (·.add k)) (hlo : lo = k) (hhi : hi = k + m) (hm : k + m ≤ cap) (wx : World) :
    (Instr.sliceAt 22 (.slice a len cap) (some (.int .i64 lo)) (some (.int .i64 hi)) none).run Try.prog wx = .ok (.slice A m (cap - k)) wx := by
  subst hlo; subst hhi; subst hA
  rw [run_sliceAt_slice (h := under22), run_slice_lh (ht := under22) (h0 := by omega) (h1 := by omega) (h2 := by omega), size5]
  simp only [Result.andThen, sliced]
  rw [show (k : Int).toNat = k from by omega, show ((k : Int) + m).toNat = k + m from by omega, Nat.mul_one, show k + m - k = m from by omega]
theorem slice_l (a A : Option Addr) (len cap k : Nat) (lo : Int) (hA : A = if cap = k then a else a.map (·.add k)) (hlo : lo = k) (hm : k ≤ len) (wx : World) :
    (Instr.sliceAt 22 (.slice a len cap) (some (.int .i64 lo)) none none).run Try.prog wx = .ok (.slice A (len - k) (cap - k)) wx := by
  subst hlo; subst hA
  rw [run_sliceAt_slice (h := under22), run_slice_l (ht := under22) (h0 := by omega) (h1 := by omega), size5]
  simp only [Result.andThen, sliced]
  rw [show (k : Int).toNat = k from by omega, Nat.mul_one]
theorem add_block (a : Addr) (k : Nat) : (a.add k).block = a.block := by unfold Addr.add; split <;> rfl
theorem add_zero (a : Addr) : a.add 0 = a := by simp [Addr.add]
theorem slice_h (a : Option Addr) (len cap m : Nat) (hi : Int) (hhi : hi = m) (hm : m ≤ cap) (wx : World) :
    (Instr.sliceAt 22 (.slice a len cap) none (some (.int .i64 hi)) none).run Try.prog wx = .ok (.slice a m cap) wx := by
  subst hhi
  rw [run_sliceAt_slice (h := under22), run_slice_h (ht := under22) (h0 := by omega) (h2 := by omega), size5]
  simp only [Result.andThen, sliced]
  have e : a.map (·.add (0 * 1)) = a := by cases a <;> simp [add_zero]
  rw [show (m : Int).toNat = m from by omega, e, ite_self, Nat.sub_zero, Nat.sub_zero]

/-- What 'take' did: it told m, left l with the error e. -/
def Took (w : World) (g d : Nat) (m l : List Int) (e : Int) (E : Ending) (w' : World) : Prop :=
  ∃ a cap, E = .returned (.slice a m.length cap) ∧ m.length ≤ cap ∧ (a = none → cap = 0) ∧ Row w' a m ∧ (∀ x, a = some x → x.block = d) ∧ Rd w' g d l e ∧ Away [g] w w'
set_option maxHeartbeats 400000 in
theorem take_any (w : World) (g d : Nat) (l : List Int) (e n : Int) (h : Rd w g d l e) :
    Calls Try.prog 41 #[.pointer (some ⟨g, 0, none⟩), .int .i64 n] w fun E w' => Took w g d (rdOut l e n) (rdRest l e n) (rdErr l e n) E w' := by
  obtain ⟨a, cap, hb, hcap, hnone, hrow, hat, hd⟩ := h
  have c0 : w.cell? ⟨g, 0, none⟩ = some (.slice a l.length cap) := by rw [cell_of_block hb]; rfl
  have c1 : w.cell? ⟨g, 1, none⟩ = some (.int .i64 e) := by rw [cell_of_block hb]; rfl
  have f0 := free_of_block hb 0
  have f1 := free_of_block hb 1
  have HB : Hid (w.heap[g]? = some (.cells #[.slice a l.length cap, .int .i64 e] 76 (0, 0))) := hb
  clear hb
  have hlen := hrow.1
  by_cases he : e = 0
  · subst he
    by_cases hneg : n < 0
    · have e1 : rdOut l 0 n = [] := by unfold rdOut; rw [if_neg (by omega)]
      have e2 : rdRest l 0 n = l := by unfold rdRest; rw [if_neg (by omega)]
      have e3 : rdErr l 0 n = 1 := by unfold rdErr; rw [if_pos rfl, if_pos hneg]
      rw [e1, e2, e3]
      clear e1 e2 e3
      go_enter Try.func41, Try.ntmps41
      go_wp2
      go_ret
      have haw : Away [g] w (w.setCell ⟨g, 1, none⟩ (.int .i64 1)) := (Away.refl [g] w).setCell (.inl (by simp)) _
      exact ⟨none, 0, rfl, Nat.le_refl _, fun _ => rfl, Row.nil _ _, by simp, ⟨a, cap, by rw [block_set HB.out]; rfl, hcap, hnone, hrow.away haw (fun x hx => by simpa [(hat x hx).1] using (hat x hx).2), hat, by simpa using hd⟩, haw⟩
    · by_cases hbig : (l.length : Int) < n
      · have e1 : rdOut l 0 n = [] := by unfold rdOut; rw [if_neg (by omega)]
        have e2 : rdRest l 0 n = l := by unfold rdRest; rw [if_neg (by omega)]
        have e3 : rdErr l 0 n = 20 := by unfold rdErr; rw [if_pos rfl, if_neg hneg, if_neg (by omega)]
        rw [e1, e2, e3]
        clear e1 e2 e3
        go_enter Try.func41, Try.ntmps41
        go_wp2
        go_ret
        have haw : Away [g] w (w.setCell ⟨g, 1, none⟩ (.int .i64 20)) := (Away.refl [g] w).setCell (.inl (by simp)) _
        exact ⟨none, 0, rfl, Nat.le_refl _, fun _ => rfl, Row.nil _ _, by simp, ⟨a, cap, by rw [block_set HB.out]; rfl, hcap, hnone, hrow.away haw (fun x hx => by simpa [(hat x hx).1] using (hat x hx).2), hat, by simpa using hd⟩, haw⟩
      · obtain ⟨k, rfl⟩ := Int.eq_ofNat_of_zero_le (show 0 ≤ n by omega)
        have hk : k ≤ l.length := by omega
        have e1 : rdOut l 0 k = l.take k := by unfold rdOut; rw [if_pos (by omega), Int.toNat_natCast]
        have e2 : rdRest l 0 k = l.drop k := by unfold rdRest; rw [if_pos (by omega), Int.toNat_natCast]
        have e3 : rdErr l 0 k = 0 := by unfold rdErr; rw [if_pos rfl, if_neg hneg, if_pos (by omega)]
        rw [e1, e2, e3]
        clear e1 e2 e3
        obtain ⟨A, hA⟩ : ∃ A, A = if cap = k then a else a.map (·.add k) := ⟨_, rfl⟩
        have s1 := slice_h a l.length cap k (k : Int) rfl (by omega)
        have s2 := slice_l a A l.length cap k (k : Int) hA rfl hk
        have HA : Hid (A = if cap = k then a else a.map (·.add k)) := hA
        clear hA
        go_enter Try.func41, Try.ntmps41
        go_wp2
        go_ret
        have haw : Away [g] w (w.setCell ⟨g, 0, none⟩ (.slice A (l.length - k) (cap - k))) := (Away.refl [g] w).setCell (.inl (by simp)) _
        have hA := HA.out
        have hAn : A = none → a = none := by rw [hA]; split <;> cases a <;> simp
        have hAb : ∀ x, A = some x → x.block = d ∧ d ≠ g := by
          intro x hx
          rw [hA] at hx
          split at hx
          · exact hat x hx
          · cases a with
            | none => simp at hx
            | some y => simp at hx; subst hx; rw [add_block]; exact hat y rfl
        have hrt := (hrow.tail k cap hcap hk)
        rw [← hA] at hrt
        refine ⟨a, cap, by rw [List.length_take, Nat.min_eq_left hk]; rfl, by simp; omega, hnone, (hrow.head k).away haw (fun x hx => by simpa [(hat x hx).1] using (hat x hx).2), fun x hx => (hat x hx).1, ⟨A, cap - k, ?_, by simp; omega, fun h => by rw [hnone (hAn h)]; omega, hrt.away haw (fun x hx => by simpa [(hAb x hx).1] using (hAb x hx).2), hAb, by simpa using hd⟩, haw⟩
        rw [block_set HB.out, List.length_drop]
        rfl
  · have e1 : rdOut l e n = [] := by unfold rdOut; rw [if_neg (by omega)]
    have e2 : rdRest l e n = l := by unfold rdRest; rw [if_neg (by omega)]
    have e3 : rdErr l e n = e := by unfold rdErr; rw [if_neg he]
    rw [e1, e2, e3]
    clear e1 e2 e3
    have b1 : (e == 0) = false := by simp [he]
    have b2 : (e != 0) = true := by simp [he]
    go_enter Try.func41, Try.ntmps41
    go_wp2
    go_ret
    exact ⟨none, 0, rfl, Nat.le_refl _, fun _ => rfl, Row.nil _ _, by simp, ⟨a, cap, HB.out, hcap, hnone, hrow, hat, hd⟩, Away.refl _ _⟩
#print axioms take_any
end Go.Proofs.Ytaiomhhndckccaa
