/-
  Copies, reslices, and the contracts of the functions that only look.
-/
import Derived.Test.YtkccpidgeecemaaGreatDoorBase
namespace Go.Proofs.YtkccpidgeecemaaGreatDoor
open Go.ChangeShapes Go.WideShapes Go.ChangeAt Go.RowKit
set_option linter.unusedVariables false

/-- Where a slice of new memory lies. -/
def New (B : Nat) (v : Value) : Prop := ∀ k, v.ownBlock = some k → B ≤ k
theorem eqnil_some (a : Addr) (n c : Nat) (w : World) : (binOp .eql 37 (.slice (some a) n c) (.slice none 0 0)).run Tryz.prog w = .ok (.bool false) w := by kernel_rfl
theorem eqnil_none (w : World) : (binOp .eql 37 (.slice none 0 0) (.slice none 0 0)).run Tryz.prog w = .ok (.bool true) w := by kernel_rfl

set_option maxHeartbeats 400000 in
theorem clone_any (a : Option Addr) (l : List Int) (cap : Nat) (w : World) (ha : a = none → cap = 0) (hr : Row w a l) :
    Calls Tryz.prog 48 #[.slice a l.length cap] w fun e w' => ∃ v, e = .returned v ∧ Owns w' v l ∧ New w.heap.size v ∧ Away [] w w' := by
  have hlen := hr.1
  rcases a with _ | ad
  · have h0 : l = [] := by rcases hr.2.2 with h | ⟨_, _, h, _⟩ <;> simp_all
    subst h0
    obtain rfl := ha rfl
    have he := eqnil_none
    go_enter Tryz.func48, Tryz.ntmps48
    go_wp2
    go_ret
    exact ⟨_, rfl, Owns.nil _, by simp [New, Value.ownBlock], Away.refl _ _⟩
  · have hr2 : Row (w.alloc (.cells #[] 5)) (some ad) l := hr.away ((Away.refl [] w).alloc _) (by simp)
    have H1 : Hid (Row (w.alloc (.cells #[] 5)) (some ad) l) := hr2
    have hown : Owns (w.alloc (.cells #[] 5)) (.slice (some ⟨w.heap.size, 0, none⟩) 0 0) [] := World.ownsRow_lit w #[] 0 (Nat.zero_le _) (Nat.zero_le _) rfl
    clear hr hr2
    have he := eqnil_some ad l.length cap
    go_enter Tryz.func48, Tryz.ntmps48
    go_wp2_with (at_builtin; refine wpList_app rfl _ _ rfl _ [] l rfl hown ad l.length cap rfl rfl H1.out.src (by simpa using hlen) ?_)
    intro v' w2 hown2 hgr hblk
    go_wp2
    go_ret
    refine ⟨v', rfl, by simpa using hown2, fun k hk => ?_, ((Away.refl [] w).alloc _).grown hgr (fun k hk => ?_)⟩
    · rcases hblk k hk with h | h
      · simp [Value.ownBlock] at h; omega
      · have h2 : w.heap.size + 1 ≤ k := by simpa using h
        omega
    · simp [Value.ownBlock] at hk; right; omega

theorem size5 (wx : World) : (sizeOf (Tryz.prog.elem 37)).run Tryz.prog wx = .ok 1 wx := by kernel_rfl
theorem under22 : Tryz.prog.underlying 37 = some (.slice (Tryz.prog.elem 37)) := by kernel_rfl
theorem slice_lh (a A : Option Addr) (len cap k m : Nat) (lo hi : Int) (hA : A = if cap = k then a else a.map (·.add k)) (hlo : lo = k) (hhi : hi = k + m) (hm : k + m ≤ cap) (wx : World) :
    (Instr.sliceAt 37 (.slice a len cap) (some (.int .i64 lo)) (some (.int .i64 hi)) none).run Tryz.prog wx = .ok (.slice A m (cap - k)) wx := by
  subst hlo; subst hhi; subst hA
  rw [run_sliceAt_slice (h := under22), run_slice_lh (ht := under22) (h0 := by omega) (h1 := by omega) (h2 := by omega), size5]
  simp only [Result.andThen, sliced]
  rw [show (k : Int).toNat = k from by omega, show ((k : Int) + m).toNat = k + m from by omega, Nat.mul_one, show k + m - k = m from by omega]
theorem slice_l (a A : Option Addr) (len cap k : Nat) (lo : Int) (hA : A = if cap = k then a else a.map (·.add k)) (hlo : lo = k) (hm : k ≤ len) (wx : World) :
    (Instr.sliceAt 37 (.slice a len cap) (some (.int .i64 lo)) none none).run Tryz.prog wx = .ok (.slice A (len - k) (cap - k)) wx := by
  subst hlo; subst hA
  rw [run_sliceAt_slice (h := under22), run_slice_l (ht := under22) (h0 := by omega) (h1 := by omega), size5]
  simp only [Result.andThen, sliced]
  rw [show (k : Int).toNat = k from by omega, Nat.mul_one]
theorem add_zero (a : Addr) : a.add 0 = a := by simp [Addr.add]
theorem slice_h (a : Option Addr) (len cap m : Nat) (hi : Int) (hhi : hi = m) (hm : m ≤ cap) (wx : World) :
    (Instr.sliceAt 37 (.slice a len cap) none (some (.int .i64 hi)) none).run Tryz.prog wx = .ok (.slice a m cap) wx := by
  subst hhi
  rw [run_sliceAt_slice (h := under22), run_slice_h (ht := under22) (h0 := by omega) (h2 := by omega), size5]
  simp only [Result.andThen, sliced]
  have e : a.map (·.add (0 * 1)) = a := by cases a <;> simp [add_zero]
  rw [show (m : Int).toNat = m from by omega, e, ite_self, Nat.sub_zero, Nat.sub_zero]

theorem New.mono {B C : Nat} {v : Value} (h : New B v) (hc : C ≤ B) : New C v := fun k hk => Nat.le_trans hc (h k hk)
theorem New.moved {B : Nat} {w : World} {v v' : Value} (h : New B v) (hm : Moved w v v') (hB : B ≤ w.heap.size) : New B v' := fun k hk => by
  rcases hm k hk with h1 | h1
  · exact h k h1
  · omega
theorem New.nil (B : Nat) : New B (.slice none 0 0) := by simp [New, Value.ownBlock]

theorem Row.lit (w : World) (m : List Int) (hm : Bytes m) (hl : m.length ≤ 140737488355328) : Row (w.alloc (.cells (m.map (Value.int .u8)).toArray 5)) (some ⟨w.heap.size, 0, none⟩) m := by
  refine ⟨hl, hm, .inr ⟨w.heap.size, 0, rfl, fun i hi => ?_⟩⟩
  have := lit_cells w m w.heap.size rfl i (.int .u8 (m[i]?.getD 0)) (by simp [hi])
  rwa [add_plain] at this


/-- The table of shapes. -/
structure Glob (w : World) : Prop where
  c0 : w.cell? ⟨0, 0, none⟩ = some (.int .i64 0)
  c1 : w.cell? ⟨0, 1, none⟩ = some (.int .i64 1)
  c2 : w.cell? ⟨0, 2, none⟩ = some (.int .i64 2)
theorem Glob.pos {w : World} (h : Glob w) : 0 < w.heap.size := block_lt_of_cell h.c0
theorem Glob.away {S : List Nat} {w w' : World} (h : Glob w) (hw : Away S w w') (hS : 0 ∉ S) : Glob w' := ⟨hw.cell hS h.c0, hw.cell hS h.c1, hw.cell hS h.c2⟩
theorem Glob.on {w w' : World} (h : Glob w) (hw : Away [] w w') : Glob w' := h.away hw (by simp)
theorem Glob.drewN {w : World} (h : Glob w) (n : Nat) : Glob (w.drewN n) := ⟨h.c0, h.c1, h.c2⟩

def shapeP (k : Int) : Int := if k < 2 then k else 2
set_option maxHeartbeats 400000 in
theorem shape_c (k : Int) (w : World) (hk : 0 ≤ k) (hg : Glob w) : Calls Tryz.prog 75 #[.int .i64 k] w fun E w' => E = .returned (.int .i64 (shapeP k)) ∧ w' = w := by
  obtain ⟨c0, c1, c2⟩ := hg
  by_cases h : k < 2
  · have hs : shapeP k = k := by unfold shapeP; rw [if_pos h]
    rw [hs]
    obtain rfl | rfl : k = 0 ∨ k = 1 := by omega
    · go_enter Tryz.func75, Tryz.ntmps75
      go_wp2
      go_ret
      exact ⟨rfl, rfl⟩
    · go_enter Tryz.func75, Tryz.ntmps75
      go_wp2
      go_ret
      exact ⟨rfl, rfl⟩
  · have hs : shapeP k = 2 := by unfold shapeP; rw [if_neg h]
    rw [hs]
    by_cases h2 : k = 2
    · subst h2
      go_enter Tryz.func75, Tryz.ntmps75
      go_wp2
      go_ret
      exact ⟨rfl, rfl⟩
    · have h3 : 2 < k := by omega
      clear h h2
      go_enter Tryz.func75, Tryz.ntmps75
      go_wp2
      go_ret
      exact ⟨rfl, rfl⟩

set_option maxHeartbeats 400000 in
theorem blank_c (a : Option Addr) (l : List Int) (n cap : Nat) (w : World) (hn : l.length = n) (hr : Row w a l) :
    Calls Tryz.prog 76 #[.slice a n cap] w fun E w' => E = .returned (.bool (zerosP l)) ∧ w' = w := by
  subst hn
  have hlen := hr.1
  have hlb := hr.2.1
  go_enter Tryz.func76, Tryz.ntmps76
  go_wp2_with fail
  go_loopw [7] (fun i wr => ∃ k : Nat, k ≤ l.length ∧ i = .int .i64 k ∧ wr = w ∧ zerosP l = zerosP (l.drop k)) (fun i _ => l.length - (intOf i).toNat)
  case atStart => exact ⟨0, by omega, rfl, rfl, rfl⟩
  case round =>
    obtain ⟨k, hk, rfl, rfl, hz⟩ := hrel
    by_cases hlt : k < l.length
    · rcases hr.2.2 with h0 | ⟨b, off, rfl, hcell⟩
      · rw [h0] at hlt; simp at hlt
      · have c0 := hcell k hlt
        have bx := hlb.getD k
        have HZ : Hid (zerosP l = ((l[k]?.getD 0 == 0) && zerosP (l.drop (k + 1)))) := by
          show _ = _
          rw [hz, List.drop_eq_getElem_cons hlt, zerosP_cons, List.getElem?_eq_getElem hlt]; rfl
        generalize l[k]?.getD 0 = x at *
        clear hcell hz
        by_cases hx : x = 0
        · subst hx
          go_wp2_with fail
          go_roundw
          case rel => exact ⟨k + 1, by omega, by go_num, by trivial, by simpa using HZ.out⟩
          case measure => simp [intOf]; omega
        · go_wp2_with fail
          go_ret
          refine ⟨?_, rfl⟩
          rw [HZ.out]; simp [hx]
    · go_wp2_with fail
      go_ret
      refine ⟨?_, rfl⟩
      rw [hz, List.drop_eq_nil_of_le (by omega)]; rfl
end Go.Proofs.YtkccpidgeecemaaGreatDoor
