/-
  Copies, reslices, and the contracts of the functions that only look.
-/
import Derived.Test.YtbgpjhekohabiaaBase
namespace Go.Proofs.Ytbgpjhekohabiaa
open Go.ChangeShapes Go.WideShapes Go.ChangeAt Go.RowKit
set_option linter.unusedVariables false

/-- Where a slice of new memory lies. -/
def New (B : Nat) (v : Value) : Prop := ∀ k, v.ownBlock = some k → B ≤ k
theorem eqnil_some (a : Addr) (n c : Nat) (w : World) : (binOp .eql 26 (.slice (some a) n c) (.slice none 0 0)).run Try.prog w = .ok (.bool false) w := by kernel_rfl
theorem eqnil_none (w : World) : (binOp .eql 26 (.slice none 0 0) (.slice none 0 0)).run Try.prog w = .ok (.bool true) w := by kernel_rfl

theorem size5 (wx : World) : (sizeOf (Try.prog.elem 26)).run Try.prog wx = .ok 1 wx := by kernel_rfl
theorem under22 : Try.prog.underlying 26 = some (.slice (Try.prog.elem 26)) := by kernel_rfl
theorem slice_lh (a A : Option Addr) (len cap k m : Nat) (lo hi : Int) (hA : A = if cap = k then a else a.map (·.add k)) (hlo : lo = k) (hhi : hi = k + m) (hm : k + m ≤ cap) (wx : World) :
    (Instr.sliceAt 26 (.slice a len cap) (some (.int .i64 lo)) (some (.int .i64 hi)) none).run Try.prog wx = .ok (.slice A m (cap - k)) wx := by
  subst hlo; subst hhi; subst hA
  rw [run_sliceAt_slice (h := under22), run_slice_lh (ht := under22) (h0 := by omega) (h1 := by omega) (h2 := by omega), size5]
  simp only [Result.andThen, sliced]
  rw [show (k : Int).toNat = k from by omega, show ((k : Int) + m).toNat = k + m from by omega, Nat.mul_one, show k + m - k = m from by omega]
theorem slice_l (a A : Option Addr) (len cap k : Nat) (lo : Int) (hA : A = if cap = k then a else a.map (·.add k)) (hlo : lo = k) (hm : k ≤ len) (wx : World) :
    (Instr.sliceAt 26 (.slice a len cap) (some (.int .i64 lo)) none none).run Try.prog wx = .ok (.slice A (len - k) (cap - k)) wx := by
  subst hlo; subst hA
  rw [run_sliceAt_slice (h := under22), run_slice_l (ht := under22) (h0 := by omega) (h1 := by omega), size5]
  simp only [Result.andThen, sliced]
  rw [show (k : Int).toNat = k from by omega, Nat.mul_one]
theorem add_block (a : Addr) (k : Nat) : (a.add k).block = a.block := by unfold Addr.add; split <;> rfl
theorem add_zero (a : Addr) : a.add 0 = a := by simp [Addr.add]
theorem slice_h (a : Option Addr) (len cap m : Nat) (hi : Int) (hhi : hi = m) (hm : m ≤ cap) (wx : World) :
    (Instr.sliceAt 26 (.slice a len cap) none (some (.int .i64 hi)) none).run Try.prog wx = .ok (.slice a m cap) wx := by
  subst hhi
  rw [run_sliceAt_slice (h := under22), run_slice_h (ht := under22) (h0 := by omega) (h2 := by omega), size5]
  simp only [Result.andThen, sliced]
  have e : a.map (·.add (0 * 1)) = a := by cases a <;> simp [add_zero]
  rw [show (m : Int).toNat = m from by omega, e, ite_self, Nat.sub_zero, Nat.sub_zero]

theorem New.mono {B C : Nat} {v : Value} (h : New B v) (hc : C ≤ B) : New C v := fun k hk => Nat.le_trans hc (h k hk)
theorem New.moved {B : Nat} {w : World} {v v' : Value} (h : New B v) (hm : Moved w v v') (hB : B ≤ w.heap.size) : New B v' := fun k hk => by
  rcases hm k hk with h1 | h1
  · exact h k h1
  · omega
theorem New.nil (B : Nat) : New B (.slice none 0 0) := by simp [New, Value.ownBlock]

theorem Row.lit (w : World) (m : List Int) (hm : Bytes m) (hl : m.length ≤ 140737488355328) : Row (w.alloc (.cells (m.map (Value.int .u8)).toArray 5)) (some ⟨w.heap.size, 0, none⟩) m := by
  refine ⟨hl, hm, .inr ⟨w.heap.size, 0, rfl, fun i hi => ?_⟩⟩
  have := lit_cells w m w.heap.size rfl i (.int .u8 (m[i]?.getD 0)) (by simp [hi])
  rwa [add_plain] at this


set_option maxHeartbeats 400000 in
theorem clone_any (a : Option Addr) (l : List Int) (cap : Nat) (w : World) (ha : a = none → cap = 0) (hr : Row w a l) :
    Calls Try.prog 44 #[.slice a l.length cap] w fun e w' => ∃ v, e = .returned v ∧ Owns w' v l ∧ New w.heap.size v ∧ Away [] w w' := by
  have hlen := hr.1
  rcases a with _ | ad
  · have h0 : l = [] := by rcases hr.2.2 with h | ⟨_, _, h, _⟩ <;> simp_all
    subst h0
    obtain rfl := ha rfl
    have he := eqnil_none
    go_enter Try.func44, Try.ntmps44
    go_wp2
    go_ret
    exact ⟨_, rfl, Owns.nil _, by simp [New, Value.ownBlock], Away.refl _ _⟩
  · have hr2 : Row (w.alloc (.cells #[] 5)) (some ad) l := hr.away ((Away.refl [] w).alloc _) (by simp)
    have H1 : Hid (Row (w.alloc (.cells #[] 5)) (some ad) l) := hr2
    have hown : Owns (w.alloc (.cells #[] 5)) (.slice (some ⟨w.heap.size, 0, none⟩) 0 0) [] := World.ownsRow_lit w #[] 0 (Nat.zero_le _) (Nat.zero_le _) rfl
    clear hr hr2
    have he := eqnil_some ad l.length cap
    go_enter Try.func44, Try.ntmps44
    go_wp2_with (at_builtin; refine wpList_app rfl _ _ rfl _ [] l rfl hown ad l.length cap rfl rfl H1.out.src (by simpa using hlen) ?_)
    intro v' w2 hown2 hgr hblk
    go_wp2
    go_ret
    refine ⟨v', rfl, by simpa using hown2, fun k hk => ?_, ((Away.refl [] w).alloc _).grown hgr (fun k hk => ?_)⟩
    · rcases hblk k hk with h | h
      · simp [Value.ownBlock] at h; omega
      · have h2 : w.heap.size + 1 ≤ k := by simpa using h
        omega
    · simp [Value.ownBlock] at hk; right; omega
end Go.Proofs.Ytbgpjhekohabiaa
