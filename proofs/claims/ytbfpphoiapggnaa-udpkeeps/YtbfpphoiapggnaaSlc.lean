/-
  Copies, reslices, and the contracts of the functions that only look.
-/
import Derived.Test.YtbfpphoiapggnaaBase
namespace Go.Proofs.Ytbfpphoiapggnaa
open Go.ChangeShapes Go.WideShapes Go.ChangeAt Go.RowKit
set_option linter.unusedVariables false

/-- Where a slice of new memory lies. -/
def New (B : Nat) (v : Value) : Prop := ∀ k, v.ownBlock = some k → B ≤ k
theorem eqnil_some (a : Addr) (n c : Nat) (w : World) : (binOp .eql 25 (.slice (some a) n c) (.slice none 0 0)).run Try.prog w = .ok (.bool false) w := by kernel_rfl
theorem eqnil_none (w : World) : (binOp .eql 25 (.slice none 0 0) (.slice none 0 0)).run Try.prog w = .ok (.bool true) w := by kernel_rfl

theorem size5 (wx : World) : (sizeOf (Try.prog.elem 25)).run Try.prog wx = .ok 1 wx := by kernel_rfl
theorem under22 : Try.prog.underlying 25 = some (.slice (Try.prog.elem 25)) := by kernel_rfl
theorem slice_lh (a A : Option Addr) (len cap k m : Nat) (lo hi : Int) (hA : A = if cap = k then a else a.map (·.add k)) (hlo : lo = k) (hhi : hi = k + m) (hm : k + m ≤ cap) (wx : World) :
    (Instr.sliceAt 25 (.slice a len cap) (some (.int .i64 lo)) (some (.int .i64 hi)) none).run Try.prog wx = .ok (.slice A m (cap - k)) wx := by
  subst hlo; subst hhi; subst hA
  rw [run_sliceAt_slice (h := under22), run_slice_lh (ht := under22) (h0 := by omega) (h1 := by omega) (h2 := by omega), size5]
  simp only [Result.andThen, sliced]
  rw [show (k : Int).toNat = k from by omega, show ((k : Int) + m).toNat = k + m from by omega, Nat.mul_one, show k + m - k = m from by omega]
theorem slice_l (a A : Option Addr) (len cap k : Nat) (lo : Int) (hA : A = if cap = k then a else a.map (·.add k)) (hlo : lo = k) (hm : k ≤ len) (wx : World) :
    (Instr.sliceAt 25 (.slice a len cap) (some (.int .i64 lo)) none none).run Try.prog wx = .ok (.slice A (len - k) (cap - k)) wx := by
  subst hlo; subst hA
  rw [run_sliceAt_slice (h := under22), run_slice_l (ht := under22) (h0 := by omega) (h1 := by omega), size5]
  simp only [Result.andThen, sliced]
  rw [show (k : Int).toNat = k from by omega, Nat.mul_one]
theorem add_block (a : Addr) (k : Nat) : (a.add k).block = a.block := by unfold Addr.add; split <;> rfl
theorem add_zero (a : Addr) : a.add 0 = a := by simp [Addr.add]
theorem slice_h (a : Option Addr) (len cap m : Nat) (hi : Int) (hhi : hi = m) (hm : m ≤ cap) (wx : World) :
    (Instr.sliceAt 25 (.slice a len cap) none (some (.int .i64 hi)) none).run Try.prog wx = .ok (.slice a m cap) wx := by
  subst hhi
  rw [run_sliceAt_slice (h := under22), run_slice_h (ht := under22) (h0 := by omega) (h2 := by omega), size5]
  simp only [Result.andThen, sliced]
  have e : a.map (·.add (0 * 1)) = a := by cases a <;> simp [add_zero]
  rw [show (m : Int).toNat = m from by omega, e, ite_self, Nat.sub_zero, Nat.sub_zero]

theorem New.mono {B C : Nat} {v : Value} (h : New B v) (hc : C ≤ B) : New C v := fun k hk => Nat.le_trans hc (h k hk)
theorem New.moved {B : Nat} {w : World} {v v' : Value} (h : New B v) (hm : Moved w v v') (hB : B ≤ w.heap.size) : New B v' := fun k hk => by
  rcases hm k hk with h1 | h1
  · exact h k h1
  · omega
theorem New.nil (B : Nat) : New B (.slice none 0 0) := by simp [New, Value.ownBlock]

theorem Row.lit (w : World) (m : List Int) (hm : Bytes m) (hl : m.length ≤ 140737488355328) : Row (w.alloc (.cells (m.map (Value.int .u8)).toArray 5)) (some ⟨w.heap.size, 0, none⟩) m := by
  refine ⟨hl, hm, .inr ⟨w.heap.size, 0, rfl, fun i hi => ?_⟩⟩
  have := lit_cells w m w.heap.size rfl i (.int .u8 (m[i]?.getD 0)) (by simp [hi])
  rwa [add_plain] at this


end Go.Proofs.Ytbfpphoiapggnaa
