/-
  A socket: its number, address, port.
-/
import Derived.Test.YtemdgggpfadecaaAdr
namespace Go.Proofs.Ytemdgggpfadecaa
open Go.ChangeShapes Go.WideShapes Go.ChangeAt Go.RowKit
set_option linter.unusedVariables false
set_option linter.unusedSimpArgs false
set_option maxRecDepth 100000

structure Bd where
  n : Int
  v : Int
  l : List Int
  p : Int
def listD (x : Bd) : List Value := Value.int .i64 x.n :: (cellsA x.v x.l ++ [Value.int .i64 x.p])
def csD (x : Bd) : Array Value := (listD x).toArray
def Okd (x : Bd) : Prop := x.l.length = 16
theorem listD_len {x : Bd} (h : Okd x) : (listD x).length = 19 := by unfold Okd at h; simp [listD, cellsA, h]
theorem listD_one {x : Bd} (h : Okd x) : ∀ u ∈ listD x, u.oneCell' = true := fun u hu => by
  simp only [listD, cellsA, List.mem_cons, List.mem_append, List.mem_map, List.not_mem_nil, or_false] at hu
  rcases hu with rfl | (rfl | ⟨n, _, rfl⟩) | rfl <;> rfl
theorem csD_one {x : Bd} (h : Okd x) : (csD x).all (·.oneCell') = true := by
  simp only [Array.all_eq_true_iff_forall_mem]
  intro u hu
  exact listD_one h u (by simpa [csD] using hu)
theorem csD_size {x : Bd} (h : Okd x) : (csD x).size = 19 := by simpa [csD] using listD_len h
def zeroD : Bd := ⟨0, 0, z16, 0⟩
def zD : Array Value := csD zeroD
theorem zeroD_ok : Okd zeroD := rfl
theorem listD_n (x : Bd) : (listD x)[0]? = some (.int .i64 x.n) := rfl
theorem listD_p {x : Bd} (h : Okd x) : (listD x)[18]? = some (.int .i64 x.p) := by
  unfold Okd at h
  obtain ⟨b0, b1, b2, b3, b4, b5, b6, b7, b8, b9, b10, b11, b12, b13, b14, b15, e⟩ := list16 h
  simp [listD, cellsA, e]
theorem listD_a {x : Bd} (h : Okd x) : ((listD x).drop 1).take 17 = cellsA x.v x.l := by
  unfold Okd at h
  simp [listD, cellsA, h]
end Go.Proofs.Ytemdgggpfadecaa
