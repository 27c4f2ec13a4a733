/-
  Tables as the laws hold them; addresses that came in.
-/
import Derived.Test.YtoifolmcdkfniaaKit
namespace Go.Proofs.Ytoifolmcdkfniaa
open Go.ChangeShapes Go.WideShapes Go.ChangeAt Go.RowKit
set_option linter.unusedVariables false
set_option linter.unusedSimpArgs false
set_option maxRecDepth 100000

theorem underA : Try.prog.underlying 23 = some (.slice (Try.prog.elem 23)) := by kernel_rfl
theorem wpList_ixA {ops : Array Oper} {rest : List Oper} {o : Oper} {a : Act} {w : World} {Q : Exit → Act → World → Prop} (hw : Region.wanted o (yielded ops a.tmps) = true) (x ix : Operand) (ho : o.op = .indexAddr 23 x ix) (gb go n cap i : Nat) (hx : a.eval x = .slice (some ⟨gb, go, none⟩) n cap) (hix : a.eval ix = .int .i64 (i : Int)) (hi : i < n)
    (h : wpList Try.prog ops Q rest (a.put o.dst (.pointer (some ⟨gb, go + i * 17, none⟩))) w) : wpList Try.prog ops Q (o :: rest) a w := by
  refine BigFrame.wpList_want hw fun K hK => ?_
  have he : Try.prog.elem 23 = 31 := by kernel_rfl
  have hsz : (sizeOf 31).run Try.prog w = .ok 17 w := by kernel_rfl
  unfold Oper.wp execOp
  simp only [ho, hx, hix, Sem.run_bind]
  rw [run_indexAt_slice w 23 ⟨gb, go, none⟩ n cap .i64 (i : Int) underA, he, if_pos ⟨by omega, by omega⟩, hsz]
  simp only [Result.andThen, add_plain, Int.toNat_natCast]
  exact hK _ _ h
theorem quiet_ixA {o : Oper} {a : Act} {C : World → Prop} {K : Act → Prop} (x ix : Operand) (ho : o.op = .indexAddr 23 x ix) (gb go n cap i : Nat) (z : Int) (hx : a.eval x = .slice (some ⟨gb, go, none⟩) n cap) (hix : a.eval ix = .int .i64 z) (hz : z = (i : Int)) (hi : i < n) (hk : K (a.put o.dst (.pointer (some ⟨gb, go + i * 17, none⟩)))) : o.quiet Try.prog a C K := by
  refine ⟨.pointer (some ⟨gb, go + i * 17, none⟩), fun w hw => ?_, hk⟩
  have he : Try.prog.elem 23 = 31 := by kernel_rfl
  have hsz : (sizeOf 31).run Try.prog w = .ok 17 w := by kernel_rfl
  subst hz
  unfold Oper.quietAt execOp
  simp only [ho, hx, hix, Sem.run_bind]
  rw [run_indexAt_slice w 23 ⟨gb, go, none⟩ n cap .i64 (i : Int) underA, he, if_pos ⟨by omega, by omega⟩, hsz]
  simp only [Result.andThen, add_plain, Int.toNat_natCast]
  exact ⟨rfl, rfl⟩
/-- What New told: no table, or one. -/
def TabO (w : World) (L : List Rt) (tv : Value) (e : Int) : Prop :=
  (mayL L = false ∧ tv = .pointer none ∧ e = 1) ∨ (mayL L = true ∧ e = 0 ∧ ∃ g v S, tv = .pointer (some ⟨g, 0, none⟩) ∧ IsOrd L S ∧ Tm w g v S)
theorem TabO.on {w w' : World} {L : List Rt} {tv : Value} {e : Int} (h : TabO w L tv e) (hw : Away [] w w') : TabO w' L tv e := by
  rcases h with h | ⟨h1, h2, g, v, S, h3, h4, h5⟩
  · exact .inl h
  · exact .inr ⟨h1, h2, g, v, S, h3, h4, h5.on hw⟩
def NewO (w : World) (L : List Rt) (E : Ending) (w' : World) : Prop := ∃ tv e, E = .returned (.tuple #[tv, .int .i64 e]) ∧ TabO w' L tv e ∧ Away [] w w'
theorem newO_c {w : World} {v : Value} {L : List Rt} (h : Rd w v L) (hl : L.length ≤ 3518437208790) : Calls Try.prog 7 #[v] w (NewO w L) := by
  refine (new_c h hl).mono ?_
  rintro E w' (⟨hm, rfl, haw⟩ | ⟨hm, g, u, S, rfl, ho, ht, -, -, haw⟩)
  · exact ⟨_, _, rfl, .inl ⟨hm, rfl, rfl⟩, haw⟩
  · exact ⟨_, _, rfl, .inr ⟨hm, rfl, g, u, S, rfl, ho, ht⟩, haw⟩
theorem ord_same {L M S T : List Rt} (hA : ∀ x ∈ L, Okr x) (hp : L.Perm M) (h1 : IsOrd L S) (h2 : IsOrd M T) : S = T :=
  ord_uniq (fun x hx => hA x (h1.1.mem_iff.1 hx)) ((h1.1.trans hp).trans h2.1.symm) h1.2 h2.2
/-- What a destination's answer says of the routes. -/
theorem ans_bad {v : Int} {l : List Int} (S : List Rt) (h : validP v l = false) : findA v l S = (0, 1) := findA_bad h
theorem ans_cases {v : Int} {l : List Int} {L S : List Rt} (hb : Byt l) (hA : ∀ x ∈ L, Okr x) (hm : mayL L = true) (ho : IsOrd L S) (h : validP v l = true) :
    (findA v l S = (0, 210) ∧ ∀ x ∈ L, hitR v l x = false) ∨ ∃ x, findA v l S = (x.k, 0) ∧ Best v l L x := by
  have hm' := mayL_iff.1 hm
  cases hf : findP v l S with
  | none =>
    refine .inl ⟨findA_none h hf, fun x hx => ?_⟩
    exact find_none.1 hf x (ho.1.mem_iff.2 hx)
  | some x =>
    have hB := find_best hb (fun y hy => hm'.2.1 y (ho.1.mem_iff.1 hy)) (fun y hy => hA y (ho.1.mem_iff.1 hy)) ho.2 hf
    exact .inr ⟨x, findA_some h hf, ⟨ho.1.mem_iff.1 hB.mem, hB.hit, fun y hy => hB.top y (ho.1.mem_iff.2 hy)⟩⟩
theorem may_b {x : Rt} (h : mayR x = true) : 0 ≤ x.b := (ok_iff.1 (mayR_iff.1 h).1).2.1
/-- The most bits of the first routes that hold it. -/
def MaxB (v : Int) (l : List Int) (L : List Rt) (k : Nat) (b : Int) : Prop :=
  (∀ (j : Nat) (y : Rt), j < k → L[j]? = some y → hitR v l y = true → y.b ≤ b) ∧ (b = -1 ∨ ∃ (j : Nat) (y : Rt), j < k ∧ L[j]? = some y ∧ hitR v l y = true ∧ y.b = b)
theorem MaxB.start (v : Int) (l : List Int) (L : List Rt) : MaxB v l L 0 (-1) := ⟨fun j y hj => by omega, .inl rfl⟩
theorem MaxB.no {v : Int} {l : List Int} {L : List Rt} {k : Nat} {b : Int} {x : Rt} (h : MaxB v l L k b) (hx : L[k]? = some x) (hh : hitR v l x = true → x.b ≤ b) : MaxB v l L (k + 1) b := by
  refine ⟨fun j y hj hy hit => ?_, ?_⟩
  · rcases Nat.lt_or_ge j k with h1 | h1
    · exact h.1 j y h1 hy hit
    · rw [show j = k from by omega, hx] at hy
      simp only [Option.some.injEq] at hy
      subst hy; exact hh hit
  · rcases h.2 with h1 | ⟨j, y, hj, r⟩
    · exact .inl h1
    · exact .inr ⟨j, y, by omega, r⟩
theorem MaxB.yes {v : Int} {l : List Int} {L : List Rt} {k : Nat} {b : Int} {x : Rt} (h : MaxB v l L k b) (hx : L[k]? = some x) (hh : hitR v l x = true) (hb : b < x.b) : MaxB v l L (k + 1) x.b := by
  refine ⟨fun j y hj hy hit => ?_, .inr ⟨k, x, by omega, hx, hh, rfl⟩⟩
  rcases Nat.lt_or_ge j k with h1 | h1
  · have := h.1 j y h1 hy hit; omega
  · rw [show j = k from by omega, hx] at hy
    simp only [Option.some.injEq] at hy
    subst hy; omega
theorem MaxB.none {v : Int} {l : List Int} {L : List Rt} {b : Int} (h : MaxB v l L L.length b) (hn : ∀ x ∈ L, hitR v l x = false) : b = -1 := by
  rcases h.2 with h1 | ⟨j, y, -, hy, hit, -⟩
  · exact h1
  · rw [hn y (List.mem_of_getElem? hy)] at hit; simp at hit
theorem MaxB.best {v : Int} {l : List Int} {L : List Rt} {b : Int} {x : Rt} (h : MaxB v l L L.length b) (hm : ∀ x ∈ L, mayR x = true) (hB : Best v l L x) : b = x.b := by
  obtain ⟨j, hj, hjx⟩ := List.mem_iff_getElem.1 hB.mem
  have h1 := h.1 j x hj (by rw [← hjx]; exact List.getElem?_eq_getElem hj) hB.hit
  rcases h.2 with h2 | ⟨i, y, hi, hy, hit, hyb⟩
  · have := may_b (hm x hB.mem); omega
  · have := hB.top y (List.mem_of_getElem? hy) hit; omega
theorem best_link {v : Int} {l : List Int} {L : List Rt} {x y : Rt} (hm : mayL L = true) (hB : Best v l L x) (hy : y ∈ L) (hh : hitR v l y = true) (hb : y.b = x.b) : y = x := by
  have hm' := mayL_iff.1 hm
  exact best_uniq hm'.2.1 hm'.2.2 ⟨hy, hh, fun z hz hzh => by have := hB.top z hz hzh; omega⟩ hB
end Go.Proofs.Ytoifolmcdkfniaa
