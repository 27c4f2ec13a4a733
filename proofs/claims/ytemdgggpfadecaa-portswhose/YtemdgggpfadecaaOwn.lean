/-
  Tables and lists with owners of their blocks.
-/
import Derived.Test.YtemdgggpfadecaaKit
namespace Go.Proofs.Ytemdgggpfadecaa
open Go.ChangeShapes Go.WideShapes Go.ChangeAt Go.RowKit
set_option linter.unusedVariables false
set_option linter.unusedSimpArgs false
set_option maxRecDepth 100000

namespace KB
/-- A table whose blocks are k's. -/
def Ow (o : Nat → Nat) (k : Nat) (w : World) (g : Nat) (t : Tb) : Prop := ∃ v, Tm w g v t ∧ o g = k ∧ ∀ x, v.ownBlock = some x → o x = k
theorem Ow.wf {o : Nat → Nat} {k : Nat} {w : World} {g : Nat} {t : Tb} (h : Ow o k w g t) : WfT t := by obtain ⟨v, h1, -⟩ := h; exact h1.wf
theorem Ow.lt {o : Nat → Nat} {k : Nat} {w : World} {g : Nat} {t : Tb} (h : Ow o k w g t) : g < w.heap.size := by obtain ⟨v, h1, -⟩ := h; exact h1.lt
theorem Ow.on {o : Nat → Nat} {k : Nat} {w w' : World} {g : Nat} {t : Tb} (h : Ow o k w g t) (hw : Away [] w w') : Ow o k w' g t := by
  obtain ⟨v, h1, h2, h3⟩ := h
  exact ⟨v, h1.on hw, h2, h3⟩
theorem Ow.keep {o : Nat → Nat} {j k : Nat} {w w' : World} {g : Nat} {t : Tb} (h : Ow o j w g t) (hc : Chg o k w w') (hj : j ≠ k) : Ow (give o w k) j w' g t := by
  obtain ⟨v, h1, h2, h3⟩ := h
  obtain ⟨S, ha, hS⟩ := hc
  refine ⟨v, h1.away ha (fun hm => hj (by rw [← h2]; exact hS g hm)) (fun x hx hm => hj (by rw [← h3 x hx]; exact hS x hm)), ?_, fun x hx => ?_⟩
  · rw [give_old h1.lt]; exact h2
  · rw [give_old (h1.lst.lt x hx)]; exact h3 x hx
theorem Ow.step {o : Nat → Nat} {k : Nat} {w w' : World} {g : Nat} {v v' : Value} {t t' : Tb} (h : Tm w g v t) (hg : o g = k) (hv : ∀ x, v.ownBlock = some x → o x = k) (h' : Tm w' g v' t') (ha : Away (fp g v) w w') (hm : Moved w v v') : Ow (give o w k) k w' g t' ∧ Chg o k w w' := by
  refine ⟨⟨v', h', ?_, fun x hx => ?_⟩, fp g v, ha, fun s hs => ?_⟩
  · rw [give_old h.lt]; exact hg
  · rcases hm x hx with h1 | h1
    · rw [give_old (h.lst.lt x h1)]; exact hv x h1
    · exact give_new h1
  · simp [fp] at hs
    rcases hs with rfl | hs
    · exact hg
    · exact hv s hs
end KB
namespace KS
/-- A table whose blocks are k's. -/
def Ow (o : Nat → Nat) (k : Nat) (w : World) (g : Nat) (t : Tb) : Prop := ∃ v, Tm w g v t ∧ o g = k ∧ ∀ x, v.ownBlock = some x → o x = k
theorem Ow.wf {o : Nat → Nat} {k : Nat} {w : World} {g : Nat} {t : Tb} (h : Ow o k w g t) : WfT t := by obtain ⟨v, h1, -⟩ := h; exact h1.wf
theorem Ow.lt {o : Nat → Nat} {k : Nat} {w : World} {g : Nat} {t : Tb} (h : Ow o k w g t) : g < w.heap.size := by obtain ⟨v, h1, -⟩ := h; exact h1.lt
theorem Ow.on {o : Nat → Nat} {k : Nat} {w w' : World} {g : Nat} {t : Tb} (h : Ow o k w g t) (hw : Away [] w w') : Ow o k w' g t := by
  obtain ⟨v, h1, h2, h3⟩ := h
  exact ⟨v, h1.on hw, h2, h3⟩
theorem Ow.keep {o : Nat → Nat} {j k : Nat} {w w' : World} {g : Nat} {t : Tb} (h : Ow o j w g t) (hc : Chg o k w w') (hj : j ≠ k) : Ow (give o w k) j w' g t := by
  obtain ⟨v, h1, h2, h3⟩ := h
  obtain ⟨S, ha, hS⟩ := hc
  refine ⟨v, h1.away ha (fun hm => hj (by rw [← h2]; exact hS g hm)) (fun x hx hm => hj (by rw [← h3 x hx]; exact hS x hm)), ?_, fun x hx => ?_⟩
  · rw [give_old h1.lt]; exact h2
  · rw [give_old (h1.lst.lt x hx)]; exact h3 x hx
theorem Ow.step {o : Nat → Nat} {k : Nat} {w w' : World} {g : Nat} {v v' : Value} {t t' : Tb} (h : Tm w g v t) (hg : o g = k) (hv : ∀ x, v.ownBlock = some x → o x = k) (h' : Tm w' g v' t') (ha : Away (fp g v) w w') (hm : Moved w v v') : Ow (give o w k) k w' g t' ∧ Chg o k w w' := by
  refine ⟨⟨v', h', ?_, fun x hx => ?_⟩, fp g v, ha, fun s hs => ?_⟩
  · rw [give_old h.lt]; exact hg
  · rcases hm x hx with h1 | h1
    · rw [give_old (h.lst.lt x h1)]; exact hv x h1
    · exact give_new h1
  · simp [fp] at hs
    rcases hs with rfl | hs
    · exact hg
    · exact hv s hs
end KS

/-- A list of ints whose block is k's. -/
def Li (o : Nat → Nat) (k : Nat) (w : World) (v : Value) (l : List Int) : Prop := LI w v l ∧ ∀ x, v.ownBlock = some x → o x = k
theorem Li.on {o : Nat → Nat} {k : Nat} {w w' : World} {v : Value} {l : List Int} (h : Li o k w v l) (hw : Away [] w w') : Li o k w' v l := ⟨h.1.on hw, h.2⟩
theorem Li.keep {o : Nat → Nat} {j k : Nat} {w w' : World} {v : Value} {l : List Int} (h : Li o j w v l) (hc : Chg o k w w') (hj : j ≠ k) : Li (give o w k) j w' v l := by
  obtain ⟨S, ha, hS⟩ := hc
  exact ⟨h.1.away ha (fun x hx hm => hj (by rw [← h.2 x hx]; exact hS x hm)), fun x hx => by rw [give_old (h.1.lt x hx)]; exact h.2 x hx⟩
theorem Li.new {o : Nat → Nat} {w w' : World} {v : Value} {l : List Int} (k : Nat) (h : LI w' v l) (hn : New w.heap.size v) : Li (give o w k) k w' v l := ⟨h, fun x hx => give_new (hn x hx)⟩
theorem Out.on {o : Nat → Nat} {W w w' : World} (h : Out o W w) (hw : Away [] w w') : Out o W w' := ⟨h.1.trans hw, h.2⟩
/-- What came in and is not written over stands. -/
theorem Out.row {o : Nat → Nat} {W w : World} {a : Option Addr} {l : List Opr} (h : Out o W w) (hr : RowO W a l) : RowO w a l := hr.on h.1
theorem new_o (o : Nat → Nat) (k : Nat) (m : Int) (w : World) (h0 : 1 ≤ m) (h1 : m ≤ 32) :
    Calls Try.prog 8 #[.int .i64 m] w fun E w' => ∃ g, E = .returned (.tuple #[.pointer (some ⟨g, 0, none⟩), .int .i64 0]) ∧ KB.Ow (give o w k) k w' g ⟨m, 0, []⟩ ∧ Chg o k w w' := by
  refine (new_c m w).mono ?_
  rintro E w' (⟨h2, -⟩ | ⟨-, g, rfl, hg, ht, ha⟩)
  · omega
  · exact ⟨g, rfl, ⟨_, ht, give_new hg, by simp [Value.ownBlock]⟩, Chg.on k ha⟩
section
variable {o : Nat → Nat} {k : Nat} {w : World} {g : Nat} {t : Tb}
theorem bind_o (h : KB.Ow o k w g t) (av : Int) (al : List Int) (hl : Byt al) (p : Int) (hb : t.last < 9223372036854775807) :
    Calls Try.prog 9 #[.pointer (some ⟨g, 0, none⟩), .agg (csA av al), .int .i64 p] w fun E w' => E = .returned (.tuple #[.int .i64 (bindP t av al p).1.1, .int .i64 (bindP t av al p).1.2.1, .int .i64 (bindP t av al p).1.2.2]) ∧ KB.Ow (give o w k) k w' g (bindP t av al p).2 ∧ Chg o k w w' := by
  obtain ⟨v, h1, h2, h3⟩ := h
  refine (bind_c h1 av al hl p hb).mono ?_
  rintro E w' ⟨rfl, v', ht, ha, hm⟩
  exact ⟨rfl, KB.Ow.step h1 h2 h3 ht ha hm⟩
theorem close_o (h : KB.Ow o k w g t) (s : Int) :
    Calls Try.prog 11 #[.pointer (some ⟨g, 0, none⟩), .int .i64 s] w fun E w' => E = .returned (.int .i64 (closeP t s).1) ∧ KB.Ow (give o w k) k w' g (closeP t s).2 ∧ Chg o k w w' := by
  obtain ⟨v, h1, h2, h3⟩ := h
  refine (close_c h1 s).mono ?_
  rintro E w' ⟨rfl, v', ht, ha, hm⟩
  exact ⟨rfl, KB.Ow.step h1 h2 h3 ht ha hm⟩
theorem find_o (h : KB.Ow o k w g t) (av : Int) (al : List Int) (hl : al.length = 16) (p : Int) :
    Calls Try.prog 16 #[.pointer (some ⟨g, 0, none⟩), .agg (csA av al), .int .i64 p] w fun E w' => E = .returned (.int .i64 (findP t.bs av al p)) ∧ Away [] w w' := by
  obtain ⟨v, h1, h2, h3⟩ := h
  exact find_c h1 av al hl p
theorem at_o (h : KB.Ow o k w g t) (s : Int) :
    Calls Try.prog 17 #[.pointer (some ⟨g, 0, none⟩), .int .i64 s] w fun E w' => E = .returned (.tuple #[.agg (csA (atP t s).1 (atP t s).2.1), .int .i64 (atP t s).2.2.1, .int .i64 (atP t s).2.2.2]) ∧ Away [] w w' := by
  obtain ⟨v, h1, h2, h3⟩ := h
  exact at_c h1 s
theorem all_o (h : KB.Ow o k w g t) (j : Nat) :
    Calls Try.prog 12 #[.pointer (some ⟨g, 0, none⟩)] w fun E w' => ∃ r, E = .returned r ∧ Li (give o w j) j w' r (t.bs.map (·.n)) ∧ Away [] w w' := by
  obtain ⟨v, h1, h2, h3⟩ := h
  refine (all_c h1).mono ?_
  rintro E w' ⟨r, rfl, hl, hn, ha⟩
  exact ⟨r, rfl, Li.new j hl hn, ha⟩
end
theorem KB.Ow.give {o : Nat → Nat} {k : Nat} {w w' : World} {g : Nat} {t : Tb} (h : KB.Ow o k w g t) (j : Nat) (ha : Away [] w w') : KB.Ow (Ytemdgggpfadecaa.give o w j) k w' g t := by
  obtain ⟨v, h1, h2, h3⟩ := h
  exact ⟨v, h1.on ha, by rw [give_old h1.lt]; exact h2, fun x hx => by rw [give_old (h1.lst.lt x hx)]; exact h3 x hx⟩
theorem Li.give {o : Nat → Nat} {k : Nat} {w w' : World} {v : Value} {l : List Int} (h : Li o k w v l) (j : Nat) (ha : Away [] w w') : Li (Ytemdgggpfadecaa.give o w j) k w' v l := ⟨h.1.on ha, fun x hx => by rw [give_old (h.1.lt x hx)]; exact h.2 x hx⟩
theorem Out.give {o : Nat → Nat} {W w w' : World} (h : Out o W w) (j : Nat) (ha : Away [] w w') : Out (Ytemdgggpfadecaa.give o w j) W w' := ⟨h.1.trans ha, fun b hb => by rw [give_old (Nat.lt_of_lt_of_le hb h.1.size)]; exact h.2 b hb⟩
/-! The first example of the document. -/
def a1 : List Int := [10, 0, 0, 1, 0, 0, 0, 0, 0, 0, 0, 0, 0, 0, 0, 0]
def a9 : List Int := [10, 0, 0, 9, 0, 0, 0, 0, 0, 0, 0, 0, 0, 0, 0, 0]
theorem a1_byt : Byt a1 := ⟨rfl, by decide⟩
theorem a9_byt : Byt a9 := ⟨rfl, by decide⟩
def al0 : Tb := ⟨3, 0, []⟩
def al1 : Tb := ⟨3, 1, [⟨1, 4, a1, 53⟩]⟩
def al2 : Tb := ⟨3, 2, [⟨1, 4, a1, 53⟩, ⟨2, 4, z16, 53⟩]⟩
theorem al_1 : bindP al0 4 a1 53 = ((1, 53, 0), al1) := by kernel_rfl
theorem al_2 : bindP al1 4 z16 53 = ((2, 53, 0), al2) := by kernel_rfl
theorem al_f1 : findP al2.bs 4 a1 53 = 1 := by kernel_rfl
theorem al_f2 : findP al2.bs 4 a9 53 = 2 := by kernel_rfl
theorem al_f3 : findP al2.bs 4 a1 54 = 0 := by kernel_rfl
theorem run_build4 (w : World) (v : Int) : (Instr.build 32 #[(0, .int .i64 v)]).run Try.prog w = .ok (.agg (csA v z16)) w := by kernel_rfl
theorem wpList_build4 {ops : Array Oper} {rest : List Oper} {o : Oper} {a : Act} {w : World} {Q : Exit → Act → World → Prop} (hg : o.guard = none) (x : Operand) (ho : o.op = .build 32 #[(0, x)]) (v : Int) (hx : a.eval x = .int .i64 v)
    (h : wpList Try.prog ops Q rest (a.put o.dst (.agg (csA v z16))) w) : wpList Try.prog ops Q (o :: rest) a w := by
  refine wpList_plain hg fun K hK => ?_
  unfold Oper.wp execOp
  simp only [ho, List.map_toArray, List.map_cons, List.map_nil, hx, run_build4, Sem.run_bind, Result.andThen_ok, Sem.run_pure]
  exact hK _ _ h
set_option maxHeartbeats 8000000 in
theorem alive_c (w : World) : Calls Try.prog 7 #[] w fun E w' => E = .returned (.bool true) ∧ Away [] w w' := by
  go_enter Try.func7, Try.ntmps7
  go_wp2_with fail
  refine (new_o (fun _ => 0) 1 3 w (by omega) (by omega)).mono ?_
  rintro E w1 ⟨g, rfl, ho, hc⟩
  have HO := Lib.hid ho
  have HU := Lib.hid ((Out.start w).keep hc (by decide))
  clear ho hc
  go_wp2_with fail
  refine (four_c 1 _).mono ?_
  rintro E w2 ⟨rfl, haw⟩
  replace HO := Lib.hid (HO.out.on haw)
  replace HU := Lib.hid (HU.out.on haw)
  clear haw
  go_wp2_with fail
  refine (bind_o HO.out 4 a1 a1_byt 53 (by decide)).mono ?_
  rintro E w3 ⟨rfl, ho, hc⟩
  replace HU := Lib.hid (HU.out.keep hc (by decide))
  rw [show (⟨3, 0, []⟩ : Tb) = al0 from rfl, al_1] at ho ⊢
  replace HO := Lib.hid ho
  clear ho hc
  go_wp2_with (refine wpList_build4 rfl _ rfl 4 rfl ?_)
  refine (bind_o HO.out 4 z16 z16_byt 53 (by decide)).mono ?_
  rintro E w4 ⟨rfl, ho, hc⟩
  replace HU := Lib.hid (HU.out.keep hc (by decide))
  rw [al_2] at ho ⊢
  replace HO := Lib.hid ho
  clear ho hc
  go_wp2_with fail
  refine (four_c 1 _).mono ?_
  rintro E w5 ⟨rfl, haw⟩
  replace HO := Lib.hid (HO.out.on haw)
  replace HU := Lib.hid (HU.out.on haw)
  clear haw
  go_wp2_with fail
  refine (find_o HO.out 4 a1 rfl 53).mono ?_
  rintro E w6 ⟨rfl, haw⟩
  replace HO := Lib.hid (HO.out.on haw)
  replace HU := Lib.hid (HU.out.on haw)
  rw [al_f1]
  clear haw
  go_wp2_with fail
  refine (four_c 9 _).mono ?_
  rintro E w7 ⟨rfl, haw⟩
  replace HO := Lib.hid (HO.out.on haw)
  replace HU := Lib.hid (HU.out.on haw)
  clear haw
  go_wp2_with fail
  refine (find_o HO.out 4 a9 rfl 53).mono ?_
  rintro E w8 ⟨rfl, haw⟩
  replace HO := Lib.hid (HO.out.on haw)
  replace HU := Lib.hid (HU.out.on haw)
  rw [al_f2]
  clear haw
  go_wp2_with fail
  refine (four_c 1 _).mono ?_
  rintro E w9 ⟨rfl, haw⟩
  replace HO := Lib.hid (HO.out.on haw)
  replace HU := Lib.hid (HU.out.on haw)
  clear haw
  go_wp2_with fail
  refine (find_o HO.out 4 a1 rfl 54).mono ?_
  rintro E w10 ⟨rfl, haw⟩
  replace HU := Lib.hid (HU.out.on haw)
  rw [al_f3]
  clear haw
  go_wp2_with fail
  go_ret
  exact ⟨rfl, HU.out.1⟩
end Go.Proofs.Ytemdgggpfadecaa
