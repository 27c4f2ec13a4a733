/-
  A list of lists of bytes, each in a block of its own, apart from one another: its marks and its appends (for Ip6Memory).
-/
import Derived.Test.YtbmppdihceaacaaStp
namespace Go.Proofs.Ytbmppdihceaacaa
open Go.ChangeShapes Go.WideShapes Go.ChangeAt Go.RowKit Go.Deep Num
set_option linter.unusedVariables false

structure Lots (w : World) (gv : Nat) (P : List (Value × List Int)) : Prop where
  blk : w.heap[gv]? = some (.cells (P.map (·.1)).toArray 26 (0, 0))
  own : ∀ (j : Nat) (p : Value × List Int), P[j]? = some p → Owns w p.1 p.2 ∧ p.1.ownBlock ≠ some gv
  apart : ∀ (i j : Nat) (p q : Value × List Int) (b : Nat), i ≠ j → P[i]? = some p → P[j]? = some q → p.1.ownBlock = some b → q.1.ownBlock ≠ some b
theorem Lots.cell {w : World} {gv : Nat} {P : List (Value × List Int)} (h : Lots w gv P) {j : Nat} {p : Value × List Int} (hp : P[j]? = some p) : w.cell? ⟨gv, j, none⟩ = some p.1 := by
  rw [cell_of_block h.blk]; simp [hp]
theorem Lots.free {w : World} {gv : Nat} {P : List (Value × List Int)} (h : Lots w gv P) (j : Nat) : w.frozen? ⟨gv, j, none⟩ = false := free_of_block h.blk j
/-- What touches neither the list nor any of its lists. -/
theorem Lots.away {S : List Nat} {w w' : World} {gv : Nat} {P : List (Value × List Int)} (h : Lots w gv P) (hw : Away S w w') (hg : gv ∉ S) (hP : ∀ (j : Nat) (p : Value × List Int), P[j]? = some p → ∀ b, p.1.ownBlock = some b → b ∉ S) : Lots w' gv P :=
  ⟨hw.keep hg h.blk, fun j p hp => ⟨(h.own j p hp).1.away hw (hP j p hp), (h.own j p hp).2⟩, h.apart⟩
theorem Lots.on {w w' : World} {gv : Nat} {P : List (Value × List Int)} (h : Lots w gv P) (hw : Away [] w w') : Lots w' gv P := h.away hw (by simp) (by simp)
theorem set_cases {α : Type} {P : List α} {i j : Nat} {x p : α} (h : (P.set i x)[j]? = some p) : (i = j ∧ p = x ∧ j < P.length) ∨ (i ≠ j ∧ P[j]? = some p) := by
  rw [List.getElem?_set] at h
  by_cases e : i = j
  · rw [if_pos e] at h
    by_cases hl : i < P.length
    · rw [if_pos hl] at h; exact .inl ⟨e, (Option.some.inj h).symm, by omega⟩
    · rw [if_neg hl] at h; cases h
  · rw [if_neg e] at h; exact .inr ⟨e, h⟩
/-- One byte of one list is written. -/
theorem Lots.mark {w : World} {gv b n c i : Nat} {l : List Int} {P : List (Value × List Int)} (h : Lots w gv P) (hp : P[i]? = some (.slice (some ⟨b, 0, none⟩) n c, l)) (hn : l.length = n) (k : Nat) (u : Int) :
    Lots (w.setCell ⟨b, k, none⟩ (.int .u8 u)) gv (P.set i (.slice (some ⟨b, 0, none⟩) n c, l.set k u)) := by
  have hb : (Value.slice (some ⟨b, 0, none⟩) n c).ownBlock = some b := rfl
  have hw : Away [b] w (w.setCell ⟨b, k, none⟩ (.int .u8 u)) := away_put k _
  have hbg : gv ≠ b := fun e => (h.own i _ hp).2 (by rw [e]; exact hb)
  have em : (P.set i ((Value.slice (some ⟨b, 0, none⟩) n c, l.set k u) : Value × List Int)).map (·.1) = P.map (·.1) := by
    rw [List.map_set]
    refine List.ext_getElem? fun j => ?_
    rw [List.getElem?_set]
    split
    · rename_i e
      subst e
      have hl : i < P.length := by
        rcases Nat.lt_or_ge i P.length with h | h
        · exact h
        · rw [List.getElem?_eq_none h] at hp; cases hp
      have hq : P[i] = (Value.slice (some ⟨b, 0, none⟩) n c, l) := by rw [List.getElem?_eq_getElem hl] at hp; exact Option.some.inj hp
      simp [hl, hq]
    · rfl
  refine ⟨by rw [em]; exact hw.keep (by simpa using hbg) h.blk, fun j p hj => ?_, fun x y p q bb hxy hx hy hbb => ?_⟩
  · rcases set_cases hj with ⟨rfl, rfl, _⟩ | ⟨hne, hj⟩
    · exact ⟨(h.own i _ hp).1.set hn k u, (h.own i _ hp).2⟩
    · exact ⟨(h.own j p hj).1.away hw (fun z hz => by simp; exact fun e => h.apart j i p _ z (fun e => hne e.symm) hj hp hz (by rw [e]; exact hb)), (h.own j p hj).2⟩
  · rcases set_cases hx with ⟨rfl, rfl, _⟩ | ⟨hne, hx⟩ <;> rcases set_cases hy with ⟨rfl, rfl, _⟩ | ⟨hne', hy⟩
    · exact absurd rfl hxy
    · exact h.apart i y _ q bb hxy hp hy hbb
    · exact h.apart x i p (_, l) bb hxy hx hp hbb
    · exact h.apart x y p q bb hxy hx hy hbb
/-- One list is made longer, and stored at its place. -/
theorem Lots.grow {w w' : World} {gv i : Nat} {v v' : Value} {l l' : List Int} {P : List (Value × List Int)} (h : Lots w gv P) (hp : P[i]? = some (v, l)) (r1 : Owns w' v' l') (r2 : w.grownBy w' v.ownBlock) (r3 : Moved w v v') :
    Lots (w'.setCell ⟨gv, i, none⟩ v') gv (P.set i (v', l')) := by
  have hlt := lt_of_block h.blk
  have hw1 : Away v.ownBlock.toList w w' := (Away.refl _ w).grown r2 (fun k hk => .inl (by simp [hk]))
  have hg1 : gv ∉ v.ownBlock.toList := by
    intro hm
    simp at hm
    exact (h.own i _ hp).2 hm
  have hb1 := hw1.keep hg1 h.blk
  have hw2 : Away [gv] w' (w'.setCell ⟨gv, i, none⟩ v') := away_put i _
  have hv' : v'.ownBlock ≠ some gv := fun e => by
    rcases r3 gv e with h1 | h1
    · exact (h.own i _ hp).2 h1
    · omega
  have key : ∀ (j : Nat) (q : Value × List Int) (b : Nat), i ≠ j → P[j]? = some q → q.1.ownBlock = some b → v'.ownBlock ≠ some b := fun j q b hne hq hqb e => by
    rcases r3 b e with h1 | h1
    · exact h.apart i j _ q b hne hp hq h1 hqb
    · have := (h.own j q hq).1.lt b hqb
      omega
  refine ⟨by rw [block_set hb1, List.map_set]; simp, fun j p hj => ?_, fun x y p q bb hxy hx hy hbb => ?_⟩
  · rcases set_cases hj with ⟨rfl, rfl, _⟩ | ⟨hne, hj⟩
    · exact ⟨r1.away hw2 (fun z hz => by simp; exact fun e => hv' (by rw [← e]; exact hz)), hv'⟩
    · have ho := (h.own j p hj)
      refine ⟨(ho.1.away hw1 (fun z hz hm => ?_)).away hw2 (fun z hz => by simp; exact fun e => ho.2 (by rw [← e]; exact hz)), ho.2⟩
      simp at hm
      exact h.apart i j _ p z hne hp hj hm hz
  · rcases set_cases hx with ⟨rfl, rfl, _⟩ | ⟨hne, hx⟩ <;> rcases set_cases hy with ⟨rfl, rfl, _⟩ | ⟨hne', hy⟩
    · exact absurd rfl hxy
    · exact fun e => key y q bb hxy hy e hbb
    · exact key x p bb (fun e => hxy e.symm) hx hbb
    · exact h.apart x y p q bb hxy hx hy hbb
#print axioms Lots.grow
end Go.Proofs.Ytbmppdihceaacaa
