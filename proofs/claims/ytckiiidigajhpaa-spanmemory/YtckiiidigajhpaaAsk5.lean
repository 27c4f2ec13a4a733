/-
  Answers as pairs, of the program and of the document.
-/
import Derived.Test.YtckiiidigajhpaaAsk4
namespace Go.Proofs.Ytckiiidigajhpaa
open Go.ChangeShapes Go.WideShapes Go.ChangeAt Go.RowKit
set_option linter.unusedVariables false
set_option maxRecDepth 100000
set_option maxHeartbeats 1000000

def AnsS (w : World) (r : List Sp) (e : Int) (E : Ending) (w' : World) : Prop := ∃ (a : Option Addr) (c n : Nat), E = .returned (.tuple #[.slice a n c, .int .i64 e]) ∧ r.length = n ∧ Sl w' a c r ∧ Away [] w w'
def resR (b : Bool) (r : List Sp) : List Sp := if b = true then r else []
def resE (b : Bool) : Int := if b = true then 0 else 1
theorem AnsS.yes {w w' : World} {b : Bool} {r : List Sp} {E : Ending} (h : Tells w E w' r) (hb : b = true) : AnsS w (resR b r) (resE b) E w' := by
  subst hb
  obtain ⟨a, c, n, h1, h2, h3, h4⟩ := h
  exact ⟨a, c, n, h1, h2, h3, h4⟩
theorem AnsS.no {w w' : World} {b : Bool} {r : List Sp} {E : Ending} (h : E = .returned (.tuple #[.slice none 0 0, .int .i64 1]) ∧ Away [] w w') (hb : b = false) : AnsS w (resR b r) (resE b) E w' := by
  subst hb
  exact ⟨none, 0, 0, h.1, rfl, Sl.none _, h.2⟩
def NormIs (l r : List Sp) (e : Int) : Prop := (allIs l = true ∧ Of r (inB l) ∧ e = 0) ∨ (allIs l = false ∧ r = [] ∧ e = 1)
theorem normA {w : World} {a : Option Addr} {l : List Sp} {n c : Nat} (h : Sl w a c l) (hn : l.length = n) :
    Calls Try.prog 9 #[.slice a n c] w fun E w' => ∃ r e, NormIs l r e ∧ AnsS w r e E w' := by
  refine (norm_s h hn).mono ?_
  rintro E w' (⟨h1, r, h2, h3⟩ | ⟨h1, h2⟩)
  · obtain ⟨a, c, n, g1, g2, g3, g4⟩ := h2
    exact ⟨r, 0, .inl ⟨h1, h3, rfl⟩, a, c, n, g1, g2, g3, g4⟩
  · exact ⟨[], 1, .inr ⟨h1, rfl, rfl⟩, none, 0, 0, h2.1, rfl, Sl.none _, h2.2⟩
theorem rnormA {w : World} {a : Option Addr} {l r : List Sp} {e : Int} {n c : Nat} (h : Sl w a c l) (hn : l.length = n) (hr : NormIs l r e) :
    Calls Try.prog 24 #[.slice a n c] w fun E w' => AnsS w r e E w' := by
  rcases hr with ⟨h1, h2, rfl⟩ | ⟨h1, rfl, rfl⟩
  · refine (rnormY r h hn h1 h2).mono ?_
    rintro E w' ⟨a, c, n, g1, g2, g3, g4⟩
    exact ⟨a, c, n, g1, g2, g3, g4⟩
  · refine (rnormN h hn h1).mono ?_
    rintro E w' ⟨g1, g2⟩
    exact ⟨none, 0, 0, g1, rfl, Sl.none _, g2⟩
theorem addA {w : World} {a : Option Addr} {l : List Sp} {n c : Nat} (s : Sp) (h : Sl w a c l) (hn : l.length = n) (ho : Old w a) :
    Calls Try.prog 13 #[.slice a n c, valS s] w fun E w' => AnsS w (resR (rightP l && isB s) (addP l s)) (resE (rightP l && isB s)) E w' := by
  cases hb : (rightP l && isB s)
  · exact (addN s h hn ho hb).mono fun E w' g => AnsS.no g rfl
  · obtain ⟨h1, h2⟩ : rightP l = true ∧ isB s = true := by simpa using hb
    exact (addY s _ h hn ho h1 h2 rfl).mono fun E w' g => AnsS.yes g rfl
theorem raddA {w : World} {a : Option Addr} {l : List Sp} {n c : Nat} (s : Sp) (h : Sl w a c l) (hn : l.length = n) :
    Calls Try.prog 27 #[.slice a n c, valS s] w fun E w' => AnsS w (resR (rightP l && isB s) (addP l s)) (resE (rightP l && isB s)) E w' := by
  cases hb : (rightP l && isB s)
  · exact (raddN s h hn hb).mono fun E w' g => AnsS.no g rfl
  · obtain ⟨h1, h2⟩ : rightP l = true ∧ isB s = true := by simpa using hb
    exact (raddY s _ h hn h1 h2 (add_of h1 (isB_iff.1 h2))).mono fun E w' g => AnsS.yes g rfl
theorem cutA {w : World} {a : Option Addr} {l : List Sp} {n c : Nat} (s : Sp) (h : Sl w a c l) (hn : l.length = n) :
    Calls Try.prog 14 #[.slice a n c, valS s] w fun E w' => AnsS w (resR (rightP l && isB s) (cutP l s)) (resE (rightP l && isB s)) E w' := by
  cases hb : (rightP l && isB s)
  · exact (cutN s h hn hb).mono fun E w' g => AnsS.no g rfl
  · obtain ⟨h1, h2⟩ : rightP l = true ∧ isB s = true := by simpa using hb
    exact (cutY s _ h hn h1 h2 rfl).mono fun E w' g => AnsS.yes g rfl
theorem rcutA {w : World} {a : Option Addr} {l : List Sp} {n c : Nat} (s : Sp) (h : Sl w a c l) (hn : l.length = n) :
    Calls Try.prog 28 #[.slice a n c, valS s] w fun E w' => AnsS w (resR (rightP l && isB s) (cutP l s)) (resE (rightP l && isB s)) E w' := by
  cases hb : (rightP l && isB s)
  · exact (rcutN s h hn hb).mono fun E w' g => AnsS.no g rfl
  · obtain ⟨h1, h2⟩ : rightP l = true ∧ isB s = true := by simpa using hb
    exact (rcutY s _ h hn h1 h2 (cut_of h1 (isB_iff.1 h2))).mono fun E w' g => AnsS.yes g rfl
theorem holesA {w : World} {a : Option Addr} {l : List Sp} {n c : Nat} (to : Int) (h : Sl w a c l) (hn : l.length = n) :
    Calls Try.prog 15 #[.slice a n c, .int .i64 to] w fun E w' => AnsS w (resR (rightP l && decide (0 ≤ to ∧ to ≤ 65535)) (holesP l to)) (resE (rightP l && decide (0 ≤ to ∧ to ≤ 65535))) E w' := by
  cases hb : (rightP l && decide (0 ≤ to ∧ to ≤ 65535))
  · exact (holesN to h hn hb).mono fun E w' g => AnsS.no g rfl
  · obtain ⟨h1, h2⟩ : rightP l = true ∧ (0 ≤ to ∧ to ≤ 65535) := by simpa using hb
    exact (holesY to _ h hn h1 h2 rfl).mono fun E w' g => AnsS.yes g rfl
theorem rholesA {w : World} {a : Option Addr} {l : List Sp} {n c : Nat} (to : Int) (h : Sl w a c l) (hn : l.length = n) :
    Calls Try.prog 29 #[.slice a n c, .int .i64 to] w fun E w' => AnsS w (resR (rightP l && decide (0 ≤ to ∧ to ≤ 65535)) (holesP l to)) (resE (rightP l && decide (0 ≤ to ∧ to ≤ 65535))) E w' := by
  cases hb : (rightP l && decide (0 ≤ to ∧ to ≤ 65535))
  · exact (rholesN to h hn hb).mono fun E w' g => AnsS.no g rfl
  · obtain ⟨h1, h2⟩ : rightP l = true ∧ (0 ≤ to ∧ to ≤ 65535) := by simpa using hb
    exact (rholesY to _ h hn h1 h2 (holes_of h1 h2.2)).mono fun E w' g => AnsS.yes g rfl
theorem rrightS {z : Bool} {w : World} {a : Option Addr} {l : List Sp} {n c : Nat} (h : Sl w a c l) (hn : l.length = n) (hz : rightP l = z) :
    Calls Try.prog 25 #[.slice a n c] w fun E w' => E = .returned (.bool z) ∧ Away [] w w' := rright_b a l n c w hn h.row hz
theorem rsizeS {z : Int} {w : World} {a : Option Addr} {l : List Sp} {n c : Nat} (h : Sl w a c l) (hn : l.length = n) (hz : sizeP l = z) :
    Calls Try.prog 26 #[.slice a n c] w fun E w' => E = .returned (.int .i64 z) ∧ Away [] w w' := by rw [← hz]; exact rsize_c a l n c w hn h.row
#print axioms rholesA
end Go.Proofs.Ytckiiidigajhpaa
