/-
  Queues of kind KS, with an owner of their blocks.
-/
import Derived.Test.YtdgkkbiodhbmeaaKSP
namespace Go.Proofs.Ytdgkkbiodhbmeaa.KS
open Go.ChangeShapes Go.WideShapes Go.ChangeAt Go.RowKit
set_option linter.unusedVariables false
set_option maxRecDepth 100000

def Shp (t : Th) : Prop := ∃ (s0 : ByteArray), t.x = [.string s0]
/-- A queue whose blocks are k's. -/
def Ow (o : Nat → Nat) (k : Nat) (w : World) (g : Nat) (c b : Int) (F : Nat) (L : List Th) : Prop := ∃ v, Qu w g v c b F L ∧ o g = k ∧ (∀ x, v.ownBlock = some x → o x = k) ∧ ∀ t ∈ L, Shp t
theorem Ow.bnd {o : Nat → Nat} {k : Nat} {w : World} {g : Nat} {c b : Int} {F : Nat} {L : List Th} (h : Ow o k w g c b F L) : Bnd c b L := by obtain ⟨v, h1, -⟩ := h; exact h1.bnd
theorem Ow.shp {o : Nat → Nat} {k : Nat} {w : World} {g : Nat} {c b : Int} {F : Nat} {L : List Th} (h : Ow o k w g c b F L) : ∀ t ∈ L, Shp t := by obtain ⟨v, h1, h2, h3, h4⟩ := h; exact h4
theorem Ow.lt {o : Nat → Nat} {k : Nat} {w : World} {g : Nat} {c b : Int} {F : Nat} {L : List Th} (h : Ow o k w g c b F L) : g < w.heap.size := by obtain ⟨v, h1, -⟩ := h; exact h1.cel.lt
theorem Ow.keep {o : Nat → Nat} {j k : Nat} {w w' : World} {g : Nat} {c b : Int} {F : Nat} {L : List Th} (h : Ow o j w g c b F L) (hc : Chg o k w w') (hj : j ≠ k) : Ow (give o w k) j w' g c b F L := by
  obtain ⟨v, h1, h2, h3, h4⟩ := h
  obtain ⟨S, ha, hS⟩ := hc
  refine ⟨v, h1.away ha (fun hm => hj (by rw [← h2]; exact hS g hm)) (fun x hx hm => hj (by rw [← h3 x hx]; exact hS x hm)), ?_, fun x hx => ?_, h4⟩
  · rw [give_old h1.cel.lt]; exact h2
  · rw [give_old (h1.lst.lt x hx)]; exact h3 x hx
theorem Ow.on {o : Nat → Nat} {j k : Nat} {w w' : World} {g : Nat} {c b : Int} {F : Nat} {L : List Th} (h : Ow o j w g c b F L) (ha : Away [] w w') : Ow (give o w k) j w' g c b F L := by
  obtain ⟨v, h1, h2, h3, h4⟩ := h
  refine ⟨v, h1.on ha, ?_, fun x hx => ?_, h4⟩
  · rw [give_old h1.cel.lt]; exact h2
  · rw [give_old (h1.lst.lt x hx)]; exact h3 x hx
/-- Behind a step of its own. -/
theorem Ow.step {o : Nat → Nat} {k : Nat} {w w' : World} {g : Nat} {v v' : Value} {c b : Int} {F : Nat} {L : List Th} (h : Qu w g v c b F L) (hg : o g = k) (hv : ∀ x, v.ownBlock = some x → o x = k) {L' : List Th} (h' : Qu w' g v' c b F L') (hs : ∀ t ∈ L', Shp t) (ha : Away (fp g v) w w') (hm : Moved w v v') : Ow (give o w k) k w' g c b F L' ∧ Chg o k w w' := by
  refine ⟨⟨v', h', ?_, fun x hx => ?_, hs⟩, fp g v, ha, fun s hs => ?_⟩
  · rw [give_old h.cel.lt]; exact hg
  · rcases hm x hx with h1 | h1
    · rw [give_old (h.lst.lt x h1)]; exact hv x h1
    · exact give_new h1
  · simp [fp] at hs
    rcases hs with rfl | hs
    · exact hg
    · exact hv s hs
theorem new_o (o : Nat → Nat) (k : Nat) (c b : Int) (F : Nat) (w : World) (c0 : 0 ≤ c) (c1 : c ≤ 64) (b0 : 0 ≤ b) (b1 : b ≤ 9223372036854775807) :
    Calls Try.prog 32 #[.int .i64 c, .int .i64 b, .func (.func F) #[] #[]] w fun E w' => ∃ g, E = .returned (.tuple #[.pointer (some ⟨g, 0, none⟩), .int .i64 0]) ∧ Ow (give o w k) k w' g c b F [] ∧ Chg o k w w' := by
  refine (new_yes c b F w c0 c1 b0 b1).mono ?_
  rintro E w' ⟨g, rfl, hq, ha, hg⟩
  exact ⟨g, rfl, ⟨_, hq, give_new hg, by simp [Value.ownBlock], by simp⟩, Chg.on k ha⟩
theorem pop_n {o : Nat → Nat} {k : Nat} {w : World} {g : Nat} {c b : Int} {F : Nat} (h : Ow o k w g c b F []) :
    Calls Try.prog 37 #[.pointer (some ⟨g, 0, none⟩)] w fun E w' => E = .returned (.tuple #[(.string ⟨#[]⟩), .bool false]) ∧ Ow (give o w k) k w' g c b F [] ∧ Chg o k w w' := by
  obtain ⟨v, h1, h2, h3, h4⟩ := h
  refine (pop_none h1).mono ?_
  rintro E w' ⟨rfl, ha⟩
  exact ⟨rfl, Ow.on ⟨v, h1, h2, h3, h4⟩ ha, Chg.on k ha⟩
theorem pop_s {o : Nat → Nat} {k : Nat} {w : World} {g : Nat} {c b : Int} {F : Nat} (s0 : ByteArray) (m : Int) {r : List Th} (h : Ow o k w g c b F (⟨[.string s0], m⟩ :: r)) :
    Calls Try.prog 37 #[.pointer (some ⟨g, 0, none⟩)] w fun E w' => E = .returned (.tuple #[(.string s0), .bool true]) ∧ Ow (give o w k) k w' g c b F r ∧ Chg o k w w' := by
  obtain ⟨v, h1, h2, h3, h4⟩ := h
  refine (pop_some s0 m h1).mono ?_
  rintro E w' ⟨rfl, v', hq, ha, hm⟩
  exact ⟨rfl, Ow.step h1 h2 h3 hq (fun t ht => h4 t (by simp [ht])) ha hm⟩
theorem bytes_o {o : Nat → Nat} {k : Nat} {w : World} {g : Nat} {c b : Int} {F : Nat} {L : List Th} (h : Ow o k w g c b F L) : Calls Try.prog 39 #[.pointer (some ⟨g, 0, none⟩)] w fun E w' => E = .returned (.int .i64 (sumT L)) ∧ w' = w := by
  obtain ⟨v, h1, h2, h3, h4⟩ := h
  exact bytes_c h1
theorem size33 (s0 : ByteArray) (h1 : s0.size ≤ 9223372036854775807) (w : World) : Calls Try.prog 33 #[(.string s0)] w fun E w' => E = .returned (.int .i64 (s0.size : Int)) ∧ Away [] w w' := by
  go_enter Try.func33, Try.ntmps33
  go_wp2_with fail
  go_ret
  exact ⟨rfl, Away.refl _ _⟩
theorem push33_o {o : Nat → Nat} {k : Nat} {w : World} {g : Nat} {c b : Int} {L : List Th} (s0 : ByteArray) (m : Int) (h : Ow o k w g c b 33 L) (h1 : s0.size ≤ 9223372036854775807) (hm : m = max (s0.size : Int) 0) :
    Calls Try.prog 35 #[.pointer (some ⟨g, 0, none⟩), (.string s0)] w fun E w' => E = .returned (.bool (roomP c b L m)) ∧ Ow (give o w k) k w' g c b 33 (if roomP c b L m = true then L ++ [⟨[.string s0], m⟩] else L) ∧ Chg o k w w' := by
  obtain ⟨v, h1', h2, h3, h4⟩ := h
  refine (push33 s0 _ m h1' hm (by omega) (fun w => size33 s0 h1 w)).mono ?_
  rintro E w' ⟨rfl, v', hq, ha, hm2⟩
  refine ⟨rfl, Ow.step h1' h2 h3 hq (fun t ht => ?_) ha hm2⟩
  split at ht
  · rcases List.mem_append.1 ht with h5 | h5
    · exact h4 t h5
    · simp at h5; subst h5; exact ⟨s0, rfl⟩
  · exact h4 t ht
theorem push33_y {o : Nat → Nat} {k : Nat} {w : World} {g : Nat} {c b : Int} {L : List Th} (s0 : ByteArray) (m : Int) (h : Ow o k w g c b 33 L) (h1 : s0.size ≤ 9223372036854775807) (hm : m = max (s0.size : Int) 0) (hr : roomP c b L m = true) :
    Calls Try.prog 35 #[.pointer (some ⟨g, 0, none⟩), (.string s0)] w fun E w' => E = .returned (.bool true) ∧ Ow (give o w k) k w' g c b 33 (L ++ [⟨[.string s0], m⟩]) ∧ Chg o k w w' := by
  have h2 := push33_o s0 m h h1 hm
  rw [hr] at h2
  exact h2
theorem push33_x {o : Nat → Nat} {k : Nat} {w : World} {g : Nat} {c b : Int} {L : List Th} (s0 : ByteArray) (m : Int) (h : Ow o k w g c b 33 L) (h1 : s0.size ≤ 9223372036854775807) (hm : m = max (s0.size : Int) 0) (hr : roomP c b L m = false) :
    Calls Try.prog 35 #[.pointer (some ⟨g, 0, none⟩), (.string s0)] w fun E w' => E = .returned (.bool false) ∧ Ow (give o w k) k w' g c b 33 L ∧ Chg o k w w' := by
  have h2 := push33_o s0 m h h1 hm
  rw [hr] at h2
  exact h2
end Go.Proofs.Ytdgkkbiodhbmeaa.KS
