/-
  Queues beside the document's, by keys.
-/
import Derived.Test.YtdgkkbiodhbmeaaKTO
import Derived.Test.YtdgkkbiodhbmeaaKPO
import Derived.Test.YtdgkkbiodhbmeaaKSO
import Derived.Test.YtdgkkbiodhbmeaaKIO
import Derived.Test.YtdgkkbiodhbmeaaRef
import Derived.Test.YtdgkkbiodhbmeaaTak
namespace Go.Proofs.Ytdgkkbiodhbmeaa
open Go.ChangeShapes Go.WideShapes Go.ChangeAt Go.RowKit
set_option linter.unusedVariables false
set_option linter.unusedSimpArgs false
set_option maxRecDepth 100000
set_option maxHeartbeats 8000000

def kt (key : Th → Int) (t : Th) : Th := ⟨[.int .i64 (key t)], t.n⟩
def keyS (t : Th) : Int := match t.x with
  | (.string s) :: _ => s.size
  | _ => 0
def keyI (t : Th) : Int := match t.x with
  | (.int _ a) :: _ => a
  | _ => 0
theorem sum_kt (key : Th → Int) (L : List Th) : sumT (L.map (kt key)) = sumT L := by
  induction L with
  | nil => rfl
  | cons t r ih => rw [List.map_cons, sumT_cons, sumT_cons, ih]; rfl
theorem room_kt (key : Th → Int) (c b n : Int) (L : List Th) : roomP c b (L.map (kt key)) n = roomP c b L n := by
  unfold roomP; rw [sum_kt, List.length_map]
def pushL (c b : Int) (L : List Th) (t : Th) : List Th := if roomP c b L t.n = true then L ++ [t] else L
def ne (L : List Th) : Bool := !L.isEmpty
def hk (key : Th → Int) (L : List Th) : Int := match L with
  | [] => 0
  | t :: _ => key t
theorem rpush_k (key : Th → Int) {o : Nat → Nat} {k : Nat} {w : World} {g : Nat} {c m : Int} {L : List Th} (t : Th) (a n : Int) (h : RO o k w g c m (L.map (kt key))) (hn : n ≤ 9223372036854775807) (hnn : t.n = max n 0) (ha : key t = a) :
    Calls Try.prog 27 #[.pointer (some ⟨g, 0, none⟩), .int .i64 a, .int .i64 n] w fun E w' => E = .returned (.bool (roomP c m L t.n)) ∧ RO (give o w k) k w' g c m ((pushL c m L t).map (kt key)) ∧ Chg o k w w' := by
  unfold pushL
  cases hr : roomP c m L t.n
  · rw [if_neg (by simp)]
    exact rpush_x a n t.n h hn hnn (by rw [room_kt]; exact hr)
  · rw [if_pos rfl, List.map_append]
    have h1 := rpush_y a n t.n h hn hnn (by rw [room_kt]; exact hr)
    subst ha
    exact h1
theorem rpop_k (key : Th → Int) {o : Nat → Nat} {k : Nat} {w : World} {g : Nat} {c m : Int} {L : List Th} (h : RO o k w g c m (L.map (kt key))) :
    Calls Try.prog 28 #[.pointer (some ⟨g, 0, none⟩)] w fun E w' => E = .returned (.tuple #[.int .i64 (hk key L), .bool (ne L)]) ∧ RO (give o w k) k w' g c m (L.tail.map (kt key)) ∧ Chg o k w w' := by
  rcases L with _ | ⟨t, r⟩
  · exact rpop_n h
  · exact rpop_s (key t) t.n h
theorem KT.pop_k {o : Nat → Nat} {k : Nat} {w : World} {g : Nat} {c b : Int} {L : List Th} (h : KT.Ow o k w g c b 30 L) :
    Calls Try.prog 36 #[.pointer (some ⟨g, 0, none⟩)] w fun E w' => ∃ (s0 : ByteArray) (a1 : Int) (a2 : Option Addr) (n2 c2 : Nat), E = .returned (.tuple #[(.agg #[.string s0, .int .i64 a1, .slice a2 n2 c2]), .bool (ne L)]) ∧ (s0.size : Int) = hk keyS L ∧ KT.Ow (give o w k) k w' g c b 30 L.tail ∧ Chg o k w w' := by
  rcases L with _ | ⟨y, Lr⟩
  · refine (KT.pop_n h).mono ?_
    rintro E w' ⟨rfl, h2, h3⟩
    exact ⟨⟨#[]⟩, 0, none, 0, 0, rfl, rfl, h2, h3⟩
  · obtain ⟨s0, a1, a2, n2, c2, ha0⟩ := h.shp y (by simp)
    obtain ⟨yx, yn⟩ := y
    simp only at ha0
    subst ha0
    refine (KT.pop_s s0 a1 a2 n2 c2 yn h).mono ?_
    rintro E w' ⟨rfl, h2, h3⟩
    exact ⟨s0, a1, a2, n2, c2, rfl, rfl, h2, h3⟩
theorem KI.pop_k {o : Nat → Nat} {k : Nat} {w : World} {g : Nat} {c b : Int} {L : List Th} (h : KI.Ow o k w g c b 31 L) :
    Calls Try.prog 15 #[.pointer (some ⟨g, 0, none⟩)] w fun E w' => ∃ (a0 : Int), E = .returned (.tuple #[(.int .i64 a0), .bool (ne L)]) ∧ a0 = hk keyI L ∧ KI.Ow (give o w k) k w' g c b 31 L.tail ∧ Chg o k w w' := by
  rcases L with _ | ⟨y, Lr⟩
  · refine (KI.pop_n h).mono ?_
    rintro E w' ⟨rfl, h2, h3⟩
    exact ⟨0, rfl, rfl, h2, h3⟩
  · obtain ⟨a0, ha0⟩ := h.shp y (by simp)
    obtain ⟨yx, yn⟩ := y
    simp only at ha0
    subst ha0
    refine (KI.pop_s a0 yn h).mono ?_
    rintro E w' ⟨rfl, h2, h3⟩
    exact ⟨a0, rfl, rfl, h2, h3⟩
theorem KP.pop_k {o : Nat → Nat} {k : Nat} {w : World} {g : Nat} {c b : Int} {L : List Th} (h : KP.Ow o k w g c b 18 L) :
    Calls Try.prog 20 #[.pointer (some ⟨g, 0, none⟩)] w fun E w' => ∃ (a0 a1 : Int), E = .returned (.tuple #[(.agg #[.int .i64 a0, .int .i64 a1]), .bool (ne L)]) ∧ a0 = hk keyI L ∧ KP.Ow (give o w k) k w' g c b 18 L.tail ∧ Chg o k w w' := by
  rcases L with _ | ⟨y, Lr⟩
  · refine (KP.pop_n h).mono ?_
    rintro E w' ⟨rfl, h2, h3⟩
    exact ⟨0, 0, rfl, rfl, h2, h3⟩
  · obtain ⟨a0, a1, ha0⟩ := h.shp y (by simp)
    obtain ⟨yx, yn⟩ := y
    simp only at ha0
    subst ha0
    refine (KP.pop_s a0 a1 yn h).mono ?_
    rintro E w' ⟨rfl, h2, h3⟩
    exact ⟨a0, a1, rfl, rfl, h2, h3⟩
theorem KS.pop_k {o : Nat → Nat} {k : Nat} {w : World} {g : Nat} {c b : Int} {L : List Th} (h : KS.Ow o k w g c b 33 L) :
    Calls Try.prog 37 #[.pointer (some ⟨g, 0, none⟩)] w fun E w' => ∃ (s0 : ByteArray), E = .returned (.tuple #[(.string s0), .bool (ne L)]) ∧ (s0.size : Int) = hk keyS L ∧ KS.Ow (give o w k) k w' g c b 33 L.tail ∧ Chg o k w w' := by
  rcases L with _ | ⟨y, Lr⟩
  · refine (KS.pop_n h).mono ?_
    rintro E w' ⟨rfl, h2, h3⟩
    exact ⟨⟨#[]⟩, rfl, rfl, h2, h3⟩
  · obtain ⟨s0, ha0⟩ := h.shp y (by simp)
    obtain ⟨yx, yn⟩ := y
    simp only at ha0
    subst ha0
    refine (KS.pop_s s0 yn h).mono ?_
    rintro E w' ⟨rfl, h2, h3⟩
    exact ⟨s0, rfl, rfl, h2, h3⟩
end Go.Proofs.Ytdgkkbiodhbmeaa
