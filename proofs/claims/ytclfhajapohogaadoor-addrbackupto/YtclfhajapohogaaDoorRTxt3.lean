/-
  The document's groups.
-/
import Derived.Test.YtclfhajapohogaaDoorRTxt2
namespace Go.Proofs.YtclfhajapohogaaDoor
open Go.ChangeShapes Go.WideShapes Go.ChangeAt Go.RowKit
set_option linter.unusedVariables false
set_option maxHeartbeats 4000000
set_option maxRecDepth 100000

theorem pieces_len (c : UInt8) : ∀ (l : List UInt8), (pieces c l).length ≤ l.length + 1 ∧ ∀ p ∈ pieces c l, p.length ≤ l.length
  | [] => by simp [pieces]
  | x :: l => by
    obtain ⟨h1, h2⟩ := pieces_len c l
    have hne := pieces_ne c l
    by_cases h : x = c
    · subst h
      rw [pieces_hit]
      refine ⟨by simp; omega, fun p hp => ?_⟩
      rcases List.mem_cons.1 hp with rfl | hp
      · simp
      · have := h2 p hp; simp; omega
    · rw [pieces_miss _ h]
      cases hp : pieces c l with
      | nil => exact absurd hp hne
      | cons a r =>
        rw [hp] at h1 h2
        refine ⟨by simp [pcons] at h1 ⊢; omega, fun p hq => ?_⟩
        simp only [pcons, List.headD_cons, List.tail_cons, List.mem_cons] at hq
        rcases hq with rfl | hq
        · have := h2 a (by simp); simp; omega
        · have := h2 p (by simp [hq]); simp; omega
theorem info3 : (Tryd.prog.info? 3).map (fun i => (i.zero, i.size, i.bytes)) = some (some (.int .i64 0), 1, 8) := by kernel_rfl
def ints (gs : List Nat) : List Value := gs.map (fun g : Nat => Value.int .i64 (g : Int))
theorem ints_snoc (ts : List Nat) (t : Nat) : ints (ts ++ [t]) = ints ts ++ [.int .i64 (t : Int)] := by simp [ints]
/-- What groups tells. -/
def RgPost (r : Option (List Nat)) (w : World) (e : Ending) (w' : World) : Prop :=
  Below w.heap.size w w' ∧ ∃ v, e = .returned (.tuple #[v, .bool r.isSome]) ∧ (r = none → v = .slice none 0 0) ∧ ∀ gs, r = some gs → w'.ownsRow w.heap.size 3 1 v gs.length (ints gs)
theorem own_cell {w : World} {B e n : Nat} {a : Option Addr} {c : Nat} {xs : List Value} (h : w.ownsRow B e 1 (.slice a n c) n xs) {k : Nat} {u : Value} (hk : xs[k]? = some u) : ∃ g, a = some ⟨g, 0, none⟩ ∧ w.cell? ⟨g, k, none⟩ = some u := by
  have hlt : k < xs.length := (List.getElem?_eq_some_iff.1 hk).1
  have h0 := h
  rcases h.2 with ⟨e1, e2⟩ | ⟨g, cap, cur, e1, _⟩
  · have := h.1; rw [e2] at this; omega
  · simp only [Value.slice.injEq, true_and] at e1
    obtain ⟨rfl, rfl⟩ := e1
    refine ⟨g, rfl, ?_⟩
    rw [World.ownsRow.cellAt h0 k (by have := h.1; omega), hk]
theorem own_mono {w : World} {B C e n : Nat} {v : Value} {xs : List Value} (h : w.ownsRow B e 1 v n xs) (hc : C ≤ B) : w.ownsRow C e 1 v n xs := by
  refine ⟨h.1, ?_⟩
  rcases h.2 with h2 | ⟨g, cap, cur, rfl, hg, r⟩
  · exact .inl h2
  · exact .inr ⟨g, cap, cur, rfl, by omega, r⟩
theorem alls_drop {α β : Type} (f : α → Option β) {ps : List α} {k : Nat} {p : α} (hk : ps[k]? = some p) : alls f (ps.drop k) = (match f p, alls f (ps.drop (k + 1)) with | some y, some r => some (y :: r) | _, _ => none) := by
  have hlt : k < ps.length := (List.getElem?_eq_some_iff.1 hk).1
  rw [List.drop_eq_getElem_cons hlt, (List.getElem?_eq_some_iff.1 hk).2]
  rfl
theorem rgroups_c (l : List UInt8) (hl : l.length ≤ 1048576) (w : World) :
    Calls Tryd.prog 55 #[.string ⟨l.toArray⟩] w fun e w' => RgPost (grps l) w e w' := by
  obtain ⟨r, hr⟩ : ∃ r, r = grps l := ⟨_, rfl⟩
  rw [← hr]
  have HR : Hid (r = grps l) := hr
  clear hr
  by_cases h0 : l = []
  · subst h0
    obtain rfl : r = some [] := by rw [HR.out]; rfl
    have hnil : (ByteArray.toList ⟨([] : List UInt8).toArray⟩ == ([] : List UInt8)) = true := by rw [Lib.toList_data]; rfl
    go_enter Tryd.func55, Tryd.ntmps55
    go_wp2
    go_ret2
    exact ⟨Below.refl _ _, _, rfl, fun h => by simp at h, fun gs h => by simp at h; subst h; exact World.ownsRow_nil _ _ _ _⟩
  · have hnil : (ByteArray.toList ⟨l.toArray⟩ == ([] : List UInt8)) = false := by
      rw [Lib.toList_data]; cases l with
      | nil => exact absurd rfl h0
      | cons a t => rfl
    have hie : l.isEmpty = false := by cases l with
      | nil => exact absurd rfl h0
      | cons a t => rfl
    have HA : Hid (r = alls (numOf 16 4) (pieces 58 l)) := by show _ = _; rw [HR.out, grps, if_neg h0]
    obtain ⟨hpl, hpe⟩ := pieces_len 58 l
    have HPC : Hid (∀ wx, Calls Tryd.prog 57 #[.string ⟨l.toArray⟩, .int .u8 58] wx fun e w' => PcPost (pieces 58 l) wx e w') := fun wx => rpieces_c l 58 hl wx
    generalize pieces 58 l = ps at *
    have HPE : Hid (∀ p ∈ ps, p.length ≤ l.length) := hpe
    clear HR h0 hpe
    go_enter Tryd.func55, Tryd.ntmps55
    go_wp2_with fail
    refine (HPC.out _).mono ?_
    rintro E w1 ⟨hb1, v1, rfl, hown1⟩
    obtain ⟨pa, pc, rfl, _, _⟩ := own_shape hown1
    have hrl : (rs ps).length = ps.length := by simp [rs]
    have HOW : Hid (w1.ownsRow w.heap.size 9 1 (.slice pa ps.length pc) ps.length (rs ps)) := hown1
    have hs1 := hb1.size
    clear hown1
    go_wp2_with fail
    go_loopw [5, 6] (fun v iv wr => ∃ (k : Nat) (done : List Nat), k ≤ ps.length ∧ iv = .int .i64 (k : Int) ∧ done.length = k ∧ wr.ownsRow w1.heap.size 3 1 v done.length (ints done) ∧ Below w1.heap.size w1 wr ∧ alls (numOf 16 4) ps = (alls (numOf 16 4) (ps.drop k)).map (done ++ ·)) (fun _ iv _ => ps.length - (intOf iv).toNat)
    case atStart => exact ⟨0, [], by omega, rfl, rfl, World.ownsRow_nil _ _ _ _, Below.refl _ _, by simp⟩
    case round =>
      obtain ⟨k, done, hk, rfl, hdl, hown, hbel, hal⟩ := hrel
      have HAL : Hid (alls (numOf 16 4) ps = (alls (numOf 16 4) (ps.drop k)).map (done ++ ·)) := hal
      have hsb := hbel.size
      have hbw : Below w.heap.size w wr := hb1.trans (hbel.mono hs1)
      clear hal
      by_cases hlt : k < ps.length
      · obtain ⟨p, hp⟩ : ∃ p, ps[k]? = some p := ⟨ps[k], List.getElem?_eq_getElem hlt⟩
        have hpm := List.mem_of_getElem? hp
        have hdr := alls_drop (numOf 16 4) hp
        obtain ⟨g, rfl, c0⟩ := own_cell (own_below HOW.out hbel) (k := k) (u := .string ⟨p.toArray⟩) (by unfold rs; rw [List.getElem?_map, hp]; rfl)
        have HNM : Hid (∀ wx, Calls Tryd.prog 58 #[.string ⟨p.toArray⟩, .int .i64 16, .int .i64 4] wx fun e w' => e = .returned (.int .i64 (numI (numOf 16 4 p))) ∧ w' = wx) := fun wx => rnumber_c p 16 4 (by omega) (by omega) (by omega) (by have := HPE.out p hpm; omega) wx
        have t1 : decide ((k : Int) < (ps.length : Int)) = true := by simp; omega
        have t2 : 0 ≤ (k : Int) := by omega
        have t3 : (k : Int) < (ps.length : Int) := by omega
        clear hp hpm
        cases hnum : numOf 16 4 p with
        | none =>
          obtain rfl : r = none := by rw [HA.out, HAL.out, hdr, hnum]; rfl
          rw [hnum] at HNM
          clear hdr hnum
          go_wp2_with fail
          refine (HNM.out _).mono ?_
          rintro E w' ⟨rfl, rfl⟩
          rw [show numI none = -1 from rfl]
          go_wp2_with fail
          go_ret2
          exact ⟨hbw, _, rfl, fun _ => rfl, fun gs h => by simp at h⟩
        | some n =>
          rw [hnum] at HNM
          have HS : Hid (alls (numOf 16 4) ps = (alls (numOf 16 4) (ps.drop (k + 1))).map ((done ++ [n]) ++ ·)) := by
            show _ = _
            rw [HAL.out, hdr, hnum]
            cases alls (numOf 16 4) (ps.drop (k + 1)) <;> simp
          clear hdr hnum
          go_wp2_with fail
          refine (HNM.out _).mono ?_
          rintro E w' ⟨rfl, rfl⟩
          rw [show numI (some n) = (n : Int) from rfl]
          have hn0 : ¬ ((n : Int) < 0) := by omega
          go_wp2_with (at_builtin; refine wpList_app1b rfl _ _ 79 rfl w1.heap.size 3 _ 8 Tryd.underlying79 info3 rfl _ done.length (ints done) rfl hown (.int .i64 (n : Int)) rfl rfl (by omega) (by omega) hsb ?_)
          intro v' w2 hown' hbel'
          have hown2 : w2.ownsRow w1.heap.size 3 1 v' (done ++ [n]).length (ints (done ++ [n])) := by rw [ints_snoc, List.length_append, hdl]; exact hown'
          have hbel2 := hbel.trans hbel'
          clear hown hown' hbel hbel' hbw
          go_wp2_with fail
          go_roundw
          case rel => exact ⟨k + 1, done ++ [n], by omega, by go_num, by simp; omega, hown2, hbel2, HS.out⟩
          case measure => simp [intOf]; omega
      · have t1 : decide ((k : Int) < (ps.length : Int)) = false := by simp; omega
        obtain rfl : r = some done := by rw [HA.out, HAL.out, List.drop_eq_nil_of_le (by omega)]; simp [alls]
        obtain ⟨va, vc, rfl, _, _⟩ := own_shape hown
        have HF : Hid (RgPost (some done) w (.returned (.tuple #[.slice va done.length vc, .bool true])) wr) := ⟨hbw, _, rfl, fun h => by simp at h, fun gs h => by simp at h; subst h; exact own_mono hown hs1⟩
        clear hown hbel hbw
        go_wp2_with fail
        go_ret2
        exact HF.out
#print axioms rgroups_c
end Go.Proofs.YtclfhajapohogaaDoor
