/-
  The document's own: sum, Sealed, address.
-/
import Derived.Test.YtbgpjhekohabiaaDoorRefA
namespace Go.Proofs.YtbgpjhekohabiaaDoor
open Go.ChangeShapes Go.WideShapes Go.ChangeAt Go.RowKit Go.Deep Num
set_option linter.unusedVariables false
set_option maxHeartbeats 4000000
set_option maxRecDepth 100000

theorem Owns.some' {w : World} {v : Value} {l : List Int} (h : Owns w v l) (hl : l ≠ []) : ∃ g cap, v = .slice (some ⟨g, 0, none⟩) l.length cap ∧ l.length ≤ cap := by
  rcases h.2 with ⟨rfl, h3⟩ | ⟨g, cap, cur, rfl, hg, hh, hn, -⟩
  · exact absurd (by simpa using h3) hl
  · simp only [List.length_map] at hn
    exact ⟨g, cap, by simp, hn⟩
theorem rsum_c (a : Option Addr) (l : List Int) (n cap : Nat) (w : World) (hn : l.length = n) (hr : Row w a l) (h2 : n % 2 = 0) (h20 : 20 ≤ n) (h60 : n ≤ 60) :
    Calls Tryd.prog 80 #[.slice a n cap] w fun E w' => E = .returned (.int .i64 (sumH l)) ∧ Away [] w w' := by
  subst hn
  have hlb := hr.2.1
  obtain ⟨b, off, rfl, -⟩ := hr.at 0 (by omega)
  have HR := Lib.hid hr
  clear hr
  go_enter Tryd.func80, Tryd.ntmps80
  go_wp2_with (at_builtin; refine wpList_app rfl _ _ rfl _ [] l rfl (Owns.nil _) ⟨b, off, none⟩ l.length cap rfl rfl HR.out.src (by simp; omega) ?_; refine Hid.out ?_)
  refine Lib.hid ?_
  intro v' w2 hown2 hgr hblk
  have HA : Hid (Away [] w w2) := (Away.refl [] w).grown hgr (by simp [Value.ownBlock])
  have hnw : New w.heap.size v' := fun k hk => by
    rcases hblk k hk with h | h
    · simp [Value.ownBlock] at h
    · exact h
  replace hown2 : Owns w2 v' l := hown2
  clear hgr hblk
  obtain ⟨g, c, rfl, hc⟩ := hown2.some' (by intro h; rw [h] at h20; simp at h20)
  have hg := hnw g rfl
  obtain ⟨d0, d1⟩ := hown2.cells 10 (by omega)
  have hl1 : (l.set 10 0).length = l.length := by simp
  have ho3 := hown2.set rfl 10 0
  obtain ⟨d2, d3⟩ := ho3.cells 11 (by omega)
  have ho4 := ho3.set hl1 11 0
  have hA4 := (HA.out.setCell (p := ⟨g, 10, none⟩) (.inr hg) (.int .u8 0)).setCell (p := ⟨g, 11, none⟩) (.inr hg) (.int .u8 0)
  have HO4 := Lib.hid ho4; have HA4 := Lib.hid hA4
  clear ho4 hA4
  go_upto_region 4 with fail
  clear d0 d1
  generalize hw3 : w2.setCell ⟨g, 10, none⟩ (.int .u8 0) = w3 at *
  clear hw3 ho3 hown2
  go_upto_region 5 with fail
  clear d2 d3
  generalize w3.setCell ⟨g, 11, none⟩ (.int .u8 0) = w4 at *
  have hbb : Bytes ((l.set 10 0).set 11 0) := (hlb.set 10 (by omega) (by omega)).set 11 (by omega) (by omega)
  have hl2 : ((l.set 10 0).set 11 0).length = l.length := by simp
  have hpb := pt_bd hbb
  have HS : Hid (sumH l = 65535 - pt ((l.set 10 0).set 11 0)) := rfl
  have HRW := Lib.hid (HO4.out.row' (by rw [hl2]; omega) hbb)
  go_wp2_with fail
  refine (rpart_c _ _ _ c _ hl2 (by exact HRW.out) h2 h60).mono ?_
  rintro E w5 ⟨rfl, k, rfl⟩
  generalize pt ((l.set 10 0).set 11 0) = P at *
  go_wp2_with fail
  go_ret
  exact ⟨by rw [HS.out]; rfl, HA4.out.drewN k⟩
def sealP (l : List Int) : Bool := decide (w16 l 10 = sumH l)
theorem rseal_c (a : Option Addr) (l : List Int) (n cap : Nat) (w : World) (hn : l.length = n) (hr : Row w a l) (h2 : n % 2 = 0) (h20 : 20 ≤ n) (h60 : n ≤ 60) :
    Calls Tryd.prog 55 #[.slice a n cap] w fun E w' => E = .returned (.bool (sealP l)) ∧ Away [] w w' := by
  have HR := Lib.hid hr
  have HS : Hid (sealP l = decide (w16 l 10 = sumH l)) := rfl
  have hg : Hid (∀ w', Away [] w w' → Calls Tryd.prog 79 #[.slice a n cap, .int .i64 10] w' fun E w'' => E = .returned (.int .i64 (w16 l 10)) ∧ Away [] w' w'') := fun w' h => (rget_c a l n cap 10 w' hn (hr.on h) (by omega)).mono (fun E w'' ⟨h1, k, h2⟩ => ⟨h1, by rw [h2]; exact (Away.refl [] w').drewN k⟩)
  have hs : Hid (∀ w', Away [] w w' → Calls Tryd.prog 80 #[.slice a n cap] w' fun E w'' => E = .returned (.int .i64 (sumH l)) ∧ Away [] w' w'') := fun w' h => rsum_c a l n cap w' hn (hr.on h) h2 h20 h60
  clear hr HR
  generalize sealP l = Z at *
  go_enter Tryd.func55, Tryd.ntmps55
  go_wp2_with fail
  refine (hg.out w (Away.refl _ _)).mono ?_
  rintro E w1 ⟨rfl, haw⟩
  have HA := Lib.hid haw
  clear haw
  go_wp2_with fail
  refine (hs.out w1 HA.out).mono ?_
  rintro E w2 ⟨rfl, haw⟩
  replace HA := Lib.hid (HA.out.on haw)
  clear haw hg hs
  have hb : (w16 l 10 == sumH l) = Z := by rw [HS.out]; rfl
  generalize w16 l 10 = x at *
  generalize sumH l = y at *
  go_wp2_with fail
  go_ret
  exact ⟨by rw [← hb]; rfl, HA.out⟩
#print axioms rseal_c
end Go.Proofs.YtbgpjhekohabiaaDoor
