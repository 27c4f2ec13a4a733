/-
  Norm.
-/
import Derived.Test.YtckiiidigajhpaaSrt
namespace Go.Proofs.Ytckiiidigajhpaa
open Go.ChangeShapes Go.WideShapes Go.ChangeAt Go.RowKit
set_option linter.unusedVariables false

/-- What Norm tells. -/
def NormOut (w : World) (l : List Sp) (E : Ending) (w' : World) : Prop :=
  (allIs l = true ∧ ∃ v r, E = .returned (.tuple #[v, .int .i64 0]) ∧ Mk w w' v r ∧ Of r (inB l)) ∨ (allIs l = false ∧ E = .returned (.tuple #[.slice none 0 0, .int .i64 1]) ∧ Away [] w w')
set_option maxHeartbeats 4000000 in
theorem norm_c (a : Option Addr) (l : List Sp) (n cap : Nat) (w : World) (hn : l.length = n) (hnil : a = none → cap = 0) (hr : Row w a l) :
    Calls Try.prog 9 #[.slice a n cap] w fun E w' => NormOut w l E w' := by
  subst hn
  have hlen := hr.1
  have HR : Hid (Row w a l) := hr
  have HN : Hid (a = none → cap = 0) := hnil
  clear hr hnil
  have hmk := make_s l.length l.length l.length l.length rfl rfl (Nat.le_refl _) hlen
  go_enter Try.func9, Try.ntmps9
  go_wp2_with fail
  go_loopw [9] (fun i wr => ∃ k : Nat, k ≤ l.length ∧ i = .int .i64 k ∧ Away [] w wr ∧ allIs l = allIs (l.drop k)) (fun i _ => l.length - (intOf i).toNat)
  case atStart => exact ⟨0, by omega, rfl, Away.refl _ _, rfl⟩
  case round =>
    obtain ⟨k, hk, rfl, haw, hq⟩ := hrel
    have HQ : Hid (allIs l = allIs (l.drop k)) := hq
    clear hq
    by_cases hlt : k < l.length
    · obtain ⟨x, hx, _⟩ := get_of hlt
      obtain ⟨b, off, rfl, c1, c2, -⟩ := (HR.out.on haw).at hx
      have HA : Hid (allIs (l.drop k) = (isB x && allIs (l.drop (k + 1)))) := by show _ = _; rw [drop_at hx]; rfl
      clear hx
      obtain ⟨x1, x2⟩ := x
      simp only at c1 c2
      go_wp2_with fail
      refine (isSpan_c (x1, x2) _).mono ?_
      rintro E w2 ⟨rfl, haw2⟩
      have haw3 : Away [] w w2 := (haw.alloc _).trans haw2
      clear haw2
      cases hb : isB (x1, x2)
      · go_wp2_with fail
        go_ret2
        exact .inr ⟨by rw [HQ.out, HA.out, hb]; rfl, rfl, haw3⟩
      · go_wp2_with fail
        go_roundw
        case rel => exact ⟨k + 1, by omega, by go_num, haw3, by rw [HQ.out, HA.out, hb]; rfl⟩
        case measure => simp [intOf]; omega
    · have hall : allIs l = true := by rw [HQ.out, List.drop_eq_nil_of_le (by omega)]; rfl
      have HI : Hid (∀ s ∈ l, Is s) := allIs_iff.1 hall
      have HB : Hid (Buf (wr.alloc (madeO l.length)) wr.heap.size l.length) := Buf.made wr l.length hlen
      have HR1 : Hid (Row (wr.alloc (madeO l.length)) a l) := (HR.out.on haw).on ((Away.refl [] wr).alloc _)
      have haw1 := haw.alloc (madeO l.length)
      have hsz := haw.size
      obtain ⟨w2, hrun, hl2, haw2⟩ := run_copy2 (wr.alloc (madeO l.length)) 3 wr.heap.size l.length l.length a cap l rfl HB.out (Nat.le_refl _) HN.out HR1.out
      obtain ⟨a2, cap2, he2, -, -, hrow2, -⟩ := hl2.row hlen (fun s hs => (HI.out s hs).ok)
      have hrf : RowF w2 wr.heap.size l := ⟨by simp only [Value.slice.injEq] at he2; rw [he2.1]; exact hrow2, hl2.free rfl, hl2.lt _ rfl⟩
      have haw3 : Away [] w w2 := haw1.next haw2 (fun x hx => .inr (by simp at hx; omega))
      clear hl2 haw2 hrow2 he2 haw1
      go_wp2_with fail
      refine (sort_c wr.heap.size l.length _ l _ rfl (by exact hrf)).mono ?_
      rintro E w3 ⟨l', rfl, hperm, hsort, hrow3, haw4⟩
      have haw5 : Away [] w w3 := haw3.next haw4 (fun x hx => .inr (by simp at hx; omega))
      have hlen3 : l'.length = l.length := hperm.length_eq
      clear haw4 hrf
      go_wp2_with fail
      refine (joined_c _ l' _ _ _ hlen3 (by exact hrow3) (fun s hs => HI.out s (hperm.mem_iff.1 hs))).mono ?_
      rintro E w4 ⟨v, rfl, hm⟩
      have hof := join_of (fun s hs => HI.out s (hperm.mem_iff.1 hs)) hsort
      have HOF : Hid (Of (joinP l') (inB l)) := ⟨hof.right, fun n => by rw [hof.has, perm_in hperm]⟩
      have HM : Hid (Mk w w4 v (joinP l')) := hm.base haw5
      clear hm hof hsort hperm hrow3
      go_wp2_with fail
      go_ret2
      exact .inl ⟨hall, _, _, rfl, HM.out, HOF.out⟩
#print axioms norm_c
end Go.Proofs.Ytckiiidigajhpaa
