/-
  inOrder, New, Find, All.
-/
import Derived.Test.YtoifolmcdkfniabGreatDoorSrt
namespace Go.Proofs.YtoifolmcdkfniabGreatDoor
open Go.ChangeShapes Go.WideShapes Go.ChangeAt Go.RowKit
set_option linter.unusedVariables false
set_option linter.unusedSimpArgs false
set_option maxRecDepth 100000

def InOut (w : World) (L : List Rt) (E : Ending) (w' : World) : Prop :=
  (mayL L = false ∧ E = .returned (.tuple #[.slice none 0 0, .bool false]) ∧ Away [] w w') ∨
  (mayL L = true ∧ ∃ v S, E = .returned (.tuple #[v, .bool true]) ∧ IsOrd L S ∧ LstD w' v S ∧ New w.heap.size v ∧ Away [] w w')
theorem mayL_long {L : List Rt} (h : 32 < L.length) : mayL L = false := by
  unfold mayL; simp; intro h1; omega
theorem mayL_bad {L : List Rt} {x : Rt} (hx : x ∈ L) (h : mayR x = false) : mayL L = false := by
  cases hb : mayL L with
  | false => rfl
  | true => have := (mayL_iff.1 hb).2.1 x hx; rw [h] at this; simp at this
set_option maxHeartbeats 4000000 in
theorem inOrder_c {w : World} {v : Value} {L : List Rt} (h : Rd w v L) (hl : L.length ≤ 3518437208790) : Calls Tryz.prog 8 #[v] w (InOut w L) := by
  have HD := Lib.hid h
  obtain ⟨a, cap, rfl, hcap, hsh⟩ := h.shp
  have HOK := Lib.hid h.ok
  have HSH := Lib.hid hsh
  obtain ⟨n, hn⟩ : ∃ n, n = L.length := ⟨_, rfl⟩
  rw [← hn] at hcap hl HD ⊢
  have HN := Lib.hid hn
  clear h hsh hn
  by_cases h32 : (n : Int) > 32
  · have HM : Hid (mayL L = false) := mayL_long (by rw [← HN.out]; omega)
    go_enter Tryz.func8, Tryz.ntmps8
    go_wp2_with fail
    go_ret2
    exact .inl ⟨HM.out, rfl, Away.refl _ _⟩
  have h32' : n ≤ 32 := by omega
  have h32b : decide ((n : Int) > 32) = false := by simp; omega
  go_enter Tryz.func8, Tryz.ntmps8
  go_wp2_with fail
  go_loopw [12] (fun i wr => ∃ k : Nat, i = .int .i64 (k : Int) ∧ k ≤ n ∧ Away [] w wr ∧ ∀ (j : Nat) (x : Rt), j < k → L[j]? = some x → mayR x = true) (fun i _ => n - (intOf i).toNat)
  case atStart => exact ⟨0, rfl, Nat.zero_le _, Away.refl _ _, fun j x hj => by omega⟩
  case round =>
    obtain ⟨k, rfl, hk, haw, hno⟩ := hrel
    have HA := Lib.hid haw
    have HNO := Lib.hid hno
    clear haw hno
    by_cases hkn : k < n
    · have j1 : decide (k < n) = true := by simp; omega
      have j0 : (k : Int) < (n : Int) := by omega
      obtain ⟨x, hx, hxm⟩ := get_of (show k < L.length by rw [← HN.out]; omega)
      have HX := Lib.hid hx
      have HXM := Lib.hid hxm
      have HXO := Lib.hid (HOK.out x hxm)
      rcases HSH.out with he | ⟨b, o, ha, hrg⟩
      · exfalso; rw [he] at hx; simp at hx
      subst ha
      have HRG := Lib.hid (range_away HA.out (by simp) (hrg k x hx))
      clear hrg hx hxm hkn
      go_wp2_with (first
        | (refine wpList_ixR rfl _ _ rfl b o n cap k rfl rfl (by omega) ?_)
        | (refine wpList_loadE rfl _ rfl b (o + k * 19) rfl x HXO.out (by exact HRG.out) ?_)
        | (refine wpList_allocE rfl rfl ?_; refine Hid.out ?_))
      refine Lib.hid ?_
      intro g5 w2 hg5 hbx haw
      have HBX := Lib.hid hbx
      have hs1 := HA.out.size
      replace HA := Lib.hid (HA.out.trans haw)
      clear haw hbx HRG
      go_wp2_with (refine wpList_storeE rfl _ _ rfl g5 rfl x zeroD HXO.out zeroD_ok rfl HBX.out ?_; refine Hid.out ?_)
      refine Lib.hid ?_
      intro w3 hbx haw
      replace HBX := Lib.hid hbx
      have HA2 : Hid (Away [] w w3) := HA.out.next haw (fun x hx => .inr (by simp at hx; subst hx; omega))
      clear haw hbx HA hs1 hg5
      have HMB := Lib.hid (mayBe_c x HXO.out w3)
      obtain ⟨q, hq⟩ : ∃ q, q = mayR x := ⟨_, rfl⟩
      rw [← hq] at HMB
      have HQ := Lib.hid hq
      clear hq
      go_wp2_with (first
        | (refine wpList_loadE rfl _ rfl g5 0 rfl x HXO.out HBX.out.range ?_)
        | (go_at_call 23; refine HMB.out.mono ?_; refine Hid.out ?_))
      refine Lib.hid ?_
      rintro E w4 ⟨rfl, haw⟩
      have HA4 := Lib.hid (HA2.out.trans haw)
      clear haw HMB HBX HA2
      cases q
      · go_wp2_with fail
        go_ret2
        exact .inl ⟨mayL_bad HXM.out HQ.out.symm, rfl, HA4.out⟩
      · go_wp2_with fail
        go_roundw
        case rel => exact ⟨k + 1, by go_num, by omega, HA4.out, fun j z hj hz => by
          rcases Nat.lt_or_ge j k with h1 | h1
          · exact HNO.out j z h1 hz
          · rw [show j = k from by omega, HX.out] at hz
            simp only [Option.some.injEq] at hz
            rw [← hz]; exact HQ.out.symm⟩
        case measure => simp [intOf]; omega
    · have j1 : decide (k < n) = false := by simp; omega
      have HALL : Hid (∀ x ∈ L, mayR x = true) := fun x hx => by
        obtain ⟨j, hj, rfl⟩ := List.mem_iff_getElem.1 hx
        exact HNO.out j _ (by rw [← HN.out] at hj; omega) (by simp [hj])
      clear hkn HNO
      have HCL := Lib.hid (clone_c (HD.out.on HA.out) (by rw [← HN.out]; exact hl))
      go_wp2_with (go_at_call 24; refine HCL.out.mono ?_; refine Hid.out ?_)
      refine Lib.hid ?_
      rintro E w2 ⟨u, rfl, hown, hnew, haw⟩
      have HA2 := Lib.hid (HA.out.trans haw)
      have HNW := Lib.hid (hnew.mono HA.out.size)
      have HS2 : Hid (w.heap.size ≤ w2.heap.size) := HA2.out.size
      clear haw hnew HCL
      have HL32 : Hid (L.length ≤ 32) := by show _ ≤ _; rw [← HN.out]; exact h32'
      rcases hown.shp with ⟨rfl, hL⟩ | ⟨g, c, rfl⟩
      · have HL := Lib.hid hL
        have HSO := Lib.hid (sort_none none 0 w2)
        clear hown hL
        go_wp2_with (go_at_call 25; refine HSO.out.mono ?_; refine Hid.out ?_)
        refine Lib.hid ?_
        rintro E w3 ⟨rfl, rfl⟩
        have HTW := Lib.hid (twins_c (w := w3) ((LstD.nil w3).rd (by simp)) (by simp))
        clear HSO
        go_wp2_with (go_at_call 29; refine HTW.out.mono ?_; refine Hid.out ?_)
        refine Lib.hid ?_
        rintro E w4 ⟨rfl, haw⟩
        have HA4 := Lib.hid (HA2.out.trans haw)
        clear haw HTW
        go_wp2_with fail
        go_ret2
        refine .inr ⟨?_, _, [], rfl, ⟨by rw [HL.out], List.Pairwise.nil⟩, LstD.nil _, New.nil _, HA4.out⟩
        rw [HL.out]; rfl
      · have HO := Lib.hid hown
        obtain ⟨m, hm⟩ : ∃ m, m = L.length := ⟨_, rfl⟩
        rw [← hm] at HO
        have HM := Lib.hid hm
        have HG : Hid (w.heap.size ≤ g) := HNW.out g rfl
        have HSO := Lib.hid (sort_c g m c L w2 hm.symm (by rw [hm]; have := HL32.out; omega) (by exact HO.out) HOK.out)
        rw [← hm]
        clear hown hm
        go_wp2_with (go_at_call 25; refine HSO.out.mono ?_; refine Hid.out ?_)
        refine Lib.hid ?_
        rintro E w3 ⟨S, rfl, hp, hs, hls, haw⟩
        have HP := Lib.hid hp
        have HSR := Lib.hid hs
        have HLS := Lib.hid hls
        have HOS : Hid (∀ x ∈ S, Okr x) := fun x hx => HOK.out x (HP.out.mem_iff.1 hx)
        have HA3 : Hid (Away [] w w3) := HA2.out.next haw (fun x hx => .inr (by simp at hx; subst hx; exact HG.out))
        have HTW := Lib.hid (twins_c (w := w3) (hls.rd HOS.out) (by rw [hp.length_eq]; have := HL32.out; omega))
        have HADJ := Lib.hid (adj_may HOK.out hp hs HL32.out HALL.out)
        obtain ⟨q, hq⟩ : ∃ q, q = adj S := ⟨_, rfl⟩
        rw [← hq] at HTW HADJ
        clear hp hs hls haw HSO hq
        go_wp2_with (go_at_call 29; refine HTW.out.mono ?_; refine Hid.out ?_)
        refine Lib.hid ?_
        rintro E w4 ⟨rfl, haw⟩
        have HA4 := Lib.hid (HA3.out.trans haw)
        have HL4 := Lib.hid (HLS.out.on haw)
        clear haw HTW
        cases q
        · go_wp2_with fail
          go_ret2
          exact .inr ⟨by have := HADJ.out.1; simpa using this.symm, _, S, rfl, HADJ.out.2 trivial, HL4.out, HNW.out, HA4.out⟩
        · go_wp2_with fail
          go_ret2
          exact .inl ⟨by have := HADJ.out.1; simpa using this.symm, rfl, HA4.out⟩
end Go.Proofs.YtoifolmcdkfniabGreatDoor
