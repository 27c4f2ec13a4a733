/-
  Parse.
-/
import Derived.Test.YtoifolmcdkfniabGreatDoorPs
namespace Go.Proofs.YtoifolmcdkfniabGreatDoor
open Go.ChangeShapes Go.WideShapes Go.ChangeAt Go.RowKit
set_option linter.unusedVariables false
set_option linter.unusedSimpArgs false
set_option maxRecDepth 100000

def strLn : Value → Nat
  | .string b => b.size
  | _ => 0
def ParseOut (w : World) (r : List Rt × Int) (E : Ending) (w' : World) : Prop :=
  ∃ v, E = .returned (.tuple #[v, .int .i64 r.2]) ∧ LstD w' v r.1 ∧ New w.heap.size v ∧ Away [] w w'
theorem parseR_ok (l : List UInt8) : ∀ x ∈ (parseR l).1, Okr x := by
  unfold parseR
  split
  · simp
  · rename_i L hL
    split
    · exact routes_ok hL
    · simp
theorem take_snoc {acc : List Rt} {x : Rt} (h : (acc.take 33).length ≤ 32) : (acc ++ [x]).take 33 = acc.take 33 ++ [x] := by
  rw [List.length_take] at h
  have : acc.length ≤ 32 := by omega
  rw [List.take_of_length_le (by simp; omega), List.take_of_length_le (by omega)]
theorem take_more {acc : List Rt} {x : Rt} (h : ¬ (acc.take 33).length ≤ 32) : (acc ++ [x]).take 33 = acc.take 33 := by
  rw [List.length_take] at h
  rw [List.take_append_of_le_length (by omega)]
set_option maxHeartbeats 4000000 in
theorem parse_r (l : List UInt8) (hl : l.length ≤ 4294967280) (w : World) (hg : Glob w) : Calls Tryz.prog 20 #[.string ⟨l.toArray⟩] w (ParseOut w (parseR l)) := by
  obtain ⟨res, hres⟩ : ∃ r, r = parseR l := ⟨_, rfl⟩
  rw [← hres]
  have HR := Lib.hid hres
  have HG := Lib.hid hg
  have HLL := Lib.hid hl
  clear hres hg hl
  go_enter Tryz.func20, Tryz.ntmps20
  go_wp2_with fail
  go_loopw [0, 4] (fun sv lv wr => ∃ (rest : List UInt8) (acc : List Rt), sv = .string ⟨rest.toArray⟩ ∧ LstD wr lv (acc.take 33) ∧ New w.heap.size lv ∧ (∀ x ∈ acc, Okr x) ∧ rest.length ≤ l.length ∧ routesP l = (routesP rest).map (acc ++ ·) ∧ Away [] w wr) (fun sv _ _ => strLn sv)
  case atStart => exact ⟨l, [], rfl, LstD.nil _, New.nil _, by simp, Nat.le_refl _, by cases routesP l <;> simp, Away.refl _ _⟩
  case round =>
    obtain ⟨rest, acc, rfl, hown, hnew, hok, hrl, hro, haw⟩ := hrel
    have HO := Lib.hid hown
    have HNW := Lib.hid hnew
    have HOK := Lib.hid hok
    have HRO := Lib.hid hro
    have HA := Lib.hid haw
    have HRL := Lib.hid hrl
    obtain ⟨la, lc, rfl, hlc⟩ := hown.sl
    obtain ⟨n, hn⟩ : ∃ n, n = (acc.take 33).length := ⟨_, rfl⟩
    rw [← hn] at HO HNW hlc ⊢
    have HN := Lib.hid hn
    have hn33 : n ≤ 33 := by rw [hn, List.length_take]; omega
    have hnil : ((ByteArray.mk rest.toArray).toList == ([] : List UInt8)) = decide (rest = []) := by
      rw [Lib.toList_data]; cases rest <;> rfl
    clear hown hnew hok hrl hro haw hn
    by_cases hre : rest = []
    · have hn1 : rest.isEmpty = true := by simpa using hre
      have HRO2 : Hid (routesP l = some acc) := by show _ = _; rw [HRO.out, hre, routes_nil]; simp
      have HIN := Lib.hid (inOrder_c (HO.out.rd (fun x hx => HOK.out x (List.mem_of_mem_take hx))) (by rw [← HN.out]; omega))
      have HM : Hid (res = if mayL (acc.take 33) = true then (acc, 0) else ([], 1)) := by
        show _ = _; rw [HR.out, parseR, HRO2.out, may_take]
      clear hnil hre HRO
      go_wp2_with (go_at_call 8; refine HIN.out.mono ?_; refine Hid.out ?_)
      refine Lib.hid ?_
      rintro E w2 (⟨hm, rfl, haw⟩ | ⟨hm, v, S, rfl, ho, hv, -, haw⟩)
      · have HE : Hid (res = ([], 1)) := by show _ = _; rw [HM.out, hm]; rfl
        have HA2 := Lib.hid (HA.out.trans haw)
        clear hm haw HIN
        go_wp2_with fail
        go_ret2
        exact ⟨_, by rw [HE.out]; rfl, by rw [HE.out]; exact LstD.nil _, New.nil _, HA2.out⟩
      · have HE : Hid (res = (acc.take 33, 0)) := by
          show _ = _; rw [HM.out, hm]
          have := (mayL_iff.1 hm).1
          rw [List.length_take] at this
          rw [List.take_of_length_le (by omega)]; rfl
        have HA2 := Lib.hid (HA.out.trans haw)
        have HO2 := Lib.hid (HO.out.on haw)
        obtain ⟨va, vc, rfl, -⟩ := hv.sl
        clear hm haw HIN ho hv
        go_wp2_with fail
        go_ret2
        exact ⟨_, by rw [HE.out]; rfl, by rw [HE.out]; exact HO2.out, HNW.out, HA2.out⟩
    · have hn1 : rest.isEmpty = false := by simpa using hre
      have HCU := Lib.hid (cut_c ⟨rest.toArray⟩ ⟨#[10]⟩ (by rw [bsz]; have := HLL.out; have := HRL.out; omega) wr (HG.out.aw HA.out))
      have hc := cutlen rest [10] (Nat.le_refl _)
      have HLI := Lib.hid (fun w hg => line_c (Lib.cut rest [10]).1 (by have := HLL.out; have := HRL.out; omega) w hg)
      have HRC := Lib.hid (routes_cut hre)
      have HLT := Lib.hid (cut_lt 10 rest)
      simp only [List.toList_toArray] at HCU
      generalize (Lib.cut rest [10]).2.2 = f at *
      generalize (Lib.cut rest [10]).1 = t1 at *
      generalize (Lib.cut rest [10]).2.1 = t2 at *
      have hc2 := hc.2
      clear hc hnil hre
      go_wp2_with (go_at_call 44; refine HCU.out.mono ?_; refine Hid.out ?_)
      refine Lib.hid ?_
      rintro E w2 ⟨rfl, q, rfl⟩
      replace HA := Lib.hid (HA.out.drewN q)
      replace HO : Hid (LstD (wr.drewN q) (.slice la n lc) (acc.take 33)) := HO.out
      have HLI2 := Lib.hid (HLI.out (wr.drewN q) (HG.out.aw HA.out))
      generalize wr.drewN q = w2 at *
      clear HCU HLI
      go_wp2_with (go_at_call 45; refine HLI2.out.mono ?_; refine Hid.out ?_)
      refine Lib.hid ?_
      rintro E w3 ⟨⟨x, hx, rfl, hxe⟩, haw⟩
      replace HA := Lib.hid (HA.out.trans haw)
      replace HO := Lib.hid (HO.out.on haw)
      have HX := Lib.hid hx
      have HXE := Lib.hid hxe
      obtain ⟨b, hb⟩ : ∃ b, b = (lineP t1).isSome := ⟨_, rfl⟩
      rw [← hb]
      have HB := Lib.hid hb
      clear hx hxe haw HLI2 hb
      go_wp2_with (refine wpList_allocE rfl rfl ?_; refine Hid.out ?_)
      refine Lib.hid ?_
      intro g8 w4 hg8 hbx haw
      have HBX := Lib.hid hbx
      have hs3 := HA.out.size
      have HLG : Hid (∀ k, (Value.slice la n lc).ownBlock = some k → k ∉ [g8]) := fun k hk => by
        have := HO.out.lt k hk
        simp; omega
      replace HA := Lib.hid (HA.out.trans haw)
      replace HO := Lib.hid (HO.out.on haw)
      clear hbx haw
      go_wp2_with (refine wpList_storeE rfl _ _ rfl g8 rfl x zeroD HX.out zeroD_ok rfl HBX.out ?_; refine Hid.out ?_)
      refine Lib.hid ?_
      intro w5 hbx haw
      replace HBX := Lib.hid hbx
      replace HO := Lib.hid (HO.out.away haw HLG.out)
      have HA5 : Hid (Away [] w w5) := HA.out.next haw (fun z hz => .inr (by simp at hz; subst hz; omega))
      have hs5 := HA5.out.size
      clear hbx haw HA HLG hs3 hg8
      cases f
      · have HE : Hid (res = ([], 2)) := by
          show _ = _; rw [HR.out, parseR, HRO.out, HRC.out]; rfl
        go_wp2_with fail
        go_ret2
        exact ⟨_, by rw [HE.out]; rfl, by rw [HE.out]; exact LstD.nil _, New.nil _, HA5.out⟩
      · cases b
        · have HE : Hid (res = ([], 2)) := by
            show _ = _
            have : lineP t1 = none := by have := HB.out; cases h : lineP t1 with | none => rfl | some y => rw [h] at this; simp at this
            rw [HR.out, parseR, HRO.out, HRC.out, this]; rfl
          go_wp2_with fail
          go_ret2
          exact ⟨_, by rw [HE.out]; rfl, by rw [HE.out]; exact LstD.nil _, New.nil _, HA5.out⟩
        · have HLX : Hid (lineP t1 = some x) := by
            show _ = _
            cases h : lineP t1 with
            | none => have := HB.out; rw [h] at this; simp at this
            | some y => rw [HXE.out y h]
          have HR3 : Hid (routesP l = (routesP t2).map ((acc ++ [x]) ++ ·)) := by
            show _ = _
            rw [HRO.out, HRC.out, HLX.out]
            simp only [if_true]
            cases routesP t2 <;> simp
          have HOK3 : Hid (∀ y ∈ acc ++ [x], Okr y) := fun y hy => by
            rcases List.mem_append.1 hy with h | h
            · exact HOK.out y h
            · simp at h; subst h; exact HX.out
          have hlt := HLT.out rfl
          have hrl := HRL.out
          clear HRC HLT HXE
          by_cases h32 : n ≤ 32
          · have h32b : decide ((n : Int) ≤ 32) = true := by simp; omega
            have h32c : (n : Int) ≤ 32 := by omega
            have HTK : Hid ((acc ++ [x]).take 33 = acc.take 33 ++ [x]) := take_snoc (by rw [← HN.out]; exact h32)
            go_wp2_with (first
              | (refine wpList_loadE rfl _ rfl g8 0 rfl x HX.out HBX.out.range ?_)
              | (refine wpList_buildS rfl _ rfl x rfl HX.out ?_; refine Hid.out ?_))
            refine Lib.hid ?_
            intro gb w6 hgb hbx haw
            have HB6 := Lib.hid hbx
            have HA6 := Lib.hid (HA5.out.trans haw)
            replace HO := Lib.hid (HO.out.on haw)
            clear hbx haw hgb
            go_wp2_with (refine wpList_appD rfl _ _ rfl _ _ rfl HO.out gb 1 rfl x HB6.out HX.out (by rw [← HN.out]; omega) ?_; refine Hid.out ?_)
            refine Lib.hid ?_
            intro v' w7 hown hgr hmov
            have HO7 : Hid (LstD w7 v' ((acc ++ [x]).take 33)) := by rw [HTK.out]; exact hown
            have HA7 := Lib.hid (HA6.out.grown hgr (fun k hk => .inr (HNW.out k hk)))
            have HN7 := Lib.hid (HNW.out.moved hmov HA6.out.size)
            clear hown hgr hmov
            go_wp2_with fail
            go_roundw
            case rel => exact ⟨t2, acc ++ [x], rfl, HO7.out, HN7.out, HOK3.out, by omega, HR3.out, HA7.out⟩
            case measure => simp [strLn, bsz]; omega
          · have h32b : decide ((n : Int) ≤ 32) = false := by simp; omega
            have h32c : ¬ ((n : Int) ≤ 32) := by omega
            have HTK : Hid ((acc ++ [x]).take 33 = acc.take 33) := take_more (by rw [← HN.out]; exact h32)
            go_wp2_with fail
            go_roundw
            case rel => exact ⟨t2, acc ++ [x], rfl, by rw [HTK.out]; exact HO.out, HNW.out, HOK3.out, by omega, HR3.out, HA5.out⟩
            case measure => simp [strLn, bsz]; omega
end Go.Proofs.YtoifolmcdkfniabGreatDoor
