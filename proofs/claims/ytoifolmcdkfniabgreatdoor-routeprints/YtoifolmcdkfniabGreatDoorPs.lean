/-
  parseLine and Parse.
-/
import Derived.Test.YtoifolmcdkfniabGreatDoorTb
import Derived.Test.YtoifolmcdkfniabGreatDoorSx
namespace Go.Proofs.YtoifolmcdkfniabGreatDoor
open Go.ChangeShapes Go.WideShapes Go.ChangeAt Go.RowKit
set_option linter.unusedVariables false
set_option linter.unusedSimpArgs false
set_option maxRecDepth 100000

theorem Glob.aw {w w' : World} (h : Glob w) (hw : Away [] w w') : Glob w' := h.on hw.to_below
theorem resultRt {fn : Func} {p u : Tmp} (h : fn.results = #[.cell p 39, .tmp u]) (tmps : Array Value) (w : World) (g : Nat) (x : Rt) (hx : Okr x) (v : Value) (hp : tmps.getD p undef = .pointer (some ⟨g, 0, none⟩)) (hu : tmps.getD u undef = v) (hr : BoxD w g x) :
    (results fn tmps).run Tryz.prog w = .ok (.tuple #[.agg (csD x), v]) w := by
  have ht : (loadVar 39 ⟨g, 0, none⟩).run Tryz.prog w = .ok (.agg (csD x)) w := by
    have := run_loadVar_mid (P := Tryz.prog) w g 0 39 (listD x) _ hr.range Tryz.underlying39 rfl (by rw [listD_len hx]; exact infoE)
    rw [this]; rfl
  rw [results_cell_tmp h, hp, hu]
  simp [asAddr, ht, Result.andThen]
def LineOut (w : World) (l : List UInt8) (E : Ending) (w' : World) : Prop :=
  (∃ x, Okr x ∧ E = .returned (.tuple #[.agg (csD x), .bool (lineP l).isSome]) ∧ ∀ y, lineP l = some y → x = y) ∧ Away [] w w'
theorem run_buildZ (w : World) : (Instr.build 39 #[]).run Tryz.prog w = .ok (.agg (csD zeroD)) w := by kernel_rfl
theorem cutlen (l : List UInt8) (sep : List UInt8) {n : Nat} (h : l.length ≤ n) : (Lib.cut l sep).1.length ≤ n ∧ (Lib.cut l sep).2.1.length ≤ n := ⟨Nat.le_trans (cut_len l sep).1 h, Nat.le_trans (cut_len l sep).2 h⟩
set_option maxHeartbeats 4000000 in
theorem line_c (l : List UInt8) (hl : l.length ≤ 4294967280) (w : World) (hg : Glob w) : Calls Tryz.prog 45 #[.string ⟨l.toArray⟩] w (LineOut w l) := by
  have hc1 := cutlen l [47] hl
  have hc2 := cutlen (Lib.cut l [47]).2.1 [32] hc1.2
  have HC1 := Lib.hid (fun w hg => cut_c ⟨l.toArray⟩ ⟨#[47]⟩ (by rw [bsz]; omega) w hg)
  have HC2 := Lib.hid (fun w hg => cut_c ⟨(Lib.cut l [47]).2.1.toArray⟩ ⟨#[32]⟩ (by rw [bsz]; omega) w hg)
  have HP := Lib.hid (fun w hg => parse_c ⟨(Lib.cut l [47]).1.toArray⟩ (by rw [bsz]; omega) w hg)
  have HN1 := Lib.hid (fun w => number_r (Lib.cut (Lib.cut l [47]).2.1 [32]).1 (by omega) w)
  have HN2 := Lib.hid (fun w => number_r (Lib.cut (Lib.cut l [47]).2.1 [32]).2.1 (by omega) w)
  have hpo := parse_ok (Lib.cut l [47]).1
  obtain ⟨ln, hln⟩ : ∃ ln, ln = lineP l := ⟨_, rfl⟩
  have HG := Lib.hid hg
  have HLN : Hid (ln = match parseP (Lib.cut l [47]).1, numR (Lib.cut (Lib.cut l [47]).2.1 [32]).1, numR (Lib.cut (Lib.cut l [47]).2.1 [32]).2.1 with
    | (v, b, e), some n, some k => if e = 0 then some ⟨v, b, n, k⟩ else none
    | _, _, _ => none) := by show _ = _; rw [hln]; rfl
  unfold LineOut
  rw [← hln]
  simp only [List.toList_toArray] at HC1 HC2 HP
  clear hl hg hln hc1 hc2
  generalize (Lib.cut l [47]).2.2 = f1 at *
  generalize (Lib.cut l [47]).1 = t1 at *
  generalize (Lib.cut l [47]).2.1 = t2 at *
  generalize (Lib.cut t2 [32]).2.2 = f2 at *
  generalize (Lib.cut t2 [32]).1 = t3 at *
  generalize (Lib.cut t2 [32]).2.1 = t4 at *
  obtain ⟨⟨v, b, e⟩, hpp⟩ : ∃ r, r = parseP t1 := ⟨_, rfl⟩
  rw [← hpp] at HP HLN hpo
  have HPO := Lib.hid hpo
  obtain ⟨n1, hn1⟩ : ∃ r, r = numR t3 := ⟨_, rfl⟩
  obtain ⟨n2, hn2⟩ : ∃ r, r = numR t4 := ⟨_, rfl⟩
  rw [← hn1] at HN1 HLN
  rw [← hn2] at HN2 HLN
  clear hpp hn1 hn2 hpo
  go_enter Tryz.func45, Tryz.ntmps45
  go_wp2_with (refine wpList_allocE rfl rfl ?_; refine Hid.out ?_)
  refine Lib.hid ?_
  intro g2 w1 hg2 hbx haw
  have HB := Lib.hid hbx
  have HA := Lib.hid haw
  clear hbx haw
  go_wp2_with (go_at_call 44; refine (HC1.out _ (HG.out.aw HA.out)).mono ?_; refine Hid.out ?_)
  refine Lib.hid ?_
  rintro E w2 ⟨rfl, q, rfl⟩
  replace HA := Lib.hid (HA.out.drewN q)
  replace HB : Hid (BoxD (w1.drewN q) g2 zeroD) := HB.out
  generalize w1.drewN q = w2 at *
  clear HC1
  go_wp2_with (go_at_call 44; refine (HC2.out _ (HG.out.aw HA.out)).mono ?_; refine Hid.out ?_)
  refine Lib.hid ?_
  rintro E w3 ⟨rfl, q', rfl⟩
  replace HA := Lib.hid (HA.out.drewN q')
  replace HB : Hid (BoxD (w2.drewN q') g2 zeroD) := HB.out
  generalize w2.drewN q' = w3 at *
  clear HC2
  go_wp2_with (go_at_call 59; refine (HP.out _ (HG.out.aw HA.out)).mono ?_; refine Hid.out ?_)
  refine Lib.hid ?_
  rintro E w4 ⟨rfl, hbl⟩
  have haw := Away.of_below hbl
  replace HA := Lib.hid (HA.out.trans haw)
  replace HB := Lib.hid (HB.out.on haw (by simp))
  clear hbl haw HP
  go_wp2_with (refine wpList_allocA rfl rfl ?_; refine Hid.out ?_)
  refine Lib.hid ?_
  intro g10 w5 hg10 hb10 haw
  have HB10 := Lib.hid hb10
  have hlt := lt_of_block HB.out
  have hs4 := HA.out.size
  replace HA := Lib.hid (HA.out.trans haw)
  replace HB := Lib.hid (HB.out.on haw (by simp))
  clear hb10 haw
  go_wp2_with (refine wpList_storeA rfl _ _ rfl g10 rfl v b HPO.out.1 0 z16 rfl rfl HB10.out ?_; refine Hid.out ?_)
  refine Lib.hid ?_
  intro w6 hb10 haw
  replace HB10 := Lib.hid hb10
  replace HB := Lib.hid (HB.out.on haw (by simp; omega))
  have HA6 : Hid (Away [] w w6) := HA.out.next haw (fun z hz => .inr (by simp at hz; subst hz; omega))
  clear hb10 haw HA hs4 hlt hg10
  go_wp2_with (go_at_call 60; refine (HN1.out _).mono ?_; refine Hid.out ?_)
  refine Lib.hid ?_
  rintro E w7 ⟨rfl, rfl⟩
  clear HN1
  go_wp2_with (go_at_call 60; refine (HN2.out _).mono ?_; refine Hid.out ?_)
  refine Lib.hid ?_
  rintro E w8 ⟨rfl, rfl⟩
  clear HN2
  have hsz : w.heap.size ≤ w8.heap.size := HA6.out.size
  have HBZ := Lib.hid (fun w => run_buildZ w)
  by_cases he : e = 0
  · subst he
    rcases n1 with _ | n1
    · obtain rfl : ln = none := HLN.out
      have hz := HBZ.out
      go_wp2_with (refine wpList_storeE rfl _ _ rfl g2 rfl zeroD zeroD zeroD_ok zeroD_ok rfl HB.out ?_; refine Hid.out ?_)
      refine Lib.hid ?_
      intro w9 hbx haw
      have HB9 := Lib.hid hbx
      have HA9 : Hid (Away [] w w9) := HA6.out.next haw (fun z hz => .inr (by simp at hz; subst hz; omega))
      clear hbx haw
      go_wp2_with fail
      refine bodyPost_ret (v := .tuple #[.agg (csD zeroD), .bool false]) ?_ rfl ⟨⟨zeroD, zeroD_ok, rfl, fun y hy => by simp at hy⟩, HA9.out⟩
      exact resultRt rfl _ _ _ zeroD zeroD_ok _ rfl rfl HB9.out
    · rcases n2 with _ | n2
      · obtain rfl : ln = none := HLN.out
        have hz := HBZ.out
        go_wp2_with (refine wpList_storeE rfl _ _ rfl g2 rfl zeroD zeroD zeroD_ok zeroD_ok rfl HB.out ?_; refine Hid.out ?_)
        refine Lib.hid ?_
        intro w9 hbx haw
        have HB9 := Lib.hid hbx
        have HA9 : Hid (Away [] w w9) := HA6.out.next haw (fun z hz => .inr (by simp at hz; subst hz; omega))
        clear hbx haw
        go_wp2_with fail
        refine bodyPost_ret (v := .tuple #[.agg (csD zeroD), .bool false]) ?_ rfl ⟨⟨zeroD, zeroD_ok, rfl, fun y hy => by simp at hy⟩, HA9.out⟩
        exact resultRt rfl _ _ _ zeroD zeroD_ok _ rfl rfl HB9.out
      · obtain rfl : ln = some ⟨v, b, n1, n2⟩ := HLN.out
        have HX : Hid (Okr ⟨v, b, n1, n2⟩) := HPO.out
        obtain ⟨X, hX⟩ : ∃ X : Rt, X = ⟨v, b, n1, n2⟩ := ⟨_, rfl⟩
        rw [← hX] at HX
        have HXE := Lib.hid hX
        have o1 : optV (some n1) = (n1 : Int) := rfl
        have o2 : optV (some n2) = (n2 : Int) := rfl
        clear hX
        go_wp2_with (first
          | (refine wpList_load32 rfl _ rfl g10 rfl v b HPO.out.1 HB10.out ?_)
          | (refine wpList_buildE rfl _ _ _ rfl X HX.out (by rw [HXE.out]; rfl) (by rw [HXE.out]; rfl) (by rw [HXE.out]; rfl) ?_)
          | (refine wpList_storeE rfl _ _ rfl g2 rfl X zeroD HX.out zeroD_ok rfl HB.out ?_; refine Hid.out ?_))
        refine Lib.hid ?_
        intro w9 hbx haw
        have HB9 := Lib.hid hbx
        have HA9 : Hid (Away [] w w9) := HA6.out.next haw (fun z hz => .inr (by simp at hz; subst hz; omega))
        clear hbx haw
        go_wp2_with fail
        refine bodyPost_ret (v := .tuple #[.agg (csD X), .bool true]) ?_ rfl ⟨⟨X, HX.out, rfl, fun y hy => by rw [HXE.out]; simpa using hy⟩, HA9.out⟩
        exact resultRt rfl _ _ _ X HX.out _ rfl rfl HB9.out
  · obtain rfl : ln = none := by
      rw [HLN.out]
      cases n1 <;> cases n2 <;> simp [he]
    have heb : (e == 0) = false := by simpa using he
    have hz := HBZ.out
    go_wp2_with (refine wpList_storeE rfl _ _ rfl g2 rfl zeroD zeroD zeroD_ok zeroD_ok rfl HB.out ?_; refine Hid.out ?_)
    refine Lib.hid ?_
    intro w9 hbx haw
    have HB9 := Lib.hid hbx
    have HA9 : Hid (Away [] w w9) := HA6.out.next haw (fun z hz => .inr (by simp at hz; subst hz; omega))
    clear hbx haw
    go_wp2_with fail
    refine bodyPost_ret (v := .tuple #[.agg (csD zeroD), .bool false]) ?_ rfl ⟨⟨zeroD, zeroD_ok, rfl, fun y hy => by simp at hy⟩, HA9.out⟩
    exact resultRt rfl _ _ _ zeroD zeroD_ok _ rfl rfl HB9.out
end Go.Proofs.YtoifolmcdkfniabGreatDoor
