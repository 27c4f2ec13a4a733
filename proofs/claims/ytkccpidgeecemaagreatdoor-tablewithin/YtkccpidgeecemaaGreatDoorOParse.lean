/-
  Parse.
-/
import Derived.Test.YtkccpidgeecemaaGreatDoorOpt
import Derived.WalkMore
namespace Go.Proofs.YtkccpidgeecemaaGreatDoor
open Go.ChangeShapes Go.WideShapes Go.ChangeAt Go.RowKit
set_option linter.unusedVariables false

/-- What Parse tells. -/
def OParseOut (w : World) (l : List Int) (E : Ending) (w' : World) : Prop :=
  Away [] w w' ∧ ((parseP l = none ∧ E = .returned (.tuple #[.slice none 0 0, .int .i64 40])) ∨
    ∃ v xs, parseP l = some (xs.map V.o) ∧ E = .returned (.tuple #[v, .int .i64 0]) ∧ Made w' w.heap.size v xs ∧ xs.length ≤ l.length)
theorem Made.snoc {w w' : World} {B : Nat} {v v' : Value} {xs : List V} {x : V} (h : Made w B v xs) (hB : B ≤ w.heap.size) (hgr : w.grownBy w' v.ownBlock) (hm : Moved w v v') (hl : Lst w' v' (xs ++ [x]))
    (h1 : I64 x.kd) (h2 : Owns w x.sl x.b) (h3 : Bytes x.b) (h4 : x.b.length ≤ 140737488355328) (h5 : New B x.sl) (h6 : ∀ k, x.sl.ownBlock = some k → v.ownBlock ≠ some k ∧ ∀ y ∈ xs, y.sl.ownBlock ≠ some k) : Made w' B v' (xs ++ [x]) := by
  have hA : Away v.ownBlock.toList w w' := ⟨hgr.os, hgr.tape, hgr.output, hgr.size, fun i hi hn => hgr.block i hi (fun e => hn (by rw [← e]; simp))⟩
  have hlt : ∀ y ∈ xs ++ [x], ∀ k, y.sl.ownBlock = some k → k < w.heap.size := by
    intro y hy k hk
    rcases List.mem_append.1 hy with hy | hy
    · exact (h.each y hy).2.1.lt k hk
    · simp at hy; subst hy; exact h2.lt k hk
  have hfar : ∀ y ∈ xs ++ [x], ∀ k, y.sl.ownBlock = some k → v.ownBlock ≠ some k := by
    intro y hy k hk
    rcases List.mem_append.1 hy with hy | hy
    · exact h.far y hy k hk
    · simp at hy; subst hy; exact (h6 k hk).1
  refine ⟨hl, h.new.moved hm hB, fun y hy => ?_, fun y hy k hk => ?_, ?_⟩
  · have hS : ∀ k, y.sl.ownBlock = some k → k ∉ v.ownBlock.toList := fun k hk hm => hfar y hy k hk (by simpa using hm)
    rcases List.mem_append.1 hy with hy | hy
    · obtain ⟨a1, a2, a3, a4, a5⟩ := h.each y hy
      exact ⟨a1, a2.away hA hS, a3, a4, a5⟩
    · simp at hy; subst hy
      exact ⟨h1, h2.away hA hS, h3, h4, h5⟩
  · intro e
    rcases hm k e with e | e
    · exact hfar y hy k hk e
    · have := hlt y hy k hk
      omega
  · rw [List.pairwise_append]
    refine ⟨h.apart, by simp, fun y hy z hz k hk e => ?_⟩
    simp at hz; subst hz
    exact (h6 k e).2 y hy hk
theorem parse_none {l : List Int} {k : Nat} {os : List O} (hp : parseP l = (parseP (l.drop k)).map (os ++ ·)) (h : parseP (l.drop k) = none) : parseP l = none := by rw [hp, h]; rfl

set_option maxHeartbeats 2000000 in
theorem oparse_c (a : Option Addr) (l : List Int) (n cap : Nat) (w : World) (hn : l.length = n) (hcap : n ≤ cap) (hsz : n ≤ 4398046511104) (hr : Row w a l) (hg : Glob w) :
    Calls Tryz.prog 64 #[.slice a n cap] w fun E w' => OParseOut w l E w' := by
  subst hn
  have hlen := hr.1
  have hlb := hr.2.1
  have HG : Hid (Glob w) := hg
  clear hg
  go_enter Tryz.func64, Tryz.ntmps64
  go_wp2_with fail
  go_step3
  go_wp2_with fail
  go_step3
  go_wp2_with fail
  go_loopw [4, 5] (fun v i wr => ∃ (k : Nat) (xs : List V), k ≤ l.length ∧ i = .int .i64 k ∧ Made wr w.heap.size v xs ∧ xs.length ≤ k ∧ Away [] w wr ∧ parseP l = (parseP (l.drop k)).map (xs.map V.o ++ ·)) (fun _ i _ => l.length - (intOf i).toNat)
  case atStart => exact ⟨0, [], by omega, rfl, Made.nil _ _, by simp, Away.refl _ _, by simp⟩
  case round =>
    obtain ⟨k, xs, hk, rfl, hmade, hxk, haw, hp⟩ := hrel
    have HP : Hid (parseP l = (parseP (l.drop k)).map (xs.map V.o ++ ·)) := hp
    clear hp
    have hsw := haw.size
    by_cases hlt : k < l.length
    · have hrr := hr.away haw (by simp)
      have hgr := HG.out.on haw
      have HGR : Hid (Glob wr) := hgr
      clear hgr
      rcases hrr.2.2 with h0 | ⟨b, off, rfl, hcell⟩
      · rw [h0] at hlt; simp at hlt
      · have c0 := hcell k hlt
        have bx := hlb.getD k
        have hcons : l.drop k = l[k]?.getD 0 :: l.drop (k + 1) := by rw [List.drop_eq_getElem_cons hlt, List.getElem?_eq_getElem hlt]; rfl
        generalize hx : l[k]?.getD 0 = x at *
        clear hx
        have HT : Hid (Row wr (if cap = k then some ⟨b, off, none⟩ else (some (⟨b, off, none⟩ : Addr)).map (·.add k)) (l.drop k)) := hrr.tail k cap hcap (by omega)
        generalize hA : (if cap = k then some ⟨b, off, none⟩ else (some (⟨b, off, none⟩ : Addr)).map (·.add k)) = A at *
        have hsl := slice_l (some ⟨b, off, none⟩) A l.length cap k k hA.symm rfl (by omega)
        clear hcell hrr hA
        have hdl : (l.drop k).length = l.length - k := by simp
        have HDL : Hid ((l.drop k).length = l.length - k) := hdl
        have HC : Hid (l.drop k = x :: l.drop (k + 1)) := hcons
        clear hdl hcons
        by_cases h0 : x = 0
        · subst h0
          go_wp2_with fail
          refine (shape_c 0 _ (by omega) (by exact HGR.out)).mono ?_
          rintro E w' ⟨rfl, rfl⟩
          rw [show shapeP 0 = 0 from by decide]
          go_wp2_with fail
          refine (blank_c A (l.drop k) _ _ _ HDL.out (by exact HT.out)).mono ?_
          rintro E w' ⟨rfl, rfl⟩
          have HZ : Hid (parseP (l.drop k) = if zerosP (l.drop k) = true then some [] else none) := by
            show _ = _
            rw [HC.out, parseP_zero, zerosP_cons]; simp
          generalize zerosP (l.drop k) = z at *
          cases z
          · go_wp2_with fail
            go_ret2
            exact ⟨haw, .inl ⟨parse_none HP.out (by rw [HZ.out]; rfl), rfl⟩⟩
          · go_wp2_with fail
            go_ret2
            exact ⟨haw, .inr ⟨_, xs, by rw [HP.out, HZ.out]; simp, rfl, hmade, by omega⟩⟩
        · by_cases h1 : x = 1
          · subst h1
            have HZ : Hid (parseP (l.drop k) = (parseP (l.drop (k + 1))).map ((1, []) :: ·)) := by
              show _ = _
              rw [HC.out, parseP_one]
            go_wp2_with fail
            refine (shape_c 1 _ (by omega) (by exact HGR.out)).mono ?_
            rintro E w' ⟨rfl, rfl⟩
            rw [show shapeP 1 = 1 from by decide]
            go_wp2_with (at_builtin; refine wpList_app2 rfl _ _ rfl _ xs.length (xs.flatMap V.cells) rfl (by exact (hmade.lst.away ((Away.refl [] _).alloc _) (by simp))) ⟨_, 0, none⟩ 1 rfl (.int .i64 1) (.slice none 0 0) (by rw [World.cell?_alloc_at (hn := rfl)]; rfl) (by rw [add_plain, World.cell?_alloc_at (hn := rfl)]; rfl) rfl rfl (by omega) ?_)
            intro v' w2 hown2 hgr hmov
            have hm1 := hmade.on ((Away.refl [] _).alloc (.cells #[.int .i64 1, .slice none 0 0] 117))
            have hm2 := hm1.snoc (x := ⟨1, none, 0, []⟩) (by simp; omega) hgr hmov (Lst.snoc hown2) (by unfold I64; simp) (Owns.nil _) Bytes.nil (by simp) (New.nil _) (by simp [V.sl, Value.ownBlock])
            have haw2 : Away [] w w2 := (haw.alloc _).grown hgr (fun k hk => .inr (hmade.new k hk))
            clear hgr hmov hm1 hown2
            go_wp2_with fail
            go_roundw
            case rel => exact ⟨k + 1, xs ++ [⟨1, none, 0, []⟩], by omega, by go_num, hm2, by simp; omega, haw2, by rw [HP.out, HZ.out]; cases parseP (l.drop (k + 1)) <;> simp [V.o]⟩
            case measure => simp [intOf]; omega
          · have hS : shapeP x = 2 := by unfold shapeP; rw [if_neg (by omega)]
            go_wp2_with fail
            refine (shape_c x _ (by omega) (by exact HGR.out)).mono ?_
            rintro E w' ⟨rfl, rfl⟩
            rw [hS]
            clear hS
            by_cases hlong : k + 1 < l.length
            · obtain ⟨y, s, hys⟩ : ∃ y s, l.drop (k + 1) = y :: s := ⟨l[k + 1], l.drop (k + 2), List.drop_eq_getElem_cons hlong⟩
              have hsl2 : s.length + 2 = l.length - k := by
                have := congrArg List.length hys
                simp at this; omega
              have HC2 : Hid (l.drop k = x :: y :: s) := by show _ = _; rw [HC.out, hys]
              have hyb : 0 ≤ y ∧ y ≤ 255 := by
                have := hlb.drop (k + 1); rw [hys] at this; exact this.head
              have hsb : Bytes s := by
                have := hlb.drop (k + 1); rw [hys] at this; exact this.tail
              clear hys
              rw [HC2.out] at HT
              by_cases hc : 2 ≤ y ∧ y.toNat ≤ s.length + 2
              · obtain ⟨hc1, hc2⟩ := hc
                have HZ : Hid (parseP (l.drop k) = (parseP (s.drop (y.toNat - 2))).map ((x, s.take (y.toNat - 2)) :: ·)) := by
                  show _ = _
                  rw [HC2.out, parseP_sized _ _ _ h0 h1, if_pos ⟨hc1, hc2⟩]
                have HD : Hid (s.drop (y.toNat - 2) = l.drop (k + y.toNat)) := by
                  show _ = _
                  rw [← List.drop_drop, HC2.out]
                  obtain ⟨m, hm⟩ : ∃ m, y.toNat = m + 2 := ⟨y.toNat - 2, by omega⟩
                  rw [hm]; rfl
                go_wp2_with fail
                refine (data_yes A x y s _ _ _ hsl2 (by omega) (by exact HT.out) hc1 hc2).mono ?_
                rintro E w' ⟨rfl, D, c, rfl, hrd⟩
                have hdb : (s.take (y.toNat - 2)).length = y.toNat - 2 := by simp; omega
                have hb3 := hsb.take (y.toNat - 2)
                generalize s.take (y.toNat - 2) = d at *
                have HDB : Hid (d.length = y.toNat - 2) := hdb
                have HRD : Hid (Row w' (some D) d) := hrd
                have hd63 : d.length ≤ 140737488355328 := hrd.1
                clear hdb hrd
                go_wp2_with fail
                refine (clone_any (some D) d c _ (by simp) (by exact HRD.out)).mono ?_
                rintro E w3 ⟨v3, rfl, hown3, hnew3, haw3⟩
                obtain ⟨a3, cap3, rfl, _⟩ := hown3.row hd63 hb3
                have hm0 := hmade.on haw3
                have hlt3 := hmade.lst.lt
                go_wp2_with (at_builtin; refine wpList_app2 rfl _ _ rfl _ xs.length (xs.flatMap V.cells) rfl (by exact (hm0.lst.away ((Away.refl [] _).alloc _) (by simp))) ⟨_, 0, none⟩ 1 rfl (.int .i64 x) (.slice a3 d.length cap3) (by rw [World.cell?_alloc_at (hn := rfl)]; rfl) (by rw [add_plain, World.cell?_alloc_at (hn := rfl)]; rfl) rfl rfl (by omega) ?_)
                intro v' w4 hown4 hgr hmov
                have hm1 := hm0.on ((Away.refl [] _).alloc (.cells #[.int .i64 x, .slice a3 d.length cap3] 117))
                have hs3 := haw3.size
                have hm2 := hm1.snoc (x := ⟨x, a3, cap3, d⟩) (by simp; omega) hgr hmov (Lst.snoc hown4) (by unfold I64; simp only; omega) (by exact hown3.away ((Away.refl [] _).alloc _) (by simp)) hb3 hd63 (by exact hnew3.mono hsw) (fun j hj => ⟨fun e => by
                    have h1 := hnew3 j hj
                    have h2 := hlt3 j e
                    omega, fun z hz e => by
                    have h1 := hnew3 j hj
                    have h2 := (hmade.each z hz).2.1.lt j e
                    omega⟩)
                have haw2 : Away [] w w4 := ((haw.next haw3 (by simp)).alloc _).grown hgr (fun k hk => .inr (hmade.new k hk))
                clear hgr hmov hm1 hm0 hown4 hown3 hmade haw3 haw
                go_wp2_with fail
                go_roundw
                case rel => exact ⟨k + y.toNat, xs ++ [⟨x, a3, cap3, d⟩], by omega, by rw [HDB.out]; go_num, hm2, by simp; omega, haw2, by rw [HP.out, HZ.out, HD.out]; cases parseP (l.drop (k + y.toNat)) <;> simp [V.o]⟩
                case measure => rw [HDB.out]; simp [intOf]; omega
              · have HZ : Hid (parseP (l.drop k) = none) := by
                  show _ = _
                  rw [HC2.out, parseP_sized _ _ _ h0 h1, if_neg hc]
                go_wp2_with fail
                refine (data_no A x y s _ _ _ hsl2 (by exact HT.out) hc).mono ?_
                rintro E w' ⟨rfl, rfl⟩
                go_wp2_with fail
                go_ret2
                exact ⟨haw, .inl ⟨parse_none HP.out HZ.out, rfl⟩⟩
            · have HZ : Hid (parseP (l.drop k) = none) := by
                show _ = _
                rw [HC.out, List.drop_eq_nil_of_le (by omega), parseP_lone _ h0 h1]
              go_wp2_with fail
              refine (data_short A (l.drop k) _ _ _ HDL.out (by omega)).mono ?_
              rintro E w' ⟨rfl, rfl⟩
              go_wp2_with fail
              go_ret2
              exact ⟨haw, .inl ⟨parse_none HP.out HZ.out, rfl⟩⟩
    · go_wp2_with fail
      go_ret2
      refine ⟨haw, .inr ⟨_, xs, ?_, rfl, hmade, by omega⟩⟩
      rw [HP.out, List.drop_eq_nil_of_le (by omega), parseP_nil]; simp
set_option maxHeartbeats 1000000 in
theorem ovalid_c (a : Option Addr) (l : List Int) (n cap : Nat) (w : World) (hn : l.length = n) (hcap : n ≤ cap) (hr : Row w a l) (hg : Glob w) :
    Calls Tryz.prog 42 #[.slice a n cap] w fun E w' => E = .returned (.bool (validP l)) ∧ Away [] w w' := by
  subst hn
  have hlen := hr.1
  have HG : Hid (Glob w) := hg
  have HR : Hid (Row w a l) := hr
  clear hg hr
  obtain ⟨z, hz⟩ : ∃ z, z = validP l := ⟨_, rfl⟩
  rw [← hz]
  have HZ : Hid (z = validP l) := hz
  clear hz
  by_cases h1 : 40 < l.length
  · obtain rfl : z = false := by
      rw [HZ.out]; unfold validP; rw [show decide (l.length ≤ 40) = false from by simp; omega]; rfl
    go_enter Tryz.func42, Tryz.ntmps42
    go_wp2_with fail
    go_ret
    exact ⟨rfl, Away.refl _ _⟩
  · by_cases h2 : l.length % 4 = 0
    · have h3 : ((l.length : Int) % 4 != 0) = false := by simp; omega
      have HP : Hid (z = (parseP l).isSome) := by
        show _ = _
        rw [HZ.out]; unfold validP
        rw [show decide (l.length ≤ 40) = true from by simp; omega, show decide (l.length % 4 = 0) = true from by simp; omega]; rfl
      have h4 : decide ((l.length : Int) ≤ 40) = true := by simp; omega
      go_enter Tryz.func42, Tryz.ntmps42
      go_wp2_with fail
      refine (oparse_c a l _ _ _ rfl hcap (by omega) (by exact HR.out) (by exact HG.out)).mono ?_
      rintro E w' ⟨haw, ⟨hp, rfl⟩ | ⟨v, xs, hp, rfl, hm, _⟩⟩
      · obtain rfl : z = false := by rw [HP.out, hp]; rfl
        clear hp
        go_wp2_with fail
        go_ret
        exact ⟨rfl, haw⟩
      · obtain rfl : z = true := by rw [HP.out, hp]; rfl
        clear hp hm
        go_wp2_with fail
        go_ret
        exact ⟨rfl, haw⟩
    · obtain rfl : z = false := by
        rw [HZ.out]; unfold validP; rw [show decide (l.length % 4 = 0) = false from by simp; omega]; simp
      have h3 : ((l.length : Int) % 4 != 0) = true := by simp; omega
      go_enter Tryz.func42, Tryz.ntmps42
      go_wp2_with fail
      go_ret
      exact ⟨rfl, Away.refl _ _⟩

end Go.Proofs.YtkccpidgeecemaaGreatDoor
