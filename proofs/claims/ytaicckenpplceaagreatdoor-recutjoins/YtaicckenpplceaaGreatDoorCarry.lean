/-
  Valid, Carry.
-/
import Derived.Test.YtaicckenpplceaaGreatDoorOParse
import Derived.Test.YtaicckenpplceaaGreatDoorBuild4
namespace Go.Proofs.YtaicckenpplceaaGreatDoor.S4
open Go.ChangeShapes Go.WideShapes Go.ChangeAt Go.RowKit
set_option linter.unusedVariables false

/-- What Carry tells. -/
def BytesOut (w : World) (l : List Int) (E : Ending) (w' : World) : Prop := ∃ v, E = .returned v ∧ Owns w' v l ∧ New w.heap.size v ∧ Away [] w w'
def big (x : V) : Bool := decide (128 ≤ x.kd)
theorem filter_map (xs : List V) : (xs.filter big).map V.o = (xs.map V.o).filter (fun o => decide (128 ≤ o.1)) := by
  rw [List.filter_map]; rfl
set_option maxHeartbeats 2000000 in
theorem carry_c (a : Option Addr) (l : List Int) (n cap : Nat) (w : World) (hn : l.length = n) (hcap : n ≤ cap) (hr : Row w a l) (hg : Glob w) :
    Calls Tryz.prog 98 #[.slice a n cap] w fun E w' => BytesOut w (carryP l) E w' := by
  subst hn
  have hlen := hr.1
  have HG : Hid (Glob w) := hg
  have HR : Hid (Row w a l) := hr
  clear hg hr
  go_enter Tryz.func98, Tryz.ntmps98
  go_wp2_with fail
  refine (ovalid_c a l _ _ _ rfl hcap (by exact HR.out) (by exact HG.out)).mono ?_
  rintro E w1 ⟨rfl, haw1⟩
  generalize hv : validP l = z
  have HV : Hid (validP l = z) := hv
  clear hv
  cases z
  · go_wp2_with fail
    go_ret
    refine ⟨_, rfl, ?_, New.nil _, haw1⟩
    unfold carryP
    rw [if_neg (by rw [HV.out]; simp)]
    exact Owns.nil _
  · have hl40 : l.length ≤ 40 := by
      have := HV.out
      unfold validP at this
      simp only [Bool.and_eq_true, decide_eq_true_eq] at this
      exact this.1.1
    have hs1 := haw1.size
    go_wp2_with fail
    refine (oparse_c a l _ _ _ rfl hcap (by omega) (by exact HR.out.away haw1 (by simp)) (by exact HG.out.on haw1)).mono ?_
    rintro E w2 ⟨haw2, ⟨hp, rfl⟩ | ⟨v, xs, hp, rfl, hm, hxl⟩⟩
    · exfalso
      have := HV.out
      unfold validP at this
      rw [hp] at this
      simp at this
    · obtain ⟨va, vc, rfl, hvc, hvn, hopts, _⟩ := hm.opts (by omega)
      have hok := hm.ok
      have haw3 := haw1.next haw2 (by simp)
      have hs3 := haw3.size
      have HP : Hid (parseP l = some (xs.map V.o)) := hp
      have HOK : Hid (∀ x ∈ xs, x.ok w2) := hok
      have HOP : Hid (Opts w2 va xs) := hopts
      clear hm hp hok hopts haw1 haw2 hs1
      go_wp2_with fail
      go_loopw [5, 20] (fun u i wr => ∃ k : Nat, k ≤ xs.length ∧ i = .int .i64 k ∧ Lst wr u ((xs.take k).filter big) ∧ New w2.heap.size u ∧ Away [] w2 wr) (fun _ i _ => xs.length - (intOf i).toNat)
      case atStart => exact ⟨0, by omega, rfl, Lst.nil _, New.nil _, Away.refl _ _⟩
      case round =>
        obtain ⟨k, hk, rfl, hlst, hnew, haw⟩ := hrel
        have hflen : ((xs.take k).filter big).length ≤ k := Nat.le_trans (List.length_filter_le _ _) (by simp; omega)
        by_cases hlt : k < xs.length
        · obtain ⟨x, hx, hmem⟩ := get_of_lt hlt
          have hoo := HOP.out.on haw
          rcases hoo.2.2 with h0 | ⟨b, off, rfl, hcell⟩
          · rw [h0] at hlt; simp at hlt
          · obtain ⟨c0, c1⟩ := hcell k x hx
            have hsnoc : Hid ((xs.take (k + 1)).filter big = (xs.take k).filter big ++ (if big x then [x] else [])) := by
              show _ = _
              rw [take_snoc hx, List.filter_append]
              congr 1
              by_cases hb : big x = true
              · rw [if_pos hb, List.filter_cons_of_pos hb]; rfl
              · rw [if_neg hb, List.filter_cons_of_neg hb]; rfl
            unfold V.sl at c1
            have hs4 := haw.size
            have HL : Hid (((xs.take k).filter big).length ≤ k) := hflen
            clear hcell hoo hx hflen
            generalize (xs.take k).filter big = fs at *
            obtain ⟨kd, ba, bc, d⟩ := x
            simp only at c0 c1
            by_cases hb : 128 ≤ kd
            · have hbd : decide (128 ≤ kd) = true := by simp [hb]
              have hsn : Hid ((xs.take (k + 1)).filter big = fs ++ [⟨kd, ba, bc, d⟩]) := by
                show _ = _
                rw [hsnoc.out, if_pos (show big ⟨kd, ba, bc, d⟩ = true from hbd)]
              clear hsnoc
              go_wp2_with (at_builtin; refine wpList_app2 rfl _ _ rfl _ fs.length (fs.flatMap V.cells) rfl (by exact ((hlst.away ((Away.refl [] _).alloc _) (by simp)).away ((Away.refl [] _).alloc _) (by simp))) ⟨_, 0, none⟩ 1 rfl (.int .i64 kd) (.slice ba d.length bc) (by rw [World.cell?_alloc_at (hn := by simp)]; rfl) (by rw [add_plain, World.cell?_alloc_at (hn := by simp)]; rfl) rfl rfl (by have := HL.out; omega) ?_)
              intro v' w4 hown4 hgr hmov
              have hl4 : Lst w4 v' (fs ++ [⟨kd, ba, bc, d⟩]) := Lst.snoc hown4
              have hnew4 : New w2.heap.size v' := hnew.moved hmov (by simp; omega)
              have haw4 : Away [] w2 w4 := ((haw.alloc _).alloc _).grown hgr (fun k hk => .inr (hnew k hk))
              clear hgr hmov hown4 hlst haw
              go_wp2_with fail
              go_roundw
              case rel => exact ⟨k + 1, by omega, by go_num, by rw [hsn.out]; exact hl4, hnew4, haw4⟩
              case measure => simp [intOf]; omega
            · have hbd : decide (128 ≤ kd) = false := by simp; omega
              have hsn : Hid ((xs.take (k + 1)).filter big = fs) := by
                show _ = _
                rw [hsnoc.out, if_neg (show ¬ big ⟨kd, ba, bc, d⟩ = true from by rw [show big ⟨kd, ba, bc, d⟩ = false from hbd]; simp)]; simp
              clear hsnoc
              go_wp2_with fail
              go_roundw
              case rel => exact ⟨k + 1, by omega, by go_num, by rw [hsn.out]; exact hlst.away ((Away.refl [] _).alloc _) (by simp), hnew, haw.alloc _⟩
              case measure => simp [intOf]; omega
        · have hkk : xs.take k = xs := List.take_of_length_le (by omega)
          rw [hkk] at hlst
          obtain ⟨fa, fc, rfl, hfc, hfn, hfo, _⟩ := hlst.opts (by have := List.length_filter_le big xs; omega) (fun x hx => (HOK.out x (List.mem_filter.1 hx).1).on haw)
          have HFO : Hid (Opts wr fa (xs.filter big)) := hfo
          have HGR : Hid (Glob wr) := HG.out.on (haw3.next haw (by simp))
          have haw5 := haw3.next haw (by simp)
          have hs5 := haw5.size
          have HC : Hid (carryP l = (buildP ((xs.filter big).map V.o)).1) := by
            show _ = _
            unfold carryP
            rw [if_pos HV.out, HP.out, Option.getD_some, filter_map]
          clear hlst hfo haw
          go_wp2_with fail
          refine (build_c fa (xs.filter big) _ _ _ rfl (by exact HFO.out) (by exact HGR.out)).mono ?_
          rintro E w6 ⟨haw6, v6, rfl, hown6, hnew6⟩
          rw [← HC.out] at hown6
          generalize (buildP ((xs.filter big).map V.o)).2 = er
          go_wp2_with fail
          go_ret
          exact ⟨v6, rfl, hown6, hnew6.mono hs5, haw5.next haw6 (by simp)⟩
#print axioms carry_c
end Go.Proofs.YtaicckenpplceaaGreatDoor.S4
