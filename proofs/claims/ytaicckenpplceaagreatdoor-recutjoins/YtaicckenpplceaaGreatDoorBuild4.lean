/-
  Build.
-/
import Derived.Test.YtaicckenpplceaaGreatDoorLay4
import Derived.Laws.MakeOwn
namespace Go.Proofs.YtaicckenpplceaaGreatDoor.S4
open Go.ChangeShapes Go.WideShapes Go.ChangeAt Go.RowKit
set_option linter.unusedVariables false

/-- What Build tells. -/
def BuildOut (w : World) (os : List O) (E : Ending) (w' : World) : Prop :=
  Away [] w w' ∧ ∃ v, E = .returned (.tuple #[v, .int .i64 (buildP os).2]) ∧ Owns w' v (buildP os).1 ∧ New w.heap.size v
theorem rightB_sz {o : O} (h : rightB o = true) : szP o ≤ 40 := by
  obtain ⟨_, _, h3, _⟩ := (rightB_iff o).1 h
  unfold szP; split <;> omega
theorem tot_le : ∀ l : List O, (∀ o ∈ l, rightB o = true) → tot l ≤ 40 * l.length
  | [], _ => by simp [tot_nil]
  | o :: l, h => by
    have h1 := rightB_sz (h o (by simp))
    have h2 := tot_le l (fun p hp => h p (by simp [hp]))
    rw [tot_cons, List.length_cons]; omega
theorem take_snoc {α : Type} {xs : List α} {k : Nat} {x : α} (h : xs[k]? = some x) : xs.take (k + 1) = xs.take k ++ [x] := by
  have hk : k < xs.length := by
    rcases Nat.lt_or_ge k xs.length with h' | h'
    · exact h'
    · rw [List.getElem?_eq_none h'] at h; simp at h
  rw [List.getElem?_eq_getElem hk] at h
  rw [List.take_succ_eq_append_getElem hk, Option.some.inj h]
theorem get_of_lt {α : Type} {xs : List α} {k : Nat} (h : k < xs.length) : ∃ x, xs[k]? = some x ∧ x ∈ xs := ⟨xs[k], List.getElem?_eq_getElem h, List.getElem_mem h⟩
theorem build_bad {os : List O} {o : O} (h : o ∈ os) (hr : rightB o = false) : buildP os = ([], 40) := by
  unfold buildP
  rw [if_neg]
  intro h2
  have := List.all_eq_true.1 h2 o h
  rw [hr] at this; simp at this
theorem build_long {os : List O} (h : ∀ o ∈ os, rightB o = true) (ht : 40 < tot os) : buildP os = ([], 3) := by
  unfold buildP
  rw [if_pos (List.all_eq_true.2 h), if_pos ht]

theorem made_zeros (F : Nat) : madeCells #[.int .u8 0] (F * 1) = (Array.replicate F (Value.int .u8 0)) := by
  apply Array.ext
  · simp [madeCells]
  · intro i h1 h2
    simp [madeCells, Nat.mod_one]
theorem make_bytes (F : Nat) (hF : F ≤ 40) (wx : World) : (Instr.makeSlice 27 (.int .i64 0) (.int .i64 (F : Int))).run Tryz.prog wx = .ok (.slice (some ⟨wx.heap.size, 0, none⟩) 0 F) (wx.alloc (.cells (Array.replicate F (Value.int .u8 0)) 5)) := by
  obtain ⟨i0, hi, hz0, hz1, hz2⟩ := info_parts info5
  have := run_make (P := Tryz.prog) wx 27 5 i0 (.int .u8 0) Tryz.underlying27 hi hz0 .i64 .i64 0 F (by omega) (by omega) (by rw [hz2]; omega) (by omega)
  rw [this, hz1]
  simp only [Int.toNat_zero, Int.toNat_natCast, Value.cells]
  rw [made_zeros]
theorem Full.made (w : World) (F : Nat) (hF : F ≤ 40) : Full (w.alloc (.cells (Array.replicate F (Value.int .u8 0)) 5)) w.heap.size F [] := by
  refine ⟨?_, Nat.zero_le _, by omega⟩
  rw [block_new]
  simp
theorem Full.done {w : World} {g F : Nat} {l : List Int} (h : Full w g F l) : Owns w (.slice (some ⟨g, 0, none⟩) F F) (l ++ List.replicate (F - l.length) 0) := by
  have h1 : Full w g F (l ++ List.replicate (F - l.length) 0) := by
    refine ⟨?_, ?_, h.2.2⟩
    · rw [h.1]
      have := h.2.1
      have e : F - (l ++ List.replicate (F - l.length) 0).length = 0 := by simp; omega
      rw [e]; simp
    · have := h.2.1
      simp; omega
  exact h1.owns (by have := h.2.1; simp; omega)
set_option maxHeartbeats 2000000 in
theorem build_c (a : Option Addr) (xs : List V) (n cap : Nat) (w : World) (hn : xs.length = n) (ho : Opts w a xs) (hg : Glob w) :
    Calls Tryz.prog 99 #[.slice a n cap] w fun E w' => BuildOut w (xs.map V.o) E w' := by
  subst hn
  have hlen := ho.1
  have HG : Hid (Glob w) := hg
  have HO : Hid (Opts w a xs) := ho
  clear hg ho
  go_enter Tryz.func99, Tryz.ntmps99
  go_wp2_with fail
  go_loopw [4, 12] (fun s i wr => ∃ k : Nat, k ≤ xs.length ∧ i = .int .i64 k ∧ s = .int .i64 (tot ((xs.take k).map V.o)) ∧ (∀ x ∈ xs.take k, rightB x.o = true) ∧ Away [] w wr) (fun _ i _ => xs.length - (intOf i).toNat)
  case atStart => exact ⟨0, by omega, rfl, rfl, by simp, Away.refl _ _⟩
  case round =>
    obtain ⟨k, hk, rfl, rfl, hall, haw⟩ := hrel
    have htk : tot ((xs.take k).map V.o) ≤ 40 * k := by
      have := tot_le ((xs.take k).map V.o) (fun o ho => by obtain ⟨x, hx, rfl⟩ := List.mem_map.1 ho; exact hall x hx)
      rw [List.length_map, List.length_take] at this; omega
    by_cases hlt : k < xs.length
    · obtain ⟨x, hx, hmem⟩ := get_of_lt hlt
      have hoo := HO.out.on haw
      have hxok := hoo.2.1 x hmem
      rcases hoo.2.2 with h0 | ⟨b, off, rfl, hcell⟩
      · rw [h0] at hlt; simp at hlt
      · obtain ⟨c0, c1⟩ := hcell k x hx
        have hsnoc : Hid (xs.take (k + 1) = xs.take k ++ [x]) := take_snoc hx
        have HOK : Hid (x.ok wr) := hxok
        have hb63 : x.b.length ≤ 140737488355328 := hxok.2.1.1
        unfold V.sl at c1
        have HG2 := HG.out.on haw
        have HGR : Hid (Glob wr) := HG2
        clear hcell hoo hxok HG2
        obtain ⟨kd, ba, bc, d⟩ := x
        simp only at c0 c1 hb63
        generalize hT : tot ((xs.take k).map V.o) = T at *
        go_wp2_with fail
        refine (right_c ⟨kd, ba, bc, d⟩ _ hb63 (by exact HGR.out.on ((Away.refl [] _).alloc _))).mono ?_
        rintro E w2 ⟨rfl, haw2⟩
        generalize hR : rightB (V.o ⟨kd, ba, bc, d⟩) = R at *
        have HR : Hid (rightB (V.o ⟨kd, ba, bc, d⟩) = R) := hR
        clear hR
        have cs : w2.cell? ⟨wr.heap.size, 0, none⟩ = some (.int .i64 kd) ∧ w2.cell? ⟨wr.heap.size, 1, none⟩ = some (.slice ba d.length bc) := by
          constructor
          all_goals
            refine haw2.cell (by simp) ?_
            rw [World.cell?_alloc_at (hn := rfl)]; rfl
        obtain ⟨d0, d1⟩ := cs
        have haw3 : Away [] w w2 := (haw.alloc _).next haw2 (by simp)
        clear haw haw2
        cases R
        · go_wp2_with fail
          go_ret2
          refine ⟨haw3, _, ?_, ?_, New.nil _⟩
          · rw [build_bad (List.mem_map_of_mem hmem) HR.out]; rfl
          · rw [build_bad (List.mem_map_of_mem hmem) HR.out]; exact Owns.nil _
        · have HG3 : Hid (Glob w2) := HG.out.on haw3
          have hr1 := ((rightB_iff _).1 HR.out).1
          have hz := rightB_sz HR.out
          simp only [V.o] at hr1 hz
          go_wp2_with fail
          refine (sizeOf_c ⟨kd, ba, bc, d⟩ _ hb63 hr1 (by exact HG3.out)).mono ?_
          rintro E w4 ⟨rfl, haw4⟩
          simp only [V.o]
          generalize hZ : szP (kd, d) = Z at *
          have haw5 := haw3.next haw4 (by simp)
          clear haw3 haw4
          go_wp2_with fail
          go_roundw
          case rel =>
            refine ⟨k + 1, by omega, by go_num, ?_, ?_, haw5⟩
            · rw [hsnoc.out, List.map_append, tot_app, hT]
              simp only [List.map_cons, List.map_nil, tot_cons, tot_nil, V.o, hZ]
              go_num
            · rw [hsnoc.out]
              intro y hy
              rcases List.mem_append.1 hy with hy | hy
              · exact hall y hy
              · simp at hy; subst hy; exact HR.out
          case measure => simp [intOf]; omega
    · have hkk : xs.take k = xs := List.take_of_length_le (by omega)
      rw [hkk] at hall
      simp only [hkk] at htk ⊢
      have hall' : ∀ o ∈ xs.map V.o, rightB o = true := fun o ho => by obtain ⟨x, hx, rfl⟩ := List.mem_map.1 ho; exact hall x hx
      have HALL : Hid (∀ o ∈ xs.map V.o, rightB o = true) := hall'
      clear hall hall'
      generalize hT : tot (xs.map V.o) = T at *
      have HT : Hid (tot (xs.map V.o) = T) := hT
      clear hT
      by_cases hbig : 40 < T
      · go_wp2_with fail
        go_ret2
        refine ⟨haw, _, ?_, ?_, New.nil _⟩
        · rw [build_long HALL.out (by rw [HT.out]; exact hbig)]; rfl
        · rw [build_long HALL.out (by rw [HT.out]; exact hbig)]; exact Owns.nil _
      · have hF := fill40 (n := T) (by omega)
        have hF2 := fillP_le T
        go_wp2_with fail
        refine (filled_c T _ rfl _ (by omega)).mono ?_
        rintro E w' ⟨rfl, rfl⟩
        generalize hFF : fillP T = F at *
        have HFF : Hid (fillP T = F) := hFF
        clear hFF
        have hmk := make_bytes F hF
        go_wp2_with fail
        have hf0 := Full.made w' F hF
        have haw1 : Away [] w (w'.alloc (.cells (Array.replicate F (Value.int .u8 0)) 5)) := haw.alloc _
        have hge := haw.size
        have hpos := (HG.out.on haw).pos
        generalize hg : w'.heap.size = g at *
        have hgl : g < (w'.alloc (.cells (Array.replicate F (Value.int .u8 0)) 5)).heap.size := by simp; omega
        generalize w'.alloc (.cells (Array.replicate F (Value.int .u8 0)) 5) = w1 at *
        clear haw hmk hg
        go_loopw [7, 31] (fun v i wr => ∃ k : Nat, k ≤ xs.length ∧ i = .int .i64 k ∧ v = .slice (some ⟨g, 0, none⟩) (tot ((xs.take k).map V.o)) F ∧ Full wr g F (flat ((xs.take k).map V.o)) ∧ Away [] w wr) (fun _ i _ => xs.length - (intOf i).toNat)
        case atStart => exact ⟨0, by omega, rfl, rfl, hf0, haw1⟩
        case round =>
          obtain ⟨j, hj, rfl, rfl, hful, haw⟩ := hrel
          have htj : tot ((xs.take j).map V.o) + tot ((xs.drop j).map V.o) = T := by
            rw [← tot_app, ← List.map_append, List.take_append_drop, HT.out]
          by_cases hlt2 : j < xs.length
          · obtain ⟨x, hx, hmem⟩ := get_of_lt hlt2
            have hoo := HO.out.on haw
            have hxok := hoo.2.1 x hmem
            have hsz : tot ((xs.take j).map V.o) + szP x.o ≤ T := by
              rw [List.drop_eq_getElem_cons hlt2, List.map_cons, tot_cons] at htj
              have : xs[j] = x := by rw [List.getElem?_eq_getElem hlt2] at hx; exact Option.some.inj hx
              rw [this] at htj
              omega
            have hba : x.b ≠ [] → ∀ p, x.ba = some p → p.block ≠ g := by
              intro hb p hp e
              have h1 := (HO.out.2.1 x hmem).2.1.lt hb p hp
              omega
            rcases hoo.2.2 with h0 | ⟨b, off, rfl, hcell⟩
            · rw [h0] at hlt2; simp at hlt2
            · obtain ⟨c0, c1⟩ := hcell j x hx
              have hsnoc : Hid (xs.take (j + 1) = xs.take j ++ [x]) := take_snoc hx
              have HOK : Hid (x.ok wr) := hxok
              have hRx : Hid (rightB x.o = true) := HALL.out _ (List.mem_map_of_mem hmem)
              unfold V.sl at c1
              have HGR : Hid (Glob wr) := HG.out.on haw
              have HFL : Hid (Full wr g F (flat ((xs.take j).map V.o))) := hful
              have hfl : Hid ((flat ((xs.take j).map V.o)).length = tot ((xs.take j).map V.o)) := flat_len _
              clear hcell hoo hxok hful htj
              obtain ⟨kd, ba, bc, d⟩ := x
              simp only at c0 c1 hba
              generalize hT2 : tot ((xs.take j).map V.o) = T2 at *
              go_wp2_with fail
              refine (lay_c g F _ (flat ((xs.take j).map V.o)) ⟨kd, ba, bc, d⟩ _ hfl.out (by exact HFL.out.away ((Away.refl [] _).alloc _) (by simp)) (by exact HOK.out.on ((Away.refl [] _).alloc _)) hba hRx.out (by rw [hfl.out]; omega) (by omega) (by exact HGR.out.on ((Away.refl [] _).alloc _))).mono ?_
              rintro E w4 ⟨rfl, hf4, haw4⟩
              have haw5 : Away [] w w4 := (haw.alloc _).next haw4 (by simp; omega)
              have e1 : flat ((xs.take (j + 1)).map V.o) = flat ((xs.take j).map V.o) ++ layP (V.o ⟨kd, ba, bc, d⟩) := by
                rw [hsnoc.out, List.map_append, flat_app]; simp [flat]
              have HE : Hid (flat ((xs.take (j + 1)).map V.o) = flat ((xs.take j).map V.o) ++ layP (V.o ⟨kd, ba, bc, d⟩)) := e1
              rw [← e1] at hf4 ⊢
              clear e1 haw haw4
              rw [flat_len]
              go_wp2_with fail
              go_roundw
              case rel => exact ⟨j + 1, by omega, by go_num, by rw [List.map_take], hf4, haw5⟩
              case measure => simp [intOf]; omega
          · have hkk2 : xs.take j = xs := List.take_of_length_le (by omega)
            simp only [hkk2] at hful ⊢
            rw [HT.out]
            have hsl := slice_h (some ⟨g, 0, none⟩) T F F F rfl (Nat.le_refl _)
            have hown := hful.done
            rw [flat_len, HT.out] at hown
            have HOW : Hid (Owns wr (.slice (some ⟨g, 0, none⟩) F F) (flat (xs.map V.o) ++ List.replicate (F - T) 0)) := hown
            clear hful hown
            go_wp2_with fail
            refine (filled_c T _ rfl _ (by omega)).mono ?_
            rintro E w' ⟨rfl, rfl⟩
            rw [HFF.out]
            go_wp2_with fail
            go_ret2
            have e := buildP_ok HALL.out (by rw [HT.out]; omega)
            refine ⟨haw, .slice (some ⟨g, 0, none⟩) F F, ?_, ?_, ?_⟩
            · rw [e]; rfl
            · rw [e]
              simp only [laidP, HT.out, HFF.out]
              exact HOW.out
            · intro m hm
              simp [Value.ownBlock] at hm
              omega
#print axioms build_c
end Go.Proofs.YtaicckenpplceaaGreatDoor.S4
