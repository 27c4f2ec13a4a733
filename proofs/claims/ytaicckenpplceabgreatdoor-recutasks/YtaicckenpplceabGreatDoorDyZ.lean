/-
  The document's Valid, Carry.
-/
import Derived.Test.YtaicckenpplceabGreatDoorCarry
import Derived.Test.YtaicckenpplceabGreatDoorStp
import Derived.Deep.RegionLaw
namespace Go.Proofs.YtaicckenpplceabGreatDoor.S4
open Go.ChangeShapes Go.WideShapes Go.ChangeAt Go.RowKit
set_option linter.unusedVariables false
set_option maxRecDepth 100000

theorem cells_row {w : World} {a : Option Addr} {l : List Int} (h : Row w a l) {k : Nat} (hk : k < l.length) : ∃ b off, a = some ⟨b, off, none⟩ ∧ w.cell? ⟨b, off + k, none⟩ = some (.int .u8 (l[k]?.getD 0)) := by
  rcases h.2.2 with h0 | ⟨b, off, rfl, hc⟩
  · rw [h0] at hk; simp at hk
  · exact ⟨b, off, rfl, hc k hk⟩
theorem cells_opts {w : World} {a : Option Addr} {xs : List V} (h : Opts w a xs) {k : Nat} {x : V} (hk : xs[k]? = some x) :
    ∃ b off, a = some ⟨b, off, none⟩ ∧ w.cell? ⟨b, off + k * 2, none⟩ = some (.int .i64 x.kd) ∧ w.cell? ⟨b, off + k * 2 + 1, none⟩ = some (.slice x.ba x.b.length x.bc) ∧ Row w x.ba x.b := by
  rcases h.2.2 with h0 | ⟨b, off, rfl, hc⟩
  · rw [h0] at hk; simp at hk
  · exact ⟨b, off, rfl, (hc k x hk).1, (hc k x hk).2, (h.2.1 x (List.mem_of_getElem? hk)).2.1⟩
theorem right_no {kd : Int} {d : List Int} (h : kd < 1 ∨ 255 < kd ∨ (kd = 1 ∧ d ≠ []) ∨ 38 < d.length) : rightB (kd, d) = false := by
  rw [Bool.eq_false_iff]
  intro hr
  obtain ⟨h1, h2, h3, h4⟩ := (rightB_iff _).1 hr
  simp only at h1 h2 h3 h4
  rcases h with h | h | h | h
  · omega
  · omega
  · exact h.2 (h4 h.1)
  · omega
/-- What lies in the list that is laid: all of it, as long as it fits. -/
def Acc (w wr : World) (v : Value) (t : Nat) (fl : List Int) : Prop := ∃ m : List Int, Owns wr v m ∧ m.length ≤ 40 ∧ Bytes m ∧ (t ≤ 40 → m = fl) ∧ New w.heap.size v ∧ Away [] w wr
theorem Acc.alloc {w wr : World} {v : Value} {t : Nat} {fl : List Int} (h : Acc w wr v t fl) (o : Obj) : Acc w (wr.alloc o) v t fl := by
  obtain ⟨m, h1, h2, h3, h4, h5, h6⟩ := h
  exact ⟨m, h1.away ((Away.refl [] _).alloc _) (by simp), h2, h3, h4, h5, h6.alloc _⟩
theorem Acc.over {w wr : World} {v : Value} {t t' : Nat} {fl fl' : List Int} (h : Acc w wr v t fl) (ht : 40 < t') : Acc w wr v t' fl' := by
  obtain ⟨m, h1, h2, h3, h4, h5, h6⟩ := h
  exact ⟨m, h1, h2, h3, fun h => by omega, h5, h6⟩

set_option maxHeartbeats 8000000 in
theorem rbuild_c (a : Option Addr) (xs : List V) (n cap : Nat) (w : World) (hn : xs.length = n) (ho : Opts w a xs) :
    Calls Tryz.prog 37 #[.slice a n cap] w fun E w' => BuildOut w (xs.map V.o) E w' := by
  subst hn
  have hlen := ho.1
  have HO : Hid (Opts w a xs) := ho
  clear ho
  go_enter Tryz.func37, Tryz.ntmps37
  go_wp2_with fail
  go_loopw [4, 5, 6] (fun v s i wr => ∃ k : Nat, k ≤ xs.length ∧ i = .int .i64 k ∧ s = .int .i64 ((min (tot ((xs.take k).map V.o)) 1000 : Nat) : Int) ∧ (∀ x ∈ xs.take k, rightB x.o = true) ∧ Acc w wr v (tot ((xs.take k).map V.o)) (flat ((xs.take k).map V.o))) (fun _ _ i _ => xs.length - (intOf i).toNat)
  case atStart => exact ⟨0, by omega, rfl, rfl, by simp, [], Owns.nil _, by simp, Bytes.nil, fun _ => rfl, New.nil _, Away.refl _ _⟩
  case round =>
    obtain ⟨k, hk, rfl, rfl, hall, hacc⟩ := hrel
    have haw : Away [] w wr := by obtain ⟨_, _, _, _, _, _, h⟩ := hacc; exact h
    have HA : Hid (∀ x ∈ xs.take k, rightB x.o = true) := hall
    have HACC : Hid (Acc w wr u4 (tot ((xs.take k).map V.o)) (flat ((xs.take k).map V.o))) := hacc
    clear hall hacc
    by_cases hlt : k < xs.length
    · obtain ⟨x, hx, hmem⟩ := get_of_lt hlt
      have hoo := HO.out.on haw
      have hxok := hoo.2.1 x hmem
      obtain ⟨b, off, rfl, c0, c1, hrow⟩ := cells_opts hoo hx
      have hsn1 : (xs.take (k + 1)).map V.o = (xs.take k).map V.o ++ [x.o] := by rw [take_snoc hx]; simp
      have hTs : Hid (tot ((xs.take (k + 1)).map V.o) = tot ((xs.take k).map V.o) + szP x.o) := by
        show _ = _
        rw [hsn1, tot_app]; simp [tot]
      have hFs : Hid (flat ((xs.take (k + 1)).map V.o) = flat ((xs.take k).map V.o) ++ layP x.o) := by
        show _ = _
        rw [hsn1, flat_app]; simp [flat]
      have hAs : Hid (rightB x.o = true → ∀ y ∈ xs.take (k + 1), rightB y.o = true) := by
        intro h y hy
        rw [take_snoc hx] at hy
        rcases List.mem_append.1 hy with hy | hy
        · exact HA.out y hy
        · simp at hy; subst hy; exact h
      have hBad : Hid (rightB x.o = false → buildP (xs.map V.o) = ([], 40)) := fun h => build_bad (List.mem_map_of_mem hmem) h
      have hnone := hxok.2.2.1
      have hd63 := hrow.1
      have hdb := hrow.2.1
      have HRW : Hid (∀ wx, Away [] w wx → Row wx x.ba x.b) := fun wx hwx => ((HO.out.on hwx).2.1 x hmem).2.1
      clear hoo hx hxok hsn1 hrow hmem
      obtain ⟨kd, ba, bc, d⟩ := x
      simp only at c0 c1 hnone hd63 hdb
      have HFL : Hid ((flat ((xs.take k).map V.o)).length = tot ((xs.take k).map V.o)) := flat_len _
      generalize hT : tot ((xs.take k).map V.o) = T at *
      generalize hF : flat ((xs.take k).map V.o) = fl at *
      have HT : Hid (tot ((xs.take k).map V.o) = T) := hT
      clear hT hF
      by_cases q1 : kd < 1
      · go_wp2_with fail
        go_ret2
        refine ⟨haw.alloc _, _, ?_, ?_, New.nil _⟩
        · rw [hBad.out (right_no (.inl q1))]; rfl
        · rw [hBad.out (right_no (.inl q1))]; exact Owns.nil _
      by_cases q2 : 255 < kd
      · go_wp2_with fail
        go_ret2
        refine ⟨haw.alloc _, _, ?_, ?_, New.nil _⟩
        · rw [hBad.out (right_no (.inr (.inl q2)))]; rfl
        · rw [hBad.out (right_no (.inr (.inl q2)))]; exact Owns.nil _
      by_cases q3 : kd = 1
      · subst q3
        by_cases q5 : d.length = 0
        · have hd0 : d = [] := List.eq_nil_of_length_eq_zero q5
          subst hd0
          have hsz : Hid (szP (1, []) = 1) := rfl
          have hly : Hid (layP (1, []) = [1]) := rfl
          have hrt : Hid (rightB (1, []) = true) := by show _ = _; decide
          by_cases hov : 40 < T + 1
          · by_cases hm : T + 1 ≤ 1000
            · have e1 : min T 1000 = T := by omega
              rw [e1]
              go_wp2_with fail
              go_roundw
              case rel => exact ⟨k + 1, by omega, by go_num, by rw [hTs.out]; simp only [V.o]; rw [hsz.out, show min (T + 1) 1000 = T + 1 from by omega]; go_num, hAs.out hrt.out, by rw [hTs.out]; exact (HACC.out.alloc _).over (by simp only [V.o]; rw [hsz.out]; omega)⟩
              case measure => simp [intOf]; omega
            · have e1 : min T 1000 = 1000 := by omega
              rw [e1]
              go_wp2_with fail
              go_roundw
              case rel => exact ⟨k + 1, by omega, by go_num, by rw [hTs.out]; simp only [V.o]; rw [hsz.out, show min (T + 1) 1000 = 1000 from by omega]; go_num, hAs.out hrt.out, by rw [hTs.out]; exact (HACC.out.alloc _).over (by simp only [V.o]; rw [hsz.out]; omega)⟩
              case measure => simp [intOf]; omega
          · have e1 : min T 1000 = T := by omega
            rw [e1]
            obtain ⟨m, hown, hm40, hmb, hme, hnew, _⟩ := HACC.out
            have hme := hme (by omega)
            have HME : Hid (m = fl) := hme
            clear hme
            go_wp2_with (at_builtin; refine wpList_app rfl _ _ rfl _ m [1] rfl (by exact (hown.away ((Away.refl [] _).alloc _) (by simp)).away ((Away.refl [] _).alloc _) (by simp)) ⟨_, 0, none⟩ 1 1 rfl rfl (by exact lit_cells _ [1] _ (by simp)) (by omega) ?_)
            intro v' w2 hown2 hgr hmov
            have haw2 : Away [] w w2 := ((haw.alloc _).alloc _).grown hgr (fun k hk => .inr (hnew k hk))
            have hnew2 : New w.heap.size v' := hnew.moved hmov (by simp; have := haw.size; omega)
            have hawl : Away u4.ownBlock.toList ((wr.alloc (.cells #[.int .i64 1, .slice ba 0 bc] 54)).alloc (.cells #[.int .u8 1] 5)) w2 := (Away.refl _ _).grown hgr (fun k hk => .inl (by simp [hk]))
            have y0 : w2.cell? ⟨wr.heap.size, 0, none⟩ = some (.int .i64 1) := by
              refine hawl.cell (fun hj => ?_) ?_
              · have := hown.lt _ (by simpa using hj); omega
              · refine ((Away.refl [] (wr.alloc (.cells #[.int .i64 1, .slice ba 0 bc] 54))).alloc (.cells #[.int .u8 1] 5)).cell (by simp) ?_
                rw [World.cell?_alloc_at (hn := rfl)]; rfl
            clear hgr hmov hawl
            go_wp2_with fail
            go_roundw
            case rel =>
              refine ⟨k + 1, by omega, by go_num, by rw [hTs.out]; simp only [V.o]; rw [hsz.out, show min (T + 1) 1000 = T + 1 from by omega]; go_num, hAs.out hrt.out, m ++ [1], hown2, ?_, ?_, fun _ => ?_, hnew2, haw2⟩
              · have h1 : m.length = T := by
                  rw [HME.out]; exact HFL.out
                simp; omega
              · exact hmb.app (by intro z hz; simp at hz; omega)
              · rw [hFs.out, HME.out]; simp only [V.o]; rw [hly.out]
            case measure => simp [intOf]; omega
        · have q6 : (0 : Int) < (d.length : Int) := by omega
          have hne : d ≠ [] := fun e => q5 (by rw [e]; rfl)
          go_wp2_with fail
          go_ret2
          refine ⟨haw.alloc _, _, ?_, ?_, New.nil _⟩
          · rw [hBad.out (right_no (.inr (.inr (.inl ⟨rfl, hne⟩))))]; rfl
          · rw [hBad.out (right_no (.inr (.inr (.inl ⟨rfl, hne⟩))))]; exact Owns.nil _
      · by_cases q4 : 38 < d.length
        · have q5 : (38 : Int) < (d.length : Int) := by omega
          go_wp2_with fail
          go_ret2
          refine ⟨haw.alloc _, _, ?_, ?_, New.nil _⟩
          · rw [hBad.out (right_no (.inr (.inr (.inr q4))))]; rfl
          · rw [hBad.out (right_no (.inr (.inr (.inr q4))))]; exact Owns.nil _
        have hsz : Hid (szP (kd, d) = 2 + d.length) := by show _ = _; unfold szP; rw [if_neg q3]
        have hly : Hid (layP (kd, d) = kd :: (2 + d.length : Int) :: d) := by show _ = _; unfold layP; rw [if_neg q3]
        have hrt : Hid (rightB (kd, d) = true) := by
          show _ = _
          rw [rightB_iff]; exact ⟨by simp only; omega, by simp only; omega, by simp only; omega, fun h => absurd h q3⟩
        have q7 : (1 : Int) < kd := by omega
        have q8 : ¬ ((38 : Int) < (d.length : Int)) := by omega
        by_cases hov : 40 < T + (2 + d.length)
        · by_cases hm : T + 1 + 1 + d.length ≤ 1000
          · have e1 : min T 1000 = T := by omega
            rw [e1]
            go_wp2_with fail
            go_roundw
            case rel => exact ⟨k + 1, by omega, by go_num, by rw [hTs.out]; simp only [V.o]; rw [hsz.out, show min (T + (2 + d.length)) 1000 = T + (2 + d.length) from by omega]; go_num, hAs.out hrt.out, by rw [hTs.out]; exact (HACC.out.alloc _).over (by simp only [V.o]; rw [hsz.out]; omega)⟩
            case measure => simp [intOf]; omega
          · by_cases hm2 : T + 1 ≤ 1000
            · have e1 : min T 1000 = T := by omega
              rw [e1]
              go_wp2_with fail
              go_roundw
              case rel => exact ⟨k + 1, by omega, by go_num, by rw [hTs.out]; simp only [V.o]; rw [hsz.out, show min (T + (2 + d.length)) 1000 = 1000 from by omega]; go_num, hAs.out hrt.out, by rw [hTs.out]; exact (HACC.out.alloc _).over (by simp only [V.o]; rw [hsz.out]; omega)⟩
              case measure => simp [intOf]; omega
            · have e1 : min T 1000 = 1000 := by omega
              rw [e1]
              go_wp2_with fail
              go_roundw
              case rel => exact ⟨k + 1, by omega, by go_num, by rw [hTs.out]; simp only [V.o]; rw [hsz.out, show min (T + (2 + d.length)) 1000 = 1000 from by omega]; go_num, hAs.out hrt.out, by rw [hTs.out]; exact (HACC.out.alloc _).over (by simp only [V.o]; rw [hsz.out]; omega)⟩
              case measure => simp [intOf]; omega
        · have e1 : min T 1000 = T := by omega
          rw [e1]
          obtain ⟨m, hown, hm40, hmb, hme, hnew, _⟩ := HACC.out
          have hme := hme (by omega)
          have HME : Hid (m = fl) := hme
          have hmT : m.length = T := by rw [hme]; exact HFL.out
          have HMT : Hid (m.length = T) := hmT
          clear hme hmT
          have hwr : IntKind.u8.wrap kd = kd := by simp [IntKind.wrap, IntKind.bits, IntKind.signed]; omega
          have hwr2 : IntKind.u8.wrap (2 + d.length : Int) = 2 + d.length := by simp [IntKind.wrap, IntKind.bits, IntKind.signed]; omega
          go_wp2_with (at_builtin; refine wpList_app rfl _ _ rfl _ m [kd] rfl (by exact (hown.away ((Away.refl [] _).alloc _) (by simp)).away ((Away.refl [] _).alloc _) (by simp)) ⟨_, 0, none⟩ 1 1 rfl rfl (by exact lit_cells _ [kd] _ (by simp)) (by omega) ?_)
          intro v2 w2 hown2 hgr2 hmov2
          have haw2 : Away [] w w2 := ((haw.alloc _).alloc _).grown hgr2 (fun k hk => .inr (hnew k hk))
          have hsw := haw.size
          have hnew2 : New w.heap.size v2 := hnew.moved hmov2 (by simp; omega)
          have hawl : Away u4.ownBlock.toList ((wr.alloc (.cells #[.int .i64 kd, .slice ba d.length bc] 54)).alloc (.cells #[.int .u8 kd] 5)) w2 := (Away.refl _ _).grown hgr2 (fun k hk => .inl (by simp [hk]))
          have hawl2 : Away u4.ownBlock.toList wr w2 := (((Away.refl _ wr).alloc _).alloc _).next hawl (fun x hx => .inl hx)
          have hno : wr.heap.size ∉ u4.ownBlock.toList := fun hj => by have := hown.lt _ (by simpa using hj); omega
          have y : w2.cell? ⟨wr.heap.size, 0, none⟩ = some (.int .i64 kd) ∧ w2.cell? ⟨wr.heap.size, 1, none⟩ = some (.slice ba d.length bc) := by
            constructor
            all_goals
              refine hawl.cell hno ?_
              refine ((Away.refl [] (wr.alloc (.cells #[.int .i64 kd, .slice ba d.length bc] 54))).alloc (.cells #[.int .u8 kd] 5)).cell (by simp) ?_
              rw [World.cell?_alloc_at (hn := rfl)]; rfl
          obtain ⟨y0, y1⟩ := y
          have hvb : ∀ j, v2.ownBlock = some j → j ≠ wr.heap.size := fun j hj e => by
            rcases hmov2 j hj with h | h
            · have := hown.lt j h; omega
            · simp at h; omega
          clear hgr2 hmov2 hawl hawl2 hno
          go_wp2_with (at_builtin; refine wpList_app rfl _ _ rfl _ (m ++ [kd]) [(2 + d.length : Int)] rfl (by exact hown2.away ((Away.refl [] _).alloc _) (by simp)) ⟨_, 0, none⟩ 1 1 rfl rfl (by exact lit_cells _ [(2 + d.length : Int)] _ rfl) (by simp; omega) ?_)
          intro v3 w3 hown3 hgr3 hmov3
          have haw3 : Away [] w w3 := (haw2.alloc _).grown hgr3 (fun k hk => .inr (hnew2 k hk))
          have hnew3 : New w.heap.size v3 := hnew2.moved hmov3 (by simp; have := haw2.size; omega)
          have y2 : w3.cell? ⟨wr.heap.size, 1, none⟩ = some (.slice ba d.length bc) := by
            have hawl : Away v2.ownBlock.toList (w2.alloc (.cells #[.int .u8 (2 + d.length : Int)] 5)) w3 := (Away.refl _ _).grown hgr3 (fun k hk => .inl (by simp [hk]))
            refine hawl.cell (fun hj => hvb _ (by simpa using hj) rfl) ?_
            exact ((Away.refl [] w2).alloc _).cell (by simp) y1
          have HD3 : Hid (Row w3 ba d) := HRW.out _ haw3
          have HO3 : Hid (Owns w3 v3 (m ++ [kd, (2 + d.length : Int)])) := by
            show Owns _ _ _
            simpa using hown3
          clear hgr3 hmov3 hown3 hown2 y0 y1 hvb
          rcases ba with _ | ad
          · have hd0 : d = [] := by rcases HD3.out.2.2 with h | ⟨_, _, h, _⟩ <;> simp_all
            subst hd0
            obtain rfl := hnone rfl
            go_wp2_with (at_builtin; refine wpList_app_none rfl _ _ rfl _ (m ++ [kd, (2 + ([] : List Int).length : Int)]) rfl (by exact HO3.out) rfl ?_)
            go_wp2_with fail
            go_roundw
            case rel =>
              refine ⟨k + 1, by omega, by go_num, by rw [hTs.out]; simp only [V.o]; rw [hsz.out, show min (T + (2 + ([] : List Int).length)) 1000 = T + (2 + ([] : List Int).length) from by simp; omega]; go_num, hAs.out hrt.out, _, HO3.out, by have := HMT.out; simp; omega, ?_, fun _ => ?_, hnew3, haw3⟩
              · exact hmb.app ((Bytes.nil.cons (by simp) (by simp)).cons (by omega) (by omega))
              · rw [hFs.out, HME.out]; simp only [V.o]; rw [hly.out]
            case measure => simp [intOf]; omega
          · go_wp2_with (at_builtin; refine wpList_app rfl _ _ rfl _ (m ++ [kd, (2 + d.length : Int)]) d rfl (by exact HO3.out) ad d.length bc rfl rfl (by exact HD3.out.src) (by have := HMT.out; simp; omega) ?_)
            intro v4 w4 hown4 hgr4 hmov4
            have haw4 : Away [] w w4 := haw3.grown hgr4 (fun k hk => .inr (hnew3 k hk))
            have hnew4 : New w.heap.size v4 := hnew3.moved hmov4 haw3.size
            have HO4 : Hid (Owns w4 v4 ((m ++ [kd, (2 + d.length : Int)]) ++ d)) := by
              show Owns _ _ _
              simpa using hown4
            clear hgr4 hmov4 hown4
            go_wp2_with fail
            go_roundw
            case rel =>
              refine ⟨k + 1, by omega, by go_num, by rw [hTs.out]; simp only [V.o]; rw [hsz.out, show min (T + (2 + d.length)) 1000 = T + (2 + d.length) from by omega]; go_num, hAs.out hrt.out, _, HO4.out, by have := HMT.out; simp; omega, ?_, fun _ => ?_, hnew4, haw4⟩
              · exact (hmb.app ((Bytes.nil.cons (by omega) (by omega)).cons (by omega) (by omega))).app hdb
              · rw [hFs.out, HME.out]; simp only [V.o]; rw [hly.out]; simp
            case measure => simp [intOf]; omega
    · have hkk : xs.take k = xs := List.take_of_length_le (by omega)
      have HALL : Hid (∀ o ∈ xs.map V.o, rightB o = true) := fun o ho => by
        obtain ⟨x, hx, rfl⟩ := List.mem_map.1 ho
        exact HA.out x (by rw [hkk]; exact hx)
      have hacc := HACC.out
      rw [hkk] at hacc ⊢
      clear HACC HA
      have HFL : Hid ((flat (xs.map V.o)).length = tot (xs.map V.o)) := flat_len _
      generalize hT : tot (xs.map V.o) = T at *
      have HT : Hid (tot (xs.map V.o) = T) := hT
      clear hT
      by_cases hbig : 40 < T
      · have e1 : (40 : Int) < ((min T 1000 : Nat) : Int) := by omega
        generalize ((min T 1000 : Nat) : Int) = N at *
        go_wp2_with fail
        go_ret2
        refine ⟨haw, _, ?_, ?_, New.nil _⟩
        · rw [build_long HALL.out (by rw [HT.out]; exact hbig)]; rfl
        · rw [build_long HALL.out (by rw [HT.out]; exact hbig)]; exact Owns.nil _
      · have e1 : min T 1000 = T := by omega
        rw [e1]
        obtain ⟨m, hown, hm40, hmb, hme, hnew, _⟩ := hacc
        have hme := hme (by omega)
        have HME : Hid (m = flat (xs.map V.o)) := hme
        have hmT : m.length = T := by rw [hme]; exact HFL.out
        have HMT : Hid (m.length = T) := hmT
        have hF := fill40 (n := T) (by omega)
        have hF2 := fillP_le T
        clear hme hmT e1
        go_wp2_with fail
        go_loopw [4] (fun v ws => ∃ j : Nat, T + j ≤ fillP T ∧ Owns ws v (m ++ List.replicate j 0) ∧ New w.heap.size v ∧ Away [] w ws) (fun v _ => 40 - (match v with | .slice _ n _ => n | _ => 0))
        case atStart => exact ⟨0, by omega, by simpa using hown, hnew, haw⟩
        case round =>
          obtain ⟨j, hj, hownj, hnewj, hawj⟩ := hrel
          have hjl : (m ++ List.replicate j 0).length = T + j := by have := HMT.out; simp; omega
          obtain ⟨va, vc, rfl, _, _, _, _⟩ := hownj.row (by omega) (hmb.app (Bytes.zeros _))
          rw [hjl] at hownj hnewj ⊢
          have HOJ : Hid (Owns wr (.slice va (T + j) vc) (m ++ List.replicate j 0)) := hownj
          have HNJ : Hid (New w.heap.size (.slice va (T + j) vc)) := hnewj
          have HJL : Hid ((m ++ List.replicate j 0).length = T + j) := hjl
          clear hownj hnewj hjl
          by_cases hmod : (T + j) % 4 = 0
          · have e2 : fillP T = T + j := by unfold fillP at hj ⊢; omega
            have hz : (((T : Int) + (j : Int)) % 4 != 0) = false := by simp; omega
            have hz2 : (((T + j : Nat) : Int) % 4 != 0) = false := by simp; omega
            go_wp2_with fail
            go_ret2
            have e := buildP_ok HALL.out (by rw [HT.out]; omega)
            refine ⟨hawj, .slice va (T + j) vc, ?_, ?_, HNJ.out⟩
            · rw [e]; rfl
            · rw [e]
              simp only [laidP, HT.out]
              rw [e2, show T + j - T = j from by omega, ← HME.out]
              exact HOJ.out
          · have hz : (((T : Int) + (j : Int)) % 4 != 0) = true := by simp; omega
            have hz2 : (((T + j : Nat) : Int) % 4 != 0) = true := by simp; omega
            have hj2 : T + (j + 1) ≤ fillP T := by unfold fillP at hj ⊢; omega
            have HJ2 : Hid (T + (j + 1) ≤ fillP T) := hj2
            clear hj hj2 hmod
            go_wp2_with (at_builtin; refine wpList_app rfl _ _ rfl _ (m ++ List.replicate j 0) [0] rfl (by exact HOJ.out.away ((Away.refl [] _).alloc _) (by simp)) ⟨_, 0, none⟩ 1 1 rfl rfl (by exact lit_cells _ [0] _ rfl) (by rw [HJL.out]; have := HJ2.out; omega) ?_)
            intro v2 w2 hown2 hgr hmov
            have haw2 : Away [] w w2 := (hawj.alloc _).grown hgr (fun k hk => .inr (HNJ.out k hk))
            have hnew2 : New w.heap.size v2 := HNJ.out.moved hmov (by simp; have := hawj.size; omega)
            have HO2 : Hid (Owns w2 v2 (m ++ List.replicate (j + 1) 0)) := by
              show Owns _ _ _
              rw [List.replicate_succ']; simpa using hown2
            clear hgr hmov hown2
            obtain ⟨ua, uc, rfl, _, _, _, _⟩ := HO2.out.row (by have := HJL.out; have := HJ2.out; simp at *; omega) (hmb.app (Bytes.zeros _))
            have hul : (m ++ List.replicate (j + 1) 0).length = T + (j + 1) := by have := HMT.out; simp; omega
            have HUL : Hid ((m ++ List.replicate (j + 1) 0).length = T + (j + 1)) := hul
            clear hul
            have HO3 : Hid (Owns w2 (.slice ua (T + (j + 1)) uc) (m ++ List.replicate (j + 1) 0)) := by
              have h1 := HO2.out
              rw [HUL.out] at h1; exact h1
            rw [HUL.out] at hnew2 ⊢
            clear HO2
            go_wp2_with fail
            go_roundw
            case rel => exact ⟨j + 1, HJ2.out, HO3.out, hnew2, haw2⟩
            case measure => have := HJ2.out; simp; omega
#print axioms rbuild_c
end Go.Proofs.YtaicckenpplceabGreatDoor.S4

namespace Go.Proofs.YtaicckenpplceabGreatDoor.S4
open Go.ChangeShapes Go.WideShapes Go.ChangeAt Go.RowKit
set_option linter.unusedVariables false
set_option maxRecDepth 100000

set_option maxHeartbeats 400000 in
theorem rzeros_c (a : Option Addr) (l : List Int) (n cap : Nat) (w : World) (hn : l.length = n) (hr : Row w a l) :
    Calls Tryz.prog 81 #[.slice a n cap] w fun E w' => E = .returned (.bool (zerosP l)) ∧ w' = w := by
  subst hn
  have hlen := hr.1
  have hlb := hr.2.1
  go_enter Tryz.func81, Tryz.ntmps81
  go_wp2_with fail
  go_loopw [3] (fun i wr => ∃ k : Nat, k ≤ l.length ∧ i = .int .i64 k ∧ wr = w ∧ zerosP l = zerosP (l.drop k)) (fun i _ => l.length - (intOf i).toNat)
  case atStart => exact ⟨0, by omega, rfl, rfl, rfl⟩
  case round =>
    obtain ⟨k, hk, rfl, rfl, hz⟩ := hrel
    by_cases hlt : k < l.length
    · obtain ⟨b, off, rfl, c0⟩ := cells_row hr hlt
      have HZ : Hid (zerosP l = ((l[k]?.getD 0 == 0) && zerosP (l.drop (k + 1)))) := by
        show _ = _
        rw [hz, List.drop_eq_getElem_cons hlt, zerosP_cons, List.getElem?_eq_getElem hlt]; rfl
      generalize l[k]?.getD 0 = x at *
      clear hz
      by_cases hx : x = 0
      · subst hx
        go_wp2_with fail
        go_roundw
        case rel => exact ⟨k + 1, by omega, by go_num, by trivial, by simpa using HZ.out⟩
        case measure => simp [intOf]; omega
      · go_wp2_with fail
        go_ret
        refine ⟨?_, rfl⟩
        rw [HZ.out]; simp [hx]
    · go_wp2_with fail
      go_ret
      refine ⟨?_, rfl⟩
      rw [hz, List.drop_eq_nil_of_le (by omega)]; rfl

def firstP : List Int → Int
  | [] => 0
  | k :: r => if k = 0 then (if zerosP (k :: r) = true then 0 else -1) else if k = 1 then 1 else match r with
    | [] => -1
    | y :: s => if 2 ≤ y ∧ y.toNat ≤ s.length + 2 then y else -1
set_option maxHeartbeats 1000000 in
theorem first_c (a : Option Addr) (l : List Int) (n cap : Nat) (w : World) (hn : l.length = n) (hr : Row w a l) :
    Calls Tryz.prog 61 #[.slice a n cap] w fun E w' => E = .returned (.int .i64 (firstP l)) ∧ w' = w := by
  subst hn
  have hlen := hr.1
  have HR : Hid (Row w a l) := hr
  match l, hlen, HR with
  | [], hlen, HR =>
    go_enter Tryz.func61, Tryz.ntmps61
    go_wp2_with fail
    go_ret
    exact ⟨rfl, rfl⟩
  | k :: r, hlen, HR =>
    obtain ⟨b, off, rfl, c0⟩ := cells_row HR.out (k := 0) (by simp)
    have c0 : w.cell? ⟨b, off, none⟩ = some (.int .u8 k) := by simpa using c0
    have hk := HR.out.2.1.head
    simp only [List.length_cons] at hlen ⊢
    clear hr
    by_cases h0 : k = 0
    · subst h0
      have HF : Hid (firstP (0 :: r) = if zerosP (0 :: r) = true then 0 else -1) := by show _ = _; simp [firstP]
      generalize firstP (0 :: r) = f at *
      go_enter Tryz.func61, Tryz.ntmps61
      go_wp2_with fail
      refine (rzeros_c _ (0 :: r) _ _ _ (by simp) (by exact HR.out)).mono ?_
      rintro E w' ⟨rfl, rfl⟩
      generalize zerosP (0 :: r) = z at *
      cases z
      · go_wp2_with fail
        go_ret
        exact ⟨by rw [HF.out]; rfl, rfl⟩
      · go_wp2_with fail
        go_ret
        exact ⟨by rw [HF.out]; rfl, rfl⟩
    · by_cases h1 : k = 1
      · subst h1
        have HF : Hid (firstP (1 :: r) = 1) := by show _ = _; simp [firstP]
        generalize firstP (1 :: r) = f at *
        go_enter Tryz.func61, Tryz.ntmps61
        go_wp2_with fail
        go_ret
        exact ⟨by rw [HF.out]; rfl, rfl⟩
      · match r, hlen, HR with
        | [], hlen, HR =>
          have HF : Hid (firstP [k] = -1) := by show _ = _; simp [firstP, h0, h1]
          generalize firstP [k] = f at *
          go_enter Tryz.func61, Tryz.ntmps61
          go_wp2_with fail
          go_ret
          exact ⟨by rw [HF.out]; rfl, rfl⟩
        | y :: s, hlen, HR =>
          obtain ⟨b', off', e, c1⟩ := cells_row HR.out (k := 1) (by simp)
          simp only [Option.some.injEq, Addr.mk.injEq, and_true] at e
          obtain ⟨rfl, rfl⟩ := e
          have c1 : w.cell? ⟨b, off + 1, none⟩ = some (.int .u8 y) := by simpa using c1
          have hy := HR.out.2.1.tail.head
          simp only [List.length_cons] at hlen ⊢
          have HF : Hid (firstP (k :: y :: s) = if 2 ≤ y ∧ y.toNat ≤ s.length + 2 then y else -1) := by show _ = _; simp [firstP, h0, h1]
          generalize firstP (k :: y :: s) = f at *
          by_cases h2 : y < 2
          · have h3 : ¬ (2 ≤ y ∧ y.toNat ≤ s.length + 2) := by omega
            have HF2 : Hid (f = -1) := by show _ = _; rw [HF.out, if_neg h3]
            clear HF h3
            go_enter Tryz.func61, Tryz.ntmps61
            go_wp2_with fail
            go_ret
            exact ⟨by rw [HF2.out]; rfl, rfl⟩
          · by_cases h3 : (s.length : Int) + 1 + 1 < y
            · have h4 : ¬ (2 ≤ y ∧ y.toNat ≤ s.length + 2) := by omega
              have HF2 : Hid (f = -1) := by show _ = _; rw [HF.out, if_neg h4]
              clear HF h4
              go_enter Tryz.func61, Tryz.ntmps61
              go_wp2_with fail
              go_ret
              exact ⟨by rw [HF2.out]; rfl, rfl⟩
            · have h4 : 2 ≤ y ∧ y.toNat ≤ s.length + 2 := by omega
              have HF2 : Hid (f = y) := by show _ = _; rw [HF.out, if_pos h4]
              clear HF h4
              go_enter Tryz.func61, Tryz.ntmps61
              go_wp2_with fail
              go_ret
              exact ⟨by rw [HF2.out]; rfl, rfl⟩
#print axioms first_c
end Go.Proofs.YtaicckenpplceabGreatDoor.S4

namespace Go.Proofs.YtaicckenpplceabGreatDoor.S4
open Go.ChangeShapes Go.WideShapes Go.ChangeAt Go.RowKit
set_option linter.unusedVariables false
set_option maxRecDepth 100000

def lenV : Value → Nat
  | .slice _ n _ => n
  | _ => 0
theorem rest_none {l r : List Int} {os : List O} (hp : parseP l = (parseP r).map (os ++ ·)) (h : parseP r = none) : parseP l = none := by rw [hp, h]; rfl
theorem firstP_sized {k y : Int} {s : List Int} (h0 : k ≠ 0) (h1 : k ≠ 1) : firstP (k :: y :: s) = if 2 ≤ y ∧ y.toNat ≤ s.length + 2 then y else -1 := by
  simp only [firstP, h0, h1, if_false]
theorem first_bad {r : List Int} (hb : Bytes r) (h : firstP r < 0) : parseP r = none := by
  match r, hb, h with
  | [], _, h => simp [firstP] at h
  | k :: r, hb, h =>
    by_cases h0 : k = 0
    · subst h0
      by_cases hz : zerosP (0 :: r) = true
      · simp [firstP, hz] at h
      · rw [parseP_zero, if_neg]
        intro h2; exact hz (by rw [zerosP_cons, h2]; rfl)
    · by_cases h1 : k = 1
      · subst h1; simp [firstP] at h
      · match r, hb, h with
        | [], _, _ => exact parseP_lone k h0 h1
        | y :: s, hb, h =>
          rw [parseP_sized _ _ _ h0 h1]
          by_cases hc : 2 ≤ y ∧ y.toNat ≤ s.length + 2
          · have := hb.tail.head
            rw [firstP_sized h0 h1, if_pos hc] at h
            omega
          · rw [if_neg hc]
theorem first_end {r : List Int} (hb : Bytes r) (h : firstP r = 0) : parseP r = some [] := by
  match r, hb, h with
  | [], _, h => exact parseP_nil
  | k :: r, hb, h =>
    by_cases h0 : k = 0
    · subst h0
      by_cases hz : zerosP (0 :: r) = true
      · rw [parseP_zero, if_pos]
        simpa [zerosP_cons] using hz
      · simp [firstP, hz] at h
    · by_cases h1 : k = 1
      · subst h1; simp [firstP] at h
      · match r, hb, h with
        | [], _, h => simp [firstP, h0, h1] at h
        | y :: s, hb, h =>
          by_cases hc : 2 ≤ y ∧ y.toNat ≤ s.length + 2
          · rw [firstP_sized h0 h1, if_pos hc] at h; omega
          · rw [firstP_sized h0 h1, if_neg hc] at h; omega
/-- Where there is a first option: it, and what is behind it. -/
theorem first_opt {r : List Int} (hb : Bytes r) (h : 0 < firstP r) : ∃ (k : Int) (d : List Int) (N : Nat), firstP r = N ∧ 1 ≤ N ∧ N ≤ r.length ∧ r[0]?.getD 0 = k ∧ 0 ≤ k ∧ k ≤ 255 ∧ d = (r.drop 2).take (N - 2) ∧ d.length = N - 2 ∧ parseP r = (parseP (r.drop N)).map ((k, d) :: ·) := by
  match r, hb, h with
  | [], _, h => simp [firstP] at h
  | k :: r, hb, h =>
    have hk := hb.head
    by_cases h0 : k = 0
    · subst h0
      by_cases hz : zerosP (0 :: r) = true
      · simp [firstP, hz] at h
      · simp [firstP, hz] at h
    · by_cases h1 : k = 1
      · subst h1
        exact ⟨1, [], 1, by simp [firstP], by omega, by simp, rfl, by omega, by omega, by simp, rfl, by rw [parseP_one]; rfl⟩
      · match r, hb, h with
        | [], _, h => simp [firstP, h0, h1] at h
        | y :: s, hb, h =>
          have hy := hb.tail.head
          by_cases hc : 2 ≤ y ∧ y.toNat ≤ s.length + 2
          · have e : firstP (k :: y :: s) = y := by rw [firstP_sized h0 h1, if_pos hc]
            refine ⟨k, s.take (y.toNat - 2), y.toNat, by rw [e]; omega, by omega, by simp; omega, rfl, hk.1, hk.2, rfl, by simp; omega, ?_⟩
            rw [parseP_sized _ _ _ h0 h1, if_pos hc]
            obtain ⟨m, hm⟩ : ∃ m, y.toNat = m + 2 := ⟨y.toNat - 2, by omega⟩
            rw [hm]; rfl
          · rw [firstP_sized h0 h1, if_neg hc] at h; omega
set_option maxHeartbeats 4000000 in
theorem rparse_c (a : Option Addr) (l : List Int) (n cap : Nat) (w : World) (hn : l.length = n) (hcap : n ≤ cap) (hsz : n ≤ 4398046511104) (hr : Row w a l) :
    Calls Tryz.prog 36 #[.slice a n cap] w fun E w' => OParseOut w l E w' := by
  subst hn
  have hlen := hr.1
  have hlb := hr.2.1
  go_enter Tryz.func36, Tryz.ntmps36
  go_wp2_with fail
  go_loopw [0, 4] (fun v u wr => ∃ (A : Option Addr) (r : List Int) (c : Nat) (xs : List V), v = .slice A r.length c ∧ r.length ≤ c ∧ Row w A r ∧ Made wr w.heap.size u xs ∧ xs.length + r.length ≤ l.length ∧ Away [] w wr ∧ parseP l = (parseP r).map (xs.map V.o ++ ·)) (fun v _ _ => lenV v)
  case atStart => exact ⟨a, l, cap, [], rfl, hcap, hr, Made.nil _ _, by simp, Away.refl _ _, by simp⟩
  case round =>
    obtain ⟨A, r, c, xs, rfl, hrc, hrow, hmade, hxk, haw, hp⟩ := hrel
    have HP : Hid (parseP l = (parseP r).map (xs.map V.o ++ ·)) := hp
    have hsw := haw.size
    have hrb := hrow.2.1
    have HR : Hid (Row w A r) := hrow
    have HRr : Hid (Row wr A r) := hrow.away haw (by simp)
    clear hp hrow hr
    go_wp2_with fail
    refine (first_c A r _ _ _ rfl (by exact HRr.out)).mono ?_
    rintro E w' ⟨rfl, rfl⟩
    by_cases hneg : firstP r < 0
    · have hP := first_bad hrb hneg
      have HPP : Hid (parseP r = none) := hP
      clear hP
      generalize firstP r = f at *
      go_wp2_with fail
      go_ret2
      exact ⟨haw, .inl ⟨rest_none HP.out HPP.out, rfl⟩⟩
    by_cases hz : firstP r = 0
    · have hP := first_end hrb hz
      have HPP : Hid (parseP r = some []) := hP
      clear hP
      rw [hz]
      go_wp2_with fail
      go_ret2
      exact ⟨haw, .inr ⟨_, xs, by rw [HP.out, HPP.out]; simp, rfl, hmade, by omega⟩⟩
    obtain ⟨k, d, N, hN, hN1, hNr, hk0, hk1, hk2, hd, hdl, hP⟩ := first_opt hrb (by omega)
    rw [hN]
    obtain ⟨b, off, rfl, c0⟩ := cells_row HRr.out (k := 0) (by omega)
    rw [hk0] at c0
    have c0 : w'.cell? ⟨b, off, none⟩ = some (.int .u8 k) := by simpa using c0
    have HPP : Hid (parseP r = (parseP (r.drop N)).map ((k, d) :: ·)) := hP
    have hdb : Bytes d := by rw [hd]; exact (hrb.drop 2).take _
    have HT : Hid (Row w (if c = N then some ⟨b, off, none⟩ else (some (⟨b, off, none⟩ : Addr)).map (·.add N)) (r.drop N)) := HR.out.tail N c hrc hNr
    generalize hA : (if c = N then some ⟨b, off, none⟩ else (some (⟨b, off, none⟩ : Addr)).map (·.add N)) = A2 at *
    have hsl := slice_l (some ⟨b, off, none⟩) A2 r.length c N N hA.symm rfl hNr
    have hrl : (r.drop N).length = r.length - N := by simp
    have HRL : Hid ((r.drop N).length = r.length - N) := hrl
    have HDL : Hid (d.length = N - 2) := hdl
    clear hP hA hrl hN hneg hz hk0 hdl
    by_cases h2 : 2 < N
    · obtain ⟨D, hD⟩ : ∃ D, (if c = 2 then some ⟨b, off, none⟩ else (some (⟨b, off, none⟩ : Addr)).map (·.add 2)) = some D := by
        split
        · exact ⟨_, rfl⟩
        · exact ⟨_, rfl⟩
      have HDR : Hid (Row w' (some D) d) := by
        show Row _ _ _
        rw [hd, ← hD]
        exact HRr.out.sub 2 (N - 2) c hrc (by omega)
      have hsl2 := slice_lh (some ⟨b, off, none⟩) (some D) r.length c 2 (N - 2) 2 N hD.symm rfl (by omega) (by omega)
      clear hD hd
      go_wp2_with fail
      have hblk1 : (w'.alloc (.cells #[.int .i64 k, .slice none 0 0] 54)).heap[w'.heap.size]? = some (.cells #[.int .i64 k, .slice none 0 0] 54 (0, 0)) := block_new _ _
      have hawA : Away [] w' (w'.alloc (.cells #[.int .i64 k, .slice none 0 0] 54)) := (Away.refl [] _).alloc _
      have hgl : w'.heap.size < (w'.alloc (.cells #[.int .i64 k, .slice none 0 0] 54)).heap.size := by simp
      have hmlt : ∀ k, u4.ownBlock = some k → k < w'.heap.size := hmade.lst.lt
      have hmlt2 : ∀ x ∈ xs, ∀ k, x.sl.ownBlock = some k → k < w'.heap.size := fun x hx => (hmade.each x hx).2.1.lt
      generalize w'.alloc (.cells #[.int .i64 k, .slice none 0 0] 54) = w1 at *
      generalize hg : w'.heap.size = g at *
      have g0 : w1.cell? ⟨g, 0, none⟩ = some (.int .i64 k) := by rw [cell_of_block hblk1]; rfl
      have g1 : w1.cell? ⟨g, 1, none⟩ = some (.slice none 0 0) := by rw [cell_of_block hblk1]; rfl
      have f1 := free_of_block hblk1 1
      have HD1 : Hid (Row w1 (some D) d) := HDR.out.away hawA (by simp)
      have HBK : Hid (w1.heap[g]? = some (.cells #[.int .i64 k, .slice none 0 0] 54 (0, 0))) := hblk1
      have HM1 : Hid ((∀ k, u4.ownBlock = some k → k < g) ∧ ∀ x ∈ xs, ∀ k, x.sl.ownBlock = some k → k < g) := ⟨hmlt, hmlt2⟩
      have hd63 := HDR.out.1
      clear c0 hblk1 hmlt hmlt2
      go_region_law ((refine step_app rfl (.tmp 22) (.tmp 25) rfl (.slice none 0 0) [] d (by first | rfl | simp [Act.eval, Act.put]) (by exact Owns.nil _) D (N - 2) (c - 2) (by first | rfl | simp [Act.eval, Act.put]) HDL.out (by exact HD1.out.src) (by simp only [List.length_nil]; omega) ?_; intro v' w2 hown2 hgr hmov; have hown3 : Owns w2 v' d := (by simpa using hown2); obtain ⟨a3, cap3, rfl, _⟩ := hown3.row hd63 hdb; have hawB : Away [] w1 w2 := ((Away.refl [] w1).drew).grown hgr (by simp [Value.ownBlock]); have z1 := hawB.cell (by simp) g1; have zf := free_of_block (hawB.keep (by simp) HBK.out) 1))
      all_goals
        have hnew3 : New w1.heap.size (.slice a3 d.length cap3) := fun j hj => by
          rcases hmov j hj with h | h
          · simp [Value.ownBlock] at h
          · exact h
        clear hmov hown2 hgr
        have hblk3 : (w2.setCell ⟨g, 1, none⟩ (.slice a3 d.length cap3)).heap[g]? = some (.cells #[.int .i64 k, (.slice a3 d.length cap3)] 54 (0, 0)) := by
          rw [block_set (hawB.keep (by simp) HBK.out)]; rfl
        have hawC : Away [g] w2 (w2.setCell ⟨g, 1, none⟩ (.slice a3 d.length cap3)) := (Away.refl [g] w2).setCell (.inl (by simp)) _
        have hmade3 : Made (w2.setCell ⟨g, 1, none⟩ (.slice a3 d.length cap3)) w.heap.size u4 xs := ((hmade.on hawA).on hawB).away hawC (fun j hj => by have := HM1.out.1 j hj; simp; omega) (fun x hx j hj => by have := HM1.out.2 x hx j hj; simp; omega)
        have hown4 : Owns (w2.setCell ⟨g, 1, none⟩ (.slice a3 d.length cap3)) (.slice a3 d.length cap3) d := hown3.away hawC (fun j hj => by have := hnew3 j hj; simp; omega)
        have haw3 : Away [] w (w2.setCell ⟨g, 1, none⟩ (.slice a3 d.length cap3)) := ((haw.next hawA (by simp)).next hawB (by simp)).next hawC (fun x hx => .inr (by simp at hx; omega))
        generalize w2.setCell ⟨g, 1, none⟩ (.slice a3 d.length cap3) = w3 at *
        have y0 : w3.cell? ⟨g, 0, none⟩ = some (.int .i64 k) := by rw [cell_of_block hblk3]; rfl
        have y1 : w3.cell? ⟨g, 1, none⟩ = some (.slice a3 d.length cap3) := by rw [cell_of_block hblk3]; rfl
        have hg3 : g < w3.heap.size := lt_of_block hblk3
        have HM3 : Hid (Made w3 w.heap.size u4 xs) := hmade3
        clear hawB hawC hown3 haw hmade hawA hblk3 g0 g1 f1 hmade3 z1 zf
        go_wp2_with (at_builtin; refine wpList_app2 rfl _ _ rfl _ xs.length (xs.flatMap V.cells) rfl (by exact HM3.out.lst.away ((Away.refl [] _).alloc _) (by simp)) ⟨_, 0, none⟩ 1 rfl (.int .i64 k) (.slice a3 d.length cap3) (by rw [World.cell?_alloc_at (hn := rfl)]; rfl) (by rw [add_plain, World.cell?_alloc_at (hn := rfl)]; rfl) rfl rfl (by omega) ?_)
        intro v' w4 hown5 hgr hmov
        have hm1 := HM3.out.on ((Away.refl [] _).alloc (.cells #[.int .i64 k, (.slice a3 d.length cap3)] 54))
        have hm2 := hm1.snoc (x := ⟨k, a3, cap3, d⟩) (by simp; have := haw3.size; omega) hgr hmov (Lst.snoc hown5) (by unfold I64; simp only; omega) (by exact hown4.away ((Away.refl [] _).alloc _) (by simp)) hdb hd63 (by exact hnew3.mono (by omega)) (fun j hj => ⟨fun e => by
            have h1 := hnew3 j hj
            have h2 := HM1.out.1 j e
            omega, fun z hz e => by
            have h1 := hnew3 j hj
            have h2 := HM1.out.2 z hz j e
            omega⟩)
        have haw4 : Away [] w w4 := (haw3.alloc _).grown hgr (fun k hk => .inr (HM3.out.new k hk))
        clear hgr hmov hm1 hown5 hown4
        go_wp2_with fail
        go_roundw
        case rel => exact ⟨A2, r.drop N, c - N, xs ++ [⟨k, a3, cap3, d⟩], by rw [HRL.out], by rw [HRL.out]; omega, HT.out, hm2, by rw [HRL.out]; simp; omega, haw4, by rw [HP.out, HPP.out]; cases parseP (r.drop N) <;> simp [V.o]⟩
        case measure => simp [lenV]; omega
    · have hd0 : d = [] := List.eq_nil_of_length_eq_zero (by have := HDL.out; omega)
      subst hd0
      clear hd hdb
      go_wp2_with (at_builtin; refine wpList_app2 rfl _ _ rfl _ xs.length (xs.flatMap V.cells) rfl (by exact ((hmade.lst.away ((Away.refl [] _).alloc _) (by simp)).away ((Away.refl [] _).alloc _) (by simp))) ⟨_, 0, none⟩ 1 rfl (.int .i64 k) (.slice none 0 0) (by rw [World.cell?_alloc_at (hn := by simp)]; rfl) (by rw [add_plain, World.cell?_alloc_at (hn := by simp)]; rfl) rfl rfl (by omega) ?_)
      intro v' w2 hown2 hgr hmov
      have hm1 := (hmade.on ((Away.refl [] _).alloc (.cells #[.int .i64 k, .slice none 0 0] 54))).on ((Away.refl [] _).alloc (.cells #[.int .i64 k, .slice none 0 0] 54))
      have hm2 := hm1.snoc (x := ⟨k, none, 0, []⟩) (by simp; omega) hgr hmov (Lst.snoc hown2) (by unfold I64; simp only; omega) (Owns.nil _) Bytes.nil (by simp) (New.nil _) (by simp [V.sl, Value.ownBlock])
      have haw2 : Away [] w w2 := ((haw.alloc _).alloc _).grown hgr (fun k hk => .inr (hmade.new k hk))
      clear hgr hmov hm1 hown2 hmade haw
      go_wp2_with fail
      go_roundw
      case rel => exact ⟨A2, r.drop N, c - N, xs ++ [⟨k, none, 0, []⟩], by rw [HRL.out], by rw [HRL.out]; omega, HT.out, hm2, by rw [HRL.out]; simp; omega, haw2, by rw [HP.out, HPP.out]; cases parseP (r.drop N) <;> simp [V.o]⟩
      case measure => simp [lenV]; omega
#print axioms rparse_c
end Go.Proofs.YtaicckenpplceabGreatDoor.S4

namespace Go.Proofs.YtaicckenpplceabGreatDoor.S4
open Go.ChangeShapes Go.WideShapes Go.ChangeAt Go.RowKit
set_option linter.unusedVariables false
set_option maxRecDepth 100000

set_option maxHeartbeats 1000000 in
theorem rvalid_c (a : Option Addr) (l : List Int) (n cap : Nat) (w : World) (hn : l.length = n) (hcap : n ≤ cap) (hr : Row w a l) :
    Calls Tryz.prog 35 #[.slice a n cap] w fun E w' => E = .returned (.bool (validP l)) ∧ Away [] w w' := by
  subst hn
  have hlen := hr.1
  have HR : Hid (Row w a l) := hr
  clear hr
  obtain ⟨z, hz⟩ : ∃ z, z = validP l := ⟨_, rfl⟩
  rw [← hz]
  have HZ : Hid (z = validP l) := hz
  clear hz
  by_cases h1 : 40 < l.length
  · obtain rfl : z = false := by
      rw [HZ.out]; unfold validP; rw [show decide (l.length ≤ 40) = false from by simp; omega]; rfl
    go_enter Tryz.func35, Tryz.ntmps35
    go_wp2_with fail
    go_ret
    exact ⟨rfl, Away.refl _ _⟩
  · by_cases h2 : l.length % 4 = 0
    · have h3 : ((l.length : Int) % 4 != 0) = false := by simp; omega
      have HP : Hid (z = (parseP l).isSome) := by
        show _ = _
        rw [HZ.out]; unfold validP
        rw [show decide (l.length ≤ 40) = true from by simp; omega, show decide (l.length % 4 = 0) = true from by simp; omega]; rfl
      have h4 : decide ((l.length : Int) ≤ 40) = true := by simp; omega
      go_enter Tryz.func35, Tryz.ntmps35
      go_wp2_with fail
      refine (rparse_c a l _ _ _ rfl hcap (by omega) (by exact HR.out)).mono ?_
      rintro E w' ⟨haw, ⟨hp, rfl⟩ | ⟨v, xs, hp, rfl, hm, _⟩⟩
      · obtain rfl : z = false := by rw [HP.out, hp]; rfl
        clear hp
        go_wp2_with fail
        go_ret
        exact ⟨rfl, haw⟩
      · obtain rfl : z = true := by rw [HP.out, hp]; rfl
        clear hp hm
        go_wp2_with fail
        go_ret
        exact ⟨rfl, haw⟩
    · obtain rfl : z = false := by
        rw [HZ.out]; unfold validP; rw [show decide (l.length % 4 = 0) = false from by simp; omega]; simp
      have h3 : ((l.length : Int) % 4 != 0) = true := by simp; omega
      go_enter Tryz.func35, Tryz.ntmps35
      go_wp2_with fail
      go_ret
      exact ⟨rfl, Away.refl _ _⟩

set_option maxHeartbeats 2000000 in
theorem rcarry_c (a : Option Addr) (l : List Int) (n cap : Nat) (w : World) (hn : l.length = n) (hcap : n ≤ cap) (hr : Row w a l) :
    Calls Tryz.prog 20 #[.slice a n cap] w fun E w' => BytesOut w (carryP l) E w' := by
  subst hn
  have hlen := hr.1
  have HR : Hid (Row w a l) := hr
  clear hr
  go_enter Tryz.func20, Tryz.ntmps20
  go_wp2_with fail
  refine (rvalid_c a l _ _ _ rfl hcap (by exact HR.out)).mono ?_
  rintro E w1 ⟨rfl, haw1⟩
  generalize hv : validP l = z
  have HV : Hid (validP l = z) := hv
  clear hv
  cases z
  · go_wp2_with fail
    go_ret
    refine ⟨_, rfl, ?_, New.nil _, haw1⟩
    unfold carryP
    rw [if_neg (by rw [HV.out]; simp)]
    exact Owns.nil _
  · have hl40 : l.length ≤ 40 := by
      have := HV.out
      unfold validP at this
      simp only [Bool.and_eq_true, decide_eq_true_eq] at this
      exact this.1.1
    have hs1 := haw1.size
    go_wp2_with fail
    refine (rparse_c a l _ _ _ rfl hcap (by omega) (by exact HR.out.away haw1 (by simp))).mono ?_
    rintro E w2 ⟨haw2, ⟨hp, rfl⟩ | ⟨v, xs, hp, rfl, hm, hxl⟩⟩
    · exfalso
      have := HV.out
      unfold validP at this
      rw [hp] at this
      simp at this
    · obtain ⟨va, vc, rfl, hvc, hvn, hopts, _⟩ := hm.opts (by omega)
      have hok := hm.ok
      have haw3 := haw1.next haw2 (by simp)
      have hs3 := haw3.size
      have HP : Hid (parseP l = some (xs.map V.o)) := hp
      have HOK : Hid (∀ x ∈ xs, x.ok w2) := hok
      have HOP : Hid (Opts w2 va xs) := hopts
      clear hm hp hok hopts haw1 haw2 hs1
      go_wp2_with fail
      go_loopw [5, 6] (fun u i wr => ∃ k : Nat, k ≤ xs.length ∧ i = .int .i64 k ∧ Lst wr u ((xs.take k).filter big) ∧ New w2.heap.size u ∧ Away [] w2 wr) (fun _ i _ => xs.length - (intOf i).toNat)
      case atStart => exact ⟨0, by omega, rfl, Lst.nil _, New.nil _, Away.refl _ _⟩
      case round =>
        obtain ⟨k, hk, rfl, hlst, hnew, haw⟩ := hrel
        have hflen : ((xs.take k).filter big).length ≤ k := Nat.le_trans (List.length_filter_le _ _) (by simp; omega)
        by_cases hlt : k < xs.length
        · obtain ⟨x, hx, hmem⟩ := get_of_lt hlt
          have hoo := HOP.out.on haw
          rcases hoo.2.2 with h0 | ⟨b, off, rfl, hcell⟩
          · rw [h0] at hlt; simp at hlt
          · obtain ⟨c0, c1⟩ := hcell k x hx
            have hsnoc : Hid ((xs.take (k + 1)).filter big = (xs.take k).filter big ++ (if big x then [x] else [])) := by
              show _ = _
              rw [take_snoc hx, List.filter_append]
              congr 1
              by_cases hb : big x = true
              · rw [if_pos hb, List.filter_cons_of_pos hb]; rfl
              · rw [if_neg hb, List.filter_cons_of_neg hb]; rfl
            unfold V.sl at c1
            have hs4 := haw.size
            have HL : Hid (((xs.take k).filter big).length ≤ k) := hflen
            clear hcell hoo hx hflen
            generalize (xs.take k).filter big = fs at *
            obtain ⟨kd, ba, bc, d⟩ := x
            simp only at c0 c1
            by_cases hb : 128 ≤ kd
            · have hbd : decide (128 ≤ kd) = true := by simp [hb]
              have hsn : Hid ((xs.take (k + 1)).filter big = fs ++ [⟨kd, ba, bc, d⟩]) := by
                show _ = _
                rw [hsnoc.out, if_pos (show big ⟨kd, ba, bc, d⟩ = true from hbd)]
              clear hsnoc
              go_wp2_with (at_builtin; refine wpList_app2 rfl _ _ rfl _ fs.length (fs.flatMap V.cells) rfl (by exact hlst.away ((Away.refl [] _).alloc _) (by simp)) ⟨_, 0, none⟩ 1 rfl (.int .i64 kd) (.slice ba d.length bc) (by rw [World.cell?_alloc_at (hn := rfl)]; rfl) (by rw [add_plain, World.cell?_alloc_at (hn := rfl)]; rfl) rfl rfl (by have := HL.out; omega) ?_)
              intro v' w4 hown4 hgr hmov
              have hl4 : Lst w4 v' (fs ++ [⟨kd, ba, bc, d⟩]) := Lst.snoc hown4
              have hnew4 : New w2.heap.size v' := hnew.moved hmov (by simp; omega)
              have haw4 : Away [] w2 w4 := (haw.alloc _).grown hgr (fun k hk => .inr (hnew k hk))
              clear hgr hmov hown4 hlst haw
              go_wp2_with fail
              go_roundw
              case rel => exact ⟨k + 1, by omega, by go_num, by rw [hsn.out]; exact hl4, hnew4, haw4⟩
              case measure => simp [intOf]; omega
            · have hbd : decide (128 ≤ kd) = false := by simp; omega
              have hsn : Hid ((xs.take (k + 1)).filter big = fs) := by
                show _ = _
                rw [hsnoc.out, if_neg (show ¬ big ⟨kd, ba, bc, d⟩ = true from by rw [show big ⟨kd, ba, bc, d⟩ = false from hbd]; simp)]; simp
              clear hsnoc
              go_wp2_with fail
              go_roundw
              case rel => exact ⟨k + 1, by omega, by go_num, by rw [hsn.out]; exact hlst, hnew, haw⟩
              case measure => simp [intOf]; omega
        · have hkk : xs.take k = xs := List.take_of_length_le (by omega)
          rw [hkk] at hlst
          obtain ⟨fa, fc, rfl, hfc, hfn, hfo, _⟩ := hlst.opts (by have := List.length_filter_le big xs; omega) (fun x hx => (HOK.out x (List.mem_filter.1 hx).1).on haw)
          have HFO : Hid (Opts wr fa (xs.filter big)) := hfo
          have haw5 := haw3.next haw (by simp)
          have hs5 := haw5.size
          have HC : Hid (carryP l = (buildP ((xs.filter big).map V.o)).1) := by
            show _ = _
            unfold carryP
            rw [if_pos HV.out, HP.out, Option.getD_some, filter_map]
          clear hlst hfo haw
          go_wp2_with fail
          refine (rbuild_c fa (xs.filter big) _ _ _ rfl (by exact HFO.out)).mono ?_
          rintro E w6 ⟨haw6, v6, rfl, hown6, hnew6⟩
          rw [← HC.out] at hown6
          generalize (buildP ((xs.filter big).map V.o)).2 = er
          go_wp2_with fail
          go_ret
          exact ⟨v6, rfl, hown6, hnew6.mono hs5, haw5.next haw6 (by simp)⟩
#print axioms rcarry_c
end Go.Proofs.YtaicckenpplceabGreatDoor.S4
