/-
  The document's Build.
-/
import Derived.Test.YtokhmlpajfhbpabDoorKit
namespace Go.Proofs.YtokhmlpajfhbpabDoor
open Go.ChangeShapes Go.WideShapes Go.ChangeAt Go.RowKit Go.Deep
set_option linter.unusedVariables false
set_option maxRecDepth 100000

theorem right_no {kd : Int} {d : List Int} (h : kd < 1 ∨ 255 < kd ∨ (kd = 1 ∧ d ≠ []) ∨ 38 < d.length) : rightB (kd, d) = false := by
  rw [Bool.eq_false_iff]
  intro hr
  obtain ⟨h1, h2, h3, h4⟩ := (rightB_iff _).1 hr
  simp only at h1 h2 h3 h4
  rcases h with h | h | h | h
  · omega
  · omega
  · exact h.2 (h4 h.1)
  · omega
/-- What lies in the list that is laid: all of it, as long as it fits. -/
def Acc (w wr : World) (v : Value) (t : Nat) (fl : List Int) : Prop := ∃ m : List Int, Owns wr v m ∧ m.length ≤ 40 ∧ Bytes m ∧ (t ≤ 40 → m = fl) ∧ New w.heap.size v ∧ Away [] w wr
theorem Acc.alloc {w wr : World} {v : Value} {t : Nat} {fl : List Int} (h : Acc w wr v t fl) (o : Obj) : Acc w (wr.alloc o) v t fl := by
  obtain ⟨m, h1, h2, h3, h4, h5, h6⟩ := h
  exact ⟨m, h1.away ((Away.refl [] _).alloc _) (by simp), h2, h3, h4, h5, h6.alloc _⟩
theorem Acc.over {w wr : World} {v : Value} {t t' : Nat} {fl fl' : List Int} (h : Acc w wr v t fl) (ht : 40 < t') : Acc w wr v t' fl' := by
  obtain ⟨m, h1, h2, h3, h4, h5, h6⟩ := h
  exact ⟨m, h1, h2, h3, fun h => by omega, h5, h6⟩

set_option maxHeartbeats 8000000 in
theorem rbuild_c (a : Option Addr) (xs : List V) (n cap : Nat) (w : World) (hn : xs.length = n) (ho : Opts w a xs) :
    Calls Tryd.prog 19 #[.slice a n cap] w fun E w' => BuildOut w (xs.map V.o) E w' := by
  subst hn
  have hlen := ho.1
  have HO : Hid (Opts w a xs) := ho
  clear ho
  go_enter Tryd.func19, Tryd.ntmps19
  go_wp2_with fail
  go_loopw [4, 5, 6] (fun v s i wr => ∃ k : Nat, k ≤ xs.length ∧ i = .int .i64 k ∧ s = .int .i64 ((min (tot ((xs.take k).map V.o)) 1000 : Nat) : Int) ∧ (∀ x ∈ xs.take k, rightB x.o = true) ∧ Acc w wr v (tot ((xs.take k).map V.o)) (flat ((xs.take k).map V.o))) (fun _ _ i _ => xs.length - (intOf i).toNat)
  case atStart => exact ⟨0, by omega, rfl, rfl, by simp, [], Owns.nil _, by simp, Bytes.nil, fun _ => rfl, New.nil _, Away.refl _ _⟩
  case round =>
    obtain ⟨k, hk, rfl, rfl, hall, hacc⟩ := hrel
    have haw : Away [] w wr := by obtain ⟨_, _, _, _, _, _, h⟩ := hacc; exact h
    have HA : Hid (∀ x ∈ xs.take k, rightB x.o = true) := hall
    have HACC : Hid (Acc w wr u4 (tot ((xs.take k).map V.o)) (flat ((xs.take k).map V.o))) := hacc
    clear hall hacc
    by_cases hlt : k < xs.length
    · obtain ⟨x, hx, hmem⟩ := get_of_lt hlt
      have hoo := HO.out.on haw
      have hxok := hoo.2.1 x hmem
      obtain ⟨b, off, rfl, c0, c1, hrow⟩ := cells_opts hoo hx
      have hsn1 : (xs.take (k + 1)).map V.o = (xs.take k).map V.o ++ [x.o] := by rw [take_snoc hx]; simp
      have hTs : Hid (tot ((xs.take (k + 1)).map V.o) = tot ((xs.take k).map V.o) + szP x.o) := by
        show _ = _
        rw [hsn1, tot_app]; simp [tot]
      have hFs : Hid (flat ((xs.take (k + 1)).map V.o) = flat ((xs.take k).map V.o) ++ layP x.o) := by
        show _ = _
        rw [hsn1, flat_app]; simp [flat]
      have hAs : Hid (rightB x.o = true → ∀ y ∈ xs.take (k + 1), rightB y.o = true) := by
        intro h y hy
        rw [take_snoc hx] at hy
        rcases List.mem_append.1 hy with hy | hy
        · exact HA.out y hy
        · simp at hy; subst hy; exact h
      have hBad : Hid (rightB x.o = false → buildP (xs.map V.o) = ([], 40)) := fun h => build_bad (List.mem_map_of_mem hmem) h
      have hnone := hxok.2.2.1
      have hd63 := hrow.1
      have hdb := hrow.2.1
      have HRW : Hid (∀ wx, Away [] w wx → Row wx x.ba x.b) := fun wx hwx => ((HO.out.on hwx).2.1 x hmem).2.1
      clear hoo hx hxok hsn1 hrow hmem
      obtain ⟨kd, ba, bc, d⟩ := x
      simp only at c0 c1 hnone hd63 hdb
      have HFL : Hid ((flat ((xs.take k).map V.o)).length = tot ((xs.take k).map V.o)) := flat_len _
      generalize hT : tot ((xs.take k).map V.o) = T at *
      generalize hF : flat ((xs.take k).map V.o) = fl at *
      have HT : Hid (tot ((xs.take k).map V.o) = T) := hT
      clear hT hF
      by_cases q1 : kd < 1
      · go_wp2_with fail
        go_ret2
        refine ⟨haw.alloc _, _, ?_, ?_, New.nil _⟩
        · rw [hBad.out (right_no (.inl q1))]; rfl
        · rw [hBad.out (right_no (.inl q1))]; exact Owns.nil _
      by_cases q2 : 255 < kd
      · go_wp2_with fail
        go_ret2
        refine ⟨haw.alloc _, _, ?_, ?_, New.nil _⟩
        · rw [hBad.out (right_no (.inr (.inl q2)))]; rfl
        · rw [hBad.out (right_no (.inr (.inl q2)))]; exact Owns.nil _
      by_cases q3 : kd = 1
      · subst q3
        by_cases q5 : d.length = 0
        · have hd0 : d = [] := List.eq_nil_of_length_eq_zero q5
          subst hd0
          have hsz : Hid (szP (1, []) = 1) := rfl
          have hly : Hid (layP (1, []) = [1]) := rfl
          have hrt : Hid (rightB (1, []) = true) := by show _ = _; decide
          by_cases hov : 40 < T + 1
          · by_cases hm : T + 1 ≤ 1000
            · have e1 : min T 1000 = T := by omega
              rw [e1]
              go_wp2_with fail
              go_roundw
              case rel => exact ⟨k + 1, by omega, by go_num, by rw [hTs.out]; simp only [V.o]; rw [hsz.out, show min (T + 1) 1000 = T + 1 from by omega]; go_num, hAs.out hrt.out, by rw [hTs.out]; exact (HACC.out.alloc _).over (by simp only [V.o]; rw [hsz.out]; omega)⟩
              case measure => simp [intOf]; omega
            · have e1 : min T 1000 = 1000 := by omega
              rw [e1]
              go_wp2_with fail
              go_roundw
              case rel => exact ⟨k + 1, by omega, by go_num, by rw [hTs.out]; simp only [V.o]; rw [hsz.out, show min (T + 1) 1000 = 1000 from by omega]; go_num, hAs.out hrt.out, by rw [hTs.out]; exact (HACC.out.alloc _).over (by simp only [V.o]; rw [hsz.out]; omega)⟩
              case measure => simp [intOf]; omega
          · have e1 : min T 1000 = T := by omega
            rw [e1]
            obtain ⟨m, hown, hm40, hmb, hme, hnew, _⟩ := HACC.out
            have hme := hme (by omega)
            have HME : Hid (m = fl) := hme
            clear hme
            go_wp2_with (at_builtin; refine wpList_app rfl _ _ rfl _ m [1] rfl (by exact (hown.away ((Away.refl [] _).alloc _) (by simp)).away ((Away.refl [] _).alloc _) (by simp)) ⟨_, 0, none⟩ 1 1 rfl rfl (by exact lit_cells _ [1] _ (by simp)) (by omega) ?_)
            intro v' w2 hown2 hgr hmov
            have haw2 : Away [] w w2 := ((haw.alloc _).alloc _).grown hgr (fun k hk => .inr (hnew k hk))
            have hnew2 : New w.heap.size v' := hnew.moved hmov (by simp; have := haw.size; omega)
            have hawl : Away u4.ownBlock.toList ((wr.alloc (.cells #[.int .i64 1, .slice ba 0 bc] 34)).alloc (.cells #[.int .u8 1] 5)) w2 := (Away.refl _ _).grown hgr (fun k hk => .inl (by simp [hk]))
            have y0 : w2.cell? ⟨wr.heap.size, 0, none⟩ = some (.int .i64 1) := by
              refine hawl.cell (fun hj => ?_) ?_
              · have := hown.lt _ (by simpa using hj); omega
              · refine ((Away.refl [] (wr.alloc (.cells #[.int .i64 1, .slice ba 0 bc] 34))).alloc (.cells #[.int .u8 1] 5)).cell (by simp) ?_
                rw [World.cell?_alloc_at (hn := rfl)]; rfl
            clear hgr hmov hawl
            go_wp2_with fail
            go_roundw
            case rel =>
              refine ⟨k + 1, by omega, by go_num, by rw [hTs.out]; simp only [V.o]; rw [hsz.out, show min (T + 1) 1000 = T + 1 from by omega]; go_num, hAs.out hrt.out, m ++ [1], hown2, ?_, ?_, fun _ => ?_, hnew2, haw2⟩
              · have h1 : m.length = T := by
                  rw [HME.out]; exact HFL.out
                simp; omega
              · exact hmb.app (by intro z hz; simp at hz; omega)
              · rw [hFs.out, HME.out]; simp only [V.o]; rw [hly.out]
            case measure => simp [intOf]; omega
        · have q6 : (0 : Int) < (d.length : Int) := by omega
          have hne : d ≠ [] := fun e => q5 (by rw [e]; rfl)
          go_wp2_with fail
          go_ret2
          refine ⟨haw.alloc _, _, ?_, ?_, New.nil _⟩
          · rw [hBad.out (right_no (.inr (.inr (.inl ⟨rfl, hne⟩))))]; rfl
          · rw [hBad.out (right_no (.inr (.inr (.inl ⟨rfl, hne⟩))))]; exact Owns.nil _
      · by_cases q4 : 38 < d.length
        · have q5 : (38 : Int) < (d.length : Int) := by omega
          go_wp2_with fail
          go_ret2
          refine ⟨haw.alloc _, _, ?_, ?_, New.nil _⟩
          · rw [hBad.out (right_no (.inr (.inr (.inr q4))))]; rfl
          · rw [hBad.out (right_no (.inr (.inr (.inr q4))))]; exact Owns.nil _
        have hsz : Hid (szP (kd, d) = 2 + d.length) := by show _ = _; unfold szP; rw [if_neg q3]
        have hly : Hid (layP (kd, d) = kd :: (2 + d.length : Int) :: d) := by show _ = _; unfold layP; rw [if_neg q3]
        have hrt : Hid (rightB (kd, d) = true) := by
          show _ = _
          rw [rightB_iff]; exact ⟨by simp only; omega, by simp only; omega, by simp only; omega, fun h => absurd h q3⟩
        have q7 : (1 : Int) < kd := by omega
        have q8 : ¬ ((38 : Int) < (d.length : Int)) := by omega
        by_cases hov : 40 < T + (2 + d.length)
        · by_cases hm : T + 1 + 1 + d.length ≤ 1000
          · have e1 : min T 1000 = T := by omega
            rw [e1]
            go_wp2_with fail
            go_roundw
            case rel => exact ⟨k + 1, by omega, by go_num, by rw [hTs.out]; simp only [V.o]; rw [hsz.out, show min (T + (2 + d.length)) 1000 = T + (2 + d.length) from by omega]; go_num, hAs.out hrt.out, by rw [hTs.out]; exact (HACC.out.alloc _).over (by simp only [V.o]; rw [hsz.out]; omega)⟩
            case measure => simp [intOf]; omega
          · by_cases hm2 : T + 1 ≤ 1000
            · have e1 : min T 1000 = T := by omega
              rw [e1]
              go_wp2_with fail
              go_roundw
              case rel => exact ⟨k + 1, by omega, by go_num, by rw [hTs.out]; simp only [V.o]; rw [hsz.out, show min (T + (2 + d.length)) 1000 = 1000 from by omega]; go_num, hAs.out hrt.out, by rw [hTs.out]; exact (HACC.out.alloc _).over (by simp only [V.o]; rw [hsz.out]; omega)⟩
              case measure => simp [intOf]; omega
            · have e1 : min T 1000 = 1000 := by omega
              rw [e1]
              go_wp2_with fail
              go_roundw
              case rel => exact ⟨k + 1, by omega, by go_num, by rw [hTs.out]; simp only [V.o]; rw [hsz.out, show min (T + (2 + d.length)) 1000 = 1000 from by omega]; go_num, hAs.out hrt.out, by rw [hTs.out]; exact (HACC.out.alloc _).over (by simp only [V.o]; rw [hsz.out]; omega)⟩
              case measure => simp [intOf]; omega
        · have e1 : min T 1000 = T := by omega
          rw [e1]
          obtain ⟨m, hown, hm40, hmb, hme, hnew, _⟩ := HACC.out
          have hme := hme (by omega)
          have HME : Hid (m = fl) := hme
          have hmT : m.length = T := by rw [hme]; exact HFL.out
          have HMT : Hid (m.length = T) := hmT
          clear hme hmT
          have hwr : IntKind.u8.wrap kd = kd := by simp [IntKind.wrap, IntKind.bits, IntKind.signed]; omega
          have hwr2 : IntKind.u8.wrap (2 + d.length : Int) = 2 + d.length := by simp [IntKind.wrap, IntKind.bits, IntKind.signed]; omega
          go_wp2_with (at_builtin; refine wpList_app rfl _ _ rfl _ m [kd] rfl (by exact (hown.away ((Away.refl [] _).alloc _) (by simp)).away ((Away.refl [] _).alloc _) (by simp)) ⟨_, 0, none⟩ 1 1 rfl rfl (by exact lit_cells _ [kd] _ (by simp)) (by omega) ?_)
          intro v2 w2 hown2 hgr2 hmov2
          have haw2 : Away [] w w2 := ((haw.alloc _).alloc _).grown hgr2 (fun k hk => .inr (hnew k hk))
          have hsw := haw.size
          have hnew2 : New w.heap.size v2 := hnew.moved hmov2 (by simp; omega)
          have hawl : Away u4.ownBlock.toList ((wr.alloc (.cells #[.int .i64 kd, .slice ba d.length bc] 34)).alloc (.cells #[.int .u8 kd] 5)) w2 := (Away.refl _ _).grown hgr2 (fun k hk => .inl (by simp [hk]))
          have hawl2 : Away u4.ownBlock.toList wr w2 := (((Away.refl _ wr).alloc _).alloc _).next hawl (fun x hx => .inl hx)
          have hno : wr.heap.size ∉ u4.ownBlock.toList := fun hj => by have := hown.lt _ (by simpa using hj); omega
          have y : w2.cell? ⟨wr.heap.size, 0, none⟩ = some (.int .i64 kd) ∧ w2.cell? ⟨wr.heap.size, 1, none⟩ = some (.slice ba d.length bc) := by
            constructor
            all_goals
              refine hawl.cell hno ?_
              refine ((Away.refl [] (wr.alloc (.cells #[.int .i64 kd, .slice ba d.length bc] 34))).alloc (.cells #[.int .u8 kd] 5)).cell (by simp) ?_
              rw [World.cell?_alloc_at (hn := rfl)]; rfl
          obtain ⟨y0, y1⟩ := y
          have hvb : ∀ j, v2.ownBlock = some j → j ≠ wr.heap.size := fun j hj e => by
            rcases hmov2 j hj with h | h
            · have := hown.lt j h; omega
            · simp at h; omega
          clear hgr2 hmov2 hawl hawl2 hno
          go_wp2_with (at_builtin; refine wpList_app rfl _ _ rfl _ (m ++ [kd]) [(2 + d.length : Int)] rfl (by exact hown2.away ((Away.refl [] _).alloc _) (by simp)) ⟨_, 0, none⟩ 1 1 rfl rfl (by exact lit_cells _ [(2 + d.length : Int)] _ rfl) (by simp; omega) ?_)
          intro v3 w3 hown3 hgr3 hmov3
          have haw3 : Away [] w w3 := (haw2.alloc _).grown hgr3 (fun k hk => .inr (hnew2 k hk))
          have hnew3 : New w.heap.size v3 := hnew2.moved hmov3 (by simp; have := haw2.size; omega)
          have y2 : w3.cell? ⟨wr.heap.size, 1, none⟩ = some (.slice ba d.length bc) := by
            have hawl : Away v2.ownBlock.toList (w2.alloc (.cells #[.int .u8 (2 + d.length : Int)] 5)) w3 := (Away.refl _ _).grown hgr3 (fun k hk => .inl (by simp [hk]))
            refine hawl.cell (fun hj => hvb _ (by simpa using hj) rfl) ?_
            exact ((Away.refl [] w2).alloc _).cell (by simp) y1
          have HD3 : Hid (Row w3 ba d) := HRW.out _ haw3
          have HO3 : Hid (Owns w3 v3 (m ++ [kd, (2 + d.length : Int)])) := by
            show Owns _ _ _
            simpa using hown3
          clear hgr3 hmov3 hown3 hown2 y0 y1 hvb
          rcases ba with _ | ad
          · have hd0 : d = [] := by rcases HD3.out.2.2 with h | ⟨_, _, h, _⟩ <;> simp_all
            subst hd0
            obtain rfl := hnone rfl
            go_wp2_with (at_builtin; refine wpList_app_none rfl _ _ rfl _ (m ++ [kd, (2 + ([] : List Int).length : Int)]) rfl (by exact HO3.out) rfl ?_)
            go_wp2_with fail
            go_roundw
            case rel =>
              refine ⟨k + 1, by omega, by go_num, by rw [hTs.out]; simp only [V.o]; rw [hsz.out, show min (T + (2 + ([] : List Int).length)) 1000 = T + (2 + ([] : List Int).length) from by simp; omega]; go_num, hAs.out hrt.out, _, HO3.out, by have := HMT.out; simp; omega, ?_, fun _ => ?_, hnew3, haw3⟩
              · exact hmb.app ((Bytes.nil.cons (by simp) (by simp)).cons (by omega) (by omega))
              · rw [hFs.out, HME.out]; simp only [V.o]; rw [hly.out]
            case measure => simp [intOf]; omega
          · go_wp2_with (at_builtin; refine wpList_app rfl _ _ rfl _ (m ++ [kd, (2 + d.length : Int)]) d rfl (by exact HO3.out) ad d.length bc rfl rfl (by exact HD3.out.src) (by have := HMT.out; simp; omega) ?_)
            intro v4 w4 hown4 hgr4 hmov4
            have haw4 : Away [] w w4 := haw3.grown hgr4 (fun k hk => .inr (hnew3 k hk))
            have hnew4 : New w.heap.size v4 := hnew3.moved hmov4 haw3.size
            have HO4 : Hid (Owns w4 v4 ((m ++ [kd, (2 + d.length : Int)]) ++ d)) := by
              show Owns _ _ _
              simpa using hown4
            clear hgr4 hmov4 hown4
            go_wp2_with fail
            go_roundw
            case rel =>
              refine ⟨k + 1, by omega, by go_num, by rw [hTs.out]; simp only [V.o]; rw [hsz.out, show min (T + (2 + d.length)) 1000 = T + (2 + d.length) from by omega]; go_num, hAs.out hrt.out, _, HO4.out, by have := HMT.out; simp; omega, ?_, fun _ => ?_, hnew4, haw4⟩
              · exact (hmb.app ((Bytes.nil.cons (by omega) (by omega)).cons (by omega) (by omega))).app hdb
              · rw [hFs.out, HME.out]; simp only [V.o]; rw [hly.out]; simp
            case measure => simp [intOf]; omega
    · have hkk : xs.take k = xs := List.take_of_length_le (by omega)
      have HALL : Hid (∀ o ∈ xs.map V.o, rightB o = true) := fun o ho => by
        obtain ⟨x, hx, rfl⟩ := List.mem_map.1 ho
        exact HA.out x (by rw [hkk]; exact hx)
      have hacc := HACC.out
      rw [hkk] at hacc ⊢
      clear HACC HA
      have HFL : Hid ((flat (xs.map V.o)).length = tot (xs.map V.o)) := flat_len _
      generalize hT : tot (xs.map V.o) = T at *
      have HT : Hid (tot (xs.map V.o) = T) := hT
      clear hT
      by_cases hbig : 40 < T
      · have e1 : (40 : Int) < ((min T 1000 : Nat) : Int) := by omega
        generalize ((min T 1000 : Nat) : Int) = N at *
        go_wp2_with fail
        go_ret2
        refine ⟨haw, _, ?_, ?_, New.nil _⟩
        · rw [build_long HALL.out (by rw [HT.out]; exact hbig)]; rfl
        · rw [build_long HALL.out (by rw [HT.out]; exact hbig)]; exact Owns.nil _
      · have e1 : min T 1000 = T := by omega
        rw [e1]
        obtain ⟨m, hown, hm40, hmb, hme, hnew, _⟩ := hacc
        have hme := hme (by omega)
        have HME : Hid (m = flat (xs.map V.o)) := hme
        have hmT : m.length = T := by rw [hme]; exact HFL.out
        have HMT : Hid (m.length = T) := hmT
        have hF := fill40 (n := T) (by omega)
        have hF2 := fillP_le T
        clear hme hmT e1
        go_wp2_with fail
        go_loopw [4] (fun v ws => ∃ j : Nat, T + j ≤ fillP T ∧ Owns ws v (m ++ List.replicate j 0) ∧ New w.heap.size v ∧ Away [] w ws) (fun v _ => 40 - (match v with | .slice _ n _ => n | _ => 0))
        case atStart => exact ⟨0, by omega, by simpa using hown, hnew, haw⟩
        case round =>
          obtain ⟨j, hj, hownj, hnewj, hawj⟩ := hrel
          have hjl : (m ++ List.replicate j 0).length = T + j := by have := HMT.out; simp; omega
          obtain ⟨va, vc, rfl, _, _, _, _⟩ := hownj.row (by omega) (hmb.app (Bytes.zeros _))
          rw [hjl] at hownj hnewj ⊢
          have HOJ : Hid (Owns wr (.slice va (T + j) vc) (m ++ List.replicate j 0)) := hownj
          have HNJ : Hid (New w.heap.size (.slice va (T + j) vc)) := hnewj
          have HJL : Hid ((m ++ List.replicate j 0).length = T + j) := hjl
          clear hownj hnewj hjl
          by_cases hmod : (T + j) % 4 = 0
          · have e2 : fillP T = T + j := by unfold fillP at hj ⊢; omega
            have hz : (((T : Int) + (j : Int)) % 4 != 0) = false := by simp; omega
            have hz2 : (((T + j : Nat) : Int) % 4 != 0) = false := by simp; omega
            go_wp2_with fail
            go_ret2
            have e := buildP_ok HALL.out (by rw [HT.out]; omega)
            refine ⟨hawj, .slice va (T + j) vc, ?_, ?_, HNJ.out⟩
            · rw [e]; rfl
            · rw [e]
              simp only [laidP, HT.out]
              rw [e2, show T + j - T = j from by omega, ← HME.out]
              exact HOJ.out
          · have hz : (((T : Int) + (j : Int)) % 4 != 0) = true := by simp; omega
            have hz2 : (((T + j : Nat) : Int) % 4 != 0) = true := by simp; omega
            have hj2 : T + (j + 1) ≤ fillP T := by unfold fillP at hj ⊢; omega
            have HJ2 : Hid (T + (j + 1) ≤ fillP T) := hj2
            clear hj hj2 hmod
            go_wp2_with (at_builtin; refine wpList_app rfl _ _ rfl _ (m ++ List.replicate j 0) [0] rfl (by exact HOJ.out.away ((Away.refl [] _).alloc _) (by simp)) ⟨_, 0, none⟩ 1 1 rfl rfl (by exact lit_cells _ [0] _ rfl) (by rw [HJL.out]; have := HJ2.out; omega) ?_)
            intro v2 w2 hown2 hgr hmov
            have haw2 : Away [] w w2 := (hawj.alloc _).grown hgr (fun k hk => .inr (HNJ.out k hk))
            have hnew2 : New w.heap.size v2 := HNJ.out.moved hmov (by simp; have := hawj.size; omega)
            have HO2 : Hid (Owns w2 v2 (m ++ List.replicate (j + 1) 0)) := by
              show Owns _ _ _
              rw [List.replicate_succ']; simpa using hown2
            clear hgr hmov hown2
            obtain ⟨ua, uc, rfl, _, _, _, _⟩ := HO2.out.row (by have := HJL.out; have := HJ2.out; simp at *; omega) (hmb.app (Bytes.zeros _))
            have hul : (m ++ List.replicate (j + 1) 0).length = T + (j + 1) := by have := HMT.out; simp; omega
            have HUL : Hid ((m ++ List.replicate (j + 1) 0).length = T + (j + 1)) := hul
            clear hul
            have HO3 : Hid (Owns w2 (.slice ua (T + (j + 1)) uc) (m ++ List.replicate (j + 1) 0)) := by
              have h1 := HO2.out
              rw [HUL.out] at h1; exact h1
            rw [HUL.out] at hnew2 ⊢
            clear HO2
            go_wp2_with fail
            go_roundw
            case rel => exact ⟨j + 1, HJ2.out, HO3.out, hnew2, haw2⟩
            case measure => have := HJ2.out; simp; omega
#print axioms rbuild_c
end Go.Proofs.YtokhmlpajfhbpabDoor
