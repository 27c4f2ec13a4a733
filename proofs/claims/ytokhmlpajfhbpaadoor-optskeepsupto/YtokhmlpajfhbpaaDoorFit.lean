/-
  rest, fitting.
-/
import Derived.Test.YtokhmlpajfhbpaaDoorKit
import Derived.Deep.RegionLaw
namespace Go.Proofs.YtokhmlpajfhbpaaDoor
open Go.ChangeShapes Go.WideShapes Go.ChangeAt Go.RowKit Go.Deep
set_option linter.unusedVariables false
set_option maxRecDepth 100000

def RestOut (w : World) (E : Ending) (w' : World) : Prop := w' = w ∧ ∃ r : Int, 0 ≤ r ∧ r ≤ 254 ∧ E = .returned (.int .i64 r)
set_option maxHeartbeats 400000 in
theorem rest_c (k : Int) (w : World) (hk : I64 k) : Calls Tryd.prog 29 #[.int .i64 k, .int .i64 254] w fun E w' => RestOut w E w' := by
  unfold I64 at hk
  have h1 : -254 ≤ k.tmod 255 ∧ k.tmod 255 ≤ 254 := by
    have := Int.tmod_lt_of_pos k (show (0 : Int) < 255 by omega)
    have h2 := Int.tmod_lt_of_pos (-k) (show (0 : Int) < 255 by omega)
    rw [Int.neg_tmod] at h2
    omega
  by_cases hneg : k.tmod 255 < 0
  · generalize hr : k.tmod 255 = r at *
    go_enter Tryd.func29, Tryd.ntmps29
    go_wp2
    go_ret
    exact ⟨rfl, r + 254 + 1, by omega, by omega, rfl⟩
  · generalize hr : k.tmod 255 = r at *
    go_enter Tryd.func29, Tryd.ntmps29
    go_wp2
    go_ret
    exact ⟨rfl, r, by omega, by omega, rfl⟩
theorem step_app_none {ops : Array Oper} {o : Oper} {a : Act} {w : World} {K : Act → World → Prop} {Q : Exit → Act → World → Prop} {E : Prop} (hg : o.guard = none) (s x : Operand)
    (hop : o.op = .call { callee := .builtin .append, args := #[s, x], argTypes := #[22, 22] }) (v : Value) (l : List Int) (hs : a.eval s = v) (hown : Owns w v l) (hx : a.eval x = .slice none 0 0)
    (hK : K (a.put o.dst v) w) :
    if Region.wanted o (yielded ops a.tmps) = true then Oper.wp Tryd.prog o a w K Q else E := by
  have hw : Region.wanted o (yielded ops a.tmps) = true := by simp [Region.wanted, hg]
  rw [if_pos hw]
  obtain ⟨i0, hi, hz0, hz1, hz2⟩ := info_parts info5
  have hrun := run_append_owned_none (P := Tryd.prog) (w := w) 0 22 o.type 5 i0 1 Tryd.underlying22 hi v _ _ hown
  unfold Oper.wp
  simp [execOp, hop, resolve, invoke, builtin, hs, hx, hrun, Result.andThen]
  exact hK
/-- What fitting makes. -/
def FitOut (w : World) (E : Ending) (w' : World) : Prop :=
  ∃ v xs, E = .returned v ∧ Made w' w.heap.size v xs ∧ (∀ x ∈ xs, rightB x.o = true) ∧ tot (xs.map V.o) ≤ 40 ∧ Away [] w w'
theorem tot_snoc (xs : List V) (x : V) : tot ((xs ++ [x]).map V.o) = tot (xs.map V.o) + szP x.o := by
  rw [List.map_append, tot_app]; simp [tot]
theorem len_tot (xs : List V) : xs.length ≤ tot (xs.map V.o) := by have := len_le_tot (xs.map V.o); simpa using this
set_option maxHeartbeats 4000000 in
theorem fitting_c (a : Option Addr) (ls : List V) (n cap : Nat) (w : World) (hn : ls.length = n) (ho : Opts w a ls) :
    Calls Tryd.prog 17 #[.slice a n cap] w fun E w' => FitOut w E w' := by
  subst hn
  have hlen := ho.1
  have HO : Hid (Opts w a ls) := ho
  clear ho
  go_enter Tryd.func17, Tryd.ntmps17
  go_wp2_with fail
  go_loopw [3, 4, 5] (fun v t i wr => ∃ (k T : Nat) (xs : List V), k ≤ ls.length ∧ i = .int .i64 k ∧ t = .int .i64 T ∧ T = tot (xs.map V.o) ∧ T ≤ 40 ∧ Made wr w.heap.size v xs ∧ (∀ x ∈ xs, rightB x.o = true) ∧ Away [] w wr) (fun _ _ i _ => ls.length - (intOf i).toNat)
  case atStart => exact ⟨0, 0, [], by omega, rfl, rfl, rfl, by omega, Made.nil _ _, by simp, Away.refl _ _⟩
  case round =>
    obtain ⟨k, T, xs, hk, rfl, rfl, hT, hT40, hmade, hall, haw⟩ := hrel
    have HT : Hid (T = tot (xs.map V.o)) := hT
    have HA : Hid (∀ x ∈ xs, rightB x.o = true) := hall
    have hxl : xs.length ≤ 40 := by have := len_tot xs; omega
    clear hT hall
    have hsw := haw.size
    by_cases hlt : k < ls.length
    · obtain ⟨x, hx, hmem⟩ := get_of_lt hlt
      have hoo := HO.out.on haw
      have hik := (hoo.2.1 x hmem).1
      have hbc := (hoo.2.1 x hmem).2.2
      obtain ⟨b, off, rfl, c0, c1, hrow⟩ := cells_opts hoo hx
      obtain ⟨kd, ba, bc, d⟩ := x
      simp only at c0 c1 hrow hik hbc
      have hblt := block_lt_of_cell c0
      simp only at hblt
      have HROW : Hid (Row wr ba d) := hrow
      have hd63 := hrow.1
      have hdb := hrow.2.1
      clear hoo hx hrow
      go_wp2_with fail
      refine (rest_c kd _ hik).mono ?_
      rintro E w' ⟨rfl, r, hr0, hr1, rfl⟩
      by_cases hr : r = 0
      · subst hr
        by_cases hbig : 40 < T + 1
        · go_wp2_with fail
          go_ret
          exact ⟨_, xs, rfl, hmade.on ((Away.refl [] _).alloc _), HA.out, by rw [← HT.out]; exact hT40, haw.alloc _⟩
        · go_wp2_with (at_builtin; refine wpList_app2 rfl _ _ rfl _ xs.length (xs.flatMap V.cells) rfl (by exact ((hmade.lst.away ((Away.refl [] _).alloc _) (by simp)).away ((Away.refl [] _).alloc _) (by simp))) ⟨_, 0, none⟩ 1 rfl (.int .i64 1) (.slice none 0 0) (by rw [World.cell?_alloc_at (hn := by simp)]; rfl) (by rw [add_plain, World.cell?_alloc_at (hn := by simp)]; rfl) rfl rfl (by omega) ?_)
          intro v' w2 hown2 hgr hmov
          have hm1 := (hmade.on ((Away.refl [] _).alloc (.cells #[.int .i64 1, .slice none 0 0] 38))).on ((Away.refl [] _).alloc (.cells #[.int .i64 1, .slice none 0 0] 38))
          have hm2 := hm1.snoc (x := ⟨1, none, 0, []⟩) (by simp; omega) hgr hmov (Lst.snoc hown2) (by unfold I64; simp) (Owns.nil _) Bytes.nil (by simp) (New.nil _) (by simp [V.sl, Value.ownBlock])
          have haw2 : Away [] w w2 := ((haw.alloc _).alloc _).grown hgr (fun k hk => .inr (hmade.new k hk))
          clear hgr hmov hm1 hown2 hmade haw
          go_wp2_with fail
          go_roundw
          case rel => exact ⟨k + 1, T + 1, xs ++ [⟨1, none, 0, []⟩], by omega, by go_num, by go_num, by rw [tot_snoc, ← HT.out]; rfl, by omega, hm2, fun y hy => (List.mem_append.1 hy).elim (HA.out y) (fun h => by simp at h; subst h; decide), haw2⟩
          case measure => simp [intOf]; omega
      · have hkd : (1 : Int) < 1 + r := by omega
        rcases ba with _ | ad
        · have hd0 : d = [] := by rcases HROW.out.2.2 with h | ⟨_, _, h, _⟩ <;> simp_all
          subst hd0
          obtain rfl := hbc.1 rfl
          have HML : Hid (([] : List Int).length = 0) := rfl
          have HDB : Hid (Bytes ([] : List Int)) := Bytes.nil
          have hsl := slice_h none 0 0 0 0 rfl (by omega)
          have HE : Hid (szP (1 + r, ([] : List Int)) = 2 + 0) := by
            show _ = _
            unfold szP; rw [if_neg (by simp only; omega)]; have := HML.out; simp only; omega
          have hright : Hid (rightB (1 + r, ([] : List Int)) = true) := by
            show _ = _
            rw [rightB_iff]
            exact ⟨by simp only; omega, by simp only; omega, by have := HML.out; simp only; omega, fun h => by simp only at h; omega⟩
          go_wp2_with fail
          have hblk1 : (w'.alloc (.cells #[.int .i64 (1 + r), .slice none 0 0] 38)).heap[w'.heap.size]? = some (.cells #[.int .i64 (1 + r), .slice none 0 0] 38 (0, 0)) := block_new _ _
          have hawA : Away [] w' (w'.alloc (.cells #[.int .i64 (1 + r), .slice none 0 0] 38)) := (Away.refl [] _).alloc _
          have hgl : w'.heap.size < (w'.alloc (.cells #[.int .i64 (1 + r), .slice none 0 0] 38)).heap.size := by simp
          have hmlt : ∀ k, u3.ownBlock = some k → k < w'.heap.size := hmade.lst.lt
          have hmlt2 : ∀ x ∈ xs, ∀ k, x.sl.ownBlock = some k → k < w'.heap.size := fun x hx => (hmade.each x hx).2.1.lt
          generalize w'.alloc (.cells #[.int .i64 (1 + r), .slice none 0 0] 38) = w1 at *
          generalize hg : w'.heap.size = g at *
          have g0 : w1.cell? ⟨g, 0, none⟩ = some (.int .i64 (1 + r)) := by rw [cell_of_block hblk1]; rfl
          have g1 : w1.cell? ⟨g, 1, none⟩ = some (.slice none 0 0) := by rw [cell_of_block hblk1]; rfl
          have f1 := free_of_block hblk1 1
          have c1' := hawA.cell (by simp) c1
          have HROW1 : Hid (Row w1 none []) := HROW.out.away hawA (by simp)
          have HBK : Hid (w1.heap[g]? = some (.cells #[.int .i64 (1 + r), .slice none 0 0] 38 (0, 0))) := hblk1
          have HM1 : Hid ((∀ k, u3.ownBlock = some k → k < g) ∧ ∀ x ∈ xs, ∀ k, x.sl.ownBlock = some k → k < g) := ⟨hmlt, hmlt2⟩
          clear c0 c1 hblk1 hmlt hmlt2
          go_region_law ((refine step_app_none rfl (.tmp 33) (.tmp 40) rfl (.slice none 0 0) [] (by first | rfl | simp [Act.eval, Act.put]) (by exact Owns.nil _) (by first | rfl | simp [Act.eval, Act.put]) ?_; have zf := f1))
          all_goals
            have hawB : Away [] w1 w1 := Away.refl [] w1
            have hown3 : Owns w1 (.slice none 0 0) [] := Owns.nil _
            have hnew3 : New w1.heap.size (.slice none 0 0) := New.nil _
            have hblk3 : (w1.setCell ⟨g, 1, none⟩ (.slice none 0 0)).drew.heap[g]? = some (.cells #[.int .i64 (1 + r), (.slice none 0 0)] 38 (0, 0)) := by
              show (w1.setCell ⟨g, 1, none⟩ (.slice none 0 0)).heap[g]? = _; rw [block_set (hawB.keep (by simp) HBK.out)]; rfl
            have hawC : Away [g] w1 (w1.setCell ⟨g, 1, none⟩ (.slice none 0 0)).drew := ((Away.refl [g] w1).setCell (.inl (by simp)) _).drew
            have hmade3 : Made (w1.setCell ⟨g, 1, none⟩ (.slice none 0 0)).drew w.heap.size u3 xs := ((hmade.on hawA).on hawB).away hawC (fun j hj => by have := HM1.out.1 j hj; simp; omega) (fun x hx j hj => by have := HM1.out.2 x hx j hj; simp; omega)
            have hown4 : Owns (w1.setCell ⟨g, 1, none⟩ (.slice none 0 0)).drew (.slice none 0 0) [] := hown3.away hawC (fun j hj => by have := hnew3 j hj; simp; omega)
            have haw3 : Away [] w (w1.setCell ⟨g, 1, none⟩ (.slice none 0 0)).drew := ((haw.next hawA (by simp)).next hawB (by simp)).next hawC (fun x hx => .inr (by simp at hx; omega))
            generalize (w1.setCell ⟨g, 1, none⟩ (.slice none 0 0)).drew = w3 at *
            have y0 : w3.cell? ⟨g, 0, none⟩ = some (.int .i64 (1 + r)) := by rw [cell_of_block hblk3]; rfl
            have y1 : w3.cell? ⟨g, 1, none⟩ = some (.slice none 0 0) := by rw [cell_of_block hblk3]; rfl
            have hg3 : g < w3.heap.size := lt_of_block hblk3
            have HM3 : Hid (Made w3 w.heap.size u3 xs) := hmade3
            clear hawB hawC hown3 haw hmade hawA hblk3 g0 g1 f1 c1' hmade3 
            by_cases hbig : 40 < T + 1 + 0 + 1
            · go_wp2_with fail
              go_ret
              exact ⟨_, xs, rfl, HM3.out, HA.out, by rw [← HT.out]; exact hT40, haw3⟩
            · go_wp2_with (at_builtin; refine wpList_app2 rfl _ _ rfl _ xs.length (xs.flatMap V.cells) rfl (by exact HM3.out.lst.away ((Away.refl [] _).alloc _) (by simp)) ⟨_, 0, none⟩ 1 rfl (.int .i64 (1 + r)) (.slice none 0 0) (by rw [World.cell?_alloc_at (hn := rfl)]; rfl) (by rw [add_plain, World.cell?_alloc_at (hn := rfl)]; rfl) rfl rfl (by omega) ?_)
              intro v' w4 hown5 hgr hmov
              have hm1 := HM3.out.on ((Away.refl [] _).alloc (.cells #[.int .i64 (1 + r), (.slice none 0 0)] 38))
              have hm2 := hm1.snoc (x := ⟨1 + r, none, 0, []⟩) (by simp; have := haw3.size; omega) hgr hmov (Lst.snoc hown5) (by unfold I64; simp only; omega) (by exact hown4.away ((Away.refl [] _).alloc _) (by simp)) HDB.out (by have := HML.out; simp only; omega) (by exact hnew3.mono (by omega)) (fun j hj => ⟨fun e => by
                  have h1 := hnew3 j hj
                  have h2 := HM1.out.1 j e
                  omega, fun z hz e => by
                  have h1 := hnew3 j hj
                  have h2 := HM1.out.2 z hz j e
                  omega⟩)
              have haw4 : Away [] w w4 := (haw3.alloc _).grown hgr (fun k hk => .inr (HM3.out.new k hk))
              clear hgr hmov hm1 hown5 hown4
              go_wp2_with fail
              go_roundw
              case rel => exact ⟨k + 1, T + 1 + 0 + 1, xs ++ [⟨1 + r, none, 0, []⟩], by omega, by go_num, by go_num, by rw [tot_snoc, ← HT.out]; simp only [V.o]; have := HE.out; omega, by omega, hm2, fun y hy => (List.mem_append.1 hy).elim (HA.out y) (fun h => by simp at h; subst h; exact hright.out), haw4⟩
              case measure => simp [intOf]; omega
        by_cases hle : d.length ≤ 38
        · obtain ⟨dd, hdd⟩ : ∃ dd, dd = d := ⟨_, rfl⟩
          have HML : Hid (dd.length = d.length) := by show _ = _; rw [hdd]
          have HDB : Hid (Bytes dd) := by show Bytes _; rw [hdd]; exact hdb
          have HSRC : Hid (∀ wx, Away [] w' wx → ∀ j u, (dd.map (Value.int .u8))[j]? = some u → wx.cell? (ad.add j) = some u) := by
            intro wx hwx; rw [hdd]; exact (HROW.out.away hwx (by simp)).src
          clear hdd
          have hsl := slice_h (some ad) d.length bc d.length d.length rfl hbc.2
          have HE : Hid (szP (1 + r, dd) = 2 + d.length) := by
            show _ = _
            unfold szP; rw [if_neg (by simp only; omega)]; have := HML.out; simp only; omega
          have hright : Hid (rightB (1 + r, dd) = true) := by
            show _ = _
            rw [rightB_iff]
            exact ⟨by simp only; omega, by simp only; omega, by have := HML.out; simp only; omega, fun h => by simp only at h; omega⟩
          go_wp2_with fail
          have hblk1 : (w'.alloc (.cells #[.int .i64 (1 + r), .slice none 0 0] 38)).heap[w'.heap.size]? = some (.cells #[.int .i64 (1 + r), .slice none 0 0] 38 (0, 0)) := block_new _ _
          have hawA : Away [] w' (w'.alloc (.cells #[.int .i64 (1 + r), .slice none 0 0] 38)) := (Away.refl [] _).alloc _
          have hgl : w'.heap.size < (w'.alloc (.cells #[.int .i64 (1 + r), .slice none 0 0] 38)).heap.size := by simp
          have hmlt : ∀ k, u3.ownBlock = some k → k < w'.heap.size := hmade.lst.lt
          have hmlt2 : ∀ x ∈ xs, ∀ k, x.sl.ownBlock = some k → k < w'.heap.size := fun x hx => (hmade.each x hx).2.1.lt
          generalize w'.alloc (.cells #[.int .i64 (1 + r), .slice none 0 0] 38) = w1 at *
          generalize hg : w'.heap.size = g at *
          have g0 : w1.cell? ⟨g, 0, none⟩ = some (.int .i64 (1 + r)) := by rw [cell_of_block hblk1]; rfl
          have g1 : w1.cell? ⟨g, 1, none⟩ = some (.slice none 0 0) := by rw [cell_of_block hblk1]; rfl
          have f1 := free_of_block hblk1 1
          have c1' := hawA.cell (by simp) c1
          have HROW1 : Hid (Row w1 (some ad) d) := HROW.out.away hawA (by simp)
          have HBK : Hid (w1.heap[g]? = some (.cells #[.int .i64 (1 + r), .slice none 0 0] 38 (0, 0))) := hblk1
          have HM1 : Hid ((∀ k, u3.ownBlock = some k → k < g) ∧ ∀ x ∈ xs, ∀ k, x.sl.ownBlock = some k → k < g) := ⟨hmlt, hmlt2⟩
          clear c0 c1 hblk1 hmlt hmlt2
          go_region_law ((refine step_app rfl (.tmp 33) (.tmp 40) rfl (.slice none 0 0) [] dd (by first | rfl | simp [Act.eval, Act.put]) (by exact Owns.nil _) ad d.length bc (by first | rfl | simp [Act.eval, Act.put]) HML.out (by exact HSRC.out _ (by first | exact hawA.drew | exact hawA)) (by simp only [List.length_nil]; omega) ?_; intro v' w2 hown2 hgr hmov; have hown3 : Owns w2 v' dd := (by simpa using hown2); obtain ⟨a3, cap3, rfl, _⟩ := hown3.row (by rw [HML.out]; omega) HDB.out; have hawB : Away [] w1 w2 := ((Away.refl [] w1).drew).grown hgr (by simp [Value.ownBlock]); have z1 := hawB.cell (by simp) g1; have z2 := hawB.cell (by simp) c1'; have zf := free_of_block (hawB.keep (by simp) HBK.out) 1))
          all_goals
            have hnew3 : New w1.heap.size (.slice a3 dd.length cap3) := fun j hj => by
              rcases hmov j hj with h | h
              · simp [Value.ownBlock] at h
              · exact h
            clear hmov hown2 hgr
            have hblk3 : (w2.setCell ⟨g, 1, none⟩ (.slice a3 dd.length cap3)).heap[g]? = some (.cells #[.int .i64 (1 + r), (.slice a3 dd.length cap3)] 38 (0, 0)) := by
              rw [block_set (hawB.keep (by simp) HBK.out)]; rfl
            have hawC : Away [g] w2 (w2.setCell ⟨g, 1, none⟩ (.slice a3 dd.length cap3)) := (Away.refl [g] w2).setCell (.inl (by simp)) _
            have hmade3 : Made (w2.setCell ⟨g, 1, none⟩ (.slice a3 dd.length cap3)) w.heap.size u3 xs := ((hmade.on hawA).on hawB).away hawC (fun j hj => by have := HM1.out.1 j hj; simp; omega) (fun x hx j hj => by have := HM1.out.2 x hx j hj; simp; omega)
            have hown4 : Owns (w2.setCell ⟨g, 1, none⟩ (.slice a3 dd.length cap3)) (.slice a3 dd.length cap3) dd := hown3.away hawC (fun j hj => by have := hnew3 j hj; simp; omega)
            have haw3 : Away [] w (w2.setCell ⟨g, 1, none⟩ (.slice a3 dd.length cap3)) := ((haw.next hawA (by simp)).next hawB (by simp)).next hawC (fun x hx => .inr (by simp at hx; omega))
            generalize w2.setCell ⟨g, 1, none⟩ (.slice a3 dd.length cap3) = w3 at *
            have y0 : w3.cell? ⟨g, 0, none⟩ = some (.int .i64 (1 + r)) := by rw [cell_of_block hblk3]; rfl
            have y1 : w3.cell? ⟨g, 1, none⟩ = some (.slice a3 dd.length cap3) := by rw [cell_of_block hblk3]; rfl
            have hg3 : g < w3.heap.size := lt_of_block hblk3
            have HM3 : Hid (Made w3 w.heap.size u3 xs) := hmade3
            clear hawB hawC hown3 haw hmade hawA hblk3 g0 g1 f1 c1' hmade3 z1 z2 zf
            by_cases hbig : 40 < T + 1 + d.length + 1
            · go_wp2_with fail
              go_ret
              exact ⟨_, xs, rfl, HM3.out, HA.out, by rw [← HT.out]; exact hT40, haw3⟩
            · go_wp2_with (at_builtin; refine wpList_app2 rfl _ _ rfl _ xs.length (xs.flatMap V.cells) rfl (by exact HM3.out.lst.away ((Away.refl [] _).alloc _) (by simp)) ⟨_, 0, none⟩ 1 rfl (.int .i64 (1 + r)) (.slice a3 dd.length cap3) (by rw [World.cell?_alloc_at (hn := rfl)]; rfl) (by rw [add_plain, World.cell?_alloc_at (hn := rfl)]; rfl) rfl rfl (by omega) ?_)
              intro v' w4 hown5 hgr hmov
              have hm1 := HM3.out.on ((Away.refl [] _).alloc (.cells #[.int .i64 (1 + r), (.slice a3 dd.length cap3)] 38))
              have hm2 := hm1.snoc (x := ⟨1 + r, a3, cap3, dd⟩) (by simp; have := haw3.size; omega) hgr hmov (Lst.snoc hown5) (by unfold I64; simp only; omega) (by exact hown4.away ((Away.refl [] _).alloc _) (by simp)) HDB.out (by have := HML.out; simp only; omega) (by exact hnew3.mono (by omega)) (fun j hj => ⟨fun e => by
                  have h1 := hnew3 j hj
                  have h2 := HM1.out.1 j e
                  omega, fun z hz e => by
                  have h1 := hnew3 j hj
                  have h2 := HM1.out.2 z hz j e
                  omega⟩)
              have haw4 : Away [] w w4 := (haw3.alloc _).grown hgr (fun k hk => .inr (HM3.out.new k hk))
              clear hgr hmov hm1 hown5 hown4
              go_wp2_with fail
              go_roundw
              case rel => exact ⟨k + 1, T + 1 + d.length + 1, xs ++ [⟨1 + r, a3, cap3, dd⟩], by omega, by go_num, by go_num, by rw [tot_snoc, ← HT.out]; simp only [V.o]; have := HE.out; omega, by omega, hm2, fun y hy => (List.mem_append.1 hy).elim (HA.out y) (fun h => by simp at h; subst h; exact hright.out), haw4⟩
              case measure => simp [intOf]; omega
        · obtain ⟨dd, hdd⟩ : ∃ dd, dd = d.take 38 := ⟨_, rfl⟩
          have HML : Hid (dd.length = 38) := by show _ = _; rw [hdd]; simp; omega
          have HDB : Hid (Bytes dd) := by show Bytes _; rw [hdd]; exact hdb.take _
          have HSRC : Hid (∀ wx, Away [] w' wx → ∀ j u, (dd.map (Value.int .u8))[j]? = some u → wx.cell? (ad.add j) = some u) := by
            intro wx hwx; rw [hdd]; exact ((HROW.out.head 38).away hwx (by simp)).src
          clear hdd
          have hsl := slice_h (some ad) d.length bc 38 38 rfl (by omega)
          have HE : Hid (szP (1 + r, dd) = 2 + 38) := by
            show _ = _
            unfold szP; rw [if_neg (by simp only; omega)]; have := HML.out; simp only; omega
          have hright : Hid (rightB (1 + r, dd) = true) := by
            show _ = _
            rw [rightB_iff]
            exact ⟨by simp only; omega, by simp only; omega, by have := HML.out; simp only; omega, fun h => by simp only at h; omega⟩
          go_wp2_with fail
          have hblk1 : (w'.alloc (.cells #[.int .i64 (1 + r), .slice none 0 0] 38)).heap[w'.heap.size]? = some (.cells #[.int .i64 (1 + r), .slice none 0 0] 38 (0, 0)) := block_new _ _
          have hawA : Away [] w' (w'.alloc (.cells #[.int .i64 (1 + r), .slice none 0 0] 38)) := (Away.refl [] _).alloc _
          have hgl : w'.heap.size < (w'.alloc (.cells #[.int .i64 (1 + r), .slice none 0 0] 38)).heap.size := by simp
          have hmlt : ∀ k, u3.ownBlock = some k → k < w'.heap.size := hmade.lst.lt
          have hmlt2 : ∀ x ∈ xs, ∀ k, x.sl.ownBlock = some k → k < w'.heap.size := fun x hx => (hmade.each x hx).2.1.lt
          generalize w'.alloc (.cells #[.int .i64 (1 + r), .slice none 0 0] 38) = w1 at *
          generalize hg : w'.heap.size = g at *
          have g0 : w1.cell? ⟨g, 0, none⟩ = some (.int .i64 (1 + r)) := by rw [cell_of_block hblk1]; rfl
          have g1 : w1.cell? ⟨g, 1, none⟩ = some (.slice none 0 0) := by rw [cell_of_block hblk1]; rfl
          have f1 := free_of_block hblk1 1
          have c1' := hawA.cell (by simp) c1
          have HROW1 : Hid (Row w1 (some ad) d) := HROW.out.away hawA (by simp)
          have HBK : Hid (w1.heap[g]? = some (.cells #[.int .i64 (1 + r), .slice none 0 0] 38 (0, 0))) := hblk1
          have HM1 : Hid ((∀ k, u3.ownBlock = some k → k < g) ∧ ∀ x ∈ xs, ∀ k, x.sl.ownBlock = some k → k < g) := ⟨hmlt, hmlt2⟩
          clear c0 c1 hblk1 hmlt hmlt2
          go_region_law ((refine step_app rfl (.tmp 33) (.tmp 40) rfl (.slice none 0 0) [] dd (by first | rfl | simp [Act.eval, Act.put]) (by exact Owns.nil _) ad 38 bc (by first | rfl | simp [Act.eval, Act.put]) HML.out (by exact HSRC.out _ (by first | exact hawA.drew | exact hawA)) (by simp only [List.length_nil]; omega) ?_; intro v' w2 hown2 hgr hmov; have hown3 : Owns w2 v' dd := (by simpa using hown2); obtain ⟨a3, cap3, rfl, _⟩ := hown3.row (by rw [HML.out]; omega) HDB.out; have hawB : Away [] w1 w2 := ((Away.refl [] w1).drew).grown hgr (by simp [Value.ownBlock]); have z1 := hawB.cell (by simp) g1; have z2 := hawB.cell (by simp) c1'; have zf := free_of_block (hawB.keep (by simp) HBK.out) 1))
          all_goals
            have hnew3 : New w1.heap.size (.slice a3 dd.length cap3) := fun j hj => by
              rcases hmov j hj with h | h
              · simp [Value.ownBlock] at h
              · exact h
            clear hmov hown2 hgr
            have hblk3 : (w2.setCell ⟨g, 1, none⟩ (.slice a3 dd.length cap3)).heap[g]? = some (.cells #[.int .i64 (1 + r), (.slice a3 dd.length cap3)] 38 (0, 0)) := by
              rw [block_set (hawB.keep (by simp) HBK.out)]; rfl
            have hawC : Away [g] w2 (w2.setCell ⟨g, 1, none⟩ (.slice a3 dd.length cap3)) := (Away.refl [g] w2).setCell (.inl (by simp)) _
            have hmade3 : Made (w2.setCell ⟨g, 1, none⟩ (.slice a3 dd.length cap3)) w.heap.size u3 xs := ((hmade.on hawA).on hawB).away hawC (fun j hj => by have := HM1.out.1 j hj; simp; omega) (fun x hx j hj => by have := HM1.out.2 x hx j hj; simp; omega)
            have hown4 : Owns (w2.setCell ⟨g, 1, none⟩ (.slice a3 dd.length cap3)) (.slice a3 dd.length cap3) dd := hown3.away hawC (fun j hj => by have := hnew3 j hj; simp; omega)
            have haw3 : Away [] w (w2.setCell ⟨g, 1, none⟩ (.slice a3 dd.length cap3)) := ((haw.next hawA (by simp)).next hawB (by simp)).next hawC (fun x hx => .inr (by simp at hx; omega))
            generalize w2.setCell ⟨g, 1, none⟩ (.slice a3 dd.length cap3) = w3 at *
            have y0 : w3.cell? ⟨g, 0, none⟩ = some (.int .i64 (1 + r)) := by rw [cell_of_block hblk3]; rfl
            have y1 : w3.cell? ⟨g, 1, none⟩ = some (.slice a3 dd.length cap3) := by rw [cell_of_block hblk3]; rfl
            have hg3 : g < w3.heap.size := lt_of_block hblk3
            have HM3 : Hid (Made w3 w.heap.size u3 xs) := hmade3
            clear hawB hawC hown3 haw hmade hawA hblk3 g0 g1 f1 c1' hmade3 z1 z2 zf
            by_cases hbig : 40 < T + 1 + 38 + 1
            · go_wp2_with fail
              go_ret
              exact ⟨_, xs, rfl, HM3.out, HA.out, by rw [← HT.out]; exact hT40, haw3⟩
            · go_wp2_with (at_builtin; refine wpList_app2 rfl _ _ rfl _ xs.length (xs.flatMap V.cells) rfl (by exact HM3.out.lst.away ((Away.refl [] _).alloc _) (by simp)) ⟨_, 0, none⟩ 1 rfl (.int .i64 (1 + r)) (.slice a3 dd.length cap3) (by rw [World.cell?_alloc_at (hn := rfl)]; rfl) (by rw [add_plain, World.cell?_alloc_at (hn := rfl)]; rfl) rfl rfl (by omega) ?_)
              intro v' w4 hown5 hgr hmov
              have hm1 := HM3.out.on ((Away.refl [] _).alloc (.cells #[.int .i64 (1 + r), (.slice a3 dd.length cap3)] 38))
              have hm2 := hm1.snoc (x := ⟨1 + r, a3, cap3, dd⟩) (by simp; have := haw3.size; omega) hgr hmov (Lst.snoc hown5) (by unfold I64; simp only; omega) (by exact hown4.away ((Away.refl [] _).alloc _) (by simp)) HDB.out (by have := HML.out; simp only; omega) (by exact hnew3.mono (by omega)) (fun j hj => ⟨fun e => by
                  have h1 := hnew3 j hj
                  have h2 := HM1.out.1 j e
                  omega, fun z hz e => by
                  have h1 := hnew3 j hj
                  have h2 := HM1.out.2 z hz j e
                  omega⟩)
              have haw4 : Away [] w w4 := (haw3.alloc _).grown hgr (fun k hk => .inr (HM3.out.new k hk))
              clear hgr hmov hm1 hown5 hown4
              go_wp2_with fail
              go_roundw
              case rel => exact ⟨k + 1, T + 1 + 38 + 1, xs ++ [⟨1 + r, a3, cap3, dd⟩], by omega, by go_num, by go_num, by rw [tot_snoc, ← HT.out]; simp only [V.o]; have := HE.out; omega, by omega, hm2, fun y hy => (List.mem_append.1 hy).elim (HA.out y) (fun h => by simp at h; subst h; exact hright.out), haw4⟩
              case measure => simp [intOf]; omega
    · go_wp2_with fail
      go_ret
      exact ⟨_, xs, rfl, hmade, HA.out, by rw [← HT.out]; exact hT40, haw⟩
#print axioms fitting_c
end Go.Proofs.YtokhmlpajfhbpaaDoor
