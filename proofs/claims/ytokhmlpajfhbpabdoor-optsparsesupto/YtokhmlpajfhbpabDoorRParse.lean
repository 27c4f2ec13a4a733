/-
  The document's Parse.
-/
import Derived.Test.YtokhmlpajfhbpabDoorRef
namespace Go.Proofs.YtokhmlpajfhbpabDoor
open Go.ChangeShapes Go.WideShapes Go.ChangeAt Go.RowKit Go.Deep
set_option linter.unusedVariables false
set_option maxRecDepth 100000

def lenV : Value → Nat
  | .slice _ n _ => n
  | _ => 0
theorem rest_none {l r : List Int} {os : List O} (hp : parseP l = (parseP r).map (os ++ ·)) (h : parseP r = none) : parseP l = none := by rw [hp, h]; rfl
theorem firstP_sized {k y : Int} {s : List Int} (h0 : k ≠ 0) (h1 : k ≠ 1) : firstP (k :: y :: s) = if 2 ≤ y ∧ y.toNat ≤ s.length + 2 then y else -1 := by
  simp only [firstP, h0, h1, if_false]
theorem first_bad {r : List Int} (hb : Bytes r) (h : firstP r < 0) : parseP r = none := by
  match r, hb, h with
  | [], _, h => simp [firstP] at h
  | k :: r, hb, h =>
    by_cases h0 : k = 0
    · subst h0
      by_cases hz : zerosP (0 :: r) = true
      · simp [firstP, hz] at h
      · rw [parseP_zero, if_neg]
        intro h2; exact hz (by rw [zerosP_cons, h2]; rfl)
    · by_cases h1 : k = 1
      · subst h1; simp [firstP] at h
      · match r, hb, h with
        | [], _, _ => exact parseP_lone k h0 h1
        | y :: s, hb, h =>
          rw [parseP_sized _ _ _ h0 h1]
          by_cases hc : 2 ≤ y ∧ y.toNat ≤ s.length + 2
          · have := hb.tail.head
            rw [firstP_sized h0 h1, if_pos hc] at h
            omega
          · rw [if_neg hc]
theorem first_end {r : List Int} (hb : Bytes r) (h : firstP r = 0) : parseP r = some [] := by
  match r, hb, h with
  | [], _, h => exact parseP_nil
  | k :: r, hb, h =>
    by_cases h0 : k = 0
    · subst h0
      by_cases hz : zerosP (0 :: r) = true
      · rw [parseP_zero, if_pos]
        simpa [zerosP_cons] using hz
      · simp [firstP, hz] at h
    · by_cases h1 : k = 1
      · subst h1; simp [firstP] at h
      · match r, hb, h with
        | [], _, h => simp [firstP, h0, h1] at h
        | y :: s, hb, h =>
          by_cases hc : 2 ≤ y ∧ y.toNat ≤ s.length + 2
          · rw [firstP_sized h0 h1, if_pos hc] at h; omega
          · rw [firstP_sized h0 h1, if_neg hc] at h; omega
/-- Where there is a first option: it, and what is behind it. -/
theorem first_opt {r : List Int} (hb : Bytes r) (h : 0 < firstP r) : ∃ (k : Int) (d : List Int) (N : Nat), firstP r = N ∧ 1 ≤ N ∧ N ≤ r.length ∧ r[0]?.getD 0 = k ∧ 0 ≤ k ∧ k ≤ 255 ∧ d = (r.drop 2).take (N - 2) ∧ d.length = N - 2 ∧ parseP r = (parseP (r.drop N)).map ((k, d) :: ·) := by
  match r, hb, h with
  | [], _, h => simp [firstP] at h
  | k :: r, hb, h =>
    have hk := hb.head
    by_cases h0 : k = 0
    · subst h0
      by_cases hz : zerosP (0 :: r) = true
      · simp [firstP, hz] at h
      · simp [firstP, hz] at h
    · by_cases h1 : k = 1
      · subst h1
        exact ⟨1, [], 1, by simp [firstP], by omega, by simp, rfl, by omega, by omega, by simp, rfl, by rw [parseP_one]; rfl⟩
      · match r, hb, h with
        | [], _, h => simp [firstP, h0, h1] at h
        | y :: s, hb, h =>
          have hy := hb.tail.head
          by_cases hc : 2 ≤ y ∧ y.toNat ≤ s.length + 2
          · have e : firstP (k :: y :: s) = y := by rw [firstP_sized h0 h1, if_pos hc]
            refine ⟨k, s.take (y.toNat - 2), y.toNat, by rw [e]; omega, by omega, by simp; omega, rfl, hk.1, hk.2, rfl, by simp; omega, ?_⟩
            rw [parseP_sized _ _ _ h0 h1, if_pos hc]
            obtain ⟨m, hm⟩ : ∃ m, y.toNat = m + 2 := ⟨y.toNat - 2, by omega⟩
            rw [hm]; rfl
          · rw [firstP_sized h0 h1, if_neg hc] at h; omega
set_option maxHeartbeats 4000000 in
theorem rparse_c (a : Option Addr) (l : List Int) (n cap : Nat) (w : World) (hn : l.length = n) (hcap : n ≤ cap) (hsz : n ≤ 4398046511104) (hr : Row w a l) :
    Calls Tryd.prog 5 #[.slice a n cap] w fun E w' => ParseOut w l E w' := by
  subst hn
  have hlen := hr.1
  have hlb := hr.2.1
  go_enter Tryd.func5, Tryd.ntmps5
  go_wp2_with fail
  go_loopw [0, 4] (fun v u wr => ∃ (A : Option Addr) (r : List Int) (c : Nat) (xs : List V), v = .slice A r.length c ∧ r.length ≤ c ∧ Row w A r ∧ Made wr w.heap.size u xs ∧ xs.length + r.length ≤ l.length ∧ Away [] w wr ∧ parseP l = (parseP r).map (xs.map V.o ++ ·)) (fun v _ _ => lenV v)
  case atStart => exact ⟨a, l, cap, [], rfl, hcap, hr, Made.nil _ _, by simp, Away.refl _ _, by simp⟩
  case round =>
    obtain ⟨A, r, c, xs, rfl, hrc, hrow, hmade, hxk, haw, hp⟩ := hrel
    have HP : Hid (parseP l = (parseP r).map (xs.map V.o ++ ·)) := hp
    have hsw := haw.size
    have hrb := hrow.2.1
    have HR : Hid (Row w A r) := hrow
    have HRr : Hid (Row wr A r) := hrow.away haw (by simp)
    clear hp hrow hr
    go_wp2_with fail
    refine (first_c A r _ _ _ rfl (by exact HRr.out)).mono ?_
    rintro E w' ⟨rfl, rfl⟩
    by_cases hneg : firstP r < 0
    · have hP := first_bad hrb hneg
      have HPP : Hid (parseP r = none) := hP
      clear hP
      generalize firstP r = f at *
      go_wp2_with fail
      go_ret2
      exact ⟨haw, .inl ⟨rest_none HP.out HPP.out, rfl⟩⟩
    by_cases hz : firstP r = 0
    · have hP := first_end hrb hz
      have HPP : Hid (parseP r = some []) := hP
      clear hP
      rw [hz]
      go_wp2_with fail
      go_ret2
      exact ⟨haw, .inr ⟨_, xs, by rw [HP.out, HPP.out]; simp, rfl, hmade, by omega⟩⟩
    obtain ⟨k, d, N, hN, hN1, hNr, hk0, hk1, hk2, hd, hdl, hP⟩ := first_opt hrb (by omega)
    rw [hN]
    obtain ⟨b, off, rfl, c0⟩ := cells_row HRr.out (k := 0) (by omega)
    rw [hk0] at c0
    have c0 : w'.cell? ⟨b, off, none⟩ = some (.int .u8 k) := by simpa using c0
    have HPP : Hid (parseP r = (parseP (r.drop N)).map ((k, d) :: ·)) := hP
    have hdb : Bytes d := by rw [hd]; exact (hrb.drop 2).take _
    have HT : Hid (Row w (if c = N then some ⟨b, off, none⟩ else (some (⟨b, off, none⟩ : Addr)).map (·.add N)) (r.drop N)) := HR.out.tail N c hrc hNr
    generalize hA : (if c = N then some ⟨b, off, none⟩ else (some (⟨b, off, none⟩ : Addr)).map (·.add N)) = A2 at *
    have hsl := slice_l (some ⟨b, off, none⟩) A2 r.length c N N hA.symm rfl hNr
    have hrl : (r.drop N).length = r.length - N := by simp
    have HRL : Hid ((r.drop N).length = r.length - N) := hrl
    have HDL : Hid (d.length = N - 2) := hdl
    clear hP hA hrl hN hneg hz hk0 hdl
    by_cases h2 : 2 < N
    · obtain ⟨D, hD⟩ : ∃ D, (if c = 2 then some ⟨b, off, none⟩ else (some (⟨b, off, none⟩ : Addr)).map (·.add 2)) = some D := by
        split
        · exact ⟨_, rfl⟩
        · exact ⟨_, rfl⟩
      have HDR : Hid (Row w' (some D) d) := by
        show Row _ _ _
        rw [hd, ← hD]
        exact HRr.out.sub 2 (N - 2) c hrc (by omega)
      have hsl2 := slice_lh (some ⟨b, off, none⟩) (some D) r.length c 2 (N - 2) 2 N hD.symm rfl (by omega) (by omega)
      clear hD hd
      go_wp2_with fail
      have hblk1 : (w'.alloc (.cells #[.int .i64 k, .slice none 0 0] 34)).heap[w'.heap.size]? = some (.cells #[.int .i64 k, .slice none 0 0] 34 (0, 0)) := block_new _ _
      have hawA : Away [] w' (w'.alloc (.cells #[.int .i64 k, .slice none 0 0] 34)) := (Away.refl [] _).alloc _
      have hgl : w'.heap.size < (w'.alloc (.cells #[.int .i64 k, .slice none 0 0] 34)).heap.size := by simp
      have hmlt : ∀ k, u4.ownBlock = some k → k < w'.heap.size := hmade.lst.lt
      have hmlt2 : ∀ x ∈ xs, ∀ k, x.sl.ownBlock = some k → k < w'.heap.size := fun x hx => (hmade.each x hx).2.1.lt
      generalize w'.alloc (.cells #[.int .i64 k, .slice none 0 0] 34) = w1 at *
      generalize hg : w'.heap.size = g at *
      have g0 : w1.cell? ⟨g, 0, none⟩ = some (.int .i64 k) := by rw [cell_of_block hblk1]; rfl
      have g1 : w1.cell? ⟨g, 1, none⟩ = some (.slice none 0 0) := by rw [cell_of_block hblk1]; rfl
      have f1 := free_of_block hblk1 1
      have HD1 : Hid (Row w1 (some D) d) := HDR.out.away hawA (by simp)
      have HBK : Hid (w1.heap[g]? = some (.cells #[.int .i64 k, .slice none 0 0] 34 (0, 0))) := hblk1
      have HM1 : Hid ((∀ k, u4.ownBlock = some k → k < g) ∧ ∀ x ∈ xs, ∀ k, x.sl.ownBlock = some k → k < g) := ⟨hmlt, hmlt2⟩
      have hd63 := HDR.out.1
      clear c0 hblk1 hmlt hmlt2
      go_region_law ((refine step_app rfl (.tmp 22) (.tmp 25) rfl (.slice none 0 0) [] d (by first | rfl | simp [Act.eval, Act.put]) (by exact Owns.nil _) D (N - 2) (c - 2) (by first | rfl | simp [Act.eval, Act.put]) HDL.out (by exact HD1.out.src) (by simp only [List.length_nil]; omega) ?_; intro v' w2 hown2 hgr hmov; have hown3 : Owns w2 v' d := (by simpa using hown2); obtain ⟨a3, cap3, rfl, _⟩ := hown3.row hd63 hdb; have hawB : Away [] w1 w2 := ((Away.refl [] w1).drew).grown hgr (by simp [Value.ownBlock]); have z1 := hawB.cell (by simp) g1; have zf := free_of_block (hawB.keep (by simp) HBK.out) 1))
      all_goals
        have hnew3 : New w1.heap.size (.slice a3 d.length cap3) := fun j hj => by
          rcases hmov j hj with h | h
          · simp [Value.ownBlock] at h
          · exact h
        clear hmov hown2 hgr
        have hblk3 : (w2.setCell ⟨g, 1, none⟩ (.slice a3 d.length cap3)).heap[g]? = some (.cells #[.int .i64 k, (.slice a3 d.length cap3)] 34 (0, 0)) := by
          rw [block_set (hawB.keep (by simp) HBK.out)]; rfl
        have hawC : Away [g] w2 (w2.setCell ⟨g, 1, none⟩ (.slice a3 d.length cap3)) := (Away.refl [g] w2).setCell (.inl (by simp)) _
        have hmade3 : Made (w2.setCell ⟨g, 1, none⟩ (.slice a3 d.length cap3)) w.heap.size u4 xs := ((hmade.on hawA).on hawB).away hawC (fun j hj => by have := HM1.out.1 j hj; simp; omega) (fun x hx j hj => by have := HM1.out.2 x hx j hj; simp; omega)
        have hown4 : Owns (w2.setCell ⟨g, 1, none⟩ (.slice a3 d.length cap3)) (.slice a3 d.length cap3) d := hown3.away hawC (fun j hj => by have := hnew3 j hj; simp; omega)
        have haw3 : Away [] w (w2.setCell ⟨g, 1, none⟩ (.slice a3 d.length cap3)) := ((haw.next hawA (by simp)).next hawB (by simp)).next hawC (fun x hx => .inr (by simp at hx; omega))
        generalize w2.setCell ⟨g, 1, none⟩ (.slice a3 d.length cap3) = w3 at *
        have y0 : w3.cell? ⟨g, 0, none⟩ = some (.int .i64 k) := by rw [cell_of_block hblk3]; rfl
        have y1 : w3.cell? ⟨g, 1, none⟩ = some (.slice a3 d.length cap3) := by rw [cell_of_block hblk3]; rfl
        have hg3 : g < w3.heap.size := lt_of_block hblk3
        have HM3 : Hid (Made w3 w.heap.size u4 xs) := hmade3
        clear hawB hawC hown3 haw hmade hawA hblk3 g0 g1 f1 hmade3 z1 zf
        go_wp2_with (at_builtin; refine wpList_app2 rfl _ _ rfl _ xs.length (xs.flatMap V.cells) rfl (by exact HM3.out.lst.away ((Away.refl [] _).alloc _) (by simp)) ⟨_, 0, none⟩ 1 rfl (.int .i64 k) (.slice a3 d.length cap3) (by rw [World.cell?_alloc_at (hn := rfl)]; rfl) (by rw [add_plain, World.cell?_alloc_at (hn := rfl)]; rfl) rfl rfl (by omega) ?_)
        intro v' w4 hown5 hgr hmov
        have hm1 := HM3.out.on ((Away.refl [] _).alloc (.cells #[.int .i64 k, (.slice a3 d.length cap3)] 34))
        have hm2 := hm1.snoc (x := ⟨k, a3, cap3, d⟩) (by simp; have := haw3.size; omega) hgr hmov (Lst.snoc hown5) (by unfold I64; simp only; omega) (by exact hown4.away ((Away.refl [] _).alloc _) (by simp)) hdb hd63 (by exact hnew3.mono (by omega)) (fun j hj => ⟨fun e => by
            have h1 := hnew3 j hj
            have h2 := HM1.out.1 j e
            omega, fun z hz e => by
            have h1 := hnew3 j hj
            have h2 := HM1.out.2 z hz j e
            omega⟩)
        have haw4 : Away [] w w4 := (haw3.alloc _).grown hgr (fun k hk => .inr (HM3.out.new k hk))
        clear hgr hmov hm1 hown5 hown4
        go_wp2_with fail
        go_roundw
        case rel => exact ⟨A2, r.drop N, c - N, xs ++ [⟨k, a3, cap3, d⟩], by rw [HRL.out], by rw [HRL.out]; omega, HT.out, hm2, by rw [HRL.out]; simp; omega, haw4, by rw [HP.out, HPP.out]; cases parseP (r.drop N) <;> simp [V.o]⟩
        case measure => simp [lenV]; omega
    · have hd0 : d = [] := List.eq_nil_of_length_eq_zero (by have := HDL.out; omega)
      subst hd0
      clear hd hdb
      go_wp2_with (at_builtin; refine wpList_app2 rfl _ _ rfl _ xs.length (xs.flatMap V.cells) rfl (by exact ((hmade.lst.away ((Away.refl [] _).alloc _) (by simp)).away ((Away.refl [] _).alloc _) (by simp))) ⟨_, 0, none⟩ 1 rfl (.int .i64 k) (.slice none 0 0) (by rw [World.cell?_alloc_at (hn := by simp)]; rfl) (by rw [add_plain, World.cell?_alloc_at (hn := by simp)]; rfl) rfl rfl (by omega) ?_)
      intro v' w2 hown2 hgr hmov
      have hm1 := (hmade.on ((Away.refl [] _).alloc (.cells #[.int .i64 k, .slice none 0 0] 34))).on ((Away.refl [] _).alloc (.cells #[.int .i64 k, .slice none 0 0] 34))
      have hm2 := hm1.snoc (x := ⟨k, none, 0, []⟩) (by simp; omega) hgr hmov (Lst.snoc hown2) (by unfold I64; simp only; omega) (Owns.nil _) Bytes.nil (by simp) (New.nil _) (by simp [V.sl, Value.ownBlock])
      have haw2 : Away [] w w2 := ((haw.alloc _).alloc _).grown hgr (fun k hk => .inr (hmade.new k hk))
      clear hgr hmov hm1 hown2 hmade haw
      go_wp2_with fail
      go_roundw
      case rel => exact ⟨A2, r.drop N, c - N, xs ++ [⟨k, none, 0, []⟩], by rw [HRL.out], by rw [HRL.out]; omega, HT.out, hm2, by rw [HRL.out]; simp; omega, haw2, by rw [HP.out, HPP.out]; cases parseP (r.drop N) <;> simp [V.o]⟩
      case measure => simp [lenV]; omega
#print axioms rparse_c
end Go.Proofs.YtokhmlpajfhbpabDoor
