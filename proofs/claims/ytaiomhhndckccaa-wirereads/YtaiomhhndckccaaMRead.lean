/-
  The contracts of the document's reader.
-/
import Derived.Test.YtaiomhhndckccaaKit
import Derived.Deep.RegionHeld3
import Derived.Deep.RegionLaw
namespace Go.Proofs.Ytaiomhhndckccaa
open Go.ChangeShapes Go.WideShapes Go.ChangeAt Go.RowKit
set_option linter.unusedVariables false

/-- The document's reader at block g: what is left, the error. -/
def Mr (w : World) (g : Nat) (v : Value) (l : List Int) (e : Int) : Prop :=
  ∃ (all : List Int) (n : Nat), w.heap[g]? = some (.cells #[v, .int .i64 n, .int .i64 e] 84 (0, 0)) ∧ n ≤ all.length ∧ l = all.drop n ∧ Owns w v all ∧ (∀ k, v.ownBlock = some k → k ≠ g) ∧ Bytes all ∧ all.length ≤ 140737488355328
theorem Mr.away {S : List Nat} {w w' : World} {g : Nat} {v : Value} {l : List Int} {e : Int} (h : Mr w g v l e) (hw : Away S w w') (hg : g ∉ S) (hv : ∀ k, v.ownBlock = some k → k ∉ S) : Mr w' g v l e := by
  obtain ⟨all, n, h1, h2, h3, h4, h5⟩ := h
  exact ⟨all, n, hw.keep hg h1, h2, h3, h4.away hw hv, h5⟩
theorem Mr.lt {w : World} {g : Nat} {v : Value} {l : List Int} {e : Int} (h : Mr w g v l e) : g < w.heap.size ∧ ∀ k, v.ownBlock = some k → k < w.heap.size := by
  obtain ⟨all, n, h1, h2, h3, h4, h5⟩ := h
  exact ⟨lt_of_block h1, h4.lt⟩
theorem Mr.bytes {w : World} {g : Nat} {v : Value} {l : List Int} {e : Int} (h : Mr w g v l e) : Bytes l ∧ l.length ≤ 140737488355328 := by
  obtain ⟨all, n, h1, h2, h3, h4, h5, h6, h7⟩ := h
  subst h3
  exact ⟨h6.drop n, by simp; omega⟩
theorem Mr.drewN {w : World} {g : Nat} {v : Value} {l : List Int} {e : Int} (h : Mr w g v l e) (n : Nat) : Mr (w.drewN n) g v l e := h

set_option maxHeartbeats 400000 in
theorem mleft_any (w : World) (g : Nat) (v : Value) (l : List Int) (e : Int) (h : Mr w g v l e) :
    Calls Try.prog 45 #[.pointer (some ⟨g, 0, none⟩)] w fun E w' => E = .returned (.int .i64 l.length) ∧ ∃ n, w' = w.drewN n := by
  obtain ⟨all, n, hb, hn, rfl, hown, hne, hby, hl⟩ := h
  obtain ⟨a, cap, rfl, hcap, _⟩ := hown.row hl hby
  have c0 : w.cell? ⟨g, 0, none⟩ = some (.slice a all.length cap) := by rw [cell_of_block hb]; rfl
  have c1 : w.cell? ⟨g, 1, none⟩ = some (.int .i64 n) := by rw [cell_of_block hb]; rfl
  rw [List.length_drop, show ((all.length - n : Nat) : Int) = (all.length : Int) - n from by omega]
  generalize all.length = N at *
  clear hb hown hby
  go_enter Try.func45, Try.ntmps45
  go_wp2_with fail
  go_quiet (fail)
  go_wp2_with fail
  go_ret
  exact ⟨rfl, _, rfl⟩
theorem mcode (w : World) (g : Nat) (v : Value) (l : List Int) (e : Int) (h : Mr w g v l e) : w.cell? ⟨g, 2, none⟩ = some (.int .i64 e) := by
  obtain ⟨all, n, hb, _⟩ := h
  rw [cell_of_block hb]; rfl
set_option maxHeartbeats 400000 in
theorem mend_any (w : World) (g : Nat) (v : Value) (l : List Int) (e : Int) (h : Mr w g v l e) :
    Calls Try.prog 44 #[.pointer (some ⟨g, 0, none⟩)] w fun E w' => E = .returned (.int .i64 (rdEnd l e)) ∧ ∃ n, w' = w.drewN n := by
  have c2 := mcode w g v l e h
  unfold rdEnd
  by_cases he : e = 0
  · subst he
    by_cases hl : 0 < l.length
    · rw [if_pos ⟨rfl, hl⟩]
      go_enter Try.func44, Try.ntmps44
      go_wp2_with fail
      refine (mleft_any _ g v l 0 (by exact h)).mono ?_
      rintro E w' ⟨rfl, n, rfl⟩
      go_wp2_with fail
      go_ret
      exact ⟨rfl, _, rfl⟩
    · rw [if_neg (by omega)]
      have hl' : ¬ (0 : Int) < (l.length : Int) := by omega
      go_enter Try.func44, Try.ntmps44
      go_wp2_with fail
      refine (mleft_any _ g v l 0 (by exact h)).mono ?_
      rintro E w' ⟨rfl, n, rfl⟩
      go_wp2_with fail
      go_ret
      exact ⟨rfl, _, rfl⟩
  · rw [if_neg (by omega)]
    have b1 : (e == 0) = false := by simp [he]
    go_enter Try.func44, Try.ntmps44
    go_wp2_with fail
    go_ret
    exact ⟨rfl, 0, rfl⟩

/-- What the document's Bytes did. -/
def MGave (w : World) (g : Nat) (v : Value) (m l : List Int) (e : Int) (E : Ending) (w' : World) : Prop :=
  ∃ u, E = .returned u ∧ Owns w' u m ∧ New w.heap.size u ∧ Mr w' g v l e ∧ Away [g] w w' ∧ Bytes m ∧ m.length ≤ 140737488355328
/-- In its loop: k bytes are copied. -/
structure Mid (w wr : World) (g : Nat) (v u : Value) (all : List Int) (n k : Nat) : Prop where
  aw : Away [g] w wr
  blk : wr.heap[g]? = some (.cells #[v, .int .i64 ((n + k : Nat) : Int), .int .i64 0] 84 (0, 0))
  own : Owns wr u ((all.drop n).take k)
  new : New w.heap.size u

set_option maxRecDepth 100000 in
set_option maxHeartbeats 1000000 in
theorem mbytes_any (w : World) (g : Nat) (v : Value) (l : List Int) (e q : Int) (h : Mr w g v l e) :
    Calls Try.prog 43 #[.pointer (some ⟨g, 0, none⟩), .int .i64 q] w fun E w' => MGave w g v (rdOut l e q) (rdRest l e q) (rdErr l e q) E w' := by
  have hbl := h.bytes
  have H := h
  obtain ⟨all, n, hb, hn, rfl, hown, hne, hby, hl⟩ := h
  have c2 : w.cell? ⟨g, 2, none⟩ = some (.int .i64 e) := by rw [cell_of_block hb]; rfl
  have f2 := free_of_block hb 2
  have HB : Hid (w.heap[g]? = some (.cells #[v, .int .i64 n, .int .i64 e] 84 (0, 0))) := hb
  clear hb
  by_cases he : e = 0
  · subst he
    by_cases hneg : q < 0
    · have e1 : rdOut (all.drop n) 0 q = [] := by unfold rdOut; rw [if_neg (by omega)]
      have e2 : rdRest (all.drop n) 0 q = all.drop n := by unfold rdRest; rw [if_neg (by omega)]
      have e3 : rdErr (all.drop n) 0 q = 1 := by unfold rdErr; rw [if_pos rfl, if_pos hneg]
      rw [e1, e2, e3]
      clear e1 e2 e3
      go_enter Try.func43, Try.ntmps43
      go_wp2_with fail
      go_ret
      have haw : Away [g] w (w.setCell ⟨g, 2, none⟩ (.int .i64 1)) := (Away.refl [g] w).setCell (.inl (by simp)) _
      exact ⟨_, rfl, Owns.nil _, New.nil _, ⟨all, n, by rw [block_set HB.out]; rfl, hn, rfl, hown.away haw (fun k hk => by simpa using hne k hk), hne, hby, hl⟩, haw, Bytes.nil, by simp⟩
    · by_cases hbig : ((all.drop n).length : Int) < q
      · have e1 : rdOut (all.drop n) 0 q = [] := by unfold rdOut; rw [if_neg (by omega)]
        have e2 : rdRest (all.drop n) 0 q = all.drop n := by unfold rdRest; rw [if_neg (by omega)]
        have e3 : rdErr (all.drop n) 0 q = 20 := by unfold rdErr; rw [if_pos rfl, if_neg hneg, if_neg (by omega)]
        rw [e1, e2, e3]
        clear e1 e2 e3
        generalize hL : (all.drop n).length = L at *
        have HL : Hid ((all.drop n).length = L) := hL
        clear hL
        go_enter Try.func43, Try.ntmps43
        go_wp2_with fail
        refine (mleft_any _ g v _ 0 (by exact H)).mono ?_
        rintro E w' ⟨rfl, m, rfl⟩
        rw [HL.out]
        go_wp2_with fail
        go_ret
        have haw : Away [g] w ((w.drewN m).setCell ⟨g, 2, none⟩ (.int .i64 20)) := ((Away.refl [g] w).drewN m).setCell (.inl (by simp)) _
        exact ⟨_, rfl, Owns.nil _, New.nil _, ⟨all, n, by rw [block_set (w := w.drewN m) HB.out]; rfl, hn, rfl, hown.away haw (fun k hk => by simpa using hne k hk), hne, hby, hl⟩, haw, Bytes.nil, by simp⟩
      · obtain ⟨t, rfl⟩ := Int.eq_ofNat_of_zero_le (show 0 ≤ q by omega)
        have ht : t ≤ (all.drop n).length := by omega
        have e1 : rdOut (all.drop n) 0 t = (all.drop n).take t := by unfold rdOut; rw [if_pos (by omega), Int.toNat_natCast]
        have e2 : rdRest (all.drop n) 0 t = all.drop (n + t) := by unfold rdRest; rw [if_pos (by omega), Int.toNat_natCast, List.drop_drop]
        have e3 : rdErr (all.drop n) 0 t = 0 := by unfold rdErr; rw [if_pos rfl, if_neg hneg, if_pos (by omega)]
        rw [e1, e2, e3]
        clear e1 e2 e3
        have hnt : n + t ≤ all.length := by simp at ht; omega
        generalize hL : (all.drop n).length = L at *
        have HL : Hid ((all.drop n).length = L) := hL
        clear hL
        have hbig' : decide ((L : Int) < (t : Int)) = false := by simp; omega
        have hbig2 : decide (L < t) = false := by simp; omega
        have hneg' : decide ((t : Int) < 0) = false := by simp
        go_enter Try.func43, Try.ntmps43
        go_wp2_with fail
        refine (mleft_any _ g v _ 0 (by exact H)).mono ?_
        rintro E w' ⟨rfl, m, rfl⟩
        rw [HL.out]
        have hst : Mid w (w.drewN m) g v (.slice none 0 0) all n 0 := ⟨(Away.refl [g] w).drewN m, HB.out, Owns.nil _, New.nil _⟩
        go_wp2_with fail
        go_loopw [5, 6] (fun u i wr => ∃ k : Nat, k ≤ t ∧ i = .int .i64 k ∧ Mid w wr g v u all n k) (fun _ i _ => t - (intOf i).toNat)
        case atStart => exact ⟨0, by omega, rfl, hst⟩
        case round =>
          obtain ⟨k, hk, rfl, aw, blk, own, new⟩ := hrel
          by_cases hlt : k < t
          · have hnk : n + k < all.length := by omega
            obtain ⟨a, cap, hv, hcap, hnone, hrow, hblk, hoff⟩ := (hown.away aw (fun j hj => by simpa using hne j hj)).row hl hby
            subst hv
            rcases hrow.2.2 with h0 | ⟨d, off, rfl, hcell⟩
            · rw [h0] at hnk; simp at hnk
            obtain ⟨_, ho⟩ := hoff _ rfl
            simp only at ho
            subst ho
            have c0 : wr.cell? ⟨g, 0, none⟩ = some (.slice (some ⟨d, 0, none⟩) all.length cap) := by rw [cell_of_block blk]; rfl
            have c1 : wr.cell? ⟨g, 1, none⟩ = some (.int .i64 ((n + k : Nat) : Int)) := by rw [cell_of_block blk]; rfl
            have f1 := free_of_block blk 1
            have cx := hcell (n + k) hnk
            rw [Nat.zero_add] at cx
            have bx := hby.getD (n + k)
            have HS : Hid ((all.drop n).take (k + 1) = (all.drop n).take k ++ [all[n + k]?.getD 0]) := by
              show _ = _
              rw [List.take_succ_eq_append_getElem (by simp; omega), List.getElem_drop, List.getElem?_eq_getElem hnk]; rfl
            have hdl : ((all.drop n).take k).length ≤ 140737488355000 + 328 - 1 := by simp; omega
            have hsz := aw.size
            have HBK : Hid (wr.heap[g]? = some (.cells #[.slice (some ⟨d, 0, none⟩) all.length cap, .int .i64 ((n + k : Nat) : Int), .int .i64 0] 84 (0, 0))) := blk
            have hglt := lt_of_block blk
            have hgu : g ∉ u5.ownBlock.toList := fun hj => by
              have h1 := new g (by simpa using hj)
              have h2 := H.lt.1
              omega
            generalize all[n + k]?.getD 0 = x at *
            generalize (all.drop n).take k = done at *
            have hnk0 : (0 : Int) ≤ ((n + k : Nat) : Int) := by omega
            have hnk1 : ((n + k : Nat) : Int) < (all.length : Int) := by omega
            have hnk2 : ((n + k : Nat) : Int).toNat = n + k := Int.toNat_natCast _
            have hdu : d ∉ u5.ownBlock.toList := fun hj => by
              have h1 := new d (by simpa using hj)
              have h2 := H.lt.2 d rfl
              omega
            generalize hPe : n + k = P at *
            have HP : Hid (n + k = P) := hPe
            clear hPe
            clear hcell hrow blk
            have y0 := World.new_ne wr _ c0
            have y1 := World.new_ne wr _ c1
            have y2 := World.new_ne wr _ cx
            go_wp2_with fail
            go_region_held3 (fun w' => w'.cell? ⟨g, 0, none⟩ = some (.slice (some ⟨d, 0, none⟩) all.length cap) ∧ w'.cell? ⟨g, 1, none⟩ = some (.int .i64 (P : Int)) ∧ w'.cell? ⟨d, P, none⟩ = some (.int .u8 x)) (go_keep)
              ((refine step_app rfl (.tmp 29) (.tmp 40) rfl u5 done [x] (by simp [Act.eval]) (by exact own.away (((Away.refl [] _).alloc _).drew) (by simp)) ⟨wr.heap.size, 0, none⟩ 1 1 (by simp [Act.eval]) rfl (by exact lit_cells _ [x] _ rfl) (by omega) ?_; intro u' w2 hown2 hgr hmov; have haw2 : Away u5.ownBlock.toList wr w2 := (((Away.refl _ wr).alloc _).drew).grown hgr (fun k hk => .inl (by simp [hk])); have z0 := haw2.cell hgu c0; have z1 := haw2.cell hgu c1; have z2 := haw2.cell hdu cx))
            have hblk2 := haw2.keep hgu HBK.out
            have g1 := free_of_block hblk2 1
            have hnew2 : New w.heap.size u' := new.moved hmov (by simp; omega)
            have haw3 : Away [g] w w2 := ((aw.alloc _).drew).grown hgr (fun k hk => .inr (new k hk))
            clear hgr hmov haw2
            go_wp2_with fail
            go_roundw
            case rel =>
              refine ⟨k + 1, by omega, by go_num, haw3.setCell (.inl (by simp)) _, ?_, ?_, hnew2⟩
              · rw [block_set hblk2, show n + (k + 1) = P + 1 from by have := HP.out; omega]; simp
              · rw [HS.out]
                exact hown2.away (S := [g]) ((Away.refl [g] w2).setCell (.inl (by simp)) _) (fun j hj => by have h1 := hnew2 j hj; have h2 := H.lt.1; simp; omega)
            case measure => simp [intOf]; omega
          · obtain rfl : k = t := by omega
            go_wp2_with fail
            go_ret
            exact ⟨_, rfl, own, new, ⟨all, n + k, blk, hnt, rfl, hown.away aw (fun j hj => by simpa using hne j hj), hne, hby, hl⟩, aw, (hby.drop n).take k, by simp; omega⟩
  · have e1 : rdOut (all.drop n) e q = [] := by unfold rdOut; rw [if_neg (by omega)]
    have e2 : rdRest (all.drop n) e q = all.drop n := by unfold rdRest; rw [if_neg (by omega)]
    have e3 : rdErr (all.drop n) e q = e := by unfold rdErr; rw [if_neg he]
    rw [e1, e2, e3]
    clear e1 e2 e3
    have b1 : (e == 0) = false := by simp [he]
    have b2 : (e != 0) = true := by simp [he]
    go_enter Try.func43, Try.ntmps43
    go_wp2_with fail
    go_ret
    exact ⟨_, rfl, Owns.nil _, New.nil _, H, Away.refl _ _, Bytes.nil, by simp⟩
end Go.Proofs.Ytaiomhhndckccaa
