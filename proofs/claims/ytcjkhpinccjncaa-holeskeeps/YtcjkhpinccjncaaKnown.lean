/-
  What lies beside a list; the laws' own known.
-/
import Derived.Test.YtcjkhpinccjncaaHlp
namespace Go.Proofs.Ytcjkhpinccjncaa
open Go.ChangeShapes Go.WideShapes Go.ChangeAt Go.RowKit
set_option linter.unusedVariables false
set_option linter.unusedSimpArgs false

/-- A slice that lies apart from a hole list. -/
def Beside (x : Value) (g : Nat) (v : Value) : Prop := ∀ k, x.ownBlock = some k → k ≠ g ∧ v.ownBlock ≠ some k
theorem Beside.nil (g : Nat) (v : Value) : Beside (.slice none 0 0) g v := by simp [Beside, Value.ownBlock]
theorem Beside.of_new {w : World} {x : Value} {g : Nat} {v : Value} (h : New w.heap.size x) (hg : g < w.heap.size) (hv : ∀ k, v.ownBlock = some k → k < w.heap.size) : Beside x g v := fun k hk => by
  have := h k hk
  exact ⟨by omega, fun hc => by have := hv k hc; omega⟩
theorem Hl.lt {w : World} {g : Nat} {v : Value} {m : List Sp} {e : Int} (h : Hl w g v m e) : g < w.heap.size := lt_of_block h.blk
theorem Took.self {w w' : World} {g : Nat} {v r v' : Value} {f c : List Sp} {e : Int} (h : Took w w' g v r v' f c e) (hg : g < w.heap.size) : Beside r g v' := fun k hk => ⟨by have := h.new k hk; omega, h.apart k hk⟩
theorem Took.keep {w w' : World} {g : Nat} {v r v' x : Value} {f c l : List Sp} {e : Int} (h : Took w w' g v r v' f c e) (hx : Lst w x l) (ha : Beside x g v) : Lst w' x l ∧ Beside x g v' := by
  refine ⟨hx.away h.aw (fun k hk hc => ?_), fun k hk => ⟨(ha k hk).1, fun hc => ?_⟩⟩
  · simp only [List.mem_cons, Option.mem_toList] at hc
    rcases hc with hc | hc
    · exact (ha k hk).1 hc
    · exact (ha k hk).2 hc
  · rcases h.moved k hc with h1 | h1
    · exact (ha k hk).2 h1
    · have := hx.lt k hk; omega
/-- A list that is as another. -/
theorem same_yes {w : World} {x y : Value} {l : List Sp} (hx : Lst w x l) (hy : Lst w y l) (hl : ∀ s ∈ l, OkS s) (hs : l.length ≤ 8796093022208) :
    Calls Try.prog 12 #[x, y] w fun E w' => Drew w (.bool true) E w' := by
  obtain ⟨a, ca, rfl, -, -, r1, -⟩ := hx.row hs hl
  obtain ⟨b, cb, rfl, -, -, r2, -⟩ := hy.row hs hl
  have := same_c a b l l l.length l.length ca cb w rfl rfl r1 r2
  refine this.mono ?_
  rintro E w' ⟨h1, h2⟩
  exact ⟨by rw [h1]; simp, h2⟩
theorem lit_lst (w : World) (f t : Int) : Lst (w.alloc (.cells #[.int .i64 f, .int .i64 t] 50)) (.slice (some ⟨w.heap.size, 0, none⟩) 1 1) [(f, t)] :=
  (show Blk _ w.heap.size 1 [.int .i64 f, .int .i64 t] from ⟨block_new w _, rfl⟩).lst (by unfold maxLen; omega) rfl (Nat.le_refl _) rfl
theorem PutOut.yes {w w' : World} {g : Nat} {v : Value} {m : List Sp} {e off n : Int} {more : Bool} {E : Ending} (h : PutOut w g v m e off n more E w') (hok : putOk m e off n more = true) {f c : List Sp} {e' : Int}
    (hf : freshP m (off, off + n) = f) (hc : putM m off n more = c) (he : putE e off n more = e') : ∃ r v', E = .returned (.tuple #[r, .int .i64 0]) ∧ Took w w' g v r v' f c e' := by
  subst hf; subst hc; subst he
  rcases h with ⟨-, h⟩ | ⟨h, -⟩
  · exact h
  · rw [hok] at h; simp at h
def KnownOut (w : World) (E : Ending) (w' : World) : Prop := E = .returned (.bool true) ∧ Away [] w w'
set_option maxHeartbeats 8000000 in
theorem known_c (w : World) : Calls Try.prog 9 #[] w fun E w' => KnownOut w E w' := by
  go_enter Try.func9, Try.ntmps9
  go_wp2_with fail
  refine (new_c w).mono ?_
  rintro E w1 ⟨g, v0, rfl, h1, hg, hv0, haw⟩
  have H1 := hidI h1
  have HG := hidI hg
  have HV := hidI hv0
  have HA := hidI haw
  have KE := hidI (end_c h1)
  have KD := hidI (done_c h1)
  have KP := hidI (put_c' 8 16 true h1 (by unfold I64; omega) (by unfold I64; omega))
  clear h1 hg hv0 haw
  go_wp2_with fail
  refine KE.out.mono ?_
  rintro E _ ⟨rfl, rfl⟩
  go_wp2_with fail
  refine KD.out.mono ?_
  rintro E _ ⟨rfl, rfl⟩
  rw [show doneP [(0, 65535)] (-1) = false from rfl]
  go_wp2_with fail
  refine KP.out.mono ?_
  intro E w2 hp
  obtain ⟨r1, v1, rfl, t1⟩ := PutOut.yes (f := [(8, 24)]) (c := [(0, 8), (24, 65535)]) (e' := -1) hp (by decide) (by decide) (by decide) (by decide)
  have T1 := hidI t1
  have KP2 := hidI (put_c' 0 16 true t1.hl (by unfold I64; omega) (by unfold I64; omega))
  clear hp t1 KP KE KD
  go_wp2_with fail
  refine KP2.out.mono ?_
  intro E w3 hp
  obtain ⟨r2, v2, rfl, t2⟩ := PutOut.yes (f := [(0, 8)]) (c := [(24, 65535)]) (e' := -1) hp (by decide) (by decide) (by decide) (by decide)
  have T2 := hidI t2
  have KP3 := hidI (put_c' 24 5 false t2.hl (by unfold I64; omega) (by unfold I64; omega))
  clear hp t2 KP2
  go_wp2_with fail
  refine KP3.out.mono ?_
  intro E w4 hp
  obtain ⟨r3, v3, rfl, t3⟩ := PutOut.yes (f := [(24, 29)]) (c := []) (e' := 29) hp (by decide) (by decide) (by decide) (by decide)
  have T3 := hidI t3
  clear hp t3 KP3
  have L1 : Hid (Lst w4 r1 [(8, 24)]) := by
    have a := T2.out.keep T1.out.fresh (T1.out.self H1.out.lt)
    exact (T3.out.keep a.1 a.2).1
  have L2 : Hid (Lst w4 r2 [(0, 8)]) := (T3.out.keep T2.out.fresh (T2.out.self T1.out.hl.lt)).1
  have L3 : Hid (Lst w4 r3 [(24, 29)]) := T3.out.fresh
  have HH : Hid (Hl w4 g v3 [] 29) := T3.out.hl
  have HAW : Hid (Away [] w w4) := by
    have e1 : Away [] w w2 := HA.out.next T1.out.aw (fun z hz => .inr (by
      simp only [List.mem_cons, Option.mem_toList] at hz
      rcases hz with rfl | hz
      · exact HG.out
      · exact HV.out z hz))
    have m1 : New w.heap.size v1 := HV.out.moved T1.out.moved HA.out.size
    have e2 : Away [] w w3 := e1.next T2.out.aw (fun z hz => .inr (by
      simp only [List.mem_cons, Option.mem_toList] at hz
      rcases hz with rfl | hz
      · exact HG.out
      · exact m1 z hz))
    have m2 : New w.heap.size v2 := m1.moved T2.out.moved e1.size
    exact e2.next T3.out.aw (fun z hz => .inr (by
      simp only [List.mem_cons, Option.mem_toList] at hz
      rcases hz with rfl | hz
      · exact HG.out
      · exact m2 z hz))
  clear T1 T2 T3 H1 HG HV HA
  have K1 : Hid (Calls Try.prog 12 #[r1, .slice (some ⟨w4.heap.size, 0, none⟩) 1 1] (w4.alloc (.cells #[.int .i64 8, .int .i64 24] 50)) fun E w' => Drew (w4.alloc (.cells #[.int .i64 8, .int .i64 24] 50)) (.bool true) E w') :=
    same_yes (L1.out.on ((Away.refl [] _).alloc _)) (lit_lst w4 8 24) (by intro s hs; simp at hs; subst hs; unfold OkS I64; simp) (by simp)
  go_wp2_with fail
  refine K1.out.mono ?_
  rintro E w5 ⟨rfl, q5, h5⟩
  have A5 : Hid (Away [] w4 w5) := by show Away _ _ _; rw [h5]; exact ((Away.refl [] _).alloc _).drewN _
  clear h5 K1
  have K2 : Hid (Calls Try.prog 12 #[r2, .slice (some ⟨w5.heap.size, 0, none⟩) 1 1] (w5.alloc (.cells #[.int .i64 0, .int .i64 8] 50)) fun E w' => Drew (w5.alloc (.cells #[.int .i64 0, .int .i64 8] 50)) (.bool true) E w') :=
    same_yes ((L2.out.on A5.out).on ((Away.refl [] _).alloc _)) (lit_lst w5 0 8) (by intro s hs; simp at hs; subst hs; unfold OkS I64; simp) (by simp)
  go_wp2_with fail
  refine K2.out.mono ?_
  rintro E w6 ⟨rfl, q6, h6⟩
  have A6 : Hid (Away [] w4 w6) := by show Away _ _ _; rw [h6]; exact (A5.out.alloc _).drewN _
  clear h6 K2
  have K3 : Hid (Calls Try.prog 12 #[r3, .slice (some ⟨w6.heap.size, 0, none⟩) 1 1] (w6.alloc (.cells #[.int .i64 24, .int .i64 29] 50)) fun E w' => Drew (w6.alloc (.cells #[.int .i64 24, .int .i64 29] 50)) (.bool true) E w') :=
    same_yes ((L3.out.on A6.out).on ((Away.refl [] _).alloc _)) (lit_lst w6 24 29) (by intro s hs; simp at hs; subst hs; unfold OkS I64; simp) (by simp)
  go_wp2_with fail
  refine K3.out.mono ?_
  rintro E w7 ⟨rfl, q7, h7⟩
  have A7 : Hid (Away [] w4 w7) := by show Away _ _ _; rw [h7]; exact (A6.out.alloc _).drewN _
  clear h7 K3
  have H7 := hidI (HH.out.on A7.out)
  have KE := hidI (end_c H7.out)
  have KD := hidI (done_c H7.out)
  have KH := hidI (holes_c H7.out)
  go_wp2_with fail
  refine KE.out.mono ?_
  rintro E _ ⟨rfl, rfl⟩
  go_wp2_with fail
  refine KD.out.mono ?_
  rintro E _ ⟨rfl, rfl⟩
  rw [show doneP [] 29 = true from rfl]
  go_wp2_with fail
  refine KH.out.mono ?_
  rintro E w8 ⟨r, rfl, hmk⟩
  obtain ⟨ra, rc, rfl, -⟩ := hmk.1.row (by simp) (by simp)
  have A8 := hidI hmk.2.2
  clear hmk
  go_wp2_with fail
  go_ret
  exact ⟨rfl, (HAW.out.trans A7.out).trans A8.out⟩
end Go.Proofs.Ytcjkhpinccjncaa
