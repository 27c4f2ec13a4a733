/-
  The document: Close. The document beside the program: plays.
-/
import Derived.Test.YtemdgggpfadecaaRb
import Derived.Test.YtemdgggpfadecaaLis
namespace Go.Proofs.Ytemdgggpfadecaa
open Go.ChangeShapes Go.WideShapes Go.ChangeAt Go.RowKit
set_option linter.unusedVariables false
set_option linter.unusedSimpArgs false
set_option maxRecDepth 100000

theorem KS.flat_drop {w : World} {a : Option Addr} {b lc n k : Nat} {bs : List Bd} (h : KS.LstD w (.slice (some ⟨b, 0, none⟩) n lc) bs) (hn : n = bs.length) (hA : ∀ x ∈ bs, Okd x) : ∀ j u, ((bs.drop k).flatMap listD)[j]? = some u → w.cell? ⟨b, k * 19 + j, none⟩ = some u := by
  intro j u hj
  subst hn
  have hf : bs.flatMap listD = (bs.take k).flatMap listD ++ (bs.drop k).flatMap listD := by rw [← List.flatMap_append, List.take_append_drop]
  have hlt : j < ((bs.drop k).flatMap listD).length := (List.getElem?_eq_some_iff.1 hj).1
  rcases Nat.lt_or_ge k bs.length with hk | hk
  · have hl1 : ((bs.take k).flatMap listD).length = k * 19 := by
      rw [KS.flatD_len _ (fun x hx => hA x (List.mem_of_mem_take hx)), List.length_take, Nat.min_eq_left (by omega)]
    have hl2 := KS.flatD_len (bs.drop k) (fun x hx => hA x (List.mem_of_mem_drop hx))
    rw [List.length_drop] at hl2
    rw [World.ownsRow.cellAt h (k * 19 + j) (by omega), hf, List.getElem?_append_right (by omega), hl1, show k * 19 + j - k * 19 = j from by omega]
    exact hj
  · rw [List.drop_of_length_le hk] at hj; simp at hj
theorem KS.flat_take {w : World} {b lc n k : Nat} {bs : List Bd} (h : KS.LstD w (.slice (some ⟨b, 0, none⟩) n lc) bs) (hn : n = bs.length) (hA : ∀ x ∈ bs, Okd x) (hk : k ≤ n) : ∀ j u, ((bs.take k).flatMap listD)[j]? = some u → w.cell? ⟨b, j, none⟩ = some u := by
  intro j u hj
  subst hn
  have hf : bs.flatMap listD = (bs.take k).flatMap listD ++ (bs.drop k).flatMap listD := by rw [← List.flatMap_append, List.take_append_drop]
  have hlt : j < ((bs.take k).flatMap listD).length := (List.getElem?_eq_some_iff.1 hj).1
  have hl1 : ((bs.take k).flatMap listD).length = k * 19 := by
    rw [KS.flatD_len _ (fun x hx => hA x (List.mem_of_mem_take hx)), List.length_take, Nat.min_eq_left (by omega)]
  rw [World.ownsRow.cellAt h j (by omega), hf, List.getElem?_append_left hlt]
  exact hj
open KS in
set_option maxHeartbeats 8000000 in
theorem rclose_c {w : World} {g : Nat} {v : Value} {t : Tb} (h : Tm w g v t) (s : Int) :
    Calls Try.prog 33 #[.pointer (some ⟨g, 0, none⟩), .int .i64 s] w (RCOut w g v (closeP t s)) := by
  have H := Lib.hid h
  have hgw := h.lt
  have KP : Hid (∀ W, Away [] w W → Calls Try.prog 39 #[.pointer (some ⟨g, 0, none⟩), .int .i64 s] W fun E w' => E = .returned (.int .i64 (plc (idxP (isN s) t.bs))) ∧ Away [] W w') := fun W hW => rplace_c (h.on hW) s
  have HWF := Lib.hid (h.wf.close s)
  obtain ⟨o, ho⟩ : ∃ o, o = idxP (isN s) t.bs := ⟨_, rfl⟩
  rw [← ho] at KP
  have HO := Lib.hid ho
  clear h ho
  go_enter Try.func33, Try.ntmps33
  go_wp2_with fail
  refine (KP.out _ (Away.refl _ _)).mono ?_
  rintro E w2 ⟨rfl, haw⟩
  have HA := Lib.hid haw
  have H2 := Lib.hid (H.out.on haw)
  clear haw KP
  rcases o with _ | k
  · have HE : Hid (closeP t s = (1, t)) := by show _ = _; unfold closeP; rw [← HO.out]
    simp only [plc]
    go_wp2_with fail
    go_ret
    rw [HE.out]
    exact ⟨rfl, v, H2.out, HA.out.mono (by simp), Moved.refl _ _⟩
  · have hk := idx_lt HO.out.symm
    have HE : Hid (closeP t s = (0, ⟨t.most, t.last, t.bs.eraseIdx k⟩)) := by show _ = _; unfold closeP; rw [← HO.out]
    rw [HE.out] at HWF
    simp only [plc]
    obtain ⟨la, lc, hv, hat⟩ := H.out.shape
    obtain ⟨y, hy, -, -⟩ := idx_get HO.out.symm
    obtain ⟨b, hb, -⟩ := hat k y hy
    subst hb
    subst hv
    have hne : b ≠ g := H.out.ne b rfl
    have hle := H.out.wf.le
    have hlc : t.bs.length ≤ lc := by obtain ⟨_, _, _, h1, _⟩ := H.out.lst.blk; exact h1
    have HOK := Lib.hid H.out.wf.okd
    have c2 := H2.out.c2
    obtain ⟨n, hn⟩ : ∃ n, n = t.bs.length := ⟨_, rfl⟩
    rw [← hn] at c2 hk hle hlc H2
    have hkd : decide ((k : Int) < 0) = false := by simp
    have HN := Lib.hid hn
    have HT1 := Lib.hid (flat_take (k := k) H2.out.lst hn HOK.out (by omega))
    have HTL : (t.bs.take k).length = k := by rw [List.length_take, ← hn]; omega
    have HDL : (t.bs.drop (k + 1)).length = n - (k + 1) := by rw [List.length_drop, ← hn]
    clear hat hy hn HO
    have hs1 := fun wx => slice_h (some ⟨b, 0, none⟩) n lc k (k : Int) rfl (by omega) wx
    go_wp2_with (at_builtin; refine wpList_appL rfl _ _ rfl (.slice none 0 0) [] rfl (LstD.nil _) ⟨b, 0, none⟩ k lc rfl (t.bs.take k) HTL (fun x hx => HOK.out x (List.mem_of_mem_take hx)) (fun j u hj => by rw [add_plain, Nat.zero_add]; exact HT1.out j u hj) (by simp; omega) ?_; refine Hid.out ?_)
    refine Lib.hid ?_
    intro v1 w3 hl1 hgr hmv
    have haw : Away [] w2 w3 := (Away.grow hgr).mono (by simp [Value.ownBlock])
    have HL1 := Lib.hid hl1
    have HN1 : Hid (New w2.heap.size v1) := fun x hx => by
      rcases hmv x hx with h1 | h1
      · simp [Value.ownBlock] at h1
      · exact h1
    replace H2 := Lib.hid (H2.out.on haw)
    have hs2 := haw.size
    have HS2 := Lib.hid haw
    have HWZ := Lib.hid HA.out.size
    replace HA := Lib.hid (HA.out.trans haw)
    clear haw hl1 hgr hmv c2 hs1 HT1
    have c2 := H2.out.c2
    have HD := Lib.hid (flat_drop (a := none) (k := k + 1) H2.out.lst HN.out HOK.out)
    obtain ⟨va, vc, hv1, -⟩ := HL1.out.sl
    rw [HTL] at hv1
    subst hv1
    obtain ⟨A, hA⟩ : ∃ A, A = (if lc = k + 1 then (some ⟨b, 0, none⟩ : Option Addr) else (some (⟨b, 0, none⟩ : Addr)).map (·.add ((k + 1) * 19))) := ⟨_, rfl⟩
    have hs1 := fun wx => slice_l (some ⟨b, 0, none⟩) A n lc (k + 1) ((k : Int) + 1) hA (by omega) (by omega) wx
    obtain ⟨ad, had⟩ : ∃ ad, A = some ad ∧ (n - (k + 1) = 0 ∨ ad = ⟨b, (k + 1) * 19, none⟩) := by
      by_cases h1 : lc = k + 1
      · exact ⟨⟨b, 0, none⟩, by rw [hA, if_pos h1], .inl (by omega)⟩
      · exact ⟨⟨b, (k + 1) * 19, none⟩, by rw [hA, if_neg h1]; simp [add_plain], .inr rfl⟩
    obtain ⟨hA2, had⟩ := had
    rw [hA2] at hs1
    have HDC : Hid (∀ j u, ((t.bs.drop (k + 1)).flatMap listD)[j]? = some u → w3.cell? (ad.add j) = some u) := fun j u hj => by
      rcases had with h1 | h1
      · have : t.bs.drop (k + 1) = [] := List.eq_nil_of_length_eq_zero (by omega)
        rw [this] at hj; simp at hj
      · rw [h1, add_plain]; exact HD.out j u hj
    clear hA hA2 had HD
    go_wp2_with (at_builtin; refine wpList_appL rfl _ _ rfl (.slice va k vc) (t.bs.take k) rfl HL1.out ad (n - (k + 1)) (lc - (k + 1)) rfl (t.bs.drop (k + 1)) HDL (fun x hx => HOK.out x (List.mem_of_mem_drop hx)) (by exact HDC.out) (by rw [HTL]; omega) ?_; refine Hid.out ?_)
    refine Lib.hid ?_
    intro v2 w4 hl2 hgr hmv
    have HNW : Hid (New w.heap.size (.slice va k vc)) := HN1.out.mono HWZ.out
    have HA4 := Lib.hid (HA.out.step hgr HNW.out)
    have HN2 : Hid (New w.heap.size v2) := HNW.out.moved hmv HA.out.size
    have HB4 := Lib.hid (show w4.heap[g]? = some (.cells #[.int .i64 t.most, .int .i64 t.last, .slice (some ⟨b, 0, none⟩) n lc] 74 (0, 0)) from by
      have h1 := H.out.box
      rw [← HN.out] at h1
      exact HA4.out.keep (by simp) h1)
    rw [← List.eraseIdx_eq_take_drop_succ] at hl2
    have HL4 := Lib.hid hl2
    obtain ⟨va2, vc2, hv2, -⟩ := hl2.sl
    clear hl2 hgr hmv c2 hs1 HDC HL1
    generalize hvn : (t.bs.eraseIdx k).length = vn2 at hv2
    subst hv2
    have c2 := cell_of_block HB4.out 2
    have f2 := free_of_block HB4.out 2
    simp at c2
    go_wp2_with fail
    have haw := (Away.refl [g] w4).setCell (p := ⟨g, 2, none⟩) (.inl (by simp)) (.slice va2 vn2 vc2)
    have HNG : ∀ x, (Value.slice va2 vn2 vc2).ownBlock = some x → x ≠ g := fun x hx => by have := HN2.out x hx; omega
    go_ret
    rw [HE.out]
    refine ⟨rfl, _, ⟨by rw [block_set HB4.out]; rfl, HL4.out.away haw (fun x hx => by simp; exact HNG x hx), HNG, HWF.out⟩, ?_, fun x hx => .inr (HN2.out x hx)⟩
    exact (HA4.out.mono (by simp)).trans (haw.mono (by simp [fp]))
/-! Owners. -/
section
variable {o : Nat → Nat} {k : Nat} {w : World} {g : Nat} {t : Tb}
theorem rbind_o (h : KS.Ow o k w g t) (av : Int) (al : List Int) (hl : Byt al) (p : Int) (hb : t.last < 9223372036854775807) :
    Calls Try.prog 30 #[.pointer (some ⟨g, 0, none⟩), .agg (csA av al), .int .i64 p] w fun E w' => E = .returned (.tuple #[.int .i64 (bindP t av al p).1.1, .int .i64 (bindP t av al p).1.2.1, .int .i64 (bindP t av al p).1.2.2]) ∧ KS.Ow (give o w k) k w' g (bindP t av al p).2 ∧ Chg o k w w' := by
  obtain ⟨v, h1, h2, h3⟩ := h
  refine (rbind_c h1 av al hl p hb).mono ?_
  rintro E w' ⟨rfl, v', ht, ha, hm⟩
  exact ⟨rfl, KS.Ow.step h1 h2 h3 ht ha hm⟩
theorem rclose_o (h : KS.Ow o k w g t) (s : Int) :
    Calls Try.prog 33 #[.pointer (some ⟨g, 0, none⟩), .int .i64 s] w fun E w' => E = .returned (.int .i64 (closeP t s).1) ∧ KS.Ow (give o w k) k w' g (closeP t s).2 ∧ Chg o k w w' := by
  obtain ⟨v, h1, h2, h3⟩ := h
  refine (rclose_c h1 s).mono ?_
  rintro E w' ⟨rfl, v', ht, ha, hm⟩
  exact ⟨rfl, KS.Ow.step h1 h2 h3 ht ha hm⟩
theorem rfind_o (h : KS.Ow o k w g t) (av : Int) (al : List Int) (hl : al.length = 16) (p : Int) :
    Calls Try.prog 31 #[.pointer (some ⟨g, 0, none⟩), .agg (csA av al), .int .i64 p] w fun E w' => E = .returned (.int .i64 (findP t.bs av al p)) ∧ Away [] w w' := by
  obtain ⟨v, h1, h2, h3⟩ := h
  exact rfind_c h1 av al hl p
theorem rat_o (h : KS.Ow o k w g t) (s : Int) :
    Calls Try.prog 32 #[.pointer (some ⟨g, 0, none⟩), .int .i64 s] w fun E w' => E = .returned (.tuple #[.agg (csA (atP t s).1 (atP t s).2.1), .int .i64 (atP t s).2.2.1, .int .i64 (atP t s).2.2.2]) ∧ Away [] w w' := by
  obtain ⟨v, h1, h2, h3⟩ := h
  exact rat_c h1 s
theorem rall_o (h : KS.Ow o k w g t) :
    Calls Try.prog 34 #[.pointer (some ⟨g, 0, none⟩)] w fun E w' => ∃ r, E = .returned r ∧ LI w' r (t.bs.map (·.n)) ∧ Away [] w w' := by
  obtain ⟨v, h1, h2, h3⟩ := h
  refine (rall_c h1).mono ?_
  rintro E w' ⟨r, rfl, hl, hn, ha⟩
  exact ⟨r, rfl, hl, ha⟩
end
theorem KS.Ow.give {o : Nat → Nat} {k : Nat} {w w' : World} {g : Nat} {t : Tb} (h : KS.Ow o k w g t) (j : Nat) (ha : Away [] w w') : KS.Ow (Ytemdgggpfadecaa.give o w j) k w' g t := by
  obtain ⟨v, h1, h2, h3⟩ := h
  exact ⟨v, h1.on ha, by rw [give_old h1.lt]; exact h2, fun x hx => by rw [give_old (h1.lst.lt x hx)]; exact h3 x hx⟩
/-- Steps of a and b alone. -/
def Stp2 (o : Nat → Nat) (a b : Nat) (w : World) (o' : Nat → Nat) (w' : World) : Prop := ∃ S, Away S w w' ∧ (∀ s ∈ S, s < w.heap.size → o s = a ∨ o s = b) ∧ ∀ y, y < w.heap.size → o' y = o y
theorem Stp2.start (o : Nat → Nat) (a b : Nat) (w : World) : Stp2 o a b w o w := ⟨[], Away.refl _ _, by simp, fun _ _ => rfl⟩
theorem Stp2.on {o o' : Nat → Nat} {a b : Nat} {w w' w'' : World} (h : Stp2 o a b w o' w') (ha : Away [] w' w'') : Stp2 o a b w o' w'' := by
  obtain ⟨S, h1, h2, h3⟩ := h
  exact ⟨S, h1.trans (ha.mono (by simp)), h2, h3⟩
theorem Stp2.give {o o' : Nat → Nat} {a b : Nat} {w w' w'' : World} (h : Stp2 o a b w o' w') (j : Nat) (ha : Away [] w' w'') : Stp2 o a b w (Ytemdgggpfadecaa.give o' w' j) w'' := by
  obtain ⟨S, h1, h2, h3⟩ := h
  exact ⟨S, h1.trans (ha.mono (by simp)), h2, fun y hy => by rw [give_old (Nat.lt_of_lt_of_le hy h1.size)]; exact h3 y hy⟩
theorem Stp2.chg {o o' : Nat → Nat} {a b k : Nat} {w w' w'' : World} (h : Stp2 o a b w o' w') (hc : Chg o' k w' w'') (hk : k = a ∨ k = b) : Stp2 o a b w (Ytemdgggpfadecaa.give o' w' k) w'' := by
  obtain ⟨S, h1, h2, h3⟩ := h
  obtain ⟨T, h4, h5⟩ := hc
  refine ⟨S ++ T, (h1.mono (by intro x hx; simp [hx])).trans (h4.mono (by intro x hx; simp [hx])), fun s hs hlt => ?_, fun y hy => by rw [give_old (Nat.lt_of_lt_of_le hy h1.size)]; exact h3 y hy⟩
  rcases List.mem_append.1 hs with h6 | h6
  · exact h2 s h6 hlt
  · rw [← h3 s hlt, h5 s h6]; exact hk
theorem KB.Ow.stp {o o' : Nat → Nat} {a b c : Nat} {w w' : World} {g : Nat} {t : Tb} (h : KB.Ow o c w g t) (hs : Stp2 o a b w o' w') (ha : c ≠ a) (hb : c ≠ b) : KB.Ow o' c w' g t := by
  obtain ⟨v, h1, h2, h3⟩ := h
  obtain ⟨S, h4, h5, h6⟩ := hs
  have hx : ∀ x, x < w.heap.size → o x = c → x ∉ S := fun x hx hc hm => by rcases h5 x hm hx with h7 | h7 <;> omega
  exact ⟨v, h1.away h4 (hx g h1.lt h2) (fun x hv => hx x (h1.lst.lt x hv) (h3 x hv)), by rw [h6 g h1.lt]; exact h2, fun x hv => by rw [h6 x (h1.lst.lt x hv)]; exact h3 x hv⟩
theorem KS.Ow.stp {o o' : Nat → Nat} {a b c : Nat} {w w' : World} {g : Nat} {t : Tb} (h : KS.Ow o c w g t) (hs : Stp2 o a b w o' w') (ha : c ≠ a) (hb : c ≠ b) : KS.Ow o' c w' g t := by
  obtain ⟨v, h1, h2, h3⟩ := h
  obtain ⟨S, h4, h5, h6⟩ := hs
  have hx : ∀ x, x < w.heap.size → o x = c → x ∉ S := fun x hx hc hm => by rcases h5 x hm hx with h7 | h7 <;> omega
  exact ⟨v, h1.away h4 (hx g h1.lt h2) (fun x hv => hx x (h1.lst.lt x hv) (h3 x hv)), by rw [h6 g h1.lt]; exact h2, fun x hv => by rw [h6 x (h1.lst.lt x hv)]; exact h3 x hv⟩
theorem Out.stp {o o' : Nat → Nat} {a b : Nat} {W w w' : World} (h : Out o W w) (hs : Stp2 o a b w o' w') (ha : 0 ≠ a) (hb : 0 ≠ b) : Out o' W w' := by
  obtain ⟨S, h4, h5, h6⟩ := hs
  refine ⟨h.1.next h4 (fun x hx => ?_), fun y hy => by rw [h6 y (Nat.lt_of_lt_of_le hy h.1.size)]; exact h.2 y hy⟩
  rcases Nat.lt_or_ge x W.heap.size with h1 | h1
  · have h2 := h.2 x h1
    rcases h5 x hx (Nat.lt_of_lt_of_le h1 h.1.size) with h3 | h3 <;> omega
  · exact .inr h1
theorem Stp2.new {o o' : Nat → Nat} {a b g : Nat} {w w' w'' : World} (h : Stp2 o a b w o' w') (ha : Away [g] w' w'') (hg : w.heap.size ≤ g) : Stp2 o a b w o' w'' := by
  obtain ⟨S, h1, h2, h3⟩ := h
  refine ⟨S ++ [g], (h1.mono (by intro x hx; simp [hx])).trans (ha.mono (by simp)), fun s hs hlt => ?_, h3⟩
  rcases List.mem_append.1 hs with h6 | h6
  · exact h2 s h6 hlt
  · simp at h6; omega
theorem Stp2.size {o o' : Nat → Nat} {a b : Nat} {w w' : World} (h : Stp2 o a b w o' w') : w.heap.size ≤ w'.heap.size := by obtain ⟨S, h1, -⟩ := h; exact h1.size
theorem KS.Ow.kp {o : Nat → Nat} {j k : Nat} {w w' : World} {g : Nat} {t : Tb} (h : KS.Ow o j w g t) (hc : Chg o k w w') (hj : j ≠ k) : KS.Ow o j w' g t := by
  obtain ⟨v, h1, h2, h3⟩ := h
  obtain ⟨S, ha, hS⟩ := hc
  exact ⟨v, h1.away ha (fun hm => hj (by rw [← h2]; exact hS g hm)) (fun x hx hm => hj (by rw [← h3 x hx]; exact hS x hm)), h2, h3⟩
theorem rowAt_away {S : List Nat} {w w' : World} {g : Nat} {cs : Array Value} (h : rowAt w g = some cs) (hw : Away S w w') (hg : g ∉ S) : rowAt w' g = some cs := by
  obtain ⟨t, hh, hs⟩ := rowAt_some h
  exact rowAt_of (hw.keep hg hh) hs
def csO (x : Opr) : Array Value := (listO x).toArray
/-- A call in a block of its own. -/
def BoxO (w : World) (g : Nat) (x : Opr) : Prop := w.heap[g]? = some (.cells (csO x) 35 (0, 0))
theorem BoxO.range {w : World} {g : Nat} {x : Opr} (h : BoxO w g x) : w.rangeAt g 0 (listO x) := fun j u hj => by rw [cell_of_block h]; simpa [csO] using hj
theorem BoxO.on {S : List Nat} {w w' : World} {g : Nat} {x : Opr} (h : BoxO w g x) (hw : Away S w w') (hg : g ∉ S) : BoxO w' g x := hw.keep hg h
theorem wpList_box35 {ops : Array Oper} {rest : List Oper} {o : Oper} {a : Act} {w : World} {Q : Exit → Act → World → Prop} (hg : o.guard = none) (y : Operand) (ho : o.op = .box 35 y) (x : Opr) (hx : a.eval y = .agg (csO x))
    (h : ∀ g w1, w.heap.size ≤ g → BoxO w1 g x → Away [] w w1 → wpList Try.prog ops Q rest (a.put o.dst (.pointer (some ⟨g, 0, none⟩))) w1) : wpList Try.prog ops Q (o :: rest) a w := by
  refine wpList_plain hg fun K hK => ?_
  unfold Oper.wp execOp
  simp only [ho, hx, Sem.run_bind, Instr.box, newVar, newRow, Value.cells, run_newObj_alloc, Sem.run_pure, Result.andThen_ok]
  exact hK _ _ (h w.heap.size _ (Nat.le_refl _) (block_new _ _) ((Away.refl [] w).alloc _))
theorem BoxO.cells {w : World} {g : Nat} {x : Opr} (h : BoxO w g x) : w.cell? ⟨g, 0, none⟩ = some (.int .i64 x.kd) ∧ w.cell? ⟨g, 1, none⟩ = some (.int .i64 x.who) ∧ w.cell? ⟨g, 2, none⟩ = some (.int .i64 x.n) ∧ w.rangeAt g 3 (cellsA x.v x.l) := by
  have := rangeO h.range
  simpa using this
/-- Behind a step of k's, what is j's stands. -/
theorem BoxO.chg {o : Nat → Nat} {k j : Nat} {w w' : World} {g : Nat} {x : Opr} (h : BoxO w g x) (hg : o g = j) (hc : Chg o k w w') (hj : j ≠ k) : BoxO w' g x ∧ give o w k g = j := ⟨hc.keep hg hj h, by rw [give_old (lt_of_block h)]; exact hg⟩
set_option maxHeartbeats 16000000 in
theorem plays_c {o : Nat → Nat} {a b : Nat} {w : World} {gp gr : Nat} {t : Tb} (hp : KB.Ow o a w gp t) (hr : KS.Ow o b w gr t) (hab : a ≠ b) (ha9 : a < 9) (hb9 : b < 9) (x : Opr) (hx : OkO x) (hla : t.last < 9223372036854775807) :
    Calls Try.prog 20 #[.pointer (some ⟨gp, 0, none⟩), .pointer (some ⟨gr, 0, none⟩), .agg (csO x)] w fun E w' => E = .returned (.bool true) ∧ ∃ o' t', KB.Ow o' a w' gp t' ∧ KS.Ow o' b w' gr t' ∧ Stp2 o a b w o' w' ∧ t'.last ≤ t.last + 1 := by
  have HP := Lib.hid hp
  have HR := Lib.hid hr
  have HX := Lib.hid hx
  have HS := Lib.hid (Stp2.start o a b w)
  have HWT := Lib.hid hp.wf
  clear hp hr hx
  go_enter Try.func20, Try.ntmps20
  go_wp2_with (refine wpList_box35 rfl _ rfl x rfl ?_; refine Hid.out ?_)
  refine Lib.hid ?_
  intro g5 w1 hg5 hb haw
  replace HP := Lib.hid (HP.out.give 9 haw)
  replace HR := Lib.hid (HR.out.give 9 haw)
  replace HS := Lib.hid (HS.out.give 9 haw)
  have H9 : Hid (give o w 9 g5 = 9) := give_new hg5
  have HB := Lib.hid hb
  generalize give o w 9 = o1 at *
  clear haw hb hg5
  obtain ⟨c0, -, c2, -⟩ := HB.out.cells
  by_cases h1 : x.kd = 1
  · have e1 : (x.kd == 1) = true := by simpa using h1
    clear h1
    go_wp2_with (refine wpList_load32m rfl _ rfl g5 3 rfl x.v x.l HX.out.2.2.2.2.1 HB.out.cells.2.2.2 ?_)
    refine (bind_o HP.out x.v x.l HX.out.2.2.2.2 x.n hla).mono ?_
    rintro E w3 ⟨rfl, ho, hc⟩
    obtain ⟨hb, h9⟩ := BoxO.chg HB.out H9.out hc (by omega)
    replace HB := Lib.hid hb
    replace H9 := Lib.hid h9
    replace HR := Lib.hid (HR.out.keep hc (by omega))
    replace HS := Lib.hid (HS.out.chg hc (by omega))
    replace HP := Lib.hid ho
    clear ho hc h9 hb c0 c2
    obtain ⟨c0, -, c2, -⟩ := HB.out.cells
    have HLT := Lib.hid (bind_last HWT.out x.v x.l x.n)
    go_wp2_with (refine wpList_load32m rfl _ rfl g5 3 rfl x.v x.l HX.out.2.2.2.2.1 HB.out.cells.2.2.2 ?_)
    refine (rbind_o HR.out x.v x.l HX.out.2.2.2.2 x.n hla).mono ?_
    rintro E w4 ⟨rfl, ho, hc⟩
    replace HP := Lib.hid (HP.out.keep hc (by omega))
    replace HS := Lib.hid (HS.out.chg hc (by omega))
    replace HR := Lib.hid ho
    clear ho hc c0 c2
    go_wp2_with fail
    refine (all_o HP.out 9).mono ?_
    rintro E w7 ⟨r1, rfl, hl1, haw⟩
    have HL1 := Lib.hid hl1.1
    replace HP := Lib.hid (HP.out.on haw)
    replace HR := Lib.hid (HR.out.on haw)
    replace HS := Lib.hid (HS.out.on haw)
    clear hl1 haw
    go_wp2_with fail
    refine (rall_o HR.out).mono ?_
    rintro E w8 ⟨r2, rfl, hl2, haw⟩
    have HL2 := Lib.hid hl2
    replace HL1 := Lib.hid (HL1.out.on haw)
    replace HP := Lib.hid (HP.out.on haw)
    replace HR := Lib.hid (HR.out.on haw)
    replace HS := Lib.hid (HS.out.on haw)
    clear hl2 haw
    go_wp2_with fail
    refine (same_yes HL1.out HL2.out (by have := HP.out.wf.le; simp; omega)).mono ?_
    rintro E w9 ⟨rfl, haw⟩
    replace HP := Lib.hid (HP.out.on haw)
    replace HR := Lib.hid (HR.out.on haw)
    replace HS := Lib.hid (HS.out.on haw)
    clear haw
    go_wp2_with fail
    go_ret
    exact ⟨rfl, _, _, HP.out, HR.out, HS.out, HLT.out⟩
  have e1 : (x.kd == 1) = false := by simpa using h1
  by_cases h2 : x.kd = 2
  · have e2 : (x.kd == 2) = true := by simpa using h2
    clear h1 h2
    go_wp2_with fail
    clear c0 c2
    refine wp_region_held_drew (S := (fun w' => BoxO w' g5 x)) (by kernel_rfl) (by exact HB.out) (fun hHeld => ?_)
    have haw := (Away.refl [] w1).drew
    replace HP := Lib.hid (HP.out.on haw)
    replace HR := Lib.hid (HR.out.on haw)
    replace HS := Lib.hid (HS.out.on haw)
    clear haw HB
    have HB : Hid True := trivial
    refine wpAnyH_take (i := 0) (v := ?_) (by simp only [List.getElem?_toArray, List.getElem?_cons_zero]; rfl) (by kernel_rfl) (by kernel_rfl) (by kernel_rfl) (by exact fun _ _ _ h => h) (Or.inl ⟨by rfl, ?_⟩) (by assumption) ?_
    rotate_left
    · intro wq hSw
      (try dsimp only at hSw)
      go_simp
      all_goals (with_reducible rfl)
    try simp only [Act.put, List.setIfInBounds_toArray, List.set_cons_zero, List.set_cons_succ]
    refine wpAnyH_take (i := 1) (v := ?_) (by simp only [List.getElem?_toArray, List.getElem?_cons_succ, List.getElem?_cons_zero]; rfl) (by kernel_rfl) (by kernel_rfl) (by kernel_rfl) (by exact fun _ _ _ h => h) (Or.inl ⟨by rfl, ?_⟩) (by assumption) ?_
    rotate_left
    · intro wq hSw
      (try dsimp only at hSw)
      go_simp
      all_goals (with_reducible rfl)
    try simp only [Act.put, List.setIfInBounds_toArray, List.set_cons_zero, List.set_cons_succ]
    refine wpAnyH_take (i := 2) (by simp only [List.getElem?_toArray, List.getElem?_cons_succ, List.getElem?_cons_zero]; rfl) (by kernel_rfl) (by kernel_rfl) (by kernel_rfl) (by exact fun _ _ _ h => h) (yields_ld (ad := ⟨g5, 3, none⟩) (by rfl) _ rfl rfl (fun w' h => load32m_run h.cells.2.2.2 HX.out.2.2.2.2.1)) (by assumption) ?_
    try simp only [Act.put, List.setIfInBounds_toArray, List.set_cons_zero, List.set_cons_succ]
    refine wpAnyH_take (i := 3) (v := ?_) (by simp only [List.getElem?_toArray, List.getElem?_cons_succ, List.getElem?_cons_zero]; rfl) (by kernel_rfl) (by kernel_rfl) (by kernel_rfl) (by exact fun _ _ _ h => h) (Or.inl ⟨by rfl, ?_⟩) (by assumption) ?_
    rotate_left
    · intro wq hSw
      (try dsimp only at hSw)
      go_simp
      all_goals (with_reducible rfl)
    try simp only [Act.put, List.setIfInBounds_toArray, List.set_cons_zero, List.set_cons_succ]
    refine wpAnyH_take (i := 4) (by simp only [List.getElem?_toArray, List.getElem?_cons_succ, List.getElem?_cons_zero]; rfl) (by kernel_rfl) (by kernel_rfl) (by kernel_rfl) (by exact fun _ _ _ h => h) (yields_ld (ad := ⟨g5, 2, none⟩) (by rfl) _ rfl rfl (fun w' h => ld3 h.cells.2.2.1)) (by assumption) ?_
    try simp only [Act.put, List.setIfInBounds_toArray, List.set_cons_zero, List.set_cons_succ]
    refine wpAnyH_take (i := 6) (v := ?_) (by simp only [List.getElem?_toArray, List.getElem?_cons_succ, List.getElem?_cons_zero]; rfl) (by kernel_rfl) (by kernel_rfl) (by kernel_rfl) (by exact fun _ _ _ h => h) (Or.inl ⟨by rfl, ?_⟩) (by assumption) ?_
    rotate_left
    · intro wq hSw
      (try dsimp only at hSw)
      go_simp
      all_goals (with_reducible rfl)
    try simp only [Act.put, List.setIfInBounds_toArray, List.set_cons_zero, List.set_cons_succ]
    refine wpAnyH_take (i := 7) (v := ?_) (by simp only [List.getElem?_toArray, List.getElem?_cons_succ, List.getElem?_cons_zero]; rfl) (by kernel_rfl) (by kernel_rfl) (by kernel_rfl) (by exact fun _ _ _ h => h) (Or.inl ⟨by rfl, ?_⟩) (by assumption) ?_
    rotate_left
    · intro wq hSw
      (try dsimp only at hSw)
      go_simp
      all_goals (with_reducible rfl)
    try simp only [Act.put, List.setIfInBounds_toArray, List.set_cons_zero, List.set_cons_succ]
    refine wpAnyH_take (i := 8) (by simp only [List.getElem?_toArray, List.getElem?_cons_succ, List.getElem?_cons_zero]; rfl) (by kernel_rfl) (by kernel_rfl) (by kernel_rfl) (by exact fun _ _ _ h => h) (yields_ld (ad := ⟨g5, 3, none⟩) (by rfl) _ rfl rfl (fun w' h => load32m_run h.cells.2.2.2 HX.out.2.2.2.2.1)) (by assumption) ?_
    try simp only [Act.put, List.setIfInBounds_toArray, List.set_cons_zero, List.set_cons_succ]
    refine wpAnyH_take (i := 9) (v := ?_) (by simp only [List.getElem?_toArray, List.getElem?_cons_succ, List.getElem?_cons_zero]; rfl) (by kernel_rfl) (by kernel_rfl) (by kernel_rfl) (by exact fun _ _ _ h => h) (Or.inl ⟨by rfl, ?_⟩) (by assumption) ?_
    rotate_left
    · intro wq hSw
      (try dsimp only at hSw)
      go_simp
      all_goals (with_reducible rfl)
    try simp only [Act.put, List.setIfInBounds_toArray, List.set_cons_zero, List.set_cons_succ]
    refine wpAnyH_take (i := 10) (by simp only [List.getElem?_toArray, List.getElem?_cons_succ, List.getElem?_cons_zero]; rfl) (by kernel_rfl) (by kernel_rfl) (by kernel_rfl) (by exact fun _ _ _ h => h) (yields_ld (ad := ⟨g5, 2, none⟩) (by rfl) _ rfl rfl (fun w' h => ld3 h.cells.2.2.1)) (by assumption) ?_
    try simp only [Act.put, List.setIfInBounds_toArray, List.set_cons_zero, List.set_cons_succ]
    refine wpAnyH_ready (rs := [5]) (by kernel_rfl) (by simp) ?_
    refine AllReadyH.cons (by simp only [List.getElem?_toArray, List.getElem?_cons_succ, List.getElem?_cons_zero]; rfl) (fun K hK => ?_) AllReadyH.nil
    go_simp
    refine (find_o HP.out x.v x.l HX.out.2.2.2.2.1 x.n).mono ?_
    rintro E w3 ⟨rfl, haw⟩
    have hS : BoxO w3 g5 x := hHeld.on haw (by simp)
    replace HP := Lib.hid (HP.out.on haw)
    replace HR := Lib.hid (HR.out.on haw)
    replace HS := Lib.hid (HS.out.on haw)
    clear haw hHeld
    go_wp2_with fail
    refine hK.out _ _ hS (fun hHeld => ?_)
    clear hK K
    try simp only [Act.put, List.setIfInBounds_toArray, List.set_cons_zero, List.set_cons_succ]
    clear hS
    refine wpAnyH_ready (rs := [11]) (by kernel_rfl) (by simp) ?_
    refine AllReadyH.cons (by simp only [List.getElem?_toArray, List.getElem?_cons_succ, List.getElem?_cons_zero]; rfl) (fun K hK => ?_) AllReadyH.nil
    go_simp
    refine (rfind_o HR.out x.v x.l HX.out.2.2.2.2.1 x.n).mono ?_
    rintro E w4 ⟨rfl, haw⟩
    have hS : BoxO w4 g5 x := hHeld.on haw (by simp)
    replace HP := Lib.hid (HP.out.on haw)
    replace HR := Lib.hid (HR.out.on haw)
    replace HS := Lib.hid (HS.out.on haw)
    clear haw hHeld
    go_wp2_with fail
    refine hK.out _ _ hS (fun hHeld => ?_)
    clear hK K
    try simp only [Act.put, List.setIfInBounds_toArray, List.set_cons_zero, List.set_cons_succ]
    clear hS
    refine wpAnyH_take (i := 12) (v := ?_) (by simp only [List.getElem?_toArray, List.getElem?_cons_succ, List.getElem?_cons_zero]; rfl) (by kernel_rfl) (by kernel_rfl) (by kernel_rfl) (by exact fun _ _ _ h => h) (Or.inl ⟨by rfl, ?_⟩) (by assumption) ?_
    rotate_left
    · intro wq hSw
      (try dsimp only at hSw)
      go_simp
      all_goals (with_reducible rfl)
    try simp only [Act.put, List.setIfInBounds_toArray, List.set_cons_zero, List.set_cons_succ]
    replace HB := Lib.hid hHeld
    clear hHeld
    refine wpAnyH_done (by kernel_rfl) ?_ _
    go_wp2_with fail
    refine (all_o HP.out 9).mono ?_
    rintro E w7 ⟨r1, rfl, hl1, haw⟩
    have HL1 := Lib.hid hl1.1
    replace HP := Lib.hid (HP.out.on haw)
    replace HR := Lib.hid (HR.out.on haw)
    replace HS := Lib.hid (HS.out.on haw)
    clear hl1 haw
    go_wp2_with fail
    refine (rall_o HR.out).mono ?_
    rintro E w8 ⟨r2, rfl, hl2, haw⟩
    have HL2 := Lib.hid hl2
    replace HL1 := Lib.hid (HL1.out.on haw)
    replace HP := Lib.hid (HP.out.on haw)
    replace HR := Lib.hid (HR.out.on haw)
    replace HS := Lib.hid (HS.out.on haw)
    clear hl2 haw
    go_wp2_with fail
    refine (same_yes HL1.out HL2.out (by have := HP.out.wf.le; simp; omega)).mono ?_
    rintro E w9 ⟨rfl, haw⟩
    replace HP := Lib.hid (HP.out.on haw)
    replace HR := Lib.hid (HR.out.on haw)
    replace HS := Lib.hid (HS.out.on haw)
    clear haw
    go_wp2_with fail
    go_ret
    exact ⟨rfl, _, _, HP.out, HR.out, HS.out, by omega⟩
  have e2 : (x.kd == 2) = false := by simpa using h2
  by_cases h3 : x.kd = 3
  · have e3 : (x.kd == 3) = true := by simpa using h3
    clear h1 h2 h3
    obtain ⟨av, al, ap, ae, hae⟩ : ∃ a b c d, (a, b, c, d) = atP t x.n := ⟨_, _, _, _, rfl⟩
    have HAE := Lib.hid hae
    have HAL : Hid (al.length = 16) := by
      show _ = _
      have h5 : (atP t x.n).2.1.length = 16 := by
        unfold atP
        split
        · split
          · rename_i y hy; exact HWT.out.okd y (List.mem_of_getElem? hy)
          · rfl
        · rfl
      rw [← hae] at h5
      exact h5
    clear hae
    go_wp2_with fail
    refine (at_o HP.out x.n).mono ?_
    rintro E va ⟨rfl, haw⟩
    replace HP := Lib.hid (HP.out.on haw)
    replace HR := Lib.hid (HR.out.on haw)
    replace HS := Lib.hid (HS.out.on haw)
    replace HB := Lib.hid (HB.out.on haw (by simp))
    rw [← HAE.out]
    clear haw c2
    have hlt5 := lt_of_block HB.out
    go_wp2_with (refine wpList_alloc32 rfl rfl ?_; refine Hid.out ?_)
    refine Lib.hid ?_
    intro g13 vb hg hr2 haw
    have hsz := HS.out.size
    replace HP := Lib.hid (HP.out.give 9 haw)
    replace HR := Lib.hid (HR.out.give 9 haw)
    replace HS := Lib.hid (HS.out.give 9 haw)
    replace HB := Lib.hid (HB.out.on haw (by simp))
    have HG9 : Hid (give o1 va 9 g13 = 9) := give_new hg
    generalize give o1 va 9 = o1 at *
    have Hg13 := Lib.hid hr2
    clear hr2 haw
    go_wp2_with (refine wpList_store32 rfl _ _ rfl g13 rfl av al HAL.out rfl _ Hg13.out ?_; refine Hid.out ?_)
    refine Lib.hid ?_
    intro vc hr2 haw
    have hc : Chg o1 9 vb vc := Chg.of haw (fun s hs => by simp at hs; subst hs; exact HG9.out)
    replace HP := Lib.hid (HP.out.kp hc (by omega))
    replace HR := Lib.hid (HR.out.kp hc (by omega))
    replace HS := Lib.hid (HS.out.new haw (by omega))
    replace HB := Lib.hid (HB.out.on haw (by simp; omega))
    replace Hg13 := Lib.hid hr2
    clear hr2 haw hc HG9 hg hsz hlt5
    obtain ⟨c0', -, c2, -⟩ := HB.out.cells
    clear c0
    go_wp2_with fail
    refine (rat_o HR.out x.n).mono ?_
    rintro E ua ⟨rfl, haw⟩
    replace HP := Lib.hid (HP.out.on haw)
    replace HR := Lib.hid (HR.out.on haw)
    replace HS := Lib.hid (HS.out.on haw)
    replace HB := Lib.hid (HB.out.on haw (by simp))
    replace Hg13 := Lib.hid (rowAt_away Hg13.out haw (by simp))
    rw [← HAE.out]
    clear haw c2
    have hlt5 := lt_of_block HB.out
    have hltp := rowAt_lt Hg13.out
    go_wp2_with (refine wpList_alloc32 rfl rfl ?_; refine Hid.out ?_)
    refine Lib.hid ?_
    intro g16 ub hg hr2 haw
    have hsz := HS.out.size
    replace HP := Lib.hid (HP.out.give 9 haw)
    replace HR := Lib.hid (HR.out.give 9 haw)
    replace HS := Lib.hid (HS.out.give 9 haw)
    replace HB := Lib.hid (HB.out.on haw (by simp))
    replace Hg13 := Lib.hid (rowAt_away Hg13.out haw (by simp))
    have HG9 : Hid (give o1 ua 9 g16 = 9) := give_new hg
    generalize give o1 ua 9 = o1 at *
    have Hg16 := Lib.hid hr2
    clear hr2 haw
    go_wp2_with (refine wpList_store32 rfl _ _ rfl g16 rfl av al HAL.out rfl _ Hg16.out ?_; refine Hid.out ?_)
    refine Lib.hid ?_
    intro uc hr2 haw
    have hc : Chg o1 9 ub uc := Chg.of haw (fun s hs => by simp at hs; subst hs; exact HG9.out)
    replace HP := Lib.hid (HP.out.kp hc (by omega))
    replace HR := Lib.hid (HR.out.kp hc (by omega))
    replace HS := Lib.hid (HS.out.new haw (by omega))
    replace HB := Lib.hid (HB.out.on haw (by simp; omega))
    replace Hg13 := Lib.hid (rowAt_away Hg13.out haw (by simp; omega))
    replace Hg16 := Lib.hid hr2
    clear hr2 haw hc HG9 hg hsz hlt5
    have hqe := fun w => eq32 av av al al HAL.out HAL.out w
    have hqb : (decide (av = av) && eqL al al) = true := by simp [eqL]
    rw [hqb] at hqe
    have hgd := guard24
    clear hqb hltp c0'
    go_wp2_with (first
      | (refine wpList_load24 rfl _ rfl g13 rfl _ Hg13.out ?_)
      | (refine wpList_load24 rfl _ rfl g16 rfl _ Hg16.out ?_))
    clear hqe hgd
    go_wp2_with fail
    refine (all_o HP.out 9).mono ?_
    rintro E w7 ⟨r1, rfl, hl1, haw⟩
    have HL1 := Lib.hid hl1.1
    replace HP := Lib.hid (HP.out.on haw)
    replace HR := Lib.hid (HR.out.on haw)
    replace HS := Lib.hid (HS.out.on haw)
    clear hl1 haw
    go_wp2_with fail
    refine (rall_o HR.out).mono ?_
    rintro E w8 ⟨r2, rfl, hl2, haw⟩
    have HL2 := Lib.hid hl2
    replace HL1 := Lib.hid (HL1.out.on haw)
    replace HP := Lib.hid (HP.out.on haw)
    replace HR := Lib.hid (HR.out.on haw)
    replace HS := Lib.hid (HS.out.on haw)
    clear hl2 haw
    go_wp2_with fail
    refine (same_yes HL1.out HL2.out (by have := HP.out.wf.le; simp; omega)).mono ?_
    rintro E w9 ⟨rfl, haw⟩
    replace HP := Lib.hid (HP.out.on haw)
    replace HR := Lib.hid (HR.out.on haw)
    replace HS := Lib.hid (HS.out.on haw)
    clear haw
    go_wp2_with fail
    go_ret
    exact ⟨rfl, _, _, HP.out, HR.out, HS.out, by omega⟩
  have e3 : (x.kd == 3) = false := by simpa using h3
  by_cases h4 : x.kd = 4
  · have e4 : (x.kd == 4) = true := by simpa using h4
    clear h1 h2 h3 h4
    go_wp2_with fail
    clear c0 c2
    refine wp_region_held_drew (S := (fun w' => BoxO w' g5 x)) (by kernel_rfl) (by exact HB.out) (fun hHeld => ?_)
    have haw := (Away.refl [] w1).drew
    replace HP := Lib.hid (HP.out.on haw)
    replace HR := Lib.hid (HR.out.on haw)
    replace HS := Lib.hid (HS.out.on haw)
    clear haw HB
    have HB : Hid True := trivial
    refine wpAnyH_take (i := 0) (v := ?_) (by simp only [List.getElem?_toArray, List.getElem?_cons_zero]; rfl) (by kernel_rfl) (by kernel_rfl) (by kernel_rfl) (by exact fun _ _ _ h => h) (Or.inl ⟨by rfl, ?_⟩) (by assumption) ?_
    rotate_left
    · intro wq hSw
      (try dsimp only at hSw)
      go_simp
      all_goals (with_reducible rfl)
    try simp only [Act.put, List.setIfInBounds_toArray, List.set_cons_zero, List.set_cons_succ]
    refine wpAnyH_take (i := 1) (v := ?_) (by simp only [List.getElem?_toArray, List.getElem?_cons_succ, List.getElem?_cons_zero]; rfl) (by kernel_rfl) (by kernel_rfl) (by kernel_rfl) (by exact fun _ _ _ h => h) (Or.inl ⟨by rfl, ?_⟩) (by assumption) ?_
    rotate_left
    · intro wq hSw
      (try dsimp only at hSw)
      go_simp
      all_goals (with_reducible rfl)
    try simp only [Act.put, List.setIfInBounds_toArray, List.set_cons_zero, List.set_cons_succ]
    refine wpAnyH_take (i := 2) (by simp only [List.getElem?_toArray, List.getElem?_cons_succ, List.getElem?_cons_zero]; rfl) (by kernel_rfl) (by kernel_rfl) (by kernel_rfl) (by exact fun _ _ _ h => h) (yields_ld (ad := ⟨g5, 2, none⟩) (by rfl) _ rfl rfl (fun w' h => ld3 h.cells.2.2.1)) (by assumption) ?_
    try simp only [Act.put, List.setIfInBounds_toArray, List.set_cons_zero, List.set_cons_succ]
    refine wpAnyH_take (i := 4) (v := ?_) (by simp only [List.getElem?_toArray, List.getElem?_cons_succ, List.getElem?_cons_zero]; rfl) (by kernel_rfl) (by kernel_rfl) (by kernel_rfl) (by exact fun _ _ _ h => h) (Or.inl ⟨by rfl, ?_⟩) (by assumption) ?_
    rotate_left
    · intro wq hSw
      (try dsimp only at hSw)
      go_simp
      all_goals (with_reducible rfl)
    try simp only [Act.put, List.setIfInBounds_toArray, List.set_cons_zero, List.set_cons_succ]
    refine wpAnyH_take (i := 5) (v := ?_) (by simp only [List.getElem?_toArray, List.getElem?_cons_succ, List.getElem?_cons_zero]; rfl) (by kernel_rfl) (by kernel_rfl) (by kernel_rfl) (by exact fun _ _ _ h => h) (Or.inl ⟨by rfl, ?_⟩) (by assumption) ?_
    rotate_left
    · intro wq hSw
      (try dsimp only at hSw)
      go_simp
      all_goals (with_reducible rfl)
    try simp only [Act.put, List.setIfInBounds_toArray, List.set_cons_zero, List.set_cons_succ]
    refine wpAnyH_take (i := 6) (by simp only [List.getElem?_toArray, List.getElem?_cons_succ, List.getElem?_cons_zero]; rfl) (by kernel_rfl) (by kernel_rfl) (by kernel_rfl) (by exact fun _ _ _ h => h) (yields_ld (ad := ⟨g5, 2, none⟩) (by rfl) _ rfl rfl (fun w' h => ld3 h.cells.2.2.1)) (by assumption) ?_
    try simp only [Act.put, List.setIfInBounds_toArray, List.set_cons_zero, List.set_cons_succ]
    refine wpAnyH_ready (rs := [3]) (by kernel_rfl) (by simp) ?_
    refine AllReadyH.cons (by simp only [List.getElem?_toArray, List.getElem?_cons_succ, List.getElem?_cons_zero]; rfl) (fun K hK => ?_) AllReadyH.nil
    go_simp
    refine (close_o HP.out x.n).mono ?_
    rintro E w3 ⟨rfl, ho, hc⟩
    obtain ⟨hS, h9⟩ := BoxO.chg hHeld H9.out hc (by omega)
    replace H9 := Lib.hid h9
    replace HR := Lib.hid (HR.out.keep hc (by omega))
    replace HS := Lib.hid (HS.out.chg hc (by omega))
    replace HP := Lib.hid ho
    clear ho hc hHeld h9
    go_wp2_with fail
    refine hK.out _ _ hS (fun hHeld => ?_)
    clear hK K
    try simp only [Act.put, List.setIfInBounds_toArray, List.set_cons_zero, List.set_cons_succ]
    clear hS
    refine wpAnyH_ready (rs := [7]) (by kernel_rfl) (by simp) ?_
    refine AllReadyH.cons (by simp only [List.getElem?_toArray, List.getElem?_cons_succ, List.getElem?_cons_zero]; rfl) (fun K hK => ?_) AllReadyH.nil
    go_simp
    refine (rclose_o HR.out x.n).mono ?_
    rintro E w4 ⟨rfl, ho, hc⟩
    obtain ⟨hS, h9⟩ := BoxO.chg hHeld H9.out hc (by omega)
    replace H9 := Lib.hid h9
    replace HP := Lib.hid (HP.out.keep hc (by omega))
    replace HS := Lib.hid (HS.out.chg hc (by omega))
    replace HR := Lib.hid ho
    clear ho hc hHeld h9
    go_wp2_with fail
    refine hK.out _ _ hS (fun hHeld => ?_)
    clear hK K
    try simp only [Act.put, List.setIfInBounds_toArray, List.set_cons_zero, List.set_cons_succ]
    clear hS
    refine wpAnyH_take (i := 8) (v := ?_) (by simp only [List.getElem?_toArray, List.getElem?_cons_succ, List.getElem?_cons_zero]; rfl) (by kernel_rfl) (by kernel_rfl) (by kernel_rfl) (by exact fun _ _ _ h => h) (Or.inl ⟨by rfl, ?_⟩) (by assumption) ?_
    rotate_left
    · intro wq hSw
      (try dsimp only at hSw)
      go_simp
      all_goals (with_reducible rfl)
    try simp only [Act.put, List.setIfInBounds_toArray, List.set_cons_zero, List.set_cons_succ]
    replace HB := Lib.hid hHeld
    clear hHeld
    refine wpAnyH_done (by kernel_rfl) ?_ _
    go_wp2_with fail
    refine (all_o HP.out 9).mono ?_
    rintro E w7 ⟨r1, rfl, hl1, haw⟩
    have HL1 := Lib.hid hl1.1
    replace HP := Lib.hid (HP.out.on haw)
    replace HR := Lib.hid (HR.out.on haw)
    replace HS := Lib.hid (HS.out.on haw)
    clear hl1 haw
    go_wp2_with fail
    refine (rall_o HR.out).mono ?_
    rintro E w8 ⟨r2, rfl, hl2, haw⟩
    have HL2 := Lib.hid hl2
    replace HL1 := Lib.hid (HL1.out.on haw)
    replace HP := Lib.hid (HP.out.on haw)
    replace HR := Lib.hid (HR.out.on haw)
    replace HS := Lib.hid (HS.out.on haw)
    clear hl2 haw
    go_wp2_with fail
    refine (same_yes HL1.out HL2.out (by have := HP.out.wf.le; simp; omega)).mono ?_
    rintro E w9 ⟨rfl, haw⟩
    replace HP := Lib.hid (HP.out.on haw)
    replace HR := Lib.hid (HR.out.on haw)
    replace HS := Lib.hid (HS.out.on haw)
    clear haw
    go_wp2_with fail
    go_ret
    exact ⟨rfl, _, _, HP.out, HR.out, HS.out, by rw [close_last]; omega⟩
  have e4 : (x.kd == 4) = false := by simpa using h4
  clear h1 h2 h3 h4
  go_wp2_with fail
  refine (all_o HP.out 9).mono ?_
  rintro E w7 ⟨r1, rfl, hl1, haw⟩
  have HL1 := Lib.hid hl1.1
  replace HP := Lib.hid (HP.out.on haw)
  replace HR := Lib.hid (HR.out.on haw)
  replace HS := Lib.hid (HS.out.on haw)
  clear hl1 haw
  go_wp2_with fail
  refine (rall_o HR.out).mono ?_
  rintro E w8 ⟨r2, rfl, hl2, haw⟩
  have HL2 := Lib.hid hl2
  replace HL1 := Lib.hid (HL1.out.on haw)
  replace HP := Lib.hid (HP.out.on haw)
  replace HR := Lib.hid (HR.out.on haw)
  replace HS := Lib.hid (HS.out.on haw)
  clear hl2 haw
  go_wp2_with fail
  refine (same_yes HL1.out HL2.out (by have := HP.out.wf.le; simp; omega)).mono ?_
  rintro E w9 ⟨rfl, haw⟩
  replace HP := Lib.hid (HP.out.on haw)
  replace HR := Lib.hid (HR.out.on haw)
  replace HS := Lib.hid (HS.out.on haw)
  clear haw
  go_wp2_with fail
  go_ret
  exact ⟨rfl, _, _, HP.out, HR.out, HS.out, by omega⟩
end Go.Proofs.Ytemdgggpfadecaa
