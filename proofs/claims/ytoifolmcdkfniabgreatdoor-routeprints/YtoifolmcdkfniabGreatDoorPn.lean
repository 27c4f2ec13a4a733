/-
  What Print writes.
-/
import Derived.Test.YtoifolmcdkfniabGreatDoorKnD
import Derived.Test.YtoifolmcdkfniabGreatDoorPrint
import Derived.Test.YtoifolmcdkfniabGreatDoorBack1
import Derived.Shelf.Strings.BuilderK
namespace Go.Proofs.YtoifolmcdkfniabGreatDoor
open Go.ChangeShapes Go.WideShapes Go.ChangeAt Go.RowKit Go.Shelf
set_option linter.unusedVariables false
set_option linter.unusedSimpArgs false
set_option maxRecDepth 100000

theorem itoa_len {x : Int} (h0 : 0 ≤ x) (h : x ≤ 255) : (Lib.itoa x).length ≤ 3 := by
  obtain ⟨n, rfl⟩ : ∃ n : Nat, x = (n : Int) := ⟨x.toNat, by omega⟩
  rw [itoa_dec3 (by omega)]
  unfold dec3
  split
  · simp
  · split <;> simp
theorem printP_len {v : Int} {l : List Int} (hl : l.length = 16) (hb : ∀ x ∈ l, 0 ≤ x ∧ x ≤ 255) : (printP v l).length ≤ 700 := by
  unfold printP
  split
  · simp
  · split
    · obtain ⟨b0, b1, b2, b3, b4, b5, b6, b7, b8, b9, b10, b11, b12, b13, b14, b15, rfl⟩ := list16 hl
      have h0 := itoa_len (hb b0 (by simp)).1 (hb b0 (by simp)).2
      have h1 := itoa_len (hb b1 (by simp)).1 (hb b1 (by simp)).2
      have h2 := itoa_len (hb b2 (by simp)).1 (hb b2 (by simp)).2
      have h3 := itoa_len (hb b3 (by simp)).1 (hb b3 (by simp)).2
      show (printD [b0, b1, b2, b3]).length ≤ 700
      unfold printD
      rw [List.map_cons, Lib.join_cons]
      simp [Lib.joinTail]
      omega
    · have hle := zst_le (grpOf l) 8
      have hg := grpOf_length hl
      unfold printS
      split
      · have := printG_len (grpOf l) (by omega); omega
      · have h1 := printG_len ((grpOf l).take (zst (grpOf l) 8).1) (by simp; omega)
        have h2 := printG_len ((grpOf l).drop (zst (grpOf l) 8).2.1) (by simp; omega)
        simp; omega
def lineT (x : Rt) : List UInt8 := (((printP x.v x.l ++ [47]) ++ Lib.itoa x.b) ++ [32] ++ Lib.itoa x.k) ++ [10]
def textP (S : List Rt) : List UInt8 := S.flatMap lineT
theorem line_len {x : Rt} (hx : Okr x) (hm : mayR x = true) : (lineT x).length ≤ 800 := by
  obtain ⟨h1, -, h3, h4⟩ := mayR_iff.1 hm
  obtain ⟨-, h6, h7⟩ := ok_iff.1 h1
  have e1 := printP_len (v := x.v) hx.1 hx.2
  have e2 := itoa_len (x := x.b) h6 (by split at h7 <;> omega)
  have e3 := itoa_len (x := x.k) h3 (by omega)
  unfold lineT
  simp only [List.length_append, List.length_cons, List.length_nil]
  omega
theorem text_len : ∀ S : List Rt, (∀ x ∈ S, Okr x ∧ mayR x = true) → (textP S).length ≤ 800 * S.length
  | [], _ => by simp [textP]
  | x :: r, h => by
    have h1 := line_len (h x (by simp)).1 (h x (by simp)).2
    have h2 := text_len r (fun y hy => h y (by simp [hy]))
    unfold textP at h2 ⊢
    rw [List.flatMap_cons, List.length_append, List.length_cons]
    omega
theorem text_next {S : List Rt} {k : Nat} {x : Rt} (h : S[k]? = some x) : textP (S.take (k + 1)) = textP (S.take k) ++ lineT x := by
  have hk := List.getElem?_eq_some_iff.1 h
  unfold textP
  rw [List.take_succ_eq_append_getElem hk.1, List.flatMap_append, hk.2]
  simp
theorem isbF_on {T e : TypeId} {B b : Nat} {bs : List Value} {w w' : World} (h : Lib.IsBuilderF T e B b bs w) (hw : Away [] w w') : Lib.IsBuilderF T e B b bs w' := by
  have key : ∀ p, Lib.BuilderAtF T e B b p bs w → Lib.BuilderAtF T e B b p bs w' := by
    rintro p ⟨h1, v, h2, ⟨h3, h4⟩, h5⟩
    refine ⟨h1, v, hw.keep (by simp) h2, ⟨h3, ?_⟩, h5⟩
    rcases h4 with h4 | ⟨g, cap, cur, fz, hv, hb, hg, r⟩
    · exact .inl h4
    · exact .inr ⟨g, cap, cur, fz, hv, hb, hw.keep (by simp) hg, r⟩
  rcases h with h | h
  · exact .inl (key _ h)
  · exact .inr (key _ h)
def PrintOut (w : World) (L : List Rt) (E : Ending) (w' : World) : Prop :=
  ((mayL L = false ∧ E = .returned (.tuple #[.string ⟨#[]⟩, .int .i64 1])) ∨ (mayL L = true ∧ ∃ S, IsOrd L S ∧ E = .returned (.tuple #[.string ⟨(textP S).toArray⟩, .int .i64 0]))) ∧ Away [] w w'
theorem wpList_allocB {ops : Array Oper} {rest : List Oper} {o : Oper} {a : Act} {w : World} {Q : Exit → Act → World → Prop} (hg : o.guard = none) (ho : o.op = .alloc 34)
    (h : ∀ g w1, g = w.heap.size → Lib.IsBuilderF 34 5 g g [] w1 → Away [] w w1 → wpList Tryz.prog ops Q rest (a.put o.dst (.pointer (some ⟨g, 0, none⟩))) w1) : wpList Tryz.prog ops Q (o :: rest) a w := by
  refine wpList_plain hg fun K hK => ?_
  unfold Oper.wp execOp
  simp only [ho, Sem.run_bind, Instr.alloc, Tryz.zeroValue34, newVar, newRow, run_newObj_alloc, Sem.run_pure, Result.andThen_ok]
  exact hK _ _ (h w.heap.size _ rfl (.inl ⟨Nat.le_refl _, .slice none 0 0, block_new _ _, World.ownsRowF_nil _ _ _ _, by simp [Value.ownBlock]⟩) ((Away.refl [] w).alloc _))
theorem itoa_c (n : Int) (h0 : 0 ≤ n) (h1 : n ≤ 1000) (w : World) (hg : Glob w) : Calls Tryz.prog 11 #[.int .i64 n] w fun e w' => e = .returned (.string ⟨(Lib.itoa n).toArray⟩) ∧ Below w.heap.size w w' :=
  (Tryz.strconv_Itoa n (by omega) (by omega) w hg.pow).mono (by
    rintro e w' ⟨rfl, q, os, rfl⟩
    exact ⟨rfl, ⟨rfl, rfl, rfl, by simp [Go.Sort.grow], fun j hj => by simp [Go.Sort.grow, Array.getElem?_append, hj]⟩⟩)
set_option maxHeartbeats 8000000 in
theorem print_r {w : World} {v : Value} {L : List Rt} (h : Rd w v L) (hl : L.length ≤ 3518437208790) (hg : Glob w) : Calls Tryz.prog 4 #[v] w (PrintOut w L) := by
  have HIN := Lib.hid (inOrder_c h hl)
  have HOK := Lib.hid h.ok
  have HG := Lib.hid hg
  obtain ⟨a, cap, rfl, -, -⟩ := h.shp
  obtain ⟨nn, hnn⟩ : ∃ n, n = L.length := ⟨_, rfl⟩
  rw [← hnn] at HIN ⊢
  clear h hl hg hnn
  go_enter Tryz.func4, Tryz.ntmps4
  go_wp2_with (go_at_call 8; refine HIN.out.mono ?_; refine Hid.out ?_)
  refine Lib.hid ?_
  rintro E w1 (⟨hm, rfl, haw⟩ | ⟨hm, u, S, rfl, ho, hown, hnew, haw⟩)
  · have HM := Lib.hid hm
    have HA := Lib.hid haw
    clear hm haw HIN
    go_wp2_with fail
    go_ret2
    exact ⟨.inl ⟨HM.out, rfl⟩, HA.out⟩
  have HM := Lib.hid hm
  have HO := Lib.hid ho
  have HA1 := Lib.hid haw
  have HOS := Lib.hid (ord_ok ho HOK.out)
  have HRS := Lib.hid (hown.rd HOS.out)
  have HMS : Hid (∀ x ∈ S, mayR x = true) := fun x hx => (mayL_iff.1 hm).2.1 x (ho.1.mem_iff.1 hx)
  have hn32 : S.length ≤ 32 := by rw [ho.1.length_eq]; exact (mayL_iff.1 hm).1
  obtain ⟨la, lc, rfl, hlc⟩ := hown.sl
  obtain ⟨n, hn⟩ : ∃ n, n = S.length := ⟨_, rfl⟩
  rw [← hn] at hn32 hlc HRS ⊢
  have HN := Lib.hid hn
  obtain ⟨a', c', he, -, hsh⟩ := HRS.out.shp
  simp only [Value.slice.injEq] at he
  obtain ⟨rfl, -, rfl⟩ := he
  have HSH := Lib.hid hsh
  clear hm ho hown hnew haw HIN hn hsh
  go_wp2_with (refine wpList_allocB rfl rfl ?_; refine Hid.out ?_)
  refine Lib.hid ?_
  intro g6 w2 hg6 hib haw
  have HG6 := Lib.hid hg6
  have HIB := Lib.hid hib
  have HA2 := Lib.hid (HA1.out.trans haw)
  have HG2 := Lib.hid (HG.out.aw HA2.out)
  have HG64 : Hid (4 ≤ g6 ∧ g6 < w2.heap.size ∧ w.heap.size ≤ g6) := ⟨by rw [hg6]; exact (HG.out.aw HA1.out).size, by rcases hib with h | h <;> exact h.lt, by rw [hg6]; exact HA1.out.size⟩
  have HRW : Hid (∀ (j : Nat) (x : Rt) w', S[j]? = some x → Below g6 w2 w' → ∃ b o, la = some ⟨b, o, none⟩ ∧ w'.rangeAt b (o + j * 19) (listD x)) := fun j x w' hx hw' => by
    rcases HSH.out with he | ⟨b, o, ha, hrg⟩
    · rw [he] at hx; simp at hx
    · refine ⟨b, o, ha, fun i u hu => ?_⟩
      have c1 := hrg j x hx i u hu
      have hb := block_lt_of_cell c1
      have c2 := haw.cell (by simp) c1
      exact (hw'.cell (show b < g6 by rw [HG6.out]; exact hb)).trans c2
  clear hg6 hib haw
  go_wp2_with fail
  go_loopw [18] (fun iv wr => ∃ k : Nat, iv = .int .i64 (k : Int) ∧ k ≤ n ∧ Lib.IsBuilderF 34 5 g6 g6 (Lib.byteCells (textP (S.take k))) wr ∧ Below g6 w2 wr) (fun iv _ => n - (intOf iv).toNat)
  case atStart => exact ⟨0, rfl, Nat.zero_le _, HIB.out, Below.refl _ _⟩
  case round =>
    obtain ⟨k, rfl, hk, hib, hbl⟩ := hrel
    have HIK := Lib.hid hib
    have HBL := Lib.hid hbl
    have HGW := Lib.hid (HG2.out.below hbl HG64.out.1)
    clear hib hbl
    by_cases hkn : k < n
    · have k1 : decide (k < n) = true := by simp; omega
      have k0 : (k : Int) < (n : Int) := by omega
      obtain ⟨x, hx, hxm⟩ := get_of (show k < S.length by rw [← HN.out]; omega)
      have HX := Lib.hid hx
      have HXO := Lib.hid (HOS.out x hxm)
      have HXM := Lib.hid (HMS.out x hxm)
      obtain ⟨b, o, ha, hrg⟩ := HRW.out k x wr hx HBL.out
      subst ha
      have HRG := Lib.hid hrg
      have hg6w : g6 < wr.heap.size := Nat.lt_of_lt_of_le HG64.out.2.1 HBL.out.size
      clear hx hxm hrg hkn
      go_wp2_with (first
        | (refine wpList_ixR rfl _ _ rfl b o n lc k rfl rfl (by omega) ?_)
        | (refine wpList_loadE rfl _ rfl b (o + k * 19) rfl x HXO.out (by exact HRG.out) ?_)
        | (refine wpList_allocE rfl rfl ?_; refine Hid.out ?_))
      refine Lib.hid ?_
      intro g8 w3 hg8 hbx haw
      have HBX := Lib.hid hbx
      have HA3 := Lib.hid haw
      clear haw hbx
      go_wp2_with (refine wpList_storeE rfl _ _ rfl g8 rfl x zeroD HXO.out zeroD_ok rfl HBX.out ?_; refine Hid.out ?_)
      refine Lib.hid ?_
      intro w4 hbx haw
      replace HBX := Lib.hid hbx
      have HA4 : Hid (Away [] wr w4) := HA3.out.next haw (fun z hz => .inr (by simp at hz; subst hz; omega))
      have HIB4 := Lib.hid (isbF_on HIK.out HA4.out)
      have HG4 := Lib.hid (HGW.out.aw HA4.out)
      have hg64 : g6 < w4.heap.size := Nat.lt_of_lt_of_le hg6w HA4.out.size
      have HBX4 : Hid (∀ w', Away [] w4 w' → BoxD w' g8 x) := fun w' hw' => HBX.out.on hw' (by simp)
      have hbb := (ok_iff.1 (mayR_iff.1 HXM.out).1).2
      have HP := Lib.hid (fun w' (hw' : Away [] w4 w') => print_c x.v x.l HXO.out.1 HXO.out.2 w' (HG4.out.aw hw'))
      have HI1 := Lib.hid (fun w' (hw' : Away [] w4 w') => itoa_c x.b hbb.1 (by have h7 := hbb.2; split at h7 <;> omega) w' (HG4.out.aw hw'))
      have HI2 := Lib.hid (fun w' (hw' : Away [] w4 w') => itoa_c x.k (mayR_iff.1 HXM.out).2.2.1 (by have := (mayR_iff.1 HXM.out).2.2.2; omega) w' (HG4.out.aw hw'))
      have HLEN : Hid ((Lib.byteCells (textP (S.take k))).length + (ByteArray.mk (lineT x).toArray).size ≤ 140737488355328) := by
        show _ ≤ _
        have h1 := text_len (S.take k) (fun y hy => ⟨HOS.out y (List.mem_of_mem_take hy), HMS.out y (List.mem_of_mem_take hy)⟩)
        have h2 := line_len HXO.out HXM.out
        have h3 : (S.take k).length ≤ 32 := by rw [List.length_take]; omega
        rw [bsz]
        unfold Lib.byteCells
        rw [List.length_map]
        omega
      have htn := text_next HX.out
      have h8 := line_len HXO.out HXM.out
      have hlt : lineT x = ((((printP x.v x.l ++ [47]) ++ Lib.itoa x.b) ++ [32]) ++ Lib.itoa x.k) ++ [10] := rfl
      obtain ⟨X0, hX0⟩ : ∃ t, t = printP x.v x.l := ⟨_, rfl⟩
      obtain ⟨X1, hX1⟩ : ∃ t, t = Lib.itoa x.b := ⟨_, rfl⟩
      obtain ⟨X2, hX2⟩ : ∃ t, t = Lib.itoa x.k := ⟨_, rfl⟩
      rw [← hX0] at HP hlt
      rw [← hX1] at HI1 hlt
      rw [← hX2] at HI2 hlt
      obtain ⟨D1, hD1⟩ : ∃ t, t = X0 ++ [47] := ⟨_, rfl⟩
      obtain ⟨E1, hE1⟩ : ∃ t, t = D1 ++ X1 := ⟨_, rfl⟩
      obtain ⟨D2, hD2⟩ : ∃ t, t = E1 ++ [32] := ⟨_, rfl⟩
      obtain ⟨E2, hE2⟩ : ∃ t, t = D2 ++ X2 := ⟨_, rfl⟩
      obtain ⟨D3, hD3⟩ : ∃ t, t = E2 ++ [10] := ⟨_, rfl⟩
      rw [← hD1, ← hE1, ← hD2, ← hE2, ← hD3] at hlt
      rw [hlt] at htn HLEN h8
      have hl3 : D3.length = X0.length + 1 + X1.length + 1 + X2.length + 1 := by rw [hD3, hE2, hD2, hE1, hD1]; simp only [List.length_append, List.length_cons, List.length_nil]
      have cD1 : ∀ W, (Op.stringOp .add ⟨X0.toArray⟩ ⟨#[47]⟩).run Tryz.prog W = .ok (.string ⟨D1.toArray⟩) W := fun W => by rw [hD1]; exact concat_c X0 [47] (by simp; omega) W
      have cE1 : ∀ W, (Op.stringOp .add ⟨D1.toArray⟩ ⟨X1.toArray⟩).run Tryz.prog W = .ok (.string ⟨E1.toArray⟩) W := fun W => by rw [hE1]; exact concat_c _ _ (by rw [hD1]; simp; omega) W
      have cD2 : ∀ W, (Op.stringOp .add ⟨E1.toArray⟩ ⟨#[32]⟩).run Tryz.prog W = .ok (.string ⟨D2.toArray⟩) W := fun W => by rw [hD2]; exact concat_c E1 [32] (by rw [hE1, hD1]; simp; omega) W
      have cE2 : ∀ W, (Op.stringOp .add ⟨D2.toArray⟩ ⟨X2.toArray⟩).run Tryz.prog W = .ok (.string ⟨E2.toArray⟩) W := fun W => by rw [hE2]; exact concat_c _ _ (by rw [hD2, hE1, hD1]; simp; omega) W
      have cD3 : ∀ W, (Op.stringOp .add ⟨E2.toArray⟩ ⟨#[10]⟩).run Tryz.prog W = .ok (.string ⟨D3.toArray⟩) W := fun W => by rw [hD3]; exact concat_c E2 [10] (by rw [hE2, hD2, hE1, hD1]; simp; omega) W
      have HTN := Lib.hid htn
      clear hX0 hX1 hX2 hD1 hE1 hD2 hE2 hD3 hlt htn h8 hl3
      have HY1 : Hid (Away [] w4 w4.drew) := (Away.refl [] w4).drew
      clear hbx haw HA3 hbb
      go_wp2_with fail
      refine wp_region_held_drew (S := fun w' => BoxD w' g8 x) (by kernel_rfl) (by exact HBX.out) (fun hHeld => ?_)
      refine wpAnyH_take (i := 0) (v := ?_) (by simp only [List.getElem?_toArray, List.getElem?_cons_zero]; rfl) (by kernel_rfl) (by kernel_rfl) (by kernel_rfl) (by exact fun _ _ _ h => h) (Or.inl ⟨by rfl, ?_⟩) (by assumption) ?_
      rotate_left
      · intro wq hSw
        (try dsimp only at hSw)
        go_simp
        all_goals (with_reducible rfl)
      try simp only [Act.put, List.setIfInBounds_toArray, List.set_cons_zero, List.set_cons_succ]
      refine wpAnyH_take (i := 1) (by simp only [List.getElem?_toArray, List.getElem?_cons_succ, List.getElem?_cons_zero]; rfl) (by kernel_rfl) (by kernel_rfl) (by kernel_rfl) (by exact fun _ _ _ h => h) (yields_ld (ad := ⟨g8, 0, none⟩) (by rfl) _ rfl rfl (fun w' h => load32m_run (k := 0) (range_a h.range HXO.out) HXO.out.1)) (by assumption) ?_
      try simp only [Act.put, List.setIfInBounds_toArray, List.set_cons_zero, List.set_cons_succ]
      refine wpAnyH_take (i := 4) (v := ?_) (by simp only [List.getElem?_toArray, List.getElem?_cons_succ, List.getElem?_cons_zero]; rfl) (by kernel_rfl) (by kernel_rfl) (by kernel_rfl) (by exact fun _ _ _ h => h) (Or.inl ⟨by rfl, ?_⟩) (by assumption) ?_
      rotate_left
      · intro wq hSw
        (try dsimp only at hSw)
        go_simp
        all_goals (with_reducible rfl)
      try simp only [Act.put, List.setIfInBounds_toArray, List.set_cons_zero, List.set_cons_succ]
      refine wpAnyH_take (i := 5) (by simp only [List.getElem?_toArray, List.getElem?_cons_succ, List.getElem?_cons_zero]; rfl) (by kernel_rfl) (by kernel_rfl) (by kernel_rfl) (by exact fun _ _ _ h => h) (yields_ld (ad := ⟨g8, 17, none⟩) (by rfl) _ rfl rfl (fun w' h => ld3 (by have h1 := range_b h.range HXO.out; simpa using h1))) (by assumption) ?_
      try simp only [Act.put, List.setIfInBounds_toArray, List.set_cons_zero, List.set_cons_succ]
      refine wpAnyH_take (i := 9) (v := ?_) (by simp only [List.getElem?_toArray, List.getElem?_cons_succ, List.getElem?_cons_zero]; rfl) (by kernel_rfl) (by kernel_rfl) (by kernel_rfl) (by exact fun _ _ _ h => h) (Or.inl ⟨by rfl, ?_⟩) (by assumption) ?_
      rotate_left
      · intro wq hSw
        (try dsimp only at hSw)
        go_simp
        all_goals (with_reducible rfl)
      try simp only [Act.put, List.setIfInBounds_toArray, List.set_cons_zero, List.set_cons_succ]
      refine wpAnyH_take (i := 10) (by simp only [List.getElem?_toArray, List.getElem?_cons_succ, List.getElem?_cons_zero]; rfl) (by kernel_rfl) (by kernel_rfl) (by kernel_rfl) (by exact fun _ _ _ h => h) (yields_ld (ad := ⟨g8, 18, none⟩) (by rfl) _ rfl rfl (fun w' h => ld3 (by have h1 := range_k h.range HXO.out; simpa using h1))) (by assumption) ?_
      try simp only [Act.put, List.setIfInBounds_toArray, List.set_cons_zero, List.set_cons_succ]
      refine wpAnyH_ready (rs := [2]) (by kernel_rfl) (by simp) ?_
      refine AllReadyH.cons (by simp only [List.getElem?_toArray, List.getElem?_cons_succ, List.getElem?_cons_zero]; rfl) (fun K hK => ?_) AllReadyH.nil
      go_simp
      refine (HP.out _ (HY1.out)).mono ?_
      rintro E y2 ⟨rfl, hbl⟩
      have Hy2 := Lib.hid (HY1.out.trans (Away.of_below hbl))
      have HBy2 : Hid (BoxD y2 g8 x) := HBX4.out _ Hy2.out
      clear hbl
      refine hK.out _ _ (by exact HBy2.out) (fun hHeld => ?_)
      clear hK K
      try simp only [Act.put, List.setIfInBounds_toArray, List.set_cons_zero, List.set_cons_succ]
      refine wpAnyH_take (i := 3) (v := ?_) (by simp only [List.getElem?_toArray, List.getElem?_cons_succ, List.getElem?_cons_zero]; rfl) (by kernel_rfl) (by kernel_rfl) (by kernel_rfl) (by exact fun _ _ _ h => h) (Or.inl ⟨by rfl, ?_⟩) (by assumption) ?_
      rotate_left
      · intro wq hSw
        (try dsimp only at hSw)
        go_simp
        all_goals (with_reducible rfl)
      try simp only [Act.put, List.setIfInBounds_toArray, List.set_cons_zero, List.set_cons_succ]
      refine wpAnyH_ready (rs := [6]) (by kernel_rfl) (by simp) ?_
      refine AllReadyH.cons (by simp only [List.getElem?_toArray, List.getElem?_cons_succ, List.getElem?_cons_zero]; rfl) (fun K hK => ?_) AllReadyH.nil
      go_simp
      refine (HI1.out _ (Hy2.out)).mono ?_
      rintro E y3 ⟨rfl, hbl⟩
      have Hy3 := Lib.hid (Hy2.out.trans (Away.of_below hbl))
      have HBy3 : Hid (BoxD y3 g8 x) := HBX4.out _ Hy3.out
      clear hbl
      refine hK.out _ _ (by exact HBy3.out) (fun hHeld => ?_)
      clear hK K
      try simp only [Act.put, List.setIfInBounds_toArray, List.set_cons_zero, List.set_cons_succ]
      refine wpAnyH_take (i := 7) (v := ?_) (by simp only [List.getElem?_toArray, List.getElem?_cons_succ, List.getElem?_cons_zero]; rfl) (by kernel_rfl) (by kernel_rfl) (by kernel_rfl) (by exact fun _ _ _ h => h) (Or.inl ⟨by rfl, ?_⟩) (by assumption) ?_
      rotate_left
      · intro wq hSw
        (try dsimp only at hSw)
        go_simp
        all_goals (with_reducible rfl)
      try simp only [Act.put, List.setIfInBounds_toArray, List.set_cons_zero, List.set_cons_succ]
      refine wpAnyH_take (i := 8) (v := ?_) (by simp only [List.getElem?_toArray, List.getElem?_cons_succ, List.getElem?_cons_zero]; rfl) (by kernel_rfl) (by kernel_rfl) (by kernel_rfl) (by exact fun _ _ _ h => h) (Or.inl ⟨by rfl, ?_⟩) (by assumption) ?_
      rotate_left
      · intro wq hSw
        (try dsimp only at hSw)
        go_simp
        all_goals (with_reducible rfl)
      try simp only [Act.put, List.setIfInBounds_toArray, List.set_cons_zero, List.set_cons_succ]
      refine wpAnyH_ready (rs := [11]) (by kernel_rfl) (by simp) ?_
      refine AllReadyH.cons (by simp only [List.getElem?_toArray, List.getElem?_cons_succ, List.getElem?_cons_zero]; rfl) (fun K hK => ?_) AllReadyH.nil
      go_simp
      refine (HI2.out _ (Hy3.out)).mono ?_
      rintro E y4 ⟨rfl, hbl⟩
      have Hy4 := Lib.hid (Hy3.out.trans (Away.of_below hbl))
      have HBy4 : Hid (BoxD y4 g8 x) := HBX4.out _ Hy4.out
      clear hbl
      refine hK.out _ _ (by exact HBy4.out) (fun hHeld => ?_)
      clear hK K
      try simp only [Act.put, List.setIfInBounds_toArray, List.set_cons_zero, List.set_cons_succ]
      refine wpAnyH_take (i := 12) (v := ?_) (by simp only [List.getElem?_toArray, List.getElem?_cons_succ, List.getElem?_cons_zero]; rfl) (by kernel_rfl) (by kernel_rfl) (by kernel_rfl) (by exact fun _ _ _ h => h) (Or.inl ⟨by rfl, ?_⟩) (by assumption) ?_
      rotate_left
      · intro wq hSw
        (try dsimp only at hSw)
        go_simp
        all_goals (with_reducible rfl)
      try simp only [Act.put, List.setIfInBounds_toArray, List.set_cons_zero, List.set_cons_succ]
      refine wpAnyH_take (i := 13) (v := ?_) (by simp only [List.getElem?_toArray, List.getElem?_cons_succ, List.getElem?_cons_zero]; rfl) (by kernel_rfl) (by kernel_rfl) (by kernel_rfl) (by exact fun _ _ _ h => h) (Or.inl ⟨by rfl, ?_⟩) (by assumption) ?_
      rotate_left
      · intro wq hSw
        (try dsimp only at hSw)
        go_simp
        all_goals (with_reducible rfl)
      try simp only [Act.put, List.setIfInBounds_toArray, List.set_cons_zero, List.set_cons_succ]
      refine wpAnyH_ready (rs := [14]) (by kernel_rfl) (by simp) ?_
      refine AllReadyH.cons (by simp only [List.getElem?_toArray, List.getElem?_cons_succ, List.getElem?_cons_zero]; rfl) (fun K hK => ?_) AllReadyH.nil
      go_simp
      refine (Any.Builder_WriteString_k Tryz.lays166 Tryz.Builder_Extra_166 g6 g6 _ ⟨D3.toArray⟩ y4 (by exact isbF_on HIB4.out Hy4.out) (by exact HLEN.out) (by have h1 := Hy4.out.size; omega)).mono ?_
      rintro E y5 ⟨rfl, hb5, hbl5, hot⟩
      have HB5 : Hid (BoxD y5 g8 x) := hot g8 _ HBy4.out (by simp; omega) (by intro c fz h0; injection h0 with _ h2 _; revert h2; decide)
      have HI5 := Lib.hid hb5
      have HL5 : Hid (Below g6 w4 y5) := (Hy4.out.to_below.mono (by omega)).trans hbl5
      clear hb5 hbl5 hot
      refine hK.out _ _ (by exact HB5.out) (fun hHeld => ?_)
      clear hK K
      try simp only [Act.put, List.setIfInBounds_toArray, List.set_cons_zero, List.set_cons_succ]
      refine wpAnyH_done (by kernel_rfl) ?_ _
      clear hHeld
      have HIB5 : Hid (Lib.IsBuilderF 34 5 g6 g6 (Lib.byteCells (textP (S.take (k + 1)))) y5) := by
        refine .inr ?_
        have h1 := HI5.out
        rw [HTN.out]
        unfold Lib.byteCells at h1 ⊢
        rw [List.map_append]
        exact h1
      have HBL5 : Hid (Below g6 w2 y5) := (HBL.out.trans (HA4.out.to_below.mono (by omega))).trans HL5.out
      go_wp2_with fail
      go_roundw
      case rel => exact ⟨k + 1, by go_num, by omega, HIB5.out, HBL5.out⟩
      case measure => simp [intOf]; omega
    · have k1 : decide (k < n) = false := by simp; omega
      have HST := Lib.hid (Tryz.Builder_String_any_f g6 g6 (textP S) wr (by have h1 := HIK.out; rw [List.take_of_length_le (by rw [← HN.out]; omega)] at h1; exact h1) (by have := HG64.out; have := HBL.out.size; omega))
      clear hkn
      go_wp2_with (go_at_call 12; refine HST.out.mono ?_; refine Hid.out ?_)
      refine Lib.hid ?_
      rintro E w9 ⟨rfl, -, hbl⟩
      have HB9 : Hid (Below g6 w2 w9) := HBL.out.trans hbl
      clear hbl HST
      go_wp2_with fail
      go_ret2
      refine ⟨.inr ⟨HM.out, S, HO.out, rfl⟩, ?_⟩
      have h1 : Below w.heap.size w w9 := HA2.out.to_below.trans (HB9.out.mono HG64.out.2.2)
      exact Away.of_below h1
end Go.Proofs.YtoifolmcdkfniabGreatDoor
