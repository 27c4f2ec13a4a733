/-
  The document's own: at, Parse.
-/
import Derived.Test.YtbmppdihceaacaaRefR
import Derived.Test.YtbmppdihceaacaaPiece
import Derived.Deep.RegionHeld3
import Derived.Deep.CutRange
namespace Go.Proofs.Ytbmppdihceaacaa
open Go.ChangeShapes Go.WideShapes Go.ChangeAt Go.RowKit Num
set_option linter.unusedVariables false
set_option maxHeartbeats 8000000
set_option maxRecDepth 100000

theorem yields_ix {ops : Array Oper} {S : World → Prop} {op : Oper} {a : Act} {gb off n cap : Nat} (hw : Region.wanted op (yielded ops a.tmps) = true) (x ix : Operand) (ho : op.op = .indexAddr 26 x ix) (i : Nat) (hx : a.eval x = .slice (some ⟨gb, off, none⟩) n cap) (hix : a.eval ix = .int .i64 (i : Int)) (hi : i < n) : YieldsIf Try.prog ops S op (.pointer (some ⟨gb, off + i, none⟩)) a :=
  .inl ⟨hw, fun w hw' => by
    have he : Try.prog.elem 26 = 5 := by kernel_rfl
    have hsz : (sizeOf 5).run Try.prog w = .ok 1 w := by kernel_rfl
    unfold execOp
    simp only [ho, hx, hix, Sem.run_bind]
    rw [run_indexAt_slice w 26 ⟨gb, off, none⟩ n cap .i64 (i : Int) under22, he, if_pos ⟨by omega, by omega⟩, hsz]
    simp only [Result.andThen, add_plain, Int.toNat_natCast, Nat.mul_one]
    rfl⟩
theorem wp_alloc28 {o : Oper} {a : Act} {w : World} {K : Act → World → Prop} {Q : Exit → Act → World → Prop} (ho : o.op = .alloc 28)
    (h : ∀ g w1, w.heap.size ≤ g → BoxP w1 g zeroPk (.slice none 0 0) (.slice none 0 0) → Away [] w w1 → K (a.put o.dst (.pointer (some ⟨g, 0, none⟩))) w1) : Oper.wp Try.prog o a w K Q := by
  have hz : (zeroValue 28).run Try.prog w = .ok (.agg (csP zeroPk (.slice none 0 0) (.slice none 0 0))) w := by
    have := zero28
    cases hi : Try.prog.info? 28 with
    | none => rw [hi] at this; simp at this
    | some i => rw [hi] at this; simp at this; simp [zeroValue, typeInfo, hi, this]
  unfold Oper.wp execOp
  simp only [ho, Sem.run_bind, Instr.alloc, hz, newVar, newRow, run_newObj_alloc, Sem.run_pure, Result.andThen_ok]
  exact h w.heap.size _ (Nat.le_refl _) (block_new _ _) ((Away.refl [] w).alloc _)
theorem wp_store28 {o : Oper} {a : Act} {w : World} {K : Act → World → Prop} {Q : Exit → Act → World → Prop} (x y : Operand) (ho : o.op = .store 28 x y)
    (g : Nat) (hx : a.eval x = .pointer (some ⟨g, 0, none⟩)) (p : Pk) (ov dv : Value) (hy : a.eval y = .agg (csP p ov dv)) (q : Pk) (ou du : Value) (hb : BoxP w g q ou du) (ha : Ad p) (hq : Ad q) (h1 : ov.oneCell' = true) (h2 : dv.oneCell' = true)
    (h : ∀ w1, BoxP w1 g p ov dv → Away [g] w w1 → K (a.put o.dst undef) w1) : Oper.wp Try.prog o a w K Q :=
  wp_store_row 28 x y ho g (csP p ov dv) hx hy 28 (csP q ou du) hb (by rw [csP_size ha]; exact info28) (by rw [csP_size ha, csP_size hq]) (csP_one p ov dv h1 h2) (h _ (by
    unfold BoxP at hb ⊢; simp [World.setRow, Array.getElem?_modify, hb]) ((Away.refl [g] w).setRow (.inl (by simp)) _))
theorem step_store26 {ops : Array Oper} {o : Oper} {a : Act} {w : World} {K : Act → World → Prop} {Q : Exit → Act → World → Prop} {E : Prop} (hg : o.guard = none) (s r : Nat)
    (ho : o.op = .store 26 (.tmp s) (.tmp r)) (g i : Nat) (hx : a.tmps[s]?.getD undef = .pointer (some ⟨g, i, none⟩)) (b : Option Addr) (n c : Nat) (hy : a.tmps[r]?.getD undef = .slice b n c) (u : Value) (hc : w.cell? ⟨g, i, none⟩ = some u) (hf : w.frozen? ⟨g, i, none⟩ = false)
    (hK : K (a.put o.dst undef) (w.setCell ⟨g, i, none⟩ (.slice b n c))) :
    if Region.wanted o (yielded ops a.tmps) = true then Oper.wp Try.prog o a w K Q else E := by
  have hw : Region.wanted o (yielded ops a.tmps) = true := by simp [Region.wanted, hg]
  rw [if_pos hw]
  obtain ⟨d, op, ty, ps, af, gd⟩ := o
  simp only at ho
  subst ho
  go_simp
  exact hK
theorem at_c (blk off : Nat) (b : List Int) (cap : Nat) (i : Nat) (w : World) (hr : Row w (some ⟨blk, off, none⟩) b) (hi : i + 1 < b.length) :
    Calls Try.prog 36 #[.slice (some ⟨blk, off, none⟩) b.length cap, .int .i64 (i : Int)] w fun E w' => E = .returned (.int .i64 (wd b i)) ∧ Away [] w w' := by
  have hlen := hr.1
  rcases hr.2.2 with h0 | ⟨b', o', he, hcell⟩
  · rw [h0] at hi; simp at hi
  · simp only [Option.some.injEq, Addr.mk.injEq, and_true] at he
    obtain ⟨rfl, rfl⟩ := he
    have c0 : w.cell? ⟨blk, off + i, none⟩ = some (.int .u8 (gt b i)) := hcell i (by omega)
    have c1 : w.cell? ⟨blk, off + (i + 1), none⟩ = some (.int .u8 (gt b (i + 1))) := hcell (i + 1) (by omega)
    have g0 := gt_bd hr.2.1 i; have g1 := gt_bd hr.2.1 (i + 1)
    have HW : Hid (wd b i = 256 * gt b i + gt b (i + 1)) := rfl
    clear hcell hr
    generalize gt b i = x at *
    generalize gt b (i + 1) = y at *
    go_enter Try.func36, Try.ntmps36
    go_wp2_with fail
    go_quiet (fail)
    go_wp2_with fail
    go_ret
    refine ⟨?_, (Away.refl [] w).drewN _⟩
    rw [HW.out]
    first | (congr 2; omega) | (apply ret_int; omega)
def fillL (l : List Int) (k : Nat) : List Int := l.take k ++ List.replicate (16 - k) 0
theorem fill0 (l : List Int) : fillL l 0 = z16 := rfl
theorem fill_len {l : List Int} (h : l.length = 16) {k : Nat} (hk : k ≤ 16) : (fillL l k).length = 16 := by simp [fillL]; omega
theorem fill_all {l : List Int} (h : l.length = 16) : fillL l 16 = l := by unfold fillL; rw [List.take_of_length_le (by omega)]; simp
theorem fill_set {l : List Int} (h : l.length = 16) {k : Nat} {x : Int} (hx : l[k]? = some x) (hk : k < 16) : (fillL l k).set k x = fillL l (k + 1) := by
  apply List.ext_getElem?
  intro i
  have hkl : (l.take k).length = k := by simp; omega
  unfold fillL
  rw [List.getElem?_set]
  by_cases hi : k = i
  · subst hi
    rw [if_pos rfl, if_pos (by simp; omega), List.getElem?_append_left (by simp; omega), List.getElem?_take, if_pos (by omega), hx]
  · rw [if_neg hi]
    rcases Nat.lt_or_ge i k with h1 | h1
    · rw [List.getElem?_append_left (by omega), List.getElem?_append_left (by simp; omega), List.getElem?_take, List.getElem?_take, if_pos h1, if_pos (by omega)]
    · rw [List.getElem?_append_right (by omega), List.getElem?_append_right (by simp; omega), hkl, List.getElem?_replicate, List.getElem?_replicate]
      have : (l.take (k + 1)).length = k + 1 := by simp; omega
      rw [this]
      by_cases h2 : i - k < 16 - k
      · rw [if_pos h2, if_pos (by omega)]
      · rw [if_neg h2, if_neg (by omega)]
theorem csP_sb {p : Pk} (h : Ad p) (ov dv : Value) (k : Nat) (x : Int) (hk : k < 16) : (csP p ov dv).setIfInBounds (4 + k) (.int .u8 x) = csP { p with sb := p.sb.set k x } ov dv := by
  obtain ⟨v, tos, flow, sv, sb, dv', db, proto, ttl, id, df, more, frag, off, o, d⟩ := p
  obtain ⟨h1, h2⟩ := h
  simp only at h1 h2
  obtain ⟨b0, b1, b2, b3, b4, b5, b6, b7, b8, b9, b10, b11, b12, b13, b14, b15, rfl⟩ := list16 h1
  obtain ⟨c0, c1, c2, c3, c4, c5, c6, c7, c8, c9, c10, c11, c12, c13, c14, c15, rfl⟩ := list16 h2
  obtain rfl | rfl | rfl | rfl | rfl | rfl | rfl | rfl | rfl | rfl | rfl | rfl | rfl | rfl | rfl | rfl : k = 0 ∨ k = 1 ∨ k = 2 ∨ k = 3 ∨ k = 4 ∨ k = 5 ∨ k = 6 ∨ k = 7 ∨ k = 8 ∨ k = 9 ∨ k = 10 ∨ k = 11 ∨ k = 12 ∨ k = 13 ∨ k = 14 ∨ k = 15 := by omega
  all_goals rfl
theorem csP_db {p : Pk} (h : Ad p) (ov dv : Value) (k : Nat) (x : Int) (hk : k < 16) : (csP p ov dv).setIfInBounds (21 + k) (.int .u8 x) = csP { p with db := p.db.set k x } ov dv := by
  obtain ⟨v, tos, flow, sv, sb, dv', db, proto, ttl, id, df, more, frag, off, o, d⟩ := p
  obtain ⟨h1, h2⟩ := h
  simp only at h1 h2
  obtain ⟨b0, b1, b2, b3, b4, b5, b6, b7, b8, b9, b10, b11, b12, b13, b14, b15, rfl⟩ := list16 h1
  obtain ⟨c0, c1, c2, c3, c4, c5, c6, c7, c8, c9, c10, c11, c12, c13, c14, c15, rfl⟩ := list16 h2
  obtain rfl | rfl | rfl | rfl | rfl | rfl | rfl | rfl | rfl | rfl | rfl | rfl | rfl | rfl | rfl | rfl : k = 0 ∨ k = 1 ∨ k = 2 ∨ k = 3 ∨ k = 4 ∨ k = 5 ∨ k = 6 ∨ k = 7 ∨ k = 8 ∨ k = 9 ∨ k = 10 ∨ k = 11 ∨ k = 12 ∨ k = 13 ∨ k = 14 ∨ k = 15 := by omega
  all_goals rfl
def idK (b : List Int) (j : Nat) : Int := num ((b.drop 44).take j)
theorem num_snoc' (l : List Int) (x : Int) : num (l ++ [x]) = 256 * num l + x := by simp [num]
theorem idK_succ' {b : List Int} {j : Nat} (h : 44 + j < b.length) : idK b (j + 1) = 256 * idK b j + gt b (44 + j) := by
  unfold idK
  rw [List.take_succ_eq_append_getElem (by simp; omega), num_snoc']
  congr 1
  rw [List.getElem_drop]
  unfold gt
  rw [List.getElem?_eq_getElem h]; rfl
theorem idK_bd {b : List Int} (hb : Bytes b) (j : Nat) (hj : j ≤ 4) : 0 ≤ idK b j ∧ idK b j < 256 ^ j := by
  have h := num_bd _ ((hb.drop 44).take j)
  refine ⟨h.1, Int.lt_of_lt_of_le h.2 ?_⟩
  have h2 : ((b.drop 44).take j).length ≤ j := by simp; omega
  have h3 : ((256 ^ ((b.drop 44).take j).length : Nat) : Int) ≤ ((256 ^ j : Nat) : Int) := Int.ofNat_le.mpr (Nat.pow_le_pow_right (by decide) h2)
  rwa [Int.natCast_pow, Int.natCast_pow] at h3
theorem pow4 (j : Nat) (h : j < 4) : (256 : Int) ^ j ≤ 16777216 := by
  match j, h with
  | 0, _ => decide
  | 1, _ => decide
  | 2, _ => decide
  | 3, _ => decide
theorem idK_four' {b : List Int} (h : 48 ≤ b.length) : idK b 4 = wd4 b 44 := by
  rw [idK_succ' (by omega), idK_succ' (by omega), idK_succ' (by omega), idK_succ' (by omega)]
  have e0 : idK b 0 = 0 := rfl
  have e1 : gt b (44 + 0) = gt b 44 := rfl
  rw [e0, e1]
  unfold wd4
  omega
/-- What the document's Parse tells. -/
def RPOut (w : World) (b : List Int) (E : Ending) (w' : World) : Prop :=
  ∃ ov dv, E = .returned (.tuple #[.agg (csP (parse6 b).1 ov dv), .int .i64 (parse6 b).2]) ∧ Owns w' ov (parse6 b).1.o ∧ Owns w' dv (parse6 b).1.d ∧ Away [] w w'
theorem rparse_c (a : Option Addr) (b : List Int) (n cap : Nat) (w : World) (hn : b.length = n) (hcap : n ≤ cap) (ha : a = none → cap = 0) (hr : Row w a b) :
    Calls Try.prog 19 #[.slice a n cap] w fun E w' => RPOut w b E w' := by
  subst hn
  have hlen := hr.1
  have ZER : Hid (∀ (e : Int) w', Away [] w w' → parse6 b = (zeroPk, e) → RPOut w b (.returned (.tuple #[.agg (csP zeroPk (.slice none 0 0) (.slice none 0 0)), .int .i64 e])) w') := fun e w' h e' => ⟨.slice none 0 0, .slice none 0 0, by rw [e'], by rw [e']; exact Owns.nil _, by rw [e']; exact Owns.nil _, h⟩
  have HPE : Hid (parse6 b = if measP b ≠ 0 then (zeroPk, measP b) else if (cleanP b && rightP (readP b)) = true then (readP b, 0) else (zeroPk, 50)) := rfl
  have HME : Hid (measP b = if b.length < 40 then 20 else if gt b 0 / 16 ≠ 6 then 50 else if wd b 4 ≠ (b.length : Int) - 40 then 51 else if gt b 6 = 44 ∧ b.length < 48 then 20 else 0) := rfl
  have HR := Lib.hid hr
  have HBY := Lib.hid hr.2.1
  clear hr
  go_enter Try.func19, Try.ntmps19
  go_wp2_with (refine wpList_alloc28 rfl rfl ?_; refine Hid.out ?_)
  refine Lib.hid ?_
  intro g2 w1 hg2 hb2 haw1
  have HB2 := Lib.hid hb2; have HA := Lib.hid haw1
  have hl2 := hb2.lt
  clear hb2 haw1
  by_cases h40 : b.length < 40
  · have HZ : Hid (parse6 b = (zeroPk, 20)) := by show _ = _; rw [HPE.out, HME.out, if_pos h40]; rfl
    go_wp2_with (first | (refine wpList_store28 rfl _ _ rfl _ rfl zeroPk (.slice none 0 0) (.slice none 0 0) rfl zeroPk (.slice none 0 0) (.slice none 0 0) (by exact HB2.out) ⟨rfl, rfl⟩ ⟨rfl, rfl⟩ rfl rfl ?_; refine Hid.out ?_))
    refine Lib.hid ?_
    intro w9 hb9 haw9
    have HB9 := Lib.hid hb9
    have HA9 : Hid (Away [] w w9) := HA.out.next haw9 (fun x hx => .inr (by simp at hx; omega))
    clear hb9 haw9
    go_wp2_with fail
    refine bodyPost_ret (result28t rfl _ _ _ _ _ _ (.int .i64 20) rfl rfl HB9.out ⟨rfl, rfl⟩) rfl (ZER.out _ _ HA9.out HZ.out)
  rcases HR.out.2.2 with h0 | ⟨blk, off, rfl, hcell⟩
  · rw [h0] at h40; simp at h40
  have g0 := gt_bd HBY.out 0; have g1 := gt_bd HBY.out 1; have g6 := gt_bd HBY.out 6; have g7 := gt_bd HBY.out 7
  have c0 : w1.cell? ⟨blk, off, none⟩ = some (.int .u8 (gt b 0)) := HA.out.cell (by simp) (hcell 0 (by omega))
  have hca : ∀ w', Away [] w w' → ∀ i, i < b.length → w'.cell? ⟨blk, off + i, none⟩ = some (.int .u8 (gt b i)) := fun w' h i hi => h.cell (by simp) (hcell i hi)
  have HCA := Lib.hid hca
  clear hcell hca ha
  by_cases hv : gt b 0 / 16 = 6
  rotate_left
  · have HZ : Hid (parse6 b = (zeroPk, 50)) := by show _ = _; rw [HPE.out, HME.out, if_neg h40, if_pos hv]; rfl
    have kv : (gt b 0 / 16 != 6) = true := by simp [hv]
    clear hv
    go_wp2_with (first | (refine wpList_store28 rfl _ _ rfl _ rfl zeroPk (.slice none 0 0) (.slice none 0 0) rfl zeroPk (.slice none 0 0) (.slice none 0 0) (by exact HB2.out) ⟨rfl, rfl⟩ ⟨rfl, rfl⟩ rfl rfl ?_; refine Hid.out ?_))
    refine Lib.hid ?_
    intro w9 hb9 haw9
    have HB9 := Lib.hid hb9
    have HA9 : Hid (Away [] w w9) := HA.out.next haw9 (fun x hx => .inr (by simp at hx; omega))
    clear hb9 haw9
    go_wp2_with fail
    refine bodyPost_ret (result28t rfl _ _ _ _ _ _ (.int .i64 50) rfl rfl HB9.out ⟨rfl, rfl⟩) rfl (ZER.out _ _ HA9.out HZ.out)
  have kv : (gt b 0 / 16 != 6) = false := by simp [hv]
  have HV := Lib.hid hv
  clear hv
  have KAT : Hid (∀ (i : Nat) (hi : i + 1 < b.length) w', Away [] w w' → Calls Try.prog 36 #[.slice (some ⟨blk, off, none⟩) b.length cap, .int .i64 (i : Int)] w' fun E w'' => E = .returned (.int .i64 (wd b i)) ∧ Away [] w' w'') := fun i hi w' h => at_c blk off b cap i w' (HR.out.away h (by simp)) hi
  go_wp2_with fail
  refine (KAT.out 4 (by omega) _ HA.out).mono ?_
  rintro E w2 ⟨rfl, haw⟩
  replace HA := Lib.hid (HA.out.next haw (by simp)); replace HB2 := Lib.hid (HB2.out.on haw)
  have hs2 := haw.size
  clear haw c0
  have w4 := wd_bd HBY.out 4
  by_cases hl : wd b 4 = (b.length : Int) - 40
  rotate_left
  · have HZ : Hid (parse6 b = (zeroPk, 51)) := by show _ = _; rw [HPE.out, HME.out, if_neg h40, if_neg (show ¬ (gt b 0 / 16 ≠ 6) from fun h => h HV.out), if_pos hl]; rfl
    have kl : (wd b 4 != (b.length : Int) - 40) = true := by simp [hl]
    clear hl
    go_wp2_with (first | (refine wpList_store28 rfl _ _ rfl _ rfl zeroPk (.slice none 0 0) (.slice none 0 0) rfl zeroPk (.slice none 0 0) (.slice none 0 0) (by exact HB2.out) ⟨rfl, rfl⟩ ⟨rfl, rfl⟩ rfl rfl ?_; refine Hid.out ?_))
    refine Lib.hid ?_
    intro w9 hb9 haw9
    have HB9 := Lib.hid hb9
    have HA9 : Hid (Away [] w w9) := HA.out.next haw9 (fun x hx => .inr (by simp at hx; omega))
    clear hb9 haw9
    go_wp2_with fail
    refine bodyPost_ret (result28t rfl _ _ _ _ _ _ (.int .i64 51) rfl rfl HB9.out ⟨rfl, rfl⟩) rfl (ZER.out _ _ HA9.out HZ.out)
  have kl : (wd b 4 != (b.length : Int) - 40) = false := by simp [hl]
  have HL0 := Lib.hid hl
  clear hl
  have HFA : Hid (Ad (fixR b)) := ⟨by show ((b.drop 8).take 16).length = 16; simp; omega, by show ((b.drop 24).take 16).length = 16; simp; omega⟩
  go_upto_region 7 with fail
  obtain ⟨P7, hP7⟩ : ∃ P7 : Pk, P7 = { zeroPk with v := 6, tos := (IntKind.i64.wrap ((wd b 0).tdiv 16)).tmod 256, flow := IntKind.i64.wrap (IntKind.i64.wrap ((IntKind.i64.wrap (gt b 1)).tmod 16 * 65536) + wd b 2), proto := IntKind.i64.wrap (gt b 6), ttl := IntKind.i64.wrap (gt b 7) } := ⟨_, rfl⟩
  go_cut [4] (fun v wc => ∃ g4, v = .pointer (some ⟨g4, 0, none⟩) ∧ BoxP wc g4 P7 (.slice none 0 0) (.slice none 0 0) ∧ BoxP wc g2 zeroPk (.slice none 0 0) (.slice none 0 0) ∧ Away [] w wc ∧ g4 ≠ g2 ∧ w.heap.size ≤ g4)
  case first =>
    have HC0 : Hid (Away [] w w2.drew) := HA.out.drew
    have HA0 := HC0
    have HB0 : Hid (BoxP w2.drew g2 zeroPk (.slice none 0 0) (.slice none 0 0)) := HB2.out
    refine wp_region_held_drew (S := fun w' => Away [] w w') (by kernel_rfl) HC0.out (fun hHeld => ?_)
    refine wpAnyH_take (i := 0) (v := ?_) (by simp only [List.getElem?_toArray, List.getElem?_cons_zero]; rfl) (by kernel_rfl) (by kernel_rfl) (by kernel_rfl) (by exact fun _ _ _ h => h) (Or.inl ⟨by rfl, ?_⟩) (by assumption) ?_
    rotate_left
    · intro wq hSw
      (try dsimp only at hSw)
      go_simp
      all_goals (with_reducible rfl)
    try simp only [Act.put, List.setIfInBounds_toArray, List.set_cons_zero, List.set_cons_succ]
    refine wpAnyH_take (i := 4) (v := ?_) (by simp only [List.getElem?_toArray, List.getElem?_cons_succ, List.getElem?_cons_zero]; rfl) (by kernel_rfl) (by kernel_rfl) (by kernel_rfl) (by exact fun _ _ _ h => h) (Or.inl ⟨by rfl, ?_⟩) (by assumption) ?_
    rotate_left
    · intro wq hSw
      (try dsimp only at hSw)
      go_simp
      all_goals (with_reducible rfl)
    try simp only [Act.put, List.setIfInBounds_toArray, List.set_cons_zero, List.set_cons_succ]
    refine wpAnyH_take (i := 5) (by simp only [List.getElem?_toArray, List.getElem?_cons_succ, List.getElem?_cons_zero]; rfl) (by kernel_rfl) (by kernel_rfl) (by kernel_rfl) (by exact fun _ _ _ h => h) (yields_ix (by rfl) _ _ rfl 1 rfl rfl (by omega)) (by assumption) ?_
    try simp only [Act.put, List.setIfInBounds_toArray, List.set_cons_zero, List.set_cons_succ]
    refine wpAnyH_take (i := 6) (by simp only [List.getElem?_toArray, List.getElem?_cons_succ, List.getElem?_cons_zero]; rfl) (by kernel_rfl) (by kernel_rfl) (by kernel_rfl) (by exact fun _ _ _ h => h) (yields_ld (ad := ⟨blk, off + 1, none⟩) (by rfl) _ rfl rfl (fun w' h => ld5 (HCA.out _ h 1 (by omega)))) (by assumption) ?_
    try simp only [Act.put, List.setIfInBounds_toArray, List.set_cons_zero, List.set_cons_succ]
    refine wpAnyH_take (i := 7) (v := ?_) (by simp only [List.getElem?_toArray, List.getElem?_cons_succ, List.getElem?_cons_zero]; rfl) (by kernel_rfl) (by kernel_rfl) (by kernel_rfl) (by exact fun _ _ _ h => h) (Or.inl ⟨by rfl, ?_⟩) (by assumption) ?_
    rotate_left
    · intro wq hSw
      (try dsimp only at hSw)
      go_simp
      all_goals (with_reducible rfl)
    try simp only [Act.put, List.setIfInBounds_toArray, List.set_cons_zero, List.set_cons_succ]
    refine wpAnyH_take (i := 8) (v := ?_) (by simp only [List.getElem?_toArray, List.getElem?_cons_succ, List.getElem?_cons_zero]; rfl) (by kernel_rfl) (by kernel_rfl) (by kernel_rfl) (by exact fun _ _ _ h => h) (Or.inl ⟨by rfl, ?_⟩) (by assumption) ?_
    rotate_left
    · intro wq hSw
      (try dsimp only at hSw)
      go_simp
      all_goals (with_reducible rfl)
    try simp only [Act.put, List.setIfInBounds_toArray, List.set_cons_zero, List.set_cons_succ]
    refine wpAnyH_take (i := 9) (v := ?_) (by simp only [List.getElem?_toArray, List.getElem?_cons_succ, List.getElem?_cons_zero]; rfl) (by kernel_rfl) (by kernel_rfl) (by kernel_rfl) (by exact fun _ _ _ h => h) (Or.inl ⟨by rfl, ?_⟩) (by assumption) ?_
    rotate_left
    · intro wq hSw
      (try dsimp only at hSw)
      go_simp
      all_goals (with_reducible rfl)
    try simp only [Act.put, List.setIfInBounds_toArray, List.set_cons_zero, List.set_cons_succ]
    refine wpAnyH_take (i := 10) (v := ?_) (by simp only [List.getElem?_toArray, List.getElem?_cons_succ, List.getElem?_cons_zero]; rfl) (by kernel_rfl) (by kernel_rfl) (by kernel_rfl) (by exact fun _ _ _ h => h) (Or.inl ⟨by rfl, ?_⟩) (by assumption) ?_
    rotate_left
    · intro wq hSw
      (try dsimp only at hSw)
      go_simp
      all_goals (with_reducible rfl)
    try simp only [Act.put, List.setIfInBounds_toArray, List.set_cons_zero, List.set_cons_succ]
    refine wpAnyH_take (i := 13) (v := ?_) (by simp only [List.getElem?_toArray, List.getElem?_cons_succ, List.getElem?_cons_zero]; rfl) (by kernel_rfl) (by kernel_rfl) (by kernel_rfl) (by exact fun _ _ _ h => h) (Or.inl ⟨by rfl, ?_⟩) (by assumption) ?_
    rotate_left
    · intro wq hSw
      (try dsimp only at hSw)
      go_simp
      all_goals (with_reducible rfl)
    try simp only [Act.put, List.setIfInBounds_toArray, List.set_cons_zero, List.set_cons_succ]
    refine wpAnyH_take (i := 14) (by simp only [List.getElem?_toArray, List.getElem?_cons_succ, List.getElem?_cons_zero]; rfl) (by kernel_rfl) (by kernel_rfl) (by kernel_rfl) (by exact fun _ _ _ h => h) (yields_ix (by rfl) _ _ rfl 6 rfl rfl (by omega)) (by assumption) ?_
    try simp only [Act.put, List.setIfInBounds_toArray, List.set_cons_zero, List.set_cons_succ]
    refine wpAnyH_take (i := 15) (by simp only [List.getElem?_toArray, List.getElem?_cons_succ, List.getElem?_cons_zero]; rfl) (by kernel_rfl) (by kernel_rfl) (by kernel_rfl) (by exact fun _ _ _ h => h) (yields_ld (ad := ⟨blk, off + 6, none⟩) (by rfl) _ rfl rfl (fun w' h => ld5 (HCA.out _ h 6 (by omega)))) (by assumption) ?_
    try simp only [Act.put, List.setIfInBounds_toArray, List.set_cons_zero, List.set_cons_succ]
    refine wpAnyH_take (i := 16) (v := ?_) (by simp only [List.getElem?_toArray, List.getElem?_cons_succ, List.getElem?_cons_zero]; rfl) (by kernel_rfl) (by kernel_rfl) (by kernel_rfl) (by exact fun _ _ _ h => h) (Or.inl ⟨by rfl, ?_⟩) (by assumption) ?_
    rotate_left
    · intro wq hSw
      (try dsimp only at hSw)
      go_simp
      all_goals (with_reducible rfl)
    try simp only [Act.put, List.setIfInBounds_toArray, List.set_cons_zero, List.set_cons_succ]
    refine wpAnyH_take (i := 17) (v := ?_) (by simp only [List.getElem?_toArray, List.getElem?_cons_succ, List.getElem?_cons_zero]; rfl) (by kernel_rfl) (by kernel_rfl) (by kernel_rfl) (by exact fun _ _ _ h => h) (Or.inl ⟨by rfl, ?_⟩) (by assumption) ?_
    rotate_left
    · intro wq hSw
      (try dsimp only at hSw)
      go_simp
      all_goals (with_reducible rfl)
    try simp only [Act.put, List.setIfInBounds_toArray, List.set_cons_zero, List.set_cons_succ]
    refine wpAnyH_take (i := 18) (by simp only [List.getElem?_toArray, List.getElem?_cons_succ, List.getElem?_cons_zero]; rfl) (by kernel_rfl) (by kernel_rfl) (by kernel_rfl) (by exact fun _ _ _ h => h) (yields_ix (by rfl) _ _ rfl 7 rfl rfl (by omega)) (by assumption) ?_
    try simp only [Act.put, List.setIfInBounds_toArray, List.set_cons_zero, List.set_cons_succ]
    refine wpAnyH_take (i := 19) (by simp only [List.getElem?_toArray, List.getElem?_cons_succ, List.getElem?_cons_zero]; rfl) (by kernel_rfl) (by kernel_rfl) (by kernel_rfl) (by exact fun _ _ _ h => h) (yields_ld (ad := ⟨blk, off + 7, none⟩) (by rfl) _ rfl rfl (fun w' h => ld5 (HCA.out _ h 7 (by omega)))) (by assumption) ?_
    try simp only [Act.put, List.setIfInBounds_toArray, List.set_cons_zero, List.set_cons_succ]
    refine wpAnyH_take (i := 20) (v := ?_) (by simp only [List.getElem?_toArray, List.getElem?_cons_succ, List.getElem?_cons_zero]; rfl) (by kernel_rfl) (by kernel_rfl) (by kernel_rfl) (by exact fun _ _ _ h => h) (Or.inl ⟨by rfl, ?_⟩) (by assumption) ?_
    rotate_left
    · intro wq hSw
      (try dsimp only at hSw)
      go_simp
      all_goals (with_reducible rfl)
    try simp only [Act.put, List.setIfInBounds_toArray, List.set_cons_zero, List.set_cons_succ]
    refine wpAnyH_ready (rs := [1, 22]) (by kernel_rfl) (by simp) ?_
    refine AllReadyH.cons (by simp only [List.getElem?_toArray, List.getElem?_cons_succ, List.getElem?_cons_zero]; rfl) (fun K hK => ?_) (AllReadyH.cons (by simp only [List.getElem?_toArray, List.getElem?_cons_succ, List.getElem?_cons_zero]; rfl) (fun K hK => ?_) AllReadyH.nil)
    · go_simp
      refine (KAT.out 0 (by omega) _ HA0.out).mono ?_
      rintro E y1 ⟨rfl, haw⟩
      have HA1 := Lib.hid (HA0.out.next haw (by simp))
      have HB1 := Lib.hid (HB0.out.on haw)
      clear haw
      go_wp2_with fail
      refine hK.out _ _ HA1.out (fun hHeld => ?_)
      clear hK K
      try simp only [Act.put, List.setIfInBounds_toArray, List.set_cons_zero, List.set_cons_succ]
      refine wpAnyH_take (i := 2) (v := ?_) (by simp only [List.getElem?_toArray, List.getElem?_cons_succ, List.getElem?_cons_zero]; rfl) (by kernel_rfl) (by kernel_rfl) (by kernel_rfl) (by exact fun _ _ _ h => h) (Or.inl ⟨by rfl, ?_⟩) (by assumption) ?_
      rotate_left
      · intro wq hSw
        (try dsimp only at hSw)
        go_simp
        all_goals (with_reducible rfl)
      try simp only [Act.put, List.setIfInBounds_toArray, List.set_cons_zero, List.set_cons_succ]
      refine wpAnyH_take (i := 3) (v := ?_) (by simp only [List.getElem?_toArray, List.getElem?_cons_succ, List.getElem?_cons_zero]; rfl) (by kernel_rfl) (by kernel_rfl) (by kernel_rfl) (by exact fun _ _ _ h => h) (Or.inl ⟨by rfl, ?_⟩) (by assumption) ?_
      rotate_left
      · intro wq hSw
        (try dsimp only at hSw)
        go_simp
        all_goals (with_reducible rfl)
      try simp only [Act.put, List.setIfInBounds_toArray, List.set_cons_zero, List.set_cons_succ]
      refine wpAnyH_ready (rs := [11, 22]) (by kernel_rfl) (by simp) ?_
      refine AllReadyH.cons (by simp only [List.getElem?_toArray, List.getElem?_cons_succ, List.getElem?_cons_zero]; rfl) (fun K hK => ?_) (AllReadyH.cons (by simp only [List.getElem?_toArray, List.getElem?_cons_succ, List.getElem?_cons_zero]; rfl) (fun K hK => ?_) AllReadyH.nil)
      · go_simp
        refine (KAT.out 2 (by omega) _ HA1.out).mono ?_
        rintro E y2 ⟨rfl, haw⟩
        have HA2 := Lib.hid (HA1.out.next haw (by simp))
        have HB2 := Lib.hid (HB1.out.on haw)
        clear haw
        go_wp2_with fail
        refine hK.out _ _ HA2.out (fun hHeld => ?_)
        clear hK K
        try simp only [Act.put, List.setIfInBounds_toArray, List.set_cons_zero, List.set_cons_succ]
        refine wpAnyH_take (i := 12) (v := ?_) (by simp only [List.getElem?_toArray, List.getElem?_cons_succ, List.getElem?_cons_zero]; rfl) (by kernel_rfl) (by kernel_rfl) (by kernel_rfl) (by exact fun _ _ _ h => h) (Or.inl ⟨by rfl, ?_⟩) (by assumption) ?_
        rotate_left
        · intro wq hSw
          (try dsimp only at hSw)
          go_simp
          all_goals (with_reducible rfl)
        try simp only [Act.put, List.setIfInBounds_toArray, List.set_cons_zero, List.set_cons_succ]
        refine wpAnyH_take (i := 21) (v := ?_) (by simp only [List.getElem?_toArray, List.getElem?_cons_succ, List.getElem?_cons_zero]; rfl) (by kernel_rfl) (by kernel_rfl) (by kernel_rfl) (by exact fun _ _ _ h => h) (Or.inl ⟨by rfl, ?_⟩) (by assumption) ?_
        rotate_left
        · intro wq hSw
          (try dsimp only at hSw)
          go_simp
          all_goals (with_reducible rfl)
        try simp only [Act.put, List.setIfInBounds_toArray, List.set_cons_zero, List.set_cons_succ]
        refine wpAnyH_ready (rs := [22]) (by kernel_rfl) (by simp) ?_
        refine AllReadyH.cons (by simp only [List.getElem?_toArray, List.getElem?_cons_succ, List.getElem?_cons_zero]; rfl) (fun K hK => ?_) AllReadyH.nil
        rw [if_pos (by rfl)]
        refine wp_alloc28 rfl ?_
        intro g4 y3 hg4 hb4 haw
        have hl4 := hb4.lt
        have hbl := HB2.out.lt
        have hsw := HA2.out.size
        have HA3 := Lib.hid (HA2.out.next haw (by simp))
        have HB3 := Lib.hid (HB2.out.on haw)
        have HF3 := Lib.hid hb4
        have hne : g4 ≠ g2 := by omega
        have hn4 : w.heap.size ≤ g4 := by omega
        clear haw hb4 hg4 hl4 hbl hsw
        refine hK.out _ _ HA3.out (fun hHeld => ?_)
        clear hK K
        try simp only [Act.put, List.setIfInBounds_toArray, List.set_cons_zero, List.set_cons_succ]
        refine wpAnyH_ready (rs := [23]) (by kernel_rfl) (by simp) ?_
        refine AllReadyH.cons (by simp only [List.getElem?_toArray, List.getElem?_cons_succ, List.getElem?_cons_zero]; rfl) (fun K hK => ?_) AllReadyH.nil
        rw [if_pos (by rfl)]
        refine wp_store28 _ _ rfl g4 rfl ⟨6, _, _, 0, z16, 0, z16, _, _, 0, false, false, false, 0, [], []⟩ (.slice none 0 0) (.slice none 0 0) rfl zeroPk (.slice none 0 0) (.slice none 0 0) (by exact HF3.out) ⟨rfl, rfl⟩ ⟨rfl, rfl⟩ rfl rfl ?_
        intro y9 hb9 haw9
        have HA9 : Away [] w y9 := HA3.out.next haw9 (fun x hx => .inr (by simp at hx; omega))
        have HB9 := HB3.out.away haw9 (by simp; exact fun e => hne e.symm)
        refine hK.out _ _ HA9 (fun hHeld => ?_)
        clear hK K
        try simp only [Act.put]
        refine wpAnyH_done (by kernel_rfl) ?_ _
        go_wp2_with fail
        go_meet
        exact ⟨g4, rfl, by rw [hP7]; exact hb9, HB9, HA9, hne, hn4⟩
      · rw [if_pos (by rfl)]
        refine wp_alloc28 rfl ?_
        intro g4 y4 hg4 hb4 haw
        have hl4 := hb4.lt
        have hbl := HB1.out.lt
        have hsw := HA1.out.size
        have HA4 := Lib.hid (HA1.out.next haw (by simp))
        have HB4 := Lib.hid (HB1.out.on haw)
        have HF4 := Lib.hid hb4
        have hne : g4 ≠ g2 := by omega
        have hn4 : w.heap.size ≤ g4 := by omega
        clear haw hb4 hg4 hl4 hbl hsw
        refine hK.out _ _ HA4.out (fun hHeld => ?_)
        clear hK K
        try simp only [Act.put, List.setIfInBounds_toArray, List.set_cons_zero, List.set_cons_succ]
        refine wpAnyH_ready (rs := [11]) (by kernel_rfl) (by simp) ?_
        refine AllReadyH.cons (by simp only [List.getElem?_toArray, List.getElem?_cons_succ, List.getElem?_cons_zero]; rfl) (fun K hK => ?_) AllReadyH.nil
        go_simp
        refine (KAT.out 2 (by omega) _ HA4.out).mono ?_
        rintro E y5 ⟨rfl, haw⟩
        have HA5 := Lib.hid (HA4.out.next haw (by simp))
        have HB5 := Lib.hid (HB4.out.on haw)
        have HF5 := Lib.hid (HF4.out.on haw)
        clear haw
        go_wp2_with fail
        refine hK.out _ _ HA5.out (fun hHeld => ?_)
        clear hK K
        try simp only [Act.put, List.setIfInBounds_toArray, List.set_cons_zero, List.set_cons_succ]
        refine wpAnyH_take (i := 12) (v := ?_) (by simp only [List.getElem?_toArray, List.getElem?_cons_succ, List.getElem?_cons_zero]; rfl) (by kernel_rfl) (by kernel_rfl) (by kernel_rfl) (by exact fun _ _ _ h => h) (Or.inl ⟨by rfl, ?_⟩) (by assumption) ?_
        rotate_left
        · intro wq hSw
          (try dsimp only at hSw)
          go_simp
          all_goals (with_reducible rfl)
        try simp only [Act.put, List.setIfInBounds_toArray, List.set_cons_zero, List.set_cons_succ]
        refine wpAnyH_take (i := 21) (v := ?_) (by simp only [List.getElem?_toArray, List.getElem?_cons_succ, List.getElem?_cons_zero]; rfl) (by kernel_rfl) (by kernel_rfl) (by kernel_rfl) (by exact fun _ _ _ h => h) (Or.inl ⟨by rfl, ?_⟩) (by assumption) ?_
        rotate_left
        · intro wq hSw
          (try dsimp only at hSw)
          go_simp
          all_goals (with_reducible rfl)
        try simp only [Act.put, List.setIfInBounds_toArray, List.set_cons_zero, List.set_cons_succ]
        refine wpAnyH_ready (rs := [23]) (by kernel_rfl) (by simp) ?_
        refine AllReadyH.cons (by simp only [List.getElem?_toArray, List.getElem?_cons_succ, List.getElem?_cons_zero]; rfl) (fun K hK => ?_) AllReadyH.nil
        rw [if_pos (by rfl)]
        refine wp_store28 _ _ rfl g4 rfl ⟨6, _, _, 0, z16, 0, z16, _, _, 0, false, false, false, 0, [], []⟩ (.slice none 0 0) (.slice none 0 0) rfl zeroPk (.slice none 0 0) (.slice none 0 0) (by exact HF5.out) ⟨rfl, rfl⟩ ⟨rfl, rfl⟩ rfl rfl ?_
        intro y9 hb9 haw9
        have HA9 : Away [] w y9 := HA5.out.next haw9 (fun x hx => .inr (by simp at hx; omega))
        have HB9 := HB5.out.away haw9 (by simp; exact fun e => hne e.symm)
        refine hK.out _ _ HA9 (fun hHeld => ?_)
        clear hK K
        try simp only [Act.put]
        refine wpAnyH_done (by kernel_rfl) ?_ _
        go_wp2_with fail
        go_meet
        exact ⟨g4, rfl, by rw [hP7]; exact hb9, HB9, HA9, hne, hn4⟩
    · rw [if_pos (by rfl)]
      refine wp_alloc28 rfl ?_
      intro g4 y6 hg4 hb4 haw
      have hl4 := hb4.lt
      have hbl := HB0.out.lt
      have hsw := HA0.out.size
      have HA6 := Lib.hid (HA0.out.next haw (by simp))
      have HB6 := Lib.hid (HB0.out.on haw)
      have HF6 := Lib.hid hb4
      have hne : g4 ≠ g2 := by omega
      have hn4 : w.heap.size ≤ g4 := by omega
      clear haw hb4 hg4 hl4 hbl hsw
      refine hK.out _ _ HA6.out (fun hHeld => ?_)
      clear hK K
      try simp only [Act.put, List.setIfInBounds_toArray, List.set_cons_zero, List.set_cons_succ]
      refine wpAnyH_ready (rs := [1]) (by kernel_rfl) (by simp) ?_
      refine AllReadyH.cons (by simp only [List.getElem?_toArray, List.getElem?_cons_succ, List.getElem?_cons_zero]; rfl) (fun K hK => ?_) AllReadyH.nil
      go_simp
      refine (KAT.out 0 (by omega) _ HA6.out).mono ?_
      rintro E y7 ⟨rfl, haw⟩
      have HA7 := Lib.hid (HA6.out.next haw (by simp))
      have HB7 := Lib.hid (HB6.out.on haw)
      have HF7 := Lib.hid (HF6.out.on haw)
      clear haw
      go_wp2_with fail
      refine hK.out _ _ HA7.out (fun hHeld => ?_)
      clear hK K
      try simp only [Act.put, List.setIfInBounds_toArray, List.set_cons_zero, List.set_cons_succ]
      refine wpAnyH_take (i := 2) (v := ?_) (by simp only [List.getElem?_toArray, List.getElem?_cons_succ, List.getElem?_cons_zero]; rfl) (by kernel_rfl) (by kernel_rfl) (by kernel_rfl) (by exact fun _ _ _ h => h) (Or.inl ⟨by rfl, ?_⟩) (by assumption) ?_
      rotate_left
      · intro wq hSw
        (try dsimp only at hSw)
        go_simp
        all_goals (with_reducible rfl)
      try simp only [Act.put, List.setIfInBounds_toArray, List.set_cons_zero, List.set_cons_succ]
      refine wpAnyH_take (i := 3) (v := ?_) (by simp only [List.getElem?_toArray, List.getElem?_cons_succ, List.getElem?_cons_zero]; rfl) (by kernel_rfl) (by kernel_rfl) (by kernel_rfl) (by exact fun _ _ _ h => h) (Or.inl ⟨by rfl, ?_⟩) (by assumption) ?_
      rotate_left
      · intro wq hSw
        (try dsimp only at hSw)
        go_simp
        all_goals (with_reducible rfl)
      try simp only [Act.put, List.setIfInBounds_toArray, List.set_cons_zero, List.set_cons_succ]
      refine wpAnyH_ready (rs := [11]) (by kernel_rfl) (by simp) ?_
      refine AllReadyH.cons (by simp only [List.getElem?_toArray, List.getElem?_cons_succ, List.getElem?_cons_zero]; rfl) (fun K hK => ?_) AllReadyH.nil
      go_simp
      refine (KAT.out 2 (by omega) _ HA7.out).mono ?_
      rintro E y8 ⟨rfl, haw⟩
      have HA8 := Lib.hid (HA7.out.next haw (by simp))
      have HB8 := Lib.hid (HB7.out.on haw)
      have HF8 := Lib.hid (HF7.out.on haw)
      clear haw
      go_wp2_with fail
      refine hK.out _ _ HA8.out (fun hHeld => ?_)
      clear hK K
      try simp only [Act.put, List.setIfInBounds_toArray, List.set_cons_zero, List.set_cons_succ]
      refine wpAnyH_take (i := 12) (v := ?_) (by simp only [List.getElem?_toArray, List.getElem?_cons_succ, List.getElem?_cons_zero]; rfl) (by kernel_rfl) (by kernel_rfl) (by kernel_rfl) (by exact fun _ _ _ h => h) (Or.inl ⟨by rfl, ?_⟩) (by assumption) ?_
      rotate_left
      · intro wq hSw
        (try dsimp only at hSw)
        go_simp
        all_goals (with_reducible rfl)
      try simp only [Act.put, List.setIfInBounds_toArray, List.set_cons_zero, List.set_cons_succ]
      refine wpAnyH_take (i := 21) (v := ?_) (by simp only [List.getElem?_toArray, List.getElem?_cons_succ, List.getElem?_cons_zero]; rfl) (by kernel_rfl) (by kernel_rfl) (by kernel_rfl) (by exact fun _ _ _ h => h) (Or.inl ⟨by rfl, ?_⟩) (by assumption) ?_
      rotate_left
      · intro wq hSw
        (try dsimp only at hSw)
        go_simp
        all_goals (with_reducible rfl)
      try simp only [Act.put, List.setIfInBounds_toArray, List.set_cons_zero, List.set_cons_succ]
      refine wpAnyH_ready (rs := [23]) (by kernel_rfl) (by simp) ?_
      refine AllReadyH.cons (by simp only [List.getElem?_toArray, List.getElem?_cons_succ, List.getElem?_cons_zero]; rfl) (fun K hK => ?_) AllReadyH.nil
      rw [if_pos (by rfl)]
      refine wp_store28 _ _ rfl g4 rfl ⟨6, _, _, 0, z16, 0, z16, _, _, 0, false, false, false, 0, [], []⟩ (.slice none 0 0) (.slice none 0 0) rfl zeroPk (.slice none 0 0) (.slice none 0 0) (by exact HF8.out) ⟨rfl, rfl⟩ ⟨rfl, rfl⟩ rfl rfl ?_
      intro y9 hb9 haw9
      have HA9 : Away [] w y9 := HA8.out.next haw9 (fun x hx => .inr (by simp at hx; omega))
      have HB9 := HB8.out.away haw9 (by simp; exact fun e => hne e.symm)
      refine hK.out _ _ HA9 (fun hHeld => ?_)
      clear hK K
      try simp only [Act.put]
      refine wpAnyH_done (by kernel_rfl) ?_ _
      go_wp2_with fail
      go_meet
      exact ⟨g4, rfl, by rw [hP7]; exact hb9, HB9, HA9, hne, hn4⟩
  case rest =>
  obtain ⟨g4, hv4, hb4, hb2, haw4, hne, hn4⟩ := hcut
  rename Value => v4
  subst hv4
  have HL4 : Hid (BoxP wc g4 P7 (.slice none 0 0) (.slice none 0 0)) := hb4
  have HB := Lib.hid hb2; clear HB2
  have HA4 := Lib.hid haw4; clear HA
  have w0b := wd_bd HBY.out 0; have w2b := wd_bd HBY.out 2
  have g3 := gt_bd HBY.out 3; have g2b := gt_bd HBY.out 2; have g40 := gt_bd HBY.out 40; have g41 := gt_bd HBY.out 41; have g42 := gt_bd HBY.out 42; have g43 := gt_bd HBY.out 43
  have hP8 : P7 = { fixR b with sv := 0, sb := z16, dv := 0, db := z16 } := by
    rw [hP7]
    unfold fixR
    have e1 : (IntKind.i64.wrap ((wd b 0).tdiv 16)).tmod 256 = wd4 b 0 / 1048576 % 256 := by
      rw [Int.tdiv_eq_ediv_of_nonneg w0b.1, IntKind.wrap_i64, Int.tmod_eq_emod_of_nonneg (by omega)]
      have ew : wd4 b 0 = 16777216 * gt b 0 + 65536 * gt b 1 + 256 * gt b 2 + gt b 3 := rfl
      have ew2 : wd b 0 = 256 * gt b 0 + gt b 1 := rfl
      rw [ew, ew2]; omega
    have e2 : IntKind.i64.wrap (IntKind.i64.wrap ((IntKind.i64.wrap (gt b 1)).tmod 16 * 65536) + wd b 2) = wd4 b 0 % 1048576 := by
      have ew : wd4 b 0 = 16777216 * gt b 0 + 65536 * gt b 1 + 256 * gt b 2 + gt b 3 := rfl
      have ew2 : wd b 2 = 256 * gt b 2 + gt b 3 := rfl
      rw [show IntKind.i64.wrap (gt b 1) = gt b 1 from by rw [IntKind.wrap_i64]; omega, Int.tmod_eq_emod_of_nonneg g1.1]
      simp only [IntKind.wrap_i64]
      rw [ew, ew2]; omega
    have e3 : IntKind.i64.wrap (gt b 6) = gt b 6 := by rw [IntKind.wrap_i64]; omega
    have e4 : IntKind.i64.wrap (gt b 7) = gt b 7 := by rw [IntKind.wrap_i64]; omega
    rw [e1, e2, e3, e4]
    rfl
  rw [hP8] at HL4
  clear hP7 hP8 hb4 hb2 haw4
  have s3 := (HL4.out.cells ⟨rfl, rfl⟩).sv; have t3 := HL4.out.free 3
  have s20 := (HL4.out.cells ⟨rfl, rfl⟩).dv'; have t20 := HL4.out.free 20
  go_upto_region 10 with fail
  have HS : Hid (FS w ((wc.setCell ⟨g4, 3, none⟩ (.int .i64 6)).setCell ⟨g4, 20, none⟩ (.int .i64 6)) g4 g2 { fixR b with sb := z16, db := z16 } (.slice none 0 0) (.slice none 0 0)) :=
    (FS.put (p := { fixR b with sv := 0, sb := z16, dv := 0, db := z16 }) ⟨HL4.out, HB.out, Owns.nil _, New.nil _, HA4.out, hn4, hg2, hne, by simp [Value.ownBlock], ⟨rfl, rfl⟩⟩ 3 (.int .i64 6) ((csP_set (by exact ⟨rfl, rfl⟩) _ _).2.2.2.1 6) rfl ⟨rfl, rfl⟩).put 20 (.int .i64 6) ((csP_set (by exact ⟨rfl, rfl⟩) _ _).2.2.2.2.1 6) rfl ⟨rfl, rfl⟩
  clear s3 t3 s20 t20 HL4 HB HA4
  generalize ((wc.setCell ⟨g4, 3, none⟩ (.int .i64 6)).setCell ⟨g4, 20, none⟩ (.int .i64 6)) = y0 at *
  obtain ⟨s, hs⟩ : ∃ s, s = (b.drop 8).take 16 := ⟨_, rfl⟩
  obtain ⟨d, hd⟩ : ∃ d, d = (b.drop 24).take 16 := ⟨_, rfl⟩
  have hsl : s.length = 16 := by rw [hs]; simp; omega
  have hdl : d.length = 16 := by rw [hd]; simp; omega
  have HSX : Hid (∀ k, k < 16 → s[k]? = some (gt b (8 + k))) := fun k hk => by
    rw [hs, List.getElem?_take, if_pos hk, List.getElem?_drop]; unfold gt; rw [List.getElem?_eq_getElem (by omega)]; rfl
  have HDX : Hid (∀ k, k < 16 → d[k]? = some (gt b (24 + k))) := fun k hk => by
    rw [hd, List.getElem?_take, if_pos hk, List.getElem?_drop]; unfold gt; rw [List.getElem?_eq_getElem (by omega)]; rfl
  have HFX : Hid ({ fixR b with sb := s, db := d } = fixR b) := by rw [hs, hd]; rfl
  have HSE := Lib.hid hs; have HDE := Lib.hid hd
  clear hs hd
  go_wp2_with fail
  go_loopw [5] (fun i wr => ∃ k : Nat, k ≤ 16 ∧ i = .int .i64 k ∧ FS w wr g4 g2 { fixR b with sb := fillL s k, db := fillL d k } (.slice none 0 0) (.slice none 0 0)) (fun i _ => 16 - (intOf i).toNat)
  case atStart => exact ⟨0, by omega, rfl, by rw [fill0, fill0]; exact HS.out⟩
  case round =>
    obtain ⟨k, hk, rfl, hL⟩ := hrel
    have HL2 := Lib.hid hL
    clear hL HS
    by_cases hlt : k < 16
    · have cb1 := HCA.out _ HL2.out.aw (8 + k) (by omega)
      have cb2 := HCA.out _ HL2.out.aw (24 + k) (by omega)
      have hblk : blk ≠ g4 := by have : blk < w.heap.size := block_lt_of_cell (HCA.out w (Away.refl _ _) 0 (by omega)); omega
      have b1 : decide ((k : Int) < 16) = true := by simp; omega
      have b2 : 0 ≤ (k : Int) := by omega
      have b3 : (k : Int) < 16 := by omega
      have b4 : ((k : Int)).toNat = k := by omega
      have b5 : (8 + (k : Int)).toNat = 8 + k := by omega
      have b6 : (24 + (k : Int)).toNat = 24 + k := by omega
      have s1 : ∃ x, wr.cell? ⟨g4, 4 + k, none⟩ = some (.int .u8 x) := ⟨_, range_cell HL2.out.b1.srow k _ (List.getElem?_eq_getElem (by rw [fill_len hsl hk]; omega))⟩
      have s2 : ∃ x, wr.cell? ⟨g4, 21 + k, none⟩ = some (.int .u8 x) := ⟨_, range_cell (HL2.out.b1.drow HL2.out.ad) k _ (List.getElem?_eq_getElem (by show k < (fillL d k).length; rw [fill_len hdl hk]; omega))⟩
      obtain ⟨x1, s1⟩ := s1
      obtain ⟨x2, s2⟩ := s2
      have t1 := HL2.out.b1.free (4 + k)
      have t2 := HL2.out.b1.free (21 + k)
      have hput := (HL2.out.put (4 + k) (.int .u8 (gt b (8 + k))) (csP_sb HL2.out.ad _ _ k _ hlt) rfl ⟨by show ((fillL s k).set k _).length = 16; rw [List.length_set, fill_len hsl hk], HL2.out.ad.2⟩).put (21 + k) (.int .u8 (gt b (24 + k))) (csP_db (by exact ⟨by show ((fillL s k).set k _).length = 16; rw [List.length_set, fill_len hsl hk], HL2.out.ad.2⟩) _ _ k _ hlt) rfl ⟨by show ((fillL s k).set k _).length = 16; rw [List.length_set, fill_len hsl hk], by show ((fillL d k).set k _).length = 16; rw [List.length_set, fill_len hdl hk]⟩
      have HLn : Hid (FS w ((wr.setCell ⟨g4, 4 + k, none⟩ (.int .u8 (gt b (8 + k)))).setCell ⟨g4, 21 + k, none⟩ (.int .u8 (gt b (24 + k)))) g4 g2 { fixR b with sb := fillL s (k + 1), db := fillL d (k + 1) } (.slice none 0 0) (.slice none 0 0)) := by
        rw [← fill_set hsl (HSX.out k hlt) hlt, ← fill_set hdl (HDX.out k hlt) hlt]; exact hput
      clear hput
      go_wp2_with fail
      go_roundw
      case rel => first | exact ⟨k + 1, by omega, by go_num, HLn.out⟩ | ((repeat apply Exists.intro); exact ⟨⟨k + 1, by omega, by go_num, HLn.out⟩, rfl⟩)
      case measure => simp [intOf]; omega
    · have b1 : decide ((k : Int) < 16) = false := by simp; omega
      obtain rfl : k = 16 := by omega
      rw [fill_all hsl, fill_all hdl, HFX.out] at HL2
      have HL := HL2
      clear HL2 hlt hk
      have HCB : Hid (∀ w', Away [] w w' → ∀ i, i < b.length → w'.cell? ⟨blk, off + i, none⟩ = some (.int .u8 (gt b i))) := HCA.out
      have d6 := HCB.out _ HL.out.aw 6 (by omega)
      by_cases h6 : gt b 6 = 44
      · have k6 : (gt b 6 == 44) = true := by simp [h6]
        by_cases h48 : b.length < 48
        · have HZ : Hid (parse6 b = (zeroPk, 20)) := by
            have hm : measP b = 20 := by rw [HME.out, if_neg h40, if_neg (show ¬ (gt b 0 / 16 ≠ 6) from fun h => h HV.out), if_neg (show ¬ (wd b 4 ≠ (b.length : Int) - 40) from fun h => h HL0.out), if_pos ⟨h6, h48⟩]
            show _ = _
            rw [HPE.out, hm]; rfl
          clear h6
          have hn2' := HL.out.n2
          go_wp2_with (first | (refine wpList_store28 rfl _ _ rfl _ rfl zeroPk (.slice none 0 0) (.slice none 0 0) rfl zeroPk (.slice none 0 0) (.slice none 0 0) (by exact HL.out.b2) ⟨rfl, rfl⟩ ⟨rfl, rfl⟩ rfl rfl ?_; refine Hid.out ?_))
          refine Lib.hid ?_
          intro w9 hb9 haw9
          have HB9 := Lib.hid hb9
          have HA9 : Hid (Away [] w w9) := HL.out.aw.next haw9 (fun x hx => .inr (by simp at hx; omega))
          clear hb9 haw9
          go_wp2_with fail
          refine bodyPost_ret (result28t rfl _ _ _ _ _ _ (.int .i64 20) rfl rfl HB9.out ⟨rfl, rfl⟩) rfl (ZER.out _ _ HA9.out HZ.out)
        have HM0 : Hid (measP b = 0) := by show _ = _; rw [HME.out, if_neg h40, if_neg (show ¬ (gt b 0 / 16 ≠ 6) from fun h => h HV.out), if_neg (show ¬ (wd b 4 ≠ (b.length : Int) - 40) from fun h => h HL0.out), if_neg (fun h => h48 h.2)]
        have HCLE : Hid (cleanP b = (decide (gt b 41 = 0) && decide (gt b 43 / 2 % 4 = 0))) := by
          show _ = _
          unfold cleanP
          rw [show wd b 42 / 2 % 4 = gt b 43 / 2 % 4 from by have : wd b 42 = 256 * gt b 42 + gt b 43 := rfl
                                                             omega]
          simp [h6]
        have HRD : Hid (readP b = { fixR b with proto := gt b 40, id := wd4 b 44, more := decide (wd b 42 % 2 = 1), frag := true, off := wd b 42 / 8 * 8, d := b.drop 48 }) := by show _ = _; unfold readP; rw [if_pos h6]
        clear h6
        have d40 := HCB.out _ HL.out.aw 40 (by omega)
        have s42 := (HL.out.b1.cells HL.out.ad).frag; have t42 := HL.out.b1.free 42
        have s37 := (HL.out.b1.cells HL.out.ad).proto; have t37 := HL.out.b1.free 37
        have hblk : blk ≠ g4 := by have : blk < w.heap.size := block_lt_of_cell (HCB.out w (Away.refl _ _) 0 (by omega)); have := HL.out.n1; omega
        go_wp2_with fail
        have HL1 := Lib.hid ((HL.out.put 42 (.bool true) ((csP_set HL.out.ad _ _).2.2.2.2.2.2.2.2.2.2.1 true) rfl HL.out.ad).put 37 (.int .i64 (gt b 40)) ((csP_set (by exact HL.out.ad) _ _).2.2.2.2.2.1 (gt b 40)) rfl HL.out.ad)
        clear HL s42 t42 s37 t37 d40 d6
        generalize ((wr.setCell ⟨g4, 42, none⟩ (.bool true)).setCell ⟨g4, 37, none⟩ (.int .i64 (gt b 40))) = u1 at *
        refine (KAT.out 42 (by omega) _ HL1.out.aw).mono ?_
        rintro E u2 ⟨rfl, haw⟩
        have HL2 : Hid (FS w u2 g4 g2 _ _ _) := ⟨HL1.out.b1.on haw, HL1.out.b2.on haw, HL1.out.d.away haw (by simp), HL1.out.nd, HL1.out.aw.next haw (by simp), HL1.out.n1, HL1.out.n2, HL1.out.e1, HL1.out.k1, HL1.out.ad⟩
        clear HL1 haw
        have w42 := wd_bd HBY.out 42
        have s43 := (HL2.out.b1.cells HL2.out.ad).off; have t43 := HL2.out.b1.free 43
        have s41 := (HL2.out.b1.cells HL2.out.ad).more; have t41 := HL2.out.b1.free 41
        have d43 := HCB.out _ HL2.out.aw 43 (by omega)
        have HMB : Hid ((gt b 43 % 2 == 1) = decide (wd b 42 % 2 = 1)) := by
          show _ = _
          have : wd b 42 = 256 * gt b 42 + gt b 43 := rfl
          rw [Bool.eq_iff_iff]; simp; omega
        go_upto_region 24 with fail
        have HL3 := Lib.hid ((HL2.out.put 43 (.int .i64 (wd b 42 / 8 * 8)) ((csP_set HL2.out.ad _ _).2.2.2.2.2.2.2.2.2.2.2.1 (wd b 42 / 8 * 8)) rfl HL2.out.ad).put 41 (.bool (gt b 43 % 2 == 1)) ((csP_set (by exact HL2.out.ad) _ _).2.2.2.2.2.2.2.2.2.1 (gt b 43 % 2 == 1)) rfl HL2.out.ad)
        clear HL2 s43 t43 s41 t41 d43
        generalize ((u2.setCell ⟨g4, 43, none⟩ (.int .i64 (wd b 42 / 8 * 8))).setCell ⟨g4, 41, none⟩ (.bool (gt b 43 % 2 == 1))) = u3 at *
        rw [HMB.out] at HL3
        obtain ⟨qI, hqI⟩ : ∃ q : Pk, q = { fixR b with proto := gt b 40, more := decide (wd b 42 % 2 = 1), frag := true, off := wd b 42 / 8 * 8 } := ⟨_, rfl⟩
        have HL4' : Hid (FS w u3 g4 g2 { qI with id := idK b 0 } (.slice none 0 0) (.slice none 0 0)) := by rw [hqI]; exact HL3.out
        clear HL3
        have HQI := Lib.hid hqI
        clear hqI
        go_wp2_with fail
        go_loopw [7] (fun i wr => ∃ j : Nat, j ≤ 4 ∧ i = .int .i64 ((44 + j : Nat) : Int) ∧ FS w wr g4 g2 { qI with id := idK b j } (.slice none 0 0) (.slice none 0 0)) (fun i _ => 48 - (intOf i).toNat)
        case atStart => exact ⟨0, by omega, rfl, HL4'.out⟩
        case round =>
          obtain ⟨j, hj, rfl, hL⟩ := hrel
          have HL := Lib.hid hL
          clear hL HL4'
          by_cases hlt : j < 4
          · have b1 : decide (((44 + j : Nat) : Int) < 48) = true := by simp; omega
            have dx : (World.drew wr).cell? ⟨blk, off + (44 + j), none⟩ = some (.int .u8 (gt b (44 + j))) := HCB.out _ HL.out.aw (44 + j) (by omega)
            have gx := gt_bd HBY.out (44 + j)
            have ib := idK_bd HBY.out j hj
            have HIS : Hid (IntKind.u32.wrap (IntKind.u32.wrap (idK b j * 256) + IntKind.u32.wrap (gt b (44 + j))) = idK b (j + 1)) := by
              show _ = _
              rw [idK_succ' (by omega)]; simp only [IntKind.wrap_u32]
              have := pow4 j hlt
              omega
            have c39 : (World.drew wr).cell? ⟨g4, 39, none⟩ = some (.int .u32 (idK b j)) := (HL.out.b1.cells HL.out.ad).id
            have f39 : (World.drew wr).frozen? ⟨g4, 39, none⟩ = false := HL.out.b1.free 39
            have hput := HL.out.put 39 (.int .u32 (idK b (j + 1))) ((csP_set HL.out.ad _ _).2.2.2.2.2.2.2.1 (idK b (j + 1))) rfl HL.out.ad
            have HLn : Hid (FS w (World.setCell (World.drew wr) ⟨g4, 39, none⟩ (.int .u32 (idK b (j + 1)))) g4 g2 { qI with id := idK b (j + 1) } (.slice none 0 0) (.slice none 0 0)) := ⟨hput.b1, hput.b2, hput.d, hput.nd, (HL.out.aw.drew).setCell (.inr HL.out.n1) _, hput.n1, hput.n2, hput.e1, hput.k1, hput.ad⟩
            have hdx2 : (World.setCell (World.drew wr) ⟨g4, 39, none⟩ (.int .u32 (idK b (j + 1)))).cell? ⟨blk, off + (44 + j), none⟩ = some (.int .u8 (gt b (44 + j))) := HCB.out _ HLn.out.aw (44 + j) (by omega)
            clear hput
            go_upto_region 27 with fail
            refine wp_region_held_drew (S := fun w' => w'.cell? ⟨blk, off + (44 + j), none⟩ = some (.int .u8 (gt b (44 + j)))) (by kernel_rfl) dx (fun hHeld => ?_)
            refine wpAnyH_take (i := 0) (v := ?_) (by simp only [List.getElem?_toArray, List.getElem?_cons_zero]; rfl) (by kernel_rfl) (by kernel_rfl) (by kernel_rfl) (by exact fun _ _ _ h => h) (Or.inl ⟨by rfl, ?_⟩) (by assumption) ?_
            rotate_left
            · intro wq hSw
              (try dsimp only at hSw)
              go_simp
              all_goals (with_reducible rfl)
            try simp only [Act.put, List.setIfInBounds_toArray, List.set_cons_zero, List.set_cons_succ]
            refine wpAnyH_take (i := 3) (v := ?_) (by simp only [List.getElem?_toArray, List.getElem?_cons_succ, List.getElem?_cons_zero]; rfl) (by kernel_rfl) (by kernel_rfl) (by kernel_rfl) (by exact fun _ _ _ h => h) (Or.inl ⟨by rfl, ?_⟩) (by assumption) ?_
            rotate_left
            · intro wq hSw
              (try dsimp only at hSw)
              go_simp
              all_goals (with_reducible rfl)
            try simp only [Act.put, List.setIfInBounds_toArray, List.set_cons_zero, List.set_cons_succ]
            refine wpAnyH_take (i := 4) (v := ?_) (by simp only [List.getElem?_toArray, List.getElem?_cons_succ, List.getElem?_cons_zero]; rfl) (by kernel_rfl) (by kernel_rfl) (by kernel_rfl) (by exact fun _ _ _ h => h) (Or.inl ⟨by rfl, ?_⟩) (by assumption) ?_
            rotate_left
            · intro wq hSw
              (try dsimp only at hSw)
              go_simp
              all_goals (with_reducible rfl)
            try simp only [Act.put, List.setIfInBounds_toArray, List.set_cons_zero, List.set_cons_succ]
            refine wpAnyH_take (i := 5) (by simp only [List.getElem?_toArray, List.getElem?_cons_succ, List.getElem?_cons_zero]; rfl) (by kernel_rfl) (by kernel_rfl) (by kernel_rfl) (by exact fun _ _ _ h => h) (yields_ix (by rfl) _ _ rfl (44 + j) rfl rfl (by omega)) (by assumption) ?_
            try simp only [Act.put, List.setIfInBounds_toArray, List.set_cons_zero, List.set_cons_succ]
            refine wpAnyH_take (i := 6) (by simp only [List.getElem?_toArray, List.getElem?_cons_succ, List.getElem?_cons_zero]; rfl) (by kernel_rfl) (by kernel_rfl) (by kernel_rfl) (by exact fun _ _ _ h => h) (yields_ld (ad := ⟨blk, off + (44 + j), none⟩) (by rfl) _ rfl rfl (fun w' h => ld5 h)) (by assumption) ?_
            try simp only [Act.put, List.setIfInBounds_toArray, List.set_cons_zero, List.set_cons_succ]
            refine wpAnyH_take (i := 7) (v := ?_) (by simp only [List.getElem?_toArray, List.getElem?_cons_succ, List.getElem?_cons_zero]; rfl) (by kernel_rfl) (by kernel_rfl) (by kernel_rfl) (by exact fun _ _ _ h => h) (Or.inl ⟨by rfl, ?_⟩) (by assumption) ?_
            rotate_left
            · intro wq hSw
              (try dsimp only at hSw)
              go_simp
              all_goals (with_reducible rfl)
            try simp only [Act.put, List.setIfInBounds_toArray, List.set_cons_zero, List.set_cons_succ]
            refine wpAnyH_ready (rs := [1]) (by kernel_rfl) (by simp) ?_
            refine AllReadyH.cons (by simp only [List.getElem?_toArray, List.getElem?_cons_succ, List.getElem?_cons_zero]; rfl) (fun K hK => ?_) AllReadyH.nil
            go_simp
            refine hK.out _ _ dx (fun hHeld => ?_)
            clear hK K
            try simp only [Act.put, List.setIfInBounds_toArray, List.set_cons_zero, List.set_cons_succ]
            refine wpAnyH_take (i := 2) (v := ?_) (by simp only [List.getElem?_toArray, List.getElem?_cons_succ, List.getElem?_cons_zero]; rfl) (by kernel_rfl) (by kernel_rfl) (by kernel_rfl) (by exact fun _ _ _ h => h) (Or.inl ⟨by rfl, ?_⟩) (by assumption) ?_
            rotate_left
            · intro wq hSw
              (try dsimp only at hSw)
              go_simp
              all_goals (with_reducible rfl)
            try simp only [Act.put, List.setIfInBounds_toArray, List.set_cons_zero, List.set_cons_succ]
            refine wpAnyH_take (i := 8) (v := ?_) (by simp only [List.getElem?_toArray, List.getElem?_cons_succ, List.getElem?_cons_zero]; rfl) (by kernel_rfl) (by kernel_rfl) (by kernel_rfl) (by exact fun _ _ _ h => h) (Or.inl ⟨by rfl, ?_⟩) (by assumption) ?_
            rotate_left
            · intro wq hSw
              (try dsimp only at hSw)
              go_simp
              all_goals (with_reducible rfl)
            try simp only [Act.put, List.setIfInBounds_toArray, List.set_cons_zero, List.set_cons_succ]
            rw [HIS.out]
            refine wpAnyH_take (i := 9) (v := ?_) (by simp only [List.getElem?_toArray, List.getElem?_cons_succ, List.getElem?_cons_zero]; rfl) (by kernel_rfl) (by kernel_rfl) (by kernel_rfl) (by exact fun _ _ _ h => h) (Or.inl ⟨by rfl, ?_⟩) (by assumption) ?_
            rotate_left
            · intro wq hSw
              (try dsimp only at hSw)
              go_simp
              all_goals (with_reducible rfl)
            try simp only [Act.put, List.setIfInBounds_toArray, List.set_cons_zero, List.set_cons_succ]
            refine wpAnyH_ready (rs := [10]) (by kernel_rfl) (by simp) ?_
            refine AllReadyH.cons (by simp only [List.getElem?_toArray, List.getElem?_cons_succ, List.getElem?_cons_zero]; rfl) (fun K hK => ?_) AllReadyH.nil
            go_simp
            refine hK.out _ _ hdx2 (fun hHeld => ?_)
            clear hK K
            try simp only [Act.put]
            refine wpAnyH_done (by kernel_rfl) ?_ _
            go_wp2_with fail
            go_roundw
            case rel => first | exact ⟨j + 1, by omega, by go_num, HLn.out⟩ | ((repeat apply Exists.intro); exact ⟨⟨j + 1, by omega, by go_num, HLn.out⟩, rfl⟩)
            case measure => simp [intOf]; omega
          · have b1 : decide (((44 + j : Nat) : Int) < 48) = false := by simp; omega
            obtain rfl : j = 4 := by omega
            rw [idK_four' (by omega)] at HL
            clear hlt hj
            have d41 := HCB.out _ HL.out.aw 41 (by omega)
            have d43 := HCB.out _ HL.out.aw 43 (by omega)
            by_cases hz1 : gt b 41 = 0
            rotate_left
            · have kz : (gt b 41 != 0) = true := by simp [hz1]
              have HZ : Hid (parse6 b = (zeroPk, 50)) := by show _ = _; rw [HPE.out, if_neg (by rw [HM0.out]; simp), HCLE.out]; simp [hz1]
              clear hz1
              have hn2' := HL.out.n2
              go_wp2_with (first | (refine wpList_store28 rfl _ _ rfl _ rfl zeroPk (.slice none 0 0) (.slice none 0 0) rfl zeroPk (.slice none 0 0) (.slice none 0 0) (by exact HL.out.b2) ⟨rfl, rfl⟩ ⟨rfl, rfl⟩ rfl rfl ?_; refine Hid.out ?_))
              refine Lib.hid ?_
              intro w9 hb9 haw9
              have HB9 := Lib.hid hb9
              have HA9 : Hid (Away [] w w9) := HL.out.aw.next haw9 (fun x hx => .inr (by simp at hx; omega))
              clear hb9 haw9
              go_wp2_with fail
              refine bodyPost_ret (result28t rfl _ _ _ _ _ _ (.int .i64 50) rfl rfl HB9.out ⟨rfl, rfl⟩) rfl (ZER.out _ _ HA9.out HZ.out)
            have kz : (gt b 41 != 0) = false := by simp [hz1]
            by_cases hz2 : gt b 43 / 2 % 4 = 0
            rotate_left
            · have kz2 : (gt b 43 / 2 % 4 != 0) = true := by simp [hz2]
              have HZ : Hid (parse6 b = (zeroPk, 50)) := by show _ = _; rw [HPE.out, if_neg (by rw [HM0.out]; simp), HCLE.out]; simp [hz2]
              clear hz1 hz2
              have hn2' := HL.out.n2
              go_wp2_with (first | (refine wpList_store28 rfl _ _ rfl _ rfl zeroPk (.slice none 0 0) (.slice none 0 0) rfl zeroPk (.slice none 0 0) (.slice none 0 0) (by exact HL.out.b2) ⟨rfl, rfl⟩ ⟨rfl, rfl⟩ rfl rfl ?_; refine Hid.out ?_))
              refine Lib.hid ?_
              intro w9 hb9 haw9
              have HB9 := Lib.hid hb9
              have HA9 : Hid (Away [] w w9) := HL.out.aw.next haw9 (fun x hx => .inr (by simp at hx; omega))
              clear hb9 haw9
              go_wp2_with fail
              refine bodyPost_ret (result28t rfl _ _ _ _ _ _ (.int .i64 50) rfl rfl HB9.out ⟨rfl, rfl⟩) rfl (ZER.out _ _ HA9.out HZ.out)
            have kz2 : (gt b 43 / 2 % 4 != 0) = false := by simp [hz2]
            have HCL : Hid (cleanP b = true) := by show _ = _; rw [HCLE.out]; simp [hz1, hz2]
            clear hz1 hz2
            obtain ⟨fr, hfr0⟩ : ∃ fr : Nat, fr = 48 := ⟨_, rfl⟩
            have hfrl : fr ≤ b.length := by omega
            obtain ⟨q, hq⟩ : ∃ q, q = { qI with id := wd4 b 44 } := ⟨_, rfl⟩
            have HQD : Hid (readP b = { q with d := b.drop fr }) := by
              show _ = _
              rw [hq, HQI.out, hfr0]; exact HRD.out
            have HQ0 : Hid (q.d = []) := by rw [hq, HQI.out]; rfl
            have HQO : Hid (q.o = []) := by rw [hq, HQI.out]; rfl
            rw [← hq] at HL
            clear hq
            have hfi : (48 : Int) = (fr : Int) := by omega
            obtain ⟨A, hA⟩ : ∃ A, A = if cap = fr then some (⟨blk, off, none⟩ : Addr) else (some (⟨blk, off, none⟩ : Addr)).map (·.add fr) := ⟨_, rfl⟩
            have hsl3 := slice_l (some ⟨blk, off, none⟩) A b.length cap fr 48 hA hfi hfrl
            clear hfr0 hfi
            go_upto_region 30 with fail
            have HRA : Hid (Row wr A (b.drop fr)) := by have := (HR.out.tail fr cap hcap hfrl); rw [← hA] at this; exact this.away HL.out.aw (by simp)
            obtain ⟨ad, had⟩ : ∃ ad, A = some ad := by rw [hA]; split <;> exact ⟨_, rfl⟩
            have HAD := Lib.hid had
            subst had
            clear hA
            have hdl3 : (b.drop fr).length = b.length - fr := by simp
            have HD3 := Lib.hid hdl3
            clear hdl3
            have c45 : (World.drew wr).cell? ⟨g4, 45, none⟩ = some (.slice none 0 0) := (HL.out.b1.cells HL.out.ad).d
            have f45 : (World.drew wr).frozen? ⟨g4, 45, none⟩ = false := HL.out.b1.free 45
            refine wp_region_held_drew (S := fun _ => True) (by kernel_rfl) trivial (fun hHeld => ?_)
            refine wpAnyH_take (i := 0) (v := ?_) (by simp only [List.getElem?_toArray, List.getElem?_cons_zero]; rfl) (by kernel_rfl) (by kernel_rfl) (by kernel_rfl) (by exact fun _ _ _ h => h) (Or.inl ⟨by rfl, ?_⟩) (by assumption) ?_
            rotate_left
            · intro wq hSw
              (try dsimp only at hSw)
              go_simp
              all_goals (with_reducible rfl)
            try simp only [Act.put, List.setIfInBounds_toArray, List.set_cons_zero, List.set_cons_succ]
            refine wpAnyH_take (i := 2) (v := ?_) (by simp only [List.getElem?_toArray, List.getElem?_cons_succ, List.getElem?_cons_zero]; rfl) (by kernel_rfl) (by kernel_rfl) (by kernel_rfl) (by exact fun _ _ _ h => h) (Or.inl ⟨by rfl, ?_⟩) (by assumption) ?_
            rotate_left
            · intro wq hSw
              (try dsimp only at hSw)
              go_simp
              all_goals (with_reducible rfl)
            try simp only [Act.put, List.setIfInBounds_toArray, List.set_cons_zero, List.set_cons_succ]
            refine wpAnyH_take (i := 3) (v := ?_) (by simp only [List.getElem?_toArray, List.getElem?_cons_succ, List.getElem?_cons_zero]; rfl) (by kernel_rfl) (by kernel_rfl) (by kernel_rfl) (by exact fun _ _ _ h => h) (Or.inl ⟨by rfl, ?_⟩) (by assumption) ?_
            rotate_left
            · intro wq hSw
              (try dsimp only at hSw)
              go_simp
              all_goals (with_reducible rfl)
            try simp only [Act.put, List.setIfInBounds_toArray, List.set_cons_zero, List.set_cons_succ]
            refine wpAnyH_take (i := 4) (v := ?_) (by simp only [List.getElem?_toArray, List.getElem?_cons_succ, List.getElem?_cons_zero]; rfl) (by kernel_rfl) (by kernel_rfl) (by kernel_rfl) (by exact fun _ _ _ h => h) (Or.inl ⟨by rfl, ?_⟩) (by assumption) ?_
            rotate_left
            · intro wq hSw
              (try dsimp only at hSw)
              go_simp
              all_goals (with_reducible rfl)
            try simp only [Act.put, List.setIfInBounds_toArray, List.set_cons_zero, List.set_cons_succ]
            refine wpAnyH_ready (rs := [1]) (by kernel_rfl) (by simp) ?_
            refine AllReadyH.cons (by simp only [List.getElem?_toArray, List.getElem?_cons_succ, List.getElem?_cons_zero]; rfl) (fun K hK => ?_) AllReadyH.nil
            go_simp
            refine hK.out _ _ trivial (fun hHeld => ?_)
            clear hK K
            try simp only [Act.put, List.setIfInBounds_toArray, List.set_cons_zero, List.set_cons_succ]
            refine wpAnyH_ready (rs := [5]) (by kernel_rfl) (by simp) ?_
            refine AllReadyH.cons (by simp only [List.getElem?_toArray, List.getElem?_cons_succ, List.getElem?_cons_zero]; rfl) (fun K hK => ?_) AllReadyH.nil
            refine step_app rfl _ _ rfl (.slice none 0 0) [] (b.drop fr) rfl (Owns.nil _) ad (b.length - fr) (cap - fr) rfl HD3.out (by exact HRA.out.src) (by show 0 + _ ≤ _; omega) ?_
            intro v' y2 hown hgr hmv
            have hA1 : Away [] wr y2 := ((Away.refl [] wr).drew).grown hgr (fun k hk => by simp [Value.ownBlock] at hk)
            have hnv : New wr.heap.size v' := fun k hk => by
              rcases hmv k hk with e | e
              · simp [Value.ownBlock] at e
              · exact e
            refine hK.out _ _ trivial (fun hHeld => ?_)
            clear hK K
            try simp only [Act.put, List.setIfInBounds_toArray, List.set_cons_zero, List.set_cons_succ]
            refine wpAnyH_take (i := 6) (v := ?_) (by simp only [List.getElem?_toArray, List.getElem?_cons_succ, List.getElem?_cons_zero]; rfl) (by kernel_rfl) (by kernel_rfl) (by kernel_rfl) (by exact fun _ _ _ h => h) (Or.inl ⟨by rfl, ?_⟩) (by assumption) ?_
            rotate_left
            · intro wq hSw
              (try dsimp only at hSw)
              go_simp
              all_goals (with_reducible rfl)
            try simp only [Act.put, List.setIfInBounds_toArray, List.set_cons_zero, List.set_cons_succ]
            refine wpAnyH_ready (rs := [7]) (by kernel_rfl) (by simp) ?_
            refine AllReadyH.cons (by simp only [List.getElem?_toArray, List.getElem?_cons_succ, List.getElem?_cons_zero]; rfl) (fun K hK => ?_) AllReadyH.nil
            obtain ⟨za, zc, hzv, -⟩ := hown.slc
            rw [List.nil_append, HD3.out] at hzv
            subst hzv
            have hc2 := ((HL.out.b1.on hA1).cells HL.out.ad).d
            have hf2 := (HL.out.b1.on hA1).free 45
            refine step_store26 rfl _ _ rfl g4 45 rfl _ _ _ rfl _ hc2 hf2 ?_
            refine hK.out _ _ trivial (fun hHeld => ?_)
            clear hK K
            try simp only [Act.put]
            have hwl := HL.out.aw.size
            have hl4 := HL.out.b1.lt
            have hl2 := HL.out.b2.lt
            have hkz : ∀ k, (Value.slice za (b.length - fr) zc).ownBlock = some k → k ≠ g4 ∧ k ≠ g2 := fun k hk => by have := hnv k hk; omega
            have HB9 : Hid (BoxP (y2.setCell ⟨g4, 45, none⟩ (.slice za (b.length - fr) zc)) g4 (readP b) (.slice none 0 0) (.slice za (b.length - fr) zc)) := by
              rw [HQD.out]
              exact (HL.out.b1.on hA1).put 45 _ ((csP_set HL.out.ad _ _).2.2.2.2.2.2.2.2.2.2.2.2.2 _ _)
            have HB29 := Lib.hid ((HL.out.b2.on hA1).away (away_put (w := y2) (g := g4) 45 (.slice za (b.length - fr) zc)) (by simp; exact fun e => HL.out.e1 e.symm))
            have HO9 : Hid (Owns (y2.setCell ⟨g4, 45, none⟩ (.slice za (b.length - fr) zc)) (.slice za (b.length - fr) zc) (b.drop fr)) := (hown.away (away_put (g := g4) 45 _) (fun k hk => by simpa using (hkz k hk).1))
            have HA9 : Hid (Away [] w (y2.setCell ⟨g4, 45, none⟩ (.slice za (b.length - fr) zc))) := (HL.out.aw.next hA1 (by simp)).setCell (.inr HL.out.n1) _
            have HPD : Hid ((readP b).d = b.drop fr ∧ (readP b).o = []) := by rw [HQD.out]; exact ⟨rfl, HQO.out⟩
            have hn2' := HL.out.n2
            clear hc2 hf2 c45 f45 hown hgr hmv hA1 HL HRA
            generalize y2.setCell ⟨g4, 45, none⟩ (.slice za (b.length - fr) zc) = y9 at *
            refine wpAnyH_done (by kernel_rfl) ?_ _
            have HWF : Hid (Wf (readP b)) := read_wf HBY.out hlen (by omega)
            have HPK : Hid (Pkt y9 (readP b) (.slice none 0 0) (.slice za (b.length - fr) zc)) := ⟨HWF.out, by rw [HPD.out.2]; exact Sl.nil _, by rw [HPD.out.1]; exact HO9.out.sl (HBY.out.drop fr) (by rw [HD3.out]; omega)⟩
            go_wp2_with (first | (refine wpList_load28 rfl _ rfl g4 rfl (readP b) _ _ (by exact HB9.out) HWF.out.ad ?_))
            refine (rright_c (readP b) (.slice none 0 0) (.slice za (b.length - fr) zc) _ HPK.out).mono ?_
            rintro E ya ⟨rfl, haw⟩
            replace HB9 := Lib.hid (HB9.out.on haw); replace HB29 := Lib.hid (HB29.out.on haw); replace HA9 := Lib.hid (HA9.out.next haw (by simp)); replace HO9 := Lib.hid (HO9.out.away haw (by simp))
            clear haw HPK
            generalize hrg : rightP (readP b) = rg
            have HRG := Lib.hid hrg
            clear hrg
            cases rg
            · have HZ : Hid (parse6 b = (zeroPk, 50)) := by show _ = _; rw [HPE.out, if_neg (by rw [HM0.out]; simp), HRG.out]; simp
              go_wp2_with (first | (refine wpList_store28 rfl _ _ rfl _ rfl zeroPk (.slice none 0 0) (.slice none 0 0) rfl zeroPk (.slice none 0 0) (.slice none 0 0) (by exact HB29.out) ⟨rfl, rfl⟩ ⟨rfl, rfl⟩ rfl rfl ?_; refine Hid.out ?_))
              refine Lib.hid ?_
              intro wz hbz hawz
              have HBz := Lib.hid hbz
              have HAz : Hid (Away [] w wz) := HA9.out.next hawz (fun x hx => .inr (by simp at hx; omega))
              clear hbz hawz
              go_wp2_with fail
              refine bodyPost_ret (result28t rfl _ _ _ _ _ _ (.int .i64 50) rfl rfl HBz.out ⟨rfl, rfl⟩) rfl (ZER.out _ _ HAz.out HZ.out)
            · have HZ : Hid (parse6 b = (readP b, 0)) := by show _ = _; rw [HPE.out, if_neg (by rw [HM0.out]; simp), HRG.out, HCL.out]; simp
              go_wp2_with (first
                | (refine wpList_load28 rfl _ rfl g4 rfl (readP b) _ _ (by exact HB9.out) HWF.out.ad ?_)
                | (refine wpList_store28 rfl _ _ rfl _ rfl (readP b) (.slice none 0 0) (.slice za (b.length - fr) zc) rfl zeroPk (.slice none 0 0) (.slice none 0 0) (by exact HB29.out) HWF.out.ad ⟨rfl, rfl⟩ rfl rfl ?_; refine Hid.out ?_))
              refine Lib.hid ?_
              intro wz hbz hawz
              have HBz := Lib.hid hbz
              have HAz : Hid (Away [] w wz) := HA9.out.next hawz (fun x hx => .inr (by simp at hx; omega))
              have HOz := Lib.hid (HO9.out.away hawz (fun k hk => by simpa using (hkz k hk).2))
              clear hbz hawz
              go_wp2_with fail
              refine bodyPost_ret (result28t rfl _ _ _ _ _ _ (.int .i64 0) rfl rfl HBz.out HWF.out.ad) rfl ⟨_, _, by rw [HZ.out], by rw [HZ.out]; show Owns _ _ (readP b).o; rw [HPD.out.2]; exact Owns.nil _, by rw [HZ.out]; show Owns _ _ (readP b).d; rw [HPD.out.1]; exact HOz.out, HAz.out⟩
      · have k6 : (gt b 6 == 44) = false := by simp [h6]
        have HM0 : Hid (measP b = 0) := by show _ = _; rw [HME.out, if_neg h40, if_neg (show ¬ (gt b 0 / 16 ≠ 6) from fun h => h HV.out), if_neg (show ¬ (wd b 4 ≠ (b.length : Int) - 40) from fun h => h HL0.out), if_neg (fun h => h6 h.1)]
        have HCL : Hid (cleanP b = true) := by show _ = _; unfold cleanP; simp [h6]
        have HRD : Hid (readP b = { fixR b with d := b.drop 40 }) := by show _ = _; unfold readP; rw [if_neg h6]
        obtain ⟨fr, hfr0⟩ : ∃ fr : Nat, fr = 40 := ⟨_, rfl⟩
        have hfrl : fr ≤ b.length := by omega
        obtain ⟨q, hq⟩ : ∃ q, q = fixR b := ⟨_, rfl⟩
        have HQD : Hid (readP b = { q with d := b.drop fr }) := by rw [hq, hfr0]; exact HRD.out
        have HQ0 : Hid (q.d = []) := by rw [hq]; rfl
        have HQO : Hid (q.o = []) := by rw [hq]; rfl
        rw [← hq] at HL
        clear h6 HRD hq
        have hfi : (40 : Int) = (fr : Int) := by omega
        obtain ⟨A, hA⟩ : ∃ A, A = if cap = fr then some (⟨blk, off, none⟩ : Addr) else (some (⟨blk, off, none⟩ : Addr)).map (·.add fr) := ⟨_, rfl⟩
        have hsl3 := slice_l (some ⟨blk, off, none⟩) A b.length cap fr 40 hA hfi hfrl
        clear hfr0 hfi
        go_upto_region 30 with fail
        have HRA : Hid (Row wr A (b.drop fr)) := by have := (HR.out.tail fr cap hcap hfrl); rw [← hA] at this; exact this.away HL.out.aw (by simp)
        obtain ⟨ad, had⟩ : ∃ ad, A = some ad := by rw [hA]; split <;> exact ⟨_, rfl⟩
        have HAD := Lib.hid had
        subst had
        clear hA
        have hdl3 : (b.drop fr).length = b.length - fr := by simp
        have HD3 := Lib.hid hdl3
        clear hdl3
        have c45 : (World.drew wr).cell? ⟨g4, 45, none⟩ = some (.slice none 0 0) := (HL.out.b1.cells HL.out.ad).d
        have f45 : (World.drew wr).frozen? ⟨g4, 45, none⟩ = false := HL.out.b1.free 45
        refine wp_region_held_drew (S := fun _ => True) (by kernel_rfl) trivial (fun hHeld => ?_)
        refine wpAnyH_take (i := 0) (v := ?_) (by simp only [List.getElem?_toArray, List.getElem?_cons_zero]; rfl) (by kernel_rfl) (by kernel_rfl) (by kernel_rfl) (by exact fun _ _ _ h => h) (Or.inl ⟨by rfl, ?_⟩) (by assumption) ?_
        rotate_left
        · intro wq hSw
          (try dsimp only at hSw)
          go_simp
          all_goals (with_reducible rfl)
        try simp only [Act.put, List.setIfInBounds_toArray, List.set_cons_zero, List.set_cons_succ]
        refine wpAnyH_take (i := 2) (v := ?_) (by simp only [List.getElem?_toArray, List.getElem?_cons_succ, List.getElem?_cons_zero]; rfl) (by kernel_rfl) (by kernel_rfl) (by kernel_rfl) (by exact fun _ _ _ h => h) (Or.inl ⟨by rfl, ?_⟩) (by assumption) ?_
        rotate_left
        · intro wq hSw
          (try dsimp only at hSw)
          go_simp
          all_goals (with_reducible rfl)
        try simp only [Act.put, List.setIfInBounds_toArray, List.set_cons_zero, List.set_cons_succ]
        refine wpAnyH_take (i := 3) (v := ?_) (by simp only [List.getElem?_toArray, List.getElem?_cons_succ, List.getElem?_cons_zero]; rfl) (by kernel_rfl) (by kernel_rfl) (by kernel_rfl) (by exact fun _ _ _ h => h) (Or.inl ⟨by rfl, ?_⟩) (by assumption) ?_
        rotate_left
        · intro wq hSw
          (try dsimp only at hSw)
          go_simp
          all_goals (with_reducible rfl)
        try simp only [Act.put, List.setIfInBounds_toArray, List.set_cons_zero, List.set_cons_succ]
        refine wpAnyH_take (i := 4) (v := ?_) (by simp only [List.getElem?_toArray, List.getElem?_cons_succ, List.getElem?_cons_zero]; rfl) (by kernel_rfl) (by kernel_rfl) (by kernel_rfl) (by exact fun _ _ _ h => h) (Or.inl ⟨by rfl, ?_⟩) (by assumption) ?_
        rotate_left
        · intro wq hSw
          (try dsimp only at hSw)
          go_simp
          all_goals (with_reducible rfl)
        try simp only [Act.put, List.setIfInBounds_toArray, List.set_cons_zero, List.set_cons_succ]
        refine wpAnyH_ready (rs := [1]) (by kernel_rfl) (by simp) ?_
        refine AllReadyH.cons (by simp only [List.getElem?_toArray, List.getElem?_cons_succ, List.getElem?_cons_zero]; rfl) (fun K hK => ?_) AllReadyH.nil
        go_simp
        refine hK.out _ _ trivial (fun hHeld => ?_)
        clear hK K
        try simp only [Act.put, List.setIfInBounds_toArray, List.set_cons_zero, List.set_cons_succ]
        refine wpAnyH_ready (rs := [5]) (by kernel_rfl) (by simp) ?_
        refine AllReadyH.cons (by simp only [List.getElem?_toArray, List.getElem?_cons_succ, List.getElem?_cons_zero]; rfl) (fun K hK => ?_) AllReadyH.nil
        refine step_app rfl _ _ rfl (.slice none 0 0) [] (b.drop fr) rfl (Owns.nil _) ad (b.length - fr) (cap - fr) rfl HD3.out (by exact HRA.out.src) (by show 0 + _ ≤ _; omega) ?_
        intro v' y2 hown hgr hmv
        have hA1 : Away [] wr y2 := ((Away.refl [] wr).drew).grown hgr (fun k hk => by simp [Value.ownBlock] at hk)
        have hnv : New wr.heap.size v' := fun k hk => by
          rcases hmv k hk with e | e
          · simp [Value.ownBlock] at e
          · exact e
        refine hK.out _ _ trivial (fun hHeld => ?_)
        clear hK K
        try simp only [Act.put, List.setIfInBounds_toArray, List.set_cons_zero, List.set_cons_succ]
        refine wpAnyH_take (i := 6) (v := ?_) (by simp only [List.getElem?_toArray, List.getElem?_cons_succ, List.getElem?_cons_zero]; rfl) (by kernel_rfl) (by kernel_rfl) (by kernel_rfl) (by exact fun _ _ _ h => h) (Or.inl ⟨by rfl, ?_⟩) (by assumption) ?_
        rotate_left
        · intro wq hSw
          (try dsimp only at hSw)
          go_simp
          all_goals (with_reducible rfl)
        try simp only [Act.put, List.setIfInBounds_toArray, List.set_cons_zero, List.set_cons_succ]
        refine wpAnyH_ready (rs := [7]) (by kernel_rfl) (by simp) ?_
        refine AllReadyH.cons (by simp only [List.getElem?_toArray, List.getElem?_cons_succ, List.getElem?_cons_zero]; rfl) (fun K hK => ?_) AllReadyH.nil
        obtain ⟨za, zc, hzv, -⟩ := hown.slc
        rw [List.nil_append, HD3.out] at hzv
        subst hzv
        have hc2 := ((HL.out.b1.on hA1).cells HL.out.ad).d
        have hf2 := (HL.out.b1.on hA1).free 45
        refine step_store26 rfl _ _ rfl g4 45 rfl _ _ _ rfl _ hc2 hf2 ?_
        refine hK.out _ _ trivial (fun hHeld => ?_)
        clear hK K
        try simp only [Act.put]
        have hwl := HL.out.aw.size
        have hl4 := HL.out.b1.lt
        have hl2 := HL.out.b2.lt
        have hkz : ∀ k, (Value.slice za (b.length - fr) zc).ownBlock = some k → k ≠ g4 ∧ k ≠ g2 := fun k hk => by have := hnv k hk; omega
        have HB9 : Hid (BoxP (y2.setCell ⟨g4, 45, none⟩ (.slice za (b.length - fr) zc)) g4 (readP b) (.slice none 0 0) (.slice za (b.length - fr) zc)) := by
          rw [HQD.out]
          exact (HL.out.b1.on hA1).put 45 _ ((csP_set HL.out.ad _ _).2.2.2.2.2.2.2.2.2.2.2.2.2 _ _)
        have HB29 := Lib.hid ((HL.out.b2.on hA1).away (away_put (w := y2) (g := g4) 45 (.slice za (b.length - fr) zc)) (by simp; exact fun e => HL.out.e1 e.symm))
        have HO9 : Hid (Owns (y2.setCell ⟨g4, 45, none⟩ (.slice za (b.length - fr) zc)) (.slice za (b.length - fr) zc) (b.drop fr)) := (hown.away (away_put (g := g4) 45 _) (fun k hk => by simpa using (hkz k hk).1))
        have HA9 : Hid (Away [] w (y2.setCell ⟨g4, 45, none⟩ (.slice za (b.length - fr) zc))) := (HL.out.aw.next hA1 (by simp)).setCell (.inr HL.out.n1) _
        have HPD : Hid ((readP b).d = b.drop fr ∧ (readP b).o = []) := by rw [HQD.out]; exact ⟨rfl, HQO.out⟩
        have hn2' := HL.out.n2
        clear hc2 hf2 c45 f45 hown hgr hmv hA1 HL HRA
        generalize y2.setCell ⟨g4, 45, none⟩ (.slice za (b.length - fr) zc) = y9 at *
        refine wpAnyH_done (by kernel_rfl) ?_ _
        have HWF : Hid (Wf (readP b)) := read_wf HBY.out hlen (by omega)
        have HPK : Hid (Pkt y9 (readP b) (.slice none 0 0) (.slice za (b.length - fr) zc)) := ⟨HWF.out, by rw [HPD.out.2]; exact Sl.nil _, by rw [HPD.out.1]; exact HO9.out.sl (HBY.out.drop fr) (by rw [HD3.out]; omega)⟩
        go_wp2_with (first | (refine wpList_load28 rfl _ rfl g4 rfl (readP b) _ _ (by exact HB9.out) HWF.out.ad ?_))
        refine (rright_c (readP b) (.slice none 0 0) (.slice za (b.length - fr) zc) _ HPK.out).mono ?_
        rintro E ya ⟨rfl, haw⟩
        replace HB9 := Lib.hid (HB9.out.on haw); replace HB29 := Lib.hid (HB29.out.on haw); replace HA9 := Lib.hid (HA9.out.next haw (by simp)); replace HO9 := Lib.hid (HO9.out.away haw (by simp))
        clear haw HPK
        generalize hrg : rightP (readP b) = rg
        have HRG := Lib.hid hrg
        clear hrg
        cases rg
        · have HZ : Hid (parse6 b = (zeroPk, 50)) := by show _ = _; rw [HPE.out, if_neg (by rw [HM0.out]; simp), HRG.out]; simp
          go_wp2_with (first | (refine wpList_store28 rfl _ _ rfl _ rfl zeroPk (.slice none 0 0) (.slice none 0 0) rfl zeroPk (.slice none 0 0) (.slice none 0 0) (by exact HB29.out) ⟨rfl, rfl⟩ ⟨rfl, rfl⟩ rfl rfl ?_; refine Hid.out ?_))
          refine Lib.hid ?_
          intro wz hbz hawz
          have HBz := Lib.hid hbz
          have HAz : Hid (Away [] w wz) := HA9.out.next hawz (fun x hx => .inr (by simp at hx; omega))
          clear hbz hawz
          go_wp2_with fail
          refine bodyPost_ret (result28t rfl _ _ _ _ _ _ (.int .i64 50) rfl rfl HBz.out ⟨rfl, rfl⟩) rfl (ZER.out _ _ HAz.out HZ.out)
        · have HZ : Hid (parse6 b = (readP b, 0)) := by show _ = _; rw [HPE.out, if_neg (by rw [HM0.out]; simp), HRG.out, HCL.out]; simp
          go_wp2_with (first
            | (refine wpList_load28 rfl _ rfl g4 rfl (readP b) _ _ (by exact HB9.out) HWF.out.ad ?_)
            | (refine wpList_store28 rfl _ _ rfl _ rfl (readP b) (.slice none 0 0) (.slice za (b.length - fr) zc) rfl zeroPk (.slice none 0 0) (.slice none 0 0) (by exact HB29.out) HWF.out.ad ⟨rfl, rfl⟩ rfl rfl ?_; refine Hid.out ?_))
          refine Lib.hid ?_
          intro wz hbz hawz
          have HBz := Lib.hid hbz
          have HAz : Hid (Away [] w wz) := HA9.out.next hawz (fun x hx => .inr (by simp at hx; omega))
          have HOz := Lib.hid (HO9.out.away hawz (fun k hk => by simpa using (hkz k hk).2))
          clear hbz hawz
          go_wp2_with fail
          refine bodyPost_ret (result28t rfl _ _ _ _ _ _ (.int .i64 0) rfl rfl HBz.out HWF.out.ad) rfl ⟨_, _, by rw [HZ.out], by rw [HZ.out]; show Owns _ _ (readP b).o; rw [HPD.out.2]; exact Owns.nil _, by rw [HZ.out]; show Owns _ _ (readP b).d; rw [HPD.out.1]; exact HOz.out, HAz.out⟩
end Go.Proofs.Ytbmppdihceaacaa
