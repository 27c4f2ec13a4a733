/-
  readHead.
-/
import Derived.Test.YtbgpjhekohabiabDoorRAdr
namespace Go.Proofs.YtbgpjhekohabiabDoor
open Go.ChangeShapes Go.WideShapes Go.ChangeAt Go.RowKit Num
set_option linter.unusedVariables false
set_option maxHeartbeats 4000000
set_option maxRecDepth 100000

theorem rd1 (x : Int) (r : List Int) : rdOut (x :: r) 0 1 = [x] ∧ rdRest (x :: r) 0 1 = r ∧ rdErr (x :: r) 0 1 = 0 := by
  have h : (0 : Int) = 0 ∧ (0 : Int) ≤ 1 ∧ (1 : Int) ≤ ((x :: r).length : Int) := ⟨rfl, by omega, by simp; omega⟩
  unfold rdOut rdRest rdErr
  rw [if_pos h, if_pos h, if_pos rfl, if_neg (by omega), if_pos h.2.2]
  exact ⟨rfl, rfl, rfl⟩
theorem rd2 (x y : Int) (r : List Int) : rdOut (x :: y :: r) 0 2 = [x, y] ∧ rdRest (x :: y :: r) 0 2 = r ∧ rdErr (x :: y :: r) 0 2 = 0 := by
  have h : (0 : Int) = 0 ∧ (0 : Int) ≤ 2 ∧ (2 : Int) ≤ ((x :: y :: r).length : Int) := ⟨rfl, by omega, by simp; omega⟩
  unfold rdOut rdRest rdErr
  rw [if_pos h, if_pos h, if_pos rfl, if_neg (by omega), if_pos h.2.2]
  exact ⟨rfl, rfl, rfl⟩
theorem rdN (r : List Int) : rdOut r 0 r.length = r ∧ rdRest r 0 r.length = [] ∧ rdErr r 0 r.length = 0 := by
  have h : (0 : Int) = 0 ∧ (0 : Int) ≤ r.length ∧ (r.length : Int) ≤ (r.length : Int) := ⟨rfl, by omega, by omega⟩
  unfold rdOut rdRest rdErr
  rw [if_pos h, if_pos h, if_pos rfl, if_neg (by omega), if_pos h.2.2]
  simp
abbrev vnil : Value := .slice none 0 0
/-- A reader at work beside a packet that is being read. -/
structure RH (w0 w : World) (g2 g4 gr dr : Nat) (p : Pk) (r : List Int) : Prop where
  b2 : BoxP w g2 zeroPk (.slice none 0 0) (.slice none 0 0)
  b4 : BoxP w g4 p (.slice none 0 0) (.slice none 0 0)
  rd : Rd w gr dr r 0
  aw : Away [] w0 w
  ad : Ad p
  n2 : w0.heap.size ≤ g2
  n4 : w0.heap.size ≤ g4
  nr : w0.heap.size ≤ gr
  e1 : g2 ≠ g4
  e2 : g2 ≠ gr
  e3 : g4 ≠ gr
  e4 : g4 ≠ dr
theorem RH.read {w0 w w' : World} {g2 g4 gr dr : Nat} {p : Pk} {r r' : List Int} (h : RH w0 w g2 g4 gr dr p r) (hr : Rd w' gr dr r' 0) (haw : Away [gr] w w') : RH w0 w' g2 g4 gr dr p r' :=
  ⟨h.b2.away haw (by simp; exact h.e2), h.b4.away haw (by simp; exact h.e3), hr, h.aw.next haw (fun x hx => .inr (by simp at hx; rw [hx]; exact h.nr)), h.ad, h.n2, h.n4, h.nr, h.e1, h.e2, h.e3, h.e4⟩
theorem RH.put {w0 w : World} {g2 g4 gr dr : Nat} {p q : Pk} {r : List Int} (h : RH w0 w g2 g4 gr dr p r) (i : Nat) (x : Value) (hx : (csP p (.slice none 0 0) (.slice none 0 0)).setIfInBounds i x = csP q (.slice none 0 0) (.slice none 0 0)) (hq : Ad q) :
    RH w0 (w.setCell ⟨g4, i, none⟩ x) g2 g4 gr dr q r :=
  ⟨h.b2.away (away_put i x) (by simp; exact h.e1), h.b4.put i x hx, h.rd.away (away_put (g := g4) i x) (by simp; exact fun e => h.e3 e.symm) (by simp; exact fun e => h.e4 e.symm), h.aw.setCell (.inr h.n4) _, hq, h.n2, h.n4, h.nr, h.e1, h.e2, h.e3, h.e4⟩
theorem RH.u8 {w0 w : World} {g2 g4 gr dr : Nat} {p : Pk} {x : Int} {r : List Int} (h : RH w0 w g2 g4 gr dr p (x :: r)) :
    Calls Tryd.prog 52 #[.pointer (some ⟨gr, 0, none⟩)] w fun E w' => E = .returned (.int .u8 x) ∧ RH w0 w' g2 g4 gr dr p r := by
  have k := u8_any w gr dr (x :: r) 0 h.rd
  obtain ⟨e1, e2, e3⟩ := rd1 x r
  rw [e1, e2, e3, show num [x] = x from by simp [num]] at k
  exact k.mono fun E w' hk => ⟨hk.1, h.read hk.2.1 hk.2.2⟩
theorem RH.u16 {w0 w : World} {g2 g4 gr dr : Nat} {p : Pk} {x y : Int} {r : List Int} (h : RH w0 w g2 g4 gr dr p (x :: y :: r)) :
    Calls Tryd.prog 53 #[.pointer (some ⟨gr, 0, none⟩)] w fun E w' => E = .returned (.int .u16 (256 * x + y)) ∧ RH w0 w' g2 g4 gr dr p r := by
  have k := u16_any w gr dr (x :: y :: r) 0 h.rd
  obtain ⟨e1, e2, e3⟩ := rd2 x y r
  rw [e1, e2, e3, show num [x, y] = 256 * x + y from by simp [num]] at k
  exact k.mono fun E w' hk => ⟨hk.1, h.read hk.2.1 hk.2.2⟩
theorem RH.skip1 {w0 w : World} {g2 g4 gr dr : Nat} {p : Pk} {x : Int} {r : List Int} (h : RH w0 w g2 g4 gr dr p (x :: r)) :
    Calls Tryd.prog 55 #[.pointer (some ⟨gr, 0, none⟩), .int .i64 1] w fun E w' => (∃ v, E = .returned v) ∧ RH w0 w' g2 g4 gr dr p r := by
  have k := bytes_any w gr dr (x :: r) 0 1 h.rd
  obtain ⟨e1, e2, e3⟩ := rd1 x r
  rw [e1, e2, e3] at k
  exact k.mono fun E w' ⟨v, hv, _, _, hr, ha, _⟩ => ⟨⟨v, hv⟩, h.read hr ha⟩
theorem RH.skip2 {w0 w : World} {g2 g4 gr dr : Nat} {p : Pk} {x y : Int} {r : List Int} (h : RH w0 w g2 g4 gr dr p (x :: y :: r)) :
    Calls Tryd.prog 55 #[.pointer (some ⟨gr, 0, none⟩), .int .i64 2] w fun E w' => (∃ v, E = .returned v) ∧ RH w0 w' g2 g4 gr dr p r := by
  have k := bytes_any w gr dr (x :: y :: r) 0 2 h.rd
  obtain ⟨e1, e2, e3⟩ := rd2 x y r
  rw [e1, e2, e3] at k
  exact k.mono fun E w' ⟨v, hv, _, _, hr, ha, _⟩ => ⟨⟨v, hv⟩, h.read hr ha⟩
theorem RH.adr {w0 w : World} {g2 g4 gr dr : Nat} {p : Pk} {a b c d : Int} {r : List Int} (h : RH w0 w g2 g4 gr dr p (a :: b :: c :: d :: r)) :
    Calls Tryd.prog 115 #[.pointer (some ⟨gr, 0, none⟩)] w fun E w' => E = .returned (.agg (csA 4 ([a, b, c, d] ++ z12))) ∧ RH w0 w' g2 g4 gr dr p r :=
  (readAddress_c w gr dr (a :: b :: c :: d :: r) [a, b, c, d] r h.rd (by simp) rfl rfl).mono fun E w' hk => ⟨hk.1, h.read hk.2.1 hk.2.2⟩
/-- A store of an address into the packet that is being read. -/
theorem wpList_store24m {ops : Array Oper} {rest : List Oper} {o : Oper} {a : Act} {w : World} {Q : Exit → Act → World → Prop} (hw : Region.wanted o (yielded ops a.tmps) = true) (x y : Operand) (ho : o.op = .store 24 x y)
    (g k : Nat) (hx : a.eval x = .pointer (some ⟨g, k, none⟩)) (v : Int) (l : List Int) (hy : a.eval y = .agg (csA v l)) (p q : Pk) (ov dv : Value) (hb : BoxP w g p ov dv) (ha : Ad p) (hl : l.length = 16) (hk : k ≤ 29)
    (hq : ((csP p ov dv).toList.take k ++ (csA v l).toList ++ (csP p ov dv).toList.drop (k + 17)).toArray = csP q ov dv)
    (h : ∀ w1, BoxP w1 g q ov dv → Away [g] w w1 → wpList Tryd.prog ops Q rest (a.put o.dst undef) w1) : wpList Tryd.prog ops Q (o :: rest) a w := by
  refine BigFrame.wpList_want hw fun K hK => ?_
  have h17 : (csA v l).toList.length = 17 := by simpa using csA_size hl
  have hst := run_storeCells_at Tryd.prog g k 28 (csA v l).toList 0 (csP p ov dv) w hb (by rw [h17, csP_size ha]; omega) (fun u hu => (Array.all_eq_true_iff_forall_mem.1 (csA_one v l)) u (by simpa using hu))
  rw [Nat.add_zero, h17, hq] at hst
  have e : (Instr.storeAt 24 (.pointer (some ⟨g, k, none⟩)) (.agg (csA v l))).run Tryd.prog w = .ok () (w.setRow g (csP q ov dv)) := by
    simp only [Instr.storeAt, Instr.sureAddr, Sem.run_bind, Sem.run_pure, Result.andThen]
    have hi := info24
    cases hq' : Tryd.prog.info? 24 with
    | none => simp [hq'] at hi
    | some i =>
      have hs : i.size = 17 := by simpa [hq'] using hi
      have hs' : (csA v l).size = i.size := by rw [csA_size hl, hs]
      simp [storeVar, sizeOf, typeInfo, hq', Value.cells, hs', hst]
  unfold Oper.wp execOp
  simp only [ho, hx, hy, Sem.run_bind, e, Result.andThen_ok, Sem.run_pure]
  exact hK _ _ (h _ (by unfold BoxP at hb ⊢; simp [World.setRow, Array.getElem?_modify, hb]) ((Away.refl [g] w).setRow (.inl (by simp)) _))
theorem csP_src {p : Pk} (h : Ad p) (ov dv : Value) (v : Int) (l : List Int) : ((csP p ov dv).toList.take 3 ++ (csA v l).toList ++ (csP p ov dv).toList.drop (3 + 17)).toArray = csP { p with sv := v, sb := l } ov dv := by
  obtain ⟨pv, tos, flow, sv, sb, dv', db, proto, ttl, id, df, more, frag, off, o, d⟩ := p
  obtain ⟨h1, h2⟩ := h
  simp only at h1 h2
  obtain ⟨b0, b1, b2, b3, b4, b5, b6, b7, b8, b9, b10, b11, b12, b13, b14, b15, rfl⟩ := list16 h1
  obtain ⟨c0, c1, c2, c3, c4, c5, c6, c7, c8, c9, c10, c11, c12, c13, c14, c15, rfl⟩ := list16 h2
  simp [csP, listP, csA, cellsA]
theorem csP_dst {p : Pk} (h : Ad p) (ov dv : Value) (v : Int) (l : List Int) : ((csP p ov dv).toList.take 20 ++ (csA v l).toList ++ (csP p ov dv).toList.drop (20 + 17)).toArray = csP { p with dv := v, db := l } ov dv := by
  obtain ⟨pv, tos, flow, sv, sb, dv', db, proto, ttl, id, df, more, frag, off, o, d⟩ := p
  obtain ⟨h1, h2⟩ := h
  simp only at h1 h2
  obtain ⟨b0, b1, b2, b3, b4, b5, b6, b7, b8, b9, b10, b11, b12, b13, b14, b15, rfl⟩ := list16 h1
  obtain ⟨c0, c1, c2, c3, c4, c5, c6, c7, c8, c9, c10, c11, c12, c13, c14, c15, rfl⟩ := list16 h2
  simp [csP, listP, csA, cellsA]
theorem RH.away {w0 w w' : World} {g2 g4 gr dr : Nat} {p q : Pk} {r : List Int} (h : RH w0 w g2 g4 gr dr p r) (hb : BoxP w' g4 q (.slice none 0 0) (.slice none 0 0)) (haw : Away [g4] w w') (hq : Ad q) : RH w0 w' g2 g4 gr dr q r :=
  ⟨h.b2.away haw (by simp; exact h.e1), hb, h.rd.away haw (by simp; exact fun e => h.e3 e.symm) (by simp; exact fun e => h.e4 e.symm), h.aw.next haw (fun x hx => .inr (by simp at hx; rw [hx]; exact h.n4)), hq, h.n2, h.n4, h.nr, h.e1, h.e2, h.e3, h.e4⟩
#print axioms csP_dst
end Go.Proofs.YtbgpjhekohabiabDoor
