/-
  readFixed, readFragment.
-/
import Derived.Test.YtbgpjhekohabiaaDoorRAdr6
namespace Go.Proofs.YtbgpjhekohabiaaDoor.S6
open Go.ChangeShapes Go.WideShapes Go.ChangeAt Go.RowKit Num
set_option linter.unusedVariables false
set_option maxHeartbeats 4000000
set_option maxRecDepth 100000

theorem rd1 (x : Int) (r : List Int) : rdOut (x :: r) 0 1 = [x] ∧ rdRest (x :: r) 0 1 = r ∧ rdErr (x :: r) 0 1 = 0 := by
  have h : (0 : Int) = 0 ∧ (0 : Int) ≤ 1 ∧ (1 : Int) ≤ ((x :: r).length : Int) := ⟨rfl, by omega, by simp; omega⟩
  unfold rdOut rdRest rdErr
  rw [if_pos h, if_pos h, if_pos rfl, if_neg (by omega), if_pos h.2.2]
  exact ⟨rfl, rfl, rfl⟩
theorem rd2 (x y : Int) (r : List Int) : rdOut (x :: y :: r) 0 2 = [x, y] ∧ rdRest (x :: y :: r) 0 2 = r ∧ rdErr (x :: y :: r) 0 2 = 0 := by
  have h : (0 : Int) = 0 ∧ (0 : Int) ≤ 2 ∧ (2 : Int) ≤ ((x :: y :: r).length : Int) := ⟨rfl, by omega, by simp; omega⟩
  unfold rdOut rdRest rdErr
  rw [if_pos h, if_pos h, if_pos rfl, if_neg (by omega), if_pos h.2.2]
  exact ⟨rfl, rfl, rfl⟩
theorem rdN (r : List Int) : rdOut r 0 r.length = r ∧ rdRest r 0 r.length = [] ∧ rdErr r 0 r.length = 0 := by
  have h : (0 : Int) = 0 ∧ (0 : Int) ≤ r.length ∧ (r.length : Int) ≤ (r.length : Int) := ⟨rfl, by omega, by omega⟩
  unfold rdOut rdRest rdErr
  rw [if_pos h, if_pos h, if_pos rfl, if_neg (by omega), if_pos h.2.2]
  simp
abbrev vnil : Value := .slice none 0 0
theorem rd4 (x y z u : Int) (r : List Int) : rdOut (x :: y :: z :: u :: r) 0 4 = [x, y, z, u] ∧ rdRest (x :: y :: z :: u :: r) 0 4 = r ∧ rdErr (x :: y :: z :: u :: r) 0 4 = 0 := by
  have h : (0 : Int) = 0 ∧ (0 : Int) ≤ 4 ∧ (4 : Int) ≤ ((x :: y :: z :: u :: r).length : Int) := ⟨rfl, by omega, by simp; omega⟩
  unfold rdOut rdRest rdErr
  rw [if_pos h, if_pos h, if_pos rfl, if_neg (by omega), if_pos h.2.2]
  exact ⟨rfl, rfl, rfl⟩
/-- A reader at work beside a packet that is being read. -/
structure RH (w0 w : World) (g2 g4 gr dr : Nat) (p : Pk) (r : List Int) : Prop where
  b2 : BoxP w g2 zeroPk (.slice none 0 0) (.slice none 0 0)
  b4 : BoxP w g4 p (.slice none 0 0) (.slice none 0 0)
  rd : Rd w gr dr r 0
  aw : Away [gr] w0 w
  ad : Ad p
  n2 : w0.heap.size ≤ g2
  n4 : w0.heap.size ≤ g4
  e1 : g2 ≠ g4
  e2 : g2 ≠ gr
  e3 : g4 ≠ gr
  e4 : g4 ≠ dr
  e5 : g2 ≠ dr
theorem RH.read {w0 w w' : World} {g2 g4 gr dr : Nat} {p : Pk} {r r' : List Int} (h : RH w0 w g2 g4 gr dr p r) (hr : Rd w' gr dr r' 0) (haw : Away [gr] w w') : RH w0 w' g2 g4 gr dr p r' :=
  ⟨h.b2.away haw (by simp; exact h.e2), h.b4.away haw (by simp; exact h.e3), hr, h.aw.trans haw, h.ad, h.n2, h.n4, h.e1, h.e2, h.e3, h.e4, h.e5⟩
theorem RH.put {w0 w : World} {g2 g4 gr dr : Nat} {p q : Pk} {r : List Int} (h : RH w0 w g2 g4 gr dr p r) (i : Nat) (x : Value) (hx : (csP p (.slice none 0 0) (.slice none 0 0)).setIfInBounds i x = csP q (.slice none 0 0) (.slice none 0 0)) (hq : Ad q) :
    RH w0 (w.setCell ⟨g4, i, none⟩ x) g2 g4 gr dr q r :=
  ⟨h.b2.away (away_put i x) (by simp; exact h.e1), h.b4.put i x hx, h.rd.away (away_put (g := g4) i x) (by simp; exact fun e => h.e3 e.symm) (by simp; exact fun e => h.e4 e.symm), h.aw.setCell (.inr h.n4) _, hq, h.n2, h.n4, h.e1, h.e2, h.e3, h.e4, h.e5⟩
theorem RH.u8 {w0 w : World} {g2 g4 gr dr : Nat} {p : Pk} {x : Int} {r : List Int} (h : RH w0 w g2 g4 gr dr p (x :: r)) :
    Calls Tryd.prog 39 #[.pointer (some ⟨gr, 0, none⟩)] w fun E w' => E = .returned (.int .u8 x) ∧ RH w0 w' g2 g4 gr dr p r := by
  have k := u8_any w gr dr (x :: r) 0 h.rd
  obtain ⟨e1, e2, e3⟩ := rd1 x r
  rw [e1, e2, e3, show num [x] = x from by simp [num]] at k
  exact k.mono fun E w' hk => ⟨hk.1, h.read hk.2.1 hk.2.2⟩
theorem RH.u16 {w0 w : World} {g2 g4 gr dr : Nat} {p : Pk} {x y : Int} {r : List Int} (h : RH w0 w g2 g4 gr dr p (x :: y :: r)) :
    Calls Tryd.prog 40 #[.pointer (some ⟨gr, 0, none⟩)] w fun E w' => E = .returned (.int .u16 (256 * x + y)) ∧ RH w0 w' g2 g4 gr dr p r := by
  have k := u16_any w gr dr (x :: y :: r) 0 h.rd
  obtain ⟨e1, e2, e3⟩ := rd2 x y r
  rw [e1, e2, e3, show num [x, y] = 256 * x + y from by simp [num]] at k
  exact k.mono fun E w' hk => ⟨hk.1, h.read hk.2.1 hk.2.2⟩
theorem num4 (x y z u : Int) : num [x, y, z, u] = 16777216 * x + 65536 * y + 256 * z + u := by simp [num]; omega
theorem RH.u32 {w0 w : World} {g2 g4 gr dr : Nat} {p : Pk} {x y z u : Int} {r : List Int} (h : RH w0 w g2 g4 gr dr p (x :: y :: z :: u :: r)) :
    Calls Tryd.prog 41 #[.pointer (some ⟨gr, 0, none⟩)] w fun E w' => E = .returned (.int .u32 (16777216 * x + 65536 * y + 256 * z + u)) ∧ RH w0 w' g2 g4 gr dr p r := by
  have k := u32_any w gr dr (x :: y :: z :: u :: r) 0 h.rd
  obtain ⟨e1, e2, e3⟩ := rd4 x y z u r
  rw [e1, e2, e3, num4] at k
  exact k.mono fun E w' hk => ⟨hk.1, h.read hk.2.1 hk.2.2⟩
theorem RH.adr {w0 w : World} {g2 g4 gr dr : Nat} {p : Pk} {s r : List Int} (h : RH w0 w g2 g4 gr dr p (s ++ r)) (hs : s.length = 16) :
    Calls Tryd.prog 105 #[.pointer (some ⟨gr, 0, none⟩)] w fun E w' => E = .returned (.agg (csA 6 s)) ∧ RH w0 w' g2 g4 gr dr p r :=
  (readAddress_c w gr dr (s ++ r) s r h.rd (by simp [hs]) (by rw [← hs]; exact List.take_left) (by rw [← hs]; exact List.drop_left)).mono fun E w' hk => ⟨hk.1, h.read hk.2.1 hk.2.2⟩
/-- A store of an address into the packet that is being read. -/
theorem wpList_store24m {ops : Array Oper} {rest : List Oper} {o : Oper} {a : Act} {w : World} {Q : Exit → Act → World → Prop} (hw : Region.wanted o (yielded ops a.tmps) = true) (x y : Operand) (ho : o.op = .store 30 x y)
    (g k : Nat) (hx : a.eval x = .pointer (some ⟨g, k, none⟩)) (v : Int) (l : List Int) (hy : a.eval y = .agg (csA v l)) (p q : Pk) (ov dv : Value) (hb : BoxP w g p ov dv) (ha : Ad p) (hl : l.length = 16) (hk : k ≤ 29)
    (hq : ((csP p ov dv).toList.take k ++ (csA v l).toList ++ (csP p ov dv).toList.drop (k + 17)).toArray = csP q ov dv)
    (h : ∀ w1, BoxP w1 g q ov dv → Away [g] w w1 → wpList Tryd.prog ops Q rest (a.put o.dst undef) w1) : wpList Tryd.prog ops Q (o :: rest) a w := by
  refine BigFrame.wpList_want hw fun K hK => ?_
  have h17 : (csA v l).toList.length = 17 := by simpa using csA_size hl
  have hst := run_storeCells_at Tryd.prog g k 32 (csA v l).toList 0 (csP p ov dv) w hb (by rw [h17, csP_size ha]; omega) (fun u hu => (Array.all_eq_true_iff_forall_mem.1 (csA_one v l)) u (by simpa using hu))
  rw [Nat.add_zero, h17, hq] at hst
  have e : (Instr.storeAt 30 (.pointer (some ⟨g, k, none⟩)) (.agg (csA v l))).run Tryd.prog w = .ok () (w.setRow g (csP q ov dv)) := by
    simp only [Instr.storeAt, Instr.sureAddr, Sem.run_bind, Sem.run_pure, Result.andThen]
    have hi := info24
    cases hq' : Tryd.prog.info? 30 with
    | none => simp [hq'] at hi
    | some i =>
      have hs : i.size = 17 := by simpa [hq'] using hi
      have hs' : (csA v l).size = i.size := by rw [csA_size hl, hs]
      simp [storeVar, sizeOf, typeInfo, hq', Value.cells, hs', hst]
  unfold Oper.wp execOp
  simp only [ho, hx, hy, Sem.run_bind, e, Result.andThen_ok, Sem.run_pure]
  exact hK _ _ (h _ (by unfold BoxP at hb ⊢; simp [World.setRow, Array.getElem?_modify, hb]) ((Away.refl [g] w).setRow (.inl (by simp)) _))
theorem csP_src {p : Pk} (h : Ad p) (ov dv : Value) (v : Int) (l : List Int) : ((csP p ov dv).toList.take 3 ++ (csA v l).toList ++ (csP p ov dv).toList.drop (3 + 17)).toArray = csP { p with sv := v, sb := l } ov dv := by
  obtain ⟨pv, tos, flow, sv, sb, dv', db, proto, ttl, id, df, more, frag, off, o, d⟩ := p
  obtain ⟨h1, h2⟩ := h
  simp only at h1 h2
  obtain ⟨b0, b1, b2, b3, b4, b5, b6, b7, b8, b9, b10, b11, b12, b13, b14, b15, rfl⟩ := list16 h1
  obtain ⟨c0, c1, c2, c3, c4, c5, c6, c7, c8, c9, c10, c11, c12, c13, c14, c15, rfl⟩ := list16 h2
  simp [csP, listP, csA, cellsA]
theorem csP_dst {p : Pk} (h : Ad p) (ov dv : Value) (v : Int) (l : List Int) : ((csP p ov dv).toList.take 20 ++ (csA v l).toList ++ (csP p ov dv).toList.drop (20 + 17)).toArray = csP { p with dv := v, db := l } ov dv := by
  obtain ⟨pv, tos, flow, sv, sb, dv', db, proto, ttl, id, df, more, frag, off, o, d⟩ := p
  obtain ⟨h1, h2⟩ := h
  simp only at h1 h2
  obtain ⟨b0, b1, b2, b3, b4, b5, b6, b7, b8, b9, b10, b11, b12, b13, b14, b15, rfl⟩ := list16 h1
  obtain ⟨c0, c1, c2, c3, c4, c5, c6, c7, c8, c9, c10, c11, c12, c13, c14, c15, rfl⟩ := list16 h2
  simp [csP, listP, csA, cellsA]
theorem RH.away {w0 w w' : World} {g2 g4 gr dr : Nat} {p q : Pk} {r : List Int} (h : RH w0 w g2 g4 gr dr p r) (hb : BoxP w' g4 q (.slice none 0 0) (.slice none 0 0)) (haw : Away [g4] w w') (hq : Ad q) : RH w0 w' g2 g4 gr dr q r :=
  ⟨h.b2.away haw (by simp; exact h.e1), hb, h.rd.away haw (by simp; exact fun e => h.e3 e.symm) (by simp; exact fun e => h.e4 e.symm), h.aw.next haw (fun x hx => .inr (by simp at hx; rw [hx]; exact h.n4)), hq, h.n2, h.n4, h.e1, h.e2, h.e3, h.e4, h.e5⟩
theorem and8 (x : Int) (h0 : 0 ≤ x) (h1 : x ≤ 4095) : bits .and .u32 x 255 = x % 256 := by
  rw [u32_and _ _ h0 (by omega) (by omega) (by omega), show (255 : Int).toNat = 2 ^ 8 - 1 from rfl, Nat.and_two_pow_sub_one_eq_mod]
  omega
theorem andlo (f : Int) (h0 : 0 ≤ f) (h1 : f ≤ 65535) : bits .and .u16 f 1 = f % 2 := by
  rw [u16_and _ _ h0 (by omega) (by omega) (by omega), show (1 : Int).toNat = 2 ^ 1 - 1 from rfl, Nat.and_two_pow_sub_one_eq_mod]
  omega
theorem nat_hi (n : Nat) (h : n < 65536) : n &&& 65528 = n / 8 * 8 := by
  have e : n / 8 * 8 = 2 ^ 3 * (n / 2 ^ 3) := by omega
  rw [e]
  apply Nat.eq_of_testBit_eq
  intro i
  rw [Nat.testBit_and, Nat.testBit_two_pow_mul, Nat.testBit_div_two_pow]
  by_cases hi : i < 16
  · have : ∀ j : Fin 16, (65528 : Nat).testBit j.val = decide (j.val ≥ 3) := by decide
    rw [this ⟨i, hi⟩]
    by_cases h3 : 3 ≤ i
    · simp only [h3, decide_true, Bool.and_true, Bool.true_and]; rw [Nat.sub_add_cancel h3]
    · simp [h3]
  · have hz : n.testBit i = false := Nat.testBit_lt_two_pow (Nat.lt_of_lt_of_le h (by have : 2 ^ 16 ≤ 2 ^ i := Nat.pow_le_pow_right (by decide) (by omega); omega))
    have h3 : 3 ≤ i := by omega
    rw [hz, Nat.sub_add_cancel h3, hz]; simp
theorem andhi (f : Int) (h0 : 0 ≤ f) (h1 : f ≤ 65535) : bits .and .u16 f 65528 = f / 8 * 8 := by
  rw [u16_and _ _ h0 (by omega) (by omega) (by omega)]
  obtain ⟨n, rfl⟩ := Int.eq_ofNat_of_zero_le h0
  rw [Int.toNat_natCast, show (65528 : Int).toNat = 65528 from rfl, nat_hi n (by omega)]
  omega
theorem nat_mid : ∀ m : Fin 8, m.val &&& 6 = m.val / 2 * 2 := by decide
theorem andmid (f : Int) (h0 : 0 ≤ f) (h1 : f ≤ 65535) : bits .and .u16 f 6 = f / 2 % 4 * 2 := by
  rw [u16_and _ _ h0 (by omega) (by omega) (by omega)]
  obtain ⟨n, rfl⟩ := Int.eq_ofNat_of_zero_le h0
  rw [Int.toNat_natCast, show (6 : Int).toNat = 6 from rfl]
  have e : n &&& 6 = (n % 8) &&& 6 := by
    have : (6 : Nat) = 7 &&& 6 := by decide
    conv => lhs; rw [this, ← Nat.and_assoc]
    rw [show n &&& 7 = n % 8 from Nat.and_two_pow_sub_one_eq_mod n 3]
  rw [e, nat_mid ⟨n % 8, by omega⟩]
  simp only
  omega
/-- What readFixed tells. -/
def FixOut (w : World) (gr dr : Nat) (p : Pk) (r : List Int) (E : Ending) (w' : World) : Prop :=
  E = .returned (.agg (csP p (.slice none 0 0) (.slice none 0 0))) ∧ Rd w' gr dr r 0 ∧ Away [gr] w w'
theorem readFixed_c (w : World) (gr dr : Nat) (b0 b1 b2 b3 b4 b5 b6 b7 : Int) (s d r : List Int) (hs : s.length = 16) (hd : d.length = 16) (hr : Rd w gr dr (bs b0 b1 b2 b3 b4 b5 b6 b7 s d r) 0) :
    Calls Tryd.prog 93 #[.pointer (some ⟨gr, 0, none⟩)] w fun E w' => FixOut w gr dr (fixR (bs b0 b1 b2 b3 b4 b5 b6 b7 s d r)) r E w' := by
  have hx := bs_at b0 b1 b2 b3 b4 b5 b6 b7 s d r hs hd
  have hby := hr.bytes.1
  have x0 := hby.head
  have x1 := hby.tail.head
  have x2 := hby.tail.tail.head
  have x3 := hby.tail.tail.tail.head
  have x6 := hby.tail.tail.tail.tail.tail.tail.head
  have x7 := hby.tail.tail.tail.tail.tail.tail.tail.head
  have hlt := hr.lt
  have HR := Lib.hid hr
  obtain ⟨F, hF⟩ : ∃ F, F = 16777216 * b0 + 65536 * b1 + 256 * b2 + b3 := ⟨_, rfl⟩
  have hfx : fixR (bs b0 b1 b2 b3 b4 b5 b6 b7 s d r) = ⟨6, F / 1048576 % 256, F % 1048576, 6, s, 6, d, b6, b7, 0, false, false, false, 0, [], []⟩ := by
    unfold fixR wd4; rw [hx.g0, hx.g1, hx.g2, hx.g3, hx.es, hx.ed, hx.g6, hx.g7, hF]
  rw [hfx]
  have f0 : 0 ≤ F := by omega
  have f1 : F ≤ 4294967295 := by omega
  have k8 := and8 (F / 1048576) (by omega) (by omega)
  have HF := Lib.hid hF
  have HS := Lib.hid hs
  have HD := Lib.hid hd
  have HAD : Hid ((z16 : List Int).length = 16 ∧ (z16 : List Int).length = 16) := ⟨rfl, rfl⟩
  clear hF hby hr hx hfx hs hd
  go_enter Tryd.func93, Tryd.ntmps93
  go_wp2_with (refine wpList_alloc28 rfl rfl ?_; refine Hid.out ?_)
  refine Lib.hid ?_
  intro g2 w1 hg2 hb2 haw1
  have HB2 := Lib.hid hb2; have HA1 := Lib.hid haw1
  have hl2 := hb2.lt
  clear hb2 haw1
  go_wp2_with (first | (refine wpList_alloc28 rfl rfl ?_; refine Hid.out ?_))
  refine Lib.hid ?_
  intro g4 w2 hg4 hb4 haw2
  have HB4 := Lib.hid hb4; have HA2 := Lib.hid haw2
  have hl4 := hb4.lt
  clear hb4 haw2
  go_wp2_with (first | (refine wpList_store28 rfl _ _ rfl _ rfl { zeroPk with v := 6 } (.slice none 0 0) (.slice none 0 0) rfl zeroPk (.slice none 0 0) (.slice none 0 0) (by exact HB4.out) ⟨rfl, rfl⟩ ⟨rfl, rfl⟩ rfl rfl ?_; refine Hid.out ?_))
  refine Lib.hid ?_
  intro w3 hb4 haw3
  have hs1 := HA1.out.size; have hs2 := HA2.out.size; have hs3 := haw3.size
  have HA3 : Hid (Away [] w w3) := (HA1.out.next HA2.out (by simp)).next haw3 (fun x hx => .inr (by simp at hx; omega))
  have HL : Hid (RH w w3 g2 g4 gr dr { zeroPk with v := 6 } (b0 :: b1 :: b2 :: b3 :: b4 :: b5 :: b6 :: b7 :: (s ++ (d ++ r)))) :=
    ⟨(HB2.out.away HA2.out (by simp)).away haw3 (by simp; omega), hb4, HR.out.away HA3.out (by simp) (by simp), HA3.out.mono (by simp), ⟨rfl, rfl⟩, hg2, by omega, by omega, by omega, by omega, by omega, by omega⟩
  clear HB2 HB4 HA1 HA2 hb4 haw3 HA3 HR hg2 hg4 hl2 hl4 hs1 hs2 hs3
  go_wp2_with fail
  refine (RH.u32 (by exact HL.out)).mono ?_
  rintro E w5 ⟨rfl, hL⟩
  have HLn := Lib.hid hL
  clear HL hL
  have HL := HLn
  clear HLn
  rw [← HF.out]
  have s1 := (HL.out.b4.cells HL.out.ad).tos
  have t1 := HL.out.b4.free 1
  have s2 := (HL.out.b4.cells HL.out.ad).flow
  have t2 := HL.out.b4.free 2
  go_wp2_with fail
  have HLn := Lib.hid ((HL.out.put 1 (.int .i64 (F / 1048576 % 256)) ((csP_set (by exact ⟨rfl, rfl⟩) _ _).2.1 (F / 1048576 % 256)) ⟨rfl, rfl⟩).put 2 (.int .i64 (F % 1048576)) ((csP_set (by exact ⟨rfl, rfl⟩) _ _).2.2.1 (F % 1048576)) ⟨rfl, rfl⟩)
  clear HL s1 t1 s2 t2
  generalize ((w5.setCell ⟨g4, 1, none⟩ (.int .i64 (F / 1048576 % 256))).setCell ⟨g4, 2, none⟩ (.int .i64 (F % 1048576))) = w6 at *
  have HL := HLn
  clear HLn
  refine (RH.u16 (by exact HL.out)).mono ?_
  rintro E w7 ⟨rfl, hL⟩
  have HLn := Lib.hid hL
  clear HL hL
  have HL := HLn
  clear HLn
  go_wp2_with fail
  refine (RH.u8 (by exact HL.out)).mono ?_
  rintro E w8 ⟨rfl, hL⟩
  have HLn := Lib.hid hL
  clear HL hL
  have HL := HLn
  clear HLn
  have s37 := (HL.out.b4.cells HL.out.ad).proto
  have t37 := HL.out.b4.free 37
  go_wp2_with fail
  have HLn := Lib.hid ((HL.out.put 37 (.int .i64 b6) ((csP_set (by exact ⟨rfl, rfl⟩) _ _).2.2.2.2.2.1 (b6)) ⟨rfl, rfl⟩))
  clear HL s37 t37
  generalize (w8.setCell ⟨g4, 37, none⟩ (.int .i64 b6)) = w9 at *
  have HL := HLn
  clear HLn
  refine (RH.u8 (by exact HL.out)).mono ?_
  rintro E w10 ⟨rfl, hL⟩
  have HLn := Lib.hid hL
  clear HL hL
  have HL := HLn
  clear HLn
  have s38 := (HL.out.b4.cells HL.out.ad).ttl
  have t38 := HL.out.b4.free 38
  go_wp2_with fail
  have HLn := Lib.hid ((HL.out.put 38 (.int .i64 b7) ((csP_set (by exact ⟨rfl, rfl⟩) _ _).2.2.2.2.2.2.1 (b7)) ⟨rfl, rfl⟩))
  clear HL s38 t38
  generalize (w10.setCell ⟨g4, 38, none⟩ (.int .i64 b7)) = w11 at *
  have HL := HLn
  clear HLn
  refine (RH.adr (by exact HL.out) HS.out).mono ?_
  rintro E w12 ⟨rfl, hL⟩
  have HLn := Lib.hid hL
  clear HL hL
  have HL := HLn
  clear HLn
  go_wp2_with (first | (refine wpList_store24m rfl _ _ rfl _ 3 rfl 6 _ rfl _ _ _ _ (by exact HL.out.b4) HL.out.ad HS.out (by omega) (csP_src HL.out.ad _ _ _ _) ?_; refine Hid.out ?_))
  refine Lib.hid ?_
  intro w13 hbq hawq
  have HLn := Lib.hid (HL.out.away hbq hawq ⟨HS.out, HL.out.ad.2⟩)
  clear HL hbq hawq
  have HL := HLn
  clear HLn
  go_wp2_with fail
  refine (RH.adr (by exact HL.out) HD.out).mono ?_
  rintro E w14 ⟨rfl, hL⟩
  have HLn := Lib.hid hL
  clear HL hL
  have HL := HLn
  clear HLn
  go_wp2_with (first | (refine wpList_store24m rfl _ _ rfl _ 20 rfl 6 _ rfl _ _ _ _ (by exact HL.out.b4) HL.out.ad HD.out (by omega) (csP_dst HL.out.ad _ _ _ _) ?_; refine Hid.out ?_))
  refine Lib.hid ?_
  intro w15 hbq hawq
  have HLn := Lib.hid (HL.out.away hbq hawq ⟨HL.out.ad.1, HD.out⟩)
  clear HL hbq hawq
  have HL := HLn
  clear HLn
  have hn2 := HL.out.n2
  go_wp2_with (first
    | (refine wpList_load28 rfl _ rfl _ rfl _ _ _ (by exact HL.out.b4) HL.out.ad ?_)
    | (refine wpList_store28 rfl _ _ rfl _ rfl _ _ _ rfl zeroPk (.slice none 0 0) (.slice none 0 0) (by exact HL.out.b2) HL.out.ad ⟨rfl, rfl⟩ rfl rfl ?_; refine Hid.out ?_))
  refine Lib.hid ?_
  intro w9 hb9 haw9
  have HB9 := Lib.hid hb9
  have HR9 := Lib.hid (HL.out.rd.away haw9 (by simp; exact fun e => HL.out.e2 e.symm) (by simp; exact fun e => HL.out.e5 e.symm))
  have HA9 : Hid (Away [gr] w w9) := HL.out.aw.next haw9 (fun x hx => .inr (by simp at hx; omega))
  have HAD9 := Lib.hid HL.out.ad
  clear hb9 haw9 HL
  go_wp2_with fail
  refine bodyPost_ret (result28 rfl _ _ _ _ _ _ rfl HB9.out HAD9.out) rfl ⟨rfl, HR9.out, HA9.out⟩
/-- What readFragment did. -/
def FragOut (w : World) (gp gr dr : Nat) (p : Pk) (ov dv : Value) (t : List Int) (c : Bool) (E : Ending) (w' : World) : Prop :=
  E = .returned (.bool c) ∧ BoxP w' gp p ov dv ∧ Rd w' gr dr t 0 ∧ Away [gp, gr] w w'
/-- A reader beside a packet that is filled. -/
structure RG (w0 w : World) (gp gr dr : Nat) (p : Pk) (ov dv : Value) (r : List Int) : Prop where
  b4 : BoxP w gp p ov dv
  rd : Rd w gr dr r 0
  aw : Away [gp, gr] w0 w
  ad : Ad p
  e3 : gp ≠ gr
  e4 : gp ≠ dr
theorem RG.read {w0 w w' : World} {gp gr dr : Nat} {p : Pk} {ov dv : Value} {r r' : List Int} (h : RG w0 w gp gr dr p ov dv r) (hr : Rd w' gr dr r' 0) (haw : Away [gr] w w') : RG w0 w' gp gr dr p ov dv r' :=
  ⟨h.b4.away haw (by simp; exact h.e3), hr, h.aw.trans (haw.mono (by simp)), h.ad, h.e3, h.e4⟩
theorem RG.put {w0 w : World} {gp gr dr : Nat} {p q : Pk} {ov dv : Value} {r : List Int} (h : RG w0 w gp gr dr p ov dv r) (i : Nat) (x : Value) (hx : (csP p ov dv).setIfInBounds i x = csP q ov dv) (hq : Ad q) :
    RG w0 (w.setCell ⟨gp, i, none⟩ x) gp gr dr q ov dv r :=
  ⟨h.b4.put i x hx, h.rd.away (away_put (g := gp) i x) (by simp; exact fun e => h.e3 e.symm) (by simp; exact fun e => h.e4 e.symm), h.aw.setCell (.inl (by simp)) _, hq, h.e3, h.e4⟩
theorem RG.u8 {w0 w : World} {gp gr dr : Nat} {p : Pk} {ov dv : Value} {x : Int} {r : List Int} (h : RG w0 w gp gr dr p ov dv (x :: r)) :
    Calls Tryd.prog 39 #[.pointer (some ⟨gr, 0, none⟩)] w fun E w' => E = .returned (.int .u8 x) ∧ RG w0 w' gp gr dr p ov dv r := by
  have k := u8_any w gr dr (x :: r) 0 h.rd
  obtain ⟨e1, e2, e3⟩ := rd1 x r
  rw [e1, e2, e3, show num [x] = x from by simp [num]] at k
  exact k.mono fun E w' hk => ⟨hk.1, h.read hk.2.1 hk.2.2⟩
theorem RG.u16 {w0 w : World} {gp gr dr : Nat} {p : Pk} {ov dv : Value} {x y : Int} {r : List Int} (h : RG w0 w gp gr dr p ov dv (x :: y :: r)) :
    Calls Tryd.prog 40 #[.pointer (some ⟨gr, 0, none⟩)] w fun E w' => E = .returned (.int .u16 (256 * x + y)) ∧ RG w0 w' gp gr dr p ov dv r := by
  have k := u16_any w gr dr (x :: y :: r) 0 h.rd
  obtain ⟨e1, e2, e3⟩ := rd2 x y r
  rw [e1, e2, e3, show num [x, y] = 256 * x + y from by simp [num]] at k
  exact k.mono fun E w' hk => ⟨hk.1, h.read hk.2.1 hk.2.2⟩
theorem RG.u32 {w0 w : World} {gp gr dr : Nat} {p : Pk} {ov dv : Value} {x y z u : Int} {r : List Int} (h : RG w0 w gp gr dr p ov dv (x :: y :: z :: u :: r)) :
    Calls Tryd.prog 41 #[.pointer (some ⟨gr, 0, none⟩)] w fun E w' => E = .returned (.int .u32 (16777216 * x + 65536 * y + 256 * z + u)) ∧ RG w0 w' gp gr dr p ov dv r := by
  have k := u32_any w gr dr (x :: y :: z :: u :: r) 0 h.rd
  obtain ⟨e1, e2, e3⟩ := rd4 x y z u r
  rw [e1, e2, e3, num4] at k
  exact k.mono fun E w' hk => ⟨hk.1, h.read hk.2.1 hk.2.2⟩
theorem readFragment_c (w : World) (g4 gr dr : Nat) (p : Pk) (ov dv : Value) (r0 r1 r2 r3 r4 r5 r6 r7 : Int) (t : List Int) (ha : Ad p) (hb : BoxP w g4 p ov dv) (hr : Rd w gr dr (r0 :: r1 :: r2 :: r3 :: r4 :: r5 :: r6 :: r7 :: t) 0) (e3 : g4 ≠ gr) (e4 : g4 ≠ dr) :
    Calls Tryd.prog 94 #[.pointer (some ⟨gr, 0, none⟩), .pointer (some ⟨g4, 0, none⟩)] w fun E w' =>
      FragOut w g4 gr dr { p with frag := true, proto := r0, off := (256 * r2 + r3) / 8 * 8, more := decide ((256 * r2 + r3) % 2 = 1), id := 16777216 * r4 + 65536 * r5 + 256 * r6 + r7 } ov dv t (decide (r1 = 0) && decide ((256 * r2 + r3) / 2 % 4 = 0)) E w' := by
  have hby := hr.bytes.1
  have x0 := hby.head
  have x1 := hby.tail.head
  have x2 := hby.tail.tail.head
  have x3 := hby.tail.tail.tail.head
  have x4 := hby.tail.tail.tail.tail.head
  have x5 := hby.tail.tail.tail.tail.tail.head
  have x6 := hby.tail.tail.tail.tail.tail.tail.head
  have x7 := hby.tail.tail.tail.tail.tail.tail.tail.head
  obtain ⟨F, hF⟩ : ∃ F, F = 256 * r2 + r3 := ⟨_, rfl⟩
  rw [← hF]
  have f0 : 0 ≤ F := by omega
  have f1 : F ≤ 65535 := by omega
  have k1 := andlo F f0 f1
  have k2 := andhi F f0 f1
  have k3 := andmid F f0 f1
  obtain ⟨N, hN⟩ : ∃ N, N = 16777216 * r4 + 65536 * r5 + 256 * r6 + r7 := ⟨_, rfl⟩
  rw [← hN]
  have n0 : 0 ≤ N := by omega
  have n1 : N ≤ 4294967295 := by omega
  have HF := Lib.hid hF; have HN := Lib.hid hN
  have HAD := Lib.hid ha
  have HL : Hid (RG w w g4 gr dr p ov dv (r0 :: r1 :: r2 :: r3 :: r4 :: r5 :: r6 :: r7 :: t)) := ⟨hb, hr, Away.refl _ _, ha, e3, e4⟩
  have em : (F % 2 != 0) = decide (F % 2 = 1) := by
    rcases (by omega : F % 2 = 0 ∨ F % 2 = 1) with h | h <;> simp [h]
  have HEM := Lib.hid em
  have ec : (F / 2 % 4 * 2 == 0) = decide (F / 2 % 4 = 0) := by
    rw [Bool.eq_iff_iff]; simp; omega
  have HEC := Lib.hid ec
  clear hF hN hby hr hb ha em ec x1 e3 e4
  go_enter Tryd.func94, Tryd.ntmps94
  have s42 := (HL.out.b4.cells HL.out.ad).frag
  have t42 := HL.out.b4.free 42
  go_wp2_with fail
  have HLn := Lib.hid ((HL.out.put 42 (.bool true) ((csP_set HL.out.ad _ _).2.2.2.2.2.2.2.2.2.2.1 (true)) HL.out.ad))
  clear HL s42 t42
  generalize (w.setCell ⟨g4, 42, none⟩ (.bool true)) = w1 at *
  have HL := HLn
  clear HLn
  refine (RG.u8 (by exact HL.out)).mono ?_
  rintro E w2 ⟨rfl, hL⟩
  have HLn := Lib.hid hL
  clear HL hL
  have HL := HLn
  clear HLn
  have s37 := (HL.out.b4.cells HL.out.ad).proto
  have t37 := HL.out.b4.free 37
  go_wp2_with fail
  have HLn := Lib.hid ((HL.out.put 37 (.int .i64 r0) ((csP_set HL.out.ad _ _).2.2.2.2.2.1 (r0)) HL.out.ad))
  clear HL s37 t37
  generalize (w2.setCell ⟨g4, 37, none⟩ (.int .i64 r0)) = w3 at *
  have HL := HLn
  clear HLn
  refine (RG.u8 (by exact HL.out)).mono ?_
  rintro E w4 ⟨rfl, hL⟩
  have HLn := Lib.hid hL
  clear HL hL
  have HL := HLn
  clear HLn
  go_wp2_with fail
  refine (RG.u16 (by exact HL.out)).mono ?_
  rintro E w5 ⟨rfl, hL⟩
  have HLn := Lib.hid hL
  clear HL hL
  have HL := HLn
  clear HLn
  rw [← HF.out]
  have s43 := (HL.out.b4.cells HL.out.ad).off
  have t43 := HL.out.b4.free 43
  have s41 := (HL.out.b4.cells HL.out.ad).more
  have t41 := HL.out.b4.free 41
  go_wp2_with fail
  have HLn := Lib.hid ((HL.out.put 43 (.int .i64 (F / 8 * 8)) ((csP_set HL.out.ad _ _).2.2.2.2.2.2.2.2.2.2.2.1 (F / 8 * 8)) HL.out.ad).put 41 (.bool (F % 2 != 0)) ((csP_set (by exact HL.out.ad) _ _).2.2.2.2.2.2.2.2.2.1 (F % 2 != 0)) HL.out.ad)
  clear HL s43 t43 s41 t41
  generalize ((w5.setCell ⟨g4, 43, none⟩ (.int .i64 (F / 8 * 8))).setCell ⟨g4, 41, none⟩ (.bool (F % 2 != 0))) = w6 at *
  have HL := HLn
  clear HLn
  refine (RG.u32 (by exact HL.out)).mono ?_
  rintro E w7 ⟨rfl, hL⟩
  have HLn := Lib.hid hL
  clear HL hL
  have HL := HLn
  clear HLn
  rw [← HN.out]
  have s39 := (HL.out.b4.cells HL.out.ad).id
  have t39 := HL.out.b4.free 39
  have HLn := Lib.hid ((HL.out.put 39 (.int .u32 N) ((csP_set HL.out.ad _ _).2.2.2.2.2.2.2.1 N) HL.out.ad))
  by_cases hz : r1 = 0
  · subst hz
    go_wp2_with fail
    go_ret
    refine ⟨by rw [← HEC.out]; simp, ?_, HLn.out.rd, HLn.out.aw⟩
    have hb := HLn.out.b4
    rw [HEM.out] at hb
    exact hb
  · have hz' : (r1 == 0) = false := by simp [hz]
    have hz2 : decide (r1 = 0) = false := by simp [hz]
    clear hz
    go_wp2_with fail
    go_ret
    refine ⟨by rw [hz2]; rfl, ?_, HLn.out.rd, HLn.out.aw⟩
    have hb := HLn.out.b4
    rw [HEM.out] at hb
    exact hb
#print axioms readFragment_c
end Go.Proofs.YtbgpjhekohabiaaDoor.S6
