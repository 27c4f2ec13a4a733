/-
  readHead, on.
-/
import Derived.Test.YtbgpjhekohabiaaDoorRAdr
namespace Go.Proofs.YtbgpjhekohabiaaDoor
open Go.ChangeShapes Go.WideShapes Go.ChangeAt Go.RowKit Num
set_option linter.unusedVariables false
set_option maxHeartbeats 4000000
set_option maxRecDepth 100000

theorem rd1 (x : Int) (r : List Int) : rdOut (x :: r) 0 1 = [x] ∧ rdRest (x :: r) 0 1 = r ∧ rdErr (x :: r) 0 1 = 0 := by
  have h : (0 : Int) = 0 ∧ (0 : Int) ≤ 1 ∧ (1 : Int) ≤ ((x :: r).length : Int) := ⟨rfl, by omega, by simp; omega⟩
  unfold rdOut rdRest rdErr
  rw [if_pos h, if_pos h, if_pos rfl, if_neg (by omega), if_pos h.2.2]
  exact ⟨rfl, rfl, rfl⟩
theorem rd2 (x y : Int) (r : List Int) : rdOut (x :: y :: r) 0 2 = [x, y] ∧ rdRest (x :: y :: r) 0 2 = r ∧ rdErr (x :: y :: r) 0 2 = 0 := by
  have h : (0 : Int) = 0 ∧ (0 : Int) ≤ 2 ∧ (2 : Int) ≤ ((x :: y :: r).length : Int) := ⟨rfl, by omega, by simp; omega⟩
  unfold rdOut rdRest rdErr
  rw [if_pos h, if_pos h, if_pos rfl, if_neg (by omega), if_pos h.2.2]
  exact ⟨rfl, rfl, rfl⟩
theorem rdN (r : List Int) : rdOut r 0 r.length = r ∧ rdRest r 0 r.length = [] ∧ rdErr r 0 r.length = 0 := by
  have h : (0 : Int) = 0 ∧ (0 : Int) ≤ r.length ∧ (r.length : Int) ≤ (r.length : Int) := ⟨rfl, by omega, by omega⟩
  unfold rdOut rdRest rdErr
  rw [if_pos h, if_pos h, if_pos rfl, if_neg (by omega), if_pos h.2.2]
  simp
abbrev vnil : Value := .slice none 0 0
/-- A reader at work beside a packet that is being read. -/
structure RH (w0 w : World) (g2 g4 gr dr : Nat) (p : Pk) (r : List Int) : Prop where
  b2 : BoxP w g2 zeroPk (.slice none 0 0) (.slice none 0 0)
  b4 : BoxP w g4 p (.slice none 0 0) (.slice none 0 0)
  rd : Rd w gr dr r 0
  aw : Away [] w0 w
  ad : Ad p
  n2 : w0.heap.size ≤ g2
  n4 : w0.heap.size ≤ g4
  nr : w0.heap.size ≤ gr
  e1 : g2 ≠ g4
  e2 : g2 ≠ gr
  e3 : g4 ≠ gr
  e4 : g4 ≠ dr
theorem RH.read {w0 w w' : World} {g2 g4 gr dr : Nat} {p : Pk} {r r' : List Int} (h : RH w0 w g2 g4 gr dr p r) (hr : Rd w' gr dr r' 0) (haw : Away [gr] w w') : RH w0 w' g2 g4 gr dr p r' :=
  ⟨h.b2.away haw (by simp; exact h.e2), h.b4.away haw (by simp; exact h.e3), hr, h.aw.next haw (fun x hx => .inr (by simp at hx; rw [hx]; exact h.nr)), h.ad, h.n2, h.n4, h.nr, h.e1, h.e2, h.e3, h.e4⟩
theorem RH.put {w0 w : World} {g2 g4 gr dr : Nat} {p q : Pk} {r : List Int} (h : RH w0 w g2 g4 gr dr p r) (i : Nat) (x : Value) (hx : (csP p (.slice none 0 0) (.slice none 0 0)).setIfInBounds i x = csP q (.slice none 0 0) (.slice none 0 0)) (hq : Ad q) :
    RH w0 (w.setCell ⟨g4, i, none⟩ x) g2 g4 gr dr q r :=
  ⟨h.b2.away (away_put i x) (by simp; exact h.e1), h.b4.put i x hx, h.rd.away (away_put (g := g4) i x) (by simp; exact fun e => h.e3 e.symm) (by simp; exact fun e => h.e4 e.symm), h.aw.setCell (.inr h.n4) _, hq, h.n2, h.n4, h.nr, h.e1, h.e2, h.e3, h.e4⟩
theorem RH.u8 {w0 w : World} {g2 g4 gr dr : Nat} {p : Pk} {x : Int} {r : List Int} (h : RH w0 w g2 g4 gr dr p (x :: r)) :
    Calls Tryd.prog 39 #[.pointer (some ⟨gr, 0, none⟩)] w fun E w' => E = .returned (.int .u8 x) ∧ RH w0 w' g2 g4 gr dr p r := by
  have k := u8_any w gr dr (x :: r) 0 h.rd
  obtain ⟨e1, e2, e3⟩ := rd1 x r
  rw [e1, e2, e3, show num [x] = x from by simp [num]] at k
  exact k.mono fun E w' hk => ⟨hk.1, h.read hk.2.1 hk.2.2⟩
theorem RH.u16 {w0 w : World} {g2 g4 gr dr : Nat} {p : Pk} {x y : Int} {r : List Int} (h : RH w0 w g2 g4 gr dr p (x :: y :: r)) :
    Calls Tryd.prog 40 #[.pointer (some ⟨gr, 0, none⟩)] w fun E w' => E = .returned (.int .u16 (256 * x + y)) ∧ RH w0 w' g2 g4 gr dr p r := by
  have k := u16_any w gr dr (x :: y :: r) 0 h.rd
  obtain ⟨e1, e2, e3⟩ := rd2 x y r
  rw [e1, e2, e3, show num [x, y] = 256 * x + y from by simp [num]] at k
  exact k.mono fun E w' hk => ⟨hk.1, h.read hk.2.1 hk.2.2⟩
theorem RH.skip1 {w0 w : World} {g2 g4 gr dr : Nat} {p : Pk} {x : Int} {r : List Int} (h : RH w0 w g2 g4 gr dr p (x :: r)) :
    Calls Tryd.prog 42 #[.pointer (some ⟨gr, 0, none⟩), .int .i64 1] w fun E w' => (∃ v, E = .returned v) ∧ RH w0 w' g2 g4 gr dr p r := by
  have k := bytes_any w gr dr (x :: r) 0 1 h.rd
  obtain ⟨e1, e2, e3⟩ := rd1 x r
  rw [e1, e2, e3] at k
  exact k.mono fun E w' ⟨v, hv, _, _, hr, ha, _⟩ => ⟨⟨v, hv⟩, h.read hr ha⟩
theorem RH.skip2 {w0 w : World} {g2 g4 gr dr : Nat} {p : Pk} {x y : Int} {r : List Int} (h : RH w0 w g2 g4 gr dr p (x :: y :: r)) :
    Calls Tryd.prog 42 #[.pointer (some ⟨gr, 0, none⟩), .int .i64 2] w fun E w' => (∃ v, E = .returned v) ∧ RH w0 w' g2 g4 gr dr p r := by
  have k := bytes_any w gr dr (x :: y :: r) 0 2 h.rd
  obtain ⟨e1, e2, e3⟩ := rd2 x y r
  rw [e1, e2, e3] at k
  exact k.mono fun E w' ⟨v, hv, _, _, hr, ha, _⟩ => ⟨⟨v, hv⟩, h.read hr ha⟩
theorem RH.adr {w0 w : World} {g2 g4 gr dr : Nat} {p : Pk} {a b c d : Int} {r : List Int} (h : RH w0 w g2 g4 gr dr p (a :: b :: c :: d :: r)) :
    Calls Tryd.prog 104 #[.pointer (some ⟨gr, 0, none⟩)] w fun E w' => E = .returned (.agg (csA 4 ([a, b, c, d] ++ z12))) ∧ RH w0 w' g2 g4 gr dr p r :=
  (readAddress_c w gr dr (a :: b :: c :: d :: r) [a, b, c, d] r h.rd (by simp) rfl rfl).mono fun E w' hk => ⟨hk.1, h.read hk.2.1 hk.2.2⟩
/-- A store of an address into the packet that is being read. -/
theorem wpList_store24m {ops : Array Oper} {rest : List Oper} {o : Oper} {a : Act} {w : World} {Q : Exit → Act → World → Prop} (hw : Region.wanted o (yielded ops a.tmps) = true) (x y : Operand) (ho : o.op = .store 30 x y)
    (g k : Nat) (hx : a.eval x = .pointer (some ⟨g, k, none⟩)) (v : Int) (l : List Int) (hy : a.eval y = .agg (csA v l)) (p q : Pk) (ov dv : Value) (hb : BoxP w g p ov dv) (ha : Ad p) (hl : l.length = 16) (hk : k ≤ 29)
    (hq : ((csP p ov dv).toList.take k ++ (csA v l).toList ++ (csP p ov dv).toList.drop (k + 17)).toArray = csP q ov dv)
    (h : ∀ w1, BoxP w1 g q ov dv → Away [g] w w1 → wpList Tryd.prog ops Q rest (a.put o.dst undef) w1) : wpList Tryd.prog ops Q (o :: rest) a w := by
  refine BigFrame.wpList_want hw fun K hK => ?_
  have h17 : (csA v l).toList.length = 17 := by simpa using csA_size hl
  have hst := run_storeCells_at Tryd.prog g k 32 (csA v l).toList 0 (csP p ov dv) w hb (by rw [h17, csP_size ha]; omega) (fun u hu => (Array.all_eq_true_iff_forall_mem.1 (csA_one v l)) u (by simpa using hu))
  rw [Nat.add_zero, h17, hq] at hst
  have e : (Instr.storeAt 30 (.pointer (some ⟨g, k, none⟩)) (.agg (csA v l))).run Tryd.prog w = .ok () (w.setRow g (csP q ov dv)) := by
    simp only [Instr.storeAt, Instr.sureAddr, Sem.run_bind, Sem.run_pure, Result.andThen]
    have hi := info24
    cases hq' : Tryd.prog.info? 30 with
    | none => simp [hq'] at hi
    | some i =>
      have hs : i.size = 17 := by simpa [hq'] using hi
      have hs' : (csA v l).size = i.size := by rw [csA_size hl, hs]
      simp [storeVar, sizeOf, typeInfo, hq', Value.cells, hs', hst]
  unfold Oper.wp execOp
  simp only [ho, hx, hy, Sem.run_bind, e, Result.andThen_ok, Sem.run_pure]
  exact hK _ _ (h _ (by unfold BoxP at hb ⊢; simp [World.setRow, Array.getElem?_modify, hb]) ((Away.refl [g] w).setRow (.inl (by simp)) _))
theorem csP_src {p : Pk} (h : Ad p) (ov dv : Value) (v : Int) (l : List Int) : ((csP p ov dv).toList.take 3 ++ (csA v l).toList ++ (csP p ov dv).toList.drop (3 + 17)).toArray = csP { p with sv := v, sb := l } ov dv := by
  obtain ⟨pv, tos, flow, sv, sb, dv', db, proto, ttl, id, df, more, frag, off, o, d⟩ := p
  obtain ⟨h1, h2⟩ := h
  simp only at h1 h2
  obtain ⟨b0, b1, b2, b3, b4, b5, b6, b7, b8, b9, b10, b11, b12, b13, b14, b15, rfl⟩ := list16 h1
  obtain ⟨c0, c1, c2, c3, c4, c5, c6, c7, c8, c9, c10, c11, c12, c13, c14, c15, rfl⟩ := list16 h2
  simp [csP, listP, csA, cellsA]
theorem csP_dst {p : Pk} (h : Ad p) (ov dv : Value) (v : Int) (l : List Int) : ((csP p ov dv).toList.take 20 ++ (csA v l).toList ++ (csP p ov dv).toList.drop (20 + 17)).toArray = csP { p with dv := v, db := l } ov dv := by
  obtain ⟨pv, tos, flow, sv, sb, dv', db, proto, ttl, id, df, more, frag, off, o, d⟩ := p
  obtain ⟨h1, h2⟩ := h
  simp only at h1 h2
  obtain ⟨b0, b1, b2, b3, b4, b5, b6, b7, b8, b9, b10, b11, b12, b13, b14, b15, rfl⟩ := list16 h1
  obtain ⟨c0, c1, c2, c3, c4, c5, c6, c7, c8, c9, c10, c11, c12, c13, c14, c15, rfl⟩ := list16 h2
  simp [csP, listP, csA, cellsA]
theorem RH.away {w0 w w' : World} {g2 g4 gr dr : Nat} {p q : Pk} {r : List Int} (h : RH w0 w g2 g4 gr dr p r) (hb : BoxP w' g4 q (.slice none 0 0) (.slice none 0 0)) (haw : Away [g4] w w') (hq : Ad q) : RH w0 w' g2 g4 gr dr q r :=
  ⟨h.b2.away haw (by simp; exact h.e1), hb, h.rd.away haw (by simp; exact fun e => h.e3 e.symm) (by simp; exact fun e => h.e4 e.symm), h.aw.next haw (fun x hx => .inr (by simp at hx; rw [hx]; exact h.n4)), hq, h.n2, h.n4, h.nr, h.e1, h.e2, h.e3, h.e4⟩
#print axioms csP_dst
end Go.Proofs.YtbgpjhekohabiaaDoor

namespace Go.Proofs.YtbgpjhekohabiaaDoor
open Go.ChangeShapes Go.WideShapes Go.ChangeAt Go.RowKit Num
set_option linter.unusedVariables false
set_option maxHeartbeats 4000000
set_option maxRecDepth 100000

theorem bit14 (f : Int) (h0 : 0 ≤ f) (h1 : f ≤ 65535) : bits .and .u16 f 16384 = f / 16384 % 2 * 16384 := by
  rw [u16_and _ _ h0 (by omega) (by omega) (by omega)]
  obtain ⟨n, rfl⟩ := Int.eq_ofNat_of_zero_le h0
  rw [Int.toNat_natCast, show (16384 : Int).toNat = 2 ^ 14 from rfl, nat_bit]
  omega
theorem bit13 (f : Int) (h0 : 0 ≤ f) (h1 : f ≤ 65535) : bits .and .u16 f 8192 = f / 8192 % 2 * 8192 := by
  rw [u16_and _ _ h0 (by omega) (by omega) (by omega)]
  obtain ⟨n, rfl⟩ := Int.eq_ofNat_of_zero_le h0
  rw [Int.toNat_natCast, show (8192 : Int).toNat = 2 ^ 13 from rfl, nat_bit]
  omega
theorem bit15 (f : Int) (h0 : 0 ≤ f) (h1 : f ≤ 65535) : bits .and .u16 f 32768 = f / 32768 % 2 * 32768 := by
  rw [u16_and _ _ h0 (by omega) (by omega) (by omega)]
  obtain ⟨n, rfl⟩ := Int.eq_ofNat_of_zero_le h0
  rw [Int.toNat_natCast, show (32768 : Int).toNat = 2 ^ 15 from rfl, nat_bit]
  omega
theorem low13 (f : Int) (h0 : 0 ≤ f) (h1 : f ≤ 65535) : bits .and .u16 f 8191 = f % 8192 := by
  rw [u16_and _ _ h0 (by omega) (by omega) (by omega), show (8191 : Int).toNat = 2 ^ 13 - 1 from rfl, Nat.and_two_pow_sub_one_eq_mod]
  omega
theorem bne_bit (n k : Int) (hk : 0 < k) (hn : n = 0 ∨ n = 1) : (n * k != 0) = decide (n = 1) := by
  rcases hn with rfl | rfl
  · simp
  · have : k ≠ 0 := by omega
    simp [this]
/-- What readHead tells. -/
def RHOut (w : World) (p : Pk) (res : Bool) (E : Ending) (w' : World) : Prop :=
  ∃ ov, E = .returned (.tuple #[.agg (csP p ov (.slice none 0 0)), .bool res]) ∧ Owns w' ov p.o ∧ New w.heap.size ov ∧ Away [] w w'
theorem readHead_c (a : Option Addr) (n cap : Nat) (w : World) (b0 b1 b2 b3 b4 b5 b6 b7 b8 b9 b10 b11 b12 b13 b14 b15 b16 b17 b18 b19 : Int) (r : List Int) (h : List Int)
    (hh : h = b0 :: b1 :: b2 :: b3 :: b4 :: b5 :: b6 :: b7 :: b8 :: b9 :: b10 :: b11 :: b12 :: b13 :: b14 :: b15 :: b16 :: b17 :: b18 :: b19 :: r) (hn : h.length = n) (ha : a = none → cap = 0) (hr : Row w a h) :
    Calls Tryd.prog 91 #[.slice a n cap] w fun E w' => RHOut w ⟨4, b1, 0, 4, [b12, b13, b14, b15] ++ z12, 4, [b16, b17, b18, b19] ++ z12, b9, b8, 256 * b4 + b5, decide ((256 * b6 + b7) / 16384 % 2 = 1), decide ((256 * b6 + b7) / 8192 % 2 = 1), false, (256 * b6 + b7) % 8192 * 8, r, []⟩ (decide ((256 * b6 + b7) / 32768 % 2 = 1)) E w' := by
  have HR := Lib.hid hr
  have hby := hr.2.1
  rw [hh] at hby
  have x1 := hby.tail.head
  have x4 := hby.tail.tail.tail.tail.head
  have x5 := hby.tail.tail.tail.tail.tail.head
  have x6 := hby.tail.tail.tail.tail.tail.tail.head
  have x7 := hby.tail.tail.tail.tail.tail.tail.tail.head
  have x8 := hby.tail.tail.tail.tail.tail.tail.tail.tail.head
  have x9 := hby.tail.tail.tail.tail.tail.tail.tail.tail.tail.head
  have HBR : Hid (Bytes r) := hby.tail.tail.tail.tail.tail.tail.tail.tail.tail.tail.tail.tail.tail.tail.tail.tail.tail.tail.tail.tail
  have HLR : Hid (r.length ≤ 140737488355328) := by have := hr.1; rw [hh] at this; simp at this; show _ ≤ _; omega
  have hrl := HLR.out
  obtain ⟨F, hF⟩ : ∃ F, F = 256 * b6 + b7 := ⟨_, rfl⟩
  rw [← hF]
  have f0 : 0 ≤ F := by omega
  have f1 : F ≤ 65535 := by omega
  have k14 := bit14 F f0 f1
  have k13 := bit13 F f0 f1
  have k15 := bit15 F f0 f1
  have kl := low13 F f0 f1
  have HF := Lib.hid hF
  have HN := Lib.hid hn
  have HH := Lib.hid hh
  clear hF hby hr hn hh
  have HQ : Hid (Ad (⟨4, b1, 0, 4, [b12, b13, b14, b15] ++ z12, 4, [b16, b17, b18, b19] ++ z12, b9, b8, 256 * b4 + b5, decide (F / 16384 % 2 = 1), decide (F / 8192 % 2 = 1), false, F % 8192 * 8, r, []⟩ : Pk)) := ⟨rfl, rfl⟩
  go_enter Tryd.func91, Tryd.ntmps91
  go_wp2_with (refine wpList_alloc28 rfl rfl ?_; refine Hid.out ?_)
  refine Lib.hid ?_
  intro g2 w1 hg2 hb2 haw1
  have HB2 := Lib.hid hb2; have HA1 := Lib.hid haw1
  have hl2 := hb2.lt
  clear hb2 haw1
  go_wp2_with (first | (refine wpList_alloc28 rfl rfl ?_; refine Hid.out ?_))
  refine Lib.hid ?_
  intro g4 w2 hg4 hb4 haw2
  have HB4 := Lib.hid hb4; have HA2 := Lib.hid haw2
  have hl4 := hb4.lt
  clear hb4 haw2
  go_wp2_with (first | (refine wpList_store28 rfl _ _ rfl _ rfl { zeroPk with v := 4 } (.slice none 0 0) (.slice none 0 0) rfl zeroPk (.slice none 0 0) (.slice none 0 0) (by exact HB4.out) ⟨rfl, rfl⟩ ⟨rfl, rfl⟩ rfl rfl ?_; refine Hid.out ?_))
  refine Lib.hid ?_
  intro w3 hb4 haw3
  have hs1 := HA1.out.size; have hs2 := HA2.out.size; have hs3 := haw3.size
  have HB4' := Lib.hid hb4
  have HB2' := Lib.hid ((HB2.out.away HA2.out (by simp)).away haw3 (by simp; omega))
  have HA3 : Hid (Away [] w w3) := (HA1.out.next HA2.out (by simp)).next haw3 (fun x hx => .inr (by simp at hx; omega))
  clear HB2 HB4 HA1 HA2 hb4 haw3
  go_wp2_with fail
  refine (newReader_any a h n cap _ HN.out ha (by exact HR.out.away HA3.out (by simp))).mono ?_
  rintro E w4 ⟨gr, dr, rfl, hrd, hgr, hdr, haw4⟩
  rw [HH.out] at hrd
  have HL : Hid (RH w w4 g2 g4 gr dr { zeroPk with v := 4 } (b0 :: b1 :: b2 :: b3 :: b4 :: b5 :: b6 :: b7 :: b8 :: b9 :: b10 :: b11 :: b12 :: b13 :: b14 :: b15 :: b16 :: b17 :: b18 :: b19 :: r)) :=
    ⟨HB2'.out.on haw4, HB4'.out.on haw4, hrd, HA3.out.next haw4 (by simp), ⟨rfl, rfl⟩, hg2, by omega, by omega, by omega, by omega, by omega, by omega⟩
  clear HB2' HB4' HA3 haw4 hrd hgr hdr HR
  clear hg2 hg4 hl2 hl4 hs1 hs2 hs3
  go_wp2_with fail
  refine (RH.skip1 (by exact HL.out)).mono ?_
  rintro E w6 ⟨⟨_, rfl⟩, hL⟩
  have HLn := Lib.hid hL
  clear HL hL
  have HL := HLn
  clear HLn
  go_wp2_with fail
  refine (RH.u8 (by exact HL.out)).mono ?_
  rintro E w7 ⟨rfl, hL⟩
  have HLn := Lib.hid hL
  clear HL hL
  have HL := HLn
  clear HLn
  have s1 := (HL.out.b4.cells HL.out.ad).tos
  have t1 := HL.out.b4.free 1
  go_wp2_with fail
  have HLn := Lib.hid ((HL.out.put 1 (.int .i64 b1) ((csP_set (by exact ⟨rfl, rfl⟩) _ _).2.1 b1) ⟨rfl, rfl⟩))
  clear HL s1 t1
  generalize (w7.setCell ⟨g4, 1, none⟩ (.int .i64 b1)) = w8 at *
  have HL := HLn
  clear HLn
  refine (RH.skip2 (by exact HL.out)).mono ?_
  rintro E w9 ⟨⟨_, rfl⟩, hL⟩
  have HLn := Lib.hid hL
  clear HL hL
  have HL := HLn
  clear HLn
  go_wp2_with fail
  refine (RH.u16 (by exact HL.out)).mono ?_
  rintro E w10 ⟨rfl, hL⟩
  have HLn := Lib.hid hL
  clear HL hL
  have HL := HLn
  clear HLn
  have s39 := (HL.out.b4.cells HL.out.ad).id
  have t39 := HL.out.b4.free 39
  go_wp2_with fail
  have HLn := Lib.hid ((HL.out.put 39 (.int .u32 (256 * b4 + b5)) ((csP_set (by exact ⟨rfl, rfl⟩) _ _).2.2.2.2.2.2.2.1 (256 * b4 + b5)) ⟨rfl, rfl⟩))
  clear HL s39 t39
  generalize (w10.setCell ⟨g4, 39, none⟩ (.int .u32 (256 * b4 + b5))) = w11 at *
  have HL := HLn
  clear HLn
  refine (RH.u16 (by exact HL.out)).mono ?_
  rintro E w12 ⟨rfl, hL⟩
  have HLn := Lib.hid hL
  clear HL hL
  have HL := HLn
  clear HLn
  rw [← HF.out]
  have s40 := (HL.out.b4.cells HL.out.ad).df
  have t40 := HL.out.b4.free 40
  have s41 := (HL.out.b4.cells HL.out.ad).more
  have t41 := HL.out.b4.free 41
  have s43 := (HL.out.b4.cells HL.out.ad).off
  have t43 := HL.out.b4.free 43
  go_wp2_with fail
  have HLn := Lib.hid ((((HL.out.put 40 (.bool (F / 16384 % 2 * 16384 != 0)) ((csP_set (by exact ⟨rfl, rfl⟩) _ _).2.2.2.2.2.2.2.2.1 (F / 16384 % 2 * 16384 != 0)) ⟨rfl, rfl⟩).put 41 (.bool (F / 8192 % 2 * 8192 != 0)) ((csP_set (by exact ⟨rfl, rfl⟩) _ _).2.2.2.2.2.2.2.2.2.1 (F / 8192 % 2 * 8192 != 0)) ⟨rfl, rfl⟩).put 43 (.int .i64 (F % 8192 * 8)) ((csP_set (by exact ⟨rfl, rfl⟩) _ _).2.2.2.2.2.2.2.2.2.2.2.1 (F % 8192 * 8)) ⟨rfl, rfl⟩))
  clear HL s40 t40 s41 t41 s43 t43
  generalize (((w12.setCell ⟨g4, 40, none⟩ (.bool (F / 16384 % 2 * 16384 != 0))).setCell ⟨g4, 41, none⟩ (.bool (F / 8192 % 2 * 8192 != 0))).setCell ⟨g4, 43, none⟩ (.int .i64 (F % 8192 * 8))) = w13 at *
  have HL := HLn
  clear HLn
  refine (RH.u8 (by exact HL.out)).mono ?_
  rintro E w14 ⟨rfl, hL⟩
  have HLn := Lib.hid hL
  clear HL hL
  have HL := HLn
  clear HLn
  have s38 := (HL.out.b4.cells HL.out.ad).ttl
  have t38 := HL.out.b4.free 38
  go_wp2_with fail
  have HLn := Lib.hid ((HL.out.put 38 (.int .i64 b8) ((csP_set (by exact ⟨rfl, rfl⟩) _ _).2.2.2.2.2.2.1 b8) ⟨rfl, rfl⟩))
  clear HL s38 t38
  generalize (w14.setCell ⟨g4, 38, none⟩ (.int .i64 b8)) = w15 at *
  have HL := HLn
  clear HLn
  refine (RH.u8 (by exact HL.out)).mono ?_
  rintro E w16 ⟨rfl, hL⟩
  have HLn := Lib.hid hL
  clear HL hL
  have HL := HLn
  clear HLn
  have s37 := (HL.out.b4.cells HL.out.ad).proto
  have t37 := HL.out.b4.free 37
  go_wp2_with fail
  have HLn := Lib.hid ((HL.out.put 37 (.int .i64 b9) ((csP_set (by exact ⟨rfl, rfl⟩) _ _).2.2.2.2.2.1 b9) ⟨rfl, rfl⟩))
  clear HL s37 t37
  generalize (w16.setCell ⟨g4, 37, none⟩ (.int .i64 b9)) = w17 at *
  have HL := HLn
  clear HLn
  refine (RH.skip2 (by exact HL.out)).mono ?_
  rintro E w18 ⟨⟨_, rfl⟩, hL⟩
  have HLn := Lib.hid hL
  clear HL hL
  have HL := HLn
  clear HLn
  go_wp2_with fail
  refine (RH.adr (by exact HL.out)).mono ?_
  rintro E w19 ⟨rfl, hL⟩
  have HLn := Lib.hid hL
  clear HL hL
  have HL := HLn
  clear HLn
  go_wp2_with (first | (refine wpList_store24m rfl _ _ rfl _ 3 rfl 4 _ rfl _ _ _ _ (by exact HL.out.b4) ⟨rfl, rfl⟩ rfl (by omega) (csP_src ⟨rfl, rfl⟩ _ _ _ _) ?_; refine Hid.out ?_))
  refine Lib.hid ?_
  intro w20 hbq hawq
  have HLn := Lib.hid (HL.out.away hbq hawq ⟨rfl, rfl⟩)
  clear HL hbq hawq
  have HL := HLn
  clear HLn
  go_wp2_with fail
  refine (RH.adr (by exact HL.out)).mono ?_
  rintro E w21 ⟨rfl, hL⟩
  have HLn := Lib.hid hL
  clear HL hL
  have HL := HLn
  clear HLn
  go_wp2_with (first | (refine wpList_store24m rfl _ _ rfl _ 20 rfl 4 _ rfl _ _ _ _ (by exact HL.out.b4) ⟨rfl, rfl⟩ rfl (by omega) (csP_dst ⟨rfl, rfl⟩ _ _ _ _) ?_; refine Hid.out ?_))
  refine Lib.hid ?_
  intro w22 hbq hawq
  have HLn := Lib.hid (HL.out.away hbq hawq ⟨rfl, rfl⟩)
  clear HL hbq hawq
  have HL := HLn
  clear HLn
  go_wp2_with fail
  refine (left_any w22 gr dr r 0 HL.out.rd).mono ?_
  rintro E wl ⟨rfl, rfl⟩
  obtain ⟨z1, z2, z3⟩ := rdN r
  go_wp2_with fail
  refine (bytes_any _ gr dr r 0 r.length (by exact HL.out.rd)).mono ?_
  rw [z1, z2, z3]
  rintro E wb ⟨ov, rfl, hown, hnew, hrd, hawb, -, -⟩
  have HLn := Lib.hid (HL.out.read hrd hawb)
  have hsz := HL.out.aw.size
  have hbfr : g4 < _ ∧ g2 < _ := ⟨HL.out.b4.lt, HL.out.b2.lt⟩
  clear HL hrd hawb z1 z2 z3
  have HL := HLn
  clear HLn
  have s44 := (HL.out.b4.cells HL.out.ad).o
  have t44 := HL.out.b4.free 44
  obtain ⟨ao, capo, hov, -⟩ := hown.row HLR.out HBR.out
  subst hov
  have HO := Lib.hid hown
  have HNW : Hid (New w.heap.size (.slice ao r.length capo)) := hnew.mono hsz
  have hlto := hown.lt
  have e40 : (F / 16384 % 2 * 16384 != 0) = decide (F / 16384 % 2 = 1) := bne_bit _ _ (by omega) (by omega)
  have e41 : (F / 8192 % 2 * 8192 != 0) = decide (F / 8192 % 2 = 1) := bne_bit _ _ (by omega) (by omega)
  have e42 : (F / 32768 % 2 * 32768 != 0) = decide (F / 32768 % 2 = 1) := bne_bit _ _ (by omega) (by omega)
  have hB := HL.out.b4.put 44 (.slice ao r.length capo) ((csP_set (by exact ⟨rfl, rfl⟩) _ _).2.2.2.2.2.2.2.2.2.2.2.2.1 r (.slice ao r.length capo))
  rw [e40, e41] at hB
  have HP := Lib.hid hB
  have hA := (away_put (w := wb) (g := g4) 44 (.slice ao r.length capo))
  have HB2 := Lib.hid (HL.out.b2.away hA (by simp; exact HL.out.e1))
  have HA : Hid (Away [] w (wb.setCell ⟨g4, 44, none⟩ (.slice ao r.length capo))) := HL.out.aw.setCell (.inr HL.out.n4) _
  have hn4 := HL.out.n4
  have hn2 := HL.out.n2
  have hn4l := HL.out.b4.lt
  have hn2l := HL.out.b2.lt
  have HO2 : Hid (∀ k, (Value.slice ao r.length capo).ownBlock = some k → k ≠ g4 ∧ k ≠ g2) := fun k hk => by
    have := hnew k hk
    have hz := hbfr
    omega
  have HO3 := Lib.hid (HO.out.away hA (fun k hk => by simpa using (HO2.out k hk).1))
  clear HL hA hB hown hnew hlto HO
  go_wp2_with (first
    | (refine wpList_load28 rfl _ rfl _ rfl _ _ _ (by exact HP.out) ⟨rfl, rfl⟩ ?_)
    | (refine wpList_store28 rfl _ _ rfl _ rfl _ _ _ rfl zeroPk (.slice none 0 0) (.slice none 0 0) (by exact HB2.out) ⟨rfl, rfl⟩ ⟨rfl, rfl⟩ rfl rfl ?_; refine Hid.out ?_))
  refine Lib.hid ?_
  intro w9 hb9 haw9
  have HB9 := Lib.hid hb9
  have HA9 : Hid (Away [] w w9) := HA.out.next haw9 (fun x hx => .inr (by simp at hx; omega))
  have HO9 := Lib.hid (HO3.out.away haw9 (fun k hk => by simpa using (HO2.out k hk).2))
  clear hb9 haw9 HA HB2 HP HO3
  go_wp2_with fail
  refine bodyPost_ret (result28t rfl _ _ _ _ _ _ _ rfl rfl HB9.out ⟨rfl, rfl⟩) rfl ⟨_, rfl, HO9.out, HNW.out, HA9.out⟩
#print axioms readHead_c
end Go.Proofs.YtbgpjhekohabiaaDoor
