/-
  word, Parse of the document.
-/
import Derived.Test.YtbfpphoiapggnabRefV
import Derived.Test.YtbfpphoiapggnabPp
import Derived.Test.YtbfpphoiapggnabUntil
namespace Go.Proofs.Ytbfpphoiapggnab
open Go.ChangeShapes Go.WideShapes Go.ChangeAt Go.RowKit Num
set_option linter.unusedVariables false
set_option maxHeartbeats 4000000
set_option maxRecDepth 100000

theorem rword_0 (a : Option Addr) (l : List Int) (n cap : Nat) (w : World) (hn : l.length = n) (hl : 0 + 1 < l.length) (hr : Row w a l) : Calls Try.prog 16 #[.slice a n cap, .int .i64 0] w fun e w' => e = .returned (.int .i64 (wd l 0)) ∧ Away [] w w' := by
  subst hn
  have hlen := hr.1
  rcases hr.2.2 with h0 | ⟨b, off, rfl, hc⟩
  · rw [h0] at hl; simp at hl
  have c0 := hc 0 (by omega)
  have c1 := hc 1 (by omega)
  rw [Nat.add_zero] at c0
  have q0 := hr.2.1.getD 0; have q1 := hr.2.1.getD 1
  have HW : Hid (wd l 0 = 256 * l[0]?.getD 0 + l[1]?.getD 0) := rfl
  generalize wd l 0 = z at *
  generalize l[0]?.getD 0 = x at *
  generalize l[1]?.getD 0 = y at *
  have i0 : (0 : Int) < (l.length : Int) := by omega
  have i1 : (1 : Int) < (l.length : Int) := by omega
  obtain ⟨x0, x1⟩ := q0
  obtain ⟨y0, y1⟩ := q1
  clear hr hc
  go_enter Try.func16, Try.ntmps16
  go_wp2_with fail
  go_quiet (fail)
  go_wp2_with fail
  go_ret
  exact ⟨ret_int HW.out.symm, (Away.refl [] w).drewN _⟩
theorem rword_2 (a : Option Addr) (l : List Int) (n cap : Nat) (w : World) (hn : l.length = n) (hl : 2 + 1 < l.length) (hr : Row w a l) : Calls Try.prog 16 #[.slice a n cap, .int .i64 2] w fun e w' => e = .returned (.int .i64 (wd l 2)) ∧ Away [] w w' := by
  subst hn
  have hlen := hr.1
  rcases hr.2.2 with h0 | ⟨b, off, rfl, hc⟩
  · rw [h0] at hl; simp at hl
  have c0 := hc 2 (by omega)
  have c1 := hc 3 (by omega)
  clear hlen
  have q0 := hr.2.1.getD 2; have q1 := hr.2.1.getD 3
  have HW : Hid (wd l 2 = 256 * l[2]?.getD 0 + l[3]?.getD 0) := rfl
  generalize wd l 2 = z at *
  generalize l[2]?.getD 0 = x at *
  generalize l[3]?.getD 0 = y at *
  have i0 : (2 : Int) < (l.length : Int) := by omega
  have i1 : (3 : Int) < (l.length : Int) := by omega
  obtain ⟨x0, x1⟩ := q0
  obtain ⟨y0, y1⟩ := q1
  clear hr hc
  go_enter Try.func16, Try.ntmps16
  go_wp2_with fail
  go_quiet (fail)
  go_wp2_with fail
  go_ret
  exact ⟨ret_int HW.out.symm, (Away.refl [] w).drewN _⟩
theorem rword_4 (a : Option Addr) (l : List Int) (n cap : Nat) (w : World) (hn : l.length = n) (hl : 4 + 1 < l.length) (hr : Row w a l) : Calls Try.prog 16 #[.slice a n cap, .int .i64 4] w fun e w' => e = .returned (.int .i64 (wd l 4)) ∧ Away [] w w' := by
  subst hn
  have hlen := hr.1
  rcases hr.2.2 with h0 | ⟨b, off, rfl, hc⟩
  · rw [h0] at hl; simp at hl
  have c0 := hc 4 (by omega)
  have c1 := hc 5 (by omega)
  clear hlen
  have q0 := hr.2.1.getD 4; have q1 := hr.2.1.getD 5
  have HW : Hid (wd l 4 = 256 * l[4]?.getD 0 + l[5]?.getD 0) := rfl
  generalize wd l 4 = z at *
  generalize l[4]?.getD 0 = x at *
  generalize l[5]?.getD 0 = y at *
  have i0 : (4 : Int) < (l.length : Int) := by omega
  have i1 : (5 : Int) < (l.length : Int) := by omega
  obtain ⟨x0, x1⟩ := q0
  obtain ⟨y0, y1⟩ := q1
  clear hr hc
  go_enter Try.func16, Try.ntmps16
  go_wp2_with fail
  go_quiet (fail)
  go_wp2_with fail
  go_ret
  exact ⟨ret_int HW.out.symm, (Away.refl [] w).drewN _⟩
theorem rword_6 (a : Option Addr) (l : List Int) (n cap : Nat) (w : World) (hn : l.length = n) (hl : 6 + 1 < l.length) (hr : Row w a l) : Calls Try.prog 16 #[.slice a n cap, .int .i64 6] w fun e w' => e = .returned (.int .i64 (wd l 6)) ∧ Away [] w w' := by
  subst hn
  have hlen := hr.1
  rcases hr.2.2 with h0 | ⟨b, off, rfl, hc⟩
  · rw [h0] at hl; simp at hl
  have c0 := hc 6 (by omega)
  have c1 := hc 7 (by omega)
  clear hlen
  have q0 := hr.2.1.getD 6; have q1 := hr.2.1.getD 7
  have HW : Hid (wd l 6 = 256 * l[6]?.getD 0 + l[7]?.getD 0) := rfl
  generalize wd l 6 = z at *
  generalize l[6]?.getD 0 = x at *
  generalize l[7]?.getD 0 = y at *
  have i0 : (6 : Int) < (l.length : Int) := by omega
  have i1 : (7 : Int) < (l.length : Int) := by omega
  obtain ⟨x0, x1⟩ := q0
  obtain ⟨y0, y1⟩ := q1
  clear hr hc
  go_enter Try.func16, Try.ntmps16
  go_wp2_with fail
  go_quiet (fail)
  go_wp2_with fail
  go_ret
  exact ⟨ret_int HW.out.symm, (Away.refl [] w).drewN _⟩
theorem yields_ld {ops : Array Oper} {S : World → Prop} {op : Oper} {a : Act} {t : TypeId} {v : Value} {ad : Addr} (hw : Region.wanted op (yielded ops a.tmps) = true) (x : Operand) (ho : op.op = .load t x) (hx : a.eval x = .pointer (some ad))
    (hS : ∀ w, S w → (Instr.loadAt t (.pointer (some ad))).run Try.prog w = .ok v w) : YieldsIf Try.prog ops S op v a :=
  .inl ⟨hw, fun w hw' => by
    unfold execOp
    simp only [ho, hx, Sem.run_bind, hS w hw', Result.andThen_ok, Sem.run_pure]⟩
theorem yields_sll {ops : Array Oper} {S : World → Prop} {op : Oper} {a : Act} {v : Value} {sa : Option Addr} {n c : Nat} {lo : Int} (hw : Region.wanted op (yielded ops a.tmps) = true) (x h : Operand) (ho : op.op = .slice 25 x (some h) none none) (hx : a.eval x = .slice sa n c) (hh : a.eval h = .int .i64 lo)
    (hS : ∀ w, (Instr.sliceAt 25 (.slice sa n c) (some (.int .i64 lo)) none none).run Try.prog w = .ok v w) : YieldsIf Try.prog ops S op v a :=
  .inl ⟨hw, fun w hw' => by
    unfold execOp
    simp only [ho, hx, hh, Option.map_none, Option.map_some, Sem.run_bind, hS w, Result.andThen_ok, Sem.run_pure]⟩
theorem step_store25 {ops : Array Oper} {o : Oper} {a : Act} {w : World} {K : Act → World → Prop} {Q : Exit → Act → World → Prop} {E : Prop} (hg : o.guard = none) (s r : Nat)
    (ho : o.op = .store 25 (.tmp s) (.tmp r)) (g i : Nat) (hx : a.tmps[s]?.getD undef = .pointer (some ⟨g, i, none⟩)) (b : Option Addr) (n c : Nat) (hy : a.tmps[r]?.getD undef = .slice b n c) (u : Value) (hc : w.cell? ⟨g, i, none⟩ = some u) (hf : w.frozen? ⟨g, i, none⟩ = false)
    (hK : K (a.put o.dst undef) (w.setCell ⟨g, i, none⟩ (.slice b n c))) :
    if Region.wanted o (yielded ops a.tmps) = true then Oper.wp Try.prog o a w K Q else E := by
  have hw : Region.wanted o (yielded ops a.tmps) = true := by simp [Region.wanted, hg]
  rw [if_pos hw]
  obtain ⟨d, op, ty, ps, af, gd⟩ := o
  simp only at ho
  subst ho
  go_simp
  exact hK
theorem rpart_at (a : Option Addr) (l : List Int) (n cap : Nat) (w : World) (hn : l.length = n) (hr : Row w a l) :
    Calls Try.prog 18 #[.slice a n cap] w fun e w' => e = .returned (.int .i64 (pt l)) ∧ w' = w := by subst hn; exact rpart_any a l cap w hr
/-- An append behind a guard that is met. -/
theorem wpList_appG {w : World} {ops : Array Oper} {rest : List Oper} {o : Oper} {a : Act} {Q : Exit → Act → World → Prop} (hwd : Region.wanted o (yielded ops a.tmps) = true) (s x : Operand)
    (ho : o.op = .call { callee := .builtin .append, args := #[s, x], argTypes := #[25, 25] }) (v : Value) (l m : List Int) (hs : a.eval s = v) (hown : Owns w v l)
    (ad : Addr) (n c : Nat) (hx : a.eval x = .slice (some ad) n c) (hn : m.length = n) (hm : ∀ j u, (m.map (Value.int .u8))[j]? = some u → w.cell? (ad.add j) = some u) (hlen : l.length + n ≤ 140737488355328)
    (h : ∀ v' w', Owns w' v' (l ++ m) → w.grownBy w' v.ownBlock → Moved w v v' → wpList Try.prog ops Q rest (a.put o.dst v') w') : wpList Try.prog ops Q (o :: rest) a w := by
  obtain ⟨v', w', hrun, r1, r2, r3⟩ := run_appB o.type w v l m hown ad n c hn hm hlen
  refine BigFrame.wpList_want hwd fun K hK => ?_
  unfold Oper.wp
  simp [execOp, ho, resolve, invoke, builtin, hs, hx, hrun, Result.andThen]
  exact hK _ _ (h v' w' r1 r2 r3)
theorem rparse_no1 (s t : Ax) (a : Option Addr) (b : List Int) (cap : Nat) (w : World) (hs : WfA s) (ht : WfA t) (hr : Row w a b) (hcap : b.length ≤ cap) (hn : a = none → cap = 0) (hz : pairP s t = false) :
    Calls Try.prog 5 #[.agg (csA s.v s.l), .agg (csA t.v t.l), .slice a b.length cap] w fun E w' => ParseOut w (zeroDg, 1) E w' := by
  have K1 : Hid (∀ w, Calls Try.prog 15 #[.agg (csA s.v s.l), .agg (csA t.v t.l)] w fun e w' => e = .returned (.bool false) ∧ Away [] w w') := fun w => by rw [← hz]; exact rpair_c s t w hs ht
  have HS := Lib.hid hs
  have HT := Lib.hid ht
  have HR := Lib.hid hr
  have hlen := hr.1
  clear hs ht hr hz
  go_enter Try.func5, Try.ntmps5
  go_wp2_with (refine wpList_box24 rfl _ rfl s rfl ?_; refine Hid.out ?_)
  refine Lib.hid ?_
  intro g1 w1 hg1 hb haw
  have HA := Lib.hid haw; have HB := Lib.hid hb
  have hl1 := hb.lt
  clear hb haw
  go_wp2_with (refine wpList_box24 rfl _ rfl t rfl ?_; refine Hid.out ?_)
  refine Lib.hid ?_
  intro g2 w2 hg2 hb haw
  replace HA := Lib.hid (HA.out.on haw); replace HB := Lib.hid (HB.out.on haw); have HC := Lib.hid hb
  have hl2 := hb.lt
  clear hb haw
  go_wp2_with (refine wpList_allocD rfl rfl ?_; refine Hid.out ?_)
  refine Lib.hid ?_
  intro g6 w3 hg6 hb haw
  replace HA := Lib.hid (HA.out.on haw); replace HB := Lib.hid (HB.out.on haw); replace HC := Lib.hid (HC.out.on haw); have HD := Lib.hid hb
  have hl6 := hb.lt
  have hs1 := HA.out.size
  clear hb haw
  go_wp2_with (first | (refine wpList_loadX rfl _ rfl g1 rfl s (by exact HB.out) HS.out ?_) | (refine wpList_loadX rfl _ rfl g2 rfl t (by exact HC.out) HT.out ?_))
  refine (K1.out _).mono ?_
  rintro E w4 ⟨rfl, haw⟩
  replace HA := Lib.hid (HA.out.on haw); replace HB := Lib.hid (HB.out.on haw); replace HC := Lib.hid (HC.out.on haw); replace HD := Lib.hid (HD.out.on haw)
  have hs4 := haw.size
  clear haw K1
  go_wp2_with (refine wpList_storeD rfl _ _ rfl g6 rfl zeroDg (.slice none 0 0) rfl zeroDg (.slice none 0 0) (by exact HD.out) rfl ?_; refine Hid.out ?_)
  refine Lib.hid ?_
  intro wz hb haw
  have HZ := Lib.hid hb
  replace HA : Hid (Away [] w wz) := HA.out.next haw (fun x hx => .inr (by simp at hx; omega))
  clear hb haw
  go_wp2_with fail
  refine bodyPost_ret (result27t rfl _ _ _ _ _ _ rfl rfl HZ.out) rfl ⟨_, rfl, Owns.nil _, New.nil _, HA.out⟩
theorem rparse_no2 (s t : Ax) (a : Option Addr) (b : List Int) (cap : Nat) (w : World) (hs : WfA s) (ht : WfA t) (hr : Row w a b) (hcap : b.length ≤ cap) (hn : a = none → cap = 0) (hz : pairP s t = true) (h8 : b.length < 8) :
    Calls Try.prog 5 #[.agg (csA s.v s.l), .agg (csA t.v t.l), .slice a b.length cap] w fun E w' => ParseOut w (zeroDg, 20) E w' := by
  have K1 : Hid (∀ w, Calls Try.prog 15 #[.agg (csA s.v s.l), .agg (csA t.v t.l)] w fun e w' => e = .returned (.bool true) ∧ Away [] w w') := fun w => by rw [← hz]; exact rpair_c s t w hs ht
  have HS := Lib.hid hs
  have HT := Lib.hid ht
  have HR := Lib.hid hr
  have hlen := hr.1
  clear hs ht hr hz
  go_enter Try.func5, Try.ntmps5
  go_wp2_with (refine wpList_box24 rfl _ rfl s rfl ?_; refine Hid.out ?_)
  refine Lib.hid ?_
  intro g1 w1 hg1 hb haw
  have HA := Lib.hid haw; have HB := Lib.hid hb
  have hl1 := hb.lt
  clear hb haw
  go_wp2_with (refine wpList_box24 rfl _ rfl t rfl ?_; refine Hid.out ?_)
  refine Lib.hid ?_
  intro g2 w2 hg2 hb haw
  replace HA := Lib.hid (HA.out.on haw); replace HB := Lib.hid (HB.out.on haw); have HC := Lib.hid hb
  have hl2 := hb.lt
  clear hb haw
  go_wp2_with (refine wpList_allocD rfl rfl ?_; refine Hid.out ?_)
  refine Lib.hid ?_
  intro g6 w3 hg6 hb haw
  replace HA := Lib.hid (HA.out.on haw); replace HB := Lib.hid (HB.out.on haw); replace HC := Lib.hid (HC.out.on haw); have HD := Lib.hid hb
  have hl6 := hb.lt
  have hs1 := HA.out.size
  clear hb haw
  go_wp2_with (first | (refine wpList_loadX rfl _ rfl g1 rfl s (by exact HB.out) HS.out ?_) | (refine wpList_loadX rfl _ rfl g2 rfl t (by exact HC.out) HT.out ?_))
  refine (K1.out _).mono ?_
  rintro E w4 ⟨rfl, haw⟩
  replace HA := Lib.hid (HA.out.on haw); replace HB := Lib.hid (HB.out.on haw); replace HC := Lib.hid (HC.out.on haw); replace HD := Lib.hid (HD.out.on haw)
  have hs4 := haw.size
  clear haw K1
  go_wp2_with (refine wpList_storeD rfl _ _ rfl g6 rfl zeroDg (.slice none 0 0) rfl zeroDg (.slice none 0 0) (by exact HD.out) rfl ?_; refine Hid.out ?_)
  refine Lib.hid ?_
  intro wz hb haw
  have HZ := Lib.hid hb
  replace HA : Hid (Away [] w wz) := HA.out.next haw (fun x hx => .inr (by simp at hx; omega))
  clear hb haw
  go_wp2_with fail
  refine bodyPost_ret (result27t rfl _ _ _ _ _ _ rfl rfl HZ.out) rfl ⟨_, rfl, Owns.nil _, New.nil _, HA.out⟩
theorem rparse_long (s t : Ax) (a : Option Addr) (b : List Int) (cap : Nat) (w : World) (hs : WfA s) (ht : WfA t) (hr : Row w a b) (hcap : b.length ≤ cap) (hn : a = none → cap = 0) (hz : pairP s t = true) (h8 : 8 ≤ b.length) :
    Calls Try.prog 5 #[.agg (csA s.v s.l), .agg (csA t.v t.l), .slice a b.length cap] w fun E w' => ParseOut w (parseP s t b) E w' := by
  have K1 : Hid (∀ w, Calls Try.prog 15 #[.agg (csA s.v s.l), .agg (csA t.v t.l)] w fun e w' => e = .returned (.bool true) ∧ Away [] w w') := fun w => by rw [← hz]; exact rpair_c s t w hs ht
  have HS := Lib.hid hs
  have HT := Lib.hid ht
  have HR := Lib.hid hr
  have hlen := hr.1
  obtain ⟨y, hy⟩ : ∃ y, y = parseP s t b := ⟨_, rfl⟩
  rw [← hy]
  unfold parseP at hy
  rw [if_pos hz, if_neg (by omega)] at hy
  have hrm := room_bd s.v
  have KW : Hid (∀ W, Away [] w W → Calls Try.prog 16 #[.slice a b.length cap, .int .i64 4] W fun e w' => e = .returned (.int .i64 (wd b 4)) ∧ Away [] W w') := fun W h => rword_4 a b _ cap W rfl (by omega) (hr.on h)
  have KW6 : Hid (∀ W, Away [] w W → Calls Try.prog 16 #[.slice a b.length cap, .int .i64 6] W fun e w' => e = .returned (.int .i64 (wd b 6)) ∧ Away [] W w') := fun W h => rword_6 a b _ cap W rfl (by omega) (hr.on h)
  have KW0 : Hid (∀ W, Away [] w W → Calls Try.prog 16 #[.slice a b.length cap, .int .i64 0] W fun e w' => e = .returned (.int .i64 (wd b 0)) ∧ Away [] W w') := fun W h => rword_0 a b _ cap W rfl (by omega) (hr.on h)
  have KW2 : Hid (∀ W, Away [] w W → Calls Try.prog 16 #[.slice a b.length cap, .int .i64 2] W fun e w' => e = .returned (.int .i64 (wd b 2)) ∧ Away [] W w') := fun W h => rword_2 a b _ cap W rfl (by omega) (hr.on h)
  have hw4 := wd_bd hr.2.1 4
  have hw6 := wd_bd hr.2.1 6
  rw [show dgP b = ⟨wd b 0, wd b 2, decide (wd b 6 = 0), b.drop 8⟩ from rfl] at hy
  generalize wd b 4 = n4 at *
  generalize wd b 6 = n6 at *
  generalize wd b 0 = n0 at *
  generalize wd b 2 = n2 at *
  have HY := Lib.hid hy
  clear hy
  have HCK : Hid (b.length ≤ 65535 → ckP s t b = pt (psb s t 17 (b.length : Int) ++ b)) := fun h => ck_pt hs ht hr.2.1 h
  have HBB := Lib.hid hr.2.1
  have HPB0 : Hid (b.length ≤ 65535 → Bytes (psb s t 17 (b.length : Int))) := fun h => wlen hs ht h
  have HPL := Lib.hid (psb_len hs ht 17 (b.length : Int))
  have HCB : Hid (b.length ≤ 65535 → 0 ≤ ckP s t b ∧ ckP s t b ≤ 65535) := fun h => ck_bd hs ht hr.2.1 h
  have KH : Hid (∀ (W : World) (n : Int), 0 ≤ n → n ≤ 65535 → n = (b.length : Int) → Calls Try.prog 19 #[.agg (csA s.v s.l), .agg (csA t.v t.l), .int .i64 17, .int .i64 n] W fun E w' => Made W (psb s t 17 (b.length : Int)) E w') := fun W n h0 h1 h2 => by subst h2; exact rhead_c s t 17 _ W hs ht (by omega) (by omega) h0 h1
  have HAN0 : Hid (a ≠ none) := fun e => by
    rcases hr.2.2 with h | ⟨_, _, h, _⟩
    · rw [h] at h8; simp at h8
    · rw [e] at h; simp at h
  obtain ⟨A, hA⟩ : ∃ A, A = if cap = 8 then a else a.map (·.add 8) := ⟨_, rfl⟩
  have HAN : Hid (A ≠ none) := fun e => by
    rw [hA] at e
    split at e
    · exact HAN0.out e
    · cases a with
      | none => exact HAN0.out rfl
      | some x => simp at e
  have s8 := slice_l a A b.length cap 8 8 hA rfl h8
  have HTL : Hid (∀ W, Away [] w W → Row W A (b.drop 8)) := fun W h => by rw [hA]; exact (hr.on h).tail 8 cap hcap h8
  clear hA
  generalize ckP s t b = ck at *
  clear hs ht hr hz
  go_enter Try.func5, Try.ntmps5
  go_wp2_with (refine wpList_box24 rfl _ rfl s rfl ?_; refine Hid.out ?_)
  refine Lib.hid ?_
  intro g1 w1 hg1 hb haw
  have HA := Lib.hid haw; have HB := Lib.hid hb
  have hl1 := hb.lt
  clear hb haw
  go_wp2_with (refine wpList_box24 rfl _ rfl t rfl ?_; refine Hid.out ?_)
  refine Lib.hid ?_
  intro g2 w2 hg2 hb haw
  replace HA := Lib.hid (HA.out.on haw); replace HB := Lib.hid (HB.out.on haw); have HC := Lib.hid hb
  have hl2 := hb.lt
  clear hb haw
  go_wp2_with (refine wpList_allocD rfl rfl ?_; refine Hid.out ?_)
  refine Lib.hid ?_
  intro g6 w3 hg6 hb haw
  replace HA := Lib.hid (HA.out.on haw); replace HB := Lib.hid (HB.out.on haw); replace HC := Lib.hid (HC.out.on haw); have HD := Lib.hid hb
  have hl6 := hb.lt
  have hs1 := HA.out.size
  clear hb haw
  go_wp2_with (first | (refine wpList_loadX rfl _ rfl g1 rfl s (by exact HB.out) HS.out ?_) | (refine wpList_loadX rfl _ rfl g2 rfl t (by exact HC.out) HT.out ?_))
  refine (K1.out _).mono ?_
  rintro E w4 ⟨rfl, haw⟩
  replace HA := Lib.hid (HA.out.on haw); replace HB := Lib.hid (HB.out.on haw); replace HC := Lib.hid (HC.out.on haw); replace HD := Lib.hid (HD.out.on haw)
  have hs4 := haw.size
  clear haw K1
  go_wp2_with fail
  refine (KW.out _ HA.out).mono ?_
  rintro E w5 ⟨rfl, haw⟩
  have hs5 := haw.size
  replace HA := Lib.hid (HA.out.on haw); replace HB := Lib.hid (HB.out.on haw); replace HC := Lib.hid (HC.out.on haw); replace HD := Lib.hid (HD.out.on haw)
  clear haw KW
  by_cases h4 : n4 = (b.length : Int)
  · have d4 : (n4 != (b.length : Int)) = false := by simpa using h4
    have hl16 : b.length ≤ 65535 := by omega
    replace HCK := Lib.hid (HCK.out hl16)
    have HPB := Lib.hid (HPB0.out hl16)
    obtain ⟨ck0, ck1⟩ := HCB.out hl16
    have H4 := Lib.hid h4
    clear h4
    go_wp2_with (first | (refine wpList_loadX rfl _ rfl g1 rfl s (by exact HB.out) HS.out ?_) | (refine wpList_loadX rfl _ rfl g2 rfl t (by exact HC.out) HT.out ?_))
    refine (most_c s _).mono ?_
    rintro E w6 ⟨rfl, haw⟩
    have hs6 := haw.size
    replace HA := Lib.hid (HA.out.on haw); replace HB := Lib.hid (HB.out.on haw); replace HC := Lib.hid (HC.out.on haw); replace HD := Lib.hid (HD.out.on haw)
    clear haw
    have HRM : Hid (roomP s.v = roomP s.v) := rfl
    by_cases hm : (b.length : Int) - 8 ≤ roomP s.v
    · have HM := Lib.hid hm
      rw [if_pos ⟨hm, H4.out⟩] at HY
      generalize roomP s.v = rm at *
      go_wp2_with fail
      refine (KW6.out _ HA.out).mono ?_
      rintro E w7 ⟨rfl, haw⟩
      have hs7 := haw.size
      replace HA := Lib.hid (HA.out.on haw); replace HB := Lib.hid (HB.out.on haw); replace HC := Lib.hid (HC.out.on haw); replace HD := Lib.hid (HD.out.on haw)
      clear haw KW6
      have cv := HB.out.cell
      by_cases h6 : n6 = 0
      · have d6 : (n6 == 0) = true := by simpa using h6
        by_cases hv : s.v = 6
        · rw [if_pos ⟨fun _ => hv, fun h => absurd h6 h⟩] at HY
          rw [hv] at cv
          have HV := Lib.hid hv; have H6 := Lib.hid h6
          clear hv h6
          go_upto_region 9 with fail
          go_wp2_with (refine wpList_storeD rfl _ _ rfl g6 rfl zeroDg (.slice none 0 0) rfl zeroDg (.slice none 0 0) (by exact HD.out) rfl ?_; refine Hid.out ?_)
          refine Lib.hid ?_
          intro wz hb haw
          have HZ := Lib.hid hb
          replace HA : Hid (Away [] w wz) := HA.out.next haw (fun x hx => .inr (by simp at hx; omega))
          clear hb haw
          go_wp2_with fail
          refine bodyPost_ret (result27t rfl _ _ _ _ _ _ rfl rfl HZ.out) rfl ?_
          rw [HY.out]
          exact ⟨_, rfl, Owns.nil _, New.nil _, HA.out⟩
        · rw [if_neg (fun h => hv (h.1 h6)), decide_eq_true h6] at HY
          have hv' : (s.v == 6) = false := by simpa using hv
          have H6 := Lib.hid h6
          clear h6
          go_upto_region 12 with fail
          go_wp2_with fail
          refine (KW0.out _ HA.out).mono ?_
          rintro E w' ⟨rfl, haw⟩
          replace HA := Lib.hid (HA.out.on haw); replace HB := Lib.hid (HB.out.on haw); replace HC := Lib.hid (HC.out.on haw); replace HD := Lib.hid (HD.out.on haw)
          clear haw
          go_wp2_with fail
          refine (KW2.out _ HA.out).mono ?_
          rintro E w' ⟨rfl, haw⟩
          replace HA := Lib.hid (HA.out.on haw); replace HB := Lib.hid (HB.out.on haw); replace HC := Lib.hid (HC.out.on haw); replace HD := Lib.hid (HD.out.on haw)
          clear haw
          go_wp2_with (refine wpList_newD rfl rfl rfl _ _ rfl ⟨n0, n2, true, []⟩ (.slice none 0 0) (fun _ => rfl) (fun _ => rfl) rfl ?_; refine Hid.out ?_)
          refine Lib.hid ?_
          intro g9 w9 hg9 hb haw
          have hl6 := HD.out.lt
          have hs9 := HA.out.size
          replace HA := Lib.hid (HA.out.on haw); replace HB := Lib.hid (HB.out.on haw); replace HC := Lib.hid (HC.out.on haw); replace HD := Lib.hid (HD.out.on haw)
          have HE := Lib.hid hb
          clear hb haw
          have HL9 : Hid (g9 < w9.heap.size ∧ g6 < w9.heap.size ∧ w.heap.size ≤ w9.heap.size) := ⟨HE.out.lt, HD.out.lt, HA.out.size⟩
          have ck := HE.out.c3
          have fk := HE.out.free 3
          have hAd : A ≠ none := HAN.out
          obtain ⟨ad, had⟩ : ∃ ad, A = some ad := by cases hA0 : A with | none => exact absurd hA0 hAd | some x => exact ⟨x, rfl⟩
          subst had
          have HSR := Lib.hid (HTL.out _ HA.out).src
          go_upto_region 13 with fail
          refine wp_region_U 6 (fun w' => w'.cell? ⟨g9, 3, none⟩ = some (.slice none 0 0)) (by kernel_rfl) ?_
          refine wpAnyU_take (i := 0) (v := ?_) (by simp only [List.getElem?_toArray, List.getElem?_cons_zero]; rfl) (by kernel_rfl) (by kernel_rfl) (by kernel_rfl) (by decide) (by kernel_rfl) (by kernel_rfl) (by exact fun _ _ _ h => h) (Or.inl ⟨by rfl, ?_⟩) (by exact ck) ?_
          rotate_left
          · intro wq hSw
            (try dsimp only at hSw)
            go_simp
            all_goals (with_reducible rfl)
          try simp only [Act.put, List.setIfInBounds_toArray, List.set_cons_zero, List.set_cons_succ]
          refine wpAnyU_take (i := 1) (by simp only [List.getElem?_toArray, List.getElem?_cons_succ, List.getElem?_cons_zero]; rfl) (by kernel_rfl) (by kernel_rfl) (by kernel_rfl) (by decide) (by kernel_rfl) (by kernel_rfl) (by exact fun _ _ _ h => h) (yields_ld (ad := ⟨g9, 3, none⟩) (by rfl) _ rfl rfl (fun w' h => ldB h)) (by exact ck) ?_
          try simp only [Act.put, List.setIfInBounds_toArray, List.set_cons_zero, List.set_cons_succ]
          refine wpAnyU_take (i := 2) (v := ?_) (by simp only [List.getElem?_toArray, List.getElem?_cons_succ, List.getElem?_cons_zero]; rfl) (by kernel_rfl) (by kernel_rfl) (by kernel_rfl) (by decide) (by kernel_rfl) (by kernel_rfl) (by exact fun _ _ _ h => h) (Or.inl ⟨by rfl, ?_⟩) (by exact ck) ?_
          rotate_left
          · intro wq hSw
            (try dsimp only at hSw)
            go_simp
            all_goals (with_reducible rfl)
          try simp only [Act.put, List.setIfInBounds_toArray, List.set_cons_zero, List.set_cons_succ]
          refine wpAnyU_take (i := 3) (by simp only [List.getElem?_toArray, List.getElem?_cons_succ, List.getElem?_cons_zero]; rfl) (by kernel_rfl) (by kernel_rfl) (by kernel_rfl) (by decide) (by kernel_rfl) (by kernel_rfl) (by exact fun _ _ _ h => h) (yields_sll (by rfl) _ _ rfl rfl rfl s8) (by exact ck) ?_
          try simp only [Act.put, List.setIfInBounds_toArray, List.set_cons_zero, List.set_cons_succ]
          refine wpAnyU_ready (rs := [4]) (by kernel_rfl) (by simp) ?_
          refine ReadyU.cons (by simp only [List.getElem?_toArray, List.getElem?_cons_succ, List.getElem?_cons_zero]; rfl) (fun K hK => ?_) ReadyU.nil
          refine step_app rfl _ _ rfl (.slice none 0 0) [] (b.drop 8) rfl (Owns.nil _) ad (b.length - 8) (cap - 8) rfl (by simp) (by exact HSR.out) (by simp; omega) ?_
          intro av w10 hown hgr hmv
          have haw : Away [] w9 w10 := (Away.refl [] w9).drew.grown hgr (fun k hk => by simp [Value.ownBlock] at hk)
          have hnew : New w9.heap.size av := fun k hk => by
            rcases hmv k hk with h | h
            · simp [Value.ownBlock] at h
            · exact h
          have ck := HE.out.on haw |>.c3
          have fk := (HE.out.on haw).free 3
          refine hK.out _ _ (fun _ => ck) ?_
          clear hK K hgr hmv
          replace HA := Lib.hid (HA.out.on haw); replace HB := Lib.hid (HB.out.on haw); replace HC := Lib.hid (HC.out.on haw); replace HD := Lib.hid (HD.out.on haw); replace HE := Lib.hid (HE.out.on haw)
          have HO : Hid (Owns w10 av (b.drop 8)) := by have := hown; rw [List.nil_append] at this; exact this
          have HN := Lib.hid hnew
          have hs10 := haw.size
          clear haw hown hnew
          obtain ⟨va, vn, vc, rfl⟩ := HO.out.shp
          try simp only [Act.put, List.setIfInBounds_toArray, List.set_cons_zero, List.set_cons_succ]
          refine wpAnyU_take (i := 5) (v := ?_) (by simp only [List.getElem?_toArray, List.getElem?_cons_succ, List.getElem?_cons_zero]; rfl) (by kernel_rfl) (by kernel_rfl) (by kernel_rfl) (by decide) (by kernel_rfl) (by kernel_rfl) (by exact fun _ _ _ h => h) (Or.inl ⟨by rfl, ?_⟩) (by exact ck) ?_
          rotate_left
          · intro wq hSw
            (try dsimp only at hSw)
            go_simp
            all_goals (with_reducible rfl)
          try simp only [Act.put, List.setIfInBounds_toArray, List.set_cons_zero, List.set_cons_succ]
          refine wpAnyU_ready (rs := [6]) (by kernel_rfl) (by simp) ?_
          refine ReadyU.cons (by simp only [List.getElem?_toArray, List.getElem?_cons_succ, List.getElem?_cons_zero]; rfl) (fun K hK => ?_) ReadyU.nil
          refine step_store25 rfl 68 67 rfl g9 3 rfl va vn vc rfl _ (by exact ck) (by exact fk) ?_
          refine hK.out _ _ (by intro h; simp at h) ?_
          clear hK K
          (try simp only [Act.put])
          refine wpAnyU_done (by kernel_rfl) ?_ _
          have haw := away_put (w := w10) (g := g9) 3 (.slice va vn vc)
          have hl9 := HE.out.lt
          replace HE := Lib.hid (HE.out.put 3 (.slice va vn vc) (g' := ⟨n0, n2, true, b.drop 8⟩) (dv' := .slice va vn vc) rfl)
          replace HA := Lib.hid (HA.out.next haw (fun x hx => .inr (by simp at hx; omega)))
          replace HD := Lib.hid (HD.out.away haw (by simp; omega))
          replace HO := Lib.hid (HO.out.away haw (fun k hk => by have := HN.out k hk; have h2 := HL9.out; simp; omega))
          clear haw ck fk
          generalize World.setCell _ ⟨g9, 3, none⟩ (.slice va vn vc) = w11 at *
          go_wp2_with (first | (refine wpList_loadD rfl _ rfl g9 rfl ⟨n0, n2, true, b.drop 8⟩ (.slice va vn vc) (by exact HE.out) ?_) | (refine wpList_storeD rfl _ _ rfl g6 rfl ⟨n0, n2, true, b.drop 8⟩ (.slice va vn vc) rfl zeroDg (.slice none 0 0) (by exact HD.out) rfl ?_; refine Hid.out ?_))
          refine Lib.hid ?_
          intro wz hb haw
          have HZ := Lib.hid hb
          replace HA : Hid (Away [] w wz) := HA.out.next haw (fun x hx => .inr (by simp at hx; omega))
          replace HO := Lib.hid (HO.out.away haw (fun k hk => by have := HN.out k hk; have h2 := HL9.out; simp; omega))
          clear hb haw
          go_wp2_with fail
          refine bodyPost_ret (result27t rfl _ _ _ _ _ _ rfl rfl HZ.out) rfl ?_
          rw [HY.out]
          exact ⟨_, rfl, HO.out, HN.out.mono HL9.out.2.2, HA.out⟩
      · have d6 : (n6 == 0) = false := by simpa using h6
        have H6 := Lib.hid h6
        clear h6
        go_wp2_with (first | (refine wpList_loadX rfl _ rfl g1 rfl s (by exact HB.out) HS.out ?_) | (refine wpList_loadX rfl _ rfl g2 rfl t (by exact HC.out) HT.out ?_))
        refine (KH.out _ _ (by omega) (by omega) rfl).mono ?_
        rintro E w8 ⟨hv, rfl, hown, hnew, haw⟩
        have hs8 := haw.size
        have HH := Lib.hid hown
        have HHN := Lib.hid hnew
        replace HA := Lib.hid (HA.out.on haw); replace HB := Lib.hid (HB.out.on haw); replace HC := Lib.hid (HC.out.on haw); replace HD := Lib.hid (HD.out.on haw)
        clear haw hown hnew
        obtain ⟨ba, hba⟩ : ∃ x, a = some x := by cases ha : a with | none => exact absurd ha HAN0.out | some x => exact ⟨x, rfl⟩
        subst hba
        have HSR0 := Lib.hid (HR.out.on HA.out).src
        go_wp2_with (at_builtin; refine wpList_appG rfl _ _ rfl _ _ b rfl (by exact HH.out) ba b.length cap rfl rfl (by exact HSR0.out) (by have h2 := HPL.out; split at h2 <;> omega) ?_; refine Hid.out ?_)
        refine Lib.hid ?_
        intro sv w9 hown hgr hmv
        have HSO := Lib.hid hown
        have hw8 : w.heap.size ≤ w7.heap.size := by omega
        have hap : ∀ k, hv.ownBlock = some k → k ≠ g1 ∧ k ≠ g2 ∧ k ≠ g6 := fun k hk => by have := HHN.out k hk; omega
        have haw : Away hv.ownBlock.toList w8 w9 := (Away.refl _ w8).grown hgr (fun k hk => .inl (by simp [hk]))
        replace HA : Hid (Away [] w w9) := HA.out.next haw (fun x hx => .inr (by have := HHN.out x (by simpa using hx); omega))
        replace HB := Lib.hid (HB.out.away haw (fun hx => (hap _ (by simpa using hx)).1 rfl)); replace HC := Lib.hid (HC.out.away haw (fun hx => (hap _ (by simpa using hx)).2.1 rfl)); replace HD := Lib.hid (HD.out.away haw (fun hx => (hap _ (by simpa using hx)).2.2 rfl))
        have hs9 := haw.size
        clear hown hgr hmv haw hap HSR0 HHN HH
        obtain ⟨sa, sc, hsv, hsn, hsc, hsr, _⟩ := HSO.out.row (by rw [List.length_append]; have h2 := HPL.out; split at h2 <;> omega) (HPB.out.app HBB.out)
        subst hsv
        have HSR := Lib.hid hsr
        clear hsr HSO
        go_wp2_with fail
        refine (rpart_at sa (psb s t 17 (b.length : Int) ++ b) _ sc _ (by first | exact List.length_append | with_reducible rfl) (by exact HSR.out)).mono ?_
        rw [← HCK.out]
        rintro E w9 ⟨rfl, rfl⟩
        clear HSR
        by_cases hk : ck = 65535
        · rw [if_neg (fun h => (h.2 H6.out) hk), decide_eq_false H6.out] at HY
          have hk' : (ck != 65535) = false := by simpa using hk
          have HK := Lib.hid hk
          clear hk
          go_upto_region 12 with fail
          go_wp2_with fail
          refine (KW0.out _ HA.out).mono ?_
          rintro E w' ⟨rfl, haw⟩
          replace HA := Lib.hid (HA.out.on haw); replace HB := Lib.hid (HB.out.on haw); replace HC := Lib.hid (HC.out.on haw); replace HD := Lib.hid (HD.out.on haw)
          clear haw
          go_wp2_with fail
          refine (KW2.out _ HA.out).mono ?_
          rintro E w' ⟨rfl, haw⟩
          replace HA := Lib.hid (HA.out.on haw); replace HB := Lib.hid (HB.out.on haw); replace HC := Lib.hid (HC.out.on haw); replace HD := Lib.hid (HD.out.on haw)
          clear haw
          go_wp2_with (refine wpList_newD rfl rfl rfl _ _ rfl ⟨n0, n2, false, []⟩ (.slice none 0 0) (fun _ => rfl) (fun _ => rfl) rfl ?_; refine Hid.out ?_)
          refine Lib.hid ?_
          intro g9 w9 hg9 hb haw
          have hl6 := HD.out.lt
          have hs9 := HA.out.size
          replace HA := Lib.hid (HA.out.on haw); replace HB := Lib.hid (HB.out.on haw); replace HC := Lib.hid (HC.out.on haw); replace HD := Lib.hid (HD.out.on haw)
          have HE := Lib.hid hb
          clear hb haw
          have HL9 : Hid (g9 < w9.heap.size ∧ g6 < w9.heap.size ∧ w.heap.size ≤ w9.heap.size) := ⟨HE.out.lt, HD.out.lt, HA.out.size⟩
          have ck := HE.out.c3
          have fk := HE.out.free 3
          have hAd : A ≠ none := HAN.out
          obtain ⟨ad, had⟩ : ∃ ad, A = some ad := by cases hA0 : A with | none => exact absurd hA0 hAd | some x => exact ⟨x, rfl⟩
          subst had
          have HSR := Lib.hid (HTL.out _ HA.out).src
          go_upto_region 13 with fail
          refine wp_region_U 6 (fun w' => w'.cell? ⟨g9, 3, none⟩ = some (.slice none 0 0)) (by kernel_rfl) ?_
          refine wpAnyU_take (i := 0) (v := ?_) (by simp only [List.getElem?_toArray, List.getElem?_cons_zero]; rfl) (by kernel_rfl) (by kernel_rfl) (by kernel_rfl) (by decide) (by kernel_rfl) (by kernel_rfl) (by exact fun _ _ _ h => h) (Or.inl ⟨by rfl, ?_⟩) (by exact ck) ?_
          rotate_left
          · intro wq hSw
            (try dsimp only at hSw)
            go_simp
            all_goals (with_reducible rfl)
          try simp only [Act.put, List.setIfInBounds_toArray, List.set_cons_zero, List.set_cons_succ]
          refine wpAnyU_take (i := 1) (by simp only [List.getElem?_toArray, List.getElem?_cons_succ, List.getElem?_cons_zero]; rfl) (by kernel_rfl) (by kernel_rfl) (by kernel_rfl) (by decide) (by kernel_rfl) (by kernel_rfl) (by exact fun _ _ _ h => h) (yields_ld (ad := ⟨g9, 3, none⟩) (by rfl) _ rfl rfl (fun w' h => ldB h)) (by exact ck) ?_
          try simp only [Act.put, List.setIfInBounds_toArray, List.set_cons_zero, List.set_cons_succ]
          refine wpAnyU_take (i := 2) (v := ?_) (by simp only [List.getElem?_toArray, List.getElem?_cons_succ, List.getElem?_cons_zero]; rfl) (by kernel_rfl) (by kernel_rfl) (by kernel_rfl) (by decide) (by kernel_rfl) (by kernel_rfl) (by exact fun _ _ _ h => h) (Or.inl ⟨by rfl, ?_⟩) (by exact ck) ?_
          rotate_left
          · intro wq hSw
            (try dsimp only at hSw)
            go_simp
            all_goals (with_reducible rfl)
          try simp only [Act.put, List.setIfInBounds_toArray, List.set_cons_zero, List.set_cons_succ]
          refine wpAnyU_take (i := 3) (by simp only [List.getElem?_toArray, List.getElem?_cons_succ, List.getElem?_cons_zero]; rfl) (by kernel_rfl) (by kernel_rfl) (by kernel_rfl) (by decide) (by kernel_rfl) (by kernel_rfl) (by exact fun _ _ _ h => h) (yields_sll (by rfl) _ _ rfl rfl rfl s8) (by exact ck) ?_
          try simp only [Act.put, List.setIfInBounds_toArray, List.set_cons_zero, List.set_cons_succ]
          refine wpAnyU_ready (rs := [4]) (by kernel_rfl) (by simp) ?_
          refine ReadyU.cons (by simp only [List.getElem?_toArray, List.getElem?_cons_succ, List.getElem?_cons_zero]; rfl) (fun K hK => ?_) ReadyU.nil
          refine step_app rfl _ _ rfl (.slice none 0 0) [] (b.drop 8) rfl (Owns.nil _) ad (b.length - 8) (cap - 8) rfl (by simp) (by exact HSR.out) (by simp; omega) ?_
          intro av w10 hown hgr hmv
          have haw : Away [] w9 w10 := (Away.refl [] w9).drew.grown hgr (fun k hk => by simp [Value.ownBlock] at hk)
          have hnew : New w9.heap.size av := fun k hk => by
            rcases hmv k hk with h | h
            · simp [Value.ownBlock] at h
            · exact h
          have ck := HE.out.on haw |>.c3
          have fk := (HE.out.on haw).free 3
          refine hK.out _ _ (fun _ => ck) ?_
          clear hK K hgr hmv
          replace HA := Lib.hid (HA.out.on haw); replace HB := Lib.hid (HB.out.on haw); replace HC := Lib.hid (HC.out.on haw); replace HD := Lib.hid (HD.out.on haw); replace HE := Lib.hid (HE.out.on haw)
          have HO : Hid (Owns w10 av (b.drop 8)) := by have := hown; rw [List.nil_append] at this; exact this
          have HN := Lib.hid hnew
          have hs10 := haw.size
          clear haw hown hnew
          obtain ⟨va, vn, vc, rfl⟩ := HO.out.shp
          try simp only [Act.put, List.setIfInBounds_toArray, List.set_cons_zero, List.set_cons_succ]
          refine wpAnyU_take (i := 5) (v := ?_) (by simp only [List.getElem?_toArray, List.getElem?_cons_succ, List.getElem?_cons_zero]; rfl) (by kernel_rfl) (by kernel_rfl) (by kernel_rfl) (by decide) (by kernel_rfl) (by kernel_rfl) (by exact fun _ _ _ h => h) (Or.inl ⟨by rfl, ?_⟩) (by exact ck) ?_
          rotate_left
          · intro wq hSw
            (try dsimp only at hSw)
            go_simp
            all_goals (with_reducible rfl)
          try simp only [Act.put, List.setIfInBounds_toArray, List.set_cons_zero, List.set_cons_succ]
          refine wpAnyU_ready (rs := [6]) (by kernel_rfl) (by simp) ?_
          refine ReadyU.cons (by simp only [List.getElem?_toArray, List.getElem?_cons_succ, List.getElem?_cons_zero]; rfl) (fun K hK => ?_) ReadyU.nil
          refine step_store25 rfl 68 67 rfl g9 3 rfl va vn vc rfl _ (by exact ck) (by exact fk) ?_
          refine hK.out _ _ (by intro h; simp at h) ?_
          clear hK K
          (try simp only [Act.put])
          refine wpAnyU_done (by kernel_rfl) ?_ _
          have haw := away_put (w := w10) (g := g9) 3 (.slice va vn vc)
          have hl9 := HE.out.lt
          replace HE := Lib.hid (HE.out.put 3 (.slice va vn vc) (g' := ⟨n0, n2, false, b.drop 8⟩) (dv' := .slice va vn vc) rfl)
          replace HA := Lib.hid (HA.out.next haw (fun x hx => .inr (by simp at hx; omega)))
          replace HD := Lib.hid (HD.out.away haw (by simp; omega))
          replace HO := Lib.hid (HO.out.away haw (fun k hk => by have := HN.out k hk; have h2 := HL9.out; simp; omega))
          clear haw ck fk
          generalize World.setCell _ ⟨g9, 3, none⟩ (.slice va vn vc) = w11 at *
          go_wp2_with (first | (refine wpList_loadD rfl _ rfl g9 rfl ⟨n0, n2, false, b.drop 8⟩ (.slice va vn vc) (by exact HE.out) ?_) | (refine wpList_storeD rfl _ _ rfl g6 rfl ⟨n0, n2, false, b.drop 8⟩ (.slice va vn vc) rfl zeroDg (.slice none 0 0) (by exact HD.out) rfl ?_; refine Hid.out ?_))
          refine Lib.hid ?_
          intro wz hb haw
          have HZ := Lib.hid hb
          replace HA : Hid (Away [] w wz) := HA.out.next haw (fun x hx => .inr (by simp at hx; omega))
          replace HO := Lib.hid (HO.out.away haw (fun k hk => by have := HN.out k hk; have h2 := HL9.out; simp; omega))
          clear hb haw
          go_wp2_with fail
          refine bodyPost_ret (result27t rfl _ _ _ _ _ _ rfl rfl HZ.out) rfl ?_
          rw [HY.out]
          exact ⟨_, rfl, HO.out, HN.out.mono HL9.out.2.2, HA.out⟩
        · rw [if_pos ⟨fun h => absurd h H6.out, fun _ => hk⟩] at HY
          have hk' : (ck != 65535) = true := by simpa using hk
          have HK := Lib.hid hk
          clear hk
          go_upto_region 11 with fail
          go_wp2_with (refine wpList_storeD rfl _ _ rfl g6 rfl zeroDg (.slice none 0 0) rfl zeroDg (.slice none 0 0) (by exact HD.out) rfl ?_; refine Hid.out ?_)
          refine Lib.hid ?_
          intro wz hb haw
          have HZ := Lib.hid hb
          replace HA : Hid (Away [] w wz) := HA.out.next haw (fun x hx => .inr (by simp at hx; omega))
          clear hb haw
          go_wp2_with fail
          refine bodyPost_ret (result27t rfl _ _ _ _ _ _ rfl rfl HZ.out) rfl ?_
          rw [HY.out]
          exact ⟨_, rfl, Owns.nil _, New.nil _, HA.out⟩
    · rw [if_neg (fun h => hm h.1)] at HY
      have hm' : roomP s.v < (b.length : Int) - 8 := by omega
      clear hm
      generalize roomP s.v = rm at *
      go_upto_region 6 with fail
      go_wp2_with (refine wpList_storeD rfl _ _ rfl g6 rfl zeroDg (.slice none 0 0) rfl zeroDg (.slice none 0 0) (by exact HD.out) rfl ?_; refine Hid.out ?_)
      refine Lib.hid ?_
      intro wz hb haw
      have HZ := Lib.hid hb
      replace HA : Hid (Away [] w wz) := HA.out.next haw (fun x hx => .inr (by simp at hx; omega))
      clear hb haw
      go_wp2_with fail
      refine bodyPost_ret (result27t rfl _ _ _ _ _ _ rfl rfl HZ.out) rfl ?_
      rw [HY.out]
      exact ⟨_, rfl, Owns.nil _, New.nil _, HA.out⟩
  · have d4 : (n4 != (b.length : Int)) = true := by simpa using h4
    rw [if_neg (fun h => h4 h.2)] at HY
    have H4 := Lib.hid h4
    clear h4
    go_upto_region 6 with fail
    go_wp2_with (refine wpList_storeD rfl _ _ rfl g6 rfl zeroDg (.slice none 0 0) rfl zeroDg (.slice none 0 0) (by exact HD.out) rfl ?_; refine Hid.out ?_)
    refine Lib.hid ?_
    intro wz hb haw
    have HZ := Lib.hid hb
    replace HA : Hid (Away [] w wz) := HA.out.next haw (fun x hx => .inr (by simp at hx; omega))
    clear hb haw
    go_wp2_with fail
    refine bodyPost_ret (result27t rfl _ _ _ _ _ _ rfl rfl HZ.out) rfl ?_
    rw [HY.out]
    exact ⟨_, rfl, Owns.nil _, New.nil _, HA.out⟩
theorem rparse_c (s t : Ax) (a : Option Addr) (b : List Int) (cap : Nat) (w : World) (hs : WfA s) (ht : WfA t) (hr : Row w a b) (hcap : b.length ≤ cap) (hn : a = none → cap = 0) :
    Calls Try.prog 5 #[.agg (csA s.v s.l), .agg (csA t.v t.l), .slice a b.length cap] w fun E w' => ParseOut w (parseP s t b) E w' := by
  cases hz : pairP s t
  · rw [show parseP s t b = (zeroDg, 1) from by unfold parseP; rw [if_neg (by simp [hz])]]
    exact rparse_no1 s t a b cap w hs ht hr hcap hn hz
  · by_cases h8 : b.length < 8
    · rw [show parseP s t b = (zeroDg, 20) from by unfold parseP; rw [if_pos hz, if_pos h8]]
      exact rparse_no2 s t a b cap w hs ht hr hcap hn hz h8
    · exact rparse_long s t a b cap w hs ht hr hcap hn hz (by omega)
#print axioms rparse_c
end Go.Proofs.Ytbfpphoiapggnab
