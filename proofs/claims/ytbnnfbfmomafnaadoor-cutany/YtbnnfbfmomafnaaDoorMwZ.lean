/-
  CutMemory: its plain side, and what lies apart.
-/
import Derived.Test.YtbnnfbfmomafnaaDoorMemZ
import Derived.Test.YtbnnfbfmomafnaaDoorLp
import Derived.Test.YtbnnfbfmomafnaaDoorQ32
import Derived.Test.YtbnnfbfmomafnaaDoorCt2
import Derived.Test.YtbnnfbfmomafnaaDoorCutF
import Derived.Test.YtbnnfbfmomafnaaDoorWip
namespace Go.Proofs.YtbnnfbfmomafnaaDoor
open Go.ChangeShapes Go.WideShapes Go.ChangeAt Go.RowKit Go.Deep Num
set_option linter.unusedVariables false
set_option maxHeartbeats 4000000
set_option maxRecDepth 100000

theorem step_appL {ops : Array Oper} {o : Oper} {a : Act} {w : World} {K : Act → World → Prop} {Q : Exit → Act → World → Prop} {E : Prop} (hg : o.guard = none) (s x : Operand)
    (hop : o.op = .call { callee := .builtin .append, args := #[s, x], argTypes := #[48, 48] }) (v : Value) (l m : List Value) (hs : a.eval s = v) (hown : OwnsG 26 w v l)
    (ad : Addr) (n c : Nat) (hx : a.eval x = .slice (some ad) n c) (hn : m.length = n) (hm : ∀ j u, m[j]? = some u → w.cell? (ad.add j) = some u) (h1 : ∀ u ∈ m, u.oneCell' = true) (hlen : l.length + n ≤ 10000000)
    (hK : ∀ v' w', OwnsG 26 w' v' (l ++ m) → Went w w' v v' → K (a.put o.dst v') w') :
    if Region.wanted o (yielded ops a.tmps) = true then Oper.wp Tryd.prog o a w K Q else E := by
  have hw : Region.wanted o (yielded ops a.tmps) = true := by simp [Region.wanted, hg]
  rw [if_pos hw]
  obtain ⟨i0, hi, hz⟩ := Option.map_eq_some_iff.1 info22
  simp only [Prod.mk.injEq] at hz
  obtain ⟨v', w', hrun, r1, r2⟩ := run_appNW 48 o.type 26 i0 _ 1 24 Tryd.underlying48 hi hz.1 hz.2.1 hz.2.2 rfl (by decide) w v l.length l hown ad n c m (by omega) hm h1 (by unfold maxLen; omega) (by omega)
  unfold Oper.wp
  simp [execOp, hop, resolve, invoke, builtin, hs, hx, hrun, Result.andThen]
  refine hK v' w' ?_ r2
  unfold OwnsG
  rw [List.length_append, hn]
  exact r1
theorem listP_o' {p : Pk} (h : Ad p) (ov dv : Value) : (listP p ov dv)[44]? = some ov ∧ (listP p ov dv)[45]? = some dv := by
  obtain ⟨v, tos, flow, sv, sb, dv', db, proto, ttl, id, df, more, frag, off, o, d⟩ := p
  obtain ⟨h1, h2⟩ := h
  simp only at h1 h2
  obtain ⟨b0, b1, b2, b3, b4, b5, b6, b7, b8, b9, b10, b11, b12, b13, b14, b15, rfl⟩ := list16 h1
  obtain ⟨c0, c1, c2, c3, c4, c5, c6, c7, c8, c9, c10, c11, c12, c13, c14, c15, rfl⟩ := list16 h2
  exact ⟨rfl, rfl⟩
theorem two_cells (w : World) (x y : Value) (n : Nat) (hn : n = w.heap.size) : ∀ j u, [x, y][j]? = some u → (w.alloc (.cells #[x, y] 26)).cell? ((⟨n, 0, none⟩ : Addr).add j) = some u := by
  intro j u hj
  rw [add_plain, Nat.zero_add, World.cell?_alloc_at (hn := hn)]
  simpa using hj
/-- All lists of bytes in packets. -/
def allL (xs : List X) : List Value := xs.flatMap fun x => [x.o, x.d]
theorem allL_succ {xs : List X} {i : Nat} {x : X} (h : xs[i]? = some x) : allL (xs.take (i + 1)) = allL (xs.take i) ++ [x.o, x.d] := by
  rw [List.take_add_one, h]; simp [allL]
theorem allL_len (xs : List X) : (allL xs).length = 2 * xs.length := by
  induction xs with
  | nil => rfl
  | cons x xs ih => simp only [allL, List.flatMap_cons, List.length_append, List.length_cons, List.length_nil] at ih ⊢; omega
theorem lists_c (a : Option Addr) (xs : List X) (N cap : Nat) (w : World) (hlen : xs.length = N) (hN : N ≤ 60000) (hx : Pks w a xs) :
    Calls Tryd.prog 22 #[.slice a N cap] w fun E w' => ∃ v, E = .returned v ∧ OwnsG 26 w' v (allL xs) ∧ New w.heap.size v ∧ Away [] w w' := by
  have HX := Lib.hid hx; have HL := Lib.hid hlen
  have hst : OwnsG 26 w (.slice none 0 0) (allL (xs.take 0)) := World.ownsRow_nil _ _ _ _
  clear hx hlen
  go_enter Tryd.func22, Tryd.ntmps22
  go_wp2_with fail
  go_loopw [3, 4] (fun v iv wr => ∃ i : Nat, i ≤ N ∧ iv = .int .i64 (i : Int) ∧ OwnsG 26 wr v (allL (xs.take i)) ∧ New w.heap.size v ∧ Away [] w wr) (fun _ iv _ => N - (intOf iv).toNat)
  case atStart => exact ⟨0, by omega, rfl, hst, New.nil _, Away.refl [] w⟩
  case round =>
    obtain ⟨i, hi, rfl, own, new, aw⟩ := hrel
    by_cases hlt : i < N
    · obtain ⟨x, hxi⟩ : ∃ x, xs[i]? = some x := ⟨_, List.getElem?_eq_getElem (by rw [HL.out]; exact hlt)⟩
      obtain ⟨b, off, rfl, hr, hok⟩ := (HX.out.on aw).at hxi
      have c12 := hr 44 _ (listP_o' hok.wf.ad x.o x.d).1
      have c13 := hr 45 _ (listP_o' hok.wf.ad x.o x.d).2
      have hll : (allL (xs.take i)).length + 2 ≤ 10000000 := by rw [allL_len, List.length_take]; omega
      have HXI := Lib.hid hxi
      have HOK := Lib.hid hok
      have hi0 : (0 : Int) ≤ (i : Int) := by omega
      have hi1 : (i : Int) < (N : Int) := by omega
      have HOW := Lib.hid own
      have HAW := Lib.hid aw
      have HNE := Lib.hid new
      obtain ⟨-, ⟨oa, oc, hxo, -, -, -⟩, ⟨da, dc, hxd, -, -, -⟩⟩ := hok
      obtain ⟨n1, hn1⟩ : ∃ z, z = x.p.o.length := ⟨_, rfl⟩
      obtain ⟨n2, hn2⟩ : ∃ z, z = x.p.d.length := ⟨_, rfl⟩
      rw [← hn1] at hxo
      rw [← hn2] at hxd
      rw [hxo] at c12
      rw [hxd] at c13
      obtain ⟨al, hal⟩ : ∃ z, z = allL (xs.take i) := ⟨_, rfl⟩
      rw [← hal] at hll HOW
      have HNX : Hid (allL (xs.take (i + 1)) = al ++ [.slice oa n1 oc, .slice da n2 dc]) := by
        show _ = _
        rw [allL_succ HXI.out, hal, hxo, hxd]
      clear own aw new hr hxi hxo hxd hal hst HOK hn1 hn2
      have hb : b < wr.heap.size := block_lt_of_cell c12
      go_wp2_with fail
      go_region_law ((refine step_appL rfl (.tmp 11) (.tmp 22) rfl u3 al [.slice oa n1 oc, .slice da n2 dc] (by simp [Act.eval]) (by exact HOW.out.away (((Away.refl [] _).alloc _).drew) (by simp)) ⟨wr.heap.size, 0, none⟩ 2 2 (by simp [Act.eval]) rfl (by exact two_cells _ (.slice oa n1 oc) (.slice da n2 dc) _ rfl) (by simp [Value.oneCell']) hll ?_; intro g' w2 hown2 hwent; have haw2 : Away u3.ownBlock.toList wr w2 := (((Away.refl _ wr).alloc _).drew).grown hwent.grown (fun k hk => .inl (by simp [hk]))))
      all_goals
        have hnew2 : New w.heap.size g' := HNE.out.moved hwent.moved (by have := HAW.out.size; simp; omega)
        have haw3 : Away [] w w2 := (((HAW.out).alloc _).drew).grown hwent.grown (fun k hk => .inr (HNE.out k hk))
        have hown3 : OwnsG 26 w2 g' (allL (xs.take (i + 1))) := by rw [HNX.out]; exact hown2
        clear hwent hown2 haw2
        go_wp2_with fail
        go_roundw
        case rel => exact ⟨i + 1, by omega, by go_num, hown3, hnew2, haw3⟩
        case measure => simp [intOf]; omega
    · obtain rfl : i = N := by omega
      have hlt' : ¬ ((i : Int) < (i : Int)) := by omega
      rw [List.take_of_length_le (by rw [HL.out]; omega)] at own
      go_wp2_with fail
      go_ret
      exact ⟨_, rfl, own, new, aw⟩
#print axioms lists_c
end Go.Proofs.YtbnnfbfmomafnaaDoor

namespace Go.Proofs.YtbnnfbfmomafnaaDoor
open Num
set_option linter.unusedVariables false

theorem share_more {left room : Nat} {v : Int} (h : shareP left room v < left) : shareP left room v = room / 8 * 8 := by
  unfold shareP at h ⊢
  by_cases c : left ≤ (if v = 6 then room / 8 * 8 else room)
  · rw [if_pos c] at h; omega
  · rw [if_neg c]
theorem share_six {left room : Nat} : shareP left room 6 ≤ room / 8 * 8 := by
  unfold shareP; rw [if_pos rfl]; split <;> omega
/-- The piece x of p at n, of s bytes, out of the frame f. -/
structure Piece (p f x : Pk) (m : Int) (n s : Nat) : Prop where
  r : rgtP x = true
  long : ((topP x + x.d.length : Nat) : Int) ≤ m
  off : x.off = (n : Int)
  len : x.d.length = s
  d : x.d = (p.d.drop n).take s
  le : n + s ≤ p.d.length
  pos : 0 < s
  n8 : n + s = p.d.length ∨ (n + s) % 8 = 0
  more : x.more = decide (n + s < p.d.length)
  v : x.v = p.v
  sv : x.sv = p.sv
  sb : x.sb = p.sb
  dv : x.dv = p.dv
  db : x.db = p.db
  proto : x.proto = p.proto
  ttl : x.ttl = p.ttl
  tos : x.tos = p.tos
  tight : x.more = true → m < ((topP x + x.d.length : Nat) : Int) + 8
  id4 : p.v ≠ 6 → x.id = p.id
  six : p.v = 6 → x.frag = true ∧ x.flow = p.flow ∧ x.id = f.id ∧ (s : Int) ≤ ((m - 48).toNat / 8 * 8 : Nat)
theorem piece_of {p f : Pk} {m : Int} (h : Unc p) (hw : Wf p) (hf : Frm p f) (hm : mtuP m p.v = true) {n : Nat} (hlt : n < p.d.length) (h8 : n % 8 = 0) :
    Piece p f (plcP f n ((p.d.drop n).take (shareP (p.d.length - n) (roomP f m) p.v)) (decide (shareP (p.d.length - n) (roomP f m) p.v < p.d.length - n))) m n (shareP (p.d.length - n) (roomP f m) p.v) := by
  have ht := took h hw hf hm hlt
  obtain ⟨r1, r2, r3, r4, r5, r6, r7⟩ := room_eq h hw hf hm
  have hmore : shareP (p.d.length - n) (roomP f m) p.v < p.d.length - n → shareP (p.d.length - n) (roomP f m) p.v = roomP f m / 8 * 8 := share_more
  have hsix : p.v = 6 → shareP (p.d.length - n) (roomP f m) p.v ≤ roomP f m / 8 * 8 := fun hv => by rw [hv]; exact share_six
  have htop6 := (frame_right h hw hf).2.2.2
  generalize shareP (p.d.length - n) (roomP f m) p.v = s at *
  have hlen := ht.len
  have hle := ht.le
  have hpos := ht.pos
  have hlong := ht.long
  have hr : rgtP (plcP f n ((p.d.drop n).take s) (decide (s < p.d.length - n))) = true :=
    piece_right h hw hf n _ _ (by rw [ht.len]; exact hpos) h8 (by rw [ht.len]; exact hle) (fun e => by rw [ht.len]; have := ht.d8; have := of_decide_eq_true e; omega) (fun hv => by rw [ht.len]; exact ht.six hv)
  have hfld : f.v = p.v ∧ f.sv = p.sv ∧ f.sb = p.sb ∧ f.dv = p.dv ∧ f.db = p.db ∧ f.proto = p.proto ∧ f.ttl = p.ttl ∧ f.tos = p.tos ∧ (p.v ≠ 6 → f.id = p.id) ∧ (p.v = 6 → f.frag = true ∧ f.flow = p.flow) := by
    by_cases hv : p.v = 6
    · obtain ⟨id, rfl, -⟩ := hf.h6 hv
      exact ⟨rfl, rfl, rfl, rfl, rfl, rfl, rfl, rfl, fun e => absurd hv e, fun _ => ⟨rfl, rfl⟩⟩
    · obtain ⟨o, rfl, -⟩ := hf.h4 hv
      exact ⟨rfl, rfl, rfl, rfl, rfl, rfl, rfl, rfl, fun _ => rfl, fun e => absurd e hv⟩
  obtain ⟨e1, e2, e3, e4, e5, e6, e7, e8, e9, e10⟩ := hfld
  refine ⟨hr, ?_, rfl, hlen, rfl, hle, hpos, by have := ht.d8; omega, ?_, e1, e2, e3, e4, e5, e6, e7, e8, ?_, e9, fun hv => ⟨(e10 hv).1, (e10 hv).2, rfl, ?_⟩⟩
  · rw [plc_top]; show ((topP f + ((p.d.drop n).take s).length : Nat) : Int) ≤ m; rw [hlen]; omega
  · show decide (s < p.d.length - n) = decide (n + s < p.d.length)
    apply decide_eq_decide.2; omega
  · intro hmo
    have h1 := hmore (of_decide_eq_true hmo)
    rw [plc_top]; show m < ((topP f + ((p.d.drop n).take s).length : Nat) : Int) + 8
    rw [hlen]; omega
  · have h1 := hsix hv
    have h2 := htop6 hv
    rw [r2, h2] at h1
    omega
#print axioms piece_of
end Go.Proofs.YtbnnfbfmomafnaaDoor

namespace Go.Proofs.YtbnnfbfmomafnaaDoor
open Go.ChangeShapes Go.WideShapes Go.ChangeAt Go.RowKit Num
set_option linter.unusedVariables false
set_option linter.unusedSimpArgs false
set_option maxHeartbeats 4000000
set_option maxRecDepth 100000

theorem put3 (w : World) (ad : Addr) (n : Int) (u : Value) (hc : w.cell? ad = some u) (hf : w.frozen? ad = false) : (Instr.storeAt 3 (.pointer (some ad)) (.int .i64 n)).run Tryd.prog w = .ok () (w.setCell ad (.int .i64 n)) := by
  simp [go_sem, Instr.storeAt, Instr.sureAddr, storeVar, hc, hf]
theorem put4 (w : World) (ad : Addr) (n : Bool) (u : Value) (hc : w.cell? ad = some u) (hf : w.frozen? ad = false) : (Instr.storeAt 4 (.pointer (some ad)) (.bool n)).run Tryd.prog w = .ok () (w.setCell ad (.bool n)) := by
  simp [go_sem, Instr.storeAt, Instr.sureAddr, storeVar, hc, hf]
theorem put25 (w : World) (ad : Addr) (n : Int) (u : Value) (hc : w.cell? ad = some u) (hf : w.frozen? ad = false) : (Instr.storeAt 25 (.pointer (some ad)) (.int .u32 n)).run Tryd.prog w = .ok () (w.setCell ad (.int .u32 n)) := by
  simp [go_sem, Instr.storeAt, Instr.sureAddr, storeVar, hc, hf]
theorem put26 (w : World) (ad : Addr) (b : Option Addr) (n c : Nat) (u : Value) (hc : w.cell? ad = some u) (hf : w.frozen? ad = false) : (Instr.storeAt 26 (.pointer (some ad)) (.slice b n c)).run Tryd.prog w = .ok () (w.setCell ad (.slice b n c)) := by
  simp [go_sem, Instr.storeAt, Instr.sureAddr, storeVar, hc, hf]
theorem csP_len {p : Pk} (ha : Ad p) (ov dv : Value) : (csP p ov dv).size = 46 := by
  have := listP_len (ov := ov) (dv := dv) ha
  simpa [csP] using this
theorem BoxP.some {w : World} {g : Nat} {p : Pk} {ov dv : Value} (h : BoxP w g p ov dv) (ha : Ad p) {i : Nat} (hi : i < 46) : ∃ u, w.cell? ⟨g, i, none⟩ = some u := by
  rw [cell_of_block h]
  exact ⟨(csP p ov dv)[i]'(by rw [csP_len ha]; exact hi), by simp [csP_len ha, hi]⟩
theorem wpList_putF {ops : Array Oper} {rest : List Oper} {o : Oper} {a : Act} {w : World} {Q : Exit → Act → World → Prop} (hw : Region.wanted o (yielded ops a.tmps) = true) (t : TypeId) (x y : Operand) (ho : o.op = .store t x y) (g i : Nat) (hx : a.eval x = .pointer (some ⟨g, i, none⟩)) (v : Value) (hy : a.eval y = v)
    (hst : ∀ u, w.cell? ⟨g, i, none⟩ = some u → w.frozen? ⟨g, i, none⟩ = false → (Instr.storeAt t (.pointer (some ⟨g, i, none⟩)) v).run Tryd.prog w = .ok () (w.setCell ⟨g, i, none⟩ v))
    (p q : Pk) (ov dv ou du : Value) (hb : BoxP w g p ov dv) (ha : Ad p) (hi : i < 46) (hset : (csP p ov dv).setIfInBounds i v = csP q ou du)
    (h : ∀ w1, BoxP w1 g q ou du → Away [g] w w1 → wpList Tryd.prog ops Q rest (a.put o.dst undef) w1) : wpList Tryd.prog ops Q (o :: rest) a w := by
  obtain ⟨u, hu⟩ := hb.some ha hi
  have e := hst u hu (free_of_block hb i)
  refine BigFrame.wpList_want hw fun K hK => ?_
  unfold Oper.wp execOp
  simp only [ho, hx, hy, Sem.run_bind, e, Result.andThen_ok, Sem.run_pure]
  exact hK _ _ (h _ (hb.put i v hset) (away_put i v))
end Go.Proofs.YtbnnfbfmomafnaaDoor

namespace Go.Proofs.YtbnnfbfmomafnaaDoor
open Go.ChangeShapes Go.WideShapes Go.ChangeAt Go.RowKit Go.Deep Num
set_option linter.unusedVariables false
set_option maxHeartbeats 4000000
set_option maxRecDepth 100000

/-- A packet cut short, DF let go. -/
def shortP (q : Pk) (n : Nat) : Pk := { q with d := q.d.take n, df := false }
theorem short_wf {q : Pk} (h : Wf q) (n : Nat) : Wf (shortP q n) :=
  ⟨h.v, h.tos, h.flow, h.sv, h.sl, h.sb, h.dv, h.dl, h.db, h.proto, h.ttl, h.id0, h.id1, h.off, h.o, h.ol, h.d.take n, by show (q.d.take n).length ≤ _; have := h.dn; rw [List.length_take]; omega⟩
theorem cutd_wf {q : Pk} (h : Wf q) (n : Nat) : Wf { q with d := q.d.take n } :=
  ⟨h.v, h.tos, h.flow, h.sv, h.sl, h.sb, h.dv, h.dl, h.db, h.proto, h.ttl, h.id0, h.id1, h.off, h.o, h.ol, h.d.take n, by show (q.d.take n).length ≤ _; have := h.dn; rw [List.length_take]; omega⟩
theorem short_unc {q : Pk} (h : Unc q) (n : Nat) : Unc (shortP q n) := by
  refine ⟨?_, h.off, h.more, h.frag⟩
  have hr := h.r
  have hl : (q.d.take n).length ≤ q.d.length := by rw [List.length_take]; omega
  have ho := h.off
  unfold rgtP at hr ⊢
  by_cases hv : q.v = 6
  · rw [if_pos hv, S6.right_iff] at hr
    refine (if_pos hv).trans ((S6.right_iff _).2 ?_)
    refine ⟨hr.v, rfl, hr.o, hr.f0, hr.f1, hr.t0, hr.t1, hr.l0, hr.l1, hr.r0, hr.r1, hr.r44, hr.sv, hr.dv, hr.o0, hr.o1, hr.o8, fun e => ?_, fun e => ?_, ?_, hr.bare, ?_⟩
    · rw [show (shortP q n).more = q.more from rfl, h.more] at e; simp at e
    · rcases e with e | e
      · rw [show (shortP q n).more = q.more from rfl, h.more] at e; simp at e
      · rw [show (shortP q n).off = q.off from rfl, h.off] at e; simp at e
    · have := hr.reach; show q.off + ((q.d.take n).length : Int) ≤ 65535; omega
    · have := hr.all; show S6.hofP q - 40 + (q.d.take n).length ≤ 65535; omega
  · rw [if_neg hv, right_iff] at hr
    have hr1 := hr.1
    refine (if_neg hv).trans ((right_iff _).2 ⟨?_, hr.2⟩)
    refine ⟨hr1.v, hr1.flow, hr1.frag, hr1.id, hr1.t0, hr1.t1, hr1.l0, hr1.l1, hr1.r0, hr1.r1, hr1.sv, hr1.sb, hr1.dv, hr1.db, hr1.o0, hr1.o1, hr1.o8, fun e => ?_, fun e => ?_, fun e => ?_, ?_, ?_⟩
    · rw [show (shortP q n).more = q.more from rfl, h.more] at e; simp at e
    · rw [show (shortP q n).more = q.more from rfl, h.more] at e; simp at e
    · rw [show (shortP q n).off = q.off from rfl, h.off] at e; simp at e
    · have := hr1.reach; show q.off + ((q.d.take n).length : Int) ≤ 65535; omega
    · have := hr1.all; show 20 + q.o.length + (q.d.take n).length ≤ 65535; omega

theorem cutd_unc {q : Pk} (h : Unc q) (n : Nat) : Unc ({ q with d := q.d.take n } : Pk) := by
  refine ⟨?_, h.off, h.more, h.frag⟩
  have hr := h.r
  have hl : (q.d.take n).length ≤ q.d.length := by rw [List.length_take]; omega
  have ho := h.off
  unfold rgtP at hr ⊢
  by_cases hv : q.v = 6
  · rw [if_pos hv, S6.right_iff] at hr
    refine (if_pos hv).trans ((S6.right_iff _).2 ?_)
    refine ⟨hr.v, hr.df, hr.o, hr.f0, hr.f1, hr.t0, hr.t1, hr.l0, hr.l1, hr.r0, hr.r1, hr.r44, hr.sv, hr.dv, hr.o0, hr.o1, hr.o8, fun e => ?_, fun e => ?_, ?_, hr.bare, ?_⟩
    · rw [show ({ q with d := q.d.take n } : Pk).more = q.more from rfl, h.more] at e; simp at e
    · rcases e with e | e
      · rw [show ({ q with d := q.d.take n } : Pk).more = q.more from rfl, h.more] at e; simp at e
      · rw [show ({ q with d := q.d.take n } : Pk).off = q.off from rfl, h.off] at e; simp at e
    · have := hr.reach; show q.off + ((q.d.take n).length : Int) ≤ 65535; omega
    · have := hr.all; show S6.hofP q - 40 + (q.d.take n).length ≤ 65535; omega
  · rw [if_neg hv, right_iff] at hr
    have hr1 := hr.1
    refine (if_neg hv).trans ((right_iff _).2 ⟨?_, hr.2⟩)
    refine ⟨hr1.v, hr1.flow, hr1.frag, hr1.id, hr1.t0, hr1.t1, hr1.l0, hr1.l1, hr1.r0, hr1.r1, hr1.sv, hr1.sb, hr1.dv, hr1.db, hr1.o0, hr1.o1, hr1.o8, fun e => ?_, fun e => ?_, fun e => ?_, ?_, ?_⟩
    · rw [show ({ q with d := q.d.take n } : Pk).more = q.more from rfl, h.more] at e; simp at e
    · rw [show ({ q with d := q.d.take n } : Pk).more = q.more from rfl, h.more] at e; simp at e
    · rw [show ({ q with d := q.d.take n } : Pk).off = q.off from rfl, h.off] at e; simp at e
    · have := hr1.reach; show q.off + ((q.d.take n).length : Int) ≤ 65535; omega
    · have := hr1.all; show 20 + q.o.length + (q.d.take n).length ≤ 65535; omega

theorem pcs_each {p lat : Pk} {m : Int} (K : Nat) (hl : lat.o.length ≤ K) : ∀ (k : Nat) (f : Pk) (n : Nat), f.o.length ≤ K → ∀ x ∈ pcsP p m lat k f n, x.o.length ≤ K ∧ x.d.length ≤ p.d.length
  | 0, f, n, hf, x, hx => by simp [pcsP] at hx
  | k + 1, f, n, hf, x, hx => by
    rw [pcsP] at hx
    split at hx
    · rcases List.mem_cons.1 hx with rfl | hx
      · refine ⟨hf, ?_⟩
        show ((p.d.drop n).take _).length ≤ _
        rw [List.length_take, List.length_drop]; omega
      · exact pcs_each K hl k lat _ hl x hx
    · simp at hx
theorem pcs_len {p lat : Pk} {m : Int} : ∀ (k : Nat) (f : Pk) (n : Nat), (pcsP p m lat k f n).length ≤ k
  | 0, f, n => by simp [pcsP]
  | k + 1, f, n => by
    rw [pcsP]
    split
    · rw [List.length_cons]; have := pcs_len (p := p) (lat := lat) (m := m) k lat (n + shareP (p.d.length - n) (roomP f m) p.v); omega
    · simp
theorem cut_few (p : Pk) (m id : Int) : (cutP p m id).1.length ≤ p.d.length + 1 := by
  unfold cutP
  split
  · split
    · simp
    · split
      · simp
      · have := pcs_len (p := p) (lat := latP p id) (m := m) p.d.length (fstP p id) 0
        show (cutL p m id).length ≤ _
        unfold cutL; omega
  · simp
theorem cut_each {p : Pk} (h : Unc p) (hw : Wf p) (m id : Int) : ∀ x ∈ (cutP p m id).1, x.o.length ≤ 65535 ∧ x.d.length ≤ 65535 := by
  intro x hx
  have ha := h.all
  have ho : p.o.length ≤ 65535 := by
    by_cases hv : p.v = 6
    · have hr := h.r; unfold rgtP at hr; rw [if_pos hv, S6.right_iff] at hr; rw [hr.o]; simp
    · have := ha.2 hv; omega
  have hc : (carryP p.o).length ≤ 65535 := Nat.le_trans (carry_valid hw.o).2.1 ho
  unfold cutP at hx
  split at hx
  · split at hx
    · simp at hx; subst hx; exact ⟨ho, ha.1⟩
    · split at hx
      · simp at hx
      · have h2 : x ∈ pcsP p m (latP p id) p.d.length (fstP p id) 0 := hx
        have h1 := pcs_each (p := p) (m := m) (lat := latP p id) 65535 hc p.d.length (fstP p id) 0 (by rw [fst_o]; exact ho) x h2
        exact ⟨h1.1, by omega⟩
  · simp at hx
/-- A packet that goes on without DF is cut. -/
theorem cut_yes {p : Pk} {m : Int} (h : Unc p) (hm : mtuP m p.v = true) (hdf : p.df = false) (id : Int) : (cutP p m id).2 = 0 := by
  unfold cutP
  rw [(uncut_iff p).2 h, hm]
  simp only [Bool.and_self, if_true]
  split
  · rfl
  · rw [hdf]; rfl
theorem cut_some {p : Pk} {m : Int} (h : Unc p) (hw : Wf p) (hm : mtuP m p.v = true) (hdf : p.df = false) {id : Int} (h0 : 0 ≤ id) (h1 : id ≤ 4294967295) : isP p m (cutP p m id).1 = true ∧ (cutP p m id).1 ≠ [] ∧ ∀ x ∈ (cutP p m id).1, x.v = p.v := by
  unfold cutP
  rw [(uncut_iff p).2 h, hm]
  simp only [Bool.and_self, if_true]
  by_cases hf : fitsP p m = true
  · rw [if_pos hf]; exact ⟨is_alone h hm hf, by simp, by simp⟩
  · rw [if_neg hf, hdf]
    have hf' : fitsP p m = false := by simpa using hf
    obtain ⟨s, q, r, -, -, e, -⟩ := cut_two h hw h0 h1 hm hf'
    refine ⟨is_cut h hw h0 h1 hm hf' hdf, by show cutL p m id ≠ []; rw [e]; simp, ?_⟩
    intro x hx
    have key : ∀ (k : Nat) (f : Pk) (n : Nat), f.v = p.v → ∀ x ∈ pcsP p m (latP p id) k f n, x.v = p.v := by
      intro k
      induction k with
      | zero => intro f n hf x hx; simp [pcsP] at hx
      | succ k ih =>
        intro f n hf x hx
        rw [pcsP] at hx
        split at hx
        · rcases List.mem_cons.1 hx with rfl | hx
          · exact hf
          · exact ih _ _ (lat_v p id) x hx
        · simp at hx
    exact key _ _ _ (fst_v p id) x hx

/-! What lies apart. -/
def lotX (xs : List X) : Lot := xs.flatMap fun x => [(x.o, x.p.o), (x.d, x.p.d)]
theorem lotX_map : ∀ xs : List X, (lotX xs).map (·.1) = allL xs
  | [] => rfl
  | x :: r => by simp only [lotX, List.flatMap_cons, List.map_append] at *; have := lotX_map r; simp only [lotX] at this; rw [this]; simp [allL]
theorem lotX_len (xs : List X) : (lotX xs).length = 2 * xs.length := by
  have := congrArg List.length (lotX_map xs); rw [List.length_map, allL_len] at this; exact this
theorem lotX_mem {xs : List X} {r : Value × List Int} (h : r ∈ lotX xs) : ∃ x ∈ xs, r = (x.o, x.p.o) ∨ r = (x.d, x.p.d) := by
  obtain ⟨x, hx, hr⟩ := List.mem_flatMap.1 h
  exact ⟨x, hx, by simpa using hr⟩
theorem Cuts.lots {w : World} {B : Nat} {v : Value} {xs : List X} (h : Cuts w B v xs) : Lots w (lotX xs) := by
  refine ⟨fun r hr => ?_, ?_⟩
  · obtain ⟨x, hx, rfl | rfl⟩ := lotX_mem hr
    · exact (h.each x hx).2.o
    · exact (h.each x hx).2.d
  · unfold lotX
    rw [List.pairwise_flatMap]
    refine ⟨fun x hx => by simpa using (h.each x hx).2.ap, h.apart.imp ?_⟩
    intro x y hxy r hr s hs k hk
    simp only [List.mem_cons, List.not_mem_nil, or_false] at hr hs
    have h1 : x.o.ownBlock = some k ∨ x.d.ownBlock = some k := by
      rcases hr with rfl | rfl
      · exact .inl hk
      · exact .inr hk
    rcases hs with rfl | rfl
    · exact (hxy k h1).1
    · exact (hxy k h1).2
theorem Cuts.blocks {w : World} {B : Nat} {v : Value} {xs : List X} (h : Cuts w B v xs) : ∀ r ∈ lotX xs, ∀ k, r.1.ownBlock = some k → B ≤ k ∧ k < w.heap.size ∧ v.ownBlock ≠ some k := fun r hr k hk => by
  obtain ⟨x, hx, rfl | rfl⟩ := lotX_mem hr
  · exact ⟨((h.each x hx).2.lto k (.inl hk)).2, ((h.each x hx).2.lto k (.inl hk)).1, h.far x hx k (.inl hk)⟩
  · exact ⟨((h.each x hx).2.lto k (.inr hk)).2, ((h.each x hx).2.lto k (.inr hk)).1, h.far x hx k (.inr hk)⟩
theorem Lots.join {w : World} {P Q : Lot} (B : Nat) (h : Lots w P) (k : Lots w Q) (hp : ∀ r ∈ P, ∀ k, r.1.ownBlock = some k → k < B) (hq : ∀ r ∈ Q, ∀ k, r.1.ownBlock = some k → B ≤ k) : Lots w (P ++ Q) := by
  refine ⟨fun r hr => ?_, List.pairwise_append.2 ⟨h.ap, k.ap, fun r hr s hs j hj he => ?_⟩⟩
  · rcases List.mem_append.1 hr with h1 | h1
    · exact h.con r h1
    · exact k.con r h1
  · have h1 := hp r hr j hj
    have h2 := hq s hs j he
    omega
theorem mem_bl {P : Lot} {k : Nat} (h : k ∈ bl P) : ∃ r ∈ P, r.1.ownBlock = some k := by
  obtain ⟨r, hr, he⟩ := List.mem_filterMap.1 h
  exact ⟨r, hr, he⟩
theorem Still.away {S : List Nat} {w w' : World} {v : Value} {l : List Tk} (h : Still w v l) (hw : Away S w w') (hv : ∀ k, v.ownBlock = some k → k ∉ S) (hS : ∀ t ∈ l, (∀ k, t.b.ownBlock = some k → k ∉ S) ∧ ∀ k, t.g.ownBlock = some k → k ∉ S) : Still w' v l := by
  refine ⟨?_, h.2.1, fun t ht => ⟨(h.2.2 t ht).1.away hw (hS t ht).1, (h.2.2 t ht).2.away hw (hS t ht).2⟩⟩
  obtain ⟨h1, h2⟩ := h.1
  refine ⟨h1, ?_⟩
  rcases h2 with h2 | ⟨g, cap, cur, rfl, hg, hh, r⟩
  · exact .inl h2
  · exact .inr ⟨g, cap, cur, rfl, hg, hw.keep (hv g rfl) hh, r⟩

/-! A list whose packets' versions are written over. -/
def v77 (x : X) : X := { x with p := { x.p with v := 77 } }
theorem flatP_set77 : ∀ (xs : List X) (i : Nat) (x : X), (∀ x ∈ xs, Ad x.p) → xs[i]? = some x → (xs.flatMap X.cells).set (i * 46) (.int .i64 77) = (xs.set i (v77 x)).flatMap X.cells
  | [], i, x, _, h => by simp at h
  | y :: r, 0, x, hA, h => by
    simp at h; subst h
    rw [List.flatMap_cons, Nat.zero_mul, List.set_cons_zero, List.flatMap_cons]
    rfl
  | y :: r, i + 1, x, hA, h => by
    have := flatP_set77 r i x (fun z hz => hA z (by simp [hz])) (by simpa using h)
    have hl : y.cells.length = 46 := listP_len (hA y (by simp)) _ _
    rw [List.flatMap_cons, List.set_cons_succ, List.flatMap_cons, List.set_append_right _ _ (by omega), hl, show (i + 1) * 46 - 46 = i * 46 from by omega, this]
theorem LstP.set77 {w : World} {g n cap : Nat} {xs : List X} (h : LstP w (.slice (some ⟨g, 0, none⟩) n cap) xs) (hn : xs.length = n) (hA : ∀ x ∈ xs, Ad x.p) {i : Nat} {x : X} (hx : xs[i]? = some x) :
    LstP (w.setCell ⟨g, i * 46, none⟩ (.int .i64 77)) (.slice (some ⟨g, 0, none⟩) n cap) (xs.set i (v77 x)) := by
  subst hn
  have := (World.ownsRow.stored h (i * 46) (.int .i64 77)).1
  unfold LstP
  rw [List.length_set, ← flatP_set77 xs i x hA hx]
  exact this

/-! Appends. -/
theorem wpList_appLW {w : World} {ops : Array Oper} {rest : List Oper} {o : Oper} {a : Act} {Q : Exit → Act → World → Prop} (hgd : o.guard = none) (s x : Operand)
    (ho : o.op = .call { callee := .builtin .append, args := #[s, x], argTypes := #[48, 48] }) (v u : Value) (l m : List Value) (hs : a.eval s = v) (hx : a.eval x = u) (hown : OwnsG 26 w v l) (hm : OwnsG 26 w u m) (h1 : ∀ z ∈ m, z.oneCell' = true) (hlen : l.length + m.length ≤ 10000000)
    (h : ∀ v' w', OwnsG 26 w' v' (l ++ m) → Went w w' v v' → wpList Tryd.prog ops Q rest (a.put o.dst v') w') : wpList Tryd.prog ops Q (o :: rest) a w := by
  obtain ⟨i0, hi, hz⟩ := Option.map_eq_some_iff.1 info22
  simp only [Prod.mk.injEq] at hz
  rcases hm.2 with ⟨rfl, h0⟩ | ⟨g, cap, cur, rfl, hg, hh, hnc, hcm, hcs, htake⟩
  · have : m = [] := List.eq_nil_of_length_eq_zero h0
    subst this
    refine wpList_append_own_none hgd s x 48 ho 0 26 i0 1 Tryd.underlying48 hi v _ _ hs hown hx (h v w (by simpa using hown) (.inl ⟨rfl, World.grownBy.refl _ _⟩))
  · obtain ⟨v', w', hrun, r1, r2⟩ := run_appNW 48 o.type 26 i0 _ 1 24 Tryd.underlying48 hi hz.1 hz.2.1 hz.2.2 rfl (by decide) w v l.length l hown ⟨g, 0, none⟩ m.length cap m (by omega) (fun j z hj => by
      have := (OwnsG.cells hm j (lt_of_get hj)).1
      rw [add_plain, Nat.zero_add, this, hj]) h1 (by unfold maxLen; omega) (by omega)
    refine wpList_plain hgd fun _ hK => ?_
    unfold Oper.wp
    simp [execOp, ho, resolve, invoke, builtin, hs, hx, hrun, Result.andThen]
    refine hK _ _ (h v' w' ?_ r2)
    unfold OwnsG
    rw [List.length_append]
    exact r1
theorem wpList_appPW {ops : Array Oper} {rest : List Oper} {o : Oper} {a : Act} {w : World} {Q : Exit → Act → World → Prop} (hgd : o.guard = none) (s t : Operand)
    (ho : o.op = .call { callee := .builtin .append, args := #[s, t], argTypes := #[32, 32] }) (v : Value) (xs : List X) (hs : a.eval s = v) (hown : LstP w v xs) (g c : Nat) (ht : a.eval t = .slice (some ⟨g, 0, none⟩) 1 c) (p : Pk) (ov dv : Value) (hb : BoxP w g p ov dv) (ha : Ad p) (h1 : ov.oneCell' = true) (h2 : dv.oneCell' = true) (hk : xs.length < 925904528640)
    (h : ∀ v' w', LstP w' v' (xs ++ [⟨p, ov, dv⟩]) → Went w w' v v' → wpList Tryd.prog ops Q rest (a.put o.dst v') w') : wpList Tryd.prog ops Q (o :: rest) a w := by
  obtain ⟨i0, hi, hz0, hz1, hz2⟩ := info_parts info28b
  obtain ⟨v', w', hrun, r2, r3⟩ := run_appNW 32 o.type 28 i0 _ 46 152 Tryd.underlying32 hi hz0 hz1 hz2 (csP_size ⟨rfl, rfl⟩ _ _) (by decide) w v xs.length (xs.flatMap X.cells) hown ⟨g, 0, none⟩ 1 c (listP p ov dv) (by rw [listP_len ha]) (fun j u hj => by
    rw [add_plain, Nat.zero_add, cell_of_block hb]; simpa [csP] using hj) (fun u hu => listP_one p ov dv h1 h2 u hu) (by unfold maxLen; omega) (by omega)
  refine wpList_plain hgd fun _ hK => ?_
  unfold Oper.wp
  simp [execOp, ho, resolve, invoke, builtin, hs, ht, hrun, Result.andThen]
  refine hK _ _ (h v' w' ?_ r3)
  unfold LstP
  rw [flatP_snoc, List.length_append]
  exact r2
def p78 : Pk := { zeroPk with v := 78 }
theorem p78_wf : Wf p78 := by
  have := zero_wf
  exact ⟨⟨by decide, by decide⟩, this.tos, this.flow, this.sv, this.sl, this.sb, this.dv, this.dl, this.db, this.proto, this.ttl, this.id0, this.id1, this.off, this.o, this.ol, this.d, this.dn⟩
theorem run_p78 (w : World) : (Instr.build 28 #[(0, .int .i64 78)]).run Tryd.prog w = .ok (.agg (csP p78 (.slice none 0 0) (.slice none 0 0))) w := by kernel_rfl
def x78 : X := ⟨p78, .slice none 0 0, .slice none 0 0⟩
/-- A packet, its variable and its lists, which lie between A and B. -/
structure QV (A B : Nat) (w : World) (g : Nat) (q : Pk) (ov dv : Value) : Prop where
  box : BoxP w g q ov dv
  pkt : Pkt w q ov dv
  lo : A ≤ g
  hi : g < B
  ls : ∀ k, ov.ownBlock = some k ∨ dv.ownBlock = some k → A ≤ k ∧ k < B ∧ k ≠ g
theorem QV.away {S : List Nat} {A B : Nat} {w w' : World} {g : Nat} {q : Pk} {ov dv : Value} (h : QV A B w g q ov dv) (hw : Away S w w') (hS : ∀ k ∈ S, k < A ∨ B ≤ k) : QV A B w' g q ov dv := by
  have h1 := h.lo; have h2 := h.hi
  exact ⟨h.box.away hw (fun hc => by have := hS _ hc; omega), ⟨h.pkt.wf, h.pkt.o.away hw (fun _ k hk hc => by have := hS _ hc; have := h.ls k (.inl hk); omega), h.pkt.d.away hw (fun _ k hk hc => by have := hS _ hc; have := h.ls k (.inr hk); omega)⟩, h.lo, h.hi, h.ls⟩
theorem QV.on {A B : Nat} {w w' : World} {g : Nat} {q : Pk} {ov dv : Value} (h : QV A B w g q ov dv) (hw : Away [] w w') : QV A B w' g q ov dv := h.away hw (by simp)
/-- Its own variable written. -/
theorem QV.put {A B : Nat} {w w' : World} {g : Nat} {q q' : Pk} {ov dv : Value} (h : QV A B w g q ov dv) (hb : BoxP w' g q' ov dv) (hw : Away [g] w w') (hq : Wf q') (ho : q'.o = q.o) (hd : q'.d = q.d) : QV A B w' g q' ov dv :=
  ⟨hb, ⟨hq, by rw [ho]; exact h.pkt.o.away hw (fun _ k hk hc => by simp at hc; have := h.ls k (.inl hk); omega), by rw [hd]; exact h.pkt.d.away hw (fun _ k hk hc => by simp at hc; have := h.ls k (.inr hk); omega)⟩, h.lo, h.hi, h.ls⟩
theorem QV.putd {A B : Nat} {w w' : World} {g : Nat} {q q' : Pk} {ov : Value} {a : Option Addr} {n m c : Nat} (h : QV A B w g q ov (.slice a n c)) (hb : BoxP w' g q' ov (.slice a m c)) (hw : Away [g] w w') (hq : Wf q') (ho : q'.o = q.o) (hd : q'.d = q.d.take m) (hm : m ≤ n) : QV A B w' g q' ov (.slice a m c) := by
  have h1 := h.pkt.d.away hw (fun _ k hk hc => by simp at hc; have := h.ls k (.inr hk); omega)
  have h2 := h1.of
  refine ⟨hb, ⟨hq, by rw [ho]; exact h.pkt.o.away hw (fun _ k hk hc => by simp at hc; have := h.ls k (.inl hk); omega), ?_⟩, h.lo, h.hi, fun k hk => h.ls k (by cases a <;> simpa [Value.ownBlock] using hk)⟩
  rw [hd]
  exact ⟨a, c, by rw [List.length_take, Nat.min_eq_left (by omega)], by rw [List.length_take]; omega, h2.2.2.1, h2.2.2.2.head m⟩
theorem Cuts.shape {w : World} {B : Nat} {v : Value} {xs : List X} (h : Cuts w B v xs) (hx : xs ≠ []) : ∃ g cap, v = .slice (some ⟨g, 0, none⟩) xs.length cap ∧ B ≤ g ∧ g < w.heap.size ∧ xs.length ≤ cap := by
  rcases h.lst.2 with ⟨rfl, h0⟩ | ⟨g, cap, cur, rfl, hg, hh, hnc, r⟩
  · exact absurd (List.eq_nil_of_length_eq_zero h0) hx
  · exact ⟨g, cap, rfl, h.new g rfl, h.lst.lt g rfl, hnc⟩
theorem Cuts.pks' {w : World} {B : Nat} {a : Option Addr} {n c : Nat} {xs : List X} (h : Cuts w B (.slice a n c) xs) (hl : xs.length ≤ 925904528640) : Pks w a xs := by
  obtain ⟨a', c', e, -, -, hp, -⟩ := h.pks hl
  simp only [Value.slice.injEq] at e
  rw [e.1]; exact hp
theorem Cuts.lists_one {w : World} {B : Nat} {v : Value} {xs : List X} (h : Cuts w B v xs) : ∀ z ∈ allL xs, z.oneCell' = true := fun z hz => by
  obtain ⟨x, hx, hr⟩ := List.mem_flatMap.1 hz
  simp only [List.mem_cons, List.not_mem_nil, or_false] at hr
  rcases hr with rfl | rfl
  · exact (h.each x hx).2.o.one
  · exact (h.each x hx).2.d.one
theorem Cuts.lists_bytes {w : World} {B : Nat} {v : Value} {xs : List X} {p : Pk} {m id : Int} (h : Cuts w B v xs) (hu : Unc p) (hw : Wf p) (hm : xs.map X.p = (cutP p m id).1) : ∀ r ∈ lotX xs, Bytes r.2 ∧ r.2.length ≤ 65535 := fun r hr => by
  obtain ⟨x, hx, hc⟩ := lotX_mem hr
  have h1 := cut_each hu hw m id x.p (by rw [← hm]; exact List.mem_map_of_mem hx)
  rcases hc with rfl | rfl
  · exact ⟨(h.each x hx).1.o, h1.1⟩
  · exact ⟨(h.each x hx).1.d, h1.2⟩
/-- The list's versions are 77 as far as k. -/
def mk77 (xs : List X) (k : Nat) : List X := (xs.take k).map v77 ++ xs.drop k
theorem mk77_len (xs : List X) (k : Nat) : (mk77 xs k).length = xs.length := by simp [mk77]; omega
theorem mk77_get {xs : List X} {k : Nat} {x : X} (h : xs[k]? = some x) : (mk77 xs k)[k]? = some x := by
  have hk := lt_of_get h
  unfold mk77
  rw [List.getElem?_append_right (by simp; omega)]
  simp only [List.length_map, List.length_take]
  rw [show k - min k xs.length = 0 from by omega, List.getElem?_drop, Nat.add_zero, h]
theorem mk77_set {xs : List X} {k : Nat} {x : X} (h : xs[k]? = some x) : (mk77 xs k).set k (v77 x) = mk77 xs (k + 1) := by
  have hk := lt_of_get h
  have hx : xs[k] = x := by rw [List.getElem?_eq_getElem hk] at h; simpa using h
  unfold mk77
  rw [List.set_append_right _ _ (by simp; omega)]
  simp only [List.length_map, List.length_take]
  rw [show k - min k xs.length = 0 from by omega, List.drop_eq_getElem_cons hk, List.set_cons_zero, List.take_succ_eq_append_getElem hk, hx]
  simp
theorem mk77_ad {xs : List X} (h : ∀ x ∈ xs, Ad x.p) (k : Nat) : ∀ x ∈ mk77 xs k, Ad x.p := fun x hx => by
  rcases List.mem_append.1 hx with h1 | h1
  · obtain ⟨y, hy, rfl⟩ := List.mem_map.1 h1
    exact h y (List.mem_of_mem_take hy)
  · exact h x (List.mem_of_mem_drop h1)
/-- A version of the list. -/
theorem LstP.ver {w : World} {g n cap : Nat} {xs : List X} (h : LstP w (.slice (some ⟨g, 0, none⟩) n cap) xs) (hA : ∀ x ∈ xs, Ad x.p) {i : Nat} {x : X} (hx : xs[i]? = some x) : w.cell? ⟨g, i * 46, none⟩ = some (.int .i64 x.p.v) ∧ w.frozen? ⟨g, i * 46, none⟩ = false := by
  have hn : n = xs.length := by
    rcases h.2 with ⟨h2, _⟩ | ⟨g', cap', cur, h2, _⟩
    · simp at h2
    · simp only [Value.slice.injEq] at h2; exact h2.2.1
  subst hn
  have hl := lt_of_get hx
  refine ⟨?_, World.ownsRow.frozenAt h _⟩
  rw [World.ownsRow.cellAt h (i * 46) (by omega)]
  exact flatP_get xs i x hA hx 0 _ rfl
theorem mk77_all {xs : List X} {N i : Nat} (hn : xs.length = N) (hi : i < N) : ∃ x, (mk77 xs N)[i]? = some x ∧ x.p.v = 77 := by
  subst hn
  refine ⟨v77 xs[i], ?_, rfl⟩
  unfold mk77
  rw [List.take_of_length_le (Nat.le_refl _), List.getElem?_append_left (by simpa using hi), List.getElem?_map, List.getElem?_eq_getElem hi]; rfl
theorem more77 {y2 y3 : World} {vm v' : Value} {L : List X} {ga N : Nat} (hc : ∀ i, i < N → y2.cell? ⟨ga, i * 46, none⟩ = some (.int .i64 77)) (hlt : ga < y2.heap.size) (hl : LstP y3 v' L) (hL : ∀ i, i < N → ∃ x, L[i]? = some x ∧ x.p.v = 77) (hA : ∀ x ∈ L, Ad x.p) (hw : Went y2 y3 vm v') : ∀ i, i < N → y3.cell? ⟨ga, i * 46, none⟩ = some (.int .i64 77) := fun i hi => by
  rcases hw with ⟨h1, h2⟩ | ⟨h1, h2⟩
  · by_cases hb : vm.ownBlock = some ga
    · rw [hb] at h1
      obtain ⟨x, hx, hv⟩ := hL i hi
      rcases hl.2 with ⟨h3, -⟩ | ⟨g, cap, cur, h3, -⟩
      · rw [h3] at h1; simp [Value.ownBlock] at h1
      · rw [h3] at h1 hl
        simp [Value.ownBlock] at h1
        subst h1
        rw [(LstP.ver hl hA hx).1, hv]
    · exact ((Away.refl vm.ownBlock.toList y2).grown h2 (fun k hk => .inl (by simp [hk]))).cell (by simpa using hb) (hc i hi)
  · exact ((Away.refl [] y2).grown h2 (fun k hk => by simp at hk)).cell (by simp) (hc i hi)
def Cl (w : World) (g i : Nat) (n : Int) : Prop := w.cell? ⟨g, i, none⟩ = some (.int .i64 n)
theorem Cl.on {w w' : World} {g i : Nat} {n : Int} (h : Cl w g i n) (hw : Away [] w w') : Cl w' g i n := hw.cell (by simp) h
def Cl7 (w : World) (g N : Nat) : Prop := ∀ i, i < N → w.cell? ⟨g, i * 46, none⟩ = some (.int .i64 77)
theorem Cl7.on {w w' : World} {g N : Nat} (h : Cl7 w g N) (hw : Away [] w w') : Cl7 w' g N := fun i hi => hw.cell (by simp) (h i hi)
theorem Still.on {w w' : World} {v : Value} {l : List Tk} (h : Still w v l) (hw : Away [] w w') : Still w' v l := h.away hw (by simp) (by simp)
end Go.Proofs.YtbnnfbfmomafnaaDoor
