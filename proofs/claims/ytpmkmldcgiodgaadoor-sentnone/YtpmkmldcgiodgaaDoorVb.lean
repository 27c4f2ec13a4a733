/-
  A variable that holds a packet of its own.
-/
import Derived.Test.YtpmkmldcgiodgaaDoorKit
namespace Go.Proofs.YtpmkmldcgiodgaaDoor
open Go.ChangeShapes Go.WideShapes Go.ChangeAt Go.RowKit
open S6 (wp_region_cls quiet_val quiet_call quiet_ld ld3 ld4 ld5 ld25 ld26 load28_run load24m_run)
set_option linter.unusedVariables false
set_option linter.unusedSimpArgs false
set_option maxRecDepth 100000

open W
/-- A variable at g, made since W, with a packet whose lists are its own. -/
structure Va (W w : World) (g : Nat) (X : Pk) (ov dv : Value) : Prop where
  aw : Away [] W w
  box : BoxP w g X ov dv
  wf : Wf X
  o : Owns w ov X.o
  d : Owns w dv X.d
  ng : W.heap.size ≤ g
  no : ∀ k, ov.ownBlock = some k → W.heap.size ≤ k ∧ k ≠ g
  nd : ∀ k, dv.ownBlock = some k → W.heap.size ≤ k ∧ k ≠ g
  ap : ∀ k, ov.ownBlock = some k → dv.ownBlock ≠ some k
section
variable {W w w' : World} {g : Nat} {X X' : Pk} {ov dv : Value}
theorem Va.pkt (h : Va W w g X ov dv) : Pkt w X ov dv := ⟨h.wf, h.o.sl h.wf.o h.wf.ol, h.d.sl h.wf.d h.wf.dn⟩
theorem Va.on (h : Va W w g X ov dv) (hw : Away [] w w') : Va W w' g X ov dv := ⟨h.aw.trans hw, h.box.on hw, h.wf, h.o.away hw (by simp), h.d.away hw (by simp), h.ng, h.no, h.nd, h.ap⟩
theorem Va.put (h : Va W w g X ov dv) (i : Nat) (x : Value) (hx : (csP X ov dv).setIfInBounds i x = csP X' ov dv) (hq : Wf X') (ho : X'.o = X.o) (hd : X'.d = X.d) : Va W (w.setCell ⟨g, i, none⟩ x) g X' ov dv :=
  ⟨h.aw.setCell (.inr h.ng) _, h.box.put i x hx, hq, by rw [ho]; exact h.o.away (away_put (g := g) i x) (fun k hk => by simpa using (h.no k hk).2), by rw [hd]; exact h.d.away (away_put (g := g) i x) (fun k hk => by simpa using (h.nd k hk).2), h.ng, h.no, h.nd, h.ap⟩
theorem Va.opts (h : Va W w g X ov dv) (v : Value) (l : List Int) (hv : Owns w v l) (hn : ∀ k, v.ownBlock = some k → W.heap.size ≤ k ∧ k ≠ g ∧ dv.ownBlock ≠ some k) (hq : Wf { X with o := l }) : Va W (w.setCell ⟨g, 44, none⟩ v) g { X with o := l } v dv :=
  ⟨h.aw.setCell (.inr h.ng) _, h.box.put 44 v ((csP_set h.wf.ad _ _).2.2.2.2.2.2.2.2.2.2.2.2.1 l v), hq, hv.away (away_put (g := g) 44 v) (fun k hk => by simpa using (hn k hk).2.1), h.d.away (away_put (g := g) 44 v) (fun k hk => by simpa using (h.nd k hk).2), h.ng, fun k hk => ⟨(hn k hk).1, (hn k hk).2.1⟩, h.nd, fun k hk => (hn k hk).2.2⟩
theorem Va.data (h : Va W w g X ov dv) (v : Value) (l : List Int) (hv : Owns w v l) (hn : ∀ k, v.ownBlock = some k → W.heap.size ≤ k ∧ k ≠ g ∧ ov.ownBlock ≠ some k) (hq : Wf { X with d := l }) : Va W (w.setCell ⟨g, 45, none⟩ v) g { X with d := l } ov v :=
  ⟨h.aw.setCell (.inr h.ng) _, h.box.put 45 v ((csP_set h.wf.ad _ _).2.2.2.2.2.2.2.2.2.2.2.2.2 l v), hq, h.o.away (away_put (g := g) 45 v) (fun k hk => by simpa using (h.no k hk).2), hv.away (away_put (g := g) 45 v) (fun k hk => by simpa using (hn k hk).2.1), h.ng, h.no, fun k hk => ⟨(hn k hk).1, (hn k hk).2.1⟩, fun k hk e => (hn k e).2.2 hk⟩
theorem Va.new {w1 w2 : World} (hm : Mine w W.heap.size X ov dv) (hX : Wf X) (h0 : Away [] W w) (hg : w.heap.size ≤ g) (h1 : Away [] w w1) (hb : BoxP w2 g X ov dv) (h2 : Away [g] w1 w2) : Va W w2 g X ov dv := by
  have s0 := h0.size
  have lo : ∀ k, ov.ownBlock = some k → k ≠ g := fun k hk => by have := hm.o.lt k hk; omega
  have ld : ∀ k, dv.ownBlock = some k → k ≠ g := fun k hk => by have := hm.d.lt k hk; omega
  exact ⟨(h0.trans h1).next h2 (fun x hx => .inr (by simp at hx; omega)), hb, hX, (hm.o.away h1 (by simp)).away h2 (fun k hk => by simpa using lo k hk), (hm.d.away h1 (by simp)).away h2 (fun k hk => by simpa using ld k hk), by omega, fun k hk => ⟨hm.no k hk, lo k hk⟩, fun k hk => ⟨hm.nd k hk, ld k hk⟩, hm.ap⟩
theorem Mine.one (h : Mine w g X ov dv) : ov.oneCell' = true ∧ dv.oneCell' = true := by
  obtain ⟨a, n, c, e⟩ := h.o.shp
  obtain ⟨a', n', c', e'⟩ := h.d.shp
  rw [e, e']; exact ⟨rfl, rfl⟩
end
theorem Owns.shape {w : World} {v : Value} {l : List Int} (h : Owns w v l) : ∃ a cap, v = .slice a l.length cap := by
  rcases h.2 with ⟨rfl, h2⟩ | ⟨g, cap, cur, rfl, -⟩
  · exact ⟨none, 0, by rw [show l.length = 0 from by simpa using h2]⟩
  · exact ⟨some ⟨g, 0, none⟩, cap, by simp⟩
theorem Owns.shape' {w : World} {v : Value} {l : List Int} (h : Owns w v l) (hl : l ≠ []) : ∃ b cap, v = .slice (some ⟨b, 0, none⟩) l.length cap := by
  rcases h.2 with ⟨rfl, h2⟩ | ⟨g, cap, cur, rfl, -⟩
  · exact absurd (List.eq_nil_of_length_eq_zero (by simpa using h2)) hl
  · exact ⟨g, cap, by simp⟩
theorem Owns.head {w : World} {b n cap : Nat} {l : List Int} (h : Owns w (.slice (some ⟨b, 0, none⟩) n cap) l) (k : Nat) (hk : k ≤ l.length) : Owns w (.slice (some ⟨b, 0, none⟩) k cap) (l.take k) := by
  rcases h.2 with ⟨h2, -⟩ | ⟨g, cap', cur, he, hg, hh, hn, hc, hs, ht⟩
  · simp at h2
  · simp only [Value.slice.injEq, Option.some.injEq, Addr.mk.injEq] at he
    obtain ⟨⟨rfl, -, -⟩, -, rfl⟩ := he
    have hlen : ((l.take k).map (Value.int .u8)).length = k := by rw [List.length_map, List.length_take]; omega
    refine ⟨by rw [hlen]; simp, .inr ⟨b, cap, cur, by rw [hlen], hg, hh, by rw [hlen]; simp at hn; omega, hc, hs, ?_⟩⟩
    rw [hlen]
    simp only [List.length_map, Nat.mul_one] at ht ⊢
    rw [List.map_take, ← ht, List.take_take, Nat.min_eq_left hk]
theorem head_zero {p : Pk} (h4 : ¬ rightP p = true) (h6 : ¬ S6.rightP p = true) : lenQ p = 0 := by
  unfold lenQ headP S6.headP
  rw [if_neg h4, if_neg h6]; simp
theorem ok_len {p : Pk} {b : Bool} (h : lenQ p = 0) : okN p b = false := by unfold okN; simp [h]
theorem len_more {p : Pk} (h : p.more = true) : lenQ p = 0 := by unfold lenQ; rw [if_pos (.inr (.inr (.inl h)))]
theorem len_frag {p : Pk} (h : p.frag = true) : lenQ p = 0 := by unfold lenQ; rw [if_pos (.inr (.inr (.inr h)))]
theorem len_off {p : Pk} (h : p.off ≠ 0) : lenQ p = 0 := by unfold lenQ; rw [if_pos (.inr (.inl h))]
theorem len_ttl {p : Pk} (h : p.ttl = 256) : lenQ p = 0 := head_zero (fun e => by have := ((right_iff p).1 e).1.l1; omega) (fun e => by have := ((S6.right_iff p).1 e).l1; omega)
theorem len_sv {p : Pk} (h : p.sv = 0) : lenQ p = 0 := head_zero (fun e => by have := ((right_iff p).1 e).1.sv; omega) (fun e => by have := ((S6.right_iff p).1 e).sv; omega)
theorem len_v {p : Pk} (h : p.v = 5) : lenQ p = 0 := head_zero (fun e => by have := ((right_iff p).1 e).1.v; omega) (fun e => by have := ((S6.right_iff p).1 e).v; omega)
theorem ex_no : okN (mendP exP) true = false := by kernel_rfl
theorem mend_len {p : Pk} (h : Wf p) : lenQ (mendP p) = longQ (mendP p) ∧ (mendP p).off = 0 ∧ (mendP p).more = false ∧ (mendP p).frag = false ∧ ((mendP p).v = 4 ∨ (mendP p).v = 6) ∧ lenQ (mendP p) ≠ 0 := by
  cases hs : sixB p with
  | true =>
    have h1 := mend_right6 h hs
    have h2 : rightP (mendP p) = false := by
      rw [Bool.eq_false_iff]; intro e
      have h3 := ((right_iff _).1 e).1.v
      rw [mend6 hs] at h3
      simp at h3
    have e1 : (mendP p).v = 6 := by rw [mend6 hs]
    have e2 : (mendP p).off = 0 := by rw [mend6 hs]
    have e3 : (mendP p).more = false := by rw [mend6 hs]
    have e4 : (mendP p).frag = false := by rw [mend6 hs]
    have hh : headP (mendP p) = 0 := by unfold headP; rw [if_neg (by rw [h2]; simp)]
    have h6 : S6.headP (mendP p) = 40 := by unfold S6.headP S6.hofP; rw [if_pos h1, e4]; rfl
    have e5 : lenQ (mendP p) = 40 + (mendP p).d.length := by
      unfold lenQ
      rw [hh, h6, if_neg (by simp [e2, e3, e4])]
      omega
    refine ⟨by rw [e5, longQ, if_neg (by rw [e1]; decide)], e2, e3, e4, .inr e1, by rw [e5]; omega⟩
  | false =>
    have h1 := mend_right4 h hs
    have h2 : S6.rightP (mendP p) = false := by
      rw [Bool.eq_false_iff]; intro e
      have h3 := ((S6.right_iff _).1 e).v
      rw [mend4 hs] at h3
      simp at h3
    have e1 : (mendP p).v = 4 := by rw [mend4 hs]
    have e2 : (mendP p).off = 0 := by rw [mend4 hs]
    have e3 : (mendP p).more = false := by rw [mend4 hs]
    have e4 : (mendP p).frag = false := by rw [mend4 hs]
    have e6 : (mendP p).o = [] := by rw [mend4 hs]
    have hh : headP (mendP p) = 20 := by unfold headP; rw [if_pos h1, e6]; rfl
    have h6 : S6.headP (mendP p) = 0 := by unfold S6.headP; rw [if_neg (by rw [h2]; simp)]
    have e5 : lenQ (mendP p) = 20 + (mendP p).d.length := by
      unfold lenQ
      rw [hh, h6, if_neg (by simp [e2, e3, e4])]
      omega
    refine ⟨by rw [e5, longQ, if_pos e1], e2, e3, e4, .inl e1, by rw [e5]; omega⟩
theorem mend_ok {p : Pk} (h : Wf p) : okN (mendP p) false = true := by
  unfold okN; simp [(mend_len h).2.2.2.2.2]
theorem and7 (n : Int) : 0 ≤ bits .and .i64 n 7 ∧ bits .and .i64 n 7 ≤ 7 := by
  have h : (BitVec.ofInt 64 7).toNat = 7 := by decide
  have key : (BitVec.ofInt 64 n &&& BitVec.ofInt 64 7).toNat ≤ 7 := by rw [BitVec.toNat_and, h]; exact Nat.and_le_right
  have e : bits .and .i64 n 7 = IntKind.i64.wrap ((BitVec.ofInt 64 n &&& BitVec.ofInt 64 7).toNat : Nat) := rfl
  rw [e, IntKind.wrap_i64]
  generalize (BitVec.ofInt 64 n &&& BitVec.ofInt 64 7).toNat = m at *
  omega
section
variable {Q : Pk}
theorem wf_more (h : Wf Q) (b : Bool) : Wf { Q with more := b } := ⟨h.v, h.tos, h.flow, h.sv, h.sl, h.sb, h.dv, h.dl, h.db, h.proto, h.ttl, h.id0, h.id1, h.off, h.o, h.ol, h.d, h.dn⟩
theorem wf_frag (h : Wf Q) (b : Bool) : Wf { Q with frag := b } := ⟨h.v, h.tos, h.flow, h.sv, h.sl, h.sb, h.dv, h.dl, h.db, h.proto, h.ttl, h.id0, h.id1, h.off, h.o, h.ol, h.d, h.dn⟩
theorem wf_off (h : Wf Q) {n : Int} (hn : i64ok n) : Wf { Q with off := n } := ⟨h.v, h.tos, h.flow, h.sv, h.sl, h.sb, h.dv, h.dl, h.db, h.proto, h.ttl, h.id0, h.id1, hn, h.o, h.ol, h.d, h.dn⟩
theorem wf_ttl (h : Wf Q) {n : Int} (hn : i64ok n) : Wf { Q with ttl := n } := ⟨h.v, h.tos, h.flow, h.sv, h.sl, h.sb, h.dv, h.dl, h.db, h.proto, hn, h.id0, h.id1, h.off, h.o, h.ol, h.d, h.dn⟩
theorem wf_sv (h : Wf Q) {n : Int} (hn : i64ok n) : Wf { Q with sv := n } := ⟨h.v, h.tos, h.flow, hn, h.sl, h.sb, h.dv, h.dl, h.db, h.proto, h.ttl, h.id0, h.id1, h.off, h.o, h.ol, h.d, h.dn⟩
theorem wf_v (h : Wf Q) {n : Int} (hn : i64ok n) : Wf { Q with v := n } := ⟨hn, h.tos, h.flow, h.sv, h.sl, h.sb, h.dv, h.dl, h.db, h.proto, h.ttl, h.id0, h.id1, h.off, h.o, h.ol, h.d, h.dn⟩
theorem wf_d (h : Wf Q) {l : List Int} (hb : Bytes l) (hl : l.length ≤ 140737488355328) : Wf { Q with d := l } := ⟨h.v, h.tos, h.flow, h.sv, h.sl, h.sb, h.dv, h.dl, h.db, h.proto, h.ttl, h.id0, h.id1, h.off, h.o, h.ol, hb, hl⟩
end
theorem and3 (n : Int) : 0 ≤ bits .and .i64 n 3 ∧ bits .and .i64 n 3 ≤ 3 := by
  have h : (BitVec.ofInt 64 3).toNat = 3 := by decide
  have key : (BitVec.ofInt 64 n &&& BitVec.ofInt 64 3).toNat ≤ 3 := by rw [BitVec.toNat_and, h]; exact Nat.and_le_right
  have e : bits .and .i64 n 3 = IntKind.i64.wrap ((BitVec.ofInt 64 n &&& BitVec.ofInt 64 3).toNat : Nat) := rfl
  rw [e, IntKind.wrap_i64]
  generalize (BitVec.ofInt 64 n &&& BitVec.ofInt 64 3).toNat = m at *
  omega
theorem and127 (n : Int) : 0 ≤ bits .and .i64 n 127 ∧ bits .and .i64 n 127 ≤ 127 := by
  have h : (BitVec.ofInt 64 127).toNat = 127 := by decide
  have key : (BitVec.ofInt 64 n &&& BitVec.ofInt 64 127).toNat ≤ 127 := by rw [BitVec.toNat_and, h]; exact Nat.and_le_right
  have e : bits .and .i64 n 127 = IntKind.i64.wrap ((BitVec.ofInt 64 n &&& BitVec.ofInt 64 127).toNat : Nat) := rfl
  rw [e, IntKind.wrap_i64]
  generalize (BitVec.ofInt 64 n &&& BitVec.ofInt 64 127).toNat = m at *
  omega
theorem xor8_all : (List.range 256).all (fun (n : Nat) => decide (0 ≤ bits .xor .u8 (n : Int) 1) && decide (bits .xor .u8 (n : Int) 1 ≤ 255) && decide (bits .xor .u8 (n : Int) 1 ≠ n) && decide (0 ≤ bits .xor .i64 (n : Int) 1) && decide (bits .xor .i64 (n : Int) 1 ≤ 255) && decide (bits .xor .i64 (n : Int) 1 ≠ n)) = true := by kernel_rfl
theorem xor8 {n : Int} (h0 : 0 ≤ n) (h1 : n ≤ 255) : (0 ≤ bits .xor .u8 n 1 ∧ bits .xor .u8 n 1 ≤ 255 ∧ bits .xor .u8 n 1 ≠ n) ∧ 0 ≤ bits .xor .i64 n 1 ∧ bits .xor .i64 n 1 ≤ 255 ∧ bits .xor .i64 n 1 ≠ n := by
  have h2 := List.all_eq_true.1 xor8_all n.toNat (List.mem_range.2 (by omega))
  rw [show ((n.toNat : Nat) : Int) = n from by omega] at h2
  simp only [Bool.and_eq_true, decide_eq_true_eq] at h2
  obtain ⟨⟨⟨⟨⟨a, b⟩, c⟩, d⟩, e⟩, f⟩ := h2
  exact ⟨⟨a, b, c⟩, d, e, f⟩
theorem xor32 {n : Int} (h0 : 0 ≤ n) (h1 : n ≤ 4294967295) : 0 ≤ bits .xor .u32 n 1 ∧ bits .xor .u32 n 1 ≤ 4294967295 ∧ bits .xor .u32 n 1 ≠ n := by
  rw [u32_xor n 1 h0 (by omega) (by omega) (by omega)]
  obtain ⟨x, rfl⟩ := Int.eq_ofNat_of_zero_le h0
  have hx : x ^^^ 1 < 2 ^ 32 := Nat.xor_lt_two_pow (by omega) (by omega)
  refine ⟨by omega, by simp only [Int.toNat_natCast]; have e : (1 : Int).toNat = 1 := rfl; rw [e]; omega, fun h => ?_⟩
  have e : (1 : Int).toNat = 1 := rfl
  rw [Int.toNat_natCast, e] at h
  have h2 : x ^^^ 1 = x := by exact_mod_cast h
  have h3 := congrArg (x ^^^ ·) h2
  simp only [← Nat.xor_assoc, Nat.xor_self, Nat.zero_xor] at h3
  omega
theorem key_of {p q : Pk} (h1 : p.v = q.v) (h2 : p.sv = q.sv) (h3 : p.sb = q.sb) (h4 : p.dv = q.dv) (h5 : p.db = q.db) (h6 : p.proto = q.proto) (h7 : p.id = q.id) : keyB p q = true := by
  unfold keyB; rw [h1, h2, h3, h4, h5, h6, h7]; simp [eqL]
theorem key_parts {p q : Pk} (h : keyB p q = true) : p.v = q.v ∧ p.sv = q.sv ∧ p.sb = q.sb ∧ p.dv = q.dv ∧ p.db = q.db ∧ p.proto = q.proto ∧ p.id = q.id := by
  unfold keyB at h
  simp only [Bool.and_eq_true, decide_eq_true_eq] at h
  exact ⟨h.1, h.2.1.1, eqL_true h.2.1.2, h.2.2.1.1, eqL_true h.2.2.1.2, h.2.2.2.1, h.2.2.2.2⟩
theorem match_one (T : Nt) (q : Pk) : matchN [T] q = if showsP T q = true then some T.n else none := by simp [matchN, matchK]
theorem match_yes {T : Nt} {q : Pk} (h : showsP T q = true) : matchN [T] q = some T.n := by rw [match_one, if_pos h]
theorem match_no {T : Nt} {q : Pk} (h : showsP T q = false) : matchN [T] q = none := by rw [match_one, if_neg (by simp [h])]
theorem shows_parts {T : Nt} {q : Pk} (h : showsP T q = true) : q.off = 0 ∧ q.frag = T.f ∧ keyB q T.k = true ∧ T.b.length ≤ q.d.length ∧ q.d.take T.b.length = T.b := by
  unfold showsP preB at h
  simp only [Bool.and_eq_true, decide_eq_true_eq, beq_iff_eq] at h
  exact ⟨h.1, h.2.1, h.2.2.1, h.2.2.2.1, h.2.2.2.2⟩
theorem shows_of {T : Nt} {q : Pk} (h1 : q.off = 0) (h2 : q.frag = T.f) (h3 : keyB q T.k = true) (h4 : T.b.length ≤ q.d.length) (h5 : q.d.take T.b.length = T.b) : showsP T q = true := by
  unfold showsP preB
  simp [h1, h2, h3, h4, h5]
section
variable {Q : Pk}
theorem wf_tos (h : Wf Q) {n : Int} (hn : i64ok n) : Wf { Q with tos := n } := ⟨h.v, hn, h.flow, h.sv, h.sl, h.sb, h.dv, h.dl, h.db, h.proto, h.ttl, h.id0, h.id1, h.off, h.o, h.ol, h.d, h.dn⟩
theorem wf_flow (h : Wf Q) {n : Int} (hn : i64ok n) : Wf { Q with flow := n } := ⟨h.v, h.tos, hn, h.sv, h.sl, h.sb, h.dv, h.dl, h.db, h.proto, h.ttl, h.id0, h.id1, h.off, h.o, h.ol, h.d, h.dn⟩
theorem wf_proto (h : Wf Q) {n : Int} (hn : i64ok n) : Wf { Q with proto := n } := ⟨h.v, h.tos, h.flow, h.sv, h.sl, h.sb, h.dv, h.dl, h.db, hn, h.ttl, h.id0, h.id1, h.off, h.o, h.ol, h.d, h.dn⟩
theorem wf_df (h : Wf Q) (b : Bool) : Wf { Q with df := b } := ⟨h.v, h.tos, h.flow, h.sv, h.sl, h.sb, h.dv, h.dl, h.db, h.proto, h.ttl, h.id0, h.id1, h.off, h.o, h.ol, h.d, h.dn⟩
theorem wf_id (h : Wf Q) {n : Int} (h0 : 0 ≤ n) (h1 : n ≤ 4294967295) : Wf { Q with id := n } := ⟨h.v, h.tos, h.flow, h.sv, h.sl, h.sb, h.dv, h.dl, h.db, h.proto, h.ttl, h0, h1, h.off, h.o, h.ol, h.d, h.dn⟩
theorem wf_o (h : Wf Q) {l : List Int} (hb : Bytes l) (hl : l.length ≤ 140737488355328) : Wf { Q with o := l } := ⟨h.v, h.tos, h.flow, h.sv, h.sl, h.sb, h.dv, h.dl, h.db, h.proto, h.ttl, h.id0, h.id1, h.off, hb, hl, h.d, h.dn⟩
theorem wf_sb (h : Wf Q) {l : List Int} (hl : l.length = 16) (hb : Bytes l) : Wf { Q with sb := l } := ⟨h.v, h.tos, h.flow, h.sv, hl, hb, h.dv, h.dl, h.db, h.proto, h.ttl, h.id0, h.id1, h.off, h.o, h.ol, h.d, h.dn⟩
theorem wf_db (h : Wf Q) {l : List Int} (hl : l.length = 16) (hb : Bytes l) : Wf { Q with db := l } := ⟨h.v, h.tos, h.flow, h.sv, h.sl, h.sb, h.dv, hl, hb, h.proto, h.ttl, h.id0, h.id1, h.off, h.o, h.ol, h.d, h.dn⟩
end
theorem set_bytes {l : List Int} (h : Bytes l) {i : Nat} {y : Int} (hy : 0 ≤ y ∧ y ≤ 255) : Bytes (l.set i y) := fun n hn => by
  rcases List.mem_or_eq_of_mem_set hn with h1 | h1
  · exact h n h1
  · rw [h1]; exact hy
theorem set_ne {l : List Int} {i : Nat} {x y : Int} (hx : l[i]? = some x) (hy : y ≠ x) : l.set i y ≠ l := fun e => by
  have h1 := (List.getElem?_eq_some_iff.1 hx).1
  have h2 : (l.set i y)[i]? = some y := by rw [List.getElem?_set_self h1]
  rw [e, hx] at h2
  simp at h2; exact hy h2.symm
theorem take_set_ne {l : List Int} {i : Nat} {x y : Int} (hx : l[i]? = some x) (hy : y ≠ x) (hi : i < (l.take 8).length) (e : (l.set i y).take (l.take 8).length = l.take 8) : False := by
  have h1 := (List.getElem?_eq_some_iff.1 hx).1
  have h2 : ((l.set i y).take (l.take 8).length)[i]? = some y := by rw [List.getElem?_take, if_pos hi, List.getElem?_set_self h1]
  have h3 : (l.take 8)[i]? = some x := by
    rw [List.length_take] at hi
    rw [List.getElem?_take, if_pos (by omega), hx]
  rw [e, h3] at h2
  simp at h2; exact hy h2.symm
theorem own_lit (w : World) (l : List Int) (hl : l.length ≤ 1000 := by simp) : Owns (w.alloc (.cells (l.map (Value.int .u8)).toArray 5)) (.slice (some ⟨w.heap.size, 0, none⟩) l.length l.length) l := by
  refine ⟨by simp, .inr ⟨w.heap.size, l.length, (l.map (Value.int .u8)).toArray, by simp, Nat.zero_le _, heap_alloc_new w _, by simp, by unfold maxLen; omega, by simp, by simp [List.take_of_length_le]⟩⟩
end Go.Proofs.YtpmkmldcgiodgaaDoor
