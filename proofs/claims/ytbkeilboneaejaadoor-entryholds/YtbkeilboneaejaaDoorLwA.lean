/-
  For EntryPoisons: plain data, and steps.
-/
import Derived.Test.YtbkeilboneaejaaDoorEPut
import Derived.Laws.IdiomStrings
import Derived.Test.YtbkeilboneaejaaDoorCards
import Derived.Test.YtbkeilboneaejaaDoorTie
import Derived.Deep.DeepHandedRow
import Derived.Deep.Slices
import Derived.Lib.LaidTab
import Derived.LaidSub
import Derived.ChangeOld
import Derived.Carry
namespace Go.Proofs.YtbkeilboneaejaaDoor
open Go.ChangeShapes Go.WideShapes Go.ChangeAt Go.RowKit
open S6 (wp_region_cls quiet_val quiet_call quiet_ld ld3 ld4 ld5 ld25 ld26 load28_run load24m_run)
set_option linter.unusedVariables false
set_option linter.unusedSimpArgs false
set_option maxRecDepth 20000

set_option maxHeartbeats 4000000
theorem lkeyOf_c (p : Pk) (ov dv : Value) (w : World) (ha : Ad p) :
    Calls Tryd.prog 19 #[.agg (csP p ov dv)] w fun E w' => E = .returned (.agg (csK p)) ∧ Away [] w w' := by
  have HAD := Lib.hid ha
  clear ha
  go_enter Tryd.func19, Tryd.ntmps19
  go_wp2_with (refine wpList_box28 rfl _ rfl p _ _ rfl ?_; refine Hid.out ?_)
  refine Lib.hid ?_
  intro g1 w1 hg1 hb1 haw1
  have HB1 := Lib.hid hb1; have HA1 := Lib.hid haw1
  have hl1 := hb1.lt
  clear hb1 haw1
  go_wp2_with (refine wpList_alloc78 rfl rfl ?_; refine Hid.out ?_)
  refine Lib.hid ?_
  intro g2 w2 hg2 hb2 haw2
  have HB2 := Lib.hid hb2
  replace HB1 := Lib.hid (HB1.out.on haw2)
  replace HA1 := Lib.hid (HA1.out.next haw2 (by simp))
  have hs2 := haw2.size
  clear hb2 haw2
  have s0 := (HB1.out.cells HAD.out).v
  have s37 := (HB1.out.cells HAD.out).proto
  have s39 := (HB1.out.cells HAD.out).id
  go_wp2_with (first
    | (refine wpList_load24m rfl _ rfl g1 3 rfl p.sv p.sb (by exact HB1.out.srow) HAD.out.1 ?_)
    | (refine wpList_load24m rfl _ rfl g1 20 rfl p.dv p.db (by exact HB1.out.drow HAD.out) HAD.out.2 ?_)
    | (refine wpList_build78 rfl _ _ _ _ _ rfl p HAD.out rfl rfl rfl rfl rfl ?_)
    | (refine wpList_store78 rfl _ _ rfl g2 rfl p HAD.out rfl (by exact HB2.out) ?_; refine Hid.out ?_))
  refine Lib.hid ?_
  intro w3 hb3 haw3
  have HB3 := Lib.hid hb3
  have HA3 : Hid (Away [] w w3) := HA1.out.next haw3 (fun x hx => .inr (by simp at hx; omega))
  clear hb3 haw3 s0 s37 s39
  go_wp2_with fail
  exact bodyPost_ret (result78 rfl _ _ _ _ rfl HB3.out HAD.out) rfl ⟨rfl, HA3.out⟩
/-- The bytes of a text. -/
def bl (s : ByteArray) : List Int := s.data.toList.map (fun b => (b.toNat : Int))
theorem bl_bytes (s : ByteArray) : Bytes (bl s) := fun n hn => by
  obtain ⟨b, -, rfl⟩ := List.mem_map.1 hn
  have := b.toNat_lt
  omega
theorem bl_len (s : ByteArray) : (bl s).length = s.size := by simp [bl]
def pieceP (off : Int) (l : List Int) (more : Bool) : Pk := ⟨4, 0, 0, 4, [10, 0, 0, 1, 0, 0, 0, 0, 0, 0, 0, 0, 0, 0, 0, 0], 4, [10, 0, 0, 2, 0, 0, 0, 0, 0, 0, 0, 0, 0, 0, 0, 0], 17, 64, 7, false, more, false, off, [], l⟩
theorem piece_ad (off : Int) (l : List Int) (more : Bool) : Ad (pieceP off l more) := ⟨rfl, rfl⟩
theorem piece_wf {off : Int} {l : List Int} {more : Bool} (ho : i64ok off) (hl : Bytes l) (hn : l.length ≤ 140737488355328) : Wf (pieceP off l more) := by
  refine ⟨?_, ?_, ?_, ?_, rfl, ?_, ?_, rfl, ?_, ?_, ?_, ?_, ?_, ho, Bytes.nil, by simp [pieceP], hl, hn⟩ <;> first | (unfold i64ok pieceP; simp) | (show Bytes [10, 0, 0, 1, 0, 0, 0, 0, 0, 0, 0, 0, 0, 0, 0, 0]; intro n hn; simp at hn; omega) | (show Bytes [10, 0, 0, 2, 0, 0, 0, 0, 0, 0, 0, 0, 0, 0, 0, 0]; intro n hn; simp at hn; omega) | (simp [pieceP])
theorem run_bs (w : World) (s : ByteArray) (hs : s.size ≤ 65535) : ∃ c w', (convert 9 34 (.string s)).run Tryd.prog w = .ok (.slice (some ⟨w.heap.size, 0, none⟩) s.size c) w' ∧ Sl w' (.slice (some ⟨w.heap.size, 0, none⟩) s.size c) (bl s) ∧ Away [] w w' := by
  refine ⟨_, _, run_bytes_of_string w 9 34 5 s Tryd.underlying9 Tryd.underlying34 Tryd.underlying5, ⟨_, _, by rw [bl_len], by rw [bl_len]; exact grownCap_ge w s.size 0 5, by simp, ⟨by rw [bl_len]; omega, bl_bytes s, .inr ⟨w.heap.size, 0, rfl, fun i hi => ?_⟩⟩⟩, (Away.refl [] w).drew.alloc _⟩
  have hb : (w.drew.alloc (.cells (bytesRow s (grownCap w s.size 0 5)) 5 ((bytesRow s (grownCap w s.size 0 5)).size, (bytesRow s (grownCap w s.size 0 5)).size + 1))).heap[w.heap.size]? = some (.cells (bytesRow s (grownCap w s.size 0 5)) 5 ((bytesRow s (grownCap w s.size 0 5)).size, (bytesRow s (grownCap w s.size 0 5)).size + 1)) := block_new w.drew _
  rw [bl_len] at hi
  rw [cell_of_row _ _ (0 + i) _ 5 _ hb, Nat.zero_add]
  have hsz : s.data.size = s.size := rfl
  have e1 : (bytesRow s (grownCap w s.size 0 5))[i]? = some (.int .u8 (s.data[i]'hi).toNat) := by
    unfold bytesRow
    rw [Array.getElem?_append_left (by simpa using hi)]
    simp
    exact ⟨_, Array.getElem?_eq_getElem hi, rfl⟩
  rw [e1]
  have e2 : (bl s)[i]? = some ((s.data[i]'hi).toNat : Int) := by
    unfold bl
    simp
    exact ⟨_, Array.getElem?_eq_getElem hi, rfl⟩
  rw [e2]
  rfl
def a1 : List Int := [10, 0, 0, 1, 0, 0, 0, 0, 0, 0, 0, 0, 0, 0, 0, 0]
def a2 : List Int := [10, 0, 0, 2, 0, 0, 0, 0, 0, 0, 0, 0, 0, 0, 0, 0]
theorem b24a (w : World) : (Instr.build 24 #[(0, .int .u8 10), (1, .int .u8 0), (2, .int .u8 0), (3, .int .u8 1)]).run Tryd.prog w = .ok (arr .u8 a1) w := by kernel_rfl
theorem b24b (w : World) : (Instr.build 24 #[(0, .int .u8 10), (1, .int .u8 0), (2, .int .u8 0), (3, .int .u8 2)]).run Tryd.prog w = .ok (arr .u8 a2) w := by kernel_rfl
theorem b26a (w : World) : (Instr.build 26 #[(0, .int .i64 4), (1, arr .u8 a1)]).run Tryd.prog w = .ok (.agg (csA 4 a1)) w := by kernel_rfl
theorem b26b (w : World) : (Instr.build 26 #[(0, .int .i64 4), (1, arr .u8 a2)]).run Tryd.prog w = .ok (.agg (csA 4 a2)) w := by kernel_rfl
theorem b36p (off : Int) (dv : Value) (l : List Int) (more : Bool) (hd : dv.oneCell' = true) (w : World) :
    (Instr.build 36 #[(0, .int .i64 4), (3, .agg (csA 4 a1)), (4, .agg (csA 4 a2)), (5, .int .i64 17), (6, .int .i64 64), (7, .int .u32 7), (11, .int .i64 off), (13, dv), (9, .bool more)]).run Tryd.prog w = .ok (.agg (csP (pieceP off l more) (.slice none 0 0) dv)) w := by
  cases dv <;> first | (simp [Value.oneCell'] at hd; done) | kernel_rfl
theorem wpList_buildR {ops : Array Oper} {rest : List Oper} {o : Oper} {a : Act} {w : World} {Q : Exit → Act → World → Prop} (hw : Region.wanted o (yielded ops a.tmps) = true) (ty : TypeId) (parts : Array (Nat × Operand)) (ho : o.op = .build ty parts) (vs : Array (Nat × Value)) (hvs : (parts.map fun x => (x.1, a.eval x.2)) = vs) (v : Value)
    (hr : ∀ w, (Instr.build ty vs).run Tryd.prog w = .ok v w) (h : wpList Tryd.prog ops Q rest (a.put o.dst v) w) : wpList Tryd.prog ops Q (o :: rest) a w :=
  BigFrame.wpList_want hw fun K hK => by
    unfold Oper.wp execOp
    simp only [ho, hvs, hr w, Sem.run_bind, Result.andThen_ok, Sem.run_pure]
    exact hK _ _ h
theorem wpList_convR {ops : Array Oper} {rest : List Oper} {o : Oper} {a : Act} {w w' : World} {Q : Exit → Act → World → Prop} (hw : Region.wanted o (yielded ops a.tmps) = true) (x : Operand) (s t : TypeId) (ho : o.op = .convert s t x) (u v : Value) (hx : a.eval x = u)
    (hr : (convert s t u).run Tryd.prog w = .ok v w') (h : wpList Tryd.prog ops Q rest (a.put o.dst v) w') : wpList Tryd.prog ops Q (o :: rest) a w :=
  BigFrame.wpList_want hw fun K hK => by
    unfold Oper.wp execOp
    simp only [ho, hx, hr, Sem.run_bind, Result.andThen_ok, Sem.run_pure]
    exact hK _ _ h
set_option maxHeartbeats 4000000 in
theorem piece_c (w : World) (off : Int) (t : ByteArray) (more : Bool) (ht : t.size ≤ 65535) (ho : i64ok off) :
    Calls Tryd.prog 24 #[.int .i64 off, .string t, .bool more] w fun E w' => ∃ dv, E = .returned (.agg (csP (pieceP off (bl t) more) (.slice none 0 0) dv)) ∧ Pkt w' (pieceP off (bl t) more) (.slice none 0 0) dv ∧ (∀ k, dv.ownBlock = some k → w.heap.size ≤ k) ∧ Away [] w w' := by
  have HT := Lib.hid ht
  have HO := Lib.hid ho
  have HAD : Hid (Ad (pieceP off (bl t) more)) := piece_ad _ _ _
  have HWF : Hid (Wf (pieceP off (bl t) more)) := piece_wf HO.out (bl_bytes t) (by rw [bl_len]; have := HT.out; omega)
  have HQO : Hid ((pieceP off (bl t) more).o = []) := rfl
  have HQD : Hid ((pieceP off (bl t) more).d = bl t) := rfl
  have HB0 : Hid (∀ dv : Value, dv.oneCell' = true → ∀ w, (Instr.build 36 #[(0, .int .i64 4), (3, .agg (csA 4 a1)), (4, .agg (csA 4 a2)), (5, .int .i64 17), (6, .int .i64 64), (7, .int .u32 7), (11, .int .i64 off), (13, dv), (9, .bool more)]).run Tryd.prog w = .ok (.agg (csP (pieceP off (bl t) more) (.slice none 0 0) dv)) w) := fun dv hd => b36p off dv (bl t) more hd
  generalize pieceP off (bl t) more = q at *
  clear ht ho
  go_enter Tryd.func24, Tryd.ntmps24
  go_wp2_with (refine wpList_alloc28 rfl rfl ?_; refine Hid.out ?_)
  refine Lib.hid ?_
  intro g6 w6 hg6 hb6 haw6
  have HB6 := Lib.hid hb6
  have HA6 := Lib.hid haw6
  have hl6 := hb6.lt
  clear hb6 haw6
  obtain ⟨c, w7, hrun, hsl, haw7⟩ := run_bs w6 t HT.out
  have HSL := Lib.hid hsl
  have HA7 := Lib.hid haw7
  have HB7 := Lib.hid (HB6.out.on haw7)
  have hbp := HB0.out (.slice (some ⟨w6.heap.size, 0, none⟩) t.size c) rfl
  have h1 := b24a
  have h2 := b26a
  have h3 := b24b
  have h4 := b26b
  have HBP := Lib.hid hbp
  have H1 := Lib.hid h1
  have H2 := Lib.hid h2
  have H3 := Lib.hid h3
  have H4 := Lib.hid h4
  have HRUN := Lib.hid hrun
  clear hbp h1 h2 h3 h4 hrun hsl haw7
  go_wp2_with (refine wpList_buildR rfl 24 _ rfl #[(0, .int .u8 10), (1, .int .u8 0), (2, .int .u8 0), (3, .int .u8 1)] (by simp only [List.map_toArray, List.map_cons, List.map_nil]; rfl) _ H1.out ?_; refine Hid.out ?_)
  refine Lib.hid ?_
  go_wp2_with (refine wpList_buildR rfl 26 _ rfl #[(0, .int .i64 4), (1, arr .u8 a1)] (by simp only [List.map_toArray, List.map_cons, List.map_nil]; rfl) _ H2.out ?_; refine Hid.out ?_)
  refine Lib.hid ?_
  go_wp2_with (refine wpList_buildR rfl 24 _ rfl #[(0, .int .u8 10), (1, .int .u8 0), (2, .int .u8 0), (3, .int .u8 2)] (by simp only [List.map_toArray, List.map_cons, List.map_nil]; rfl) _ H3.out ?_; refine Hid.out ?_)
  refine Lib.hid ?_
  go_wp2_with (refine wpList_buildR rfl 26 _ rfl #[(0, .int .i64 4), (1, arr .u8 a2)] (by simp only [List.map_toArray, List.map_cons, List.map_nil]; rfl) _ H4.out ?_; refine Hid.out ?_)
  refine Lib.hid ?_
  go_wp2_with (refine wpList_convR rfl _ 9 34 rfl _ _ rfl HRUN.out ?_; refine Hid.out ?_)
  refine Lib.hid ?_
  go_wp2_with (refine wpList_buildR rfl 36 _ rfl #[(0, .int .i64 4), (3, .agg (csA 4 a1)), (4, .agg (csA 4 a2)), (5, .int .i64 17), (6, .int .i64 64), (7, .int .u32 7), (11, .int .i64 off), (13, .slice (some ⟨w6.heap.size, 0, none⟩) t.size c), (9, .bool more)] (by simp only [List.map_toArray, List.map_cons, List.map_nil]; rfl) _ HBP.out ?_; refine Hid.out ?_)
  refine Lib.hid ?_
  go_wp2_with (refine wpList_store28 rfl _ _ rfl _ rfl q (.slice none 0 0) (.slice (some ⟨w6.heap.size, 0, none⟩) t.size c) rfl zeroPk (.slice none 0 0) (.slice none 0 0) (by exact HB7.out) HAD.out ⟨rfl, rfl⟩ rfl rfl ?_; refine Hid.out ?_)
  refine Lib.hid ?_
  intro w8 hb8 haw8
  have HB8 := Lib.hid hb8
  have hsz := HA7.out.size
  have HA8 : Hid (Away [] w w8) := (HA6.out.trans HA7.out).next haw8 (fun x hx => .inr (by simp at hx; omega))
  have HPK : Hid (Pkt w8 q (.slice none 0 0) (.slice (some ⟨w6.heap.size, 0, none⟩) t.size c)) := by
    refine ⟨HWF.out, by rw [HQO.out]; exact Sl.nil _, ?_⟩
    rw [HQD.out]
    exact HSL.out.away haw8 (fun _ k hk => by simp [Value.ownBlock] at hk; simp; omega)
  have HZ6 := Lib.hid HA6.out.size
  clear hb8 haw8
  go_wp2_with fail
  exact bodyPost_ret (result28 rfl _ _ _ _ _ _ rfl HB8.out HAD.out) rfl ⟨_, rfl, HPK.out, fun k hk => by (have h6 := HZ6.out); simp [Value.ownBlock] at hk; omega, HA8.out⟩
end Go.Proofs.YtbkeilboneaejaaDoor

namespace Go.Proofs.YtbkeilboneaejaaDoor
open Go.ChangeShapes Go.WideShapes Go.ChangeAt Go.RowKit
open S6 (wp_region_cls quiet_val quiet_call quiet_ld ld3 ld4 ld5 ld25 ld26 load28_run load24m_run)
set_option linter.unusedVariables false
set_option linter.unusedSimpArgs false
set_option maxRecDepth 20000

theorem band (m : Nat) (hm : m < 4294967296) (n : Int) : 0 ≤ bits .and .i64 n m ∧ bits .and .i64 n m ≤ m := by
  have e : bits .and .i64 n m = IntKind.i64.wrap ((BitVec.ofInt 64 n &&& BitVec.ofInt 64 m).toNat : Nat) := rfl
  have hb : (BitVec.ofInt 64 (m : Int)).toNat = m := by
    rw [BitVec.toNat_ofInt]
    have : ((m : Int) % (2 ^ 64 : Nat)).toNat = m := by
      rw [Int.emod_eq_of_lt (by omega) (by simp; omega)]; simp
    exact this
  have hle : (BitVec.ofInt 64 n &&& BitVec.ofInt 64 m).toNat ≤ m := by
    rw [BitVec.toNat_and, hb]
    exact Nat.and_le_right
  rw [e, IntKind.wrap_i64]
  omega
def keyP (six : Bool) : Pk := ⟨if six = true then 6 else 4, 0, 0, if six = true then 6 else 4, [1, 0, 0, 0, 0, 0, 0, 0, 0, 0, 0, 0, 0, 0, 0, 0], if six = true then 6 else 4, [2, 0, 0, 0, 0, 0, 0, 0, 0, 0, 0, 0, 0, 0, 0, 0], 17, 0, 5, false, false, false, 0, [], []⟩
theorem key_ad (x : Bool) : Ad (keyP x) := ⟨rfl, rfl⟩
def k1 : List Int := [1, 0, 0, 0, 0, 0, 0, 0, 0, 0, 0, 0, 0, 0, 0, 0]
def k2 : List Int := [2, 0, 0, 0, 0, 0, 0, 0, 0, 0, 0, 0, 0, 0, 0, 0]
theorem kb1 (w : World) : (Instr.build 24 #[(0, .int .u8 1)]).run Tryd.prog w = .ok (arr .u8 k1) w := by kernel_rfl
theorem kb2 (w : World) : (Instr.build 24 #[(0, .int .u8 2)]).run Tryd.prog w = .ok (arr .u8 k2) w := by kernel_rfl
theorem kb3 (w : World) : (Instr.build 26 #[(0, .int .i64 4), (1, arr .u8 k1)]).run Tryd.prog w = .ok (.agg (csA 4 k1)) w := by kernel_rfl
theorem kb4 (w : World) : (Instr.build 26 #[(0, .int .i64 4), (1, arr .u8 k2)]).run Tryd.prog w = .ok (.agg (csA 4 k2)) w := by kernel_rfl
theorem kb5 (w : World) : (Instr.build 29 #[(0, .int .i64 4), (1, .agg (csA 4 k1)), (2, .agg (csA 4 k2)), (3, .int .i64 17), (4, .int .u32 5)]).run Tryd.prog w = .ok (.agg (csK (keyP false))) w := by kernel_rfl
set_option maxHeartbeats 4000000 in
theorem lkey_c (w : World) (v : Int) : Calls Tryd.prog 6 #[.int .i64 v] w fun E w' => ∃ x, E = .returned (.agg (csK (keyP x))) ∧ Away [] w w' := by
  have H1 := Lib.hid kb1
  have H2 := Lib.hid kb2
  have H3 := Lib.hid kb3
  have H4 := Lib.hid kb4
  have H5 := Lib.hid kb5
  obtain ⟨z, hz⟩ : ∃ z, bits .and .i64 v 1 = z := ⟨_, rfl⟩
  go_enter Tryd.func6, Tryd.ntmps6
  go_wp2_with (refine wpList_alloc78 rfl rfl ?_; refine Hid.out ?_)
  refine Lib.hid ?_
  intro g2 w2 hg2 hb2 haw2
  have HB2 := Lib.hid hb2
  have HA2 := Lib.hid haw2
  have hl2 := lt_of_block hb2
  clear hb2 haw2
  go_wp2_with (refine wpList_buildR rfl 24 _ rfl #[(0, .int .u8 1)] (by simp only [List.map_toArray, List.map_cons, List.map_nil]; rfl) _ H1.out ?_; refine Hid.out ?_)
  refine Lib.hid ?_
  go_wp2_with (refine wpList_buildR rfl 26 _ rfl #[(0, .int .i64 4), (1, arr .u8 k1)] (by simp only [List.map_toArray, List.map_cons, List.map_nil]; rfl) _ H3.out ?_; refine Hid.out ?_)
  refine Lib.hid ?_
  go_wp2_with (refine wpList_buildR rfl 24 _ rfl #[(0, .int .u8 2)] (by simp only [List.map_toArray, List.map_cons, List.map_nil]; rfl) _ H2.out ?_; refine Hid.out ?_)
  refine Lib.hid ?_
  go_wp2_with (refine wpList_buildR rfl 26 _ rfl #[(0, .int .i64 4), (1, arr .u8 k2)] (by simp only [List.map_toArray, List.map_cons, List.map_nil]; rfl) _ H4.out ?_; refine Hid.out ?_)
  refine Lib.hid ?_
  go_wp2_with (refine wpList_buildR rfl 29 _ rfl #[(0, .int .i64 4), (1, .agg (csA 4 k1)), (2, .agg (csA 4 k2)), (3, .int .i64 17), (4, .int .u32 5)] (by simp only [List.map_toArray, List.map_cons, List.map_nil]; rfl) _ H5.out ?_; refine Hid.out ?_)
  refine Lib.hid ?_
  go_wp2_with (refine wpList_alloc78 rfl rfl ?_; refine Hid.out ?_)
  refine Lib.hid ?_
  intro g3 w3 hg3 hb3 haw3
  have HB3 := Lib.hid hb3
  replace HB2 : Hid (BoxK w3 g2 zK) := haw3.keep (by simp) HB2.out
  replace HA2 := Lib.hid (HA2.out.trans haw3)
  have hs3 := haw3.size
  have hl3 := lt_of_block hb3
  clear hb3 haw3
  go_wp2_with (refine wpList_store78 rfl _ _ rfl _ rfl (keyP false) (key_ad false) rfl (by exact HB3.out) ?_; refine Hid.out ?_)
  refine Lib.hid ?_
  intro w4 hb4 haw4
  have HB4 := Lib.hid hb4
  replace HB2 : Hid (BoxK w4 g2 zK) := haw4.keep (by simp; omega) HB2.out
  replace HA2 : Hid (Away [] w w4) := HA2.out.next haw4 (fun x hx => .inr (by simp at hx; omega))
  clear hb4 haw4
  have c0 : w4.cell? ⟨g3, 0, none⟩ = some (.int .i64 4) := by rw [cell_of_block HB4.out]; rfl
  have c1 : w4.cell? ⟨g3, 1, none⟩ = some (.int .i64 4) := by rw [cell_of_block HB4.out]; rfl
  have c18 : w4.cell? ⟨g3, 18, none⟩ = some (.int .i64 4) := by rw [cell_of_block HB4.out]; rfl
  have f0 : w4.frozen? ⟨g3, 0, none⟩ = false := free_of_block HB4.out 0
  have f1 : w4.frozen? ⟨g3, 1, none⟩ = false := free_of_block HB4.out 1
  have f18 : w4.frozen? ⟨g3, 18, none⟩ = false := free_of_block HB4.out 18
  have HR4 : Hid (w4.rangeAt g3 0 (listK (keyP false))) := boxK_range HB4.out
  have HB5 : Hid (BoxK (((w4.setCell ⟨g3, 0, none⟩ (.int .i64 6)).setCell ⟨g3, 1, none⟩ (.int .i64 6)).setCell ⟨g3, 18, none⟩ (.int .i64 6)) g3 (csK (keyP true))) := by
    show _ = _
    rw [block_set (block_set (block_set HB4.out 0 (.int .i64 6)) 1 (.int .i64 6)) 18 (.int .i64 6)]
    rfl
  have HA5 : Hid (Away [g3] w4 (((w4.setCell ⟨g3, 0, none⟩ (.int .i64 6)).setCell ⟨g3, 1, none⟩ (.int .i64 6)).setCell ⟨g3, 18, none⟩ (.int .i64 6))) := (((Away.refl [g3] w4).setCell (.inl (by simp)) _).setCell (.inl (by simp)) _).setCell (.inl (by simp)) _
  have hne : g2 ≠ g3 := by omega
  by_cases h1 : z = 1
  · have h1' : (z == 1) = true := by simpa using h1
    subst h1
    go_wp2_with (refine wpList_load29m rfl _ rfl g3 0 rfl (keyP true) (by exact boxK_range HB5.out) (key_ad true) ?_; refine Hid.out ?_)
    refine Lib.hid ?_
    replace HB2 : Hid (BoxK _ g2 zK) := HA5.out.keep (by simpa using hne) HB2.out
    replace HA2 := Lib.hid (HA2.out.next HA5.out (fun x hx => .inr (by simp at hx; omega)))
    generalize ((w4.setCell ⟨g3, 0, none⟩ (.int .i64 6)).setCell ⟨g3, 1, none⟩ (.int .i64 6)).setCell ⟨g3, 18, none⟩ (.int .i64 6) = w5 at *
    go_wp2_with (refine wpList_store78 rfl _ _ rfl _ rfl (keyP true) (key_ad true) rfl (by exact HB2.out) ?_; refine Hid.out ?_)
    refine Lib.hid ?_
    intro w6 hb6 haw6
    have HB6 := Lib.hid hb6
    have HA6 : Hid (Away [] w w6) := HA2.out.next haw6 (fun x hx => .inr (by simp at hx; omega))
    clear hb6 haw6
    go_wp2_with fail
    exact bodyPost_ret (result78 rfl _ _ _ _ rfl HB6.out (key_ad true)) rfl ⟨true, rfl, HA6.out⟩
  · have h1' : (z == 1) = false := by simpa using h1
    go_wp2_with (first
      | (refine wpList_load29m rfl _ rfl g3 0 rfl (keyP false) (by exact HR4.out) (key_ad false) ?_)
      | (refine wpList_store78 rfl _ _ rfl _ rfl (keyP false) (key_ad false) rfl (by exact HB2.out) ?_; refine Hid.out ?_))
    refine Lib.hid ?_
    intro w6 hb6 haw6
    have HB6 := Lib.hid hb6
    have HA6 : Hid (Away [] w w6) := HA2.out.next haw6 (fun x hx => .inr (by simp at hx; omega))
    clear hb6 haw6
    go_wp2_with fail
    exact bodyPost_ret (result78 rfl _ _ _ _ rfl HB6.out (key_ad false)) rfl ⟨false, rfl, HA6.out⟩
end Go.Proofs.YtbkeilboneaejaaDoor

namespace Go.Proofs.YtbkeilboneaejaaDoor
open Go.ChangeShapes Go.WideShapes Go.ChangeAt Go.RowKit Go.Deep Num
set_option linter.unusedVariables false
set_option maxHeartbeats 4000000
set_option maxRecDepth 100000

theorem ownKn : ownKnob Tryd.prog.godebug = none := by kernel_rfl
theorem laidOut : laidOutB Tryd.prog = true := by kernel_rfl
def laidAll : List (String × DataW Unit) := [("mosaic/opts.shapes", Rows.laid_mosaic_opts_shapes)]
theorem glob_of {W : World} (hL : laidMet Tryd.prog laidAll W) : Glob W := by
  have t : Lib.TabIs Tryd.prog W "mosaic/opts.shapes" .i64 [0, 1, 2] := Lib.tabIs_of_head (rest := []) (g := 0) (t := 109) (n := 3) (by kernel_rfl) (by kernel_rfl) Tryd.underlying109 Tryd.underlying3 (by kernel_rfl) (by kernel_rfl) hL
  exact ⟨t.cell (by kernel_rfl) 0 (by decide), t.cell (by kernel_rfl) 1 (by decide), t.cell (by kernel_rfl) 2 (by decide)⟩
def setCs (cs : Array Value) : Obj → Obj
  | .cells _ t fr => .cells cs t fr
  | o => o
def laidWorld (P : Program) (os : Os) : World :=
  { World.holding P os ⟨#[], #[], []⟩ with heap := (World.holding P os ⟨#[], #[], []⟩).heap.modify 0 (setCs #[.int .i64 0, .int .i64 1, .int .i64 2]) }

def kindBytes : IntKind → Nat
  | .u8 => 1
  | .u16 => 2
  | _ => 8

/-- A slice of integers that came in: nil, or a row of 'cap' cells. -/
def IsRow (k : IntKind) (w : World) (a : Option Addr) (len cap : Nat) (zs : List Int) : Prop :=
  (a = none ∧ len = 0 ∧ cap = 0 ∧ zs = []) ∨
  ∃ x, a = some x ∧ len ≤ cap ∧ cap * kindBytes k ≤ 140737488351232 ∧ zs.length = cap ∧ (∀ i, i < zs.length → w.cell? (x.add i) = some (.int k (zs.getD i 0))) ∧ ∀ n ∈ zs, (Lit.int k n).wf = true

/-- Of bytes: their list. -/
theorem view {w : World} {a : Option Addr} {len cap : Nat} {zs : List Int} (h : IsRow .u8 w a len cap zs) :
    ∃ l : List Int, l.length = len ∧ len ≤ cap ∧ cap ≤ 140737488351232 ∧ Row w a l ∧ (a = none → cap = 0) := by
  rcases h with ⟨rfl, rfl, rfl, rfl⟩ | ⟨x, rfl, hl, hm, hz, hcell, hwz⟩
  · exact ⟨[], rfl, Nat.le_refl _, by omega, Row.nil _ _, fun _ => rfl⟩
  · simp only [kindBytes] at hm
    refine ⟨zs.take len, by simp; omega, hl, by omega, ⟨by simp; omega, fun n hn => bounds_u8 (hwz n (List.mem_of_mem_take hn)), ?_⟩, by simp⟩
    by_cases h0 : len = 0
    · left; subst h0; simp
    · right
      obtain ⟨b, off, spot⟩ := x
      have hspot : spot = none := by simpa [Addr.add] using World.cell?_spot (hcell 0 (by omega))
      subst hspot
      refine ⟨b, off, rfl, fun i hi => ?_⟩
      have hi' : i < len := by simp at hi; omega
      have := hcell i (by omega)
      rw [add_plain] at this
      rw [List.getElem?_take, if_pos hi']
      simpa using this

theorem bulkAll_ge {H : Type} (f : Nat → Nat) (D : Nat → DataW H) : ∀ l : List Nat, (∀ i ∈ l, f i ≤ Rows.uptoBulk (D i)) → (l.map f).sum ≤ Rows.uptoBulkAll (l.map D)
  | [], _ => by simp
  | i :: r, h => by
    have h1 := h i (by simp)
    have h2 := bulkAll_ge f D r (fun j hj => h j (List.mem_cons_of_mem _ hj))
    simp only [List.map_cons, List.sum_cons, Rows.uptoBulkAll]
    omega
theorem bulkAll_lits {H : Type} (k : IntKind) : ∀ l : List Int, l.length ≤ Rows.uptoBulkAll (lits (H := H) k l)
  | [] => by simp
  | x :: r => by
    have h := bulkAll_lits (H := H) k r
    simp only [lits, List.map_cons, Rows.uptoBulkAll, List.length_cons, Rows.uptoBulk] at h ⊢
    omega
theorem weightsAll_mem {H : Type} (e : TypeId) : ∀ (l : List (DataW H)) (d : DataW H), d ∈ l → ∀ n ∈ d.weights Tryd.prog e, n ∈ DataW.weightsAll Tryd.prog e l
  | [], _, h, _, _ => by simp at h
  | x :: r, d, h, n, hn => by
    simp only [DataW.weightsAll, List.mem_append]
    rcases List.mem_cons.mp h with rfl | h
    · exact .inl hn
    · exact .inr (weightsAll_mem e r d h n hn)


theorem bulk_mem {H : Type} : ∀ {ds : List (DataW H)} {d : DataW H}, d ∈ ds → Rows.uptoBulk d ≤ Rows.uptoBulkAll ds
  | [], _, h => by simp at h
  | x :: r, d, h => by
    simp only [List.mem_cons] at h
    simp only [Rows.uptoBulkAll]
    rcases h with rfl | h
    · omega
    · have := bulk_mem h; omega
theorem small_mem {H : Type} {ds : List (DataW H)} {d : DataW H} (hk : Rows.uptoSmall H ds = true) (hm : d ∈ ds) : Rows.uptoBulk d ≤ 1048576 :=
  Nat.le_trans (bulk_mem hm) (of_decide_eq_true hk)
/-- Bytes that came in. -/
theorem open_cell {H : Type} {enc : TypeId × Value → H} {w : World} {fuel : Nat} {c : Value} {D : DataW H} {Pl : List MemPlace}
    (h : DataW.trod enc Tryd.prog w 0 (fun _ => true) true fuel 34 [c] = some (D, Pl)) (hw : ∀ n ∈ D.weights Tryd.prog 34, n ≤ reachBytes) :
    ∃ (a : Option Addr) (L : List Int) (cap : Nat), c = .slice a L.length cap ∧ L.length ≤ cap ∧ cap ≤ 140737488351232 ∧ Row w a L ∧ (a = none → cap = 0) ∧ L.length + 1 ≤ Rows.uptoBulk D := by
  have k4 := cells5
  rcases open_ints Tryd.underlying34 Tryd.underlying5 k4 h with ⟨hcs, hx⟩ | ⟨x, l, c', zs, hcs, _, hll, hm, hz, hx, hcz, hwz⟩
  · have hcs : c = _ := (List.cons.inj hcs).1
    have hD : D = _ := congrArg Prod.fst hx
    subst hcs; subst hD
    exact ⟨none, [], 0, rfl, Nat.le_refl _, by omega, Row.nil _ _, fun _ => rfl, by simp [Rows.uptoBulk]⟩
  · have hcs : c = _ := (List.cons.inj hcs).1
    have hD : D = _ := congrArg Prod.fst hx
    subst hcs; subst hD
    rw [if_pos rfl] at hz
    have hreach : c' ≤ 140737488351232 := by
      have := hw ((zs.take l).length + (zs.drop l).length) (by
        simp only [DataW.weights, Tryd.underlying34]
        simp [lits, show Tryd.prog.bytesOf 5 = 1 from by kernel_rfl])
      simp only [List.length_take, List.length_drop, reachBytes] at this
      omega
    have hrow : IsRow .u8 w (some x) l c' zs := .inr ⟨x, rfl, hll, by simp only [kindBytes]; omega, hz, hcz, hwz⟩
    obtain ⟨L, hL, hLc, _, hr, hn⟩ := view hrow
    subst hL
    refine ⟨some x, L, c', rfl, hLc, hreach, hr, hn, ?_⟩
    have hb := bulkAll_lits (H := H) .u8 (zs.take L.length)
    simp only [List.length_take] at hb
    simp [Rows.uptoBulk]
    omega
theorem open_bytes {H : Type} {enc : TypeId × Value → H} {w : World} {a : Option Addr} {len cap : Nat} {d : DataW H} {p : List MemPlace}
    (h : DataW.Trod enc Tryd.prog w 0 (fun _ => true) true 34 (.slice a len cap) d p) (hw : ∀ n ∈ d.weights Tryd.prog 34, n ≤ reachBytes) :
    ∃ L : List Int, L.length = len ∧ len ≤ cap ∧ cap ≤ 140737488351232 ∧ Row w a L ∧ (a = none → cap = 0) ∧ L.length ≤ Rows.uptoBulk d := by
  obtain ⟨fuel, hf⟩ := h
  obtain ⟨a', L, cap', e, h1, h2, h3, h4, h5⟩ := open_cell (c := .slice a len cap) (by simpa [Value.cells] using hf) hw
  simp only [Value.slice.injEq] at e
  obtain ⟨rfl, rfl, rfl⟩ := e
  exact ⟨L, rfl, h1, h2, h3, h4, by omega⟩

def nOf : Value → Int
  | .int _ n => n
  | _ => 0
theorem wf64 {n : Int} (h : (Lit.int .i64 n).wf = true) : i64ok n := bounds_i64 h
theorem wf32 {n : Int} (h : (Lit.int .u32 n).wf = true) : 0 ≤ n ∧ n ≤ 4294967295 := by
  have h5 : IntKind.u32.min ≤ n ∧ n ≤ IntKind.u32.max := by simpa [Lit.wf] using h
  exact ⟨h5.1, h5.2⟩
theorem open_adr {H : Type} {enc : TypeId × Value → H} {W : World} {base : Nat} {spare : Nat → Bool} {held : Bool} {fuel : Nat} {cs : List Value} {x : DataW H × List MemPlace} (h : DataW.trod enc Tryd.prog W base spare held fuel 26 cs = some x) (hsz : cs.length = 17) :
    ∃ (v : Int) (l : List Int), cs = cellsA v l ∧ l.length = 16 ∧ Bytes l ∧ i64ok v := by
  obtain ⟨xs, n, _, _, hlen, hxs, hfs⟩ := DataW.trod_struct Tryd.underlying26 h
  have h0 : DataW.trod enc Tryd.prog W base spare held n 3 ((cs.drop 0).take (Tryd.prog.cellsOf 3)) = xs[0]? := hfs 0 _ rfl
  have h1 : DataW.trod enc Tryd.prog W base spare held n 24 ((cs.drop 1).take (Tryd.prog.cellsOf 24)) = xs[1]? := hfs 1 _ rfl
  have hx2 : xs.length = 2 := by simpa using hxs
  rw [List.getElem?_eq_getElem (by omega)] at h0 h1
  obtain ⟨v, hv0, _, hvw⟩ := DataW.trod_int Tryd.underlying3 h0
  obtain ⟨ys, m, _, _, hl1, hys, hel⟩ := DataW.trod_array Tryd.underlying24 h1
  have hb : ∀ i, i < 16 → ∃ k : Int, cs[1 + i]? = some (.int .u8 k) ∧ (Lit.int .u8 k).wf = true := by
    intro i hi
    have h2 := hel i hi
    rw [List.getElem?_eq_getElem (by omega)] at h2
    obtain ⟨k, hk, _, hkw⟩ := DataW.trod_int Tryd.underlying5 h2
    refine ⟨k, ?_, hkw⟩
    rw [cells5, Nat.mul_one] at hk
    have h3 : ((List.take (Tryd.prog.cellsOf 24) (List.drop 1 cs)).drop i)[0]? = some (.int .u8 k) := by
      have := congrArg (fun l => l[0]?) hk
      simpa using this
    rw [cells22] at h3
    simp only [List.getElem?_drop, List.getElem?_take, Nat.add_zero] at h3
    rw [if_pos hi] at h3
    exact h3
  have hmap : ((cs.drop 1).map nOf).map (Value.int .u8) = cs.drop 1 := by
    rw [List.map_map]
    apply List.ext_getElem?
    intro i
    rw [List.getElem?_map, List.getElem?_drop]
    by_cases hi : i < 16
    · obtain ⟨k, hk, _⟩ := hb i hi
      rw [hk]; rfl
    · rw [List.getElem?_eq_none (by omega)]; rfl
  refine ⟨v, (cs.drop 1).map nOf, ?_, by simp; omega, ?_, wf64 hvw⟩
  · show cs = Value.int .i64 v :: ((cs.drop 1).map nOf).map (Value.int .u8)
    rw [hmap]
    have h3 : cs[0]? = some (.int .i64 v) := by
      have := congrArg (fun l => l[0]?) hv0
      rw [show Tryd.prog.cellsOf 3 = 1 from by kernel_rfl] at this
      simpa using this
    cases hcs : cs with
    | nil => rw [hcs] at h3; simp at h3
    | cons a r => rw [hcs] at h3; simp at h3; rw [h3]; rfl
  · intro y hy
    simp only [List.mem_map] at hy
    obtain ⟨z, hz, rfl⟩ := hy
    obtain ⟨i, hi⟩ := List.mem_iff_getElem?.1 hz
    rw [List.getElem?_drop] at hi
    have hi16 : i < 16 := by
      have := (List.getElem?_eq_some_iff.1 hi).1
      omega
    obtain ⟨k, hk, hkw⟩ := hb i hi16
    rw [hk] at hi
    simp only [Option.some.injEq] at hi
    subst hi
    have h5 : IntKind.u8.min ≤ k ∧ k ≤ IntKind.u8.max := by simpa [Lit.wf] using hkw
    exact ⟨h5.1, h5.2⟩
theorem cut_at {α : Type} (l : List α) (a b : Nat) : l.drop a = (l.drop a).take b ++ l.drop (a + b) := by
  rw [← List.drop_drop]; exact (List.take_append_drop b _).symm
theorem sizes28 : Tryd.prog.cellsOf 3 = 1 ∧ Tryd.prog.cellsOf 4 = 1 ∧ Tryd.prog.cellsOf 27 = 1 ∧ Tryd.prog.cellsOf 34 = 1 ∧ Tryd.prog.cellsOf 26 = 17 := ⟨by kernel_rfl, by kernel_rfl, by kernel_rfl, by kernel_rfl, by kernel_rfl⟩
theorem cells28 : Tryd.prog.cellsOf 36 = 46 := by kernel_rfl
/-- A packet that came in. -/
theorem open_pktL {H : Type} {enc : TypeId × Value → H} {W : World} {fuel : Nat} {L : List Value} {d : DataW H} {pl : List MemPlace} (hLl : L.length = 46)
    (hf : DataW.trod enc Tryd.prog W 0 (fun _ => true) true fuel 36 L = some (d, pl)) (hw : ∀ n ∈ d.weights Tryd.prog 36, n ≤ reachBytes) :
    ∃ (p : Pk) (ov dv : Value), L = listP p ov dv ∧ Pkt W p ov dv ∧ p.o.length ≤ 140737488351232 ∧ p.d.length ≤ 140737488351232 := by
  obtain ⟨xs, n, _, hx, hlen, hxs, hfs⟩ := DataW.trod_struct Tryd.underlying36 hf
  obtain ⟨k3, k4, k25, k26, k24⟩ := sizes28
  have hx14 : xs.length = 14 := by simpa using hxs
  have f0 : DataW.trod enc Tryd.prog W 0 (fun _ => true) true n 3 ((L.drop 0).take (Tryd.prog.cellsOf 3)) = xs[0]? := hfs 0 _ rfl
  have f1 : DataW.trod enc Tryd.prog W 0 (fun _ => true) true n 3 ((L.drop 1).take (Tryd.prog.cellsOf 3)) = xs[1]? := hfs 1 _ rfl
  have f2 : DataW.trod enc Tryd.prog W 0 (fun _ => true) true n 3 ((L.drop 2).take (Tryd.prog.cellsOf 3)) = xs[2]? := hfs 2 _ rfl
  have f3 : DataW.trod enc Tryd.prog W 0 (fun _ => true) true n 26 ((L.drop 3).take (Tryd.prog.cellsOf 26)) = xs[3]? := hfs 3 _ rfl
  have f4 : DataW.trod enc Tryd.prog W 0 (fun _ => true) true n 26 ((L.drop 20).take (Tryd.prog.cellsOf 26)) = xs[4]? := hfs 4 _ rfl
  have f5 : DataW.trod enc Tryd.prog W 0 (fun _ => true) true n 3 ((L.drop 37).take (Tryd.prog.cellsOf 3)) = xs[5]? := hfs 5 _ rfl
  have f6 : DataW.trod enc Tryd.prog W 0 (fun _ => true) true n 3 ((L.drop 38).take (Tryd.prog.cellsOf 3)) = xs[6]? := hfs 6 _ rfl
  have f7 : DataW.trod enc Tryd.prog W 0 (fun _ => true) true n 27 ((L.drop 39).take (Tryd.prog.cellsOf 27)) = xs[7]? := hfs 7 _ rfl
  have f8 : DataW.trod enc Tryd.prog W 0 (fun _ => true) true n 4 ((L.drop 40).take (Tryd.prog.cellsOf 4)) = xs[8]? := hfs 8 _ rfl
  have f9 : DataW.trod enc Tryd.prog W 0 (fun _ => true) true n 4 ((L.drop 41).take (Tryd.prog.cellsOf 4)) = xs[9]? := hfs 9 _ rfl
  have f10 : DataW.trod enc Tryd.prog W 0 (fun _ => true) true n 4 ((L.drop 42).take (Tryd.prog.cellsOf 4)) = xs[10]? := hfs 10 _ rfl
  have f11 : DataW.trod enc Tryd.prog W 0 (fun _ => true) true n 3 ((L.drop 43).take (Tryd.prog.cellsOf 3)) = xs[11]? := hfs 11 _ rfl
  have f12 : DataW.trod enc Tryd.prog W 0 (fun _ => true) true n 34 ((L.drop 44).take (Tryd.prog.cellsOf 34)) = xs[12]? := hfs 12 _ rfl
  have f13 : DataW.trod enc Tryd.prog W 0 (fun _ => true) true n 34 ((L.drop 45).take (Tryd.prog.cellsOf 34)) = xs[13]? := hfs 13 _ rfl
  obtain ⟨y0, y1, y2, y3, y4, y5, y6, y7, y8, y9, y10, y11, y12, y13, rfl⟩ : ∃ y0 y1 y2 y3 y4 y5 y6 y7 y8 y9 y10 y11 y12 y13, xs = [y0, y1, y2, y3, y4, y5, y6, y7, y8, y9, y10, y11, y12, y13] := by
    match xs, hx14 with
    | [y0, y1, y2, y3, y4, y5, y6, y7, y8, y9, y10, y11, y12, y13], _ => exact ⟨y0, y1, y2, y3, y4, y5, y6, y7, y8, y9, y10, y11, y12, y13, rfl⟩
  obtain ⟨a0, e0, _, w0⟩ := DataW.trod_int Tryd.underlying3 f0
  obtain ⟨a1, e1, _, w1⟩ := DataW.trod_int Tryd.underlying3 f1
  obtain ⟨a2, e2, _, w2⟩ := DataW.trod_int Tryd.underlying3 f2
  rw [k24] at f3 f4
  obtain ⟨sv, sb, e3, s16, sby, swf⟩ := open_adr f3 (by simp; omega)
  obtain ⟨dv', db, e4, d16, dby, dwf⟩ := open_adr f4 (by simp; omega)
  obtain ⟨a5, e5, _, w5⟩ := DataW.trod_int Tryd.underlying3 f5
  obtain ⟨a6, e6, _, w6⟩ := DataW.trod_int Tryd.underlying3 f6
  obtain ⟨a7, e7, _, w7⟩ := DataW.trod_int Tryd.underlying27 f7
  obtain ⟨a8, e8, _⟩ := DataW.trod_bool Tryd.underlying4 f8
  obtain ⟨a9, e9, _⟩ := DataW.trod_bool Tryd.underlying4 f9
  obtain ⟨a10, e10, _⟩ := DataW.trod_bool Tryd.underlying4 f10
  obtain ⟨a11, e11, _, w11⟩ := DataW.trod_int Tryd.underlying3 f11
  rw [k3] at e0 e1 e2 e5 e6 e11
  rw [k25] at e7
  rw [k4] at e8 e9 e10
  rw [k26] at f12 f13
  obtain ⟨ov, e12⟩ : ∃ ov, (L.drop 44).take 1 = [ov] := by
    have : ((L.drop 44).take 1).length = 1 := by simp; omega
    exact List.length_eq_one_iff.1 this
  obtain ⟨dv, e13⟩ : ∃ ov, (L.drop 45).take 1 = [ov] := by
    have : ((L.drop 45).take 1).length = 1 := by simp; omega
    exact List.length_eq_one_iff.1 this
  rw [e12] at f12
  rw [e13] at f13
  obtain ⟨D12, P12⟩ := y12
  obtain ⟨D13, P13⟩ := y13
  simp only [Prod.mk.injEq, List.map_cons, List.map_nil] at hx
  obtain ⟨rfl, _⟩ := hx
  obtain ⟨oa, ol, ocap, rfl, og1, og2, og3, og4, _⟩ := open_cell f12 (fun k hk => hw k (by
    simp only [DataW.weights, Tryd.underlying36]
    simp [DataW.weightsEach, hk]))
  obtain ⟨da, dl, dcap, rfl, dg1, dg2, dg3, dg4, _⟩ := open_cell f13 (fun k hk => hw k (by
    simp only [DataW.weights, Tryd.underlying36]
    simp [DataW.weightsEach, hk]))
  have hw7 := wf32 w7
  refine ⟨⟨a0, a1, a2, sv, sb, dv', db, a5, a6, a7, a8, a9, a10, a11, ol, dl⟩, _, _, ?_, ⟨⟨wf64 w0, wf64 w1, wf64 w2, swf, s16, sby, dwf, d16, dby, wf64 w5, wf64 w6, hw7.1, hw7.2, wf64 w11, og3.2.1, og3.1, dg3.2.1, dg3.1⟩, ⟨oa, ocap, rfl, og1, og4, og3⟩, ⟨da, dcap, rfl, dg1, dg4, dg3⟩⟩, by show ol.length ≤ _; omega, by show dl.length ≤ _; omega⟩
  have c := cut_at L 0 1
  have cend : L.drop (0 + 1 + 1 + 1 + 17 + 17 + 1 + 1 + 1 + 1 + 1 + 1 + 1 + 1 + 1) = [] := List.drop_eq_nil_of_le (by omega)
  rw [e0, cut_at L (0 + 1) 1, e1, cut_at L (0 + 1 + 1) 1, e2, cut_at L (0 + 1 + 1 + 1) 17, e3, cut_at L (0 + 1 + 1 + 1 + 17) 17, e4, cut_at L (0 + 1 + 1 + 1 + 17 + 17) 1, e5, cut_at L (0 + 1 + 1 + 1 + 17 + 17 + 1) 1, e6, cut_at L (0 + 1 + 1 + 1 + 17 + 17 + 1 + 1) 1, e7,
    cut_at L (0 + 1 + 1 + 1 + 17 + 17 + 1 + 1 + 1) 1, e8, cut_at L (0 + 1 + 1 + 1 + 17 + 17 + 1 + 1 + 1 + 1) 1, e9, cut_at L (0 + 1 + 1 + 1 + 17 + 17 + 1 + 1 + 1 + 1 + 1) 1, e10, cut_at L (0 + 1 + 1 + 1 + 17 + 17 + 1 + 1 + 1 + 1 + 1 + 1) 1, e11,
    cut_at L (0 + 1 + 1 + 1 + 17 + 17 + 1 + 1 + 1 + 1 + 1 + 1 + 1) 1, e12, cut_at L (0 + 1 + 1 + 1 + 17 + 17 + 1 + 1 + 1 + 1 + 1 + 1 + 1 + 1) 1, e13, cend] at c
  rw [List.drop_zero] at c
  rw [c]
  show _ = listP _ _ _
  simp [listP]
theorem open_pkt {H : Type} {enc : TypeId × Value → H} {W : World} {base : Nat} {x : Value} {d : DataW H} {pl : List MemPlace} (hv : Value.okWide Tryd.prog W .any base 36 x)
    (h : DataW.Trod enc Tryd.prog W 0 (fun _ => true) true 36 x d pl) (hw : ∀ n ∈ d.weights Tryd.prog 36, n ≤ reachBytes) :
    ∃ (p : Pk) (ov dv : Value), x = .agg (csP p ov dv) ∧ Pkt W p ov dv ∧ p.o.length ≤ 140737488351232 ∧ p.d.length ≤ 140737488351232 := by
  obtain ⟨cs, rfl, hsz⟩ := okWide_struct Tryd.underlying36 hv
  rw [cells28] at hsz
  obtain ⟨fuel, hf⟩ := h
  simp only [Value.cells] at hf
  obtain ⟨p, ov, dv, h1, h2⟩ := open_pktL (by simpa using hsz) hf hw
  refine ⟨p, ov, dv, ?_, h2⟩
  congr 1
  apply Array.ext'
  rw [h1]; rfl
/-- Packets that came in. -/
theorem open_pkts {H : Type} {enc : TypeId × Value → H} {w : World} {a : Option Addr} {len cap : Nat} {d : DataW H} {p : List MemPlace}
    (h : DataW.Trod enc Tryd.prog w 0 (fun _ => true) true 49 (.slice a len cap) d p) (hw : ∀ n ∈ d.weights Tryd.prog 49, n ≤ reachBytes) :
    ∃ xs : List X, xs.length = len ∧ len ≤ 925904528626 ∧ (∀ x ∈ xs, x.ok w ∧ x.p.o.length ≤ 140737488351232 ∧ x.p.d.length ≤ 140737488351232) ∧ (xs = [] ∨ ∃ b off, a = some ⟨b, off, none⟩ ∧ ∀ i x, xs[i]? = some x → w.rangeAt b (off + i * 46) x.cells) := by
  obtain ⟨fuel, hf⟩ := h
  have h : DataW.trod enc Tryd.prog w 0 (fun _ => true) true fuel 49 [.slice a len cap] = some (d, p) := by simpa [Value.cells] using hf
  rcases open_slice Tryd.underlying49 h with ⟨hcs, hx⟩ | ⟨x, l, c, m, n, D, Pl, hcs, hb, hl, hm, hmm, hx, hel⟩
  · simp only [List.cons.injEq, Value.slice.injEq, and_true] at hcs
    obtain ⟨rfl, rfl, rfl⟩ := hcs
    exact ⟨[], rfl, by omega, by simp, .inl rfl⟩
  · simp only [List.cons.injEq, Value.slice.injEq, and_true] at hcs
    obtain ⟨rfl, rfl, rfl⟩ := hcs
    simp only [Prod.mk.injEq] at hx
    obtain ⟨rfl, _⟩ := hx
    simp only [if_true] at hmm
    subst hmm
    rw [cells28] at hel
    have hreach : m * 152 ≤ 140737488351232 := by
      have := hw ((((List.range len).map D).length + ((List.range (m - len)).map fun j => D (len + j)).length) * Tryd.prog.bytesOf 36) (by simp [DataW.weights, Tryd.underlying49])
      rw [show Tryd.prog.bytesOf 36 = 152 from by kernel_rfl] at this
      simp only [List.length_map, List.length_range, reachBytes] at this
      omega
    by_cases h0 : len = 0
    · subst h0
      exact ⟨[], rfl, by omega, by simp, .inl rfl⟩
    obtain ⟨b, off, spot⟩ := x
    have hspot : spot = none := by
      obtain ⟨cs', h1, _⟩ := hel 0 (by omega)
      obtain ⟨_, hlen', hc⟩ := World.cells?_some h1
      have := hc 0 (by decide)
      rw [List.getElem?_eq_getElem (by omega)] at this
      simpa [Addr.add] using World.cell?_spot this
    subst hspot
    have hall : ∀ i, i < len → ∃ x : X, (x.ok w ∧ x.p.o.length ≤ 140737488351232 ∧ x.p.d.length ≤ 140737488351232) ∧ w.rangeAt b (off + i * 46) x.cells := by
      intro i hi
      obtain ⟨cs', h1, h2⟩ := hel i (by omega)
      rw [add_plain] at h1
      obtain ⟨_, hlen', hc⟩ := World.cells?_some h1
      obtain ⟨p, ov, dv, e1, e2, e3, e4⟩ := open_pktL hlen' h2 (fun k hk => hw k (by
        simp only [DataW.weights, Tryd.underlying49, List.mem_cons, List.mem_append]
        exact .inr (.inl (weightsAll_mem 36 _ (D i) (by simp; exact ⟨i, hi, rfl⟩) k hk))))
      subst e1
      refine ⟨⟨p, ov, dv⟩, ⟨e2, e3, e4⟩, fun j v hj => ?_⟩
      have hj' : j < 46 := by
        have := (List.getElem?_eq_some_iff.1 hj).1
        rw [← hlen']; exact this
      have hc' := hc j hj'
      rw [add_plain] at hc'
      rw [hc']; exact hj
    have hinh : Inhabited X := ⟨⟨zeroPk, .slice none 0 0, .slice none 0 0⟩⟩
    obtain ⟨F, hF⟩ := choose_lt (α := X) hall
    refine ⟨(List.range len).map F, by simp, by omega, ?_, .inr ⟨b, off, rfl, ?_⟩⟩
    · intro o ho
      obtain ⟨i, hi, rfl⟩ := List.mem_map.mp ho
      exact (hF i (by simpa using hi)).1
    · intro i o ho
      have hi : i < len := by
        rcases Nat.lt_or_ge i len with h | h
        · exact h
        · rw [List.getElem?_eq_none (by simpa using h)] at ho; simp at ho
      simp [hi] at ho
      subst ho
      exact (hF i hi).2
/-! A script: pieces of numbers. -/
structure Rw where
  o : Int
  n : Int
  q : Int
  m : Bool
def OkR (x : Rw) : Prop := i64ok x.o ∧ i64ok x.n ∧ i64ok x.q
def RowR (w : World) (a : Option Addr) (l : List Rw) : Prop := (∀ x ∈ l, OkR x) ∧ (l = [] ∨ ∃ b off, a = some ⟨b, off, none⟩ ∧ ∀ i x, l[i]? = some x → w.cell? ⟨b, off + i * 4, none⟩ = some (.int .i64 x.o) ∧ w.cell? ⟨b, off + i * 4 + 1, none⟩ = some (.int .i64 x.n) ∧ w.cell? ⟨b, off + i * 4 + 2, none⟩ = some (.int .i64 x.q) ∧ w.cell? ⟨b, off + i * 4 + 3, none⟩ = some (.bool x.m))
theorem RowR.on {w w' : World} {a : Option Addr} {l : List Rw} (h : RowR w a l) (hw : Away [] w w') : RowR w' a l := by
  refine ⟨h.1, ?_⟩
  rcases h.2 with h1 | ⟨b, off, rfl, h1⟩
  · exact .inl h1
  · exact .inr ⟨b, off, rfl, fun i x hx => ⟨hw.cell (by simp) (h1 i x hx).1, hw.cell (by simp) (h1 i x hx).2.1, hw.cell (by simp) (h1 i x hx).2.2.1, hw.cell (by simp) (h1 i x hx).2.2.2⟩⟩
theorem RowR.at {w : World} {a : Option Addr} {l : List Rw} (h : RowR w a l) {k : Nat} {x : Rw} (hk : l[k]? = some x) : ∃ b off, a = some ⟨b, off, none⟩ ∧ (w.cell? ⟨b, off + k * 4, none⟩ = some (.int .i64 x.o) ∧ w.cell? ⟨b, off + k * 4 + 1, none⟩ = some (.int .i64 x.n) ∧ w.cell? ⟨b, off + k * 4 + 2, none⟩ = some (.int .i64 x.q) ∧ w.cell? ⟨b, off + k * 4 + 3, none⟩ = some (.bool x.m)) ∧ OkR x := by
  rcases h.2 with h0 | ⟨b, off, rfl, hc⟩
  · rw [h0] at hk; simp at hk
  · exact ⟨b, off, rfl, hc k x hk, h.1 x (List.mem_of_getElem? hk)⟩
theorem cells39 : Tryd.prog.cellsOf 39 = 4 := by kernel_rfl
theorem four_of {α : Type} {l : List α} (h : l.length = 4) : ∃ a b c d, l = [a, b, c, d] := by
  match l, h with
  | [a, b, c, d], _ => exact ⟨a, b, c, d, rfl⟩
theorem open_raws {H : Type} {enc : TypeId × Value → H} {w : World} {a : Option Addr} {len cap : Nat} {d : DataW H} {p : List MemPlace}
    (h : DataW.Trod enc Tryd.prog w 0 (fun _ => true) true 22 (.slice a len cap) d p) (hw : ∀ n ∈ d.weights Tryd.prog 22, n ≤ reachBytes) :
    ∃ l : List Rw, l.length = len ∧ RowR w a l ∧ l.length ≤ 4398046510976 := by
  obtain ⟨fuel, hf⟩ := h
  have h : DataW.trod enc Tryd.prog w 0 (fun _ => true) true fuel 22 [.slice a len cap] = some (d, p) := by simpa [Value.cells] using hf
  rcases open_slice Tryd.underlying22 h with ⟨hcs, hx⟩ | ⟨x, l, c, m, n, D, Pl, hcs, hb, hl, hm, hmm, hx, hel⟩
  · simp only [List.cons.injEq, Value.slice.injEq, and_true] at hcs
    obtain ⟨rfl, rfl, rfl⟩ := hcs
    exact ⟨[], rfl, ⟨by simp, .inl rfl⟩, by simp⟩
  · simp only [List.cons.injEq, Value.slice.injEq, and_true] at hcs
    obtain ⟨rfl, rfl, rfl⟩ := hcs
    simp only [Prod.mk.injEq] at hx
    obtain ⟨rfl, _⟩ := hx
    simp only [if_true] at hmm
    subst hmm
    rw [cells39] at hel
    have hreach : m * 32 ≤ 140737488351232 := by
      have := hw ((((List.range len).map D).length + ((List.range (m - len)).map fun j => D (len + j)).length) * Tryd.prog.bytesOf 39) (by simp [DataW.weights, Tryd.underlying22])
      rw [show Tryd.prog.bytesOf 39 = 32 from by kernel_rfl] at this
      simp only [List.length_map, List.length_range, reachBytes] at this
      omega
    by_cases h0 : len = 0
    · subst h0
      exact ⟨[], rfl, ⟨by simp, .inl rfl⟩, by simp⟩
    obtain ⟨b, off, spot⟩ := x
    have hspot : spot = none := by
      obtain ⟨cs', h1, _⟩ := hel 0 (by omega)
      obtain ⟨_, hlen', hc⟩ := World.cells?_some h1
      have := hc 0 (by decide)
      rw [List.getElem?_eq_getElem (by omega)] at this
      simpa [Addr.add] using World.cell?_spot this
    subst hspot
    have hall : ∀ i, i < len → ∃ x : Rw, OkR x ∧ w.cell? ⟨b, off + i * 4, none⟩ = some (.int .i64 x.o) ∧ w.cell? ⟨b, off + i * 4 + 1, none⟩ = some (.int .i64 x.n) ∧ w.cell? ⟨b, off + i * 4 + 2, none⟩ = some (.int .i64 x.q) ∧ w.cell? ⟨b, off + i * 4 + 3, none⟩ = some (.bool x.m) := by
      intro i hi
      obtain ⟨cs', h1, h2⟩ := hel i (by omega)
      rw [add_plain] at h1
      obtain ⟨_, hlen', hc⟩ := World.cells?_some h1
      obtain ⟨v0, v1, v2, v3, rfl⟩ := four_of hlen'
      obtain ⟨xs, n', _, hx', hlen'', hxs, hfs⟩ := DataW.trod_struct Tryd.underlying39 h2
      have f0 : DataW.trod enc Tryd.prog w 0 (fun _ => true) true n' 3 (([v0, v1, v2, v3].drop 0).take (Tryd.prog.cellsOf 3)) = xs[0]? := hfs 0 _ rfl
      have f1 : DataW.trod enc Tryd.prog w 0 (fun _ => true) true n' 3 (([v0, v1, v2, v3].drop 1).take (Tryd.prog.cellsOf 3)) = xs[1]? := hfs 1 _ rfl
      have f2 : DataW.trod enc Tryd.prog w 0 (fun _ => true) true n' 3 (([v0, v1, v2, v3].drop 2).take (Tryd.prog.cellsOf 3)) = xs[2]? := hfs 2 _ rfl
      have f3 : DataW.trod enc Tryd.prog w 0 (fun _ => true) true n' 4 (([v0, v1, v2, v3].drop 3).take (Tryd.prog.cellsOf 4)) = xs[3]? := hfs 3 _ rfl
      obtain ⟨y0, y1, y2, y3, rfl⟩ := four_of (show xs.length = 4 by simpa using hxs)
      rw [sizes28.1] at f0 f1 f2
      rw [sizes28.2.1] at f3
      obtain ⟨a0, e0, _, w0⟩ := DataW.trod_int Tryd.underlying3 f0
      obtain ⟨a1, e1, _, w1⟩ := DataW.trod_int Tryd.underlying3 f1
      obtain ⟨a2, e2, _, w2⟩ := DataW.trod_int Tryd.underlying3 f2
      obtain ⟨a3, e3, _⟩ := DataW.trod_bool Tryd.underlying4 f3
      simp at e0 e1 e2 e3
      subst e0; subst e1; subst e2; subst e3
      refine ⟨⟨a0, a1, a2, a3⟩, ⟨wf64 w0, wf64 w1, wf64 w2⟩, ?_, ?_, ?_, ?_⟩
      · simpa [add_plain] using hc 0 (by decide)
      · simpa [add_plain] using hc 1 (by decide)
      · simpa [add_plain] using hc 2 (by decide)
      · simpa [add_plain] using hc 3 (by decide)
    have hinh : Inhabited Rw := ⟨⟨0, 0, 0, false⟩⟩
    obtain ⟨F, hF⟩ := choose_lt (α := Rw) hall
    refine ⟨(List.range len).map F, by simp, ⟨?_, .inr ⟨b, off, rfl, ?_⟩⟩, by simp; omega⟩
    · intro o ho
      obtain ⟨i, hi, rfl⟩ := List.mem_map.mp ho
      exact (hF i (by simpa using hi)).1
    · intro i o ho
      have hi : i < len := by
        rcases Nat.lt_or_ge i len with h | h
        · exact h
        · rw [List.getElem?_eq_none (by simpa using h)] at ho; simp at ho
      simp [hi] at ho
      subst ho
      exact (hF i hi).2
end Go.Proofs.YtbkeilboneaejaaDoor

namespace Go.Proofs.YtbkeilboneaejaaDoor
open Go.ChangeShapes Go.WideShapes Go.ChangeAt Go.RowKit
open S6 (wp_region_cls quiet_val quiet_call quiet_ld ld3 ld4 ld5 ld25 ld26 load28_run load24m_run)
set_option linter.unusedVariables false
set_option linter.unusedSimpArgs false
set_option maxRecDepth 20000

def offR (r : Rw) : Int := 8 * bits .and .i64 r.o 63
def lenR (r : Rw) : Nat := (if r.m = true then 8 * (1 + bits .and .i64 r.n 7) else 1 + bits .and .i64 r.n 63).toNat
def odR (r : Rw) : Int := bits .and .i64 r.q 1
def byR (r : Rw) (i : Nat) : Int := (3 * (offR r + i) + odR r) % 256
def datR (r : Rw) (n : Nat) : List Int := (List.range n).map (byR r)
def madeN (k : Pk) (r : Rw) (n : Nat) : Pk := ⟨k.v, 0, 0, k.sv, k.sb, k.dv, k.db, k.proto, 9, k.id, false, r.m, decide (k.v = 6), offR r, [], datR r n⟩
def madeP (k : Pk) (r : Rw) : Pk := madeN k r (lenR r)
theorem dat_len (r : Rw) (n : Nat) : (datR r n).length = n := by simp [datR]
theorem dat_bytes (r : Rw) (n : Nat) : Bytes (datR r n) := fun x hx => by
  obtain ⟨i, -, rfl⟩ := List.mem_map.1 hx
  unfold byR; omega
theorem dat_snoc (r : Rw) (n : Nat) : datR r (n + 1) = datR r n ++ [byR r n] := by simp [datR, List.range_succ]
theorem off_bd (r : Rw) : 0 ≤ offR r ∧ offR r ≤ 504 ∧ offR r % 8 = 0 := by
  have h : 0 ≤ bits .and .i64 r.o 63 ∧ bits .and .i64 r.o 63 ≤ 63 := band 63 (by omega) r.o
  unfold offR
  omega
theorem len_bd (r : Rw) : 1 ≤ lenR r ∧ lenR r ≤ 64 ∧ (r.m = true → lenR r % 8 = 0) := by
  have h1 : 0 ≤ bits .and .i64 r.n 63 ∧ bits .and .i64 r.n 63 ≤ 63 := band 63 (by omega) r.n
  have h2 : 0 ≤ bits .and .i64 r.n 7 ∧ bits .and .i64 r.n 7 ≤ 7 := band 7 (by omega) r.n
  unfold lenR
  split
  · exact ⟨by omega, by omega, fun _ => by omega⟩
  · rename_i h; exact ⟨by omega, by omega, fun e => absurd e h⟩
theorem od_bd (r : Rw) : 0 ≤ odR r ∧ odR r ≤ 1 := by
  exact band 1 (by omega) r.q
theorem made_ad {k : Pk} (h : Ad k) (r : Rw) (n : Nat) : Ad (madeN k r n) := h
theorem made_wf {k : Pk} (h : Wf k) (r : Rw) (n : Nat) (hn : n ≤ 64) : Wf (madeN k r n) := by
  have := off_bd r
  refine ⟨h.v, ?_, ?_, h.sv, h.sl, h.sb, h.dv, h.dl, h.db, h.proto, ?_, h.id0, h.id1, ?_, Bytes.nil, by simp [madeN], dat_bytes r n, by show (datR r n).length ≤ _; rw [dat_len]; omega⟩
  · unfold i64ok madeN; simp
  · unfold i64ok madeN; simp
  · unfold i64ok madeN; simp
  · unfold i64ok; show _ ≤ offR r ∧ offR r ≤ _; omega
theorem mb36 {k : Pk} (h : Ad k) (r : Rw) (fr : Bool) (off : Int) (w : World) :
    (Instr.build 36 #[(0, .int .i64 k.v), (3, .agg (csA k.sv k.sb)), (4, .agg (csA k.dv k.db)), (5, .int .i64 k.proto), (7, .int .u32 k.id), (6, .int .i64 9), (10, .bool fr), (11, .int .i64 off), (9, .bool r.m)]).run Tryd.prog w = .ok (.agg (csP ⟨k.v, 0, 0, k.sv, k.sb, k.dv, k.db, k.proto, 9, k.id, false, r.m, fr, off, [], []⟩ (.slice none 0 0) (.slice none 0 0))) w := by
  obtain ⟨v, tos, flow, sv, sb, dv', db, proto, ttl, id, df, more, frag, off', o, d⟩ := k
  obtain ⟨h1, h2⟩ := h
  simp only at h1 h2
  obtain ⟨b0, b1, b2, b3, b4, b5, b6, b7, b8, b9, b10, b11, b12, b13, b14, b15, rfl⟩ := list16 h1
  obtain ⟨c0, c1, c2, c3, c4, c5, c6, c7, c8, c9, c10, c11, c12, c13, c14, c15, rfl⟩ := list16 h2
  kernel_rfl
theorem boxK_adr {w : World} {g : Nat} {p : Pk} (ha : Ad p) (h : BoxK w g (csK p)) : w.rangeAt g 1 (cellsA p.sv p.sb) ∧ w.rangeAt g 18 (cellsA p.dv p.db) := by
  have hr := boxK_range h
  have hs : (cellsA p.sv p.sb).length = 17 := by simp [cellsA, ha.1]
  have hd : (cellsA p.dv p.db).length = 17 := by simp [cellsA, ha.2]
  constructor
  · intro j v hj
    have hl := (List.getElem?_eq_some_iff.1 hj).1
    have := hr (1 + j) v (by unfold listK; rw [Nat.add_comm 1 j, List.getElem?_cons_succ, List.getElem?_append_left hl, hj])
    rwa [Nat.zero_add] at this
  · intro j v hj
    have hl := (List.getElem?_eq_some_iff.1 hj).1
    have := hr (18 + j) v (by
      unfold listK
      rw [show 18 + j = 17 + j + 1 from by omega, List.getElem?_cons_succ, List.getElem?_append_right (by omega), hs, show 17 + j - 17 = j from by omega, List.getElem?_append_left hl, hj])
    rwa [Nat.zero_add] at this
def rawV (r : Rw) : Value := .agg #[.int .i64 r.o, .int .i64 r.n, .int .i64 r.q, .bool r.m]
def MadeOut (w : World) (q : Pk) (E : Ending) (w' : World) : Prop := ∃ dv, E = .returned (.agg (csP q (.slice none 0 0) dv)) ∧ Pkt w' q (.slice none 0 0) dv ∧ New w.heap.size dv ∧ Away [] w w'
set_option maxHeartbeats 8000000 in
theorem made_c (w : World) (k : Pk) (hk : Wf k) (r : Rw) (hr : OkR r) : Calls Tryd.prog 8 #[.agg (csK k), rawV r] w (MadeOut w (madeP k r)) := by
  have HKA := Lib.hid hk.ad
  have HKW := Lib.hid hk
  obtain ⟨ro, rn, rq, rm⟩ := r
  simp only [rawV]
  have hz : 0 ≤ bits .and .i64 ro 63 ∧ bits .and .i64 ro 63 ≤ 63 := band 63 (by omega) ro
  have hy : 0 ≤ bits .and .i64 rn 63 ∧ bits .and .i64 rn 63 ≤ 63 := band 63 (by omega) rn
  have hy7 : 0 ≤ bits .and .i64 rn 7 ∧ bits .and .i64 rn 7 ≤ 7 := band 7 (by omega) rn
  have hx : 0 ≤ bits .and .i64 rq 1 ∧ bits .and .i64 rq 1 ≤ 1 := band 1 (by omega) rq
  have hlb := len_bd ⟨ro, rn, rq, rm⟩
  have HLB := Lib.hid hlb
  have hw26 := mb36 hk.ad ⟨ro, rn, rq, rm⟩ (decide (k.v = 6)) (8 * bits .and .i64 ro 63)
  have HOF : Hid (offR ⟨ro, rn, rq, rm⟩ = 8 * bits .and .i64 ro 63) := rfl
  have HOD : Hid (odR ⟨ro, rn, rq, rm⟩ = bits .and .i64 rq 1) := rfl
  have HLN : Hid (((lenR ⟨ro, rn, rq, rm⟩ : Nat) : Int) = if rm = true then 8 * (1 + bits .and .i64 rn 7) else 1 + bits .and .i64 rn 63) := by
    show _ = _
    unfold lenR
    simp only
    split <;> omega
  have HM0 : Hid (madeN k ⟨ro, rn, rq, rm⟩ 0 = ⟨k.v, 0, 0, k.sv, k.sb, k.dv, k.db, k.proto, 9, k.id, false, rm, decide (k.v = 6), 8 * bits .and .i64 ro 63, [], []⟩) := rfl
  have HMS : Hid (∀ n d, (csP (madeN k ⟨ro, rn, rq, rm⟩ n) (.slice none 0 0) d).setIfInBounds 45 = fun x => csP (madeN k ⟨ro, rn, rq, rm⟩ (n + 1)) (.slice none 0 0) x) := fun n d => by
    funext x
    exact (csP_set (made_ad HKA.out _ n) (.slice none 0 0) d).2.2.2.2.2.2.2.2.2.2.2.2.2 (datR ⟨ro, rn, rq, rm⟩ (n + 1)) x
  have HWF : Hid (∀ n, n ≤ 64 → Wf (madeN k ⟨ro, rn, rq, rm⟩ n)) := fun n hn => made_wf HKW.out _ n hn
  have HBY : Hid (∀ i : Nat, byR ⟨ro, rn, rq, rm⟩ i = (3 * (8 * bits .and .i64 ro 63 + i) + bits .and .i64 rq 1) % 256) := fun i => rfl
  have HMP : Hid (madeP k ⟨ro, rn, rq, rm⟩ = madeN k ⟨ro, rn, rq, rm⟩ (lenR ⟨ro, rn, rq, rm⟩)) := rfl
  have HME : Hid (∀ n, (madeN k ⟨ro, rn, rq, rm⟩ n).off = 8 * bits .and .i64 ro 63 ∧ (madeN k ⟨ro, rn, rq, rm⟩ n).d = datR ⟨ro, rn, rq, rm⟩ n ∧ (madeN k ⟨ro, rn, rq, rm⟩ n).o = []) := fun n => ⟨rfl, rfl, rfl⟩
  simp only at hw26
  rw [← HM0.out] at hw26
  have HAN : Hid (∀ n, Ad (madeN k ⟨ro, rn, rq, rm⟩ n)) := fun n => made_ad HKA.out _ n
  obtain ⟨N, hN⟩ : ∃ N, N = lenR ⟨ro, rn, rq, rm⟩ := ⟨_, rfl⟩
  rw [← hN] at HLN HMP HLB hlb
  obtain ⟨n1, n2, -⟩ := hlb
  have hdb := dat_bytes ⟨ro, rn, rq, rm⟩
  have hds := dat_snoc ⟨ro, rn, rq, rm⟩
  have hdl := dat_len ⟨ro, rn, rq, rm⟩
  have HDB := Lib.hid hdb
  have HDS := Lib.hid hds
  have HDL := Lib.hid hdl
  have HD0 : Hid (datR ⟨ro, rn, rq, rm⟩ 0 = []) := rfl
  generalize Ez : bits .and .i64 ro 63 = z at *
  generalize Ey : bits .and .i64 rn 63 = y at *
  generalize Ey7 : bits .and .i64 rn 7 = y7 at *
  generalize Eod : bits .and .i64 rq 1 = od at *
  obtain ⟨z1, z2⟩ := hz
  obtain ⟨y1, y2⟩ := hy
  obtain ⟨y71, y72⟩ := hy7
  obtain ⟨x1, x2⟩ := hx
  have HW := Lib.hid hw26
  obtain ⟨QP, hQP⟩ : ∃ QP, QP = madeP k ⟨ro, rn, rq, rm⟩ := ⟨_, rfl⟩
  rw [← hQP]
  rw [← hQP] at HMP
  generalize hMN : madeN k ⟨ro, rn, rq, rm⟩ = MN at *
  generalize hDR : datR ⟨ro, rn, rq, rm⟩ = DR at *
  generalize hBR : byR ⟨ro, rn, rq, rm⟩ = BR at *
  clear hw26 hk hr hN hdb hds hdl hQP hMN hDR hBR
  cases rm with
  | true =>
    have hNe : (N : Int) = 8 * (1 + y7) := by have := HLN.out; simpa using this
    go_enter Tryd.func8, Tryd.ntmps8
    go_wp2_with (first
      | (refine wpList_boxR rfl 29 _ rfl (csK k) rfl ?_; refine Hid.out ?_))
    refine Lib.hid ?_
    intro g2 w2 hg2 hb2 haw2
    have HB2 : Hid (BoxK w2 g2 (csK k)) := hb2
    have HA2 := Lib.hid haw2
    have HZ2 := Lib.hid haw2.size
    clear hb2 haw2
    go_wp2_with (refine wpList_alloc28 rfl rfl ?_; refine Hid.out ?_)
    refine Lib.hid ?_
    intro g4 w4 hg4 hb4 haw4
    have HA3 : Hid (Away [] w2 (w2.alloc (.cells #[.int .i64 ro, .int .i64 rn, .int .i64 rq, .bool true] 39))) := (Away.refl _ _).alloc _
    have r0 : w4.cell? ⟨w2.heap.size, 0, none⟩ = some (.int .i64 ro) := haw4.cell (by simp) (by simp)
    have r1 : w4.cell? ⟨w2.heap.size, 1, none⟩ = some (.int .i64 rn) := haw4.cell (by simp) (by simp)
    have r2 : w4.cell? ⟨w2.heap.size, 2, none⟩ = some (.int .i64 rq) := haw4.cell (by simp) (by simp)
    have r3 : w4.cell? ⟨w2.heap.size, 3, none⟩ = some (.bool true) := haw4.cell (by simp) (by simp)
    have HB4 := Lib.hid hb4
    replace HB2 : Hid (BoxK w4 g2 (csK k)) := (HA3.out.trans haw4).keep (by simp) HB2.out
    replace HA2 := Lib.hid ((HA2.out.trans HA3.out).trans haw4)
    have hl4 := hb4.lt
    have hs2 : w2.heap.size < w4.heap.size := by have := haw4.size; simp at this; omega
    have hg4' : w2.heap.size < g4 := by first | omega | (simp at hg4; omega)
    obtain ⟨g3, hg3⟩ : ∃ g3, g3 = w2.heap.size := ⟨_, rfl⟩
    rw [← hg3] at r0 r1 r2 r3 hs2 hg4'
    rw [← hg3]
    have HG3 : Hid (w.heap.size ≤ g3) := by show _ ≤ _; rw [hg3]; exact HZ2.out
    clear hb4 haw4 HA3 hg4 hg3
    have v0 : w4.cell? ⟨g2, 0, none⟩ = some (.int .i64 k.v) := by rw [cell_of_block HB2.out]; exact (csK_get HKA.out).1
    have v35 : w4.cell? ⟨g2, 35, none⟩ = some (.int .i64 k.proto) := by rw [cell_of_block HB2.out]; exact (csK_get HKA.out).2.1
    have v36 : w4.cell? ⟨g2, 36, none⟩ = some (.int .u32 k.id) := by rw [cell_of_block HB2.out]; exact (csK_get HKA.out).2.2.1
    have HR1 := Lib.hid (boxK_adr HKA.out HB2.out)
    have HAN0 := Lib.hid (HAN.out 0)
    go_wp2_with (refine wpList_load24m rfl _ rfl g2 1 rfl k.sv k.sb (by exact HR1.out.1) HKA.out.1 ?_; refine Hid.out ?_)
    refine Lib.hid ?_
    go_wp2_with (refine wpList_load24m rfl _ rfl g2 18 rfl k.dv k.db (by exact HR1.out.2) HKA.out.2 ?_; refine Hid.out ?_)
    refine Lib.hid ?_
    go_wp2_with (first
      | (refine wpList_buildR rfl 36 _ rfl #[(0, .int .i64 k.v), (3, .agg (csA k.sv k.sb)), (4, .agg (csA k.dv k.db)), (5, .int .i64 k.proto), (7, .int .u32 k.id), (6, .int .i64 9), (10, .bool (decide (k.v = 6))), (11, .int .i64 (8 * z)), (9, .bool true)] (by simp only [List.map_toArray, List.map_cons, List.map_nil]; rfl) _ HW.out ?_)
      | (refine wpList_new28 rfl rfl rfl _ _ rfl (MN 0) (.slice none 0 0) (.slice none 0 0) (fun g => rfl) (fun g => rfl) HAN0.out rfl rfl ?_; refine Hid.out ?_))
    refine Lib.hid ?_
    intro g5 w5 hg5 hb5 haw5
    have HB5 := Lib.hid hb5
    replace HB4 := Lib.hid (HB4.out.on haw5)
    replace HA2 := Lib.hid (HA2.out.trans haw5)
    replace r0 := haw5.cell (by simp) r0
    replace r1 := haw5.cell (by simp) r1
    replace r2 := haw5.cell (by simp) r2
    replace r3 := haw5.cell (by simp) r3
    have hl5 := hb5.lt
    clear hb5 haw5 v0 v35 v36
    go_wp2_with fail
    go_loopw [7] (fun i wr => ∃ (kk : Nat) (dv : Value), kk ≤ N ∧ i = .int .i64 (kk : Int) ∧ BoxP wr g5 (MN kk) (.slice none 0 0) dv ∧ Owns wr dv (DR kk) ∧ New w.heap.size dv ∧ (∀ x, dv.ownBlock = some x → x ≠ g5 ∧ x ≠ g4 ∧ x ≠ g3) ∧ Away [g5] w5 wr ∧ Away [] w wr ∧ (∀ x, dv.ownBlock = some x → w5.heap.size ≤ x)) (fun i _ => N - (intOf i).toNat)
    case atStart => exact ⟨0, .slice none 0 0, by omega, rfl, HB5.out, by rw [HD0.out]; exact Owns.nil _, New.nil _, by simp [Value.ownBlock], Away.refl _ _, HA2.out, by simp [Value.ownBlock]⟩
    case round =>
      obtain ⟨kk, dv, hkk, rfl, hbx, hov, hnw, hne, haw, haw0, hne5⟩ := hrel
      have HNE5 := Lib.hid hne5
      clear hne5
      obtain ⟨da, dn, dc, rfl⟩ := hov.shp
      have HBX := Lib.hid hbx
      have HOV := Lib.hid hov
      have HNW := Lib.hid hnw
      have HNE := Lib.hid hne
      have HAW := Lib.hid haw
      have HAW0 := Lib.hid haw0
      have q2 := haw.cell (by simp; omega) r2
      clear hbx hov hnw hne haw haw0
      have HANK := Lib.hid (HAN.out kk)
      have c43 := (HBX.out.cells HANK.out).off
      rw [(HME.out kk).1] at c43
      have c45 := (HBX.out.cells HANK.out).d
      have f45 := HBX.out.free 45
      by_cases hlt : kk < N
      · obtain ⟨bv, hbv⟩ : ∃ bv, bv = IntKind.u8.wrap (3 * (8 * z + (kk : Int)) + od) := ⟨_, rfl⟩
        have hbe : bv = BR kk := by rw [hbv, HBY.out, IntKind.wrap_u8]
        have HBE := Lib.hid hbe
        have hbv' := hbv.symm
        have HAL : Hid (Away [] wr (wr.alloc (.cells #[.int .u8 bv] 5))) := (Away.refl _ _).alloc _
        have HSRC : Hid (∀ j u, ([bv].map (Value.int .u8))[j]? = some u → (wr.alloc (.cells #[.int .u8 bv] 5)).cell? ((⟨wr.heap.size, 0, none⟩ : Addr).add j) = some u) := lit_cells wr [bv] wr.heap.size rfl
        have HO2 : Hid (Owns (wr.alloc (.cells #[.int .u8 bv] 5)) (.slice da dn dc) (DR kk)) := HOV.out.on HAL.out
        have HB2x := Lib.hid (HBX.out.on HAL.out)
        have HLK : Hid ((DR kk).length ≤ 64) := by show _ ≤ _; rw [HDL.out]; omega
        have HWS : Hid (wr.heap.size = wr.heap.size) := rfl
        clear hbv hbe
        go_wp2_with (at_builtin; refine wpList_app rfl _ _ rfl _ (DR kk) [bv] rfl (by exact HO2.out) ⟨_, 0, none⟩ 1 1 rfl rfl (by exact HSRC.out) (by have := HLK.out; omega) ?_; refine Hid.out ?_)
        refine Lib.hid ?_
        intro v2 w6 hov2 hgr2 hmv2
        have hA6 : Away (Value.slice da dn dc).ownBlock.toList wr w6 := (HAL.out.mono (by simp)).trans ((Away.refl _ _).grown hgr2 (fun x hx => .inl (by simp [hx])))
        have hng : ∀ x, x = g5 ∨ x = g4 ∨ x = g3 → x ∉ (Value.slice da dn dc).ownBlock.toList := fun x hx hm => by
          have := HNE.out x (by simpa using hm)
          omega
        have hbx6 := HBX.out.away hA6 (hng g5 (.inl rfl))
        have c6 := (hbx6.cells HANK.out).d
        have f6 := hbx6.free 45
        obtain ⟨a6, n6, k6, rfl⟩ := hov2.shp
        have HMV : Hid (∀ x, (Value.slice a6 n6 k6).ownBlock = some x → (Value.slice da dn dc).ownBlock = some x ∨ wr.heap.size ≤ x) := fun x hx => by
          rcases hmv2 x hx with h | h
          · exact .inl h
          · exact .inr (by simp at h; omega)
        have hwz : w5.heap.size ≤ wr.heap.size := HAW.out.size
        have HB7 := Lib.hid (hbx6.put 45 (.slice a6 n6 k6) (by rw [HMS.out]))
        have HA67 := Lib.hid (away_put (w := w6) (g := g5) 45 (.slice a6 n6 k6))
        have HN7 : Hid (∀ x, (Value.slice a6 n6 k6).ownBlock = some x → x ≠ g5 ∧ x ≠ g4 ∧ x ≠ g3) := fun x hx => by
          rcases HMV.out x hx with h | h
          · exact HNE.out x h
          · omega
        have HO7 : Hid (Owns (w6.setCell ⟨g5, 45, none⟩ (.slice a6 n6 k6)) (.slice a6 n6 k6) (DR (kk + 1))) := by
          show Owns _ _ _
          rw [HDS.out, ← HBE.out]
          exact hov2.away HA67.out (fun x hx => by simpa using (HN7.out x hx).1)
        have HW7 : Hid (New w.heap.size (.slice a6 n6 k6)) := fun x hx => by
          rcases HMV.out x hx with h | h
          · exact HNW.out x h
          · have := HAW0.out.size; omega
        have HAWX : Hid (Away [g5] w5 (w6.setCell ⟨g5, 45, none⟩ (.slice a6 n6 k6))) := (HAW.out.next hA6 (fun x hx => by
          by_cases hx5 : x < w5.heap.size
          · exact absurd (HNE5.out x (by simpa using hx)) (by omega)
          · exact .inr (by omega))).trans HA67.out
        have HAWY : Hid (Away [] w (w6.setCell ⟨g5, 45, none⟩ (.slice a6 n6 k6))) := (HAW0.out.next hA6 (fun x hx => .inr (HNW.out x (by simpa using hx)))).next HA67.out (fun x hx => .inr (by simp at hx; have := HG3.out; omega))
        have HNE6 : Hid (∀ x, (Value.slice a6 n6 k6).ownBlock = some x → w5.heap.size ≤ x) := fun x hx => by
          rcases HMV.out x hx with h | h
          · exact HNE5.out x h
          · omega
        clear hov2 hgr2 hmv2 hA6 hng hbx6
        go_wp2_with fail
        go_roundw
        case rel => exact ⟨kk + 1, _, by omega, by go_num, HB7.out, HO7.out, HW7.out, HN7.out, HAWX.out, HAWY.out, HNE6.out⟩
        case measure => simp [intOf]; omega
      · have hkn : kk = N := by omega
        subst hkn
        have HNEG := HNE
        replace HB4 : Hid (BoxP wr g4 zeroPk (.slice none 0 0) (.slice none 0 0)) := HB4.out.away HAW.out (by simp; omega)
        have HD1 := Lib.hid HOV.out.one
        go_wp2_with (first
          | (refine wpList_load28 rfl _ rfl _ rfl (MN kk) _ _ (by exact HBX.out) HANK.out ?_)
          | (refine wpList_store28 rfl _ _ rfl _ rfl (MN kk) (.slice none 0 0) (.slice da dn dc) rfl zeroPk (.slice none 0 0) (.slice none 0 0) (by exact HB4.out) HANK.out ⟨rfl, rfl⟩ rfl HD1.out ?_; refine Hid.out ?_))
        refine Lib.hid ?_
        intro w9 hb9 haw9
        have HB9 := Lib.hid hb9
        have HA9 : Hid (Away [] w w9) := HAW0.out.next haw9 (fun x hx => .inr (by simp at hx; have := HG3.out; omega))
        have HO9 := Lib.hid (HOV.out.away haw9 (fun x hx => by simpa using (HNE.out x hx).2.1))
        clear hb9 haw9
        go_wp2_with fail
        exact bodyPost_ret (result28 rfl _ _ _ _ _ _ rfl HB9.out HANK.out) rfl (by
          rw [HMP.out]
          refine ⟨_, rfl, ⟨HWF.out kk (by omega), by rw [(HME.out kk).2.2]; exact Sl.nil _, ?_⟩, HNW.out, HA9.out⟩
          rw [(HME.out kk).2.1]
          exact HO9.out.sl (HDB.out kk) (by rw [HDL.out]; omega))
  | false =>
    have hNe : (N : Int) = 1 + y := by have := HLN.out; simpa using this
    go_enter Tryd.func8, Tryd.ntmps8
    go_wp2_with (first
      | (refine wpList_boxR rfl 29 _ rfl (csK k) rfl ?_; refine Hid.out ?_))
    refine Lib.hid ?_
    intro g2 w2 hg2 hb2 haw2
    have HB2 : Hid (BoxK w2 g2 (csK k)) := hb2
    have HA2 := Lib.hid haw2
    have HZ2 := Lib.hid haw2.size
    clear hb2 haw2
    go_wp2_with (refine wpList_alloc28 rfl rfl ?_; refine Hid.out ?_)
    refine Lib.hid ?_
    intro g4 w4 hg4 hb4 haw4
    have HA3 : Hid (Away [] w2 (w2.alloc (.cells #[.int .i64 ro, .int .i64 rn, .int .i64 rq, .bool false] 39))) := (Away.refl _ _).alloc _
    have r0 : w4.cell? ⟨w2.heap.size, 0, none⟩ = some (.int .i64 ro) := haw4.cell (by simp) (by simp)
    have r1 : w4.cell? ⟨w2.heap.size, 1, none⟩ = some (.int .i64 rn) := haw4.cell (by simp) (by simp)
    have r2 : w4.cell? ⟨w2.heap.size, 2, none⟩ = some (.int .i64 rq) := haw4.cell (by simp) (by simp)
    have r3 : w4.cell? ⟨w2.heap.size, 3, none⟩ = some (.bool false) := haw4.cell (by simp) (by simp)
    have HB4 := Lib.hid hb4
    replace HB2 : Hid (BoxK w4 g2 (csK k)) := (HA3.out.trans haw4).keep (by simp) HB2.out
    replace HA2 := Lib.hid ((HA2.out.trans HA3.out).trans haw4)
    have hl4 := hb4.lt
    have hs2 : w2.heap.size < w4.heap.size := by have := haw4.size; simp at this; omega
    have hg4' : w2.heap.size < g4 := by first | omega | (simp at hg4; omega)
    obtain ⟨g3, hg3⟩ : ∃ g3, g3 = w2.heap.size := ⟨_, rfl⟩
    rw [← hg3] at r0 r1 r2 r3 hs2 hg4'
    rw [← hg3]
    have HG3 : Hid (w.heap.size ≤ g3) := by show _ ≤ _; rw [hg3]; exact HZ2.out
    clear hb4 haw4 HA3 hg4 hg3
    have v0 : w4.cell? ⟨g2, 0, none⟩ = some (.int .i64 k.v) := by rw [cell_of_block HB2.out]; exact (csK_get HKA.out).1
    have v35 : w4.cell? ⟨g2, 35, none⟩ = some (.int .i64 k.proto) := by rw [cell_of_block HB2.out]; exact (csK_get HKA.out).2.1
    have v36 : w4.cell? ⟨g2, 36, none⟩ = some (.int .u32 k.id) := by rw [cell_of_block HB2.out]; exact (csK_get HKA.out).2.2.1
    have HR1 := Lib.hid (boxK_adr HKA.out HB2.out)
    have HAN0 := Lib.hid (HAN.out 0)
    go_wp2_with (refine wpList_load24m rfl _ rfl g2 1 rfl k.sv k.sb (by exact HR1.out.1) HKA.out.1 ?_; refine Hid.out ?_)
    refine Lib.hid ?_
    go_wp2_with (refine wpList_load24m rfl _ rfl g2 18 rfl k.dv k.db (by exact HR1.out.2) HKA.out.2 ?_; refine Hid.out ?_)
    refine Lib.hid ?_
    go_wp2_with (first
      | (refine wpList_buildR rfl 36 _ rfl #[(0, .int .i64 k.v), (3, .agg (csA k.sv k.sb)), (4, .agg (csA k.dv k.db)), (5, .int .i64 k.proto), (7, .int .u32 k.id), (6, .int .i64 9), (10, .bool (decide (k.v = 6))), (11, .int .i64 (8 * z)), (9, .bool false)] (by simp only [List.map_toArray, List.map_cons, List.map_nil]; rfl) _ HW.out ?_)
      | (refine wpList_new28 rfl rfl rfl _ _ rfl (MN 0) (.slice none 0 0) (.slice none 0 0) (fun g => rfl) (fun g => rfl) HAN0.out rfl rfl ?_; refine Hid.out ?_))
    refine Lib.hid ?_
    intro g5 w5 hg5 hb5 haw5
    have HB5 := Lib.hid hb5
    replace HB4 := Lib.hid (HB4.out.on haw5)
    replace HA2 := Lib.hid (HA2.out.trans haw5)
    replace r0 := haw5.cell (by simp) r0
    replace r1 := haw5.cell (by simp) r1
    replace r2 := haw5.cell (by simp) r2
    replace r3 := haw5.cell (by simp) r3
    have hl5 := hb5.lt
    clear hb5 haw5 v0 v35 v36
    go_wp2_with fail
    go_loopw [7] (fun i wr => ∃ (kk : Nat) (dv : Value), kk ≤ N ∧ i = .int .i64 (kk : Int) ∧ BoxP wr g5 (MN kk) (.slice none 0 0) dv ∧ Owns wr dv (DR kk) ∧ New w.heap.size dv ∧ (∀ x, dv.ownBlock = some x → x ≠ g5 ∧ x ≠ g4 ∧ x ≠ g3) ∧ Away [g5] w5 wr ∧ Away [] w wr ∧ (∀ x, dv.ownBlock = some x → w5.heap.size ≤ x)) (fun i _ => N - (intOf i).toNat)
    case atStart => exact ⟨0, .slice none 0 0, by omega, rfl, HB5.out, by rw [HD0.out]; exact Owns.nil _, New.nil _, by simp [Value.ownBlock], Away.refl _ _, HA2.out, by simp [Value.ownBlock]⟩
    case round =>
      obtain ⟨kk, dv, hkk, rfl, hbx, hov, hnw, hne, haw, haw0, hne5⟩ := hrel
      have HNE5 := Lib.hid hne5
      clear hne5
      obtain ⟨da, dn, dc, rfl⟩ := hov.shp
      have HBX := Lib.hid hbx
      have HOV := Lib.hid hov
      have HNW := Lib.hid hnw
      have HNE := Lib.hid hne
      have HAW := Lib.hid haw
      have HAW0 := Lib.hid haw0
      have q2 := haw.cell (by simp; omega) r2
      clear hbx hov hnw hne haw haw0
      have HANK := Lib.hid (HAN.out kk)
      have c43 := (HBX.out.cells HANK.out).off
      rw [(HME.out kk).1] at c43
      have c45 := (HBX.out.cells HANK.out).d
      have f45 := HBX.out.free 45
      by_cases hlt : kk < N
      · obtain ⟨bv, hbv⟩ : ∃ bv, bv = IntKind.u8.wrap (3 * (8 * z + (kk : Int)) + od) := ⟨_, rfl⟩
        have hbe : bv = BR kk := by rw [hbv, HBY.out, IntKind.wrap_u8]
        have HBE := Lib.hid hbe
        have hbv' := hbv.symm
        have HAL : Hid (Away [] wr (wr.alloc (.cells #[.int .u8 bv] 5))) := (Away.refl _ _).alloc _
        have HSRC : Hid (∀ j u, ([bv].map (Value.int .u8))[j]? = some u → (wr.alloc (.cells #[.int .u8 bv] 5)).cell? ((⟨wr.heap.size, 0, none⟩ : Addr).add j) = some u) := lit_cells wr [bv] wr.heap.size rfl
        have HO2 : Hid (Owns (wr.alloc (.cells #[.int .u8 bv] 5)) (.slice da dn dc) (DR kk)) := HOV.out.on HAL.out
        have HB2x := Lib.hid (HBX.out.on HAL.out)
        have HLK : Hid ((DR kk).length ≤ 64) := by show _ ≤ _; rw [HDL.out]; omega
        have HWS : Hid (wr.heap.size = wr.heap.size) := rfl
        clear hbv hbe
        go_wp2_with (at_builtin; refine wpList_app rfl _ _ rfl _ (DR kk) [bv] rfl (by exact HO2.out) ⟨_, 0, none⟩ 1 1 rfl rfl (by exact HSRC.out) (by have := HLK.out; omega) ?_; refine Hid.out ?_)
        refine Lib.hid ?_
        intro v2 w6 hov2 hgr2 hmv2
        have hA6 : Away (Value.slice da dn dc).ownBlock.toList wr w6 := (HAL.out.mono (by simp)).trans ((Away.refl _ _).grown hgr2 (fun x hx => .inl (by simp [hx])))
        have hng : ∀ x, x = g5 ∨ x = g4 ∨ x = g3 → x ∉ (Value.slice da dn dc).ownBlock.toList := fun x hx hm => by
          have := HNE.out x (by simpa using hm)
          omega
        have hbx6 := HBX.out.away hA6 (hng g5 (.inl rfl))
        have c6 := (hbx6.cells HANK.out).d
        have f6 := hbx6.free 45
        obtain ⟨a6, n6, k6, rfl⟩ := hov2.shp
        have HMV : Hid (∀ x, (Value.slice a6 n6 k6).ownBlock = some x → (Value.slice da dn dc).ownBlock = some x ∨ wr.heap.size ≤ x) := fun x hx => by
          rcases hmv2 x hx with h | h
          · exact .inl h
          · exact .inr (by simp at h; omega)
        have hwz : w5.heap.size ≤ wr.heap.size := HAW.out.size
        have HB7 := Lib.hid (hbx6.put 45 (.slice a6 n6 k6) (by rw [HMS.out]))
        have HA67 := Lib.hid (away_put (w := w6) (g := g5) 45 (.slice a6 n6 k6))
        have HN7 : Hid (∀ x, (Value.slice a6 n6 k6).ownBlock = some x → x ≠ g5 ∧ x ≠ g4 ∧ x ≠ g3) := fun x hx => by
          rcases HMV.out x hx with h | h
          · exact HNE.out x h
          · omega
        have HO7 : Hid (Owns (w6.setCell ⟨g5, 45, none⟩ (.slice a6 n6 k6)) (.slice a6 n6 k6) (DR (kk + 1))) := by
          show Owns _ _ _
          rw [HDS.out, ← HBE.out]
          exact hov2.away HA67.out (fun x hx => by simpa using (HN7.out x hx).1)
        have HW7 : Hid (New w.heap.size (.slice a6 n6 k6)) := fun x hx => by
          rcases HMV.out x hx with h | h
          · exact HNW.out x h
          · have := HAW0.out.size; omega
        have HAWX : Hid (Away [g5] w5 (w6.setCell ⟨g5, 45, none⟩ (.slice a6 n6 k6))) := (HAW.out.next hA6 (fun x hx => by
          by_cases hx5 : x < w5.heap.size
          · exact absurd (HNE5.out x (by simpa using hx)) (by omega)
          · exact .inr (by omega))).trans HA67.out
        have HAWY : Hid (Away [] w (w6.setCell ⟨g5, 45, none⟩ (.slice a6 n6 k6))) := (HAW0.out.next hA6 (fun x hx => .inr (HNW.out x (by simpa using hx)))).next HA67.out (fun x hx => .inr (by simp at hx; have := HG3.out; omega))
        have HNE6 : Hid (∀ x, (Value.slice a6 n6 k6).ownBlock = some x → w5.heap.size ≤ x) := fun x hx => by
          rcases HMV.out x hx with h | h
          · exact HNE5.out x h
          · omega
        clear hov2 hgr2 hmv2 hA6 hng hbx6
        go_wp2_with fail
        go_roundw
        case rel => exact ⟨kk + 1, _, by omega, by go_num, HB7.out, HO7.out, HW7.out, HN7.out, HAWX.out, HAWY.out, HNE6.out⟩
        case measure => simp [intOf]; omega
      · have hkn : kk = N := by omega
        subst hkn
        have HNEG := HNE
        replace HB4 : Hid (BoxP wr g4 zeroPk (.slice none 0 0) (.slice none 0 0)) := HB4.out.away HAW.out (by simp; omega)
        have HD1 := Lib.hid HOV.out.one
        go_wp2_with (first
          | (refine wpList_load28 rfl _ rfl _ rfl (MN kk) _ _ (by exact HBX.out) HANK.out ?_)
          | (refine wpList_store28 rfl _ _ rfl _ rfl (MN kk) (.slice none 0 0) (.slice da dn dc) rfl zeroPk (.slice none 0 0) (.slice none 0 0) (by exact HB4.out) HANK.out ⟨rfl, rfl⟩ rfl HD1.out ?_; refine Hid.out ?_))
        refine Lib.hid ?_
        intro w9 hb9 haw9
        have HB9 := Lib.hid hb9
        have HA9 : Hid (Away [] w w9) := HAW0.out.next haw9 (fun x hx => .inr (by simp at hx; have := HG3.out; omega))
        have HO9 := Lib.hid (HOV.out.away haw9 (fun x hx => by simpa using (HNE.out x hx).2.1))
        clear hb9 haw9
        go_wp2_with fail
        exact bodyPost_ret (result28 rfl _ _ _ _ _ _ rfl HB9.out HANK.out) rfl (by
          rw [HMP.out]
          refine ⟨_, rfl, ⟨HWF.out kk (by omega), by rw [(HME.out kk).2.2]; exact Sl.nil _, ?_⟩, HNW.out, HA9.out⟩
          rw [(HME.out kk).2.1]
          exact HO9.out.sl (HDB.out kk) (by rw [HDL.out]; omega))
end Go.Proofs.YtbkeilboneaejaaDoor

namespace Go.Proofs.YtbkeilboneaejaaDoor
open Go.ChangeShapes Go.WideShapes Go.ChangeAt Go.RowKit
open S6 (wp_region_cls quiet_val quiet_call quiet_ld ld3 ld4 ld5 ld25 ld26 load28_run load24m_run)
set_option linter.unusedVariables false
set_option linter.unusedSimpArgs false
set_option maxRecDepth 20000

def kZ : Pk := pieceP 0 (bl { data := #[] }) false
def pA : Pk := pieceP 8 (bl { data := #[105, 106, 107, 108, 109, 110, 111, 112] }) true
def pB : Pk := pieceP 16 (bl { data := #[113] }) false
def pC : Pk := pieceP 0 (bl { data := #[97, 98, 99, 100, 101, 102, 103, 104] }) true
def s0 : Es := newS kZ 5
def s1 : Es := (putS s0 pA).2
def s2 : Es := (putS s1 pB).2
def s3 : Es := (putS s2 pC).2
def s4 : Es := (putS s3 pC).2
theorem t1 : (putS s0 pA).1 = 5 := by kernel_rfl
theorem t2 : (putS s1 pB).1 = 5 := by kernel_rfl
theorem t3 : (putS s2 pC).1 = 6 := by kernel_rfl
theorem t4 : (putS s3 pC).1 = 3 := by kernel_rfl
theorem h0 : holesN s0 = 1 := by kernel_rfl
theorem h1 : holesN s1 = 2 := by kernel_rfl
theorem b3 : s3.h = 17 := by kernel_rfl
theorem w3t : (wholeP s3).2 = true := by kernel_rfl
theorem w3d : (wholeP s3).1.d = bl { data := #[97, 98, 99, 100, 101, 102, 103, 104, 105, 106, 107, 108, 109, 110, 111, 112, 113] } := by kernel_rfl
theorem w3s : bstr (bl { data := #[97, 98, 99, 100, 101, 102, 103, 104, 105, 106, 107, 108, 109, 110, 111, 112, 113] }) = { data := #[97, 98, 99, 100, 101, 102, 103, 104, 105, 106, 107, 108, 109, 110, 111, 112, 113] } := by kernel_rfl
theorem w3a : Ad (wholeP s3).1 := ⟨by kernel_rfl, by kernel_rfl⟩
theorem ey_new {w : World} {g : Nat} {k : Pk} {t : Int} {fp : List Nat} (h : Ent w g (newS k t) fp) : Ey w g (newS k t) fp := ⟨h, fun _ => ⟨_, iv_new k t⟩⟩
theorem outs_new {W : World} {g : Nat} {s : Es} {fp : List Nat} {p : Pk} {dv : Value} (h : Ey W g s fp) (ho : p.o = []) (hd : ∀ k, dv.ownBlock = some k → W.heap.size ≤ k) : Outs p (.slice none 0 0) dv fp :=
  ⟨fun e => absurd ho e, fun _ k hk hm => by have h1 := h.ent.lt k hm; have h2 := hd k hk; omega⟩
set_option maxHeartbeats 8000000 in
theorem alive_c (w : World) (hg : Glob w) : Calls Tryd.prog 5 #[] w fun E w' => E = .returned (.bool true) ∧ Away [] w w' := by
  have HG := Lib.hid hg
  have hpos := hg.pos
  clear hg
  go_enter Tryd.func5, Tryd.ntmps5
  go_wp2_with fail
  refine (piece_c w 0 _ false (by simp [ByteArray.size]) (by unfold i64ok; omega)).mono ?_
  rintro E wa ⟨dva, rfl, -, -, hawa⟩
  have HA := Lib.hid hawa
  have e0 : pieceP 0 (bl { data := #[] }) false = kZ := rfl
  rw [e0]
  clear hawa e0
  have HKZ : Hid (Ad kZ) := piece_ad _ _ _
  go_wp2_with fail
  refine (lkeyOf_c kZ _ _ wa HKZ.out).mono ?_
  rintro E wb ⟨rfl, hawb⟩
  replace HA := Lib.hid (HA.out.trans hawb)
  clear hawb
  go_wp2_with fail
  refine (new_c wb kZ 5 HKZ.out).mono ?_
  rintro E wc ⟨g, fp, rfl, hent, hfp, hawc⟩
  have HY : Hid (Ey wc g s0 fp) := ey_new hent
  have HF : Hid (∀ x ∈ fp, w.heap.size ≤ x) := fun x hx => Nat.le_trans HA.out.size (hfp x hx)
  replace HA := Lib.hid (HA.out.trans hawc)
  clear hent hfp hawc
  have K := Lib.hid (eholes_c HY.out.ent)
  rw [h0] at K
  go_wp2_with fail
  refine K.out.mono ?_
  rintro E wd ⟨rfl, haw⟩
  replace HY := Lib.hid (HY.out.on haw)
  replace HA := Lib.hid (HA.out.trans haw)
  clear haw K
  have K := Lib.hid (born_c HY.out.ent)
  rw [show s0.tb = 5 from rfl] at K
  go_wp2_with fail
  refine K.out.mono ?_
  rintro E wd ⟨rfl, rfl⟩
  clear K
  go_wp2_with fail
  refine (piece_c wd 8 _ true (by simp [ByteArray.size]) (by unfold i64ok; omega)).mono ?_
  rintro E x1 ⟨dv1, rfl, hpk, hnew, haw⟩
  have e1 : pieceP 8 (bl { data := #[105, 106, 107, 108, 109, 110, 111, 112] }) true = pA := rfl
  rw [e1] at hpk
  rw [e1]
  have KP := Lib.hid (eput_c (HY.out.on haw) pA _ dv1 hpk (HG.out.on (HA.out.trans haw)) (outs_new HY.out rfl hnew) (fun hm => by have := HF.out 0 hm; omega))
  replace HA := Lib.hid (HA.out.trans haw)
  have HZ1 : Hid (w.heap.size ≤ x1.heap.size) := HA.out.size
  clear hpk hnew haw e1 HY
  go_wp2_with fail
  refine KP.out.mono ?_
  rintro E y1 ⟨rfl, fp1, hy, hfp, haw⟩
  rw [t1]
  have HY : Hid (Ey y1 g s1 fp1) := hy
  replace HA : Hid (Away [] w y1) := HA.out.next haw (fun z hz => .inr (HF.out z hz))
  replace HF : Hid (∀ z ∈ fp1, w.heap.size ≤ z) := fun z hz => by
    rcases hfp z hz with h | h
    · exact HF.out z h
    · have := HZ1.out; omega
  clear hy hfp haw KP
  have K := Lib.hid (eholes_c HY.out.ent)
  rw [h1] at K
  go_wp2_with fail
  refine K.out.mono ?_
  rintro E we ⟨rfl, haw⟩
  replace HY := Lib.hid (HY.out.on haw)
  replace HA := Lib.hid (HA.out.trans haw)
  clear haw K
  go_wp2_with fail
  refine (piece_c we 16 _ false (by simp [ByteArray.size]) (by unfold i64ok; omega)).mono ?_
  rintro E x2 ⟨dv2, rfl, hpk, hnew, haw⟩
  have e2 : pieceP 16 (bl { data := #[113] }) false = pB := rfl
  rw [e2] at hpk
  rw [e2]
  have KP := Lib.hid (eput_c (HY.out.on haw) pB _ dv2 hpk (HG.out.on (HA.out.trans haw)) (outs_new HY.out rfl hnew) (fun hm => by have := HF.out 0 hm; omega))
  replace HA := Lib.hid (HA.out.trans haw)
  have HZ2 : Hid (w.heap.size ≤ x2.heap.size) := HA.out.size
  clear hpk hnew haw e2 HY
  go_wp2_with fail
  refine KP.out.mono ?_
  rintro E y2 ⟨rfl, fp2, hy, hfp, haw⟩
  rw [t2]
  have HY : Hid (Ey y2 g s2 fp2) := hy
  replace HA : Hid (Away [] w y2) := HA.out.next haw (fun z hz => .inr (HF.out z hz))
  replace HF : Hid (∀ z ∈ fp2, w.heap.size ≤ z) := fun z hz => by
    rcases hfp z hz with h | h
    · exact HF.out z h
    · have := HZ2.out; omega
  clear hy hfp haw KP
  go_wp2_with fail
  refine (piece_c y2 0 _ true (by simp [ByteArray.size]) (by unfold i64ok; omega)).mono ?_
  rintro E x3 ⟨dv3, rfl, hpk, hnew, haw⟩
  have e3 : pieceP 0 (bl { data := #[97, 98, 99, 100, 101, 102, 103, 104] }) true = pC := rfl
  rw [e3] at hpk
  rw [e3]
  have KP := Lib.hid (eput_c (HY.out.on haw) pC _ dv3 hpk (HG.out.on (HA.out.trans haw)) (outs_new HY.out rfl hnew) (fun hm => by have := HF.out 0 hm; omega))
  replace HA := Lib.hid (HA.out.trans haw)
  have HZ3 : Hid (w.heap.size ≤ x3.heap.size) := HA.out.size
  clear hpk hnew haw e3 HY
  go_wp2_with fail
  refine KP.out.mono ?_
  rintro E y3 ⟨rfl, fp3, hy, hfp, haw⟩
  rw [t3]
  have HY : Hid (Ey y3 g s3 fp3) := hy
  replace HA : Hid (Away [] w y3) := HA.out.next haw (fun z hz => .inr (HF.out z hz))
  replace HF : Hid (∀ z ∈ fp3, w.heap.size ≤ z) := fun z hz => by
    rcases hfp z hz with h | h
    · exact HF.out z h
    · have := HZ3.out; omega
  clear hy hfp haw KP
  have K := Lib.hid (bytes_c HY.out.ent)
  rw [b3] at K
  go_wp2_with fail
  refine K.out.mono ?_
  rintro E y3 ⟨rfl, rfl⟩
  clear K
  have K := Lib.hid (ewhole_c HY.out)
  go_wp2_with fail
  refine K.out.mono ?_
  rintro E y4 ⟨wo, wd', rfl, hm, haw⟩
  rw [w3t]
  have HM := Lib.hid hm
  replace HY := Lib.hid (HY.out.on haw)
  replace HA := Lib.hid (HA.out.trans haw)
  have HO1 := Lib.hid hm.o.one
  have HD1 := Lib.hid hm.d.one
  have HWA := Lib.hid w3a
  have HWD := Lib.hid w3d
  have hm2 : Hid (Owns y4 wd' (bl { data := #[97, 98, 99, 100, 101, 102, 103, 104, 105, 106, 107, 108, 109, 110, 111, 112, 113] })) := by show Owns _ _ _; rw [← w3d]; exact hm.d
  generalize (wholeP s3).1 = q at *
  clear hm haw K
  go_wp2_with (refine wpList_new28 rfl rfl rfl _ _ rfl q wo wd' (fun g => rfl) (fun g => rfl) HWA.out HO1.out HD1.out ?_; refine Hid.out ?_)
  refine Lib.hid ?_
  intro g2 y5 hg2 hb2 haw2
  have HB2 := Lib.hid hb2
  replace HY := Lib.hid (HY.out.on haw2)
  replace HA := Lib.hid (HA.out.trans haw2)
  have c45 := (hb2.cells HWA.out).d
  obtain ⟨ca, cc, hce, -, hcn, hcr, -, -⟩ := (hm2.out.on haw2).row (by simp [bl]) (bl_bytes _)
  subst hce
  have hconv := conv_any y5 ca _ cc hcr hcn
  rw [w3s] at hconv
  clear hb2 haw2 hcr hcn
  go_wp2_with fail
  refine (piece_c y5 0 _ true (by simp [ByteArray.size]) (by unfold i64ok; omega)).mono ?_
  rintro E x4 ⟨dv4, rfl, hpk, hnew, haw⟩
  have e4 : pieceP 0 (bl { data := #[97, 98, 99, 100, 101, 102, 103, 104] }) true = pC := rfl
  rw [e4] at hpk
  rw [e4]
  have KP := Lib.hid (eput_c (HY.out.on haw) pC _ dv4 hpk (HG.out.on (HA.out.trans haw)) (outs_new HY.out rfl hnew) (fun hm => by have := HF.out 0 hm; omega))
  replace HA := Lib.hid (HA.out.trans haw)
  have HZ4 : Hid (w.heap.size ≤ x4.heap.size) := HA.out.size
  clear hpk hnew haw e4 HY
  go_wp2_with fail
  refine KP.out.mono ?_
  rintro E y4 ⟨rfl, fp4, hy, hfp, haw⟩
  rw [t4]
  have HY : Hid (Ey y4 g s4 fp4) := hy
  replace HA : Hid (Away [] w y4) := HA.out.next haw (fun z hz => .inr (HF.out z hz))
  replace HF : Hid (∀ z ∈ fp4, w.heap.size ≤ z) := fun z hz => by
    rcases hfp z hz with h | h
    · exact HF.out z h
    · have := HZ4.out; omega
  clear hy hfp haw KP
  go_wp2_with fail
  go_ret
  exact ⟨rfl, HA.out⟩
end Go.Proofs.YtbkeilboneaejaaDoor

namespace Go.Proofs.YtbkeilboneaejaaDoor
open Go.ChangeShapes Go.WideShapes Go.ChangeAt Go.RowKit
open S6 (wp_region_cls quiet_val quiet_call quiet_ld ld3 ld4 ld5 ld25 ld26 load28_run load24m_run)
set_option linter.unusedVariables false
set_option linter.unusedSimpArgs false
set_option maxRecDepth 20000

theorem step_alloc28 {ops : Array Oper} {o : Oper} {a : Act} {w : World} {K : Act → World → Prop} {Q : Exit → Act → World → Prop} {E : Prop} (hg : o.guard = none) (ho : o.op = .alloc 36)
    (hK : ∀ g w1, w.heap.size ≤ g → BoxP w1 g zeroPk (.slice none 0 0) (.slice none 0 0) → Away [] w w1 → K (a.put o.dst (.pointer (some ⟨g, 0, none⟩))) w1) : if Region.wanted o (yielded ops a.tmps) = true then Oper.wp Tryd.prog o a w K Q else E := by
  have hw : Region.wanted o (yielded ops a.tmps) = true := by simp [Region.wanted, hg]
  rw [if_pos hw]
  have hz : (zeroValue 36).run Tryd.prog w = .ok (.agg (csP zeroPk (.slice none 0 0) (.slice none 0 0))) w := by
    have := zero28
    cases hi : Tryd.prog.info? 36 with
    | none => rw [hi] at this; simp at this
    | some i => rw [hi] at this; simp at this; simp [zeroValue, typeInfo, hi, this]
  unfold Oper.wp execOp
  simp only [ho, Sem.run_bind, Instr.alloc, hz, newVar, newRow, run_newObj_alloc, Sem.run_pure, Result.andThen_ok]
  exact hK w.heap.size _ (Nat.le_refl _) (block_new _ _) ((Away.refl [] w).alloc _)
theorem step_store28 {ops : Array Oper} {o : Oper} {a : Act} {w : World} {K : Act → World → Prop} {Q : Exit → Act → World → Prop} {E : Prop} (hg : o.guard = none) (x y : Operand) (ho : o.op = .store 36 x y)
    (g : Nat) (hx : a.eval x = .pointer (some ⟨g, 0, none⟩)) (p : Pk) (ov dv : Value) (hy : a.eval y = .agg (csP p ov dv)) (q : Pk) (ou du : Value) (hb : BoxP w g q ou du) (ha : Ad p) (hq : Ad q) (h1 : ov.oneCell' = true) (h2 : dv.oneCell' = true)
    (hK : ∀ w1, BoxP w1 g p ov dv → Away [g] w w1 → K (a.put o.dst undef) w1) : if Region.wanted o (yielded ops a.tmps) = true then Oper.wp Tryd.prog o a w K Q else E := by
  have hw : Region.wanted o (yielded ops a.tmps) = true := by simp [Region.wanted, hg]
  rw [if_pos hw]
  exact wp_store_row 36 x y ho g (csP p ov dv) hx hy 36 (csP q ou du) hb (by rw [csP_size ha]; exact info28) (by rw [csP_size ha, csP_size hq]) (csP_one p ov dv h1 h2) (hK _ (by
    unfold BoxP at hb ⊢; simp [World.setRow, Array.getElem?_modify, hb]) ((Away.refl [g] w).setRow (.inl (by simp)) _))
/-! Plain. -/
def rA : Rw := ⟨1, 0, 0, true⟩
def rB : Rw := ⟨1, 0, 1, true⟩
def eA (x : Bool) : Es := newS (keyP x) 7
def eB (x : Bool) : Es := (putS (eA x) (madeP (keyP x) rA)).2
def eP (x : Bool) : Es := poisS (eA x)
theorem putA (x : Bool) : (putS (eA x) (madeP (keyP x) rA)).1 = 5 := by cases x <;> kernel_rfl
theorem putB (x : Bool) : (putS (eB x) (madeP (keyP x) rB)).1 = 4 := by cases x <;> kernel_rfl
theorem four_pois {s : Es} {p : Pk} (h : (putS s p).1 = 4) : (putS s p).2 = poisS s := by
  unfold putS at h ⊢
  split
  · rename_i h1; rw [if_pos h1] at h; simp at h
  · rename_i h1
    rw [if_neg h1] at h
    split
    · rename_i h2; rw [if_pos h2] at h; simp at h
    · rename_i h2
      rw [if_neg h2] at h
      split
      · rfl
      · rename_i h3
        rw [if_neg h3] at h
        exact absurd h h3
theorem put_kt (s : Es) (p : Pk) : (putS s p).2.k = s.k ∧ (putS s p).2.tb = s.tb := by
  unfold putS
  split
  · exact ⟨rfl, rfl⟩
  · split
    · exact ⟨rfl, rfl⟩
    · split
      · exact ⟨rfl, rfl⟩
      · exact (take_bad s p).2
theorem poisB (x : Bool) : poisS (eB x) = eP x := by
  have h := put_kt (eA x) (madeP (keyP x) rA)
  unfold eP poisS eB
  rw [h.1, h.2]
theorem bad_put (x : Bool) (p : Pk) : putS (eP x) p = (if ownB (eP x) p = false then 1 else 2, eP x) := by
  unfold putS
  split
  · rfl
  · rw [if_pos (show (eP x).bad = true from rfl)]
theorem key_wf (x : Bool) : Wf (keyP x) := by
  refine ⟨?_, ?_, ?_, ?_, rfl, ?_, ?_, rfl, ?_, ?_, ?_, ?_, ?_, ?_, Bytes.nil, by simp [keyP], Bytes.nil, by simp [keyP]⟩ <;> first | (show Bytes [1, 0, 0, 0, 0, 0, 0, 0, 0, 0, 0, 0, 0, 0, 0, 0]; intro n hn; simp at hn; omega) | (show Bytes [2, 0, 0, 0, 0, 0, 0, 0, 0, 0, 0, 0, 0, 0, 0, 0]; intro n hn; simp at hn; omega) | (cases x <;> simp [i64ok, keyP]) | (simp [keyP])
theorem made_right (x : Bool) (r : Rw) : rgt2 (madeP (keyP x) r) = true := by
  have h1 := off_bd r
  have h2 := len_bd r
  unfold rgt2
  rw [Bool.or_eq_true]
  have hdl : (madeP (keyP x) r).d.length = lenR r := dat_len r _
  have hof : (madeP (keyP x) r).off = offR r := rfl
  have hmo : (madeP (keyP x) r).more = r.m := rfl
  cases x with
  | false =>
    left
    refine (right_iff _).2 ⟨⟨rfl, rfl, rfl, by simp [madeP, madeN, keyP], by simp [madeP, madeN], by simp [madeP, madeN], by simp [madeP, madeN], by simp [madeP, madeN], by simp [madeP, madeN, keyP], by simp [madeP, madeN, keyP], rfl, rfl, rfl, rfl, ?_, ?_, ?_, ?_, ?_, ?_, ?_, ?_⟩, by kernel_rfl⟩
    · rw [hof]; exact h1.1
    · rw [hof]; omega
    · rw [hof]; exact h1.2.2
    · rw [hmo, hdl]; exact h2.2.2
    · rw [hdl]; intro _; omega
    · rw [hdl]; intro _; omega
    · rw [hof, hdl]; omega
    · rw [hdl]; show 20 + 0 + lenR r ≤ 65535; omega
  | true =>
    right
    refine (S6.right_iff _).2 ⟨rfl, rfl, rfl, by simp [madeP, madeN], by simp [madeP, madeN], by simp [madeP, madeN], by simp [madeP, madeN], by simp [madeP, madeN], by simp [madeP, madeN], by simp [madeP, madeN, keyP], by simp [madeP, madeN, keyP], by simp [madeP, madeN, keyP], rfl, rfl, ?_, ?_, ?_, ?_, ?_, ?_, ?_, ?_⟩
    · rw [hof]; exact h1.1
    · rw [hof]; omega
    · rw [hof]; exact h1.2.2
    · rw [hmo, hdl]; exact h2.2.2
    · rw [hdl]; intro _; omega
    · rw [hof, hdl]; omega
    · intro h; exact absurd h (by simp [madeP, madeN, keyP])
    · rw [hdl]; show 48 - 40 + lenR r ≤ 65535; omega
theorem made_own (x : Bool) (r : Rw) (s : Es) (hs : s.k = keyP x) : ownB s (madeP (keyP x) r) = (decide (0 < offR r) || r.m) := by
  unfold ownB
  rw [made_right, hs]
  have : kyB (madeP (keyP x) r) (keyP x) = true := by simp [kyB, madeP, madeN]
  rw [this]
  show ((true && (decide (0 < offR r) || r.m)) && true) = _
  simp
theorem own_key {s : Es} {p : Pk} (h : ownB s p = true) : kyB p s.k = true := by
  unfold ownB at h
  rw [Bool.and_eq_true, Bool.and_eq_true] at h
  exact h.1.1
theorem pois_first (x : Bool) : firstP (eP x) = (zeroPk, false) := rfl
theorem pois_whole (x : Bool) : wholeP (eP x) = (zeroPk, false) := by unfold wholeP; rw [if_pos (.inl rfl)]
theorem ey_pois {w : World} {g : Nat} {s : Es} (h : EntB w g s) : Ey w g s [g] := ⟨.inl ⟨h, rfl⟩, fun hb => by rw [h.2.1] at hb; simp at hb⟩
theorem mine_pkt {w : World} {B : Nat} {o d : Value} (h : Mine w B zeroPk o d) : Pkt w zeroPk o d := h.pkt zero_wf
end Go.Proofs.YtbkeilboneaejaaDoor
