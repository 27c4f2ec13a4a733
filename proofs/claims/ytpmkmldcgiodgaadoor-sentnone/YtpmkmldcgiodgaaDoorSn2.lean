/-
  A window in memory: New, Len, Match.
-/
import Derived.Test.YtpmkmldcgiodgaaDoorSn1
import Derived.Deep.CutBlock
import Derived.Deep.DeepCutAuto
namespace Go.Proofs.YtpmkmldcgiodgaaDoor
open Go.ChangeShapes Go.WideShapes Go.ChangeAt Go.RowKit
open S6 (wp_region_cls quiet_val quiet_call quiet_ld ld3 ld4 ld5 ld25 ld26 load28_run load24m_run)
set_option linter.unusedVariables false
set_option linter.unusedSimpArgs false
set_option maxRecDepth 100000

open W
/-- The answer among the first k, the latest first. -/
def matchK (L : List Nt) (q : Pk) : Nat → Option Int
  | 0 => none
  | k + 1 => match L[k]? with
    | some x => if showsP x q = true then some x.n else matchK L q k
    | none => matchK L q k
def matchN (L : List Nt) (q : Pk) : Option Int := matchK L q L.length
/-- A window at g that remembers ds, the last m of what was noted. -/
structure Win (w : World) (g : Nat) (lv : Value) (m : Int) (ds : List Dd) : Prop where
  box : w.heap[g]? = some (.cells #[.int .i64 m, lv] 59 (0, 0))
  lst : LstD w lv ds
  sep : lv.ownBlock ≠ some g
  ok : ∀ x ∈ ds, Okd x
  each : ∀ x ∈ ds, Sl w x.v x.t.b
  ap : ∀ x ∈ ds, x.t.b ≠ [] → ∀ k, x.v.ownBlock = some k → k ≠ g ∧ lv.ownBlock ≠ some k
  m0 : 0 ≤ m
  m1 : m ≤ 64
  len : (ds.length : Int) ≤ m
/-- The blocks that it stands on. -/
def fpW (g : Nat) (lv : Value) (ds : List Dd) (k : Nat) : Prop := k = g ∨ lv.ownBlock = some k ∨ ∃ x ∈ ds, x.t.b ≠ [] ∧ x.v.ownBlock = some k
theorem Win.away {S : List Nat} {w w' : World} {g : Nat} {lv : Value} {m : Int} {ds : List Dd} (h : Win w g lv m ds) (hw : Away S w w') (hS : ∀ k ∈ S, ¬ fpW g lv ds k) : Win w' g lv m ds :=
  ⟨hw.keep (fun hm => hS g hm (.inl rfl)) h.box, h.lst.away hw (fun k hk hm => hS k hm (.inr (.inl hk))), h.sep, h.ok, fun x hx => (h.each x hx).away hw (fun hb k hk hm => hS k hm (.inr (.inr ⟨x, hx, hb, hk⟩))), h.ap, h.m0, h.m1, h.len⟩
theorem Win.on {w w' : World} {g : Nat} {lv : Value} {m : Int} {ds : List Dd} (h : Win w g lv m ds) (hw : Away [] w w') : Win w' g lv m ds := h.away hw (by simp)
theorem Win.lt {w : World} {g : Nat} {lv : Value} {m : Int} {ds : List Dd} (h : Win w g lv m ds) : ∀ k, fpW g lv ds k → k < w.heap.size := fun k hk => by
  rcases hk with rfl | hk | ⟨x, hx, hb, hk⟩
  · exact lt_of_block h.box
  · exact h.lst.lt k hk
  · exact (h.each x hx).old hb k hk
theorem Win.c0 {w : World} {g : Nat} {lv : Value} {m : Int} {ds : List Dd} (h : Win w g lv m ds) : w.cell? ⟨g, 0, none⟩ = some (.int .i64 m) := by rw [cell_of_block h.box]; rfl
theorem Win.c1 {w : World} {g : Nat} {lv : Value} {m : Int} {ds : List Dd} (h : Win w g lv m ds) : w.cell? ⟨g, 1, none⟩ = some lv := by rw [cell_of_block h.box]; rfl
theorem Win.shape {w : World} {g : Nat} {lv : Value} {m : Int} {ds : List Dd} (h : Win w g lv m ds) : ∃ a cap, lv = .slice a ds.length cap ∧ (∀ j x, ds[j]? = some x → ∃ b, a = some ⟨b, 0, none⟩ ∧ w.rangeAt b (j * 40) (listD x)) := by
  rcases h.lst.shp with ⟨rfl, rfl⟩ | ⟨b, cap, rfl⟩
  · exact ⟨none, 0, rfl, fun j x hj => by simp at hj⟩
  · exact ⟨some ⟨b, 0, none⟩, cap, rfl, fun j x hj => ⟨b, rfl, by have := h.lst.at h.ok hj; rwa [Nat.zero_add] at this⟩⟩
def NewOut (w : World) (n : Int) (E : Ending) (w' : World) : Prop :=
  ((n < 0 ∨ 64 < n) ∧ E = .returned (.tuple #[.pointer none, .int .i64 1]) ∧ Away [] w w') ∨
  ((0 ≤ n ∧ n ≤ 64) ∧ ∃ g, E = .returned (.tuple #[.pointer (some ⟨g, 0, none⟩), .int .i64 0]) ∧ w.heap.size ≤ g ∧ Win w' g (.slice none 0 0) n [] ∧ Away [] w w')
theorem wnew_c (n : Int) (w : World) : Calls Tryd.prog 8 #[.int .i64 n] w (NewOut w n) := by
  have hbx := block_new w (.cells #[.int .i64 n, .slice none 0 0] 59)
  have haw0 : Away [] w (w.alloc (.cells #[.int .i64 n, .slice none 0 0] 59)) := (Away.refl _ _).alloc _
  have HBX := Lib.hid hbx
  have HAW := Lib.hid haw0
  clear hbx haw0
  by_cases h0 : n < 0
  · have e0 : decide (n < 0) = true := by simpa using h0
    go_enter Tryd.func8, Tryd.ntmps8
    go_wp2_with fail
    go_ret2
    exact .inl ⟨.inl h0, rfl, Away.refl _ _⟩
  · have e0 : decide (n < 0) = false := by simpa using h0
    by_cases h1 : 64 < n
    · have e1 : decide (64 < n) = true := by simpa using h1
      go_enter Tryd.func8, Tryd.ntmps8
      go_wp2_with fail
      go_ret2
      exact .inl ⟨.inr h1, rfl, Away.refl _ _⟩
    · have e1 : decide (64 < n) = false := by simpa using h1
      go_enter Tryd.func8, Tryd.ntmps8
      go_wp2_with fail
      go_ret2
      exact .inr ⟨⟨by omega, by omega⟩, _, rfl, Nat.le_refl _, ⟨HBX.out, LstD.nil _, by simp [Value.ownBlock], by simp, by simp, by simp, by omega, by omega, by simp; omega⟩, HAW.out⟩
section
variable {w : World} {g : Nat} {lv : Value} {m : Int} {ds : List Dd}
theorem wlen_c (h : Win w g lv m ds) : Calls Tryd.prog 11 #[.pointer (some ⟨g, 0, none⟩)] w fun E w' => E = .returned (.int .i64 (ds.length : Int)) ∧ w' = w := by
  obtain ⟨a, cap, rfl, -⟩ := h.shape
  have c1 := h.c1
  clear h
  generalize ds.length = n at *
  go_enter Tryd.func11, Tryd.ntmps11
  go_wp2_with fail
  go_ret
  exact ⟨rfl, rfl⟩
theorem ldD {w : World} {ad : Addr} {a : Option Addr} {n c : Nat} (h : w.cell? ad = some (.slice a n c)) : (Instr.loadAt 57 (.pointer (some ad))).run Tryd.prog w = .ok (.slice a n c) w := by
  simp [go_sem, Instr.loadAt, Instr.sureAddr, h]
theorem range_away {S : List Nat} {w w' : World} (hw : Away S w w') {b o : Nat} {cs : List Value} (hb : b ∉ S) (h : w.rangeAt b o cs) : w'.rangeAt b o cs := fun j v hj => hw.cell hb (h j v hj)
theorem info64 : (Tryd.prog.info? 64).map (·.size) = some 40 := by kernel_rfl
theorem load64m_run {w : World} {g k : Nat} {x : Dd} (hc : w.rangeAt g k (listD x)) (ha : Okd x) : (Instr.loadAt 64 (.pointer (some ⟨g, k, none⟩))).run Tryd.prog w = .ok (.agg (csD x)) w := by
  have := run_loadVar_mid (P := Tryd.prog) w g k 64 (listD x) _ hc Tryd.underlying64 rfl (by rw [listD_len ha]; exact info64)
  simp only [Instr.loadAt, Instr.sureAddr, Sem.run_bind, Sem.run_pure, Result.andThen]
  rw [this]; rfl
theorem quiet_ixD {o : Oper} {a : Act} {C : World → Prop} {K : Act → Prop} {gb n cap : Nat} (x ix : Operand) (ho : o.op = .indexAddr 57 x ix) (i : Nat) (hx : a.eval x = .slice (some ⟨gb, 0, none⟩) n cap) (hix : a.eval ix = .int .i64 (i : Int)) (hi : i < n) (hk : K (a.put o.dst (.pointer (some ⟨gb, i * 40, none⟩)))) : o.quiet Tryd.prog a C K := by
  refine ⟨.pointer (some ⟨gb, i * 40, none⟩), fun w hw => ?_, hk⟩
  have he : Tryd.prog.elem 57 = 64 := by kernel_rfl
  have hsz : (sizeOf 64).run Tryd.prog w = .ok 40 w := by kernel_rfl
  unfold Oper.quietAt execOp
  simp only [ho, hx, hix, Sem.run_bind]
  rw [run_indexAt_slice w 57 ⟨gb, 0, none⟩ n cap .i64 (i : Int) W.underK, he, if_pos ⟨by omega, by omega⟩, hsz]
  simp only [Result.andThen, add_plain, Int.toNat_natCast, Nat.zero_add]
  exact ⟨rfl, rfl⟩
set_option maxHeartbeats 8000000 in
theorem match_c (h : Win w g lv m ds) (q : Pk) (ov dv : Value) (hq : Pkt w q ov dv) :
    Calls Tryd.prog 12 #[.pointer (some ⟨g, 0, none⟩), .agg (csP q ov dv)] w fun E w' => E = .returned (.tuple #[.int .i64 ((matchN (ds.map (·.t)) q).getD 0), .bool (matchN (ds.map (·.t)) q).isSome]) ∧ Away [] w w' := by
  have HW := Lib.hid h
  have HAD := Lib.hid hq.wf.ad
  have HQ := Lib.hid hq
  obtain ⟨la, lc, rfl, hat⟩ := h.shape
  have HAT := Lib.hid hat
  obtain ⟨n, hn⟩ : ∃ n, n = ds.length := ⟨_, rfl⟩
  have hn64 : n ≤ 64 := by have h1 := h.len; have h2 := h.m1; omega
  rw [← hn] at HW
  have HN := Lib.hid hn
  obtain ⟨ans, hans⟩ : ∃ z, z = matchN (ds.map (·.t)) q := ⟨_, rfl⟩
  rw [← hans]
  have HK0 : Hid (ans = matchK (ds.map (·.t)) q n) := by show _ = _; rw [hans, matchN, List.length_map, ← hn]
  have C1 : Hid (w.cell? ⟨g, 1, none⟩ = some (.slice la n lc)) := HW.out.c1
  obtain ⟨-, -, da, dc, rfl, -⟩ := hq
  have c1 := C1.out
  clear h hat hn hans
  go_enter Tryd.func12, Tryd.ntmps12
  go_wp2_with (refine wpList_box28 rfl _ rfl q _ _ rfl ?_; refine Hid.out ?_)
  refine Lib.hid ?_
  intro g3 w1 hg hb haw
  have HA := Lib.hid haw
  have HB := Lib.hid hb
  clear c1
  have c1 := haw.cell (by simp) C1.out
  clear hb haw hg
  have jw : IntKind.i64.wrap ((n : Int) - 1) = (n : Int) - 1 := by rw [IntKind.wrap_i64]; omega
  go_wp2_with fail
  go_loopw [6] (fun i wr => ∃ k : Nat, i = .int .i64 ((k : Int) - 1) ∧ k ≤ n ∧ ans = matchK (ds.map (·.t)) q k ∧ Away [] w wr ∧ BoxP wr g3 q ov (.slice da q.d.length dc)) (fun i _ => (intOf i + 1).toNat)
  case atStart => exact ⟨n, rfl, Nat.le_refl _, HK0.out, HA.out, HB.out⟩
  case round =>
    clear c1 HA HB HK0
    obtain ⟨k, rfl, hk, hans, haw, hb⟩ := hrel
    have HK0 := Lib.hid hans
    have HA := Lib.hid haw
    have HB := Lib.hid hb
    clear hans haw hb jw
    cases k with
    | zero =>
      have HR : Hid (ans = none) := HK0.out
      clear HK0
      obtain rfl := HR.out
      go_wp2_with fail
      go_ret2
      exact ⟨rfl, HA.out⟩
    | succ j =>
      have ej : (((j + 1 : Nat) : Int) - 1) = (j : Int) := by omega
      rw [ej]
      clear ej
      obtain ⟨x, hx, hxm⟩ : ∃ x, ds[j]? = some x ∧ x ∈ ds := ⟨ds[j]'(by rw [← HN.out]; omega), List.getElem?_eq_getElem _, List.getElem_mem _⟩
      obtain ⟨b, rfl, hrg⟩ := HAT.out j x hx
      have HRG : Hid (wr.rangeAt b (j * 40) (listD x)) := range_away HA.out (by simp) hrg
      have HOK : Hid (Okd x) := HW.out.ok x hxm
      have HST : Hid (ans = if showsP x.t q = true then some x.t.n else matchK (ds.map (·.t)) q j) := by
        show _ = _
        rw [HK0.out, matchK, List.getElem?_map, hx]
        rfl
      have HSL : Hid (Sl wr x.v x.t.b) := (HW.out.each x hxm).on HA.out
      have HQ2 := Lib.hid (HQ.out.on HA.out)
      have C1w : Hid (wr.cell? ⟨g, 1, none⟩ = some (.slice (some ⟨b, 0, none⟩) n lc)) := HA.out.cell (by simp) C1.out
      clear hx hxm hrg HK0
      obtain ⟨sb, hsb⟩ : ∃ sb, sb = showsP x.t q := ⟨_, rfl⟩
      rw [← hsb] at HST
      have HC0 : Hid (Away [] wr wr.drew ∧ BoxP wr.drew g3 q ov (.slice da q.d.length dc)) := ⟨(Away.refl _ _).drew, HB.out⟩
      have K27 : Hid (∀ W, (Away [] wr W ∧ BoxP W g3 q ov (.slice da q.d.length dc)) → Calls Tryd.prog 27 #[.agg (csD x), .agg (csP q ov (.slice da q.d.length dc))] W fun E w' => E = .returned (.bool sb) ∧ (Away [] wr w' ∧ BoxP w' g3 q ov (.slice da q.d.length dc))) := fun W hW => by
        rw [hsb]
        exact (shows_c x q ov _ W HOK.out (HSL.out.on hW.1) (HQ2.out.on hW.1)).mono (fun E w' h => ⟨h.1, hW.1.trans h.2, hW.2.on h.2⟩)
      clear hsb HSL
      have i2 : 0 ≤ (j : Int) := by omega
      have i3 : (j : Int) < (n : Int) := by omega
      have i4 : ((j : Int)).toNat = j := by omega
      have e1 : decide (0 ≤ (j : Int)) = true := by simp
      have jw2 : IntKind.i64.wrap ((j : Int) - 1) = (j : Int) - 1 := by rw [IntKind.wrap_i64]; omega
      go_wp2_with fail
      refine wp_region_cls (C := (fun w' => Away [] wr w' ∧ BoxP w' g3 q ov (.slice da q.d.length dc))) (by kernel_rfl) (by kernel_rfl) HC0.out ?_
      go_big_quiet_want; (refine quiet_val ?_ ?_ ?_; rotate_left; (intro w; go_simp; rfl); go_simp; go_big_quiet_on)
      go_big_quiet_want; (refine quiet_val ?_ ?_ ?_; rotate_left; (intro w; go_simp; rfl); go_simp; go_big_quiet_on)
      go_big_quiet_want; (refine quiet_val ?_ ?_ ?_; rotate_left; (intro w; go_simp; rfl); go_simp; go_big_quiet_on)
      go_big_quiet_want; refine quiet_ld _ rfl (ad := ⟨g, 1, none⟩) rfl (fun w' h => ldD (h.1.cell (by simp) C1w.out)) ?_; go_simp; go_big_quiet_on
      go_big_quiet_want; (refine quiet_val ?_ ?_ ?_; rotate_left; (intro w; go_simp; rfl); go_simp; go_big_quiet_on)
      go_big_quiet_want; refine quiet_ixD _ _ rfl j rfl rfl (by omega) ?_; go_simp; go_big_quiet_on
      go_big_quiet_want; refine quiet_ld _ rfl (ad := ⟨b, j * 40, none⟩) rfl (fun w' h => load64m_run (range_away h.1 (by simp) HRG.out) HOK.out) ?_; go_simp; go_big_quiet_on
      go_big_quiet_want; refine quiet_ld _ rfl (ad := ⟨g3, 0, none⟩) rfl (fun w' h => load28_run h.2 HAD.out) ?_; go_simp; go_big_quiet_on
      go_big_quiet_want; refine quiet_call 27 #[.agg (csD x), .agg (csP q ov (.slice da q.d.length dc))] (.bool sb) ?_ K27.out ?_
      · intro w; go_simp; all_goals (with_reducible rfl)
      go_simp; go_big_quiet_on
      refine wpQuiet_nil ?_
      intro V hV
      have HA2 := Lib.hid (HA.out.trans hV.1)
      have HB2 := Lib.hid hV.2
      have c1 := hV.1.cell (by simp) C1w.out
      have c39 : V.cell? ⟨b, j * 40 + 39, none⟩ = some (.int .i64 x.t.n) := (range_away hV.1 (by simp) HRG.out) 39 _ (by have := (csD_get HOK.out).2.2; simpa [csD] using this)
      clear hV
      cases sb
      · have HR : Hid (ans = matchK (ds.map (·.t)) q j) := HST.out
        go_wp2_with fail
        go_roundw
        case rel => exact ⟨j, by go_num, by omega, HR.out, HA2.out, HB2.out⟩
        case measure => (simp [intOf])
      · have HR : Hid (ans = some x.t.n) := HST.out
        clear HST
        obtain rfl := HR.out
        go_wp2_with fail
        go_ret2
        exact ⟨rfl, HA2.out⟩
end
end Go.Proofs.YtpmkmldcgiodgaaDoor
