/-
  A table in memory.
-/
import Derived.Test.YtemdgggpfadecaaStp
import Derived.Test.YtemdgggpfadecaaTb
namespace Go.Proofs.Ytemdgggpfadecaa
open Go.ChangeShapes Go.WideShapes Go.ChangeAt Go.RowKit
set_option linter.unusedVariables false
set_option linter.unusedSimpArgs false
set_option maxRecDepth 100000

namespace KB
structure Tm (w : World) (g : Nat) (v : Value) (t : Tb) : Prop where
  box : w.heap[g]? = some (.cells #[.int .i64 t.most, .int .i64 t.last, v] 61 (0, 0))
  lst : LstD w v t.bs
  ne : ∀ k, v.ownBlock = some k → k ≠ g
  wf : WfT t
variable {w : World} {g : Nat} {v : Value} {t : Tb}
theorem Tm.away {S : List Nat} {w' : World} (h : Tm w g v t) (hw : Away S w w') (hg : g ∉ S) (hv : ∀ k, v.ownBlock = some k → k ∉ S) : Tm w' g v t := ⟨hw.keep hg h.box, h.lst.away hw hv, h.ne, h.wf⟩
theorem Tm.on {w' : World} (h : Tm w g v t) (hw : Away [] w w') : Tm w' g v t := h.away hw (by simp) (by simp)
theorem Tm.c0 (h : Tm w g v t) : w.cell? ⟨g, 0, none⟩ = some (.int .i64 t.most) := by rw [cell_of_block h.box]; rfl
theorem Tm.c1 (h : Tm w g v t) : w.cell? ⟨g, 1, none⟩ = some (.int .i64 t.last) := by rw [cell_of_block h.box]; rfl
theorem Tm.c2 (h : Tm w g v t) : w.cell? ⟨g, 2, none⟩ = some v := by rw [cell_of_block h.box]; rfl
theorem Tm.free (h : Tm w g v t) (i : Nat) : w.frozen? ⟨g, i, none⟩ = false := free_of_block h.box i
theorem Tm.lt (h : Tm w g v t) : g < w.heap.size := lt_of_block h.box
theorem Tm.shape (h : Tm w g v t) : ∃ a cap, v = .slice a t.bs.length cap ∧ (∀ (j : Nat) (x : Bd), t.bs[j]? = some x → ∃ b, a = some ⟨b, 0, none⟩ ∧ w.rangeAt b (j * 19) (listD x)) := h.lst.shape h.wf.okd
def fp (g : Nat) (v : Value) : List Nat := g :: v.ownBlock.toList
end KB
namespace KS
structure Tm (w : World) (g : Nat) (v : Value) (t : Tb) : Prop where
  box : w.heap[g]? = some (.cells #[.int .i64 t.most, .int .i64 t.last, v] 74 (0, 0))
  lst : LstD w v t.bs
  ne : ∀ k, v.ownBlock = some k → k ≠ g
  wf : WfT t
variable {w : World} {g : Nat} {v : Value} {t : Tb}
theorem Tm.away {S : List Nat} {w' : World} (h : Tm w g v t) (hw : Away S w w') (hg : g ∉ S) (hv : ∀ k, v.ownBlock = some k → k ∉ S) : Tm w' g v t := ⟨hw.keep hg h.box, h.lst.away hw hv, h.ne, h.wf⟩
theorem Tm.on {w' : World} (h : Tm w g v t) (hw : Away [] w w') : Tm w' g v t := h.away hw (by simp) (by simp)
theorem Tm.c0 (h : Tm w g v t) : w.cell? ⟨g, 0, none⟩ = some (.int .i64 t.most) := by rw [cell_of_block h.box]; rfl
theorem Tm.c1 (h : Tm w g v t) : w.cell? ⟨g, 1, none⟩ = some (.int .i64 t.last) := by rw [cell_of_block h.box]; rfl
theorem Tm.c2 (h : Tm w g v t) : w.cell? ⟨g, 2, none⟩ = some v := by rw [cell_of_block h.box]; rfl
theorem Tm.free (h : Tm w g v t) (i : Nat) : w.frozen? ⟨g, i, none⟩ = false := free_of_block h.box i
theorem Tm.lt (h : Tm w g v t) : g < w.heap.size := lt_of_block h.box
theorem Tm.shape (h : Tm w g v t) : ∃ a cap, v = .slice a t.bs.length cap ∧ (∀ (j : Nat) (x : Bd), t.bs[j]? = some x → ∃ b, a = some ⟨b, 0, none⟩ ∧ w.rangeAt b (j * 19) (listD x)) := h.lst.shape h.wf.okd
def fp (g : Nat) (v : Value) : List Nat := g :: v.ownBlock.toList
end KS

open KB in
set_option maxHeartbeats 4000000 in
theorem just_c {w : World} {g : Nat} {v : Value} {t : Tb} (h : Tm w g v t) (av : Int) (al : List Int) (hl : al.length = 16) (p : Int) :
    Calls Try.prog 22 #[.pointer (some ⟨g, 0, none⟩), .agg (csA av al), .int .i64 p] w fun E w' => E = .returned (.int .i64 (justP t.bs av al p)) ∧ Away [] w w' := by
  have H := Lib.hid h
  have HL := Lib.hid hl
  obtain ⟨la, lc, rfl, hat⟩ := h.shape
  have HAT := Lib.hid hat
  obtain ⟨n, hn⟩ : ∃ n, n = t.bs.length := ⟨_, rfl⟩
  have hn32 : n ≤ 32 := by have := h.wf.le; omega
  have HOK := Lib.hid h.wf.okd
  rw [← hn] at H
  have HN := Lib.hid hn
  obtain ⟨ans, hans⟩ : ∃ z, z = justP t.bs av al p := ⟨_, rfl⟩
  rw [← hans]
  have HJ := Lib.hid hans
  clear h hat hn hans hl
  go_enter Try.func22, Try.ntmps22
  go_wp2_with (refine wpList_box32 rfl _ rfl av al rfl ?_; refine Hid.out ?_)
  refine Lib.hid ?_
  intro g4 w1 hg4 hb haw
  have HA := Lib.hid haw
  have HB := Lib.hid hb
  have c2 := haw.cell (by simp) H.out.c2
  clear hg4 hb haw
  go_wp2_with fail
  clear c2
  go_loopw [14] (fun i wr => ∃ k : Nat, i = .int .i64 (k : Int) ∧ k ≤ n ∧ Away [] w1 wr ∧ ∀ (j : Nat) (z : Bd), j < k → t.bs[j]? = some z → hit av al p z = false) (fun i _ => n - (intOf i).toNat)
  case atStart => exact ⟨0, rfl, Nat.zero_le _, Away.refl _ _, fun j z hj => by omega⟩
  case round =>
    obtain ⟨k, rfl, hk, haw, hno⟩ := hrel
    have HA1 := Lib.hid haw
    have HNO := Lib.hid hno
    clear haw hno
    by_cases hkn : k < n
    · have j1 : decide (k < n) = true := by simp; omega
      have j0 : (k : Int) < (n : Int) := by omega
      have j2 : 0 ≤ (k : Int) := by omega
      have j3 : ((k : Int)).toNat = k := by omega
      obtain ⟨y, hy, hym⟩ := get_of (show k < t.bs.length by rw [← HN.out]; omega)
      have HY := Lib.hid hy
      have HYO := Lib.hid (HOK.out y hym)
      obtain ⟨b, hb, hrg⟩ := HAT.out k y hy
      subst hb
      have HRG := Lib.hid (range_away (HA.out.trans HA1.out) (by simp) hrg)
      clear hrg hy hym hkn
      go_wp2_with (first
        | (refine wpList_ixE rfl _ _ rfl b n lc k rfl rfl (by omega) ?_)
        | (refine wpList_loadE rfl _ rfl b (k * 19) rfl y HYO.out (by exact HRG.out) ?_)
        | (refine wpList_allocE rfl rfl ?_; refine Hid.out ?_))
      refine Lib.hid ?_
      intro g8 w2 hg8 hbx haw
      have HBX := Lib.hid hbx
      have hs1 := HA1.out.size
      replace HA1 := Lib.hid (HA1.out.trans haw)
      clear haw hbx
      go_wp2_with (refine wpList_storeE rfl _ _ rfl g8 rfl y zeroD HYO.out zeroD_ok rfl HBX.out ?_; refine Hid.out ?_)
      refine Lib.hid ?_
      intro w3 hbx haw
      replace HBX := Lib.hid hbx
      have HA2 : Hid (Away [] w1 w3) := HA1.out.next haw (fun x hx => .inr (by simp at hx; subst hx; omega))
      have HB2 := Lib.hid (HB.out.on HA2.out (by simp))
      clear haw hbx HA1 hs1 hg8
      have c0 := range_n HBX.out.range
      have c18 := range_p HBX.out.range HYO.out
      have HRA := Lib.hid (range_a HBX.out.range HYO.out)
      simp only [Nat.zero_add] at c18 HRA
      obtain ⟨q, hq⟩ : ∃ q, q = (decide (y.v = av) && eqL y.l al) := ⟨_, rfl⟩
      have hqe := fun w => eq32 y.v av y.l al HYO.out HL.out w
      rw [← hq] at hqe
      have HQ := Lib.hid hq
      clear hq
      have hgd := guard24
      cases q
      · have HH : Hid (hit av al p y = false) := by show _ = _; unfold hit; rw [← HQ.out]; rfl
        go_wp2_with (first
          | (refine wpList_load32m rfl _ rfl g8 1 rfl y.v y.l HYO.out HRA.out ?_)
          | (refine wpList_load32 rfl _ rfl g4 rfl av al HL.out HB2.out ?_))
        go_roundw
        case rel => exact ⟨k + 1, by go_num, by omega, HA2.out, fun j z hj hz => by
          rcases Nat.lt_or_ge j k with h1 | h1
          · exact HNO.out j z h1 hz
          · rw [show j = k from by omega, HY.out] at hz
            simp only [Option.some.injEq] at hz
            rw [← hz]; exact HH.out⟩
        case measure => simp [intOf]; omega
      · by_cases hp : y.p = p
        · have HH : Hid (hit av al p y = true) := by show _ = _; unfold hit; rw [← HQ.out, hp]; simp
          have hpe : (y.p == p) = true := by simpa using hp
          have HANS : Hid (ans = y.n) := by
            show _ = _
            rw [HJ.out, justP, idx_some HY.out HH.out HNO.out]
            simp only [numAt, HY.out]
          clear hp
          go_wp2_with (first
            | (refine wpList_load32m rfl _ rfl g8 1 rfl y.v y.l HYO.out HRA.out ?_)
            | (refine wpList_load32 rfl _ rfl g4 rfl av al HL.out HB2.out ?_))
          go_ret
          exact ⟨ret_int HANS.out.symm, HA.out.trans HA2.out⟩
        · have HH : Hid (hit av al p y = false) := by show _ = _; unfold hit; rw [← HQ.out]; simpa using hp
          have hpe : (y.p == p) = false := by simpa using hp
          clear hp
          go_wp2_with (first
            | (refine wpList_load32m rfl _ rfl g8 1 rfl y.v y.l HYO.out HRA.out ?_)
            | (refine wpList_load32 rfl _ rfl g4 rfl av al HL.out HB2.out ?_))
          go_roundw
          case rel => exact ⟨k + 1, by go_num, by omega, HA2.out, fun j z hj hz => by
            rcases Nat.lt_or_ge j k with h1 | h1
            · exact HNO.out j z h1 hz
            · rw [show j = k from by omega, HY.out] at hz
              simp only [Option.some.injEq] at hz
              rw [← hz]; exact HH.out⟩
          case measure => simp [intOf]; omega
    · have j1 : decide (k < n) = false := by simp; omega
      have HANS : Hid (ans = 0) := by
        show _ = _
        rw [HJ.out]
        refine justP_none (idx_none fun j z hz => HNO.out j z ?_ hz)
        have := (List.getElem?_eq_some_iff.1 hz).1
        rw [← HN.out] at this
        omega
      clear hkn
      go_wp2_with fail
      go_ret
      exact ⟨ret_int HANS.out.symm, HA.out.trans HA1.out⟩
end Go.Proofs.Ytemdgggpfadecaa
