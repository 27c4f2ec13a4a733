/-
  groups.
-/
import Derived.Test.YtoifolmcdkfniabGreatDoorOwn
namespace Go.Proofs.YtoifolmcdkfniabGreatDoor
open Go.ChangeShapes Go.WideShapes Go.ChangeAt Go.RowKit
set_option linter.unusedVariables false
set_option maxHeartbeats 4000000
set_option maxRecDepth 100000

def grps8 (l : List UInt8) : Option (List Nat) := match grps l with | some g => if g.length ≤ 8 then some g else none | none => none
def u16s (gs : List Nat) : List Value := gs.map (fun g : Nat => Value.int .u16 (g : Int))
def GrpPost (r : Option (List Nat)) (w : World) (e : Ending) (w' : World) : Prop :=
  Below w.heap.size w w' ∧ ∃ v, e = .returned (.tuple #[v, .bool r.isSome]) ∧ ∀ gs, r = some gs → w'.ownsRow w.heap.size 64 1 v gs.length (u16s gs)
/-- What is read and what is left. -/
def GInv (l : List UInt8) (done : List Nat) (rest : List UInt8) (more : Bool) : Prop :=
  done.length ≤ 8 ∧ grps l = if more = true then (alls (numOf 16 4) (pieces 58 rest)).map (done ++ ·) else some done
theorem ginv_step {l : List UInt8} {done : List Nat} {rest : List UInt8} (h : GInv l done rest true) (hlt : done.length ≠ 8) (n : Nat) (hn : numOf 16 4 (Lib.cut rest [58]).1 = some n) : GInv l (done ++ [n]) (Lib.cut rest [58]).2.1 (Lib.cut rest [58]).2.2 := by
  obtain ⟨h1, h2⟩ := h
  refine ⟨by simp; omega, ?_⟩
  rw [h2, pieces_cut]
  cases hc : (Lib.cut rest [58]).2.2
  · simp [alls, hn]
  · simp only [if_true, alls, hn]
    cases alls (numOf 16 4) (pieces 58 (Lib.cut rest [58]).2.1) <;> simp
theorem ginv_bad {l : List UInt8} {done : List Nat} {rest : List UInt8} (h : GInv l done rest true) (hn : numOf 16 4 (Lib.cut rest [58]).1 = none) : grps8 l = none := by
  have h2 := h.2
  rw [if_pos rfl, pieces_cut] at h2
  simp only [alls, hn, Option.map_none] at h2
  simp [grps8, h2]
theorem ginv_full {l : List UInt8} {done : List Nat} {rest : List UInt8} (h : GInv l done rest true) (h8 : done.length = 8) : grps8 l = none := by
  have h2 := h.2
  rw [if_pos rfl] at h2
  unfold grps8
  rw [h2]
  cases hr : alls (numOf 16 4) (pieces 58 rest) with
  | none => rfl
  | some r =>
    have := alls_length _ _ _ hr
    have h3 : 0 < (pieces 58 rest).length := List.length_pos_iff.2 (pieces_ne _ _)
    simp only [Option.map_some, List.length_append]
    rw [if_neg (by omega)]
theorem ginv_end {l : List UInt8} {done : List Nat} {rest : List UInt8} (h : GInv l done rest false) : grps8 l = some done := by
  have h2 := h.2
  simp at h2
  simp [grps8, h2, h.1]
theorem ginv_start (l : List UInt8) : GInv l [] l (decide (l ≠ [])) := by
  refine ⟨by simp, ?_⟩
  unfold grps
  by_cases h : l = []
  · subst h; simp
  · simp [h]
def strLen : Value → Nat
  | .string s => s.size
  | _ => 0
theorem cut_short (rest : List UInt8) (n : Nat) (hn : numOf 16 4 (Lib.cut rest [58]).1 = some n) : (Lib.cut rest [58]).2.1.length < rest.length := by
  cases rest with
  | nil => simp [cut_nil, numOf] at hn
  | cons x l =>
    by_cases h : x = 58
    · subst h; simp [cut_hit]
    · rw [cut_miss 58 x l h]
      have := (cut_len l [58]).2
      simp only [List.length_cons]
      omega
theorem numOf_lt {l : List UInt8} {n : Nat} (h : numOf 16 4 l = some n) : n < 65536 := by
  unfold numOf at h
  split at h
  · simp at h
  · rename_i hc
    have := digs_lt 16 (by decide) _ _ _ h
    have h5 : l.length ≤ 4 := by omega
    have h6 : 16 ^ l.length ≤ 16 ^ 4 := Nat.pow_le_pow_right (by decide) h5
    omega
theorem groups_c (s : ByteArray) (hs : s.size < 4294967281) (w : World) (hg : Glob w) : Calls Tryz.prog 100 #[.string s] w (GrpPost (grps8 s.data.toList) w) := by
  obtain ⟨l, hl⟩ : ∃ l, l = s.data.toList := ⟨_, rfl⟩
  have hlen : s.size = l.length := by rw [hl]; exact Lib.size_eq s
  have hst : s = ⟨l.toArray⟩ := by rw [hl]
  rw [← hl]
  clear hl
  have hnil : ((s.toList == ([] : List UInt8))) = !decide (l ≠ []) := by
    rw [Lib.toList_data, hst]; cases l <;> rfl
  obtain ⟨mo, hmo⟩ : ∃ b, b = decide (l ≠ []) := ⟨_, rfl⟩
  rw [← hmo] at hnil
  have HST : Hid (GInv l [] l mo) := Lib.hid (by rw [hmo]; exact ginv_start l)
  have HL : Hid (l.length < 4294967281) := Lib.hid (by omega)
  have HS := Lib.hid hst
  obtain ⟨res, hres⟩ : ∃ r, r = grps8 l := ⟨_, rfl⟩
  rw [← hres]
  have HR := Lib.hid hres
  clear hres hst hlen hmo
  have HG := Lib.hid hg
  have HGG := Lib.hid hg
  clear hg
  go_enter Tryz.func100, Tryz.ntmps100
  go_wp2_with fail
  go_loopw [0, 4, 5] (fun t v m wr => ∃ (done : List Nat) (rest : List UInt8) (more : Bool), t = .string ⟨rest.toArray⟩ ∧ m = .bool more ∧ GInv l done rest more ∧ rest.length < 4294967281 ∧ wr.ownsRow w.heap.size 64 1 v done.length (u16s done) ∧ Below w.heap.size w wr ∧ Glob wr) (fun t _ _ _ => strLen t)
  case atStart => exact ⟨[], l, mo, by rw [HS.out], rfl, HST.out, HL.out, World.ownsRow_nil _ _ _ _, Below.refl _ _, HG.out⟩
  case round =>
    obtain ⟨done, rest, more, rfl, rfl, hinv, hrl, hown, hbel, hgl⟩ := hrel
    cases more
    · have hr : res = some done := by rw [HR.out]; exact ginv_end hinv
      obtain ⟨va, vc, rfl, _, _⟩ := own_shape hown
      have HF : Hid (GrpPost res w (.returned (.tuple #[.slice va done.length vc, .bool true])) wr) := Lib.hid ⟨hbel, _, by rw [hr]; rfl, fun gs h => by rw [hr] at h; simp at h; subst h; exact hown⟩
      clear hinv hown hbel hgl HR hr HST HG
      go_wp2_with fail
      go_ret2
      exact HF.out
    · obtain ⟨p, hp⟩ : ∃ p, p = (Lib.cut rest [58]).1 := ⟨_, rfl⟩
      obtain ⟨r2, hr2⟩ : ∃ p, p = (Lib.cut rest [58]).2.1 := ⟨_, rfl⟩
      obtain ⟨m2, hm2⟩ : ∃ p, p = (Lib.cut rest [58]).2.2 := ⟨_, rfl⟩
      have hpl : p.length ≤ rest.length := by rw [hp]; exact (cut_len rest [58]).1
      have hrl2 : r2.length ≤ rest.length := by rw [hr2]; exact (cut_len rest [58]).2
      have HCUT : Hid (Calls Tryz.prog 44 #[.string ⟨rest.toArray⟩, .string ⟨#[58]⟩] wr fun e w' => e = .returned (.tuple #[.string ⟨p.toArray⟩, .string ⟨r2.toArray⟩, .bool m2]) ∧ ∃ n, w' = wr.drewN n) := Lib.hid (by
        have := cut_c ⟨rest.toArray⟩ ⟨#[58]⟩ (by rw [Lib.size_eq]; simpa using hrl) wr hgl
        simpa [hp, hr2, hm2] using this)
      have HGRP : Hid (∀ W, Calls Tryz.prog 108 #[.string ⟨p.toArray⟩] W fun e w' => e = .returned (.tuple #[.int .u16 (grpV ⟨p.toArray⟩), .bool (numOf 16 4 p).isSome]) ∧ Below W.heap.size W w') := Lib.hid (fun W => group_c ⟨p.toArray⟩ (by rw [Lib.size_eq]; simp; omega) W)
      have hgv : grpV ⟨p.toArray⟩ = (match numOf 16 4 p with | some n => (n : Int) | none => 0) := rfl
      rw [hgv] at HGRP
      obtain ⟨va, vc, rfl, _, _⟩ := own_shape hown
      have hd8 := hinv.1
      cases hn : numOf 16 4 p with
      | none =>
        have hr : res = none := by rw [HR.out]; exact ginv_bad hinv (by rw [← hp]; exact hn)
        subst hr
        rw [hn] at HGRP
        have HW : Hid (∀ n w3, Below (wr.drewN n).heap.size (wr.drewN n) w3 → GrpPost none w (.returned (.tuple #[.slice none 0 0, .bool false])) w3) := Lib.hid (fun n w3 hb => ⟨hbel.trans ((below_drewN (Below.refl _ _) n).trans (hb.mono hbel.size)), _, rfl, fun gs h => by simp at h⟩)
        clear hinv hown hbel hgl HR HST HG hp hr2 hm2 hn hgv
        go_wp2_with (first
          | (go_at_call 44; refine HCUT.out.mono ?_; rintro e w2 ⟨rfl, n1, rfl⟩)
          | (go_at_call 108; refine (HGRP.out _).mono ?_; rintro e w3 ⟨rfl, hb3⟩))
        go_ret2
        exact HW.out _ _ hb3
      | some n =>
        rw [hn] at HGRP
        have hnb := numOf_lt hn
        by_cases h8 : done.length = 8
        · have hr : res = none := by rw [HR.out]; exact ginv_full hinv h8
          subst hr
          have HW : Hid (∀ n w3, Below (wr.drewN n).heap.size (wr.drewN n) w3 → GrpPost none w (.returned (.tuple #[.slice none 0 0, .bool false])) w3) := Lib.hid (fun n w3 hb => ⟨hbel.trans ((below_drewN (Below.refl _ _) n).trans (hb.mono hbel.size)), _, rfl, fun gs h => by simp at h⟩)
          have k8 : ((done.length : Int) == 8) = true := by simp; omega
          have k9 : decide ((done.length : Int) = 8) = true := by simp; omega
          clear hinv hown hbel hgl HR HST HG hp hr2 hm2 hn hgv
          go_wp2_with (first
            | (go_at_call 44; refine HCUT.out.mono ?_; rintro e w2 ⟨rfl, n1, rfl⟩)
            | (go_at_call 108; refine (HGRP.out _).mono ?_; rintro e w3 ⟨rfl, hb3⟩))
          go_ret2
          exact HW.out _ _ hb3
        · have hstep : GInv l (done ++ [n]) r2 m2 := by
            have := ginv_step hinv h8 n (by rw [← hp]; exact hn)
            rwa [← hr2, ← hm2] at this
          have hshort : r2.length < rest.length := by rw [hr2]; exact cut_short rest n (by rw [← hp]; exact hn)
          have k8 : ((done.length : Int) == 8) = false := by simp; omega
          have k9 : decide ((done.length : Int) = 8) = false := by simp; omega
          have HOWN : Hid (∀ n w3, Below (wr.drewN n).heap.size (wr.drewN n) w3 → w3.ownsRow w.heap.size 64 1 (.slice va done.length vc) done.length (u16s done) ∧ Below w.heap.size w w3 ∧ Glob w3) := Lib.hid (fun n w3 hb =>
            have h5 : Below wr.heap.size wr w3 := (below_drewN (Below.refl _ _) n).trans hb
            ⟨own_below hown h5, hbel.trans (h5.mono hbel.size), hgl.on h5⟩)
          have HST2 := Lib.hid hstep
          have hB := hbel.size
          clear hinv hown hbel hgl HR HST HG hp hr2 hm2 hn hgv hstep
          go_wp2_with (first
            | (go_at_call 44; refine HCUT.out.mono ?_; rintro e w2 ⟨rfl, n1, rfl⟩)
            | (go_at_call 108; refine (HGRP.out _).mono ?_; rintro e w3 ⟨rfl, hb3⟩; obtain ⟨o3, b3, g3⟩ := HOWN.out _ _ hb3; have O3 := Lib.hid o3; have B3 := Lib.hid b3; have G3 := Lib.hid g3; have hs3 : w.heap.size ≤ w3.heap.size := b3.size; clear o3 b3 g3 hb3)
            | (at_builtin; refine wpList_app1 rfl _ _ 70 rfl w.heap.size 64 (.int .u16 0) 2 Tryz.underlying70 info53 rfl _ done.length _ rfl O3.out (.int .u16 (n : Int)) rfl rfl (by omega) (by decide) hs3 ?_; intro v4 w4 o4 b4; obtain ⟨a4, c4, rfl, _, _⟩ := own_shape o4; have O4 := Lib.hid o4; have B4 := Lib.hid (B3.out.trans b4); have G4 := Lib.hid (G3.out.below b4 (Nat.le_trans HGG.out.size (Nat.le_refl _))); clear o4 b4))
          go_roundw
          case rel =>
            refine ⟨done ++ [n], r2, m2, rfl, rfl, HST2.out, by omega, ?_, B4.out, G4.out⟩
            have := O4.out
            rw [List.length_append, List.length_singleton]
            simpa [u16s] using this
          case measure =>
            show ByteArray.size _ < ByteArray.size _
            rw [Lib.size_eq, Lib.size_eq]
            simpa using hshort
end Go.Proofs.YtoifolmcdkfniabGreatDoor
