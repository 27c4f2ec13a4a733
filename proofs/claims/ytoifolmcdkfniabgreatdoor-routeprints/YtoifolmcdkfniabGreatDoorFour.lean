/-
  parse4.
-/
import Derived.Test.YtoifolmcdkfniabGreatDoorGrps
import Derived.Test.YtoifolmcdkfniabGreatDoorMask
namespace Go.Proofs.YtoifolmcdkfniabGreatDoor
open Go.ChangeShapes Go.WideShapes Go.ChangeAt Go.RowKit
set_option linter.unusedVariables false
set_option maxHeartbeats 4000000
set_option maxRecDepth 100000

def fourB (r : List Nat) : List Int := r.map Int.ofNat ++ List.replicate (16 - r.length) 0
def four4 (r : Option (List Nat)) : Array Value := match r with | some r => csA 4 (fourB r) | none => csA 0 z16
def FourPost (r : Option (List Nat)) (w : World) (e : Ending) (w' : World) : Prop := e = .returned (.tuple #[.agg (four4 r), .bool r.isSome]) ∧ Below w.heap.size w w'
/-- What is read and what is left, of four. -/
def FInv (l : List UInt8) (done : List Nat) (rest : List UInt8) : Prop :=
  parse4P l = if done.length = 4 then some done else (match alls dec (pieces 46 rest) with | some r => if done.length + r.length = 4 then some (done ++ r) else none | none => none)
theorem finv_start (l : List UInt8) : FInv l [] l := by
  unfold FInv parse4P
  rw [if_neg (by simp)]
  cases alls dec (pieces 46 l) <;> simp
theorem finv_bad {l : List UInt8} {done : List Nat} {rest : List UInt8} (h : FInv l done rest) (hlt : done.length < 4) (hn : dec (Lib.cut rest [46]).1 = none ∨ (Lib.cut rest [46]).2.2 ≠ decide (done.length < 3)) : parse4P l = none := by
  unfold FInv at h
  rw [if_neg (by omega), pieces_cut] at h
  rw [h]
  rcases hn with hn | hn
  · simp [alls, hn]
  · cases hd : dec (Lib.cut rest [46]).1 with
    | none => simp [alls, hd]
    | some n =>
      cases hc : (Lib.cut rest [46]).2.2
      · rw [hc] at hn
        have h3 : done.length < 3 := by simpa using hn
        simp [alls, hd]; omega
      · rw [hc] at hn
        have h3 : ¬ done.length < 3 := by simpa using hn
        simp only [if_true, alls, hd]
        cases hr : alls dec (pieces 46 (Lib.cut rest [46]).2.1) with
        | none => simp
        | some r =>
          have := alls_length _ _ _ hr
          have h4 : 0 < (pieces 46 (Lib.cut rest [46]).2.1).length := List.length_pos_iff.2 (pieces_ne _ _)
          simp; omega
theorem finv_step {l : List UInt8} {done : List Nat} {rest : List UInt8} (h : FInv l done rest) (hlt : done.length < 4) (n : Nat) (hn : dec (Lib.cut rest [46]).1 = some n) (hc : (Lib.cut rest [46]).2.2 = decide (done.length < 3)) : FInv l (done ++ [n]) (Lib.cut rest [46]).2.1 := by
  unfold FInv at h ⊢
  rw [if_neg (by omega), pieces_cut] at h
  rw [h]
  by_cases h3 : done.length < 3
  · rw [hc, decide_eq_true h3]
    simp only [if_true, alls, hn]
    rw [if_neg (by simp; omega)]
    cases alls dec (pieces 46 (Lib.cut rest [46]).2.1) with
    | none => simp
    | some r => simp [Nat.add_comm, Nat.add_left_comm]
  · have h4 : done.length = 3 := by omega
    rw [hc, decide_eq_false h3]
    simp [alls, hn, h4]
theorem finv_end {l : List UInt8} {done : List Nat} {rest : List UInt8} (h : FInv l done rest) (h4 : done.length = 4) : parse4P l = some done := by
  unfold FInv at h; rw [h, if_pos h4]
theorem fourB_set (done : List Nat) (n : Nat) (h : done.length < 4) : (fourB done).set done.length (n : Int) = fourB (done ++ [n]) := by
  unfold fourB
  rw [List.set_append_right _ _ (by simp), List.length_map, Nat.sub_self]
  rw [show 16 - done.length = (16 - (done ++ [n]).length) + 1 from by simp; omega, List.replicate_succ]
  simp
theorem fourB_length (done : List Nat) (h : done.length ≤ 4) : (fourB done).length = 16 := by simp [fourB]; omega
theorem dec_lt {l : List UInt8} {n : Nat} (h : dec l = some n) : n ≤ 255 := by
  unfold dec at h
  split at h
  · split at h
    · rename_i hc; simp only [Option.some.injEq] at h; subst h; exact hc.1
    · simp at h
  · simp at h
theorem parse4_c (s : ByteArray) (hs : s.size < 4294967281) (w : World) (hg : Glob w) : Calls Tryz.prog 81 #[.string s] w (FourPost (parse4P s.data.toList) w) := by
  obtain ⟨l, hl⟩ : ∃ l, l = s.data.toList := ⟨_, rfl⟩
  have hlen : s.size = l.length := by rw [hl]; exact Lib.size_eq s
  have hst : s = ⟨l.toArray⟩ := by rw [hl]
  obtain ⟨res, hres⟩ : ∃ r, r = parse4P l := ⟨_, rfl⟩
  rw [← hl, ← hres]
  have HR := Lib.hid hres
  have HS := Lib.hid hst
  have HL : Hid (l.length < 4294967281) := Lib.hid (by omega)
  have e4 : csA 4 z16 = #[.int .i64 4, .int .u8 0, .int .u8 0, .int .u8 0, .int .u8 0, .int .u8 0, .int .u8 0, .int .u8 0, .int .u8 0, .int .u8 0, .int .u8 0, .int .u8 0, .int .u8 0, .int .u8 0, .int .u8 0, .int .u8 0, .int .u8 0] := rfl
  have r1 : rowAt ((w.alloc (.cells (csA 0 z16) 37)).alloc (.cells (csA 0 z16) 37)) (w.heap.size + 1) = some (csA 0 z16) := rowAt_of (heap_alloc2_new w _ _) rfl
  have r0 : rowAt ((w.alloc (.cells (csA 0 z16) 37)).alloc (.cells (csA 0 z16) 37)) w.heap.size = some (csA 0 z16) := rowAt_of (heap_alloc2_old w _ _) rfl
  have hB : Below w.heap.size w ((w.alloc (.cells (csA 0 z16) 37)).alloc (.cells (csA 0 z16) 37)) := ((Below.refl _ _).alloc (Nat.le_refl _) _).alloc (by simp) _
  have HW : Hid (∀ W, W = ((w.alloc (.cells (csA 0 z16) 37)).alloc (.cells (csA 0 z16) 37)).setRow (w.heap.size + 1) (csA 4 z16) → Below w.heap.size w W ∧ rowAt W (w.heap.size + 1) = some (csA 4 (fourB [])) ∧ rowAt W w.heap.size = some (csA 0 z16) ∧ Glob W) := Lib.hid (by
    rintro W rfl
    have h1 := below_setRow hB (show w.heap.size ≤ w.heap.size + 1 by omega) (csA 4 z16)
    refine ⟨h1, rowAt_setRow r1 _ rfl, ?_, hg.on h1⟩
    obtain ⟨t, hh, hs⟩ := rowAt_some r0
    exact rowAt_of (t := t) (by simp only [World.setRow, Array.getElem?_modify]; rw [if_neg (by omega)]; exact hh) hs)
  have s4 : (csA 4 z16).size = 17 := rfl
  have o4 := csA_one 4 z16
  have hz3 := csA_one 0 z16
  have hz1 : (csA 0 z16).size = 17 := rfl
  rw [csA_z] at r1 hz3 hz1
  rw [csA_z, e4] at HW
  rw [e4] at s4 o4
  have HGS : Hid (4 ≤ w.heap.size) := Lib.hid hg.size
  clear hres hst hlen hl r0 hB hg
  go_enter Tryz.func81, Tryz.ntmps81
  go_wp2_with (refine wpList_store24o rfl _ _ rfl _ rfl _ _ r1 rfl s4 o4 ?_; obtain ⟨k1, k2, k3, k4⟩ := HW.out _ rfl; generalize World.setRow _ _ _ = W at *)
  rw [← csA_z] at k3
  have HX : Hid (Below w.heap.size w W ∧ rowAt W (w.heap.size + 1) = some (csA 4 (fourB [])) ∧ rowAt W w.heap.size = some (csA 0 z16) ∧ Glob W) := Lib.hid ⟨k1, k2, k3, k4⟩
  clear k1 k2 k3 k4 r1 HW e4 s4 o4
  go_loopw [14, 5] (fun i t wr => ∃ (done : List Nat) (rest : List UInt8), i = .int .i64 (done.length : Int) ∧ t = .string ⟨rest.toArray⟩ ∧ done.length ≤ 4 ∧ rest.length < 4294967281 ∧ FInv l done rest ∧ Below w.heap.size w wr ∧ rowAt wr (w.heap.size + 1) = some (csA 4 (fourB done)) ∧ rowAt wr w.heap.size = some (csA 0 z16) ∧ Glob wr) (fun i _ _ => 4 - (intOf i).toNat)
  case atStart => exact ⟨[], l, rfl, by rw [HS.out], by simp, HL.out, finv_start l, HX.out⟩
  case round =>
    obtain ⟨done, rest, rfl, rfl, hd4, hrl, hinv, hbel, d1, d0, hgl⟩ := hrel
    by_cases hlt : done.length < 4
    · obtain ⟨p, hp⟩ : ∃ p, p = (Lib.cut rest [46]).1 := ⟨_, rfl⟩
      obtain ⟨r2, hr2⟩ : ∃ p, p = (Lib.cut rest [46]).2.1 := ⟨_, rfl⟩
      obtain ⟨m2, hm2⟩ : ∃ p, p = (Lib.cut rest [46]).2.2 := ⟨_, rfl⟩
      have hpl : p.length ≤ rest.length := by rw [hp]; exact (cut_len rest [46]).1
      have hrl2 : r2.length ≤ rest.length := by rw [hr2]; exact (cut_len rest [46]).2
      have HCUT : Hid (Calls Tryz.prog 44 #[.string ⟨rest.toArray⟩, .string ⟨#[46]⟩] wr fun e w' => e = .returned (.tuple #[.string ⟨p.toArray⟩, .string ⟨r2.toArray⟩, .bool m2]) ∧ ∃ n, w' = wr.drewN n) := Lib.hid (by
        have := cut_c ⟨rest.toArray⟩ ⟨#[46]⟩ (by rw [Lib.size_eq]; simpa using hrl) wr hgl
        simpa [hp, hr2, hm2] using this)
      obtain ⟨dv, hdv⟩ : ∃ d : Int, d = decV ⟨p.toArray⟩ := ⟨_, rfl⟩
      obtain ⟨ok, hok⟩ : ∃ b, b = (dec p).isSome := ⟨_, rfl⟩
      have HNUM : Hid (∀ W, Calls Tryz.prog 98 #[.string ⟨p.toArray⟩] W (NumPost ok dv W)) := Lib.hid (fun W => by rw [hok, hdv]; exact number_c ⟨p.toArray⟩ (by rw [Lib.size_eq]; simp; omega) W)
      have b1 : decide ((done.length : Int) < 4) = true := by simp; omega
      have b2 : 0 ≤ (done.length : Int) := by omega
      have b3 : (done.length : Int) < 4 := by omega
      have b4 : ((done.length : Int)).toNat = done.length := by omega
      obtain ⟨t3, ht3⟩ : ∃ t : Bool, t = decide ((done.length : Int) < 3) := ⟨_, rfl⟩
      have ht3' : t3 = decide (done.length < 3) := by rw [ht3]; congr 1; simp; omega
      by_cases hbad : dec p = none ∨ m2 ≠ t3
      · have hr : res = none := by rw [HR.out]; exact finv_bad hinv hlt (by rw [← hp, ← hm2, ← ht3']; exact hbad)
        subst hr
        have HFAIL : Hid (∀ n w3, Below (wr.drewN n).heap.size (wr.drewN n) w3 → rowAt w3 w.heap.size = some (csA 0 z16) ∧ Below w.heap.size w (w3.setRow w.heap.size (csA 0 z16)) ∧ rowAt (w3.setRow w.heap.size (csA 0 z16)) w.heap.size = some (csA 0 z16)) := Lib.hid (fun n w3 hb =>
          have h5 : Below wr.heap.size wr w3 := (below_drewN (Below.refl _ _) n).trans hb
          have h6 := rowAt_below d0 h5 (rowAt_lt d0)
          ⟨h6, below_setRow (hbel.trans (h5.mono hbel.size)) (Nat.le_refl _) _, rowAt_setRow h6 _ rfl⟩)
        rw [csA_z] at HFAIL
        have HBAD : Hid (ok = false ∨ m2 = !t3) := Lib.hid (by
          rcases hbad with h | h
          · left; rw [hok, h]; rfl
          · right; cases m2 <;> cases t3 <;> simp_all)
        clear hinv hbel d1 d0 hgl HR hp hr2 hm2 hdv hbad hok ht3' HX
        rcases HBAD.out with h | h
        · subst h
          go_wp2_with (first
            | (go_at_call 44; refine HCUT.out.mono ?_; rintro e w2 ⟨rfl, n1, rfl⟩)
            | (go_at_call 98; refine (HNUM.out _).mono ?_; rintro e w3 ⟨⟨x3, rfl, _⟩, hb3⟩; obtain ⟨d3, k1, k2⟩ := HFAIL.out _ _ hb3; have K1 := Lib.hid k1; have K2 := Lib.hid k2; clear k1 k2)
            | (refine wpList_store24o rfl _ _ rfl _ rfl _ _ d3 rfl hz1 hz3 ?_))
          refine bodyPost_ret (v := .tuple #[.agg (csA 0 z16), .bool false]) ?_ rfl ⟨rfl, K1.out⟩
          exact result24t rfl _ _ _ _ _ rfl rfl K2.out
        · cases ok
          · go_wp2_with (first
              | (go_at_call 44; refine HCUT.out.mono ?_; rintro e w2 ⟨rfl, n1, rfl⟩)
              | (go_at_call 98; refine (HNUM.out _).mono ?_; rintro e w3 ⟨⟨x3, rfl, _⟩, hb3⟩; obtain ⟨d3, k1, k2⟩ := HFAIL.out _ _ hb3; have K1 := Lib.hid k1; have K2 := Lib.hid k2; clear k1 k2)
              | (refine wpList_store24o rfl _ _ rfl _ rfl _ _ d3 rfl hz1 hz3 ?_))
            refine bodyPost_ret (v := .tuple #[.agg (csA 0 z16), .bool false]) ?_ rfl ⟨rfl, K1.out⟩
            exact result24t rfl _ _ _ _ _ rfl rfl K2.out
          · subst h
            have ht4 : decide ((done.length : Int) < 3) = t3 := ht3.symm
            clear ht3
            have hne : ((!t3) != t3) = true := by cases t3 <;> rfl
            have hne2 : ((!t3) == t3) = false := by cases t3 <;> rfl
            go_wp2_with (first
              | (go_at_call 44; refine HCUT.out.mono ?_; rintro e w2 ⟨rfl, n1, rfl⟩)
              | (go_at_call 98; refine (HNUM.out _).mono ?_; rintro e w3 ⟨⟨x3, rfl, _⟩, hb3⟩; obtain ⟨d3, k1, k2⟩ := HFAIL.out _ _ hb3; have K1 := Lib.hid k1; have K2 := Lib.hid k2; clear k1 k2)
              | (refine wpList_store24o rfl _ _ rfl _ rfl _ _ d3 rfl hz1 hz3 ?_))
            refine bodyPost_ret (v := .tuple #[.agg (csA 0 z16), .bool false]) ?_ rfl ⟨rfl, K1.out⟩
            exact result24t rfl _ _ _ _ _ rfl rfl K2.out
      · have hd1 : dec p ≠ none := fun h => hbad (.inl h)
        have hd2 : m2 = t3 := Classical.byContradiction fun h => hbad (.inr h)
        obtain ⟨n, hn⟩ : ∃ n, dec p = some n := by cases h : dec p with
          | none => exact absurd h hd1
          | some n => exact ⟨n, rfl⟩
        have hok' : ok = true := by rw [hok, hn]; rfl
        have hdv' : dv = (n : Int) := by rw [hdv]; show (match dec p with | some n => (n : Int) | none => 0) = _; rw [hn]
        have hn255 := dec_lt hn
        have hstep : FInv l (done ++ [n]) r2 := by rw [hr2]; exact finv_step hinv hlt n (by rw [← hp]; exact hn) (by rw [← hm2, hd2]; exact ht3')
        obtain ⟨y, hy⟩ : ∃ y, (fourB done)[done.length]? = some y := ⟨_, List.getElem?_eq_getElem (by rw [fourB_length done hd4]; omega)⟩
        have HOK : Hid (∀ n1 w3, Below (wr.drewN n1).heap.size (wr.drewN n1) w3 → Below w.heap.size w w3 ∧ rowAt w3 (w.heap.size + 1) = some (csA 4 (fourB done)) ∧ rowAt w3 w.heap.size = some (csA 0 z16) ∧ Glob w3) := Lib.hid (fun n1 w3 hb =>
          have h5 : Below wr.heap.size wr w3 := (below_drewN (Below.refl _ _) n1).trans hb
          ⟨hbel.trans (h5.mono hbel.size), rowAt_below d1 h5 (rowAt_lt d1), rowAt_below d0 h5 (rowAt_lt d0), hgl.on h5⟩)
        have HST2 := Lib.hid hstep
        subst hok' hdv' hd2
        have ht4 : decide ((done.length : Int) < 3) = m2 := ht3.symm
        have hne : (m2 != m2) = false := by cases m2 <;> rfl
        have HY := Lib.hid hy
        clear hinv hbel d1 d0 hgl HR hp hr2 hm2 hdv hok hbad ht3 ht3' HX hstep hd1 hn hy
        go_wp2_with (first
          | (go_at_call 44; refine HCUT.out.mono ?_; rintro e w2 ⟨rfl, n1, rfl⟩)
          | (go_at_call 98; refine (HNUM.out _).mono ?_; rintro e w3 ⟨⟨x3, rfl, hx3⟩, hb3⟩; have hx3 := hx3 rfl; subst hx3; obtain ⟨k1, k2, k3, k4⟩ := HOK.out _ _ hb3; have c3 := rowAt_bytes k2 done.length y HY.out; have f3 := rowAt_free k2 (1 + done.length); have K := Lib.hid (And.intro k1 (And.intro k2 (And.intro k3 k4))); clear k1 k2 k3 k4 hb3))
        go_roundw
        case rel =>
          obtain ⟨k1, k2, k3, k4⟩ := K.out
          have hs3 : Below w.heap.size w (w3.setCell ⟨w.heap.size + 1, 1 + done.length, none⟩ (.int .u8 (n : Int))) := k1.setCell (by simp) _
          refine ⟨done ++ [n], r2, by simp, rfl, by simp; omega, by omega, HST2.out, hs3, ?_, ?_, ?_⟩
          · rw [← fourB_set done n hlt]
            exact rowAt_set k2 done.length _
          · rw [rowAt_set_other (by omega)]
            exact k3
          · exact k4.below (B := 4) ⟨rfl, rfl, rfl, by simp, fun k hk => Below.heap_setCell _ _ _ _ (by have := HGS.out; simp; omega)⟩ (Nat.le_refl _)
        case measure => simp [intOf]; omega
    · have h4 : done.length = 4 := by omega
      have hr : res = some done := by rw [HR.out]; exact finv_end hinv h4
      subst hr
      have hsz : (csA 4 (fourB done)).size = 17 := csA_size (fourB_length done hd4)
      have hon := csA_one 4 (fourB done)
      obtain ⟨cz, hcz⟩ : ∃ c, c = csA 4 (fourB done) := ⟨_, rfl⟩
      rw [← hcz] at d1 hsz hon
      have HCZ := Lib.hid hcz
      have HF : Hid (Below w.heap.size w (wr.setRow w.heap.size cz) ∧ rowAt (wr.setRow w.heap.size cz) w.heap.size = some cz) := Lib.hid ⟨below_setRow hbel (Nat.le_refl _) _, rowAt_setRow d0 _ hsz⟩
      have b1 : decide ((done.length : Int) < 4) = false := by simp; omega
      clear hinv hbel hgl HR hcz HX h4
      go_wp2_with (first
        | (refine wpList_load24 rfl _ rfl _ rfl _ d1 ?_)
        | (refine wpList_store24o rfl _ _ rfl _ rfl _ _ d0 rfl hsz hon ?_))
      refine bodyPost_ret (v := .tuple #[.agg cz, .bool true]) ?_ rfl ⟨by rw [HCZ.out]; rfl, HF.out.1⟩
      exact result24t rfl _ _ _ _ _ rfl rfl HF.out.2
end Go.Proofs.YtoifolmcdkfniabGreatDoor
