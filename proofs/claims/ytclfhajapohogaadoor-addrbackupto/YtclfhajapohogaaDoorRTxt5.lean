/-
  The document's parse4.
-/
import Derived.Test.YtclfhajapohogaaDoorRTxt4
namespace Go.Proofs.YtclfhajapohogaaDoor
open Go.ChangeShapes Go.WideShapes Go.ChangeAt Go.RowKit
set_option linter.unusedVariables false
set_option maxHeartbeats 4000000
set_option maxRecDepth 100000

def errOf (b : Bool) : Int := if b = true then 0 else 30
def R4Post (r : Option (List Nat)) (w : World) (e : Ending) (w' : World) : Prop := e = .returned (.tuple #[.agg (four4 r), .int .i64 (errOf r.isSome)]) ∧ Below w.heap.size w w'
theorem dec_none_of {p : List UInt8} (h : numOf 10 3 p = none) : dec p = none := by unfold dec; rw [h]
theorem dec_bad {p : List UInt8} {n : Nat} (h : numOf 10 3 p = some n) (hb : ¬ (n ≤ 255 ∧ ¬ (1 < p.length ∧ p.head? = some 48))) : dec p = none := by unfold dec; rw [h]; simp only; rw [if_neg hb]
theorem dec_good {p : List UInt8} {n : Nat} (h : numOf 10 3 p = some n) (hb : n ≤ 255 ∧ ¬ (1 < p.length ∧ p.head? = some 48)) : dec p = some n := by unfold dec; rw [h]; simp only; rw [if_pos hb]
theorem p4_len {l : List UInt8} (h : (pieces 46 l).length ≠ 4) : parse4P l = none := by
  unfold parse4P
  cases hr : alls dec (pieces 46 l) with
  | none => rfl
  | some r =>
    have := alls_length _ _ _ hr
    simp only
    rw [if_neg (by omega)]
theorem p4_none {l : List UInt8} (h : alls dec (pieces 46 l) = none) : parse4P l = none := by unfold parse4P; rw [h]
theorem p4_some {l : List UInt8} {r : List Nat} (h : alls dec (pieces 46 l) = some r) (h4 : r.length = 4) : parse4P l = some r := by unfold parse4P; rw [h]; simp only; rw [if_pos h4]
theorem rparse4_c (l : List UInt8) (hl : l.length ≤ 1048576) (w : World) :
    Calls Tryd.prog 40 #[.string ⟨l.toArray⟩] w fun e w' => R4Post (parse4P l) w e w' := by
  obtain ⟨res, hres⟩ : ∃ r, r = parse4P l := ⟨_, rfl⟩
  rw [← hres]
  have HR : Hid (res = parse4P l) := hres
  obtain ⟨hpl, hpe⟩ := pieces_len 46 l
  have HPC : Hid (∀ wx, Calls Tryd.prog 57 #[.string ⟨l.toArray⟩, .int .u8 46] wx fun e w' => PcPost (pieces 46 l) wx e w') := fun wx => rpieces_c l 46 hl wx
  have HLEN : Hid ((pieces 46 l).length ≠ 4 → res = none) := fun h => by rw [HR.out]; exact p4_len h
  have HNON : Hid (alls dec (pieces 46 l) = none → res = none) := fun h => by rw [HR.out]; exact p4_none h
  have HSOM : Hid (∀ r, alls dec (pieces 46 l) = some r → r.length = 4 → res = some r) := fun r h h4 => by rw [HR.out]; exact p4_some h h4
  generalize pieces 46 l = ps at *
  have HPE : Hid (∀ p ∈ ps, p.length ≤ l.length) := hpe
  have hz3 := csA_one 0 z16
  have hz1 : (csA 0 z16).size = 17 := rfl
  have e4 : csA 4 z16 = #[.int .i64 4, .int .u8 0, .int .u8 0, .int .u8 0, .int .u8 0, .int .u8 0, .int .u8 0, .int .u8 0, .int .u8 0, .int .u8 0, .int .u8 0, .int .u8 0, .int .u8 0, .int .u8 0, .int .u8 0, .int .u8 0, .int .u8 0] := rfl
  have s4 : (csA 4 z16).size = 17 := rfl
  have o4 := csA_one 4 z16
  have HA : Hid (∀ w1, Below (w.alloc (.cells (csA 0 z16) 24)).heap.size (w.alloc (.cells (csA 0 z16) 24)) w1 → Below w.heap.size w w1 ∧ rowAt w1 w.heap.size = some (csA 0 z16)) := Lib.hid (fun w1 h =>
    ⟨((Below.refl _ _).alloc (Nat.le_refl _) _).trans (h.mono (by simp)), rowAt_below (rowAt_new w _ 24 rfl) h (by simp)⟩)
  have HB : Hid (∀ w1 : World, ∀ g, g < w1.heap.size → rowAt w1 g = some (csA 0 z16) → rowAt (w1.alloc (.cells (csA 4 z16) 24)) w1.heap.size = some (csA 4 (fourB [])) ∧ rowAt (w1.alloc (.cells (csA 4 z16) 24)) g = some (csA 0 z16)) := Lib.hid (fun w1 g hg h => ⟨rowAt_new w1 _ 24 rfl, rowAt_old h _⟩)
  rw [csA_z] at hz3 hz1 HA
  rw [csA_z, e4] at HB
  rw [e4] at s4 o4
  have HZ : Hid (csA 0 z16 = #[.int .i64 0, .int .u8 0, .int .u8 0, .int .u8 0, .int .u8 0, .int .u8 0, .int .u8 0, .int .u8 0, .int .u8 0, .int .u8 0, .int .u8 0, .int .u8 0, .int .u8 0, .int .u8 0, .int .u8 0, .int .u8 0, .int .u8 0]) := csA_z
  clear hres hpe HR e4
  go_enter Tryd.func40, Tryd.ntmps40
  go_wp2_with fail
  refine (HPC.out _).mono ?_
  rintro E w1 ⟨hb1, v1, rfl, hown1⟩
  obtain ⟨hbw1, d0⟩ := HA.out w1 hb1
  have hs1 := hb1.size
  have hw1 : w.heap.size < w1.heap.size := rowAt_lt d0
  obtain ⟨k1, k2⟩ := HB.out w1 _ hw1 d0
  obtain ⟨pa, pc, rfl, _, _⟩ := own_shape hown1
  have hbw2 := hbw1.alloc (Nat.le_of_lt hw1) (.cells #[.int .i64 4, .int .u8 0, .int .u8 0, .int .u8 0, .int .u8 0, .int .u8 0, .int .u8 0, .int .u8 0, .int .u8 0, .int .u8 0, .int .u8 0, .int .u8 0, .int .u8 0, .int .u8 0, .int .u8 0, .int .u8 0, .int .u8 0] 24)
  have HOW : Hid (w1.ownsRow (w.alloc (.cells #[.int .i64 0, .int .u8 0, .int .u8 0, .int .u8 0, .int .u8 0, .int .u8 0, .int .u8 0, .int .u8 0, .int .u8 0, .int .u8 0, .int .u8 0, .int .u8 0, .int .u8 0, .int .u8 0, .int .u8 0, .int .u8 0, .int .u8 0] 24)).heap.size 9 1 (.slice pa ps.length pc) ps.length (rs ps)) := hown1
  have HFAIL : Hid (∀ W, Below w.heap.size w W → rowAt W w.heap.size = some #[.int .i64 0, .int .u8 0, .int .u8 0, .int .u8 0, .int .u8 0, .int .u8 0, .int .u8 0, .int .u8 0, .int .u8 0, .int .u8 0, .int .u8 0, .int .u8 0, .int .u8 0, .int .u8 0, .int .u8 0, .int .u8 0, .int .u8 0] → Below w.heap.size w (W.setRow w.heap.size #[.int .i64 0, .int .u8 0, .int .u8 0, .int .u8 0, .int .u8 0, .int .u8 0, .int .u8 0, .int .u8 0, .int .u8 0, .int .u8 0, .int .u8 0, .int .u8 0, .int .u8 0, .int .u8 0, .int .u8 0, .int .u8 0, .int .u8 0]) ∧ rowAt (W.setRow w.heap.size #[.int .i64 0, .int .u8 0, .int .u8 0, .int .u8 0, .int .u8 0, .int .u8 0, .int .u8 0, .int .u8 0, .int .u8 0, .int .u8 0, .int .u8 0, .int .u8 0, .int .u8 0, .int .u8 0, .int .u8 0, .int .u8 0, .int .u8 0]) w.heap.size = some #[.int .i64 0, .int .u8 0, .int .u8 0, .int .u8 0, .int .u8 0, .int .u8 0, .int .u8 0, .int .u8 0, .int .u8 0, .int .u8 0, .int .u8 0, .int .u8 0, .int .u8 0, .int .u8 0, .int .u8 0, .int .u8 0, .int .u8 0]) := Lib.hid (fun W hb hr => ⟨below_setRow hb (Nat.le_refl _) _, rowAt_setRow hr _ hz1⟩)
  clear hown1 hb1 HA HB
  by_cases h4 : ps.length = 4
  · have HB1 : Hid (Below w1.heap.size w1 (w1.alloc (.cells #[.int .i64 4, .int .u8 0, .int .u8 0, .int .u8 0, .int .u8 0, .int .u8 0, .int .u8 0, .int .u8 0, .int .u8 0, .int .u8 0, .int .u8 0, .int .u8 0, .int .u8 0, .int .u8 0, .int .u8 0, .int .u8 0, .int .u8 0] 24))) := Lib.hid ((Below.refl _ _).alloc (Nat.le_refl _) _)
    rw [h4]
    have H4 : Hid (ps.length = 4) := h4
    go_wp2_with (refine wpList_store24 rfl _ _ rfl rfl _ rfl s4 hz1 o4 ?_)
    have HST : Hid (rowAt (w1.alloc (.cells #[.int .i64 4, .int .u8 0, .int .u8 0, .int .u8 0, .int .u8 0, .int .u8 0, .int .u8 0, .int .u8 0, .int .u8 0, .int .u8 0, .int .u8 0, .int .u8 0, .int .u8 0, .int .u8 0, .int .u8 0, .int .u8 0, .int .u8 0] 24)) w1.heap.size = some (csA 4 (fourB [])) ∧ rowAt (w1.alloc (.cells #[.int .i64 4, .int .u8 0, .int .u8 0, .int .u8 0, .int .u8 0, .int .u8 0, .int .u8 0, .int .u8 0, .int .u8 0, .int .u8 0, .int .u8 0, .int .u8 0, .int .u8 0, .int .u8 0, .int .u8 0, .int .u8 0, .int .u8 0] 24)) w.heap.size = some #[.int .i64 0, .int .u8 0, .int .u8 0, .int .u8 0, .int .u8 0, .int .u8 0, .int .u8 0, .int .u8 0, .int .u8 0, .int .u8 0, .int .u8 0, .int .u8 0, .int .u8 0, .int .u8 0, .int .u8 0, .int .u8 0, .int .u8 0]) := Lib.hid ⟨k1, k2⟩
    generalize w1.alloc (.cells #[.int .i64 4, .int .u8 0, .int .u8 0, .int .u8 0, .int .u8 0, .int .u8 0, .int .u8 0, .int .u8 0, .int .u8 0, .int .u8 0, .int .u8 0, .int .u8 0, .int .u8 0, .int .u8 0, .int .u8 0, .int .u8 0, .int .u8 0] 24) = W2 at *
    clear h4 k1 k2 s4 o4
    go_loopw [6] (fun iv wr => ∃ (k : Nat) (done : List Nat), k ≤ 4 ∧ iv = .int .i64 (k : Int) ∧ done.length = k ∧ rowAt wr w1.heap.size = some (csA 4 (fourB done)) ∧ rowAt wr w.heap.size = some #[.int .i64 0, .int .u8 0, .int .u8 0, .int .u8 0, .int .u8 0, .int .u8 0, .int .u8 0, .int .u8 0, .int .u8 0, .int .u8 0, .int .u8 0, .int .u8 0, .int .u8 0, .int .u8 0, .int .u8 0, .int .u8 0, .int .u8 0] ∧ Below w1.heap.size w1 wr ∧ alls dec ps = (alls dec (ps.drop k)).map (done ++ ·)) (fun iv _ => 4 - (intOf iv).toNat)
    case atStart => exact ⟨0, [], by omega, rfl, rfl, HST.out.1, HST.out.2, HB1.out, by simp⟩
    case round =>
      obtain ⟨k, done, hk, rfl, hdl, d1, d2, hbel, hal⟩ := hrel
      have HAL : Hid (alls dec ps = (alls dec (ps.drop k)).map (done ++ ·)) := hal
      have hbw : Below w.heap.size w wr := hbw1.trans (hbel.mono (Nat.le_of_lt hw1))
      clear hal
      by_cases hlt : k < 4
      · obtain ⟨p, hp⟩ : ∃ p, ps[k]? = some p := ⟨_, List.getElem?_eq_getElem (by rw [H4.out]; exact hlt)⟩
        have hpm := List.mem_of_getElem? hp
        have hdr := alls_drop dec hp
        have hplen := HPE.out p hpm
        obtain ⟨g, rfl, c0⟩ := own_cell (own_below HOW.out hbel) (k := k) (u := .string ⟨p.toArray⟩) (by unfold rs; rw [List.getElem?_map, hp]; rfl)
        have HNM : Hid (∀ wx, Calls Tryd.prog 58 #[.string ⟨p.toArray⟩, .int .i64 10, .int .i64 3] wx fun e w' => e = .returned (.int .i64 (numI (numOf 10 3 p))) ∧ w' = wx) := fun wx => rnumber_c p 10 3 (by omega) (by omega) (by omega) (by omega) wx
        have HBAD : Hid (dec p = none → res = none) := fun h => HNON.out (by rw [HAL.out, hdr, h]; rfl)
        have HGOOD : Hid (∀ n, dec p = some n → alls dec ps = (alls dec (ps.drop (k + 1))).map ((done ++ [n]) ++ ·)) := fun n h => by
          rw [HAL.out, hdr, h]
          cases alls dec (ps.drop (k + 1)) <;> simp
        have hszp := bsize p
        have t1 : decide ((k : Int) < 4) = true := by simp; omega
        have t2 : 0 ≤ (k : Int) := by omega
        have t3 : (k : Int) < 4 := by omega
        have t4 : ((k : Int)).toNat = k := by omega
        have HD : Hid (rowAt wr w1.heap.size = some (csA 4 (fourB done)) ∧ Below w1.heap.size w1 wr) := Lib.hid ⟨d1, hbel⟩
        clear hp hpm hdr d1 hbel HST HB1
        cases hnum : numOf 10 3 p with
        | none =>
          rw [hnum] at HNM
          obtain rfl : res = none := HBAD.out (dec_none_of hnum)
          clear hnum
          go_wp2_with fail
          refine (HNM.out _).mono ?_
          rintro E w' ⟨rfl, rfl⟩
          rw [show numI none = -1 from rfl]
          go_wp2_with (first
            | (refine wpList_store24o rfl _ _ rfl _ rfl _ _ d2 rfl hz1 hz3 ?_))
          refine bodyPost_ret (v := .tuple #[.agg (csA 0 z16), .int .i64 30]) ?_ rfl ⟨rfl, (HFAIL.out _ hbw d2).1⟩
          rw [HZ.out]
          exact result24t rfl _ _ _ _ _ rfl rfl (HFAIL.out _ hbw d2).2
        | some n =>
          rw [hnum] at HNM
          have hn0 : ¬ ((n : Int) < 0) := by omega
          by_cases h255 : 255 < n
          · obtain rfl : res = none := HBAD.out (dec_bad hnum (by omega))
            have h255' : (255 : Int) < (n : Int) := by omega
            clear hnum
            go_wp2_with fail
            refine (HNM.out _).mono ?_
            rintro E w' ⟨rfl, rfl⟩
            rw [show numI (some n) = (n : Int) from rfl]
            go_wp2_with (refine wpList_store24o rfl _ _ rfl _ rfl _ _ d2 rfl hz1 hz3 ?_)
            refine bodyPost_ret (v := .tuple #[.agg (csA 0 z16), .int .i64 30]) ?_ rfl ⟨rfl, (HFAIL.out _ hbw d2).1⟩
            rw [HZ.out]
            exact result24t rfl _ _ _ _ _ rfl rfl (HFAIL.out _ hbw d2).2
          · have h255' : ¬ ((255 : Int) < (n : Int)) := by omega
            by_cases h1 : 1 < p.length
            · have h1' : (1 : Int) < (p.length : Int) := by omega
              obtain ⟨x, hx⟩ : ∃ x, p[0]? = some x := ⟨_, List.getElem?_eq_getElem (by omega)⟩
              have hix := idx_eq p 0 x 0 rfl hx
              have hhd : p.head? = some x := by rw [List.head?_eq_getElem?]; exact hx
              by_cases hx48 : x = 48
              · subst hx48
                obtain rfl : res = none := HBAD.out (dec_bad hnum (fun h => h.2 ⟨h1, hhd⟩))
                clear hnum hx hhd
                go_wp2_with fail
                refine (HNM.out _).mono ?_
                rintro E w' ⟨rfl, rfl⟩
                rw [show numI (some n) = (n : Int) from rfl]
                go_wp2_with (refine wpList_store24o rfl _ _ rfl _ rfl _ _ d2 rfl hz1 hz3 ?_)
                refine bodyPost_ret (v := .tuple #[.agg (csA 0 z16), .int .i64 30]) ?_ rfl ⟨rfl, (HFAIL.out _ hbw d2).1⟩
                rw [HZ.out]
                exact result24t rfl _ _ _ _ _ rfl rfl (HFAIL.out _ hbw d2).2
              · have hdec : dec p = some n := dec_good hnum ⟨by omega, fun h => hx48 (by have := h.2; rw [hhd] at this; exact Option.some.inj this)⟩
                have hne : ((x.toNat : Int) == 48) = false := by
                  have : x.toNat ≠ 48 := fun e => hx48 (UInt8.toNat_inj.1 (by rw [e]; rfl))
                  simp; omega
                generalize x.toNat = xn at *
                clear hnum hx hhd
                have HS : Hid (alls dec ps = (alls dec (ps.drop (k + 1))).map ((done ++ [n]) ++ ·)) := HGOOD.out n hdec
                have hd1 := HD.out.1
                have f1 := rowAt_free hd1 (1 + k)
                obtain ⟨y, hy⟩ : ∃ y, (fourB done)[k]? = some y := ⟨_, List.getElem?_eq_getElem (by rw [fourB_length done (by omega)]; omega)⟩
                have c1 := rowAt_bytes hd1 k y hy
                have hwr : IntKind.u8.wrap (n : Int) = (n : Int) := by simp [IntKind.wrap, IntKind.bits, IntKind.signed]; omega
                clear hd1 hy hdec HGOOD HBAD
                go_wp2_with fail
                refine (HNM.out _).mono ?_
                rintro E w' ⟨rfl, rfl⟩
                rw [show numI (some n) = (n : Int) from rfl]
                go_wp2_with fail
                go_roundw
                case rel =>
                  refine ⟨k + 1, done ++ [n], by omega, by go_num, by simp; omega, ?_, ?_, HD.out.2.setCell (by simp) _, HS.out⟩
                  · rw [← fourB_set done n (by omega), hdl]
                    exact rowAt_set HD.out.1 k _
                  · rw [rowAt_set_other (by omega)]; exact d2
                case measure => simp [intOf]; omega
            · have h1' : ¬ ((1 : Int) < (p.length : Int)) := by omega
              have hdec : dec p = some n := dec_good hnum ⟨by omega, fun h => h1 h.1⟩
              clear hnum
              have HS : Hid (alls dec ps = (alls dec (ps.drop (k + 1))).map ((done ++ [n]) ++ ·)) := HGOOD.out n hdec
              have hd1 := HD.out.1
              have f1 := rowAt_free hd1 (1 + k)
              obtain ⟨y, hy⟩ : ∃ y, (fourB done)[k]? = some y := ⟨_, List.getElem?_eq_getElem (by rw [fourB_length done (by omega)]; omega)⟩
              have c1 := rowAt_bytes hd1 k y hy
              have hwr : IntKind.u8.wrap (n : Int) = (n : Int) := by simp [IntKind.wrap, IntKind.bits, IntKind.signed]; omega
              clear hd1 hy hdec HGOOD HBAD
              go_wp2_with fail
              refine (HNM.out _).mono ?_
              rintro E w' ⟨rfl, rfl⟩
              rw [show numI (some n) = (n : Int) from rfl]
              go_wp2_with fail
              go_roundw
              case rel =>
                refine ⟨k + 1, done ++ [n], by omega, by go_num, by simp; omega, ?_, ?_, HD.out.2.setCell (by simp) _, HS.out⟩
                · rw [← fourB_set done n (by omega), hdl]
                  exact rowAt_set HD.out.1 k _
                · rw [rowAt_set_other (by omega)]; exact d2
              case measure => simp [intOf]; omega
      · obtain rfl : k = 4 := by omega
        have t1 : decide ((4 : Int) < 4) = false := by simp
        obtain rfl : res = some done := HSOM.out done (by rw [HAL.out, List.drop_eq_nil_of_le (by rw [H4.out]; omega)]; simp [alls]) hdl
        have hsz : (csA 4 (fourB done)).size = 17 := csA_size (fourB_length done (by omega))
        have hon := csA_one 4 (fourB done)
        have HF : Hid (Below w.heap.size w (wr.setRow w.heap.size (csA 4 (fourB done))) ∧ rowAt (wr.setRow w.heap.size (csA 4 (fourB done))) w.heap.size = some (csA 4 (fourB done))) := Lib.hid ⟨below_setRow hbw (Nat.le_refl _) _, rowAt_setRow d2 _ hsz⟩
        generalize hcs : csA 4 (fourB done) = cs at *
        have HCS : Hid (csA 4 (fourB done) = cs) := hcs
        clear hcs hbel hbw HST
        go_wp2_with (first
          | (refine wpList_load24 rfl _ rfl _ rfl _ d1 ?_)
          | (refine wpList_store24o rfl _ _ rfl _ rfl _ _ d2 rfl hsz hon ?_))
        refine bodyPost_ret (v := .tuple #[.agg cs, .int .i64 0]) ?_ rfl ⟨by show _ = Ending.returned (.tuple #[.agg (csA 4 (fourB done)), .int .i64 (errOf true)]); rw [HCS.out]; rfl, HF.out.1⟩
        exact result24t rfl _ _ _ _ _ rfl rfl HF.out.2
  · obtain rfl : res = none := HLEN.out h4
    have h4' : ¬ ((ps.length : Int) = 4) := by omega
    go_wp2_with (first
      | (refine wpList_store24 rfl _ _ rfl rfl _ rfl s4 hz1 o4 ?_)
      | (refine wpList_store24o rfl _ _ rfl _ rfl _ _ k2 rfl hz1 hz3 ?_))
    refine bodyPost_ret (v := .tuple #[.agg (csA 0 z16), .int .i64 30]) ?_ rfl ⟨rfl, (HFAIL.out _ hbw2 k2).1⟩
    rw [HZ.out]
    exact result24t rfl _ _ _ _ _ rfl rfl (HFAIL.out _ hbw2 k2).2
#print axioms rparse4_c
end Go.Proofs.YtclfhajapohogaaDoor
