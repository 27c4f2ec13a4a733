/-
  The law's own functions: net4, bit, lies.
-/
import Derived.Test.YtoifolmcdkfniaaLw
import Derived.Test.YtoifolmcdkfniaaRef3
namespace Go.Proofs.Ytoifolmcdkfniaa
open Go.ChangeShapes Go.WideShapes Go.ChangeAt Go.RowKit
set_option linter.unusedVariables false
set_option linter.unusedSimpArgs false
set_option maxRecDepth 100000

theorem resultR {fn : Func} {p : Tmp} (h : fn.results = #[.cell p 33]) (tmps : Array Value) (w : World) (g : Nat) (x : Rt) (hx : Okr x) (hp : tmps.getD p undef = .pointer (some ⟨g, 0, none⟩)) (hr : BoxD w g x) :
    (results fn tmps).run Try.prog w = .ok (.agg (csD x)) w :=
  results_cell_row h tmps w g 33 (csD x) (0, 0) _ hp hr Try.underlying33 rfl (by rw [csD_size hx]; exact infoE)
theorem net4_ok {a b bits link : Int} (ha : 0 ≤ a ∧ a ≤ 255) (hb : 0 ≤ b ∧ b ≤ 255) : Okr (net4P a b bits link) := ⟨rfl, fun y hy => by
  simp only [net4P, List.mem_cons, List.not_mem_nil, or_false] at hy
  rcases hy with rfl | rfl | rfl | rfl | rfl | rfl | rfl | rfl | rfl | rfl | rfl | rfl | rfl | rfl | rfl | rfl <;> omega⟩
set_option maxHeartbeats 4000000 in
theorem net4_c (a b bits link : Int) (ha : 0 ≤ a ∧ a ≤ 255) (hb : 0 ≤ b ∧ b ≤ 255) (w : World) : Calls Try.prog 20 #[.int .u8 a, .int .u8 b, .int .i64 bits, .int .i64 link] w fun E w' => E = .returned (.agg (csD (net4P a b bits link))) ∧ Away [] w w' := by
  have HO := Lib.hid (net4_ok (bits := bits) (link := link) ha hb)
  clear ha hb
  go_enter Try.func20, Try.ntmps20
  go_wp2_with (refine wpList_allocE rfl rfl ?_; refine Hid.out ?_)
  refine Lib.hid ?_
  intro g8 w1 hg8 hbx haw
  have HBX := Lib.hid hbx
  have HA := Lib.hid haw
  clear hbx haw
  go_wp2_with (refine wpList_storeE rfl _ _ rfl g8 rfl (net4P a b bits link) zeroD HO.out zeroD_ok rfl HBX.out ?_; refine Hid.out ?_)
  refine Lib.hid ?_
  intro w2 hbx haw
  have HB2 := Lib.hid hbx
  have HA2 : Hid (Away [] w w2) := HA.out.next haw (fun x hx => .inr (by simp at hx; subst hx; omega))
  clear hbx haw
  go_wp2_with fail
  refine bodyPost_ret (v := .agg (csD (net4P a b bits link))) ?_ rfl ⟨rfl, HA2.out⟩
  exact resultR rfl _ _ _ (net4P a b bits link) HO.out rfl HB2.out
/-! bit and lies. -/
def bitOkI : Bool := (List.range 8).all fun q => (List.range 256).all fun b => decide (bits .and .i64 (wrap64 ((b : Int) / 2 ^ (7 - q))) 1 = (b : Int) / 2 ^ (7 - q) % 2)
theorem bitOkI_true : bitOkI = true := by decide +kernel
theorem bitI_eq (q : Nat) (b : Int) (hq : q < 8) (hb : 0 ≤ b ∧ b ≤ 255) : bits .and .i64 (wrap64 (b / 2 ^ (7 - q))) 1 = b / 2 ^ (7 - q) % 2 := by
  obtain ⟨b, rfl⟩ := Int.eq_ofNat_of_zero_le hb.1
  have h := bitOkI_true
  unfold bitOkI at h
  simp only [List.all_eq_true, List.mem_range, decide_eq_true_eq] at h
  exact h q hq b (by omega)
set_option maxHeartbeats 4000000 in
theorem lbit_c (v : Int) (l : List Int) (hl : l.length = 16) (hb : Byt l) (k : Nat) (hk : k < 128) (w : World) :
    Calls Try.prog 24 #[.agg (csA v l), .int .i64 (k : Int)] w fun e w' => e = .returned (.int .i64 (bitP l k)) ∧ Below w.heap.size w w' := by
  obtain ⟨cs, hcs⟩ : ∃ c, c = csA v l := ⟨_, rfl⟩
  have r1 : rowAt (w.alloc (.cells cs 31)) w.heap.size = some (csA v l) := by rw [← hcs]; exact rowAt_new w cs 31 (by rw [hcs]; exact csA_size hl)
  obtain ⟨b, hbk⟩ : ∃ b, l[k / 8]? = some b := ⟨_, List.getElem?_eq_getElem (by omega)⟩
  have cx := rowAt_bytes r1 (k / 8) b hbk
  have hbb := hb b (List.mem_of_getElem? hbk)
  have HB : Hid (Below w.heap.size w (w.alloc (.cells cs 31))) := Lib.hid ((Below.refl _ _).alloc (Nat.le_refl _) _)
  have HE : Hid (bitP l k = bits .and .i64 (wrap64 (b / 2 ^ (7 - k % 8))) 1) := Lib.hid (by rw [bitI_eq (k % 8) b (by omega) hbb, bitP, List.getD, hbk]; rfl)
  obtain ⟨q, hq⟩ : ∃ q, q = k / 8 := ⟨_, rfl⟩
  obtain ⟨p, hp⟩ : ∃ p, p = k % 8 := ⟨_, rfl⟩
  have d1 : (k : Int).tdiv 8 = (q : Int) := by rw [Int.tdiv_eq_ediv_of_nonneg (by omega)]; omega
  have d2 : (k : Int).tmod 8 = (p : Int) := by rw [Int.tmod_eq_emod_of_nonneg (by omega)]; omega
  have d3 : (q : Int) < 16 := by omega
  have d4 : (p : Int) < 8 := by omega
  have d5 : 0 ≤ (q : Int) := by omega
  have d6 : 0 ≤ (p : Int) := by omega
  have d7 : (q : Int).toNat = q := by omega
  rw [← hq] at cx
  rw [← hp] at HE
  rw [← hcs]
  clear hcs r1 hbk hq hp
  go_enter Try.func24, Try.ntmps24
  go_wp2_with fail
  go_ret
  exact ⟨by rw [HE.out]; rfl, HB.out⟩
theorem lies_hit {v : Int} {l : List Int} {x : Rt} (hl : l.length = 16) (hb : Byt l) (hv : validP v l = true) (hx : Okr x) (hm : mayR x = true) (e : v = x.v) : hitR v l x = true ↔ ∀ i : Nat, (i : Int) < x.b → bitP l i = bitP x.l i := by
  obtain ⟨h1, -, -⟩ := mayR_iff.1 hm
  obtain ⟨h2, h3, h4⟩ := ok_iff.1 h1
  obtain ⟨n, hn⟩ := Int.eq_ofNat_of_zero_le h3
  have hn' : n ≤ 128 := by split at h4 <;> omega
  have hk : maskOk v l x.b = true := ok_iff.2 ⟨hv, h3, by rw [e]; exact h4⟩
  have hmb := mask_bits hl hx.1 hb hx.2 n hn'
  rw [hit_iff]
  constructor
  · rintro ⟨-, -, -, h5⟩ i hi
    rw [hn] at h5 hi
    exact hmb.1 h5 i (by omega)
  · intro h
    refine ⟨hk, h1, e, ?_⟩
    rw [hn]
    exact hmb.2 (fun i hi => h i (by rw [hn]; omega))
set_option maxHeartbeats 4000000 in
theorem lies_c {v : Int} {l : List Int} {x : Rt} (hl : l.length = 16) (hb : Byt l) (hv : validP v l = true) (hx : Okr x) (hm : mayR x = true) (w : World) :
    Calls Try.prog 13 #[.agg (csA v l), .agg (csD x)] w fun E w' => E = .returned (.bool (hitR v l x)) ∧ Away [] w w' := by
  obtain ⟨n, hn⟩ : ∃ n : Nat, x.b = n := Int.eq_ofNat_of_zero_le (ok_iff.1 (mayR_iff.1 hm).1).2.1
  have hn' : n ≤ 128 := by have := (ok_iff.1 (mayR_iff.1 hm).1).2.2; split at this <;> omega
  have HBA := Lib.hid (fun (k : Nat) (hk : k < 128) w => lbit_c v l hl hb k hk w)
  have HBX := Lib.hid (fun (k : Nat) (hk : k < 128) w => lbit_c x.v x.l hx.1 hx.2 k hk w)
  have HLI := Lib.hid (fun e => lies_hit hl hb hv hx hm e)
  have HNE : Hid (v ≠ x.v → hitR v l x = false) := fun hne => by
    cases hh : hitR v l x with
    | false => rfl
    | true => exact absurd (hit_iff.1 hh).2.2.1 hne
  have HX := Lib.hid hx
  have HL := Lib.hid hl
  rw [hn] at HLI
  have HN := Lib.hid hn
  clear hl hb hv hx hm hn
  obtain ⟨r, hr⟩ : ∃ r, r = hitR v l x := ⟨_, rfl⟩
  rw [← hr] at HLI HNE ⊢
  clear hr
  go_enter Try.func13, Try.ntmps13
  go_wp2_with (refine wpList_box32 rfl _ rfl v l rfl ?_; refine Hid.out ?_)
  refine Lib.hid ?_
  intro g2 w1 hg2 hb haw
  have HA := Lib.hid haw
  have HB := Lib.hid hb
  clear hg2 hb haw
  go_wp2_with (refine wpList_boxE rfl _ rfl x rfl ?_; refine Hid.out ?_)
  refine Lib.hid ?_
  intro g3 w2 hg3 hb haw
  have HA2 := Lib.hid (HA.out.trans haw)
  have HB2 := Lib.hid (HB.out.on haw (by simp))
  have HD2 := Lib.hid hb
  clear hg3 hb haw HA HB
  have c0 := HB2.out.v
  have cv := range_v HD2.out.range HX.out
  by_cases he : v = x.v
  · have heb : (v == x.v) = true := by simpa using he
    have hnb : (v != x.v) = false := by simp [he]
    have HE := Lib.hid he
    have HL2 := Lib.hid (HLI.out he)
    clear he HLI HNE
    go_wp2_with fail
    clear c0 cv
    go_loopw [5] (fun i wr => ∃ k : Nat, i = .int .i64 (k : Int) ∧ k ≤ n ∧ Away [] w2 wr ∧ ∀ j : Nat, j < k → bitP l j = bitP x.l j) (fun i _ => n - (intOf i).toNat)
    case atStart => exact ⟨0, rfl, Nat.zero_le _, Away.refl _ _, fun j hj => by omega⟩
    case round =>
      obtain ⟨k, rfl, hk, haw, hno⟩ := hrel
      have HA3 := Lib.hid haw
      have HNO := Lib.hid hno
      have HB3 := Lib.hid (HB2.out.on haw (by simp))
      have HD3 := Lib.hid (HD2.out.on haw (by simp))
      have c17 := range_b HD3.out.range HX.out
      rw [HN.out] at c17
      simp only [Nat.zero_add] at c17
      clear haw hno
      by_cases hkn : k < n
      · have j1 : decide (k < n) = true := by simp; omega
        have j0 : (k : Int) < (n : Int) := by omega
        have HP := Lib.hid (fun w => HBA.out k (by omega) w)
        have HQ := Lib.hid (fun w => HBX.out k (by omega) w)
        obtain ⟨p, hp⟩ : ∃ p, p = bitP l k := ⟨_, rfl⟩
        obtain ⟨q, hq⟩ : ∃ q, q = bitP x.l k := ⟨_, rfl⟩
        rw [← hp] at HP
        rw [← hq] at HQ
        have HPE := Lib.hid hp
        have HQE := Lib.hid hq
        clear hp hq hkn
        have HC : Hid (∀ w', Away [] w2 w' → BoxA w' g2 v l ∧ w'.rangeAt g3 0 (cellsA x.v x.l)) := fun w' hw' => ⟨HB2.out.on hw' (by simp), range_a (HD2.out.on hw' (by simp)).range HX.out⟩
        clear HB3 HD3
        go_wp2_with fail
        clear c17
        refine wp_region_cls (C := fun w' => Away [] w2 w') (by kernel_rfl) (by kernel_rfl) (by exact HA3.out.drew) ?_
        repeat (first
          | go_big_quiet_skip
          | (go_big_quiet_want
             first
               | (refine quiet_ldAm _ rfl g2 0 rfl v l HL.out (fun w' h => (HC.out w' h).1.range) ?_; go_simp; go_big_quiet_on)
               | (refine quiet_ldAm _ rfl g3 0 rfl x.v x.l HX.out.1 (fun w' h => (HC.out w' h).2) ?_; go_simp; go_big_quiet_on)
               | (go_big_quiet_op; go_big_quiet_on)
               | (refine quiet_call 24 #[.agg (csA v l), .int .i64 (k : Int)] (.int .i64 p) ?_ (fun W hW => (HP.out W).mono (fun _ _ h => ⟨h.1, hW.trans (Away.of_below h.2)⟩)) ?_
                  · intro w; go_simp; done
                  go_simp; go_big_quiet_on)
               | (refine quiet_call 24 #[.agg (csA x.v x.l), .int .i64 (k : Int)] (.int .i64 q) ?_ (fun W hW => (HQ.out W).mono (fun _ _ h => ⟨h.1, hW.trans (Away.of_below h.2)⟩)) ?_
                  · intro w; go_simp; done
                  go_simp; go_big_quiet_on)
               | (refine quiet_val ?_ ?_ ?_
                  rotate_left
                  · intro w; go_simp; rfl
                  go_simp; go_big_quiet_on)))
        refine wpQuiet_nil ?_
        intro V hV
        have HV := Lib.hid hV
        clear hV
        by_cases hpq : p = q
        · subst hpq
          have hpp : (p == p) = true := by simp
          go_wp2_with fail
          go_roundw
          case rel => exact ⟨k + 1, by go_num, by omega, HV.out, fun j hj => by
            rcases Nat.lt_or_ge j k with h1 | h1
            · exact HNO.out j h1
            · rw [show j = k from by omega, ← HPE.out, ← HQE.out]⟩
          case measure => simp [intOf]; omega
        · have hpp : (p == q) = false := by simpa using hpq
          have HF : Hid (r = false) := by
            cases hr : r with
            | false => exact rfl
            | true =>
              exfalso
              have := HL2.out.1 hr k (by omega)
              rw [← HPE.out, ← HQE.out] at this
              exact hpq this
          clear hpq
          go_wp2_with fail
          go_ret
          exact ⟨ret_bool HF.out.symm, HA2.out.trans HV.out⟩
      · have j1 : decide (k < n) = false := by simp; omega
        have HT : Hid (r = true) := HL2.out.2 (fun i hi => HNO.out i (by omega))
        clear hkn
        go_wp2_with fail
        go_ret
        exact ⟨ret_bool HT.out.symm, HA2.out.trans HA3.out⟩
  · have heb : (v == x.v) = false := by simpa using he
    have hnb : (v != x.v) = true := by simp [he]
    have HF := Lib.hid (HNE.out he)
    clear he HLI HNE
    go_wp2_with fail
    go_ret
    exact ⟨ret_bool HF.out.symm, HA2.out⟩
end Go.Proofs.Ytoifolmcdkfniaa
