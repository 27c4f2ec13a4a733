/-
  QueueApart.
-/
import Derived.Test.YtdgkkbiodhbmeaaAny
namespace Go.Proofs.Ytdgkkbiodhbmeaa
open Go.ChangeShapes Go.WideShapes Go.ChangeAt Go.RowKit Go.Deep
set_option linter.unusedVariables false
set_option linter.unusedSimpArgs false
set_option maxRecDepth 100000
set_option maxHeartbeats 8000000

namespace queueApart
theorem ld3 {w : World} {ad : Addr} {n : Int} (h : w.cell? ad = some (.int .i64 n)) : (Instr.loadAt 3 (.pointer (some ad))).run Try.prog w = .ok (.int .i64 n) w := by
  simp [go_sem, Instr.loadAt, Instr.sureAddr, h]
theorem get_op {S : List Op2} {i : Nat} (h : i < S.length) : ∃ x, S[i]? = some x := ⟨S[i], by simp [h]⟩
theorem walk (c b : Int) (sa : Option Addr) (S : List Op2) (scap : Nat) (ta : Option Addr) (T : List Op2) (tcap : Nat) (w : World) (hc0 : (Lit.int .i64 c).wf = true) (hb0 : (Lit.int .i64 b).wf = true) (hS : RowC (fun _ => 0) w sa S) (hSl : S.length ≤ 8796093021952) (hT : RowC (fun _ => 0) w ta T) (hTl : T.length ≤ 8796093021952) : Calls Try.prog 5 #[.int .i64 c, .int .i64 b, .slice sa S.length scap, .slice ta T.length tcap] w fun E w' => E = .returned (.bool true) ∧ Below w.heap.size w w' := by
  have hc := bounds_i64 hc0
  have hb := bounds_i64 hb0
  clear hc0 hb0
  obtain ⟨o0, ho, hR, hR2⟩ : ∃ o, Out o w w ∧ RowC o w sa S ∧ RowC o w ta T := ⟨_, Out.start w, hS, hT⟩
  have HO := Lib.hid ho
  have HR := Lib.hid hR
  have HZ := Lib.hid hR2
  clear ho hR hS hR2 hT
  by_cases hm : 0 ≤ c ∧ c ≤ 64 ∧ 0 ≤ b
  · obtain ⟨m1, m2, m3⟩ := hm
    have hcc := hc
    clear hc
    go_enter Try.func5, Try.ntmps5
    go_wp2_with fail
    refine (KI.new_o o0 1 c b 9 _ m1 m2 m3 (by omega)).mono ?_
    rintro E w1 ⟨ga, rfl, hq, hc⟩
    replace HO := Lib.hid (HO.out.keep hc (by decide))
    replace HR := Lib.hid (HR.out.keep hc (by decide))
    replace HZ := Lib.hid (HZ.out.keep hc (by decide))
    have HA := Lib.hid hq
    clear hq hc
    generalize give o0 w 1 = o1 at *
    go_wp2_with fail
    refine (KI.new_o o1 2 c b 9 _ m1 m2 m3 (by omega)).mono ?_
    rintro E w2 ⟨gb, rfl, hq, hc⟩
    replace HO := Lib.hid (HO.out.keep hc (by decide))
    replace HR := Lib.hid (HR.out.keep hc (by decide))
    replace HZ := Lib.hid (HZ.out.keep hc (by decide))
    replace HA := Lib.hid (HA.out.keep hc (by decide))
    have HB := Lib.hid hq
    clear hq hc
    generalize give o1 w1 2 = o2 at *
    go_wp2_with fail
    refine (KB.new_o o2 3 c b 24 _ m1 m2 m3 (by omega)).mono ?_
    rintro E w3 ⟨gc, rfl, hq, hc⟩
    replace HO := Lib.hid (HO.out.keep hc (by decide))
    replace HR := Lib.hid (HR.out.keep hc (by decide))
    replace HZ := Lib.hid (HZ.out.keep hc (by decide))
    replace HA := Lib.hid (HA.out.keep hc (by decide))
    replace HB := Lib.hid (HB.out.keep hc (by decide))
    have HC := Lib.hid hq
    clear hq hc
    generalize give o2 w2 3 = o3 at *
    go_wp2_with fail
    refine (known_c _).mono ?_
    rintro E w4 ⟨rfl, haw⟩
    have hc := Chg.on (o := o3) 9 haw
    clear haw
    replace HO := Lib.hid (HO.out.keep hc (by decide))
    replace HR := Lib.hid (HR.out.keep hc (by decide))
    replace HZ := Lib.hid (HZ.out.keep hc (by decide))
    replace HA := Lib.hid (HA.out.keep hc (by decide))
    replace HB := Lib.hid (HB.out.keep hc (by decide))
    replace HC := Lib.hid (HC.out.keep hc (by decide))
    clear hc
    generalize give o3 w3 9 = o4 at *
    go_wp2_with fail
    refine (KI.new_o o4 4 c b 9 _ m1 m2 m3 (by omega)).mono ?_
    rintro E w5 ⟨gd, rfl, hq, hc⟩
    replace HO := Lib.hid (HO.out.keep hc (by decide))
    replace HR := Lib.hid (HR.out.keep hc (by decide))
    replace HZ := Lib.hid (HZ.out.keep hc (by decide))
    replace HA := Lib.hid (HA.out.keep hc (by decide))
    replace HB := Lib.hid (HB.out.keep hc (by decide))
    replace HC := Lib.hid (HC.out.keep hc (by decide))
    have HD := Lib.hid hq
    clear hq hc
    generalize give o4 w4 4 = o5 at *
    go_wp2_with fail
    go_loopw [17] (fun ix wr => ∃ (i : Nat) (o : Nat → Nat) (L Lb Lc : List Th), ix = .int .i64 (i : Int) ∧ i ≤ 8796093021952 ∧ Out o w wr ∧ RowC o wr sa S ∧ RowC o wr ta T ∧ KI.Ow o 1 wr ga c b 9 L ∧ KI.Ow o 2 wr gb c b 9 Lb ∧ KB.Ow o 3 wr gc c b 24 Lc ∧ KI.Ow o 4 wr gd c b 9 L) (fun ix _ => 8796093021953 - (intOf ix).toNat)
    case atStart => exact ⟨0, o5, [], [], [], rfl, by omega, HO.out, HR.out, HZ.out, HA.out, HB.out, HC.out, HD.out⟩
    case round =>
      clear HO HR HZ HA HB HC HD
      obtain ⟨i, q0, L, Lb, Lc, rfl, hi, ho, hR, hZ, hA, hB, hC, hD⟩ := hrel
      have HO := Lib.hid ho
      have HR := Lib.hid hR
      have HZ := Lib.hid hZ
      have HA := Lib.hid hA
      have HB := Lib.hid hB
      have HC := Lib.hid hC
      have HD := Lib.hid hD
      clear ho hR hZ hA hB hC hD
      have x1 : 0 ≤ (i : Int) := by omega
      have x3 : (i : Int).toNat = i := by omega
      by_cases hs : i < S.length
      · have s1 : decide ((i : Int) < (S.length : Int)) = true := decide_eq_true (by omega)
        by_cases ht : i < T.length
        · have t1 : decide ((i : Int) < (T.length : Int)) = true := decide_eq_true (by omega)
          have t2 : (i : Int) < (T.length : Int) := by omega
          obtain ⟨x, hx⟩ := get_op ht
          obtain ⟨tb, tof, hta, cx1, cx2, hx64⟩ := HZ.out.at hx
          subst hta
          obtain ⟨xp, xv⟩ := x
          simp only at cx1 cx2 hx64
          unfold I64 at hx64
          clear cx2
          cases xp
          · go_wp2_with fail
            refine (KI.pop_any HB.out).mono ?_
            rintro E w6 ⟨r6, Lb2, rfl, hq, hc⟩
            replace HO := Lib.hid (HO.out.keep hc (by decide))
            replace HR := Lib.hid (HR.out.keep hc (by decide))
            replace HZ := Lib.hid (HZ.out.keep hc (by decide))
            replace HA := Lib.hid (HA.out.keep hc (by decide))
            replace HC := Lib.hid (HC.out.keep hc (by decide))
            replace HD := Lib.hid (HD.out.keep hc (by decide))
            replace HB := Lib.hid hq
            clear hq hc
            generalize give q0 wr 2 = o6 at *
            clear cx1
            go_wp2_with fail
            refine (KB.pop_any HC.out).mono ?_
            rintro E w7 ⟨r7, Lc2, rfl, hq, hc⟩
            replace HO := Lib.hid (HO.out.keep hc (by decide))
            replace HR := Lib.hid (HR.out.keep hc (by decide))
            replace HZ := Lib.hid (HZ.out.keep hc (by decide))
            replace HA := Lib.hid (HA.out.keep hc (by decide))
            replace HB := Lib.hid (HB.out.keep hc (by decide))
            replace HD := Lib.hid (HD.out.keep hc (by decide))
            replace HC := Lib.hid hq
            clear hq hc
            generalize give o6 w6 3 = o7 at *
            clear hx
            have s3 : decide ((S.length : Int) ≤ (i : Int)) = false := decide_eq_false (by omega)
            have s2 : (i : Int) < (S.length : Int) := by omega
            obtain ⟨y, hy⟩ := get_op hs
            obtain ⟨sb, so, hsa, cy1, cy2, hy64⟩ := HR.out.at hy
            subst hsa
            obtain ⟨yp, yv⟩ := y
            simp only at cy1 cy2 hy64
            unfold I64 at hy64
            cases yp
            · clear cy2
              rcases L with _ | ⟨z, Lr⟩
              · go_wp2_with fail
                refine (KI.pop_n (by exact HA.out)).mono ?_
                rintro E w8 ⟨rfl, hq, hc⟩
                replace HO := Lib.hid (HO.out.keep hc (by decide))
                replace HR := Lib.hid (HR.out.keep hc (by decide))
                replace HZ := Lib.hid (HZ.out.keep hc (by decide))
                replace HB := Lib.hid (HB.out.keep hc (by decide))
                replace HC := Lib.hid (HC.out.keep hc (by decide))
                replace HD := Lib.hid (HD.out.keep hc (by decide))
                replace HA := Lib.hid hq
                clear hq hc
                generalize give o7 w7 1 = o8 at *
                clear cy1
                go_wp2_with fail
                refine (KI.pop_n (by exact HD.out)).mono ?_
                rintro E w9 ⟨rfl, hq, hc⟩
                replace HO := Lib.hid (HO.out.keep hc (by decide))
                replace HR := Lib.hid (HR.out.keep hc (by decide))
                replace HZ := Lib.hid (HZ.out.keep hc (by decide))
                replace HA := Lib.hid (HA.out.keep hc (by decide))
                replace HB := Lib.hid (HB.out.keep hc (by decide))
                replace HC := Lib.hid (HC.out.keep hc (by decide))
                replace HD := Lib.hid hq
                clear hq hc
                generalize give o8 w8 4 = o9 at *
                go_wp2_with fail
                refine (KI.len_o HA.out).mono ?_
                rintro E w99 ⟨rfl, h9⟩
                replace h9 := h9.symm
                subst h9
                go_wp2_with fail
                refine (KI.len_o HD.out).mono ?_
                rintro E w99 ⟨rfl, h9⟩
                replace h9 := h9.symm
                subst h9
                go_wp2_with fail
                refine (KI.bytes_o HA.out).mono ?_
                rintro E w99 ⟨rfl, h9⟩
                replace h9 := h9.symm
                subst h9
                go_wp2_with fail
                refine (KI.bytes_o HD.out).mono ?_
                rintro E w99 ⟨rfl, h9⟩
                replace h9 := h9.symm
                subst h9
                go_wp2_with fail
                go_roundw
                case rel => exact ⟨i + 1, _, _, _, _, by go_num, by omega, HO.out, HR.out, HZ.out, HA.out, HB.out, HC.out, HD.out⟩
                case measure => simp [intOf]; omega
              · obtain ⟨a0, ha0⟩ := HA.out.shp z (by simp)
                obtain ⟨zx, zn⟩ := z
                simp only at ha0
                subst ha0
                go_wp2_with fail
                refine (KI.pop_s a0 zn (by exact HA.out)).mono ?_
                rintro E w8 ⟨rfl, hq, hc⟩
                replace HO := Lib.hid (HO.out.keep hc (by decide))
                replace HR := Lib.hid (HR.out.keep hc (by decide))
                replace HZ := Lib.hid (HZ.out.keep hc (by decide))
                replace HB := Lib.hid (HB.out.keep hc (by decide))
                replace HC := Lib.hid (HC.out.keep hc (by decide))
                replace HD := Lib.hid (HD.out.keep hc (by decide))
                replace HA := Lib.hid hq
                clear hq hc
                generalize give o7 w7 1 = o8 at *
                clear cy1
                go_wp2_with fail
                refine (KI.pop_s a0 zn (by exact HD.out)).mono ?_
                rintro E w9 ⟨rfl, hq, hc⟩
                replace HO := Lib.hid (HO.out.keep hc (by decide))
                replace HR := Lib.hid (HR.out.keep hc (by decide))
                replace HZ := Lib.hid (HZ.out.keep hc (by decide))
                replace HA := Lib.hid (HA.out.keep hc (by decide))
                replace HB := Lib.hid (HB.out.keep hc (by decide))
                replace HC := Lib.hid (HC.out.keep hc (by decide))
                replace HD := Lib.hid hq
                clear hq hc
                generalize give o8 w8 4 = o9 at *
                go_wp2_with fail
                refine (KI.len_o HA.out).mono ?_
                rintro E w99 ⟨rfl, h9⟩
                replace h9 := h9.symm
                subst h9
                go_wp2_with fail
                refine (KI.len_o HD.out).mono ?_
                rintro E w99 ⟨rfl, h9⟩
                replace h9 := h9.symm
                subst h9
                go_wp2_with fail
                refine (KI.bytes_o HA.out).mono ?_
                rintro E w99 ⟨rfl, h9⟩
                replace h9 := h9.symm
                subst h9
                go_wp2_with fail
                refine (KI.bytes_o HD.out).mono ?_
                rintro E w99 ⟨rfl, h9⟩
                replace h9 := h9.symm
                subst h9
                go_wp2_with fail
                go_roundw
                case rel => exact ⟨i + 1, _, _, _, _, by go_num, by omega, HO.out, HR.out, HZ.out, HA.out, HB.out, HC.out, HD.out⟩
                case measure => simp [intOf]; omega
            · by_cases hroom : roomP c b L (max yv 0) = true
              · have HRM := Lib.hid hroom
                go_upto_region 20 with fail
                clear cy1
                refine wp_region_held_drew (S := (fun w' => w'.cell? ⟨sb, so + i * 2 + 1, none⟩ = some (.int .i64 yv))) (by kernel_rfl) (by exact cy2) (fun hHeld => ?_)
                clear hHeld cy2
                have hc := Chg.on (o := o7) 9 ((Away.refl [] w7).drew)
                replace HO := Lib.hid (HO.out.keep hc (by decide))
                replace HR := Lib.hid (HR.out.keep hc (by decide))
                replace HZ := Lib.hid (HZ.out.keep hc (by decide))
                replace HA := Lib.hid (HA.out.keep hc (by decide))
                replace HB := Lib.hid (HB.out.keep hc (by decide))
                replace HC := Lib.hid (HC.out.keep hc (by decide))
                replace HD := Lib.hid (HD.out.keep hc (by decide))
                clear hc
                generalize give o7 w7 9 = o8 at *
                generalize w7.drew = w8 at *
                have hHeld : w8.cell? ⟨sb, so + i * 2 + 1, none⟩ = some (.int .i64 yv) := (HR.out.at2 hy).2
                refine wpAnyH_take (i := 0) (v := ?_) (by simp only [List.getElem?_toArray, List.getElem?_cons_zero]; rfl) (by kernel_rfl) (by kernel_rfl) (by kernel_rfl) (by exact fun _ _ _ h => h) (Or.inl ⟨by rfl, ?_⟩) (by assumption) ?_
                rotate_left
                · intro wq hSw
                  (try dsimp only at hSw)
                  go_simp
                  all_goals (with_reducible rfl)
                try simp only [Act.put, List.setIfInBounds_toArray, List.set_cons_zero, List.set_cons_succ]
                refine wpAnyH_take (i := 1) (v := ?_) (by simp only [List.getElem?_toArray, List.getElem?_cons_succ, List.getElem?_cons_zero]; rfl) (by kernel_rfl) (by kernel_rfl) (by kernel_rfl) (by exact fun _ _ _ h => h) (Or.inl ⟨by rfl, ?_⟩) (by assumption) ?_
                rotate_left
                · intro wq hSw
                  (try dsimp only at hSw)
                  go_simp
                  all_goals (with_reducible rfl)
                try simp only [Act.put, List.setIfInBounds_toArray, List.set_cons_zero, List.set_cons_succ]
                refine wpAnyH_take (i := 2) (v := ?_) (by simp only [List.getElem?_toArray, List.getElem?_cons_succ, List.getElem?_cons_zero]; rfl) (by kernel_rfl) (by kernel_rfl) (by kernel_rfl) (by exact fun _ _ _ h => h) (Or.inl ⟨by rfl, ?_⟩) (by assumption) ?_
                rotate_left
                · intro wq hSw
                  (try dsimp only at hSw)
                  go_simp
                  all_goals (with_reducible rfl)
                try simp only [Act.put, List.setIfInBounds_toArray, List.set_cons_zero, List.set_cons_succ]
                refine wpAnyH_take (i := 3) (v := ?_) (by simp only [List.getElem?_toArray, List.getElem?_cons_succ, List.getElem?_cons_zero]; rfl) (by kernel_rfl) (by kernel_rfl) (by kernel_rfl) (by exact fun _ _ _ h => h) (Or.inl ⟨by rfl, ?_⟩) (by assumption) ?_
                rotate_left
                · intro wq hSw
                  (try dsimp only at hSw)
                  go_simp
                  all_goals (with_reducible rfl)
                try simp only [Act.put, List.setIfInBounds_toArray, List.set_cons_zero, List.set_cons_succ]
                refine wpAnyH_take (i := 4) (v := ?_) (by simp only [List.getElem?_toArray, List.getElem?_cons_succ, List.getElem?_cons_zero]; rfl) (by kernel_rfl) (by kernel_rfl) (by kernel_rfl) (by exact fun _ _ _ h => h) (Or.inl ⟨by rfl, ?_⟩) (by assumption) ?_
                rotate_left
                · intro wq hSw
                  (try dsimp only at hSw)
                  go_simp
                  all_goals (with_reducible rfl)
                try simp only [Act.put, List.setIfInBounds_toArray, List.set_cons_zero, List.set_cons_succ]
                refine wpAnyH_take (i := 5) (by simp only [List.getElem?_toArray, List.getElem?_cons_succ, List.getElem?_cons_zero]; rfl) (by kernel_rfl) (by kernel_rfl) (by kernel_rfl) (by exact fun _ _ _ h => h) (yields_ld (ad := ⟨sb, so + i * 2 + 1, none⟩) (by rfl) _ rfl rfl (fun w' h => ld3 h)) (by assumption) ?_
                try simp only [Act.put, List.setIfInBounds_toArray, List.set_cons_zero, List.set_cons_succ]
                refine wpAnyH_take (i := 7) (v := ?_) (by simp only [List.getElem?_toArray, List.getElem?_cons_succ, List.getElem?_cons_zero]; rfl) (by kernel_rfl) (by kernel_rfl) (by kernel_rfl) (by exact fun _ _ _ h => h) (Or.inl ⟨by rfl, ?_⟩) (by assumption) ?_
                rotate_left
                · intro wq hSw
                  (try dsimp only at hSw)
                  go_simp
                  all_goals (with_reducible rfl)
                try simp only [Act.put, List.setIfInBounds_toArray, List.set_cons_zero, List.set_cons_succ]
                refine wpAnyH_take (i := 8) (v := ?_) (by simp only [List.getElem?_toArray, List.getElem?_cons_succ, List.getElem?_cons_zero]; rfl) (by kernel_rfl) (by kernel_rfl) (by kernel_rfl) (by exact fun _ _ _ h => h) (Or.inl ⟨by rfl, ?_⟩) (by assumption) ?_
                rotate_left
                · intro wq hSw
                  (try dsimp only at hSw)
                  go_simp
                  all_goals (with_reducible rfl)
                try simp only [Act.put, List.setIfInBounds_toArray, List.set_cons_zero, List.set_cons_succ]
                refine wpAnyH_take (i := 9) (v := ?_) (by simp only [List.getElem?_toArray, List.getElem?_cons_succ, List.getElem?_cons_zero]; rfl) (by kernel_rfl) (by kernel_rfl) (by kernel_rfl) (by exact fun _ _ _ h => h) (Or.inl ⟨by rfl, ?_⟩) (by assumption) ?_
                rotate_left
                · intro wq hSw
                  (try dsimp only at hSw)
                  go_simp
                  all_goals (with_reducible rfl)
                try simp only [Act.put, List.setIfInBounds_toArray, List.set_cons_zero, List.set_cons_succ]
                refine wpAnyH_take (i := 10) (v := ?_) (by simp only [List.getElem?_toArray, List.getElem?_cons_succ, List.getElem?_cons_zero]; rfl) (by kernel_rfl) (by kernel_rfl) (by kernel_rfl) (by exact fun _ _ _ h => h) (Or.inl ⟨by rfl, ?_⟩) (by assumption) ?_
                rotate_left
                · intro wq hSw
                  (try dsimp only at hSw)
                  go_simp
                  all_goals (with_reducible rfl)
                try simp only [Act.put, List.setIfInBounds_toArray, List.set_cons_zero, List.set_cons_succ]
                refine wpAnyH_take (i := 11) (v := ?_) (by simp only [List.getElem?_toArray, List.getElem?_cons_succ, List.getElem?_cons_zero]; rfl) (by kernel_rfl) (by kernel_rfl) (by kernel_rfl) (by exact fun _ _ _ h => h) (Or.inl ⟨by rfl, ?_⟩) (by assumption) ?_
                rotate_left
                · intro wq hSw
                  (try dsimp only at hSw)
                  go_simp
                  all_goals (with_reducible rfl)
                try simp only [Act.put, List.setIfInBounds_toArray, List.set_cons_zero, List.set_cons_succ]
                refine wpAnyH_take (i := 12) (by simp only [List.getElem?_toArray, List.getElem?_cons_succ, List.getElem?_cons_zero]; rfl) (by kernel_rfl) (by kernel_rfl) (by kernel_rfl) (by exact fun _ _ _ h => h) (yields_ld (ad := ⟨sb, so + i * 2 + 1, none⟩) (by rfl) _ rfl rfl (fun w' h => ld3 h)) (by assumption) ?_
                try simp only [Act.put, List.setIfInBounds_toArray, List.set_cons_zero, List.set_cons_succ]
                refine wpAnyH_ready (rs := [6]) (by kernel_rfl) (by simp) ?_
                refine AllReadyH.cons (by simp only [List.getElem?_toArray, List.getElem?_cons_succ, List.getElem?_cons_zero]; rfl) (fun K hK => ?_) AllReadyH.nil
                go_simp
                refine (KI.push9_y yv (max yv 0) HA.out (by omega) rfl hroom).mono ?_
                rintro E w9 ⟨rfl, hq, hc⟩
                replace HO := Lib.hid (HO.out.keep hc (by decide))
                replace HR := Lib.hid (HR.out.keep hc (by decide))
                replace HZ := Lib.hid (HZ.out.keep hc (by decide))
                replace HB := Lib.hid (HB.out.keep hc (by decide))
                replace HC := Lib.hid (HC.out.keep hc (by decide))
                replace HD := Lib.hid (HD.out.keep hc (by decide))
                replace HA := Lib.hid hq
                clear hq hc
                generalize give o8 w8 1 = o9 at *
                have hS : w9.cell? ⟨sb, so + i * 2 + 1, none⟩ = some (.int .i64 yv) := (HR.out.at2 hy).2
                clear hHeld
                go_wp2_with fail
                refine hK.out _ _ hS (fun hHeld => ?_)
                clear hK K
                try simp only [Act.put, List.setIfInBounds_toArray, List.set_cons_zero, List.set_cons_succ]
                clear hS
                refine wpAnyH_ready (rs := [13]) (by kernel_rfl) (by simp) ?_
                refine AllReadyH.cons (by simp only [List.getElem?_toArray, List.getElem?_cons_succ, List.getElem?_cons_zero]; rfl) (fun K hK => ?_) AllReadyH.nil
                go_simp
                refine (KI.push9_y yv (max yv 0) HD.out (by omega) rfl hroom).mono ?_
                rintro E w10 ⟨rfl, hq, hc⟩
                replace HO := Lib.hid (HO.out.keep hc (by decide))
                replace HR := Lib.hid (HR.out.keep hc (by decide))
                replace HZ := Lib.hid (HZ.out.keep hc (by decide))
                replace HA := Lib.hid (HA.out.keep hc (by decide))
                replace HB := Lib.hid (HB.out.keep hc (by decide))
                replace HC := Lib.hid (HC.out.keep hc (by decide))
                replace HD := Lib.hid hq
                clear hq hc
                generalize give o9 w9 4 = o10 at *
                have hS : w10.cell? ⟨sb, so + i * 2 + 1, none⟩ = some (.int .i64 yv) := (HR.out.at2 hy).2
                clear hHeld
                go_wp2_with fail
                refine hK.out _ _ hS (fun hHeld => ?_)
                clear hK K
                try simp only [Act.put, List.setIfInBounds_toArray, List.set_cons_zero, List.set_cons_succ]
                clear hS
                refine wpAnyH_take (i := 14) (v := ?_) (by simp only [List.getElem?_toArray, List.getElem?_cons_succ, List.getElem?_cons_zero]; rfl) (by kernel_rfl) (by kernel_rfl) (by kernel_rfl) (by exact fun _ _ _ h => h) (Or.inl ⟨by rfl, ?_⟩) (by assumption) ?_
                rotate_left
                · intro wq hSw
                  (try dsimp only at hSw)
                  go_simp
                  all_goals (with_reducible rfl)
                try simp only [Act.put, List.setIfInBounds_toArray, List.set_cons_zero, List.set_cons_succ]
                clear hHeld
                refine wpAnyH_done (by kernel_rfl) ?_ _
                go_wp2_with fail
                refine (KI.len_o HA.out).mono ?_
                rintro E w99 ⟨rfl, h9⟩
                replace h9 := h9.symm
                subst h9
                go_wp2_with fail
                refine (KI.len_o HD.out).mono ?_
                rintro E w99 ⟨rfl, h9⟩
                replace h9 := h9.symm
                subst h9
                go_wp2_with fail
                refine (KI.bytes_o HA.out).mono ?_
                rintro E w99 ⟨rfl, h9⟩
                replace h9 := h9.symm
                subst h9
                go_wp2_with fail
                refine (KI.bytes_o HD.out).mono ?_
                rintro E w99 ⟨rfl, h9⟩
                replace h9 := h9.symm
                subst h9
                go_wp2_with fail
                go_roundw
                case rel => exact ⟨i + 1, _, _, _, _, by go_num, by omega, HO.out, HR.out, HZ.out, HA.out, HB.out, HC.out, HD.out⟩
                case measure => simp [intOf]; omega
              · simp only [Bool.not_eq_true] at hroom
                go_upto_region 20 with fail
                clear cy1
                refine wp_region_held_drew (S := (fun w' => w'.cell? ⟨sb, so + i * 2 + 1, none⟩ = some (.int .i64 yv))) (by kernel_rfl) (by exact cy2) (fun hHeld => ?_)
                clear hHeld cy2
                have hc := Chg.on (o := o7) 9 ((Away.refl [] w7).drew)
                replace HO := Lib.hid (HO.out.keep hc (by decide))
                replace HR := Lib.hid (HR.out.keep hc (by decide))
                replace HZ := Lib.hid (HZ.out.keep hc (by decide))
                replace HA := Lib.hid (HA.out.keep hc (by decide))
                replace HB := Lib.hid (HB.out.keep hc (by decide))
                replace HC := Lib.hid (HC.out.keep hc (by decide))
                replace HD := Lib.hid (HD.out.keep hc (by decide))
                clear hc
                generalize give o7 w7 9 = o8 at *
                generalize w7.drew = w8 at *
                have hHeld : w8.cell? ⟨sb, so + i * 2 + 1, none⟩ = some (.int .i64 yv) := (HR.out.at2 hy).2
                refine wpAnyH_take (i := 0) (v := ?_) (by simp only [List.getElem?_toArray, List.getElem?_cons_zero]; rfl) (by kernel_rfl) (by kernel_rfl) (by kernel_rfl) (by exact fun _ _ _ h => h) (Or.inl ⟨by rfl, ?_⟩) (by assumption) ?_
                rotate_left
                · intro wq hSw
                  (try dsimp only at hSw)
                  go_simp
                  all_goals (with_reducible rfl)
                try simp only [Act.put, List.setIfInBounds_toArray, List.set_cons_zero, List.set_cons_succ]
                refine wpAnyH_take (i := 1) (v := ?_) (by simp only [List.getElem?_toArray, List.getElem?_cons_succ, List.getElem?_cons_zero]; rfl) (by kernel_rfl) (by kernel_rfl) (by kernel_rfl) (by exact fun _ _ _ h => h) (Or.inl ⟨by rfl, ?_⟩) (by assumption) ?_
                rotate_left
                · intro wq hSw
                  (try dsimp only at hSw)
                  go_simp
                  all_goals (with_reducible rfl)
                try simp only [Act.put, List.setIfInBounds_toArray, List.set_cons_zero, List.set_cons_succ]
                refine wpAnyH_take (i := 2) (v := ?_) (by simp only [List.getElem?_toArray, List.getElem?_cons_succ, List.getElem?_cons_zero]; rfl) (by kernel_rfl) (by kernel_rfl) (by kernel_rfl) (by exact fun _ _ _ h => h) (Or.inl ⟨by rfl, ?_⟩) (by assumption) ?_
                rotate_left
                · intro wq hSw
                  (try dsimp only at hSw)
                  go_simp
                  all_goals (with_reducible rfl)
                try simp only [Act.put, List.setIfInBounds_toArray, List.set_cons_zero, List.set_cons_succ]
                refine wpAnyH_take (i := 3) (v := ?_) (by simp only [List.getElem?_toArray, List.getElem?_cons_succ, List.getElem?_cons_zero]; rfl) (by kernel_rfl) (by kernel_rfl) (by kernel_rfl) (by exact fun _ _ _ h => h) (Or.inl ⟨by rfl, ?_⟩) (by assumption) ?_
                rotate_left
                · intro wq hSw
                  (try dsimp only at hSw)
                  go_simp
                  all_goals (with_reducible rfl)
                try simp only [Act.put, List.setIfInBounds_toArray, List.set_cons_zero, List.set_cons_succ]
                refine wpAnyH_take (i := 4) (v := ?_) (by simp only [List.getElem?_toArray, List.getElem?_cons_succ, List.getElem?_cons_zero]; rfl) (by kernel_rfl) (by kernel_rfl) (by kernel_rfl) (by exact fun _ _ _ h => h) (Or.inl ⟨by rfl, ?_⟩) (by assumption) ?_
                rotate_left
                · intro wq hSw
                  (try dsimp only at hSw)
                  go_simp
                  all_goals (with_reducible rfl)
                try simp only [Act.put, List.setIfInBounds_toArray, List.set_cons_zero, List.set_cons_succ]
                refine wpAnyH_take (i := 5) (by simp only [List.getElem?_toArray, List.getElem?_cons_succ, List.getElem?_cons_zero]; rfl) (by kernel_rfl) (by kernel_rfl) (by kernel_rfl) (by exact fun _ _ _ h => h) (yields_ld (ad := ⟨sb, so + i * 2 + 1, none⟩) (by rfl) _ rfl rfl (fun w' h => ld3 h)) (by assumption) ?_
                try simp only [Act.put, List.setIfInBounds_toArray, List.set_cons_zero, List.set_cons_succ]
                refine wpAnyH_take (i := 7) (v := ?_) (by simp only [List.getElem?_toArray, List.getElem?_cons_succ, List.getElem?_cons_zero]; rfl) (by kernel_rfl) (by kernel_rfl) (by kernel_rfl) (by exact fun _ _ _ h => h) (Or.inl ⟨by rfl, ?_⟩) (by assumption) ?_
                rotate_left
                · intro wq hSw
                  (try dsimp only at hSw)
                  go_simp
                  all_goals (with_reducible rfl)
                try simp only [Act.put, List.setIfInBounds_toArray, List.set_cons_zero, List.set_cons_succ]
                refine wpAnyH_take (i := 8) (v := ?_) (by simp only [List.getElem?_toArray, List.getElem?_cons_succ, List.getElem?_cons_zero]; rfl) (by kernel_rfl) (by kernel_rfl) (by kernel_rfl) (by exact fun _ _ _ h => h) (Or.inl ⟨by rfl, ?_⟩) (by assumption) ?_
                rotate_left
                · intro wq hSw
                  (try dsimp only at hSw)
                  go_simp
                  all_goals (with_reducible rfl)
                try simp only [Act.put, List.setIfInBounds_toArray, List.set_cons_zero, List.set_cons_succ]
                refine wpAnyH_take (i := 9) (v := ?_) (by simp only [List.getElem?_toArray, List.getElem?_cons_succ, List.getElem?_cons_zero]; rfl) (by kernel_rfl) (by kernel_rfl) (by kernel_rfl) (by exact fun _ _ _ h => h) (Or.inl ⟨by rfl, ?_⟩) (by assumption) ?_
                rotate_left
                · intro wq hSw
                  (try dsimp only at hSw)
                  go_simp
                  all_goals (with_reducible rfl)
                try simp only [Act.put, List.setIfInBounds_toArray, List.set_cons_zero, List.set_cons_succ]
                refine wpAnyH_take (i := 10) (v := ?_) (by simp only [List.getElem?_toArray, List.getElem?_cons_succ, List.getElem?_cons_zero]; rfl) (by kernel_rfl) (by kernel_rfl) (by kernel_rfl) (by exact fun _ _ _ h => h) (Or.inl ⟨by rfl, ?_⟩) (by assumption) ?_
                rotate_left
                · intro wq hSw
                  (try dsimp only at hSw)
                  go_simp
                  all_goals (with_reducible rfl)
                try simp only [Act.put, List.setIfInBounds_toArray, List.set_cons_zero, List.set_cons_succ]
                refine wpAnyH_take (i := 11) (v := ?_) (by simp only [List.getElem?_toArray, List.getElem?_cons_succ, List.getElem?_cons_zero]; rfl) (by kernel_rfl) (by kernel_rfl) (by kernel_rfl) (by exact fun _ _ _ h => h) (Or.inl ⟨by rfl, ?_⟩) (by assumption) ?_
                rotate_left
                · intro wq hSw
                  (try dsimp only at hSw)
                  go_simp
                  all_goals (with_reducible rfl)
                try simp only [Act.put, List.setIfInBounds_toArray, List.set_cons_zero, List.set_cons_succ]
                refine wpAnyH_take (i := 12) (by simp only [List.getElem?_toArray, List.getElem?_cons_succ, List.getElem?_cons_zero]; rfl) (by kernel_rfl) (by kernel_rfl) (by kernel_rfl) (by exact fun _ _ _ h => h) (yields_ld (ad := ⟨sb, so + i * 2 + 1, none⟩) (by rfl) _ rfl rfl (fun w' h => ld3 h)) (by assumption) ?_
                try simp only [Act.put, List.setIfInBounds_toArray, List.set_cons_zero, List.set_cons_succ]
                refine wpAnyH_ready (rs := [6]) (by kernel_rfl) (by simp) ?_
                refine AllReadyH.cons (by simp only [List.getElem?_toArray, List.getElem?_cons_succ, List.getElem?_cons_zero]; rfl) (fun K hK => ?_) AllReadyH.nil
                go_simp
                refine (KI.push9_x yv (max yv 0) HA.out (by omega) rfl hroom).mono ?_
                rintro E w9 ⟨rfl, hq, hc⟩
                replace HO := Lib.hid (HO.out.keep hc (by decide))
                replace HR := Lib.hid (HR.out.keep hc (by decide))
                replace HZ := Lib.hid (HZ.out.keep hc (by decide))
                replace HB := Lib.hid (HB.out.keep hc (by decide))
                replace HC := Lib.hid (HC.out.keep hc (by decide))
                replace HD := Lib.hid (HD.out.keep hc (by decide))
                replace HA := Lib.hid hq
                clear hq hc
                generalize give o8 w8 1 = o9 at *
                have hS : w9.cell? ⟨sb, so + i * 2 + 1, none⟩ = some (.int .i64 yv) := (HR.out.at2 hy).2
                clear hHeld
                go_wp2_with fail
                refine hK.out _ _ hS (fun hHeld => ?_)
                clear hK K
                try simp only [Act.put, List.setIfInBounds_toArray, List.set_cons_zero, List.set_cons_succ]
                clear hS
                refine wpAnyH_ready (rs := [13]) (by kernel_rfl) (by simp) ?_
                refine AllReadyH.cons (by simp only [List.getElem?_toArray, List.getElem?_cons_succ, List.getElem?_cons_zero]; rfl) (fun K hK => ?_) AllReadyH.nil
                go_simp
                refine (KI.push9_x yv (max yv 0) HD.out (by omega) rfl hroom).mono ?_
                rintro E w10 ⟨rfl, hq, hc⟩
                replace HO := Lib.hid (HO.out.keep hc (by decide))
                replace HR := Lib.hid (HR.out.keep hc (by decide))
                replace HZ := Lib.hid (HZ.out.keep hc (by decide))
                replace HA := Lib.hid (HA.out.keep hc (by decide))
                replace HB := Lib.hid (HB.out.keep hc (by decide))
                replace HC := Lib.hid (HC.out.keep hc (by decide))
                replace HD := Lib.hid hq
                clear hq hc
                generalize give o9 w9 4 = o10 at *
                have hS : w10.cell? ⟨sb, so + i * 2 + 1, none⟩ = some (.int .i64 yv) := (HR.out.at2 hy).2
                clear hHeld
                go_wp2_with fail
                refine hK.out _ _ hS (fun hHeld => ?_)
                clear hK K
                try simp only [Act.put, List.setIfInBounds_toArray, List.set_cons_zero, List.set_cons_succ]
                clear hS
                refine wpAnyH_take (i := 14) (v := ?_) (by simp only [List.getElem?_toArray, List.getElem?_cons_succ, List.getElem?_cons_zero]; rfl) (by kernel_rfl) (by kernel_rfl) (by kernel_rfl) (by exact fun _ _ _ h => h) (Or.inl ⟨by rfl, ?_⟩) (by assumption) ?_
                rotate_left
                · intro wq hSw
                  (try dsimp only at hSw)
                  go_simp
                  all_goals (with_reducible rfl)
                try simp only [Act.put, List.setIfInBounds_toArray, List.set_cons_zero, List.set_cons_succ]
                clear hHeld
                refine wpAnyH_done (by kernel_rfl) ?_ _
                go_wp2_with fail
                refine (KI.len_o HA.out).mono ?_
                rintro E w99 ⟨rfl, h9⟩
                replace h9 := h9.symm
                subst h9
                go_wp2_with fail
                refine (KI.len_o HD.out).mono ?_
                rintro E w99 ⟨rfl, h9⟩
                replace h9 := h9.symm
                subst h9
                go_wp2_with fail
                refine (KI.bytes_o HA.out).mono ?_
                rintro E w99 ⟨rfl, h9⟩
                replace h9 := h9.symm
                subst h9
                go_wp2_with fail
                refine (KI.bytes_o HD.out).mono ?_
                rintro E w99 ⟨rfl, h9⟩
                replace h9 := h9.symm
                subst h9
                go_wp2_with fail
                go_roundw
                case rel => exact ⟨i + 1, _, _, _, _, by go_num, by omega, HO.out, HR.out, HZ.out, HA.out, HB.out, HC.out, HD.out⟩
                case measure => simp [intOf]; omega
          · have cx2 := (HZ.out.at2 hx).2
            simp only at cx2
            go_wp2_with fail
            refine (KI.push9_any xv HB.out (by omega)).mono ?_
            rintro E w6 ⟨r6, Lb2, rfl, hq, hc⟩
            replace HO := Lib.hid (HO.out.keep hc (by decide))
            replace HR := Lib.hid (HR.out.keep hc (by decide))
            replace HZ := Lib.hid (HZ.out.keep hc (by decide))
            replace HA := Lib.hid (HA.out.keep hc (by decide))
            replace HC := Lib.hid (HC.out.keep hc (by decide))
            replace HD := Lib.hid (HD.out.keep hc (by decide))
            replace HB := Lib.hid hq
            clear hq hc
            generalize give q0 wr 2 = o6 at *
            clear cx1 cx2
            have cx2 := (HZ.out.at2 hx).2
            simp only at cx2
            obtain ⟨n, hn, hn2⟩ := rem_c xv
            have mk := make_b n (max 0 xv % 100) hn (by omega)
            have HN := Lib.hid hn
            clear hn
            have hmx : 0 ≤ max 0 xv := by omega
            have hmx2 : (max 0 xv) ≤ 9223372036854775807 := by omega
            have hc := Chg.on (o := o6) 9 ((Away.refl [] w6).alloc (madeB n))
            have HOa := Lib.hid (HO.out.keep hc (by decide))
            have HRa := Lib.hid (HR.out.keep hc (by decide))
            have HZa := Lib.hid (HZ.out.keep hc (by decide))
            have HAa := Lib.hid (HA.out.keep hc (by decide))
            have HBa := Lib.hid (HB.out.keep hc (by decide))
            have HCa := Lib.hid (HC.out.keep hc (by decide))
            have HDa := Lib.hid (HD.out.keep hc (by decide))
            clear hc HO HR HZ HA HB HC HD
            have HO := HOa
            clear HOa
            have HR := HRa
            clear HRa
            have HZ := HZa
            clear HZa
            have HA := HAa
            clear HAa
            have HB := HBa
            clear HBa
            have HC := HCa
            clear HCa
            have HD := HDa
            clear HDa
            go_wp2_with fail
            clear cx2 mk
            generalize give o6 w6 9 = o7 at *
            generalize w6.heap.size = kb
            generalize w6.alloc (madeB n) = w7 at *
            refine (KB.push24_any (some ⟨kb, 0, none⟩) n n HC.out (by omega)).mono ?_
            rintro E w8 ⟨r8, Lc2, rfl, hq, hc⟩
            replace HO := Lib.hid (HO.out.keep hc (by decide))
            replace HR := Lib.hid (HR.out.keep hc (by decide))
            replace HZ := Lib.hid (HZ.out.keep hc (by decide))
            replace HA := Lib.hid (HA.out.keep hc (by decide))
            replace HB := Lib.hid (HB.out.keep hc (by decide))
            replace HD := Lib.hid (HD.out.keep hc (by decide))
            replace HC := Lib.hid hq
            clear hq hc
            generalize give o7 w7 3 = o8 at *
            clear hx HN hn2 hmx hmx2
            have s3 : decide ((S.length : Int) ≤ (i : Int)) = false := decide_eq_false (by omega)
            have s2 : (i : Int) < (S.length : Int) := by omega
            obtain ⟨y, hy⟩ := get_op hs
            obtain ⟨sb, so, hsa, cy1, cy2, hy64⟩ := HR.out.at hy
            subst hsa
            obtain ⟨yp, yv⟩ := y
            simp only at cy1 cy2 hy64
            unfold I64 at hy64
            cases yp
            · clear cy2
              rcases L with _ | ⟨z, Lr⟩
              · go_wp2_with fail
                refine (KI.pop_n (by exact HA.out)).mono ?_
                rintro E w9 ⟨rfl, hq, hc⟩
                replace HO := Lib.hid (HO.out.keep hc (by decide))
                replace HR := Lib.hid (HR.out.keep hc (by decide))
                replace HZ := Lib.hid (HZ.out.keep hc (by decide))
                replace HB := Lib.hid (HB.out.keep hc (by decide))
                replace HC := Lib.hid (HC.out.keep hc (by decide))
                replace HD := Lib.hid (HD.out.keep hc (by decide))
                replace HA := Lib.hid hq
                clear hq hc
                generalize give o8 w8 1 = o9 at *
                clear cy1
                go_wp2_with fail
                refine (KI.pop_n (by exact HD.out)).mono ?_
                rintro E w10 ⟨rfl, hq, hc⟩
                replace HO := Lib.hid (HO.out.keep hc (by decide))
                replace HR := Lib.hid (HR.out.keep hc (by decide))
                replace HZ := Lib.hid (HZ.out.keep hc (by decide))
                replace HA := Lib.hid (HA.out.keep hc (by decide))
                replace HB := Lib.hid (HB.out.keep hc (by decide))
                replace HC := Lib.hid (HC.out.keep hc (by decide))
                replace HD := Lib.hid hq
                clear hq hc
                generalize give o9 w9 4 = o10 at *
                go_wp2_with fail
                refine (KI.len_o HA.out).mono ?_
                rintro E w99 ⟨rfl, h9⟩
                replace h9 := h9.symm
                subst h9
                go_wp2_with fail
                refine (KI.len_o HD.out).mono ?_
                rintro E w99 ⟨rfl, h9⟩
                replace h9 := h9.symm
                subst h9
                go_wp2_with fail
                refine (KI.bytes_o HA.out).mono ?_
                rintro E w99 ⟨rfl, h9⟩
                replace h9 := h9.symm
                subst h9
                go_wp2_with fail
                refine (KI.bytes_o HD.out).mono ?_
                rintro E w99 ⟨rfl, h9⟩
                replace h9 := h9.symm
                subst h9
                go_wp2_with fail
                go_roundw
                case rel => exact ⟨i + 1, _, _, _, _, by go_num, by omega, HO.out, HR.out, HZ.out, HA.out, HB.out, HC.out, HD.out⟩
                case measure => simp [intOf]; omega
              · obtain ⟨a0, ha0⟩ := HA.out.shp z (by simp)
                obtain ⟨zx, zn⟩ := z
                simp only at ha0
                subst ha0
                go_wp2_with fail
                refine (KI.pop_s a0 zn (by exact HA.out)).mono ?_
                rintro E w9 ⟨rfl, hq, hc⟩
                replace HO := Lib.hid (HO.out.keep hc (by decide))
                replace HR := Lib.hid (HR.out.keep hc (by decide))
                replace HZ := Lib.hid (HZ.out.keep hc (by decide))
                replace HB := Lib.hid (HB.out.keep hc (by decide))
                replace HC := Lib.hid (HC.out.keep hc (by decide))
                replace HD := Lib.hid (HD.out.keep hc (by decide))
                replace HA := Lib.hid hq
                clear hq hc
                generalize give o8 w8 1 = o9 at *
                clear cy1
                go_wp2_with fail
                refine (KI.pop_s a0 zn (by exact HD.out)).mono ?_
                rintro E w10 ⟨rfl, hq, hc⟩
                replace HO := Lib.hid (HO.out.keep hc (by decide))
                replace HR := Lib.hid (HR.out.keep hc (by decide))
                replace HZ := Lib.hid (HZ.out.keep hc (by decide))
                replace HA := Lib.hid (HA.out.keep hc (by decide))
                replace HB := Lib.hid (HB.out.keep hc (by decide))
                replace HC := Lib.hid (HC.out.keep hc (by decide))
                replace HD := Lib.hid hq
                clear hq hc
                generalize give o9 w9 4 = o10 at *
                go_wp2_with fail
                refine (KI.len_o HA.out).mono ?_
                rintro E w99 ⟨rfl, h9⟩
                replace h9 := h9.symm
                subst h9
                go_wp2_with fail
                refine (KI.len_o HD.out).mono ?_
                rintro E w99 ⟨rfl, h9⟩
                replace h9 := h9.symm
                subst h9
                go_wp2_with fail
                refine (KI.bytes_o HA.out).mono ?_
                rintro E w99 ⟨rfl, h9⟩
                replace h9 := h9.symm
                subst h9
                go_wp2_with fail
                refine (KI.bytes_o HD.out).mono ?_
                rintro E w99 ⟨rfl, h9⟩
                replace h9 := h9.symm
                subst h9
                go_wp2_with fail
                go_roundw
                case rel => exact ⟨i + 1, _, _, _, _, by go_num, by omega, HO.out, HR.out, HZ.out, HA.out, HB.out, HC.out, HD.out⟩
                case measure => simp [intOf]; omega
            · by_cases hroom : roomP c b L (max yv 0) = true
              · have HRM := Lib.hid hroom
                go_upto_region 20 with fail
                clear cy1
                refine wp_region_held_drew (S := (fun w' => w'.cell? ⟨sb, so + i * 2 + 1, none⟩ = some (.int .i64 yv))) (by kernel_rfl) (by exact cy2) (fun hHeld => ?_)
                clear hHeld cy2
                have hc := Chg.on (o := o8) 9 ((Away.refl [] w8).drew)
                replace HO := Lib.hid (HO.out.keep hc (by decide))
                replace HR := Lib.hid (HR.out.keep hc (by decide))
                replace HZ := Lib.hid (HZ.out.keep hc (by decide))
                replace HA := Lib.hid (HA.out.keep hc (by decide))
                replace HB := Lib.hid (HB.out.keep hc (by decide))
                replace HC := Lib.hid (HC.out.keep hc (by decide))
                replace HD := Lib.hid (HD.out.keep hc (by decide))
                clear hc
                generalize give o8 w8 9 = o9 at *
                generalize w8.drew = w9 at *
                have hHeld : w9.cell? ⟨sb, so + i * 2 + 1, none⟩ = some (.int .i64 yv) := (HR.out.at2 hy).2
                refine wpAnyH_take (i := 0) (v := ?_) (by simp only [List.getElem?_toArray, List.getElem?_cons_zero]; rfl) (by kernel_rfl) (by kernel_rfl) (by kernel_rfl) (by exact fun _ _ _ h => h) (Or.inl ⟨by rfl, ?_⟩) (by assumption) ?_
                rotate_left
                · intro wq hSw
                  (try dsimp only at hSw)
                  go_simp
                  all_goals (with_reducible rfl)
                try simp only [Act.put, List.setIfInBounds_toArray, List.set_cons_zero, List.set_cons_succ]
                refine wpAnyH_take (i := 1) (v := ?_) (by simp only [List.getElem?_toArray, List.getElem?_cons_succ, List.getElem?_cons_zero]; rfl) (by kernel_rfl) (by kernel_rfl) (by kernel_rfl) (by exact fun _ _ _ h => h) (Or.inl ⟨by rfl, ?_⟩) (by assumption) ?_
                rotate_left
                · intro wq hSw
                  (try dsimp only at hSw)
                  go_simp
                  all_goals (with_reducible rfl)
                try simp only [Act.put, List.setIfInBounds_toArray, List.set_cons_zero, List.set_cons_succ]
                refine wpAnyH_take (i := 2) (v := ?_) (by simp only [List.getElem?_toArray, List.getElem?_cons_succ, List.getElem?_cons_zero]; rfl) (by kernel_rfl) (by kernel_rfl) (by kernel_rfl) (by exact fun _ _ _ h => h) (Or.inl ⟨by rfl, ?_⟩) (by assumption) ?_
                rotate_left
                · intro wq hSw
                  (try dsimp only at hSw)
                  go_simp
                  all_goals (with_reducible rfl)
                try simp only [Act.put, List.setIfInBounds_toArray, List.set_cons_zero, List.set_cons_succ]
                refine wpAnyH_take (i := 3) (v := ?_) (by simp only [List.getElem?_toArray, List.getElem?_cons_succ, List.getElem?_cons_zero]; rfl) (by kernel_rfl) (by kernel_rfl) (by kernel_rfl) (by exact fun _ _ _ h => h) (Or.inl ⟨by rfl, ?_⟩) (by assumption) ?_
                rotate_left
                · intro wq hSw
                  (try dsimp only at hSw)
                  go_simp
                  all_goals (with_reducible rfl)
                try simp only [Act.put, List.setIfInBounds_toArray, List.set_cons_zero, List.set_cons_succ]
                refine wpAnyH_take (i := 4) (v := ?_) (by simp only [List.getElem?_toArray, List.getElem?_cons_succ, List.getElem?_cons_zero]; rfl) (by kernel_rfl) (by kernel_rfl) (by kernel_rfl) (by exact fun _ _ _ h => h) (Or.inl ⟨by rfl, ?_⟩) (by assumption) ?_
                rotate_left
                · intro wq hSw
                  (try dsimp only at hSw)
                  go_simp
                  all_goals (with_reducible rfl)
                try simp only [Act.put, List.setIfInBounds_toArray, List.set_cons_zero, List.set_cons_succ]
                refine wpAnyH_take (i := 5) (by simp only [List.getElem?_toArray, List.getElem?_cons_succ, List.getElem?_cons_zero]; rfl) (by kernel_rfl) (by kernel_rfl) (by kernel_rfl) (by exact fun _ _ _ h => h) (yields_ld (ad := ⟨sb, so + i * 2 + 1, none⟩) (by rfl) _ rfl rfl (fun w' h => ld3 h)) (by assumption) ?_
                try simp only [Act.put, List.setIfInBounds_toArray, List.set_cons_zero, List.set_cons_succ]
                refine wpAnyH_take (i := 7) (v := ?_) (by simp only [List.getElem?_toArray, List.getElem?_cons_succ, List.getElem?_cons_zero]; rfl) (by kernel_rfl) (by kernel_rfl) (by kernel_rfl) (by exact fun _ _ _ h => h) (Or.inl ⟨by rfl, ?_⟩) (by assumption) ?_
                rotate_left
                · intro wq hSw
                  (try dsimp only at hSw)
                  go_simp
                  all_goals (with_reducible rfl)
                try simp only [Act.put, List.setIfInBounds_toArray, List.set_cons_zero, List.set_cons_succ]
                refine wpAnyH_take (i := 8) (v := ?_) (by simp only [List.getElem?_toArray, List.getElem?_cons_succ, List.getElem?_cons_zero]; rfl) (by kernel_rfl) (by kernel_rfl) (by kernel_rfl) (by exact fun _ _ _ h => h) (Or.inl ⟨by rfl, ?_⟩) (by assumption) ?_
                rotate_left
                · intro wq hSw
                  (try dsimp only at hSw)
                  go_simp
                  all_goals (with_reducible rfl)
                try simp only [Act.put, List.setIfInBounds_toArray, List.set_cons_zero, List.set_cons_succ]
                refine wpAnyH_take (i := 9) (v := ?_) (by simp only [List.getElem?_toArray, List.getElem?_cons_succ, List.getElem?_cons_zero]; rfl) (by kernel_rfl) (by kernel_rfl) (by kernel_rfl) (by exact fun _ _ _ h => h) (Or.inl ⟨by rfl, ?_⟩) (by assumption) ?_
                rotate_left
                · intro wq hSw
                  (try dsimp only at hSw)
                  go_simp
                  all_goals (with_reducible rfl)
                try simp only [Act.put, List.setIfInBounds_toArray, List.set_cons_zero, List.set_cons_succ]
                refine wpAnyH_take (i := 10) (v := ?_) (by simp only [List.getElem?_toArray, List.getElem?_cons_succ, List.getElem?_cons_zero]; rfl) (by kernel_rfl) (by kernel_rfl) (by kernel_rfl) (by exact fun _ _ _ h => h) (Or.inl ⟨by rfl, ?_⟩) (by assumption) ?_
                rotate_left
                · intro wq hSw
                  (try dsimp only at hSw)
                  go_simp
                  all_goals (with_reducible rfl)
                try simp only [Act.put, List.setIfInBounds_toArray, List.set_cons_zero, List.set_cons_succ]
                refine wpAnyH_take (i := 11) (v := ?_) (by simp only [List.getElem?_toArray, List.getElem?_cons_succ, List.getElem?_cons_zero]; rfl) (by kernel_rfl) (by kernel_rfl) (by kernel_rfl) (by exact fun _ _ _ h => h) (Or.inl ⟨by rfl, ?_⟩) (by assumption) ?_
                rotate_left
                · intro wq hSw
                  (try dsimp only at hSw)
                  go_simp
                  all_goals (with_reducible rfl)
                try simp only [Act.put, List.setIfInBounds_toArray, List.set_cons_zero, List.set_cons_succ]
                refine wpAnyH_take (i := 12) (by simp only [List.getElem?_toArray, List.getElem?_cons_succ, List.getElem?_cons_zero]; rfl) (by kernel_rfl) (by kernel_rfl) (by kernel_rfl) (by exact fun _ _ _ h => h) (yields_ld (ad := ⟨sb, so + i * 2 + 1, none⟩) (by rfl) _ rfl rfl (fun w' h => ld3 h)) (by assumption) ?_
                try simp only [Act.put, List.setIfInBounds_toArray, List.set_cons_zero, List.set_cons_succ]
                refine wpAnyH_ready (rs := [6]) (by kernel_rfl) (by simp) ?_
                refine AllReadyH.cons (by simp only [List.getElem?_toArray, List.getElem?_cons_succ, List.getElem?_cons_zero]; rfl) (fun K hK => ?_) AllReadyH.nil
                go_simp
                refine (KI.push9_y yv (max yv 0) HA.out (by omega) rfl hroom).mono ?_
                rintro E w10 ⟨rfl, hq, hc⟩
                replace HO := Lib.hid (HO.out.keep hc (by decide))
                replace HR := Lib.hid (HR.out.keep hc (by decide))
                replace HZ := Lib.hid (HZ.out.keep hc (by decide))
                replace HB := Lib.hid (HB.out.keep hc (by decide))
                replace HC := Lib.hid (HC.out.keep hc (by decide))
                replace HD := Lib.hid (HD.out.keep hc (by decide))
                replace HA := Lib.hid hq
                clear hq hc
                generalize give o9 w9 1 = o10 at *
                have hS : w10.cell? ⟨sb, so + i * 2 + 1, none⟩ = some (.int .i64 yv) := (HR.out.at2 hy).2
                clear hHeld
                go_wp2_with fail
                refine hK.out _ _ hS (fun hHeld => ?_)
                clear hK K
                try simp only [Act.put, List.setIfInBounds_toArray, List.set_cons_zero, List.set_cons_succ]
                clear hS
                refine wpAnyH_ready (rs := [13]) (by kernel_rfl) (by simp) ?_
                refine AllReadyH.cons (by simp only [List.getElem?_toArray, List.getElem?_cons_succ, List.getElem?_cons_zero]; rfl) (fun K hK => ?_) AllReadyH.nil
                go_simp
                refine (KI.push9_y yv (max yv 0) HD.out (by omega) rfl hroom).mono ?_
                rintro E w11 ⟨rfl, hq, hc⟩
                replace HO := Lib.hid (HO.out.keep hc (by decide))
                replace HR := Lib.hid (HR.out.keep hc (by decide))
                replace HZ := Lib.hid (HZ.out.keep hc (by decide))
                replace HA := Lib.hid (HA.out.keep hc (by decide))
                replace HB := Lib.hid (HB.out.keep hc (by decide))
                replace HC := Lib.hid (HC.out.keep hc (by decide))
                replace HD := Lib.hid hq
                clear hq hc
                generalize give o10 w10 4 = o11 at *
                have hS : w11.cell? ⟨sb, so + i * 2 + 1, none⟩ = some (.int .i64 yv) := (HR.out.at2 hy).2
                clear hHeld
                go_wp2_with fail
                refine hK.out _ _ hS (fun hHeld => ?_)
                clear hK K
                try simp only [Act.put, List.setIfInBounds_toArray, List.set_cons_zero, List.set_cons_succ]
                clear hS
                refine wpAnyH_take (i := 14) (v := ?_) (by simp only [List.getElem?_toArray, List.getElem?_cons_succ, List.getElem?_cons_zero]; rfl) (by kernel_rfl) (by kernel_rfl) (by kernel_rfl) (by exact fun _ _ _ h => h) (Or.inl ⟨by rfl, ?_⟩) (by assumption) ?_
                rotate_left
                · intro wq hSw
                  (try dsimp only at hSw)
                  go_simp
                  all_goals (with_reducible rfl)
                try simp only [Act.put, List.setIfInBounds_toArray, List.set_cons_zero, List.set_cons_succ]
                clear hHeld
                refine wpAnyH_done (by kernel_rfl) ?_ _
                go_wp2_with fail
                refine (KI.len_o HA.out).mono ?_
                rintro E w99 ⟨rfl, h9⟩
                replace h9 := h9.symm
                subst h9
                go_wp2_with fail
                refine (KI.len_o HD.out).mono ?_
                rintro E w99 ⟨rfl, h9⟩
                replace h9 := h9.symm
                subst h9
                go_wp2_with fail
                refine (KI.bytes_o HA.out).mono ?_
                rintro E w99 ⟨rfl, h9⟩
                replace h9 := h9.symm
                subst h9
                go_wp2_with fail
                refine (KI.bytes_o HD.out).mono ?_
                rintro E w99 ⟨rfl, h9⟩
                replace h9 := h9.symm
                subst h9
                go_wp2_with fail
                go_roundw
                case rel => exact ⟨i + 1, _, _, _, _, by go_num, by omega, HO.out, HR.out, HZ.out, HA.out, HB.out, HC.out, HD.out⟩
                case measure => simp [intOf]; omega
              · simp only [Bool.not_eq_true] at hroom
                go_upto_region 20 with fail
                clear cy1
                refine wp_region_held_drew (S := (fun w' => w'.cell? ⟨sb, so + i * 2 + 1, none⟩ = some (.int .i64 yv))) (by kernel_rfl) (by exact cy2) (fun hHeld => ?_)
                clear hHeld cy2
                have hc := Chg.on (o := o8) 9 ((Away.refl [] w8).drew)
                replace HO := Lib.hid (HO.out.keep hc (by decide))
                replace HR := Lib.hid (HR.out.keep hc (by decide))
                replace HZ := Lib.hid (HZ.out.keep hc (by decide))
                replace HA := Lib.hid (HA.out.keep hc (by decide))
                replace HB := Lib.hid (HB.out.keep hc (by decide))
                replace HC := Lib.hid (HC.out.keep hc (by decide))
                replace HD := Lib.hid (HD.out.keep hc (by decide))
                clear hc
                generalize give o8 w8 9 = o9 at *
                generalize w8.drew = w9 at *
                have hHeld : w9.cell? ⟨sb, so + i * 2 + 1, none⟩ = some (.int .i64 yv) := (HR.out.at2 hy).2
                refine wpAnyH_take (i := 0) (v := ?_) (by simp only [List.getElem?_toArray, List.getElem?_cons_zero]; rfl) (by kernel_rfl) (by kernel_rfl) (by kernel_rfl) (by exact fun _ _ _ h => h) (Or.inl ⟨by rfl, ?_⟩) (by assumption) ?_
                rotate_left
                · intro wq hSw
                  (try dsimp only at hSw)
                  go_simp
                  all_goals (with_reducible rfl)
                try simp only [Act.put, List.setIfInBounds_toArray, List.set_cons_zero, List.set_cons_succ]
                refine wpAnyH_take (i := 1) (v := ?_) (by simp only [List.getElem?_toArray, List.getElem?_cons_succ, List.getElem?_cons_zero]; rfl) (by kernel_rfl) (by kernel_rfl) (by kernel_rfl) (by exact fun _ _ _ h => h) (Or.inl ⟨by rfl, ?_⟩) (by assumption) ?_
                rotate_left
                · intro wq hSw
                  (try dsimp only at hSw)
                  go_simp
                  all_goals (with_reducible rfl)
                try simp only [Act.put, List.setIfInBounds_toArray, List.set_cons_zero, List.set_cons_succ]
                refine wpAnyH_take (i := 2) (v := ?_) (by simp only [List.getElem?_toArray, List.getElem?_cons_succ, List.getElem?_cons_zero]; rfl) (by kernel_rfl) (by kernel_rfl) (by kernel_rfl) (by exact fun _ _ _ h => h) (Or.inl ⟨by rfl, ?_⟩) (by assumption) ?_
                rotate_left
                · intro wq hSw
                  (try dsimp only at hSw)
                  go_simp
                  all_goals (with_reducible rfl)
                try simp only [Act.put, List.setIfInBounds_toArray, List.set_cons_zero, List.set_cons_succ]
                refine wpAnyH_take (i := 3) (v := ?_) (by simp only [List.getElem?_toArray, List.getElem?_cons_succ, List.getElem?_cons_zero]; rfl) (by kernel_rfl) (by kernel_rfl) (by kernel_rfl) (by exact fun _ _ _ h => h) (Or.inl ⟨by rfl, ?_⟩) (by assumption) ?_
                rotate_left
                · intro wq hSw
                  (try dsimp only at hSw)
                  go_simp
                  all_goals (with_reducible rfl)
                try simp only [Act.put, List.setIfInBounds_toArray, List.set_cons_zero, List.set_cons_succ]
                refine wpAnyH_take (i := 4) (v := ?_) (by simp only [List.getElem?_toArray, List.getElem?_cons_succ, List.getElem?_cons_zero]; rfl) (by kernel_rfl) (by kernel_rfl) (by kernel_rfl) (by exact fun _ _ _ h => h) (Or.inl ⟨by rfl, ?_⟩) (by assumption) ?_
                rotate_left
                · intro wq hSw
                  (try dsimp only at hSw)
                  go_simp
                  all_goals (with_reducible rfl)
                try simp only [Act.put, List.setIfInBounds_toArray, List.set_cons_zero, List.set_cons_succ]
                refine wpAnyH_take (i := 5) (by simp only [List.getElem?_toArray, List.getElem?_cons_succ, List.getElem?_cons_zero]; rfl) (by kernel_rfl) (by kernel_rfl) (by kernel_rfl) (by exact fun _ _ _ h => h) (yields_ld (ad := ⟨sb, so + i * 2 + 1, none⟩) (by rfl) _ rfl rfl (fun w' h => ld3 h)) (by assumption) ?_
                try simp only [Act.put, List.setIfInBounds_toArray, List.set_cons_zero, List.set_cons_succ]
                refine wpAnyH_take (i := 7) (v := ?_) (by simp only [List.getElem?_toArray, List.getElem?_cons_succ, List.getElem?_cons_zero]; rfl) (by kernel_rfl) (by kernel_rfl) (by kernel_rfl) (by exact fun _ _ _ h => h) (Or.inl ⟨by rfl, ?_⟩) (by assumption) ?_
                rotate_left
                · intro wq hSw
                  (try dsimp only at hSw)
                  go_simp
                  all_goals (with_reducible rfl)
                try simp only [Act.put, List.setIfInBounds_toArray, List.set_cons_zero, List.set_cons_succ]
                refine wpAnyH_take (i := 8) (v := ?_) (by simp only [List.getElem?_toArray, List.getElem?_cons_succ, List.getElem?_cons_zero]; rfl) (by kernel_rfl) (by kernel_rfl) (by kernel_rfl) (by exact fun _ _ _ h => h) (Or.inl ⟨by rfl, ?_⟩) (by assumption) ?_
                rotate_left
                · intro wq hSw
                  (try dsimp only at hSw)
                  go_simp
                  all_goals (with_reducible rfl)
                try simp only [Act.put, List.setIfInBounds_toArray, List.set_cons_zero, List.set_cons_succ]
                refine wpAnyH_take (i := 9) (v := ?_) (by simp only [List.getElem?_toArray, List.getElem?_cons_succ, List.getElem?_cons_zero]; rfl) (by kernel_rfl) (by kernel_rfl) (by kernel_rfl) (by exact fun _ _ _ h => h) (Or.inl ⟨by rfl, ?_⟩) (by assumption) ?_
                rotate_left
                · intro wq hSw
                  (try dsimp only at hSw)
                  go_simp
                  all_goals (with_reducible rfl)
                try simp only [Act.put, List.setIfInBounds_toArray, List.set_cons_zero, List.set_cons_succ]
                refine wpAnyH_take (i := 10) (v := ?_) (by simp only [List.getElem?_toArray, List.getElem?_cons_succ, List.getElem?_cons_zero]; rfl) (by kernel_rfl) (by kernel_rfl) (by kernel_rfl) (by exact fun _ _ _ h => h) (Or.inl ⟨by rfl, ?_⟩) (by assumption) ?_
                rotate_left
                · intro wq hSw
                  (try dsimp only at hSw)
                  go_simp
                  all_goals (with_reducible rfl)
                try simp only [Act.put, List.setIfInBounds_toArray, List.set_cons_zero, List.set_cons_succ]
                refine wpAnyH_take (i := 11) (v := ?_) (by simp only [List.getElem?_toArray, List.getElem?_cons_succ, List.getElem?_cons_zero]; rfl) (by kernel_rfl) (by kernel_rfl) (by kernel_rfl) (by exact fun _ _ _ h => h) (Or.inl ⟨by rfl, ?_⟩) (by assumption) ?_
                rotate_left
                · intro wq hSw
                  (try dsimp only at hSw)
                  go_simp
                  all_goals (with_reducible rfl)
                try simp only [Act.put, List.setIfInBounds_toArray, List.set_cons_zero, List.set_cons_succ]
                refine wpAnyH_take (i := 12) (by simp only [List.getElem?_toArray, List.getElem?_cons_succ, List.getElem?_cons_zero]; rfl) (by kernel_rfl) (by kernel_rfl) (by kernel_rfl) (by exact fun _ _ _ h => h) (yields_ld (ad := ⟨sb, so + i * 2 + 1, none⟩) (by rfl) _ rfl rfl (fun w' h => ld3 h)) (by assumption) ?_
                try simp only [Act.put, List.setIfInBounds_toArray, List.set_cons_zero, List.set_cons_succ]
                refine wpAnyH_ready (rs := [6]) (by kernel_rfl) (by simp) ?_
                refine AllReadyH.cons (by simp only [List.getElem?_toArray, List.getElem?_cons_succ, List.getElem?_cons_zero]; rfl) (fun K hK => ?_) AllReadyH.nil
                go_simp
                refine (KI.push9_x yv (max yv 0) HA.out (by omega) rfl hroom).mono ?_
                rintro E w10 ⟨rfl, hq, hc⟩
                replace HO := Lib.hid (HO.out.keep hc (by decide))
                replace HR := Lib.hid (HR.out.keep hc (by decide))
                replace HZ := Lib.hid (HZ.out.keep hc (by decide))
                replace HB := Lib.hid (HB.out.keep hc (by decide))
                replace HC := Lib.hid (HC.out.keep hc (by decide))
                replace HD := Lib.hid (HD.out.keep hc (by decide))
                replace HA := Lib.hid hq
                clear hq hc
                generalize give o9 w9 1 = o10 at *
                have hS : w10.cell? ⟨sb, so + i * 2 + 1, none⟩ = some (.int .i64 yv) := (HR.out.at2 hy).2
                clear hHeld
                go_wp2_with fail
                refine hK.out _ _ hS (fun hHeld => ?_)
                clear hK K
                try simp only [Act.put, List.setIfInBounds_toArray, List.set_cons_zero, List.set_cons_succ]
                clear hS
                refine wpAnyH_ready (rs := [13]) (by kernel_rfl) (by simp) ?_
                refine AllReadyH.cons (by simp only [List.getElem?_toArray, List.getElem?_cons_succ, List.getElem?_cons_zero]; rfl) (fun K hK => ?_) AllReadyH.nil
                go_simp
                refine (KI.push9_x yv (max yv 0) HD.out (by omega) rfl hroom).mono ?_
                rintro E w11 ⟨rfl, hq, hc⟩
                replace HO := Lib.hid (HO.out.keep hc (by decide))
                replace HR := Lib.hid (HR.out.keep hc (by decide))
                replace HZ := Lib.hid (HZ.out.keep hc (by decide))
                replace HA := Lib.hid (HA.out.keep hc (by decide))
                replace HB := Lib.hid (HB.out.keep hc (by decide))
                replace HC := Lib.hid (HC.out.keep hc (by decide))
                replace HD := Lib.hid hq
                clear hq hc
                generalize give o10 w10 4 = o11 at *
                have hS : w11.cell? ⟨sb, so + i * 2 + 1, none⟩ = some (.int .i64 yv) := (HR.out.at2 hy).2
                clear hHeld
                go_wp2_with fail
                refine hK.out _ _ hS (fun hHeld => ?_)
                clear hK K
                try simp only [Act.put, List.setIfInBounds_toArray, List.set_cons_zero, List.set_cons_succ]
                clear hS
                refine wpAnyH_take (i := 14) (v := ?_) (by simp only [List.getElem?_toArray, List.getElem?_cons_succ, List.getElem?_cons_zero]; rfl) (by kernel_rfl) (by kernel_rfl) (by kernel_rfl) (by exact fun _ _ _ h => h) (Or.inl ⟨by rfl, ?_⟩) (by assumption) ?_
                rotate_left
                · intro wq hSw
                  (try dsimp only at hSw)
                  go_simp
                  all_goals (with_reducible rfl)
                try simp only [Act.put, List.setIfInBounds_toArray, List.set_cons_zero, List.set_cons_succ]
                clear hHeld
                refine wpAnyH_done (by kernel_rfl) ?_ _
                go_wp2_with fail
                refine (KI.len_o HA.out).mono ?_
                rintro E w99 ⟨rfl, h9⟩
                replace h9 := h9.symm
                subst h9
                go_wp2_with fail
                refine (KI.len_o HD.out).mono ?_
                rintro E w99 ⟨rfl, h9⟩
                replace h9 := h9.symm
                subst h9
                go_wp2_with fail
                refine (KI.bytes_o HA.out).mono ?_
                rintro E w99 ⟨rfl, h9⟩
                replace h9 := h9.symm
                subst h9
                go_wp2_with fail
                refine (KI.bytes_o HD.out).mono ?_
                rintro E w99 ⟨rfl, h9⟩
                replace h9 := h9.symm
                subst h9
                go_wp2_with fail
                go_roundw
                case rel => exact ⟨i + 1, _, _, _, _, by go_num, by omega, HO.out, HR.out, HZ.out, HA.out, HB.out, HC.out, HD.out⟩
                case measure => simp [intOf]; omega
        · have t1 : decide ((i : Int) < (T.length : Int)) = false := decide_eq_false (by omega)
          have s3 : decide ((S.length : Int) ≤ (i : Int)) = false := decide_eq_false (by omega)
          have s2 : (i : Int) < (S.length : Int) := by omega
          obtain ⟨y, hy⟩ := get_op hs
          obtain ⟨sb, so, hsa, cy1, cy2, hy64⟩ := HR.out.at hy
          subst hsa
          obtain ⟨yp, yv⟩ := y
          simp only at cy1 cy2 hy64
          unfold I64 at hy64
          cases yp
          · clear cy2
            rcases L with _ | ⟨z, Lr⟩
            · go_wp2_with fail
              refine (KI.pop_n (by exact HA.out)).mono ?_
              rintro E w6 ⟨rfl, hq, hc⟩
              replace HO := Lib.hid (HO.out.keep hc (by decide))
              replace HR := Lib.hid (HR.out.keep hc (by decide))
              replace HZ := Lib.hid (HZ.out.keep hc (by decide))
              replace HB := Lib.hid (HB.out.keep hc (by decide))
              replace HC := Lib.hid (HC.out.keep hc (by decide))
              replace HD := Lib.hid (HD.out.keep hc (by decide))
              replace HA := Lib.hid hq
              clear hq hc
              generalize give q0 wr 1 = o6 at *
              clear cy1
              go_wp2_with fail
              refine (KI.pop_n (by exact HD.out)).mono ?_
              rintro E w7 ⟨rfl, hq, hc⟩
              replace HO := Lib.hid (HO.out.keep hc (by decide))
              replace HR := Lib.hid (HR.out.keep hc (by decide))
              replace HZ := Lib.hid (HZ.out.keep hc (by decide))
              replace HA := Lib.hid (HA.out.keep hc (by decide))
              replace HB := Lib.hid (HB.out.keep hc (by decide))
              replace HC := Lib.hid (HC.out.keep hc (by decide))
              replace HD := Lib.hid hq
              clear hq hc
              generalize give o6 w6 4 = o7 at *
              go_wp2_with fail
              refine (KI.len_o HA.out).mono ?_
              rintro E w99 ⟨rfl, h9⟩
              replace h9 := h9.symm
              subst h9
              go_wp2_with fail
              refine (KI.len_o HD.out).mono ?_
              rintro E w99 ⟨rfl, h9⟩
              replace h9 := h9.symm
              subst h9
              go_wp2_with fail
              refine (KI.bytes_o HA.out).mono ?_
              rintro E w99 ⟨rfl, h9⟩
              replace h9 := h9.symm
              subst h9
              go_wp2_with fail
              refine (KI.bytes_o HD.out).mono ?_
              rintro E w99 ⟨rfl, h9⟩
              replace h9 := h9.symm
              subst h9
              go_wp2_with fail
              go_roundw
              case rel => exact ⟨i + 1, _, _, _, _, by go_num, by omega, HO.out, HR.out, HZ.out, HA.out, HB.out, HC.out, HD.out⟩
              case measure => simp [intOf]; omega
            · obtain ⟨a0, ha0⟩ := HA.out.shp z (by simp)
              obtain ⟨zx, zn⟩ := z
              simp only at ha0
              subst ha0
              go_wp2_with fail
              refine (KI.pop_s a0 zn (by exact HA.out)).mono ?_
              rintro E w6 ⟨rfl, hq, hc⟩
              replace HO := Lib.hid (HO.out.keep hc (by decide))
              replace HR := Lib.hid (HR.out.keep hc (by decide))
              replace HZ := Lib.hid (HZ.out.keep hc (by decide))
              replace HB := Lib.hid (HB.out.keep hc (by decide))
              replace HC := Lib.hid (HC.out.keep hc (by decide))
              replace HD := Lib.hid (HD.out.keep hc (by decide))
              replace HA := Lib.hid hq
              clear hq hc
              generalize give q0 wr 1 = o6 at *
              clear cy1
              go_wp2_with fail
              refine (KI.pop_s a0 zn (by exact HD.out)).mono ?_
              rintro E w7 ⟨rfl, hq, hc⟩
              replace HO := Lib.hid (HO.out.keep hc (by decide))
              replace HR := Lib.hid (HR.out.keep hc (by decide))
              replace HZ := Lib.hid (HZ.out.keep hc (by decide))
              replace HA := Lib.hid (HA.out.keep hc (by decide))
              replace HB := Lib.hid (HB.out.keep hc (by decide))
              replace HC := Lib.hid (HC.out.keep hc (by decide))
              replace HD := Lib.hid hq
              clear hq hc
              generalize give o6 w6 4 = o7 at *
              go_wp2_with fail
              refine (KI.len_o HA.out).mono ?_
              rintro E w99 ⟨rfl, h9⟩
              replace h9 := h9.symm
              subst h9
              go_wp2_with fail
              refine (KI.len_o HD.out).mono ?_
              rintro E w99 ⟨rfl, h9⟩
              replace h9 := h9.symm
              subst h9
              go_wp2_with fail
              refine (KI.bytes_o HA.out).mono ?_
              rintro E w99 ⟨rfl, h9⟩
              replace h9 := h9.symm
              subst h9
              go_wp2_with fail
              refine (KI.bytes_o HD.out).mono ?_
              rintro E w99 ⟨rfl, h9⟩
              replace h9 := h9.symm
              subst h9
              go_wp2_with fail
              go_roundw
              case rel => exact ⟨i + 1, _, _, _, _, by go_num, by omega, HO.out, HR.out, HZ.out, HA.out, HB.out, HC.out, HD.out⟩
              case measure => simp [intOf]; omega
          · by_cases hroom : roomP c b L (max yv 0) = true
            · have HRM := Lib.hid hroom
              go_upto_region 20 with fail
              clear cy1
              refine wp_region_held_drew (S := (fun w' => w'.cell? ⟨sb, so + i * 2 + 1, none⟩ = some (.int .i64 yv))) (by kernel_rfl) (by exact cy2) (fun hHeld => ?_)
              clear hHeld cy2
              have hc := Chg.on (o := q0) 9 ((Away.refl [] wr).drew)
              replace HO := Lib.hid (HO.out.keep hc (by decide))
              replace HR := Lib.hid (HR.out.keep hc (by decide))
              replace HZ := Lib.hid (HZ.out.keep hc (by decide))
              replace HA := Lib.hid (HA.out.keep hc (by decide))
              replace HB := Lib.hid (HB.out.keep hc (by decide))
              replace HC := Lib.hid (HC.out.keep hc (by decide))
              replace HD := Lib.hid (HD.out.keep hc (by decide))
              clear hc
              generalize give q0 wr 9 = o6 at *
              generalize wr.drew = w6 at *
              have hHeld : w6.cell? ⟨sb, so + i * 2 + 1, none⟩ = some (.int .i64 yv) := (HR.out.at2 hy).2
              refine wpAnyH_take (i := 0) (v := ?_) (by simp only [List.getElem?_toArray, List.getElem?_cons_zero]; rfl) (by kernel_rfl) (by kernel_rfl) (by kernel_rfl) (by exact fun _ _ _ h => h) (Or.inl ⟨by rfl, ?_⟩) (by assumption) ?_
              rotate_left
              · intro wq hSw
                (try dsimp only at hSw)
                go_simp
                all_goals (with_reducible rfl)
              try simp only [Act.put, List.setIfInBounds_toArray, List.set_cons_zero, List.set_cons_succ]
              refine wpAnyH_take (i := 1) (v := ?_) (by simp only [List.getElem?_toArray, List.getElem?_cons_succ, List.getElem?_cons_zero]; rfl) (by kernel_rfl) (by kernel_rfl) (by kernel_rfl) (by exact fun _ _ _ h => h) (Or.inl ⟨by rfl, ?_⟩) (by assumption) ?_
              rotate_left
              · intro wq hSw
                (try dsimp only at hSw)
                go_simp
                all_goals (with_reducible rfl)
              try simp only [Act.put, List.setIfInBounds_toArray, List.set_cons_zero, List.set_cons_succ]
              refine wpAnyH_take (i := 2) (v := ?_) (by simp only [List.getElem?_toArray, List.getElem?_cons_succ, List.getElem?_cons_zero]; rfl) (by kernel_rfl) (by kernel_rfl) (by kernel_rfl) (by exact fun _ _ _ h => h) (Or.inl ⟨by rfl, ?_⟩) (by assumption) ?_
              rotate_left
              · intro wq hSw
                (try dsimp only at hSw)
                go_simp
                all_goals (with_reducible rfl)
              try simp only [Act.put, List.setIfInBounds_toArray, List.set_cons_zero, List.set_cons_succ]
              refine wpAnyH_take (i := 3) (v := ?_) (by simp only [List.getElem?_toArray, List.getElem?_cons_succ, List.getElem?_cons_zero]; rfl) (by kernel_rfl) (by kernel_rfl) (by kernel_rfl) (by exact fun _ _ _ h => h) (Or.inl ⟨by rfl, ?_⟩) (by assumption) ?_
              rotate_left
              · intro wq hSw
                (try dsimp only at hSw)
                go_simp
                all_goals (with_reducible rfl)
              try simp only [Act.put, List.setIfInBounds_toArray, List.set_cons_zero, List.set_cons_succ]
              refine wpAnyH_take (i := 4) (v := ?_) (by simp only [List.getElem?_toArray, List.getElem?_cons_succ, List.getElem?_cons_zero]; rfl) (by kernel_rfl) (by kernel_rfl) (by kernel_rfl) (by exact fun _ _ _ h => h) (Or.inl ⟨by rfl, ?_⟩) (by assumption) ?_
              rotate_left
              · intro wq hSw
                (try dsimp only at hSw)
                go_simp
                all_goals (with_reducible rfl)
              try simp only [Act.put, List.setIfInBounds_toArray, List.set_cons_zero, List.set_cons_succ]
              refine wpAnyH_take (i := 5) (by simp only [List.getElem?_toArray, List.getElem?_cons_succ, List.getElem?_cons_zero]; rfl) (by kernel_rfl) (by kernel_rfl) (by kernel_rfl) (by exact fun _ _ _ h => h) (yields_ld (ad := ⟨sb, so + i * 2 + 1, none⟩) (by rfl) _ rfl rfl (fun w' h => ld3 h)) (by assumption) ?_
              try simp only [Act.put, List.setIfInBounds_toArray, List.set_cons_zero, List.set_cons_succ]
              refine wpAnyH_take (i := 7) (v := ?_) (by simp only [List.getElem?_toArray, List.getElem?_cons_succ, List.getElem?_cons_zero]; rfl) (by kernel_rfl) (by kernel_rfl) (by kernel_rfl) (by exact fun _ _ _ h => h) (Or.inl ⟨by rfl, ?_⟩) (by assumption) ?_
              rotate_left
              · intro wq hSw
                (try dsimp only at hSw)
                go_simp
                all_goals (with_reducible rfl)
              try simp only [Act.put, List.setIfInBounds_toArray, List.set_cons_zero, List.set_cons_succ]
              refine wpAnyH_take (i := 8) (v := ?_) (by simp only [List.getElem?_toArray, List.getElem?_cons_succ, List.getElem?_cons_zero]; rfl) (by kernel_rfl) (by kernel_rfl) (by kernel_rfl) (by exact fun _ _ _ h => h) (Or.inl ⟨by rfl, ?_⟩) (by assumption) ?_
              rotate_left
              · intro wq hSw
                (try dsimp only at hSw)
                go_simp
                all_goals (with_reducible rfl)
              try simp only [Act.put, List.setIfInBounds_toArray, List.set_cons_zero, List.set_cons_succ]
              refine wpAnyH_take (i := 9) (v := ?_) (by simp only [List.getElem?_toArray, List.getElem?_cons_succ, List.getElem?_cons_zero]; rfl) (by kernel_rfl) (by kernel_rfl) (by kernel_rfl) (by exact fun _ _ _ h => h) (Or.inl ⟨by rfl, ?_⟩) (by assumption) ?_
              rotate_left
              · intro wq hSw
                (try dsimp only at hSw)
                go_simp
                all_goals (with_reducible rfl)
              try simp only [Act.put, List.setIfInBounds_toArray, List.set_cons_zero, List.set_cons_succ]
              refine wpAnyH_take (i := 10) (v := ?_) (by simp only [List.getElem?_toArray, List.getElem?_cons_succ, List.getElem?_cons_zero]; rfl) (by kernel_rfl) (by kernel_rfl) (by kernel_rfl) (by exact fun _ _ _ h => h) (Or.inl ⟨by rfl, ?_⟩) (by assumption) ?_
              rotate_left
              · intro wq hSw
                (try dsimp only at hSw)
                go_simp
                all_goals (with_reducible rfl)
              try simp only [Act.put, List.setIfInBounds_toArray, List.set_cons_zero, List.set_cons_succ]
              refine wpAnyH_take (i := 11) (v := ?_) (by simp only [List.getElem?_toArray, List.getElem?_cons_succ, List.getElem?_cons_zero]; rfl) (by kernel_rfl) (by kernel_rfl) (by kernel_rfl) (by exact fun _ _ _ h => h) (Or.inl ⟨by rfl, ?_⟩) (by assumption) ?_
              rotate_left
              · intro wq hSw
                (try dsimp only at hSw)
                go_simp
                all_goals (with_reducible rfl)
              try simp only [Act.put, List.setIfInBounds_toArray, List.set_cons_zero, List.set_cons_succ]
              refine wpAnyH_take (i := 12) (by simp only [List.getElem?_toArray, List.getElem?_cons_succ, List.getElem?_cons_zero]; rfl) (by kernel_rfl) (by kernel_rfl) (by kernel_rfl) (by exact fun _ _ _ h => h) (yields_ld (ad := ⟨sb, so + i * 2 + 1, none⟩) (by rfl) _ rfl rfl (fun w' h => ld3 h)) (by assumption) ?_
              try simp only [Act.put, List.setIfInBounds_toArray, List.set_cons_zero, List.set_cons_succ]
              refine wpAnyH_ready (rs := [6]) (by kernel_rfl) (by simp) ?_
              refine AllReadyH.cons (by simp only [List.getElem?_toArray, List.getElem?_cons_succ, List.getElem?_cons_zero]; rfl) (fun K hK => ?_) AllReadyH.nil
              go_simp
              refine (KI.push9_y yv (max yv 0) HA.out (by omega) rfl hroom).mono ?_
              rintro E w7 ⟨rfl, hq, hc⟩
              replace HO := Lib.hid (HO.out.keep hc (by decide))
              replace HR := Lib.hid (HR.out.keep hc (by decide))
              replace HZ := Lib.hid (HZ.out.keep hc (by decide))
              replace HB := Lib.hid (HB.out.keep hc (by decide))
              replace HC := Lib.hid (HC.out.keep hc (by decide))
              replace HD := Lib.hid (HD.out.keep hc (by decide))
              replace HA := Lib.hid hq
              clear hq hc
              generalize give o6 w6 1 = o7 at *
              have hS : w7.cell? ⟨sb, so + i * 2 + 1, none⟩ = some (.int .i64 yv) := (HR.out.at2 hy).2
              clear hHeld
              go_wp2_with fail
              refine hK.out _ _ hS (fun hHeld => ?_)
              clear hK K
              try simp only [Act.put, List.setIfInBounds_toArray, List.set_cons_zero, List.set_cons_succ]
              clear hS
              refine wpAnyH_ready (rs := [13]) (by kernel_rfl) (by simp) ?_
              refine AllReadyH.cons (by simp only [List.getElem?_toArray, List.getElem?_cons_succ, List.getElem?_cons_zero]; rfl) (fun K hK => ?_) AllReadyH.nil
              go_simp
              refine (KI.push9_y yv (max yv 0) HD.out (by omega) rfl hroom).mono ?_
              rintro E w8 ⟨rfl, hq, hc⟩
              replace HO := Lib.hid (HO.out.keep hc (by decide))
              replace HR := Lib.hid (HR.out.keep hc (by decide))
              replace HZ := Lib.hid (HZ.out.keep hc (by decide))
              replace HA := Lib.hid (HA.out.keep hc (by decide))
              replace HB := Lib.hid (HB.out.keep hc (by decide))
              replace HC := Lib.hid (HC.out.keep hc (by decide))
              replace HD := Lib.hid hq
              clear hq hc
              generalize give o7 w7 4 = o8 at *
              have hS : w8.cell? ⟨sb, so + i * 2 + 1, none⟩ = some (.int .i64 yv) := (HR.out.at2 hy).2
              clear hHeld
              go_wp2_with fail
              refine hK.out _ _ hS (fun hHeld => ?_)
              clear hK K
              try simp only [Act.put, List.setIfInBounds_toArray, List.set_cons_zero, List.set_cons_succ]
              clear hS
              refine wpAnyH_take (i := 14) (v := ?_) (by simp only [List.getElem?_toArray, List.getElem?_cons_succ, List.getElem?_cons_zero]; rfl) (by kernel_rfl) (by kernel_rfl) (by kernel_rfl) (by exact fun _ _ _ h => h) (Or.inl ⟨by rfl, ?_⟩) (by assumption) ?_
              rotate_left
              · intro wq hSw
                (try dsimp only at hSw)
                go_simp
                all_goals (with_reducible rfl)
              try simp only [Act.put, List.setIfInBounds_toArray, List.set_cons_zero, List.set_cons_succ]
              clear hHeld
              refine wpAnyH_done (by kernel_rfl) ?_ _
              go_wp2_with fail
              refine (KI.len_o HA.out).mono ?_
              rintro E w99 ⟨rfl, h9⟩
              replace h9 := h9.symm
              subst h9
              go_wp2_with fail
              refine (KI.len_o HD.out).mono ?_
              rintro E w99 ⟨rfl, h9⟩
              replace h9 := h9.symm
              subst h9
              go_wp2_with fail
              refine (KI.bytes_o HA.out).mono ?_
              rintro E w99 ⟨rfl, h9⟩
              replace h9 := h9.symm
              subst h9
              go_wp2_with fail
              refine (KI.bytes_o HD.out).mono ?_
              rintro E w99 ⟨rfl, h9⟩
              replace h9 := h9.symm
              subst h9
              go_wp2_with fail
              go_roundw
              case rel => exact ⟨i + 1, _, _, _, _, by go_num, by omega, HO.out, HR.out, HZ.out, HA.out, HB.out, HC.out, HD.out⟩
              case measure => simp [intOf]; omega
            · simp only [Bool.not_eq_true] at hroom
              go_upto_region 20 with fail
              clear cy1
              refine wp_region_held_drew (S := (fun w' => w'.cell? ⟨sb, so + i * 2 + 1, none⟩ = some (.int .i64 yv))) (by kernel_rfl) (by exact cy2) (fun hHeld => ?_)
              clear hHeld cy2
              have hc := Chg.on (o := q0) 9 ((Away.refl [] wr).drew)
              replace HO := Lib.hid (HO.out.keep hc (by decide))
              replace HR := Lib.hid (HR.out.keep hc (by decide))
              replace HZ := Lib.hid (HZ.out.keep hc (by decide))
              replace HA := Lib.hid (HA.out.keep hc (by decide))
              replace HB := Lib.hid (HB.out.keep hc (by decide))
              replace HC := Lib.hid (HC.out.keep hc (by decide))
              replace HD := Lib.hid (HD.out.keep hc (by decide))
              clear hc
              generalize give q0 wr 9 = o6 at *
              generalize wr.drew = w6 at *
              have hHeld : w6.cell? ⟨sb, so + i * 2 + 1, none⟩ = some (.int .i64 yv) := (HR.out.at2 hy).2
              refine wpAnyH_take (i := 0) (v := ?_) (by simp only [List.getElem?_toArray, List.getElem?_cons_zero]; rfl) (by kernel_rfl) (by kernel_rfl) (by kernel_rfl) (by exact fun _ _ _ h => h) (Or.inl ⟨by rfl, ?_⟩) (by assumption) ?_
              rotate_left
              · intro wq hSw
                (try dsimp only at hSw)
                go_simp
                all_goals (with_reducible rfl)
              try simp only [Act.put, List.setIfInBounds_toArray, List.set_cons_zero, List.set_cons_succ]
              refine wpAnyH_take (i := 1) (v := ?_) (by simp only [List.getElem?_toArray, List.getElem?_cons_succ, List.getElem?_cons_zero]; rfl) (by kernel_rfl) (by kernel_rfl) (by kernel_rfl) (by exact fun _ _ _ h => h) (Or.inl ⟨by rfl, ?_⟩) (by assumption) ?_
              rotate_left
              · intro wq hSw
                (try dsimp only at hSw)
                go_simp
                all_goals (with_reducible rfl)
              try simp only [Act.put, List.setIfInBounds_toArray, List.set_cons_zero, List.set_cons_succ]
              refine wpAnyH_take (i := 2) (v := ?_) (by simp only [List.getElem?_toArray, List.getElem?_cons_succ, List.getElem?_cons_zero]; rfl) (by kernel_rfl) (by kernel_rfl) (by kernel_rfl) (by exact fun _ _ _ h => h) (Or.inl ⟨by rfl, ?_⟩) (by assumption) ?_
              rotate_left
              · intro wq hSw
                (try dsimp only at hSw)
                go_simp
                all_goals (with_reducible rfl)
              try simp only [Act.put, List.setIfInBounds_toArray, List.set_cons_zero, List.set_cons_succ]
              refine wpAnyH_take (i := 3) (v := ?_) (by simp only [List.getElem?_toArray, List.getElem?_cons_succ, List.getElem?_cons_zero]; rfl) (by kernel_rfl) (by kernel_rfl) (by kernel_rfl) (by exact fun _ _ _ h => h) (Or.inl ⟨by rfl, ?_⟩) (by assumption) ?_
              rotate_left
              · intro wq hSw
                (try dsimp only at hSw)
                go_simp
                all_goals (with_reducible rfl)
              try simp only [Act.put, List.setIfInBounds_toArray, List.set_cons_zero, List.set_cons_succ]
              refine wpAnyH_take (i := 4) (v := ?_) (by simp only [List.getElem?_toArray, List.getElem?_cons_succ, List.getElem?_cons_zero]; rfl) (by kernel_rfl) (by kernel_rfl) (by kernel_rfl) (by exact fun _ _ _ h => h) (Or.inl ⟨by rfl, ?_⟩) (by assumption) ?_
              rotate_left
              · intro wq hSw
                (try dsimp only at hSw)
                go_simp
                all_goals (with_reducible rfl)
              try simp only [Act.put, List.setIfInBounds_toArray, List.set_cons_zero, List.set_cons_succ]
              refine wpAnyH_take (i := 5) (by simp only [List.getElem?_toArray, List.getElem?_cons_succ, List.getElem?_cons_zero]; rfl) (by kernel_rfl) (by kernel_rfl) (by kernel_rfl) (by exact fun _ _ _ h => h) (yields_ld (ad := ⟨sb, so + i * 2 + 1, none⟩) (by rfl) _ rfl rfl (fun w' h => ld3 h)) (by assumption) ?_
              try simp only [Act.put, List.setIfInBounds_toArray, List.set_cons_zero, List.set_cons_succ]
              refine wpAnyH_take (i := 7) (v := ?_) (by simp only [List.getElem?_toArray, List.getElem?_cons_succ, List.getElem?_cons_zero]; rfl) (by kernel_rfl) (by kernel_rfl) (by kernel_rfl) (by exact fun _ _ _ h => h) (Or.inl ⟨by rfl, ?_⟩) (by assumption) ?_
              rotate_left
              · intro wq hSw
                (try dsimp only at hSw)
                go_simp
                all_goals (with_reducible rfl)
              try simp only [Act.put, List.setIfInBounds_toArray, List.set_cons_zero, List.set_cons_succ]
              refine wpAnyH_take (i := 8) (v := ?_) (by simp only [List.getElem?_toArray, List.getElem?_cons_succ, List.getElem?_cons_zero]; rfl) (by kernel_rfl) (by kernel_rfl) (by kernel_rfl) (by exact fun _ _ _ h => h) (Or.inl ⟨by rfl, ?_⟩) (by assumption) ?_
              rotate_left
              · intro wq hSw
                (try dsimp only at hSw)
                go_simp
                all_goals (with_reducible rfl)
              try simp only [Act.put, List.setIfInBounds_toArray, List.set_cons_zero, List.set_cons_succ]
              refine wpAnyH_take (i := 9) (v := ?_) (by simp only [List.getElem?_toArray, List.getElem?_cons_succ, List.getElem?_cons_zero]; rfl) (by kernel_rfl) (by kernel_rfl) (by kernel_rfl) (by exact fun _ _ _ h => h) (Or.inl ⟨by rfl, ?_⟩) (by assumption) ?_
              rotate_left
              · intro wq hSw
                (try dsimp only at hSw)
                go_simp
                all_goals (with_reducible rfl)
              try simp only [Act.put, List.setIfInBounds_toArray, List.set_cons_zero, List.set_cons_succ]
              refine wpAnyH_take (i := 10) (v := ?_) (by simp only [List.getElem?_toArray, List.getElem?_cons_succ, List.getElem?_cons_zero]; rfl) (by kernel_rfl) (by kernel_rfl) (by kernel_rfl) (by exact fun _ _ _ h => h) (Or.inl ⟨by rfl, ?_⟩) (by assumption) ?_
              rotate_left
              · intro wq hSw
                (try dsimp only at hSw)
                go_simp
                all_goals (with_reducible rfl)
              try simp only [Act.put, List.setIfInBounds_toArray, List.set_cons_zero, List.set_cons_succ]
              refine wpAnyH_take (i := 11) (v := ?_) (by simp only [List.getElem?_toArray, List.getElem?_cons_succ, List.getElem?_cons_zero]; rfl) (by kernel_rfl) (by kernel_rfl) (by kernel_rfl) (by exact fun _ _ _ h => h) (Or.inl ⟨by rfl, ?_⟩) (by assumption) ?_
              rotate_left
              · intro wq hSw
                (try dsimp only at hSw)
                go_simp
                all_goals (with_reducible rfl)
              try simp only [Act.put, List.setIfInBounds_toArray, List.set_cons_zero, List.set_cons_succ]
              refine wpAnyH_take (i := 12) (by simp only [List.getElem?_toArray, List.getElem?_cons_succ, List.getElem?_cons_zero]; rfl) (by kernel_rfl) (by kernel_rfl) (by kernel_rfl) (by exact fun _ _ _ h => h) (yields_ld (ad := ⟨sb, so + i * 2 + 1, none⟩) (by rfl) _ rfl rfl (fun w' h => ld3 h)) (by assumption) ?_
              try simp only [Act.put, List.setIfInBounds_toArray, List.set_cons_zero, List.set_cons_succ]
              refine wpAnyH_ready (rs := [6]) (by kernel_rfl) (by simp) ?_
              refine AllReadyH.cons (by simp only [List.getElem?_toArray, List.getElem?_cons_succ, List.getElem?_cons_zero]; rfl) (fun K hK => ?_) AllReadyH.nil
              go_simp
              refine (KI.push9_x yv (max yv 0) HA.out (by omega) rfl hroom).mono ?_
              rintro E w7 ⟨rfl, hq, hc⟩
              replace HO := Lib.hid (HO.out.keep hc (by decide))
              replace HR := Lib.hid (HR.out.keep hc (by decide))
              replace HZ := Lib.hid (HZ.out.keep hc (by decide))
              replace HB := Lib.hid (HB.out.keep hc (by decide))
              replace HC := Lib.hid (HC.out.keep hc (by decide))
              replace HD := Lib.hid (HD.out.keep hc (by decide))
              replace HA := Lib.hid hq
              clear hq hc
              generalize give o6 w6 1 = o7 at *
              have hS : w7.cell? ⟨sb, so + i * 2 + 1, none⟩ = some (.int .i64 yv) := (HR.out.at2 hy).2
              clear hHeld
              go_wp2_with fail
              refine hK.out _ _ hS (fun hHeld => ?_)
              clear hK K
              try simp only [Act.put, List.setIfInBounds_toArray, List.set_cons_zero, List.set_cons_succ]
              clear hS
              refine wpAnyH_ready (rs := [13]) (by kernel_rfl) (by simp) ?_
              refine AllReadyH.cons (by simp only [List.getElem?_toArray, List.getElem?_cons_succ, List.getElem?_cons_zero]; rfl) (fun K hK => ?_) AllReadyH.nil
              go_simp
              refine (KI.push9_x yv (max yv 0) HD.out (by omega) rfl hroom).mono ?_
              rintro E w8 ⟨rfl, hq, hc⟩
              replace HO := Lib.hid (HO.out.keep hc (by decide))
              replace HR := Lib.hid (HR.out.keep hc (by decide))
              replace HZ := Lib.hid (HZ.out.keep hc (by decide))
              replace HA := Lib.hid (HA.out.keep hc (by decide))
              replace HB := Lib.hid (HB.out.keep hc (by decide))
              replace HC := Lib.hid (HC.out.keep hc (by decide))
              replace HD := Lib.hid hq
              clear hq hc
              generalize give o7 w7 4 = o8 at *
              have hS : w8.cell? ⟨sb, so + i * 2 + 1, none⟩ = some (.int .i64 yv) := (HR.out.at2 hy).2
              clear hHeld
              go_wp2_with fail
              refine hK.out _ _ hS (fun hHeld => ?_)
              clear hK K
              try simp only [Act.put, List.setIfInBounds_toArray, List.set_cons_zero, List.set_cons_succ]
              clear hS
              refine wpAnyH_take (i := 14) (v := ?_) (by simp only [List.getElem?_toArray, List.getElem?_cons_succ, List.getElem?_cons_zero]; rfl) (by kernel_rfl) (by kernel_rfl) (by kernel_rfl) (by exact fun _ _ _ h => h) (Or.inl ⟨by rfl, ?_⟩) (by assumption) ?_
              rotate_left
              · intro wq hSw
                (try dsimp only at hSw)
                go_simp
                all_goals (with_reducible rfl)
              try simp only [Act.put, List.setIfInBounds_toArray, List.set_cons_zero, List.set_cons_succ]
              clear hHeld
              refine wpAnyH_done (by kernel_rfl) ?_ _
              go_wp2_with fail
              refine (KI.len_o HA.out).mono ?_
              rintro E w99 ⟨rfl, h9⟩
              replace h9 := h9.symm
              subst h9
              go_wp2_with fail
              refine (KI.len_o HD.out).mono ?_
              rintro E w99 ⟨rfl, h9⟩
              replace h9 := h9.symm
              subst h9
              go_wp2_with fail
              refine (KI.bytes_o HA.out).mono ?_
              rintro E w99 ⟨rfl, h9⟩
              replace h9 := h9.symm
              subst h9
              go_wp2_with fail
              refine (KI.bytes_o HD.out).mono ?_
              rintro E w99 ⟨rfl, h9⟩
              replace h9 := h9.symm
              subst h9
              go_wp2_with fail
              go_roundw
              case rel => exact ⟨i + 1, _, _, _, _, by go_num, by omega, HO.out, HR.out, HZ.out, HA.out, HB.out, HC.out, HD.out⟩
              case measure => simp [intOf]; omega
      · have s1 : decide ((i : Int) < (S.length : Int)) = false := decide_eq_false (by omega)
        have s3 : decide ((S.length : Int) ≤ (i : Int)) = true := decide_eq_true (by omega)
        by_cases ht : i < T.length
        · have t1 : decide ((i : Int) < (T.length : Int)) = true := decide_eq_true (by omega)
          have t2 : (i : Int) < (T.length : Int) := by omega
          obtain ⟨x, hx⟩ := get_op ht
          obtain ⟨tb, tof, hta, cx1, cx2, hx64⟩ := HZ.out.at hx
          subst hta
          obtain ⟨xp, xv⟩ := x
          simp only at cx1 cx2 hx64
          unfold I64 at hx64
          clear cx2
          cases xp
          · go_wp2_with fail
            refine (KI.pop_any HB.out).mono ?_
            rintro E w6 ⟨r6, Lb2, rfl, hq, hc⟩
            replace HO := Lib.hid (HO.out.keep hc (by decide))
            replace HR := Lib.hid (HR.out.keep hc (by decide))
            replace HZ := Lib.hid (HZ.out.keep hc (by decide))
            replace HA := Lib.hid (HA.out.keep hc (by decide))
            replace HC := Lib.hid (HC.out.keep hc (by decide))
            replace HD := Lib.hid (HD.out.keep hc (by decide))
            replace HB := Lib.hid hq
            clear hq hc
            generalize give q0 wr 2 = o6 at *
            clear cx1
            go_wp2_with fail
            refine (KB.pop_any HC.out).mono ?_
            rintro E w7 ⟨r7, Lc2, rfl, hq, hc⟩
            replace HO := Lib.hid (HO.out.keep hc (by decide))
            replace HR := Lib.hid (HR.out.keep hc (by decide))
            replace HZ := Lib.hid (HZ.out.keep hc (by decide))
            replace HA := Lib.hid (HA.out.keep hc (by decide))
            replace HB := Lib.hid (HB.out.keep hc (by decide))
            replace HD := Lib.hid (HD.out.keep hc (by decide))
            replace HC := Lib.hid hq
            clear hq hc
            generalize give o6 w6 3 = o7 at *
            clear hx
            go_wp2_with fail
            go_roundw
            case rel => exact ⟨i + 1, _, _, _, _, by go_num, by omega, HO.out, HR.out, HZ.out, HA.out, HB.out, HC.out, HD.out⟩
            case measure => simp [intOf]; omega
          · have cx2 := (HZ.out.at2 hx).2
            simp only at cx2
            go_wp2_with fail
            refine (KI.push9_any xv HB.out (by omega)).mono ?_
            rintro E w6 ⟨r6, Lb2, rfl, hq, hc⟩
            replace HO := Lib.hid (HO.out.keep hc (by decide))
            replace HR := Lib.hid (HR.out.keep hc (by decide))
            replace HZ := Lib.hid (HZ.out.keep hc (by decide))
            replace HA := Lib.hid (HA.out.keep hc (by decide))
            replace HC := Lib.hid (HC.out.keep hc (by decide))
            replace HD := Lib.hid (HD.out.keep hc (by decide))
            replace HB := Lib.hid hq
            clear hq hc
            generalize give q0 wr 2 = o6 at *
            clear cx1 cx2
            have cx2 := (HZ.out.at2 hx).2
            simp only at cx2
            obtain ⟨n, hn, hn2⟩ := rem_c xv
            have mk := make_b n (max 0 xv % 100) hn (by omega)
            have HN := Lib.hid hn
            clear hn
            have hmx : 0 ≤ max 0 xv := by omega
            have hmx2 : (max 0 xv) ≤ 9223372036854775807 := by omega
            have hc := Chg.on (o := o6) 9 ((Away.refl [] w6).alloc (madeB n))
            have HOa := Lib.hid (HO.out.keep hc (by decide))
            have HRa := Lib.hid (HR.out.keep hc (by decide))
            have HZa := Lib.hid (HZ.out.keep hc (by decide))
            have HAa := Lib.hid (HA.out.keep hc (by decide))
            have HBa := Lib.hid (HB.out.keep hc (by decide))
            have HCa := Lib.hid (HC.out.keep hc (by decide))
            have HDa := Lib.hid (HD.out.keep hc (by decide))
            clear hc HO HR HZ HA HB HC HD
            have HO := HOa
            clear HOa
            have HR := HRa
            clear HRa
            have HZ := HZa
            clear HZa
            have HA := HAa
            clear HAa
            have HB := HBa
            clear HBa
            have HC := HCa
            clear HCa
            have HD := HDa
            clear HDa
            go_wp2_with fail
            clear cx2 mk
            generalize give o6 w6 9 = o7 at *
            generalize w6.heap.size = kb
            generalize w6.alloc (madeB n) = w7 at *
            refine (KB.push24_any (some ⟨kb, 0, none⟩) n n HC.out (by omega)).mono ?_
            rintro E w8 ⟨r8, Lc2, rfl, hq, hc⟩
            replace HO := Lib.hid (HO.out.keep hc (by decide))
            replace HR := Lib.hid (HR.out.keep hc (by decide))
            replace HZ := Lib.hid (HZ.out.keep hc (by decide))
            replace HA := Lib.hid (HA.out.keep hc (by decide))
            replace HB := Lib.hid (HB.out.keep hc (by decide))
            replace HD := Lib.hid (HD.out.keep hc (by decide))
            replace HC := Lib.hid hq
            clear hq hc
            generalize give o7 w7 3 = o8 at *
            clear hx HN hn2 hmx hmx2
            go_wp2_with fail
            go_roundw
            case rel => exact ⟨i + 1, _, _, _, _, by go_num, by omega, HO.out, HR.out, HZ.out, HA.out, HB.out, HC.out, HD.out⟩
            case measure => simp [intOf]; omega
        · have t1 : decide ((i : Int) < (T.length : Int)) = false := decide_eq_false (by omega)
          go_wp2_with fail
          go_ret
          exact ⟨rfl, HO.out.below⟩
  · have HN := Lib.hid hm
    clear hm
    go_enter Try.func5, Try.ntmps5
    go_wp2_with fail
    refine (KI.new_no c b 9 _ HN.out).mono ?_
    rintro E w9 ⟨rfl, h9⟩
    replace h9 := h9.symm
    subst h9
    go_wp2_with fail
    refine (KI.new_no c b 9 _ HN.out).mono ?_
    rintro E w9 ⟨rfl, h9⟩
    replace h9 := h9.symm
    subst h9
    go_wp2_with fail
    refine (KB.new_no c b 24 _ HN.out).mono ?_
    rintro E w9 ⟨rfl, h9⟩
    replace h9 := h9.symm
    subst h9
    go_wp2_with fail
    refine (known_c _).mono ?_
    rintro E w1 ⟨rfl, haw⟩
    have hc := Chg.on (o := o0) 9 haw
    clear haw
    replace HO := Lib.hid (HO.out.keep hc (by decide))
    replace HR := Lib.hid (HR.out.keep hc (by decide))
    replace HZ := Lib.hid (HZ.out.keep hc (by decide))
    clear hc
    generalize give o0 w 9 = o1 at *
    go_wp2_with fail
    go_ret
    exact ⟨rfl, HO.out.below⟩
end queueApart
namespace queueApart
theorem lifted (os : Os) (started : os.Started) (H : Type) (enc : TypeId × Value → H) :
    ReturnsInHanded {} Try.checked os 5 .any (Rows.queueApartSpec.pre6 enc Try.prog Try.f5 Rows.queueApartRow.domain false) (Rows.queueApartSpec.post enc Try.prog Try.f5 false true false false) := by
  refine returnsInHanded_of_change_sized (C := Try.checked) ownKn started (by kernel_rfl) Try.func5
    (ChangeSpec.witness6 (enc := enc) (C := Try.checked) false ⟨#[], #[.int .i64 0, .int .i64 0, .slice none 0 0, .slice none 0 0], []⟩ 8 (by kernel_rfl) (by kernel_rfl) (by kernel_rfl) (by kernel_rfl)) ?_
  intro W base args ds gs before hval0 hW _ hsz0 _
  have hsz : (DataW.weightsEach Try.prog (Try.f5.params.toList ++ Rows.queueApartSpec.plain.varTypes Try.prog) (ds ++ gs)).all (· ≤ reachBytes) = true := hsz0
  clear hsz0
  have hval : ∀ (j : Nat) t v, Try.f5.params[j]? = some t → args[j]? = some v → Value.okWide Try.prog W .any base t v := hval0
  have hW' := hW
  obtain ⟨p, q, hA0, hV, rfl, hfz, hnd⟩ := hW
  have hA : DataW.TrodAll enc Try.prog W 0 (fun _ => true) true Try.f5.params.toList args.toList ds p := hA0
  rw [Try.params5] at hA hval hsz
  obtain ⟨v0, vs0, d0, ds0, p0, q0, hargs, rfl, rfl, h0, r0⟩ := trodAll_cons hA
  obtain ⟨v1, vs1, d1, ds1, p1, q1, rfl, rfl, rfl, h1, r1⟩ := trodAll_cons r0
  obtain ⟨v2, vs2, d2, ds2, p2, q2, rfl, rfl, rfl, h2, r2⟩ := trodAll_cons r1
  obtain ⟨v3, vs3, d3, ds3, p3, q3, rfl, rfl, rfl, h3, r3⟩ := trodAll_cons r2
  obtain ⟨rfl, rfl, rfl⟩ := trodAll_nil r3
  obtain rfl : args = #[v0, v1, v2, v3] := by cases args; simp_all
  have hV2 : DataW.TrodVars enc Try.prog W (fun _ => true) Rows.queueApartSpec.vars gs q := hV
  obtain ⟨rfl, rfl⟩ := trodVars_none hV2
  obtain ⟨a0, rfl, rfl, rfl, w0⟩ := open_int Try.underlying3 (hval 0 3 v0 rfl rfl) h0
  obtain ⟨a1, rfl, rfl, rfl, w1⟩ := open_int Try.underlying3 (hval 1 3 v1 rfl rfl) h1
  have k2 := h2
  have lt2 : ∀ x ∈ p2, x.block < W.heap.size := by obtain ⟨m, hm⟩ := k2; exact DataW.trod_lt m _ _ _ hm
  have z2 : ∀ m ∈ d2.weights Try.prog 39, m ≤ reachBytes := fun m hm => by
    have := List.all_eq_true.1 hsz m (DataW.weights_mem_each (j := 2) (t := 39) rfl rfl m hm)
    simpa using this
  obtain ⟨a2, len2, cap2, rfl⟩ := okWide_slice Try.underlying39 (hval 2 39 v2 rfl rfl)
  obtain ⟨l2, rfl, w2, u2, b2⟩ := open_script h2 z2 lt2
  have k3 := h3
  have lt3 : ∀ x ∈ p3, x.block < W.heap.size := by obtain ⟨m, hm⟩ := k3; exact DataW.trod_lt m _ _ _ hm
  have z3 : ∀ m ∈ d3.weights Try.prog 39, m ≤ reachBytes := fun m hm => by
    have := List.all_eq_true.1 hsz m (DataW.weights_mem_each (j := 3) (t := 39) rfl rfl m hm)
    simpa using this
  obtain ⟨a3, len3, cap3, rfl⟩ := okWide_slice Try.underlying39 (hval 3 39 v3 rfl rfl)
  obtain ⟨l3, rfl, w3, u3, b3⟩ := open_script h3 z3 lt3
  clear hA0 hval0
  refine (walk a0 a1 a2 l2 cap2 a3 l3 cap3 W w0 w1 w2 b2 w3 b3).mono fun e W' ⟨he, bel⟩ => ?_
  subst he
  exact ⟨_, rfl, _, _, _, [], _, [], hW', trodAll_mk1 (shut_bool Try.underlying4 _), (trodAll_cons_mk (shut_int Try.underlying3 w0) (trodAll_cons_mk (shut_int Try.underlying3 w1) (trodAll_cons_mk (Below.trod laidOut (by kernel_rfl) (of_decide_eq_true (by kernel_rfl)) k2 bel lt2) (trodAll_cons_mk (Below.trod laidOut (by kernel_rfl) (of_decide_eq_true (by kernel_rfl)) k3 bel lt3) trodAll_mk0)))), rfl, bel.frame _, fun h => by cases h⟩
theorem over : Rows.queueApartRow.holds Try.pinned (OpenSpec.ofChange Rows.queueApartSpec) :=
  OpenClaim.holds_of_wide 5 Try.f5 rfl rfl rfl rfl rfl rfl rfl ⟨rfl, rfl, rfl, rfl, rfl⟩ rfl rfl rfl rfl rfl (by kernel_rfl) Try.func5 (by kernel_rfl)
    (of_decide_eq_true (by kernel_rfl)) (by unfold Func.isWrapper; first | (rw [if_pos (by decide +kernel)]; kernel_rfl) | (rw [if_neg (by decide +kernel)]; exact ⟨rfl, rfl⟩))
    (fun os started H enc _ => lifted os started H enc)
end queueApart
theorem queueApart_holds : Rows.QueueApartSaid := queueApart.over
#print axioms queueApart_holds
end Go.Proofs.Ytdgkkbiodhbmeaa
