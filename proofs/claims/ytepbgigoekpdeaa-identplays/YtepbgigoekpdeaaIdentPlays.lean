/-
  IdentPlays.
-/
import Derived.Test.YtepbgigoekpdeaaSt
namespace Go.Proofs.Ytepbgigoekpdeaa
open Go.ChangeShapes Go.WideShapes Go.ChangeAt Go.RowKit Go.Deep
set_option linter.unusedVariables false
set_option maxRecDepth 100000

theorem and_one (n : Int) : bits .and .i64 n 1 = 0 ∨ bits .and .i64 n 1 = 1 := by
  have e : bits .and .i64 n 1 = IntKind.i64.wrap (((BitVec.ofInt 64 n).toNat % 2 : Nat) : Int) := by
    show IntKind.i64.wrap (((BitVec.ofInt 64 n &&& BitVec.ofInt 64 1).toNat : Nat) : Int) = _
    rw [BitVec.toNat_and, show (BitVec.ofInt 64 1).toNat = 1 from rfl, Nat.and_one_is_mod]
  rw [e]
  rcases Nat.mod_two_eq_zero_or_one (BitVec.ofInt 64 n).toNat with h | h
  · rw [h]; left; rfl
  · rw [h]; right; rfl
namespace identPlays
set_option maxHeartbeats 16000000 in
theorem walk (wa : Option Addr) (ws : List Op4) (cap : Nat) (w : World) (hr : RowC w wa ws) (hlen : ws.length ≤ 4398046510976) :
    Calls Try.prog 6 #[.slice wa ws.length cap] w fun E w' => E = .returned (.bool true) ∧ Below w.heap.size w w' := by
  have HR := hidI hr
  clear hr
  obtain ⟨n, hn⟩ : ∃ n, n = ws.length := ⟨_, rfl⟩
  rw [← hn] at hlen ⊢
  have HN := hidI hn
  clear hn
  go_enter Try.func6, Try.ntmps6
  go_wp2_with fail
  refine (alive_c _).mono ?_
  rintro E w1 ⟨rfl, haw⟩
  have HA := hidI haw
  clear haw
  go_wp2_with fail
  have hz := HA.out.size
  obtain ⟨A, hAe⟩ : ∃ A, A = w1.heap.size := ⟨_, rfl⟩
  generalize hW : (w1.alloc _).alloc _ = W
  have HST : Hid (St w W A (A + 1) 0 none none) := by
    have L0 : Lot w w1 [] := ⟨by simp, by simp, by simp, .nil, HA.out⟩
    have L1 : Lot w (w1.alloc (.cells #[.pointer none, .pointer none] 44)) [obA A 44 (.pointer none) (.pointer none)] := L0.add (fineA _ _ _ _) (by rw [hAe]; exact block_new w1 _) ((Away.refl [] w1).alloc _) (fun x hx => by simp [obA] at hx; omega)
    have L2 := L1.add (p := obA (A + 1) 46 (.pointer none) (.pointer none)) (w' := W) (fineA _ _ _ _) (by rw [hAe, ← hW]; exact block_new' w1 _ _) (by rw [← hW]; exact (Away.refl [] _).alloc _) (fun x hx => by simp [obA] at hx; simp; omega)
    exact L2.perm (List.Perm.swap _ _ _)
  rw [← hAe]
  generalize A + 1 = R at *
  clear hW hAe hz HA
  go_loopw [6] (fun i wr => ∃ (k : Nat) (x y : Pr), i = .int .i64 (k : Int) ∧ k ≤ n ∧ St w wr A R 0 x y ∧ small k x ∧ small k y) (fun i _ => n - (intOf i).toNat)
  case atStart => exact ⟨0, none, none, rfl, by omega, HST.out, trivial, trivial⟩
  case round =>
    clear HST
    obtain ⟨k, x0, y0, rfl, hk, hst, hsx, hsy⟩ := hrel
    by_cases hlt : k < n
    · obtain ⟨o, ho⟩ : ∃ o, ws[k]? = some o := ⟨ws[k]'(by have := HN.out; omega), by simp⟩
      obtain ⟨hoi, hoc⟩ := HR.out.on hst.aw
      have hoi := hoi o (List.mem_of_getElem? ho)
      obtain ⟨b, off, rfl, hcell⟩ : ∃ b off, wa = some ⟨b, off, none⟩ ∧ (wr.cell? ⟨b, off + k * 4, none⟩ = some (.int .i64 o.k) ∧ wr.cell? ⟨b, off + k * 4 + 1, none⟩ = some (.int .i64 o.t) ∧ wr.cell? ⟨b, off + k * 4 + 2, none⟩ = some (.int .i64 o.a) ∧ wr.cell? ⟨b, off + k * 4 + 3, none⟩ = some (.int .i64 o.b)) := by
        rcases hoc with h | ⟨b, off, e, h⟩
        · rw [h] at ho; simp at ho
        · exact ⟨b, off, e, h k o ho⟩
      obtain ⟨c0, c1, c2, c3⟩ := hcell
      obtain ⟨kd, tt, oa, ob⟩ := o
      simp only at c0 c1 c2 c3 hoi
      obtain ⟨i0, i1, i2, i3⟩ := hoi
      unfold I64 at i0 i1 i2 i3
      obtain ⟨t, ht, htt⟩ : ∃ t : Nat, t < 2 ∧ bits .and .i64 tt 1 = (t : Int) := by
        rcases and_one tt with h | h
        · exact ⟨0, by omega, h⟩
        · exact ⟨1, by omega, h⟩
      obtain ⟨x, y, hst, hx, hy⟩ : ∃ x y, St w wr A R t x y ∧ small k x ∧ small k y ∧ True := by
        rcases two ht with rfl | rfl
        · exact ⟨x0, y0, hst, hsx, hsy, trivial⟩
        · exact ⟨y0, x0, hst.swap (by omega), hsy, hsx, trivial⟩
      have HBACK : Hid (∀ (wx : World) (x y : Pr), St w wx A R t x y → small (k + 1) x → small (k + 1) y → ∃ x0 y0, St w wx A R 0 x0 y0 ∧ small (k + 1) x0 ∧ small (k + 1) y0) := fun wx x y h h1 h2 => by
        rcases two ht with rfl | rfl
        · exact ⟨x, y, h, h1, h2⟩
        · exact ⟨y, x, h.swap (by omega), h2, h1⟩
      have HT := hidI hst
      have hy := hy.1
      have HSX := hidI (hx.mono (Nat.le_succ k))
      have HSY := hidI (hy.mono (Nat.le_succ k))
      have HX0 := hidI hx
      clear hst hsx hsy ho hoc hx hy
      have j2 : 0 ≤ (k : Int) := by omega
      have j3 : (k : Int) < (n : Int) := by omega
      have j4 : ((k : Int)).toNat = k := by omega
      have hA := lt_of_block (HT.out.blkA ht).choose_spec.choose_spec.1
      have hR := lt_of_block (HT.out.blkR ht).choose_spec.choose_spec.1
      have a1 := (HT.out.cellA ht).1; have a2 := (HT.out.cellA ht).2
      have r1 := (HT.out.cellR ht).1; have r2 := (HT.out.cellR ht).2
      have n1 : ¬ (A = wr.heap.size) := by omega
      have n2 : ¬ (R = wr.heap.size) := by omega
      have s1 : 0 ≤ (t : Int) := by omega
      have s2 : (t : Int) < 2 := by omega
      have s3 : ((t : Int)).toNat = t := by omega
      by_cases hk1 : kd = 1
      · subst hk1
        by_cases hm : 1 ≤ oa ∧ oa ≤ 4294967296 ∧ 0 ≤ ob ∧ ob ≤ 4294967296
        · obtain ⟨m1, m2, m3, m4⟩ := hm
          have K9 := hidI (fun w => new_yes oa ob w m1 m2 m3 m4)
          have K15 := hidI (fun w => rnew_yes oa ob w m1 m2 m3 m4)
          go_wp2_with fail
          refine (K9.out _).mono ?_
          rintro E w5 ⟨g, c, rfl, hf⟩
          replace HT := hidI (HT.out.on ((Away.refl [] wr).alloc (.cells #[.int .i64 1, .int .i64 tt, .int .i64 oa, .int .i64 ob] 48)))
          have haw5 := hf.2.2.2
          have d0 := haw5.cell (b := wr.heap.size) (o := 0) (v := .int .i64 1) (by simp) (by simp)
          have d2 := haw5.cell (b := wr.heap.size) (o := 2) (v := .int .i64 oa) (by simp) (by simp)
          have d3 := haw5.cell (b := wr.heap.size) (o := 3) (v := .int .i64 ob) (by simp) (by simp)
          have HF := hidI hf
          clear hf
          go_wp2_with fail
          refine (K15.out _).mono ?_
          rintro E w6 ⟨rg, rfl, hrf, hrg, haw6⟩
          have HS6 := hidI (HT.out.renew ht HF.out hrf hrg haw6)
          have HT6 := hidI ((HT.out.on haw5).on haw6)
          have p1 := (HT6.out.cellA ht).1; have p2 := (HT6.out.cellA ht).2
          obtain ⟨rb1, rb2, hrb, hrt⟩ := HT6.out.blkR ht
          have v1 := (HT6.out.cellR ht).1; have v2 := (HT6.out.cellR ht).2
          have hne : R ≠ A := fun e => by
            have hd := HT6.out.dis
            rw [List.pairwise_cons] at hd
            exact hd.1 (obsR R t x y) (by simp) A (by rw [ftA]; simp) (by rw [ftR, e]; simp)
          clear hrf hrg haw6 haw5 a1 a2 r1 r2 hrb hrt
          replace HT := HS6
          replace HSX : Hid (small (k + 1) (some (⟨g, c, .slice none 0 0, oa, ob, []⟩, rg, .slice none 0 0))) := Nat.zero_le _
          go_wp2_with fail
          go_roundw
          case rel => obtain ⟨x1, y1, h1, h2, h3⟩ := HBACK.out _ _ _ HT.out HSX.out HSY.out; exact ⟨k + 1, x1, y1, by go_num, by omega, h1, h2, h3⟩
          case measure => simp [intOf]; omega
        · have K9 := hidI (fun w => new_no oa ob w hm)
          have K15 := hidI (fun w => rnew_no oa ob w hm)
          clear hm
          go_wp2_with fail
          refine (K9.out _).mono ?_
          rintro E _ ⟨rfl, rfl⟩
          go_wp2_with fail
          refine (K15.out _).mono ?_
          rintro E _ ⟨rfl, rfl⟩
          replace HT := hidI (HT.out.on ((Away.refl [] _).alloc (.cells #[.int .i64 1, .int .i64 tt, .int .i64 oa, .int .i64 ob] 48)))
          go_wp2_with fail
          go_roundw
          case rel => obtain ⟨x1, y1, h1, h2, h3⟩ := HBACK.out _ _ _ HT.out HSX.out HSY.out; exact ⟨k + 1, x1, y1, by go_num, by omega, h1, h2, h3⟩
          case measure => simp [intOf]; omega
      · have kb1 : (kd == 1) = false := by simp [hk1]
        rcases x with _ | ⟨r, rg, rv⟩
        · simp only [ptrA] at a1
          replace HT := hidI (HT.out.on ((Away.refl [] wr).alloc (.cells #[.int .i64 kd, .int .i64 tt, .int .i64 oa, .int .i64 ob] 48)))
          go_wp2_with fail
          go_roundw
          case rel => obtain ⟨x1, y1, h1, h2, h3⟩ := HBACK.out _ _ _ HT.out HSX.out HSY.out; exact ⟨k + 1, x1, y1, by go_num, by omega, h1, h2, h3⟩
          case measure => simp [intOf]; omega
        · simp only [ptrA] at a1
          simp only [ptrR] at r1
          have HF0 : Hid (wr.heap.size ∉ fp r.g r.v) := fun h => by
            have := (fineP r).lt (HT.out.ok (obP r) (by simp [objs])) wr.heap.size (by simp only [fp, obP, Rc.ft, List.mem_cons, Option.mem_toList] at h ⊢; rcases h with h | h; exact .inl h; exact .inr (.inr h))
            omega
          have HF1 : Hid (wr.heap.size ∉ fp rg rv) := fun h => by
            have := (fineR rg rv r.sp r.li r.G).lt (HT.out.ok (obR rg rv r.sp r.li r.G) (by simp [objs])) wr.heap.size h
            omega
          replace HT := hidI (HT.out.on ((Away.refl [] wr).alloc (.cells #[.int .i64 kd, .int .i64 tt, .int .i64 oa, .int .i64 ob] 48)))
          by_cases hk2 : kd = 2
          · subst hk2
            have hsm : r.G.length ≤ k := HX0.out
            have HGD : Hid (Good r.sp r.li r.G) := by obtain ⟨bs, h⟩ := HT.out.ok (obP r) (by simp [objs]); exact h.good
            have hn1 : wr.heap.size ∉ fp r.g r.v := HF0.out
            have hn2 : wr.heap.size ∉ fp rg rv := HF1.out
            obtain ⟨W1, hW1⟩ : ∃ W1, W1 = wr.alloc (.cells #[.int .i64 2, .int .i64 tt, .int .i64 oa, .int .i64 ob] 48) := ⟨_, rfl⟩
            have HO0 : Hid (W1.cell? ⟨wr.heap.size, 0, none⟩ = some (.int .i64 2)) := by show _ = _; rw [hW1]; simp
            have HO2 : Hid (W1.cell? ⟨wr.heap.size, 2, none⟩ = some (.int .i64 oa)) := by show _ = _; rw [hW1]; simp
            rw [← hW1] at HT
            have KN : Hid (∀ q, Calls Try.prog 10 #[.pointer (some ⟨r.g, 0, none⟩), .int .i64 oa] (W1.drewN q) fun E w' => E = .returned (.tuple #[.int .u32 (nextN r.sp r.li r.G oa), .int .i64 (nextE r.sp r.li r.G oa)]) ∧ (∃ v', Lot w w' (obR rg rv r.sp r.li r.G :: obP ⟨r.g, r.c, v', r.sp, r.li, nextG r.sp r.li r.G oa⟩ :: obsA A t (some (r, rg, rv)) y :: obsR R t (some (r, rg, rv)) y :: objs y)) ∧ w'.cell? ⟨wr.heap.size, 0, none⟩ = some (.int .i64 2) ∧ w'.cell? ⟨wr.heap.size, 2, none⟩ = some (.int .i64 oa)) := fun q => by
              have h := HT.out.on ((Away.refl [] W1).drewN q)
              refine (next_c oa (h.ok (obP r) (by simp [objs])) (by omega)).mono ?_
              rintro E w' ⟨rfl, ha⟩
              have hw := ha.choose_spec.2.2
              exact ⟨rfl, St.asked (w2 := w') h ha, hw.cell hn1 HO0.out, hw.cell hn1 HO2.out⟩
            subst hW1
            clear a2 r2
            go_wp2_with fail
            go_region_with (go_at_call 10; refine (KN.out 1).mono ?_; rintro E w5 ⟨rfl, hl5, q0, q2⟩)
            all_goals
              obtain ⟨v5, hl5⟩ := hl5
              have HL5 := hidI hl5
              have hrc : w5.cell? ⟨R, t, none⟩ = some (.pointer (some ⟨rg, 0, none⟩)) := by
                have hb := hl5.ok (obsR R t (some (r, rg, rv)) y) (by simp)
                rcases two ht with rfl | rfl
                · exact (cell_of_block (show w5.heap[R]? = some (.cells #[_, _] 46 (0, 0)) from hb) 0).trans rfl
                · exact (cell_of_block (show w5.heap[R]? = some (.cells #[_, _] 46 (0, 0)) from hb) 1).trans rfl
              clear hl5
              have KR : Hid (∀ q, Calls Try.prog 16 #[.pointer (some ⟨rg, 0, none⟩), .int .i64 oa] (w5.drewN q) fun E w' => E = .returned (.tuple #[.int .u32 (nextN r.sp r.li r.G oa), .int .i64 (nextE r.sp r.li r.G oa)]) ∧ (∃ x, St w w' A R t x y ∧ small (k + 1) x) ∧ w'.cell? ⟨wr.heap.size, 0, none⟩ = some (.int .i64 2)) := fun q => by
                have h := HL5.out.on ((Away.refl [] w5).drewN q)
                refine (rnext_c oa (h.head) HGD.out (by omega)).mono ?_
                rintro E w' ⟨rfl, ha⟩
                have hw := ha.choose_spec.2.2
                obtain ⟨rv', hl⟩ := h.askR ha
                exact ⟨rfl, ⟨_, St.back hl, by have := next_len r.sp r.li r.G oa; show (nextG r.sp r.li r.G oa).length ≤ k + 1; omega⟩, hw.cell hn2 q0⟩
              generalize nextN r.sp r.li r.G oa = nn at *
              generalize nextE r.sp r.li r.G oa = ee at *
              go_wp2_with fail
              go_region_with (go_at_call 16; refine (KR.out 1).mono ?_; rintro E w6 ⟨rfl, hx6, z0⟩)
              all_goals
                obtain ⟨x6, hst6, hs6⟩ := hx6
                have HT6 := hidI hst6
                have HS6 := hidI hs6
                clear hst6 hs6
                go_wp2_with fail
                go_roundw
                case rel => obtain ⟨x1, y1, h1, h2, h3⟩ := HBACK.out _ _ _ HT6.out HS6.out HSY.out; exact ⟨k + 1, x1, y1, by go_num, by omega, h1, h2, h3⟩
                case measure => simp [intOf]; omega
          · have kb2 : (kd == 2) = false := by simp [hk2]
            by_cases hk3 : kd = 3
            · subst hk3
              have hsm : r.G.length ≤ k := HX0.out
              have HGD : Hid (Good r.sp r.li r.G) := by obtain ⟨bs, h⟩ := HT.out.ok (obP r) (by simp [objs]); exact h.good
              obtain ⟨W1, hW1⟩ : ∃ W1, W1 = wr.alloc (.cells #[.int .i64 3, .int .i64 tt, .int .i64 oa, .int .i64 ob] 48) := ⟨_, rfl⟩
              have HO0 : Hid (W1.cell? ⟨wr.heap.size, 0, none⟩ = some (.int .i64 3)) := by show _ = _; rw [hW1]; simp
              have HO2 : Hid (W1.cell? ⟨wr.heap.size, 2, none⟩ = some (.int .i64 oa)) := by show _ = _; rw [hW1]; simp
              rw [← hW1] at HT
              have KN : Hid (∀ q, Calls Try.prog 11 #[.pointer (some ⟨r.g, 0, none⟩), .int .i64 oa] (W1.drewN q) fun E w' => E = .returned (.tuple #[.int .i64 (busyN r.li r.G oa), .int .i64 (busyE r.G oa)]) ∧ St w w' A R t (some (r, rg, rv)) y ∧ w'.cell? ⟨wr.heap.size, 0, none⟩ = some (.int .i64 3) ∧ w'.cell? ⟨wr.heap.size, 2, none⟩ = some (.int .i64 oa)) := fun q => by
                have h := HT.out.on ((Away.refl [] W1).drewN q)
                refine (bsy_c oa (h.ok (obP r) (by simp [objs]))).mono ?_
                rintro E w' ⟨rfl, hw⟩
                exact ⟨rfl, h.on hw, hw.cell (by simp) HO0.out, hw.cell (by simp) HO2.out⟩
              subst hW1
              clear a2 r2
              go_wp2_with fail
              go_region_with (go_at_call 11; refine (KN.out 1).mono ?_; rintro E w5 ⟨rfl, hl5, q0, q2⟩)
              all_goals
                have HL5 := hidI hl5
                have hrc : w5.cell? ⟨R, t, none⟩ = some (.pointer (some ⟨rg, 0, none⟩)) := by
                  have h1 := (hl5.cellR ht).1
                  simpa only [ptrR] using h1
                clear hl5
                have KR : Hid (∀ q, Calls Try.prog 17 #[.pointer (some ⟨rg, 0, none⟩), .int .i64 oa] (w5.drewN q) fun E w' => E = .returned (.tuple #[.int .i64 (busyN r.li r.G oa), .int .i64 (busyE r.G oa)]) ∧ (∃ x, St w w' A R t x y ∧ small (k + 1) x) ∧ w'.cell? ⟨wr.heap.size, 0, none⟩ = some (.int .i64 3)) := fun q => by
                  have h := HL5.out.on ((Away.refl [] w5).drewN q)
                  refine (rbusy_c oa (h.ok (obR rg rv r.sp r.li r.G) (by simp [objs])) HGD.out (by omega)).mono ?_
                  rintro E w' ⟨rfl, z2, rfl⟩
                  exact ⟨rfl, ⟨_, h.on ((Away.refl [] _).drewN z2), HSX.out⟩, q0⟩
                generalize busyN r.li r.G oa = nn at *
                generalize busyE r.G oa = ee at *
                go_wp2_with fail
                go_region_with (go_at_call 17; refine (KR.out 1).mono ?_; rintro E w6 ⟨rfl, hx6, z0⟩)
                all_goals
                  obtain ⟨x6, hst6, hs6⟩ := hx6
                  have HT6 := hidI hst6
                  have HS6 := hidI hs6
                  clear hst6 hs6
                  go_wp2_with fail
                  go_roundw
                  case rel => obtain ⟨x1, y1, h1, h2, h3⟩ := HBACK.out _ _ _ HT6.out HS6.out HSY.out; exact ⟨k + 1, x1, y1, by go_num, by omega, h1, h2, h3⟩
                  case measure => simp [intOf]; omega
            · have kb3 : (kd == 3) = false := by simp [hk3]
              go_wp2_with fail
              go_roundw
              case rel => obtain ⟨x1, y1, h1, h2, h3⟩ := HBACK.out _ _ _ HT.out HSX.out HSY.out; exact ⟨k + 1, x1, y1, by go_num, by omega, h1, h2, h3⟩
              case measure => simp [intOf]; omega
    · go_wp2_with fail
      go_ret
      exact ⟨rfl, hst.aw.to_below⟩
theorem lifted (os : Os) (started : os.Started) (H : Type) (enc : TypeId × Value → H) :
    ReturnsInHanded {} Try.checked os 6 .any (Rows.identPlaysSpec.pre6 enc Try.prog Try.f6 Rows.identPlaysRow.domain false) (Rows.identPlaysSpec.post enc Try.prog Try.f6 false true false false) := by
  refine returnsInHanded_of_change_sized (C := Try.checked) ownKn started (by kernel_rfl) Try.func6
    (ChangeSpec.witness6 (enc := enc) (C := Try.checked) false ⟨#[], #[.slice none 0 0], []⟩ 8 (by kernel_rfl) (by kernel_rfl) (by kernel_rfl) (by kernel_rfl)) ?_
  intro W base args ds gs before hval0 hW _ hsz0 _
  have hsz : (DataW.weightsEach Try.prog (Try.f6.params.toList ++ Rows.identPlaysSpec.plain.varTypes Try.prog) (ds ++ gs)).all (· ≤ reachBytes) = true := hsz0
  clear hsz0
  have hval : ∀ (j : Nat) t v, Try.f6.params[j]? = some t → args[j]? = some v → Value.okWide Try.prog W .any base t v := hval0
  have hW' := hW
  obtain ⟨p, q, hA0, hV, rfl, hfz, hnd⟩ := hW
  have hA : DataW.TrodAll enc Try.prog W 0 (fun _ => true) true Try.f6.params.toList args.toList ds p := hA0
  rw [Try.params6] at hA hval hsz
  obtain ⟨v0, vs0, d0, ds0, p0, q0, hargs, rfl, rfl, h0, r0⟩ := trodAll_cons hA
  obtain ⟨rfl, rfl, rfl⟩ := trodAll_nil r0
  obtain rfl : args = #[v0] := by cases args; simp_all
  have hV2 : DataW.TrodVars enc Try.prog W (fun _ => true) Rows.identPlaysSpec.vars gs q := hV
  obtain ⟨rfl, rfl⟩ := trodVars_none hV2
  have k0 := h0
  have lt0 : ∀ x ∈ p0, x.block < W.heap.size := by obtain ⟨m, hm⟩ := k0; exact DataW.trod_lt m _ _ _ hm
  have z0 : ∀ m ∈ d0.weights Try.prog 43, m ≤ reachBytes := fun m hm => by
    have := List.all_eq_true.1 hsz m (DataW.weights_mem_each (j := 0) (t := 43) rfl rfl m hm)
    simpa using this
  obtain ⟨a0, len0, cap0, rfl⟩ := okWide_slice Try.underlying43 (hval 0 43 v0 rfl rfl)
  obtain ⟨l0, rfl, w0, u0, b0⟩ := open_script h0 z0 lt0
  clear hA0 hval0
  refine (walk a0 l0 cap0 W w0 b0).mono fun e W' ⟨he, bel⟩ => ?_
  subst he
  exact ⟨_, rfl, _, _, _, [], _, [], hW', trodAll_mk1 (shut_bool Try.underlying4 _), (trodAll_cons_mk (Below.trod laidOut (by kernel_rfl) (of_decide_eq_true (by kernel_rfl)) k0 bel lt0) trodAll_mk0), rfl, bel.frame _, fun h => by cases h⟩
theorem over : Rows.identPlaysRow.holds Try.pinned (OpenSpec.ofChange Rows.identPlaysSpec) :=
  OpenClaim.holds_of_wide 6 Try.f6 rfl rfl rfl rfl rfl rfl rfl ⟨rfl, rfl, rfl, rfl, rfl⟩ rfl rfl rfl rfl rfl (by kernel_rfl) Try.func6 (by kernel_rfl)
    (of_decide_eq_true (by kernel_rfl)) (by unfold Func.isWrapper; first | (rw [if_pos (by decide +kernel)]; kernel_rfl) | (rw [if_neg (by decide +kernel)]; exact ⟨rfl, rfl⟩))
    (fun os started H enc _ => lifted os started H enc)
end identPlays
theorem identPlays_holds : Rows.IdentPlaysSaid := identPlays.over
#print axioms identPlays_holds
end Go.Proofs.Ytepbgigoekpdeaa
