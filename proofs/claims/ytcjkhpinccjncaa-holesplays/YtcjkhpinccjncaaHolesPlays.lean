/-
  HolesPlays.
-/
import Derived.Test.YtcjkhpinccjncaaRefQ
import Derived.Test.YtcjkhpinccjncaaPcS
namespace Go.Proofs.Ytcjkhpinccjncaa
open Go.ChangeShapes Go.WideShapes Go.ChangeAt Go.RowKit Go.Deep
set_option linter.unusedVariables false
set_option linter.unusedSimpArgs false
set_option maxRecDepth 100000

/-- The program's list and the document's, side by side. -/
structure Pl (w wr : World) (g : Nat) (v : Value) (r t : Nat) (T : Int → Bool) (m : List Sp) (e top : Int) : Prop where
  h : Hl wr g v m e
  ho : Ho T m e
  rf : Rf wr r t T e top
  tp : Top T top
  s1 : Sep (fpH g v) [r, t]
  n1 : ∀ x ∈ fpH g v, w.heap.size ≤ x
  n2 : ∀ x ∈ [r, t], w.heap.size ≤ x
  aw : Away [] w wr
theorem Pl.on {w wr w' : World} {g : Nat} {v : Value} {r t : Nat} {T : Int → Bool} {m : List Sp} {e top : Int} (h : Pl w wr g v r t T m e top) (hw : Away [] wr w') : Pl w w' g v r t T m e top :=
  ⟨h.h.on hw, h.ho, h.rf.on hw, h.tp, h.s1, h.n1, h.n2, h.aw.trans hw⟩
theorem Rf.lt {w : World} {r t : Nat} {T : Int → Bool} {e top : Int} (h : Rf w r t T e top) : ∀ x ∈ [r, t], x < w.heap.size := fun x hx => by
  obtain ⟨cur, h1, -⟩ := h.fl
  simp only [List.mem_cons, List.not_mem_nil, or_false] at hx
  rcases hx with rfl | rfl
  · exact lt_of_block h.blk
  · exact lt_of_block h1
/-- Both took a piece. -/
theorem Pl.put {w W w2 w3 : World} {g : Nat} {v a v2 b : Value} {r t : Nat} {T : Int → Bool} {m : List Sp} {e top off n : Int} {more : Bool} (h : Pl w W g v r t T m e top) (hok : putOk m e off n more = true)
    (k : Took W w2 g v a v2 (freshP m (off, off + n)) (putM m off n more) (putE e off n more)) (h1 : Lst w3 b (freshP m (off, off + n))) (h2 : Rf w3 r t (fun i => T i || inS (off, off + n) i) (putE e off n more) (max top (off + n))) (h3 : Away [r, t] w2 w3) :
    Pl w w3 g v2 r t (fun i => T i || inS (off, off + n) i) (putM m off n more) (putE e off n more) (max top (off + n)) ∧ Lst w3 a (freshP m (off, off + n)) := by
  have taw : Away (fpH g v) W w2 := k.aw
  have s2 : Sep (fpH g v2) [r, t] := h.s1.move k.moved h.rf.lt
  have ha : argOk off n = true := by unfold putOk at hok; rw [Bool.and_eq_true] at hok; exact hok.1
  refine ⟨⟨k.hl.off h3 s2, put_ho h.ho hok, h2, h.tp.put ha, s2, fun x hx => ?_, h.n2, (h.aw.next taw (fun z hz => .inr (h.n1 z hz))).next h3 (fun z hz => .inr (h.n2 z hz))⟩, k.fresh.away h3 (fun z hz hc => ?_)⟩
  · simp only [fpH, List.mem_cons, Option.mem_toList] at hx
    rcases hx with rfl | hx
    · exact h.n1 x (by simp [fpH])
    · rcases k.moved x hx with h4 | h4
      · exact h.n1 x (by simp [fpH, h4])
      · have := h.aw.size; omega
  · have := h.rf.lt z hc
    have := k.new z hz
    omega
def PlE (w wr : World) (g r t : Nat) : Prop := ∃ v T m e top, Pl w wr g v r t T m e top
namespace holesPlays
set_option maxHeartbeats 32000000 in
theorem walk (wa : Option Addr) (ws : List Pc) (cap : Nat) (aa : Option Addr) (qs : List Int) (acap : Nat) (w : World) (hr : RowC w wa ws) (hlen : ws.length ≤ 5864062014634) (hra : RowI w aa qs) (halen : qs.length ≤ 17592186043904) :
    Calls Try.prog 7 #[.slice wa ws.length cap, .slice aa qs.length acap] w fun E w' => E = .returned (.bool true) ∧ Below w.heap.size w w' := by
  have HR := hidI hr
  have HRA := hidI hra
  clear hr hra
  obtain ⟨n, hn⟩ : ∃ n, n = ws.length := ⟨_, rfl⟩
  rw [← hn] at hlen ⊢
  have HN := hidI hn
  obtain ⟨na, hna⟩ : ∃ na, na = qs.length := ⟨_, rfl⟩
  rw [← hna] at halen ⊢
  have HNA := hidI hna
  clear hn hna
  go_enter Try.func7, Try.ntmps7
  go_wp2_with fail
  refine (new_c w).mono ?_
  rintro E w0 ⟨g, v0, rfl, h0, hg, hv0, haw0⟩
  have H0 := hidI h0
  have HG0 := hidI hg
  have HV0 := hidI hv0
  have HA0 := hidI haw0
  clear h0 hg hv0 haw0
  go_wp2_with fail
  refine (rnew_c w0).mono ?_
  rintro E w1 ⟨r, t, rfl, h1, hr1, ht1, haw1⟩
  have PL0 : Hid (Pl w w1 g v0 r t (fun _ => false) [(0, 65535)] (-1) 0) := by
    have z0 := HA0.out.size
    refine ⟨H0.out.on haw1, ho_new, h1, top_new, fun x hx hc => ?_, fun x hx => ?_, fun x hx => ?_, HA0.out.trans haw1⟩
    · have := H0.out.fp_lt x hx
      simp only [List.mem_cons, List.not_mem_nil, or_false] at hc
      omega
    · simp only [fpH, List.mem_cons, Option.mem_toList] at hx
      rcases hx with rfl | hx
      · exact HG0.out
      · exact HV0.out x hx
    · simp only [List.mem_cons, List.not_mem_nil, or_false] at hx
      omega
  clear h1 hr1 ht1 haw1 H0 HG0 HV0 HA0
  have KK := hidI (known_c w1)
  go_wp2_with fail
  refine KK.out.mono ?_
  rintro E w9 ⟨rfl, haw9⟩
  have PL := hidI (PL0.out.on haw9)
  clear haw9 PL0 KK
  have K1 := hidI (holes_c PL.out.h)
  go_wp2_with fail
  refine K1.out.mono ?_
  rintro E y1 ⟨x, rfl, hmk⟩
  have B1 := hidI hmk.2.2
  have LX := hidI hmk.1
  clear hmk K1
  replace PL := hidI (PL.out.on B1.out)
  have K2 := hidI (rholes_c PL.out.rf PL.out.ho)
  go_wp2_with fail
  refine K2.out.mono ?_
  rintro E y2 ⟨y, rfl, hmk⟩
  have B2 := hidI hmk.2.2
  have LY := hidI hmk.1
  clear hmk K2
  replace PL := hidI (PL.out.on B2.out)
  have K3 := hidI (same_yes (LX.out.on B2.out) LY.out (fun s hs => is_ok (right_is PL.out.h.right s hs)) (by have := right_short PL.out.h.right; omega))
  go_wp2_with fail
  refine K3.out.mono ?_
  rintro E y3 ⟨rfl, q3, h3⟩
  have B3 : Hid (Away [] y2 y3) := by show Away _ _ _; rw [h3]; exact (Away.refl _ _).drewN _
  clear h3 K3
  replace PL := hidI (PL.out.on B3.out)
  have HST : Hid (PlE w y3 g r t) := ⟨_, _, _, _, _, PL.out⟩
  clear PL LX LY B1 B2 B3
  go_wp2_with fail
  go_loopw [7] (fun i wr => ∃ (k : Nat), i = .int .i64 (k : Int) ∧ k ≤ 200 ∧ PlE w wr g r t) (fun i _ => 200 - (intOf i).toNat)
  case atStart => exact ⟨0, rfl, by omega, HST.out⟩
  case round =>
    clear HST
    obtain ⟨k, rfl, hk, v, T, m, e, top, hst⟩ := hrel
    have HT := hidI hst
    clear hst
    by_cases hlt : k < n ∧ k < 200
    · obtain ⟨hlt, hk2⟩ := hlt
      obtain ⟨x, hx⟩ : ∃ x, ws[k]? = some x := ⟨ws[k]'(by have := HN.out; omega), by simp⟩
      obtain ⟨b, off, rfl, ⟨c0, c1, c2⟩, hok⟩ := (HR.out.on HT.out.aw).at hx
      obtain ⟨po, pn, pm⟩ := x
      simp only at c0 c1 c2
      obtain ⟨i1, i2⟩ := hok
      simp only at i1 i2
      have j2 : 0 ≤ (k : Int) := by omega
      have j3 : (k : Int) < (n : Int) := by omega
      have j4 : ((k : Int)).toNat = k := by omega
      obtain ⟨W, hW⟩ : ∃ W, W = wr.alloc (.cells #[.int .i64 po, .int .i64 pn, .bool pm] 32) := ⟨_, rfl⟩
      have AB : Hid (Away [] wr W) := by show Away _ _ _; rw [hW]; exact (Away.refl _ _).alloc _
      have HBX : Hid (wr.heap.size ∉ fpH g v) := fun hc => by have := HT.out.h.fp_lt _ hc; omega
      replace HT := hidI (HT.out.on AB.out)
      have KP := hidI (put_c' po pn pm HT.out.h i1 i2)
      have KR : Hid (∀ wx, Rf wx r t T e top → Calls Try.prog 24 #[.pointer (some ⟨r, 0, none⟩), .int .i64 po, .int .i64 pn, .bool pm] wx fun E w' => RPutOut wx r t T m e top po pn pm E w') := fun wx hx => rput_c po pn pm hx HT.out.ho HT.out.tp i1 i2
      have b0 : W.cell? ⟨wr.heap.size, 0, none⟩ = some (.int .i64 po) := by rw [hW]; simp
      have b1 : W.cell? ⟨wr.heap.size, 1, none⟩ = some (.int .i64 pn) := by rw [hW]; simp
      have b2 : W.cell? ⟨wr.heap.size, 2, none⟩ = some (.bool pm) := by rw [hW]; simp
      clear hx i1 i2
      go_wp2_with fail
      rw [← hW]
      refine KP.out.mono ?_
      intro E w2 hp
      clear hW c0 c1 c2 KP
      rcases hp with ⟨hok, a9, v2, rfl, k1⟩ | ⟨hno, rfl, haw2⟩
      · replace b0 := Away.cell k1.aw HBX.out b0
        replace b1 := Away.cell k1.aw HBX.out b1
        replace b2 := Away.cell k1.aw HBX.out b2
        go_wp2_with fail
        refine (KR.out _ (HT.out.rf.away k1.aw (fun hc => HT.out.s1.symm r (by simp) hc) (fun hc => HT.out.s1.symm t (by simp) hc))).mono ?_
        intro E w3 hq
        rcases hq with ⟨-, b9, rfl, l1, n1, r1, a1⟩ | ⟨hno, -⟩
        · obtain ⟨PL0, la⟩ := HT.out.put hok k1 l1 r1 a1
          have PL := hidI PL0
          have LA := hidI la
          have LB := hidI l1
          clear PL0 la l1 n1 r1 a1 k1 b0 b1 b2
          have hrf : rightP (freshP m (po, po + pn)) = true := by
            have hok' := hok
            unfold putOk at hok'
            rw [Bool.and_eq_true] at hok'
            exact (fresh_ho HT.out.ho hok'.1 hok'.2).right
          have K3 := hidI (same_yes LA.out LB.out (fun s hs => is_ok (right_is hrf s hs)) (by have := right_short hrf; omega))
          clear hrf hok
          generalize putM m po pn pm = m2 at *
          generalize putE e po pn pm = e2 at *
          generalize (fun i => T i || inS (po, po + pn) i) = T2 at *
          generalize max top (po + pn) = top2 at *
          go_wp2_with fail
          refine K3.out.mono ?_
          rintro E w4 ⟨rfl, q4, h4⟩
          have A4 : Hid (Away [] w3 w4) := by show Away _ _ _; rw [h4]; exact (Away.refl _ _).drewN _
          clear h4 K3
          replace PL := hidI (PL.out.on A4.out)
          have K4 := hidI (end_c PL.out.h)
          have K5 := hidI (rend_c PL.out.rf PL.out.ho.en)
          go_wp2_with fail
          refine K4.out.mono ?_
          rintro E w4 ⟨rfl, rfl⟩
          go_wp2_with fail
          refine K5.out.mono ?_
          rintro E w4 ⟨rfl, rfl⟩
          clear K4 K5
          by_cases hja : k < na
          · obtain ⟨av, hav⟩ : ∃ av, qs[k]? = some av := ⟨qs[k]'(by have := HNA.out; omega), by simp⟩
            obtain ⟨ab, aoff, rfl, ac, ai⟩ := (HRA.out.on PL.out.aw).at hav
            have o3 : (k : Int) < (na : Int) := by omega
            clear hav
            by_cases ha1 : av = 1
            · subst ha1
              have K1 := hidI (holes_c PL.out.h)
              go_wp2_with fail
              refine K1.out.mono ?_
              rintro E y1 ⟨x, rfl, hmk⟩
              have B1 := hidI hmk.2.2
              have LX := hidI hmk.1
              clear hmk K1
              replace PL := hidI (PL.out.on B1.out)
              have K2 := hidI (rholes_c PL.out.rf PL.out.ho)
              go_wp2_with fail
              refine K2.out.mono ?_
              rintro E y2 ⟨y, rfl, hmk⟩
              have B2 := hidI hmk.2.2
              have LY := hidI hmk.1
              clear hmk K2
              replace PL := hidI (PL.out.on B2.out)
              have K3 := hidI (same_yes (LX.out.on B2.out) LY.out (fun s hs => is_ok (right_is PL.out.h.right s hs)) (by have := right_short PL.out.h.right; omega))
              go_wp2_with fail
              refine K3.out.mono ?_
              rintro E y3 ⟨rfl, q3, h3⟩
              have B3 : Hid (Away [] y2 y3) := by show Away _ _ _; rw [h3]; exact (Away.refl _ _).drewN _
              clear h3 K3
              replace PL := hidI (PL.out.on B3.out)
              have K4 := hidI (done_c PL.out.h)
              have K5 := hidI (rdone_c PL.out.rf PL.out.ho)
              generalize doneP _ _ = dd at K4 K5
              go_wp2_with fail
              refine K4.out.mono ?_
              rintro E y3 ⟨rfl, rfl⟩
              go_wp2_with fail
              refine K5.out.mono ?_
              rintro E y4 ⟨rfl, hB4⟩
              have B4 := hidI hB4
              clear hB4 K4 K5
              replace PL := hidI (PL.out.on B4.out)
              go_wp2_with fail
              go_roundw
              case rel => exact ⟨k + 1, by go_num, by omega, _, _, _, _, _, PL.out⟩
              case measure => simp [intOf]; omega
            · have hab : (av == 1) = false := by simp [ha1]
              go_wp2_with fail
              go_roundw
              case rel => exact ⟨k + 1, by go_num, by omega, _, _, _, _, _, PL.out⟩
              case measure => simp [intOf]; omega
          · have o3 : ¬ ((k : Int) < (na : Int)) := by omega
            go_wp2_with fail
            go_roundw
            case rel => exact ⟨k + 1, by go_num, by omega, _, _, _, _, _, PL.out⟩
            case measure => simp [intOf]; omega
        · rw [hok] at hno; simp at hno
      · replace b0 := haw2.cell (by simp) b0
        replace b1 := haw2.cell (by simp) b1
        replace b2 := haw2.cell (by simp) b2
        go_wp2_with fail
        refine (KR.out _ (HT.out.rf.on haw2)).mono ?_
        intro E w3 hq
        rcases hq with ⟨hyes, -⟩ | ⟨-, rfl, rfl⟩
        · rw [hno] at hyes; simp at hyes
        · have PL := hidI (HT.out.on haw2)
          clear haw2 hno b0 b1 b2
          have K3 := hidI (same_yes (w := w3) (Lst.nil _) (Lst.nil _) (by simp) (by simp))
          go_wp2_with fail
          refine K3.out.mono ?_
          rintro E w4 ⟨rfl, q4, h4⟩
          have A4 : Hid (Away [] w3 w4) := by show Away _ _ _; rw [h4]; exact (Away.refl _ _).drewN _
          clear h4 K3
          replace PL := hidI (PL.out.on A4.out)
          have K4 := hidI (end_c PL.out.h)
          have K5 := hidI (rend_c PL.out.rf PL.out.ho.en)
          go_wp2_with fail
          refine K4.out.mono ?_
          rintro E w4 ⟨rfl, rfl⟩
          go_wp2_with fail
          refine K5.out.mono ?_
          rintro E w4 ⟨rfl, rfl⟩
          clear K4 K5
          by_cases hja : k < na
          · obtain ⟨av, hav⟩ : ∃ av, qs[k]? = some av := ⟨qs[k]'(by have := HNA.out; omega), by simp⟩
            obtain ⟨ab, aoff, rfl, ac, ai⟩ := (HRA.out.on PL.out.aw).at hav
            have o3 : (k : Int) < (na : Int) := by omega
            clear hav
            by_cases ha1 : av = 1
            · subst ha1
              have K1 := hidI (holes_c PL.out.h)
              go_wp2_with fail
              refine K1.out.mono ?_
              rintro E y1 ⟨x, rfl, hmk⟩
              have B1 := hidI hmk.2.2
              have LX := hidI hmk.1
              clear hmk K1
              replace PL := hidI (PL.out.on B1.out)
              have K2 := hidI (rholes_c PL.out.rf PL.out.ho)
              go_wp2_with fail
              refine K2.out.mono ?_
              rintro E y2 ⟨y, rfl, hmk⟩
              have B2 := hidI hmk.2.2
              have LY := hidI hmk.1
              clear hmk K2
              replace PL := hidI (PL.out.on B2.out)
              have K3 := hidI (same_yes (LX.out.on B2.out) LY.out (fun s hs => is_ok (right_is PL.out.h.right s hs)) (by have := right_short PL.out.h.right; omega))
              go_wp2_with fail
              refine K3.out.mono ?_
              rintro E y3 ⟨rfl, q3, h3⟩
              have B3 : Hid (Away [] y2 y3) := by show Away _ _ _; rw [h3]; exact (Away.refl _ _).drewN _
              clear h3 K3
              replace PL := hidI (PL.out.on B3.out)
              have K4 := hidI (done_c PL.out.h)
              have K5 := hidI (rdone_c PL.out.rf PL.out.ho)
              generalize doneP _ _ = dd at K4 K5
              go_wp2_with fail
              refine K4.out.mono ?_
              rintro E y3 ⟨rfl, rfl⟩
              go_wp2_with fail
              refine K5.out.mono ?_
              rintro E y4 ⟨rfl, hB4⟩
              have B4 := hidI hB4
              clear hB4 K4 K5
              replace PL := hidI (PL.out.on B4.out)
              go_wp2_with fail
              go_roundw
              case rel => exact ⟨k + 1, by go_num, by omega, _, _, _, _, _, PL.out⟩
              case measure => simp [intOf]; omega
            · have hab : (av == 1) = false := by simp [ha1]
              go_wp2_with fail
              go_roundw
              case rel => exact ⟨k + 1, by go_num, by omega, _, _, _, _, _, PL.out⟩
              case measure => simp [intOf]; omega
          · have o3 : ¬ ((k : Int) < (na : Int)) := by omega
            go_wp2_with fail
            go_roundw
            case rel => exact ⟨k + 1, by go_num, by omega, _, _, _, _, _, PL.out⟩
            case measure => simp [intOf]; omega
    · have PL := HT
      by_cases hkn : k < n
      · have hk2 : ¬ ((k : Int) < 200) := by omega
        have K1 := hidI (holes_c PL.out.h)
        go_wp2_with fail
        refine K1.out.mono ?_
        rintro E y1 ⟨x, rfl, hmk⟩
        have B1 := hidI hmk.2.2
        have LX := hidI hmk.1
        clear hmk K1
        replace PL := hidI (PL.out.on B1.out)
        have K2 := hidI (rholes_c PL.out.rf PL.out.ho)
        go_wp2_with fail
        refine K2.out.mono ?_
        rintro E y2 ⟨y, rfl, hmk⟩
        have B2 := hidI hmk.2.2
        have LY := hidI hmk.1
        clear hmk K2
        replace PL := hidI (PL.out.on B2.out)
        have K3 := hidI (same_yes (LX.out.on B2.out) LY.out (fun s hs => is_ok (right_is PL.out.h.right s hs)) (by have := right_short PL.out.h.right; omega))
        go_wp2_with fail
        refine K3.out.mono ?_
        rintro E y3 ⟨rfl, q3, h3⟩
        have B3 : Hid (Away [] y2 y3) := by show Away _ _ _; rw [h3]; exact (Away.refl _ _).drewN _
        clear h3 K3
        replace PL := hidI (PL.out.on B3.out)
        have K4 := hidI (done_c PL.out.h)
        have K5 := hidI (rdone_c PL.out.rf PL.out.ho)
        generalize doneP _ _ = dd at K4 K5
        go_wp2_with fail
        refine K4.out.mono ?_
        rintro E y3 ⟨rfl, rfl⟩
        go_wp2_with fail
        refine K5.out.mono ?_
        rintro E y4 ⟨rfl, hB4⟩
        have B4 := hidI hB4
        clear hB4 K4 K5
        replace PL := hidI (PL.out.on B4.out)
        have K6 := hidI (end_c PL.out.h)
        have K7 := hidI (rend_c PL.out.rf PL.out.ho.en)
        go_wp2_with fail
        refine K6.out.mono ?_
        rintro E y4 ⟨rfl, rfl⟩
        go_wp2_with fail
        refine K7.out.mono ?_
        rintro E y4 ⟨rfl, rfl⟩
        go_wp2_with fail
        go_ret
        exact ⟨by first | rfl | simp, PL.out.aw.to_below⟩
      · have hk3 : ¬ ((k : Int) < (n : Int)) := by omega
        have K1 := hidI (holes_c PL.out.h)
        go_wp2_with fail
        refine K1.out.mono ?_
        rintro E y1 ⟨x, rfl, hmk⟩
        have B1 := hidI hmk.2.2
        have LX := hidI hmk.1
        clear hmk K1
        replace PL := hidI (PL.out.on B1.out)
        have K2 := hidI (rholes_c PL.out.rf PL.out.ho)
        go_wp2_with fail
        refine K2.out.mono ?_
        rintro E y2 ⟨y, rfl, hmk⟩
        have B2 := hidI hmk.2.2
        have LY := hidI hmk.1
        clear hmk K2
        replace PL := hidI (PL.out.on B2.out)
        have K3 := hidI (same_yes (LX.out.on B2.out) LY.out (fun s hs => is_ok (right_is PL.out.h.right s hs)) (by have := right_short PL.out.h.right; omega))
        go_wp2_with fail
        refine K3.out.mono ?_
        rintro E y3 ⟨rfl, q3, h3⟩
        have B3 : Hid (Away [] y2 y3) := by show Away _ _ _; rw [h3]; exact (Away.refl _ _).drewN _
        clear h3 K3
        replace PL := hidI (PL.out.on B3.out)
        have K4 := hidI (done_c PL.out.h)
        have K5 := hidI (rdone_c PL.out.rf PL.out.ho)
        generalize doneP _ _ = dd at K4 K5
        go_wp2_with fail
        refine K4.out.mono ?_
        rintro E y3 ⟨rfl, rfl⟩
        go_wp2_with fail
        refine K5.out.mono ?_
        rintro E y4 ⟨rfl, hB4⟩
        have B4 := hidI hB4
        clear hB4 K4 K5
        replace PL := hidI (PL.out.on B4.out)
        have K6 := hidI (end_c PL.out.h)
        have K7 := hidI (rend_c PL.out.rf PL.out.ho.en)
        go_wp2_with fail
        refine K6.out.mono ?_
        rintro E y4 ⟨rfl, rfl⟩
        go_wp2_with fail
        refine K7.out.mono ?_
        rintro E y4 ⟨rfl, rfl⟩
        go_wp2_with fail
        go_ret
        exact ⟨by first | rfl | simp, PL.out.aw.to_below⟩
theorem lifted (os : Os) (started : os.Started) (H : Type) (enc : TypeId × Value → H) :
    ReturnsInHanded {} Try.checked os 7 .any (Rows.holesPlaysSpec.pre6 enc Try.prog Try.f7 Rows.holesPlaysRow.domain false) (Rows.holesPlaysSpec.post enc Try.prog Try.f7 false true false false) := by
  refine returnsInHanded_of_change_sized (C := Try.checked) ownKn started (by kernel_rfl) Try.func7
    (ChangeSpec.witness6 (enc := enc) (C := Try.checked) false ⟨#[], #[.slice none 0 0, .slice none 0 0], []⟩ 8 (by kernel_rfl) (by kernel_rfl) (by kernel_rfl) (by kernel_rfl)) ?_
  intro W base args ds gs before hval0 hW _ hsz0 _
  have hsz : (DataW.weightsEach Try.prog (Try.f7.params.toList ++ Rows.holesPlaysSpec.plain.varTypes Try.prog) (ds ++ gs)).all (· ≤ reachBytes) = true := hsz0
  clear hsz0
  have hval : ∀ (j : Nat) t v, Try.f7.params[j]? = some t → args[j]? = some v → Value.okWide Try.prog W .any base t v := hval0
  have hW' := hW
  obtain ⟨p, q, hA0, hV, rfl, hfz, hnd⟩ := hW
  have hA : DataW.TrodAll enc Try.prog W 0 (fun _ => true) true Try.f7.params.toList args.toList ds p := hA0
  rw [Try.params7] at hA hval hsz
  obtain ⟨v0, vs0, d0, ds0, p0, q0, hargs, rfl, rfl, h0, r0⟩ := trodAll_cons hA
  obtain ⟨v1, vs1, d1, ds1, p1, q1, rfl, rfl, rfl, h1, r1⟩ := trodAll_cons r0
  obtain ⟨rfl, rfl, rfl⟩ := trodAll_nil r1
  obtain rfl : args = #[v0, v1] := by cases args; simp_all
  have hV2 : DataW.TrodVars enc Try.prog W (fun _ => true) Rows.holesPlaysSpec.vars gs q := hV
  obtain ⟨rfl, rfl⟩ := trodVars_none hV2
  have k0 := h0
  have lt0 : ∀ x ∈ p0, x.block < W.heap.size := by obtain ⟨m, hm⟩ := k0; exact DataW.trod_lt m _ _ _ hm
  have z0 : ∀ m ∈ d0.weights Try.prog 22, m ≤ reachBytes := fun m hm => by
    have := List.all_eq_true.1 hsz m (DataW.weights_mem_each (j := 0) (t := 22) rfl rfl m hm)
    simpa using this
  obtain ⟨a0, len0, cap0, rfl⟩ := okWide_slice Try.underlying22 (hval 0 22 v0 rfl rfl)
  obtain ⟨l0, rfl, w0, u0, b0⟩ := open_script h0 z0 lt0
  have k1 := h1
  have lt1 : ∀ x ∈ p1, x.block < W.heap.size := by obtain ⟨m, hm⟩ := k1; exact DataW.trod_lt m _ _ _ hm
  have z1 : ∀ m ∈ d1.weights Try.prog 23, m ≤ reachBytes := fun m hm => by
    have := List.all_eq_true.1 hsz m (DataW.weights_mem_each (j := 1) (t := 23) rfl rfl m hm)
    simpa using this
  obtain ⟨a1, len1, cap1, rfl⟩ := okWide_slice Try.underlying23 (hval 1 23 v1 rfl rfl)
  obtain ⟨l1, rfl, w1, u1, b1⟩ := open_nums h1 z1 lt1
  clear hA0 hval0
  refine (walk a0 l0 cap0 a1 l1 cap1 W w0 b0 w1 b1).mono fun e W' ⟨he, bel⟩ => ?_
  subst he
  exact ⟨_, rfl, _, _, _, [], _, [], hW', trodAll_mk1 (shut_bool Try.underlying4 _), (trodAll_cons_mk (Below.trod laidOut (by kernel_rfl) (of_decide_eq_true (by kernel_rfl)) k0 bel lt0) (trodAll_cons_mk (Below.trod laidOut (by kernel_rfl) (of_decide_eq_true (by kernel_rfl)) k1 bel lt1) trodAll_mk0)), rfl, bel.frame _, fun h => by cases h⟩
theorem over : Rows.holesPlaysRow.holds Try.pinned (OpenSpec.ofChange Rows.holesPlaysSpec) :=
  OpenClaim.holds_of_wide 7 Try.f7 rfl rfl rfl rfl rfl rfl rfl ⟨rfl, rfl, rfl, rfl, rfl⟩ rfl rfl rfl rfl rfl (by kernel_rfl) Try.func7 (by kernel_rfl)
    (of_decide_eq_true (by kernel_rfl)) (by unfold Func.isWrapper; first | (rw [if_pos (by decide +kernel)]; kernel_rfl) | (rw [if_neg (by decide +kernel)]; exact ⟨rfl, rfl⟩))
    (fun os started H enc _ => lifted os started H enc)
end holesPlays
theorem holesPlays_holds : Rows.HolesPlaysSaid := holesPlays.over
#print axioms holesPlays_holds
end Go.Proofs.Ytcjkhpinccjncaa
