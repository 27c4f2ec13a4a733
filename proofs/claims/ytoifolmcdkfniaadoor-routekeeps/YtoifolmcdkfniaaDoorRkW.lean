/-
  RouteKeeps, walked.
-/
import Derived.Test.YtoifolmcdkfniaaDoorKitD
import Derived.Test.YtoifolmcdkfniaaDoorKp
namespace Go.Proofs.YtoifolmcdkfniaaDoor
open Go.ChangeShapes Go.WideShapes Go.ChangeAt Go.RowKit
set_option linter.unusedVariables false
set_option linter.unusedSimpArgs false
set_option maxRecDepth 100000

def nA : Rt := net4P 171 1 16 7
def nB : Rt := net4P 172 1 16 7
def nC : Rt := net4P 99 9 16 9
theorem nA_ok : Okr nA := net4_ok (by omega) (by omega)
theorem nB_ok : Okr nB := net4_ok (by omega) (by omega)
theorem nC_ok : Okr nC := net4_ok (by omega) (by omega)
theorem underAd : Tryd.prog.underlying 36 = some (.slice (Tryd.prog.elem 36)) := by kernel_rfl
theorem wpList_ixA {ops : Array Oper} {rest : List Oper} {o : Oper} {a : Act} {w : World} {Q : Exit → Act → World → Prop} (hw : Region.wanted o (yielded ops a.tmps) = true) (x ix : Operand) (ho : o.op = .indexAddr 36 x ix) (gb go n cap i : Nat) (hx : a.eval x = .slice (some ⟨gb, go, none⟩) n cap) (hix : a.eval ix = .int .i64 (i : Int)) (hi : i < n)
    (h : wpList Tryd.prog ops Q rest (a.put o.dst (.pointer (some ⟨gb, go + i * 17, none⟩))) w) : wpList Tryd.prog ops Q (o :: rest) a w := by
  refine BigFrame.wpList_want hw fun K hK => ?_
  have he : Tryd.prog.elem 36 = 39 := by kernel_rfl
  have hsz : (sizeOf 39).run Tryd.prog w = .ok 17 w := by kernel_rfl
  unfold Oper.wp execOp
  simp only [ho, hx, hix, Sem.run_bind]
  rw [run_indexAt_slice w 36 ⟨gb, go, none⟩ n cap .i64 (i : Int) underAd, he, if_pos ⟨by omega, by omega⟩, hsz]
  simp only [Result.andThen, add_plain, Int.toNat_natCast]
  exact hK _ _ h
/-- The same net twice and more. -/
theorem may_rep (k : Nat) : mayL (List.replicate (k + 2) nC) = false := by
  cases h : mayL (List.replicate (k + 2) nC) with
  | false => rfl
  | true =>
    have h1 := (mayL_iff.1 h).2.2
    rw [show List.replicate (k + 2) nC = nC :: nC :: List.replicate k nC from rfl, List.pairwise_cons] at h1
    have h2 := h1.1 nC (by simp)
    revert h2
    decide +kernel
theorem may_one : mayL [nC] = true := by decide +kernel
theorem may_nil : mayL [] = true := by decide +kernel
theorem text_one : textP [nC] = [57, 57, 46, 57, 46, 48, 46, 48, 47, 49, 54, 32, 57, 10] := by decide +kernel
theorem ord_one {x : Rt} {S : List Rt} (h : IsOrd [x] S) : S = [x] := List.perm_singleton.1 h.1
namespace routeKeeps
theorem room_at {w : World} {g cap n : Nat} {L : List Rt} {x y : Rt} (hn : n = L.length) (h : LR w (.slice (some ⟨g, 0, none⟩) (n + 2) cap) (L ++ [x, y])) (j : Nat) {z : Rt} (hz : (L ++ [x, y])[n + j]? = some z) : w.rangeAt g ((n + j) * 19) (listD z) := by
  subst hn
  have h1 := h.1
  have e : L.length + 2 = (L ++ [x, y]).length := by simp
  rw [e] at h1
  have h2 := h1.at h.2 hz
  rwa [Nat.zero_add] at h2
set_option maxHeartbeats 16000000 in
theorem walk (a : Option Addr) (L : List Rt) (cap : Nat) (da : Option Addr) (D : List Ax) (dcap : Nat) (W : World) (hg : Glob W) (hr : Rd W (.slice a L.length cap) L) (hl : L.length ≤ 3518437208780) (hd : RowA W da D) (hdl : D.length ≤ 5864062014635) :
    Calls Tryd.prog 4 #[.slice a L.length cap, .slice da D.length dcap] W fun E w' => E = .returned (.bool true) ∧ Below W.heap.size W w' := by
  have HR := Lib.hid hr
  have HOK := Lib.hid hr.ok
  have HD := Lib.hid hd
  have HG := Lib.hid hg
  obtain ⟨n, hn⟩ : ∃ n, n = L.length := ⟨_, rfl⟩
  obtain ⟨m, hm⟩ : ∃ m, m = D.length := ⟨_, rfl⟩
  rw [← hn] at hl HR ⊢
  rw [← hm] at hdl ⊢
  have HN := Lib.hid hn
  have HM := Lib.hid hm
  have HOW := Lib.hid (own_c HR.out (by rw [← HN.out]; omega))
  have HNA := Lib.hid (fun w => net4_c 171 1 16 7 (by omega) (by omega) w)
  have HNB := Lib.hid (fun w => net4_c 172 1 16 7 (by omega) (by omega) w)
  have HNC := Lib.hid (fun w => net4_c 99 9 16 9 (by omega) (by omega) w)
  change Hid (∀ w, Calls Tryd.prog 12 _ w fun E w' => E = .returned (.agg (csD nA)) ∧ _) at HNA
  change Hid (∀ w, Calls Tryd.prog 12 _ w fun E w' => E = .returned (.agg (csD nB)) ∧ _) at HNB
  change Hid (∀ w, Calls Tryd.prog 12 _ w fun E w' => E = .returned (.agg (csD nC)) ∧ _) at HNC
  clear hr hd hg hn hm
  go_enter Tryd.func4, Tryd.ntmps4
  go_wp2_with (go_at_call 6; refine HOW.out.mono ?_; refine Hid.out ?_)
  refine Lib.hid ?_
  rintro E w1 ⟨v1, rfl, hown, hnew, haw⟩
  have HA := Lib.hid haw
  have HO1 := Lib.hid hown
  have HNW := Lib.hid hnew
  clear hown hnew haw HOW
  go_wp2_with (go_at_call 12; refine (HNA.out _).mono ?_; refine Hid.out ?_)
  refine Lib.hid ?_
  rintro E w2 ⟨rfl, haw⟩
  replace HA := Lib.hid (HA.out.trans haw)
  replace HO1 := Lib.hid (HO1.out.on haw)
  clear haw
  go_wp2_with (go_at_call 12; refine (HNB.out _).mono ?_; refine Hid.out ?_)
  refine Lib.hid ?_
  rintro E w3 ⟨rfl, haw⟩
  replace HA := Lib.hid (HA.out.trans haw)
  replace HO1 := Lib.hid (HO1.out.on haw)
  clear haw
  go_wp2_with (refine wpList_buildS2 rfl _ _ rfl nA nB rfl rfl nA_ok nB_ok ?_; refine Hid.out ?_)
  refine Lib.hid ?_
  intro gb w4 hgb hcl haw
  replace HA := Lib.hid (HA.out.trans haw)
  replace HO1 := Lib.hid (HO1.out.on haw)
  have HCL := Lib.hid hcl
  have HAB : Hid (∀ x ∈ [nA, nB], Okr x) := fun x hx => by
    simp only [List.mem_cons, List.not_mem_nil, or_false] at hx
    rcases hx with rfl | rfl
    · exact nA_ok
    · exact nB_ok
  clear haw hcl hgb
  go_wp2_with (refine wpList_appL rfl _ _ rfl v1 L rfl HO1.out ⟨gb, 0, none⟩ 2 2 rfl [nA, nB] rfl HAB.out HCL.out (by rw [← HN.out]; omega) ?_; refine Hid.out ?_)
  refine Lib.hid ?_
  intro v5 w5 hl5 hgr hmv
  have HNW5 := Lib.hid (HNW.out.moved hmv HA.out.size)
  replace HA := Lib.hid (HA.out.step hgr HNW.out)
  have HRM0 : LR w5 v5 (L ++ [nA, nB]) := ⟨hl5, fun x hx => by
    rw [List.mem_append] at hx
    rcases hx with hx | hx
    · exact HOK.out x hx
    · exact HAB.out x hx⟩
  obtain ⟨g5, c5, hv5⟩ : ∃ g c, v5 = .slice (some ⟨g, 0, none⟩) (n + 2) c := by
    rcases hl5.shp with ⟨-, h2⟩ | ⟨g, c, h2⟩
    · simp at h2
    · exact ⟨g, c, by rw [h2, HN.out]; simp⟩
  subst hv5
  obtain ⟨-, -, -, hc5, -, -⟩ := hl5.blk
  have HIN0 : LR w5 (.slice (some ⟨g5, 0, none⟩) n c5) L := by
    have h1 := HRM0.head (k := n) (by omega)
    rw [show (L ++ [nA, nB]).take n = L from by rw [HN.out]; simp] at h1
    exact h1
  have HG5 : Hid (W.heap.size ≤ g5) := HNW5.out g5 rfl
  have HL5 : Hid (g5 < w5.heap.size) := HIN0.lt g5 rfl
  have HRM := Lib.hid HRM0
  have HIN := Lib.hid HIN0
  have HNE := Lib.hid (new_c (HIN0.1.rd HOK.out) (by rw [← HN.out]; omega))
  have hsl := fun wx => slice_h (some ⟨g5, 0, none⟩) (n + 2) c5 n (n : Int) rfl (by omega) wx
  clear hl5 hgr hmv HRM0 HIN0 HNW5 HNW HO1 HCL
  go_wp2_with (go_at_call 5; refine HNE.out.mono ?_; refine Hid.out ?_)
  refine Lib.hid ?_
  rintro E w6 (⟨hm, rfl, haw⟩ | ⟨hm, gt, tw, S, rfl, ho, ht, hgt, htw, haw⟩)
  · have HMY := Lib.hid hm
    replace HA := Lib.hid (HA.out.trans haw)
    replace HRM := Lib.hid (HRM.out.on haw)
    replace HIN := Lib.hid (HIN.out.on haw)
    have HPR := Lib.hid (print_r (HIN.out.1.rd HOK.out) (by rw [← HN.out]; omega) (HG.out.aw HA.out))
    clear hm haw HNE hsl
    go_wp2_with (go_at_call 7; refine HPR.out.mono ?_; refine Hid.out ?_)
    refine Lib.hid ?_
    rintro E w7 ⟨⟨hm, rfl⟩ | ⟨hm, -⟩, haw⟩
    rotate_left
    · rw [HMY.out] at hm; simp at hm
    replace HA := Lib.hid (HA.out.trans haw)
    replace HRM := Lib.hid (HRM.out.on haw)
    replace HIN := Lib.hid (HIN.out.on haw)
    clear hm haw HPR
    have HC : Hid (∀ w', Away [] w7 w' → Away [] W w') := fun w' h => HA.out.trans h
    have HKN : Hid (∀ w', Away [] w7 w' → Calls Tryd.prog 8 #[] w' fun E w2 => E = .returned (.bool true) ∧ Away [] w7 w2) := fun w' h => (known_c w' (HG.out.aw (HC.out w' h))).mono (by rintro E w2 ⟨rfl, h2⟩; exact ⟨rfl, h.trans h2⟩)
    have HSM : Hid (∀ w', Away [] w7 w' → Calls Tryd.prog 10 #[.slice (some ⟨g5, 0, none⟩) n c5, .slice a n cap] w' fun E w2 => E = .returned (.bool true) ∧ Away [] w7 w2) := fun w' h => (same_yes ((HIN.out.on h).1.rd HOK.out) (HR.out.on (HC.out w' h)) (by rw [← HN.out]; omega)).mono (by rintro E w2 ⟨rfl, h2⟩; exact ⟨rfl, h.trans h2⟩)
    have HNA7 : Hid (∀ w', Away [] w7 w' → Calls Tryd.prog 12 #[.int .u8 171, .int .u8 1, .int .i64 16, .int .i64 7] w' fun E w2 => E = .returned (.agg (csD nA)) ∧ Away [] w7 w2) := fun w' h => (HNA.out w').mono (by rintro E w2 ⟨rfl, h2⟩; exact ⟨rfl, h.trans h2⟩)
    have HNB7 : Hid (∀ w', Away [] w7 w' → Calls Tryd.prog 12 #[.int .u8 172, .int .u8 1, .int .i64 16, .int .i64 7] w' fun E w2 => E = .returned (.agg (csD nB)) ∧ Away [] w7 w2) := fun w' h => (HNB.out w').mono (by rintro E w2 ⟨rfl, h2⟩; exact ⟨rfl, h.trans h2⟩)
    have HRA : Hid (∀ w', Away [] w7 w' → w'.rangeAt g5 (n * 19) (listD nA)) := fun w' h => room_at HN.out (HRM.out.on h) 0 (by rw [HN.out]; simp)
    have HRB : Hid (∀ w', Away [] w7 w' → w'.rangeAt g5 ((n + 1) * 19) (listD nB)) := fun w' h => room_at HN.out (HRM.out.on h) 1 (by rw [HN.out]; simp)
    have hwn : IntKind.i64.wrap ((n : Int) + 1) = (n : Int) + 1 := by rw [IntKind.wrap_i64]; omega
    have hqa := fun w => eqR_self nA nA_ok w
    have hqb := fun w => eqR_self nB nB_ok w
    have hgd := guardR
    go_wp2_with fail
    refine wp_region_cls (C := fun w' => Away [] w7 w') (by kernel_rfl) (by kernel_rfl) (by exact (Away.refl _ _).drew) ?_
    repeat (first
      | go_big_quiet_skip
      | (go_big_quiet_want
         first
           | (refine quiet_call 8 #[] (.bool true) ?_ HKN.out ?_; (focus (intro w; go_simp; done)); go_simp; go_big_quiet_on)
           | (refine quiet_call 10 #[.slice (some ⟨g5, 0, none⟩) n c5, .slice a n cap] (.bool true) ?_ HSM.out ?_; (focus (intro w; go_simp; done)); go_simp; go_big_quiet_on)
           | (refine quiet_call 12 #[.int .u8 171, .int .u8 1, .int .i64 16, .int .i64 7] (.agg (csD nA)) ?_ HNA7.out ?_; (focus (intro w; go_simp; done)); go_simp; go_big_quiet_on)
           | (refine quiet_call 12 #[.int .u8 172, .int .u8 1, .int .i64 16, .int .i64 7] (.agg (csD nB)) ?_ HNB7.out ?_; (focus (intro w; go_simp; done)); go_simp; go_big_quiet_on)
           | (refine quiet_ixR _ _ rfl g5 0 (n + 2) c5 n _ rfl rfl rfl (by omega) ?_; go_simp; go_big_quiet_on)
           | (refine quiet_ixR _ _ rfl g5 0 (n + 2) c5 (n + 1) _ rfl rfl (by omega) (by omega) ?_; go_simp; go_big_quiet_on)
           | (refine quiet_ldR _ rfl g5 (n * 19) rfl nA nA_ok HRA.out ?_; go_simp; go_big_quiet_on)
           | (refine quiet_ldR _ rfl g5 ((n + 1) * 19) rfl nB nB_ok HRB.out ?_; go_simp; go_big_quiet_on)
           | (go_big_quiet_op; go_big_quiet_on)
           | (refine quiet_val ?_ ?_ ?_
              rotate_left
              · intro w; go_simp; rfl
              go_simp; go_big_quiet_on)))
    refine wpQuiet_nil ?_
    intro w8 hV
    have HV := Lib.hid hV
    clear hV HKN HSM HNA7 HNB7 HRA HRB hwn hqa hqb hgd HC
    replace HA := Lib.hid (HA.out.trans HV.out)
    go_wp2_with fail
    go_ret
    exact ⟨rfl, HA.out.to_below⟩
  · have HMY := Lib.hid hm
    have HO := Lib.hid ho
    have H5 := Lib.hid (Away.refl [] w5)
    have HT := Lib.hid ht
    have HGT : Hid (w5.heap.size ≤ gt) := hgt
    have HTW : Hid (New w5.heap.size tw) := htw
    replace HA := Lib.hid (HA.out.trans haw)
    replace H5 := Lib.hid (H5.out.trans haw)
    replace HRM := Lib.hid (HRM.out.on haw)
    replace HIN := Lib.hid (HIN.out.on haw)
    have HPR := Lib.hid (print_r (HIN.out.1.rd HOK.out) (by rw [← HN.out]; omega) (HG.out.aw HA.out))
    clear hm haw HNE hsl ho ht hgt htw
    go_wp2_with (go_at_call 7; refine HPR.out.mono ?_; refine Hid.out ?_)
    refine Lib.hid ?_
    rintro E w7 ⟨⟨hm, -⟩ | ⟨hm, S', ho', rfl⟩, haw⟩
    · rw [HMY.out] at hm; simp at hm
    obtain rfl := ord_uniq (fun x hx => HOK.out x (HO.out.1.mem_iff.1 hx)) (HO.out.1.trans ho'.1.symm) HO.out.2 ho'.2
    replace HA := Lib.hid (HA.out.trans haw)
    replace H5 := Lib.hid (H5.out.trans haw)
    replace HRM := Lib.hid (HRM.out.on haw)
    replace HIN := Lib.hid (HIN.out.on haw)
    replace HT := Lib.hid (HT.out.on haw)
    have HOKS := Lib.hid HT.out.ok
    have HMS : Hid (mayL S = true) := by show _ = _; rw [mayL_perm HO.out.1]; exact HMY.out
    have HSL := Lib.hid HT.out.len
    have HN32 : n ≤ 32 := by have h1 := HO.out.1.length_eq; have h2 := HSL.out; rw [← HN.out] at h1; omega
    have HTL : Hid ((textP S).length ≤ 4294967280) := by
      show _ ≤ _
      have h1 := text_len S (fun y hy => ⟨HOKS.out y hy, (mayL_iff.1 HMS.out).2.1 y hy⟩)
      have h2 := HSL.out
      omega
    have HPP := Lib.hid (fun w hg => parse_r (textP S) HTL.out w hg)
    rw [parse_text HOK.out HMY.out HO.out] at HPP
    obtain ⟨tx, htx⟩ : ∃ t, t = textP S := ⟨_, rfl⟩
    rw [← htx] at HPP ⊢
    clear hm ho' haw HPR htx HTL HMS HO HMY
    have HC : Hid (∀ w', Away [] w7 w' → Away [] W w') := fun w' h => HA.out.trans h
    have HKN : Hid (∀ w', Away [] w7 w' → Calls Tryd.prog 8 #[] w' fun E w2 => E = .returned (.bool true) ∧ Away [] w7 w2) := fun w' h => (known_c w' (HG.out.aw (HC.out w' h))).mono (by rintro E w2 ⟨rfl, h2⟩; exact ⟨rfl, h.trans h2⟩)
    have HSM : Hid (∀ w', Away [] w7 w' → Calls Tryd.prog 10 #[.slice (some ⟨g5, 0, none⟩) n c5, .slice a n cap] w' fun E w2 => E = .returned (.bool true) ∧ Away [] w7 w2) := fun w' h => (same_yes ((HIN.out.on h).1.rd HOK.out) (HR.out.on (HC.out w' h)) (by rw [← HN.out]; omega)).mono (by rintro E w2 ⟨rfl, h2⟩; exact ⟨rfl, h.trans h2⟩)
    have HNA7 : Hid (∀ w', Away [] w7 w' → Calls Tryd.prog 12 #[.int .u8 171, .int .u8 1, .int .i64 16, .int .i64 7] w' fun E w2 => E = .returned (.agg (csD nA)) ∧ Away [] w7 w2) := fun w' h => (HNA.out w').mono (by rintro E w2 ⟨rfl, h2⟩; exact ⟨rfl, h.trans h2⟩)
    have HNB7 : Hid (∀ w', Away [] w7 w' → Calls Tryd.prog 12 #[.int .u8 172, .int .u8 1, .int .i64 16, .int .i64 7] w' fun E w2 => E = .returned (.agg (csD nB)) ∧ Away [] w7 w2) := fun w' h => (HNB.out w').mono (by rintro E w2 ⟨rfl, h2⟩; exact ⟨rfl, h.trans h2⟩)
    have HRA : Hid (∀ w', Away [] w7 w' → w'.rangeAt g5 (n * 19) (listD nA)) := fun w' h => room_at HN.out (HRM.out.on h) 0 (by rw [HN.out]; simp)
    have HRB : Hid (∀ w', Away [] w7 w' → w'.rangeAt g5 ((n + 1) * 19) (listD nB)) := fun w' h => room_at HN.out (HRM.out.on h) 1 (by rw [HN.out]; simp)
    have hwn : IntKind.i64.wrap ((n : Int) + 1) = (n : Int) + 1 := by rw [IntKind.wrap_i64]; omega
    have hqa := fun w => eqR_self nA nA_ok w
    have hqb := fun w => eqR_self nB nB_ok w
    have hgd := guardR
    go_wp2_with fail
    refine wp_region_cls (C := fun w' => Away [] w7 w') (by kernel_rfl) (by kernel_rfl) (by exact (Away.refl _ _).drew) ?_
    repeat (first
      | go_big_quiet_skip
      | (go_big_quiet_want
         first
           | (refine quiet_call 8 #[] (.bool true) ?_ HKN.out ?_; (focus (intro w; go_simp; done)); go_simp; go_big_quiet_on)
           | (refine quiet_call 10 #[.slice (some ⟨g5, 0, none⟩) n c5, .slice a n cap] (.bool true) ?_ HSM.out ?_; (focus (intro w; go_simp; done)); go_simp; go_big_quiet_on)
           | (refine quiet_call 12 #[.int .u8 171, .int .u8 1, .int .i64 16, .int .i64 7] (.agg (csD nA)) ?_ HNA7.out ?_; (focus (intro w; go_simp; done)); go_simp; go_big_quiet_on)
           | (refine quiet_call 12 #[.int .u8 172, .int .u8 1, .int .i64 16, .int .i64 7] (.agg (csD nB)) ?_ HNB7.out ?_; (focus (intro w; go_simp; done)); go_simp; go_big_quiet_on)
           | (refine quiet_ixR _ _ rfl g5 0 (n + 2) c5 n _ rfl rfl rfl (by omega) ?_; go_simp; go_big_quiet_on)
           | (refine quiet_ixR _ _ rfl g5 0 (n + 2) c5 (n + 1) _ rfl rfl (by omega) (by omega) ?_; go_simp; go_big_quiet_on)
           | (refine quiet_ldR _ rfl g5 (n * 19) rfl nA nA_ok HRA.out ?_; go_simp; go_big_quiet_on)
           | (refine quiet_ldR _ rfl g5 ((n + 1) * 19) rfl nB nB_ok HRB.out ?_; go_simp; go_big_quiet_on)
           | (go_big_quiet_op; go_big_quiet_on)
           | (refine quiet_val ?_ ?_ ?_
              rotate_left
              · intro w; go_simp; rfl
              go_simp; go_big_quiet_on)))
    refine wpQuiet_nil ?_
    intro w8 hV
    have HV := Lib.hid hV
    clear hV HKN HSM HNA7 HNB7 HRA HRB hwn hqa hqb hgd HC
    replace HA := Lib.hid (HA.out.trans HV.out)
    replace HT := Lib.hid (HT.out.on HV.out)
    replace HIN := Lib.hid (HIN.out.on HV.out)
    have HSZ : Hid (w5.heap.size ≤ w7.heap.size ∧ w7.heap.size ≤ w8.heap.size ∧ W.heap.size ≤ w8.heap.size) := ⟨H5.out.size, HV.out.size, HA.out.size⟩
    clear HRM HV H5
    obtain ⟨B, hB⟩ : ∃ B, B = w8.heap.size := ⟨_, rfl⟩
    have HB := Lib.hid hB
    clear hB
    have HTB : Hid (gt < B ∧ ∀ k, tw.ownBlock = some k → k < B) := ⟨by rw [HB.out]; exact lt_of_block HT.out.box, fun k hk => by rw [HB.out]; exact HT.out.lst.lt k hk⟩
    have HG5B : Hid (g5 < B) := by show _ < _; rw [HB.out]; have := HL5.out; have := HSZ.out; omega
    go_wp2_with fail
    go_loopw [11, 12, 13] (fun kv wv x wr => ∃ (i : Nat) (V U : List Held), x = .int .i64 (i : Int) ∧ i ≤ 3 ∧ Kw B wr kv wv V U ∧ V.length = 2 * i ∧ U.length = 2 * i ∧ (∀ t ∈ V ++ U, t.l = S) ∧ Away [] w8 wr) (fun _ _ x _ => 3 - (intOf x).toNat)
    case atStart => exact ⟨0, [], [], rfl, by omega, Kw.start _ _, rfl, rfl, by simp, Away.refl _ _⟩
    case round =>
      obtain ⟨i, V, U, rfl, hi, hkw, hV, hU, hS, haw⟩ := hrel
      have HKW := Lib.hid hkw
      have HAW := Lib.hid haw
      have HS := Lib.hid hS
      have HV := Lib.hid hV
      have HU := Lib.hid hU
      have HBW : Hid (B ≤ wr.heap.size) := by show _ ≤ _; rw [HB.out]; exact haw.size
      clear hkw haw hS hV hU
      by_cases hi3 : i < 3
      · have j1 : (i : Int) < 3 := by omega
        have HAL := Lib.hid (all_c (HT.out.on HAW.out))
        go_wp2_with (go_at_call 11; refine HAL.out.mono ?_; refine Hid.out ?_)
        refine Lib.hid ?_
        rintro E x1 ⟨va, rfl, hown, hnew, haw⟩
        have HFA := Lib.hid (HKW.out.free hnew)
        have HLA : Hid (LR x1 va S) := ⟨hown, HOKS.out⟩
        have HNVA : Hid (New B va) := hnew.mono HBW.out
        replace HKW := Lib.hid (HKW.out.on haw)
        replace HAW := Lib.hid (HAW.out.trans haw)
        have hsx := haw.size
        clear hown hnew haw HAL
        go_wp2_with (go_at_call 9; refine (HPP.out _ (HG.out.aw (HA.out.trans HAW.out))).mono ?_; refine Hid.out ?_)
        refine Lib.hid ?_
        rintro E x2 ⟨vb, rfl, hown, hnew, haw⟩
        dsimp only at hown ⊢
        have HFB := Lib.hid (HKW.out.free hnew)
        have HLB : Hid (LR x2 vb S) := ⟨hown, HOKS.out⟩
        have HNVB : Hid (New B vb) := hnew.mono (Nat.le_trans HBW.out hsx)
        have HSEP : Hid (Sep va.ownBlock.toList vb.ownBlock.toList) := fun z hz hc => by
          have h1 := HLA.out.lt z (by simpa using hz)
          have h2 := hnew z (by simpa using hc)
          omega
        replace HKW := Lib.hid (HKW.out.on haw)
        replace HLA := Lib.hid (HLA.out.on haw)
        replace HAW := Lib.hid (HAW.out.trans haw)
        have hsy := haw.size
        have HSA : Hid (∃ b n c, va = .slice b n c) := by obtain ⟨b, c, h1, -⟩ := HLA.out.1.sl; exact ⟨b, _, c, h1⟩
        have HSB : Hid (∃ b n c, vb = .slice b n c) := by obtain ⟨b, c, h1, -⟩ := HLB.out.1.sl; exact ⟨b, _, c, h1⟩
        clear hown hnew haw
        go_wp2_with (refine wpList_buildV2 rfl _ _ rfl va vb rfl rfl HSA.out HSB.out ?_; refine Hid.out ?_)
        refine Lib.hid ?_
        intro gb x3 hgb hcl haw
        have HCL := Lib.hid hcl
        replace HKW := Lib.hid (HKW.out.on haw)
        replace HLA := Lib.hid (HLA.out.on haw)
        replace HLB := Lib.hid (HLB.out.on haw)
        replace HAW := Lib.hid (HAW.out.trans haw)
        have HB3 : Hid (B ≤ x3.heap.size) := Nat.le_trans HBW.out (Nat.le_trans hsx (Nat.le_trans hsy haw.size))
        have HONE : Hid (∀ u ∈ [va, vb], u.oneCell' = true) := fun u hu => by
          obtain ⟨b, n, c, e⟩ := HSA.out
          obtain ⟨b', n', c', e'⟩ := HSB.out
          simp only [List.mem_cons, List.not_mem_nil, or_false] at hu
          rcases hu with rfl | rfl
          · rw [e]; rfl
          · rw [e']; rfl
        have HVL : Hid ((V.map Held.v).length + 2 ≤ 1000000000) := by show _ ≤ _; have := HV.out; rw [List.length_map]; omega
        clear hcl haw hgb hsx hsy HSA HSB
        go_wp2_with (refine wpList_appV rfl _ _ rfl _ (V.map Held.v) [va, vb] rfl (by exact HKW.out.kl) ⟨gb, 0, none⟩ 2 2 rfl rfl HCL.out HONE.out HVL.out ?_; refine Hid.out ?_)
        refine Lib.hid ?_
        intro kv x4 hlv haw hmv
        have HNK := Lib.hid HKW.out.new.2.1
        replace HAW := Lib.hid (HAW.out.next haw (fun z hz => .inr (by rw [← HB.out]; exact HNK.out z (by simpa using hz))))
        replace HKW := Lib.hid (HKW.out.putV (a := ⟨va, S⟩) (b := ⟨vb, S⟩) HB3.out HLA.out HLB.out HFA.out HFB.out HSEP.out HNVA.out HNVB.out hlv haw hmv)
        replace HB3 : Hid (B ≤ x4.heap.size) := Nat.le_trans HB3.out haw.size
        have HO1 := Lib.hid (own_c ((HKW.out.own ⟨va, S⟩ (by simp)).1.rd HOKS.out) (by show S.length ≤ _; have := HSL.out; omega))
        clear hlv haw hmv HLA HLB HFA HFB HSEP HNVA HNVB HCL HONE HVL HNK
        go_wp2_with (go_at_call 6; refine HO1.out.mono ?_; refine Hid.out ?_)
        refine Lib.hid ?_
        rintro E x5 ⟨vc, rfl, hown, hnew, haw⟩
        have HFA := Lib.hid (HKW.out.free hnew)
        have HLA : Hid (LR x5 vc S) := ⟨hown, HOKS.out⟩
        have HNVA : Hid (New B vc) := hnew.mono HB3.out
        replace HKW := Lib.hid (HKW.out.on haw)
        replace HAW := Lib.hid (HAW.out.trans haw)
        replace HB3 : Hid (B ≤ x5.heap.size) := Nat.le_trans HB3.out haw.size
        replace HO1 := Lib.hid (own_c ((HKW.out.own ⟨vb, S⟩ (by simp)).1.rd HOKS.out) (by show S.length ≤ _; have := HSL.out; omega))
        clear hown hnew haw
        go_wp2_with (go_at_call 6; refine HO1.out.mono ?_; refine Hid.out ?_)
        refine Lib.hid ?_
        rintro E x6 ⟨vd, rfl, hown, hnew, haw⟩
        have HFB := Lib.hid (HKW.out.free hnew)
        have HLB : Hid (LR x6 vd S) := ⟨hown, HOKS.out⟩
        have HNVB : Hid (New B vd) := hnew.mono HB3.out
        replace HKW := Lib.hid (HKW.out.on haw)
        replace HLA := Lib.hid (HLA.out.on haw)
        replace HAW := Lib.hid (HAW.out.trans haw)
        replace HB3 : Hid (B ≤ x6.heap.size) := Nat.le_trans HB3.out haw.size
        have HSA : Hid (∃ b n c, vc = .slice b n c) := by obtain ⟨b, c, h1, -⟩ := HLA.out.1.sl; exact ⟨b, _, c, h1⟩
        have HSB : Hid (∃ b n c, vd = .slice b n c) := by obtain ⟨b, c, h1, -⟩ := HLB.out.1.sl; exact ⟨b, _, c, h1⟩
        clear hown hnew haw HO1
        go_wp2_with (refine wpList_buildV2 rfl _ _ rfl vc vd rfl rfl HSA.out HSB.out ?_; refine Hid.out ?_)
        refine Lib.hid ?_
        intro gc x7 hgb hcl haw
        have HCL := Lib.hid hcl
        replace HKW := Lib.hid (HKW.out.on haw)
        replace HLA := Lib.hid (HLA.out.on haw)
        replace HLB := Lib.hid (HLB.out.on haw)
        replace HAW := Lib.hid (HAW.out.trans haw)
        replace HB3 : Hid (B ≤ x7.heap.size) := Nat.le_trans HB3.out haw.size
        have HONE : Hid (∀ u ∈ [vc, vd], u.oneCell' = true) := fun u hu => by
          obtain ⟨b, n, c, e⟩ := HSA.out
          obtain ⟨b', n', c', e'⟩ := HSB.out
          simp only [List.mem_cons, List.not_mem_nil, or_false] at hu
          rcases hu with rfl | rfl
          · rw [e]; rfl
          · rw [e']; rfl
        have HVL : Hid ((U.map Held.v).length + 2 ≤ 1000000000) := by show _ ≤ _; have := HU.out; rw [List.length_map]; omega
        clear hcl haw hgb HSA HSB
        go_wp2_with (refine wpList_appV rfl _ _ rfl _ (U.map Held.v) [vc, vd] rfl (by exact HKW.out.wl) ⟨gc, 0, none⟩ 2 2 rfl rfl HCL.out HONE.out HVL.out ?_; refine Hid.out ?_)
        refine Lib.hid ?_
        intro wv x8 hlv haw hmv
        have HNK := Lib.hid HKW.out.new.2.2
        replace HAW := Lib.hid (HAW.out.next haw (fun z hz => .inr (by rw [← HB.out]; exact HNK.out z (by simpa using hz))))
        replace HKW := Lib.hid (HKW.out.putU (a := ⟨vc, S⟩) (b := ⟨vd, S⟩) HB3.out HLA.out HLB.out HFA.out HFB.out HNVA.out HNVB.out hlv haw hmv)
        have HS2 : Hid (∀ t ∈ (V ++ [⟨va, S⟩, ⟨vb, S⟩]) ++ (U ++ [⟨vc, S⟩, ⟨vd, S⟩]), t.l = S) := fun t ht => by
          simp only [List.mem_append, List.mem_cons, List.not_mem_nil, or_false] at ht
          rcases ht with (ht | rfl | rfl) | ht | rfl | rfl
          · exact HS.out t (by simp [ht])
          · rfl
          · rfl
          · exact HS.out t (by simp [ht])
          · rfl
          · rfl
        have HV2 : Hid ((V ++ [(⟨va, S⟩ : Held), ⟨vb, S⟩]).length = 2 * (i + 1)) := by show _ = _; rw [List.length_append, HV.out]; simp; omega
        have HU2 : Hid ((U ++ [(⟨vc, S⟩ : Held), ⟨vd, S⟩]).length = 2 * (i + 1)) := by show _ = _; rw [List.length_append, HU.out]; simp; omega
        clear hlv haw hmv HLA HLB HFA HFB HNVA HNVB HCL HONE HVL HNK HB3
        go_wp2_with fail
        go_roundw
        case rel => exact ⟨i + 1, _, _, by go_num, by omega, HKW.out, HV2.out, HU2.out, HS2.out, HAW.out⟩
        case measure => simp [intOf]; omega
      · obtain rfl : i = 3 := by omega
        obtain ⟨w9, hw9⟩ : ∃ z, z = wr := ⟨_, rfl⟩
        subst hw9
        have HLS : Hid (w8.heap.size ≤ w9.heap.size) := HAW.out.size
        replace HT := Lib.hid (HT.out.on HAW.out)
        replace HIN := Lib.hid (HIN.out.on HAW.out)
        replace HA := Lib.hid (HA.out.trans HAW.out)
        clear HAW hi3 hi HPP
        obtain ⟨Z, hZ⟩ : ∃ Z, Z = D.map (fun y => (findA y.v y.l S).1) := ⟨_, rfl⟩
        have HZ : Hid (∀ (i : Nat) (x : Ax), D[i]? = some x → Z[i]? = some (findA x.v x.l S).1) := fun i x hx => by rw [hZ, List.getElem?_map, hx]; rfl
        have HZL : Hid (Z.length = m) := by show _ = _; rw [hZ, List.length_map, HM.out]
        clear hZ
        go_wp2_with fail
        go_loopw [17, 18] (fun lv x wr => ∃ i : Nat, x = .int .i64 (i : Int) ∧ i ≤ m ∧ LstI wr lv (Z.take i) ∧ New w9.heap.size lv ∧ Away [] w9 wr) (fun _ x _ => m - (intOf x).toNat)
        case atStart => exact ⟨0, rfl, by omega, by simpa using LstI.nil _, New.nil _, Away.refl _ _⟩
        case round =>
          obtain ⟨i, rfl, hi, hli, hnw, haw⟩ := hrel
          have HLI := Lib.hid hli
          have HLN := Lib.hid hnw
          have HAW := Lib.hid haw
          clear hli hnw haw
          by_cases him : i < m
          · have i1 : decide (i < m) = true := by simp; omega
            have i0 : (i : Int) < (m : Int) := by omega
            obtain ⟨x, hx, hxm⟩ := get_of (show i < D.length by rw [← HM.out]; omega)
            obtain ⟨db, do_, hda, hxr, hxo⟩ := HD.out.at hx
            subst hda
            have HXO := Lib.hid hxo
            have HXR := Lib.hid (range_away (HA.out.trans HAW.out) (by simp) hxr)
            have HF1 := Lib.hid (find_c (HT.out.on HAW.out) x.v x.l hxo.1)
            obtain ⟨⟨r1, r2⟩, hrr⟩ : ∃ r, r = findA x.v x.l S := ⟨_, rfl⟩
            rw [← hrr] at HF1
            have HTK : Hid (Z.take (i + 1) = Z.take i ++ [r1]) := by
              show _ = _
              rw [List.take_add_one, HZ.out i x hx, ← hrr]
              rfl
            clear hx hxm hxr hxo him hrr
            go_wp2_with (first
              | (refine wpList_ixA rfl _ _ rfl db do_ m dcap i rfl rfl (by omega) ?_)
              | (refine wpList_load32m rfl _ rfl db (do_ + i * 17) rfl x.v x.l HXO.out.1 HXR.out ?_)
              | (go_at_call 13; refine HF1.out.mono ?_; refine Hid.out ?_))
            refine Lib.hid ?_
            first
              | rintro E x1 rfl haw
              | rintro E x1 ⟨rfl, haw⟩
            replace HAW := Lib.hid (HAW.out.trans haw)
            replace HLI := Lib.hid (HLI.out.on haw)
            clear haw HF1 HXR
            go_wp2_with (refine wpList_buildI rfl _ rfl r1 rfl ?_; refine Hid.out ?_)
            refine Lib.hid ?_
            intro gb x2 hgb hcl haw
            replace HAW := Lib.hid (HAW.out.trans haw)
            replace HLI := Lib.hid (HLI.out.on haw)
            have HCL := Lib.hid hcl
            have HLL : Hid ((Z.take i).length ≤ 5864062014700) := by show _ ≤ _; rw [List.length_take]; have := HZL.out; omega
            clear haw hcl hgb
            go_wp2_with (refine wpList_appI rfl _ _ rfl _ (Z.take i) r1 rfl (by exact HLI.out) ⟨gb, 0, none⟩ 1 rfl HCL.out HLL.out ?_; refine Hid.out ?_)
            refine Lib.hid ?_
            intro lv x3 hlv haw hmv
            have hsx := HAW.out.size
            replace HAW := Lib.hid (HAW.out.next haw (fun z hz => .inr (HLN.out z (by simpa using hz))))
            have HLN2 := Lib.hid (HLN.out.moved hmv hsx)
            replace HLI : Hid (LstI x3 lv (Z.take (i + 1))) := by rw [HTK.out]; exact hlv
            clear haw hmv hlv HCL HLL HTK hsx
            go_wp2_with fail
            go_roundw
            case rel => first | exact ⟨i + 1, by go_num, by omega, HLI.out, HLN2.out, HAW.out⟩ | exact ⟨_, _, _, _, _, _, _, _, _, _, _, _, _, _, _, _, _, _, _, _, _, _, _, ⟨i + 1, by go_num, by omega, HLI.out, HLN2.out, HAW.out⟩, rfl⟩
            case measure => simp [intOf]; omega
          · obtain rfl : i = m := by omega
            replace HLI : Hid (LstI wr u17 Z) := by
              have h1 := HLI.out
              rw [← HZL.out, List.take_length] at h1
              exact h1
            have i1 : decide (i < i) = false := by simp
            obtain ⟨w10, hw10⟩ : ∃ z, z = wr := ⟨_, rfl⟩
            subst hw10
            have HKA := Lib.hid (HKW.out.on HAW.out)
            replace HT := Lib.hid (HT.out.on HAW.out)
            replace HIN := Lib.hid (HIN.out.on HAW.out)
            replace HA := Lib.hid (HA.out.trans HAW.out)
            clear HAW him hi
            go_wp2_with fail
            go_loopw [21] (fun x wr => ∃ k : Nat, x = .int .i64 (k : Int) ∧ k ≤ n ∧ LR wr (.slice (some ⟨g5, 0, none⟩) n c5) (fillP nC k L) ∧ Away [g5] w10 wr) (fun x _ => n - (intOf x).toNat)
            case atStart => exact ⟨0, rfl, by omega, by rw [fill_zero]; exact HIN.out, Away.refl _ _⟩
            case round =>
              obtain ⟨k, rfl, hk, hlr, haw⟩ := hrel
              have HLR := Lib.hid hlr
              have HAW := Lib.hid haw
              clear hlr haw
              by_cases hkn : k < n
              · have l1 : decide (k < n) = true := by simp; omega
                have l2 : 0 ≤ (k : Int) := by omega
                have l3 : (k : Int) < (n : Int) := by omega
                have l4 : ((k : Int)).toNat = k := by omega
                go_wp2_with (go_at_call 12; refine (HNC.out _).mono ?_; refine Hid.out ?_)
                refine Lib.hid ?_
                rintro E x1 ⟨rfl, haw⟩
                replace HAW := Lib.hid (HAW.out.trans (haw.mono (by simp)))
                replace HLR := Lib.hid (HLR.out.on haw)
                clear haw
                go_wp2_with (refine wpList_putR rfl _ _ rfl g5 n c5 k rfl _ nC nC_ok rfl HLR.out hkn ?_; refine Hid.out ?_)
                refine Lib.hid ?_
                intro x2 hlr haw
                replace HAW := Lib.hid (HAW.out.trans haw)
                rw [fill_step (by rw [← HN.out]; exact hkn)] at hlr
                replace HLR := Lib.hid hlr
                clear haw hlr
                go_wp2_with fail
                go_roundw
                case rel => first | exact ⟨k + 1, by go_num, by omega, HLR.out, HAW.out⟩ | exact ⟨_, _, _, _, _, _, _, _, _, _, _, ⟨k + 1, by go_num, by omega, HLR.out, HAW.out⟩, rfl⟩
                case measure => simp [intOf]; omega
              · obtain rfl : k = n := by omega
                have l1 : decide (k < k) = false := by simp
                obtain ⟨w11, hw11⟩ : ∃ z, z = wr := ⟨_, rfl⟩
                subst hw11
                rw [fill_all HN.out.symm] at HLR
                have HG9 : Hid (g5 < w9.heap.size) := by show _ < _; have := HG5B.out; rw [HB.out] at this; have := HLS.out; omega
                have HKB := Lib.hid (HKA.out.low HAW.out (by simpa using HG5B.out))
                replace HT := Lib.hid (HT.out.away HAW.out (by simp; have := HGT.out; have := HL5.out; omega) (fun z hz => by simp; have := HTW.out z hz; have := HL5.out; omega))
                replace HLI := Lib.hid (HLI.out.away HAW.out (fun z hz => by simp; have := HLN.out z hz; have := HG9.out; omega))
                replace HA : Hid (Away [] W w11) := HA.out.next HAW.out (fun z hz => .inr (by simp at hz; subst hz; exact HG5.out))
                obtain ⟨s0, hs0⟩ : ∃ s, U[0]? = some s := ⟨U[0]'(by rw [HU.out]; omega), by simp [HU.out]⟩
                have HS0 := Lib.hid hs0
                have hsS : s0.l = S := HS.out s0 (by have := List.mem_of_getElem? hs0; simp [this])
                obtain ⟨wa, wc, hwe, -, -, hwx⟩ := HKB.out.wl.shape
                obtain ⟨g12, rfl, c12⟩ := hwx 0 s0.v (by rw [List.getElem?_map, hs0]; rfl)
                rw [List.length_map, HU.out] at hwe
                subst hwe
                have hls0 := HKB.out.own s0 (by have := List.mem_of_getElem? hs0; simp [this])
                obtain ⟨sa, sc, hse, -⟩ := hls0.1.sl
                rw [hsS] at hse
                obtain ⟨sl, hsl⟩ : ∃ z, z = S.length := ⟨_, rfl⟩
                rw [← hsl] at hse
                rw [hse] at c12
                have HSE := Lib.hid hse
                have HSSL := Lib.hid hsl
                have HC12 := Lib.hid c12
                have HSS := Lib.hid hsS
                have HLN9 : Hid (∀ z ∈ mkd V U, z < w9.heap.size) := fun z hz => by
                  obtain ⟨t, ht, h1⟩ := mkd_mem hz
                  exact (HKW.out.own t (by simp [ht])).lt z h1
                have HMN := Lib.hid HKB.out.mkd_new
                have KM : Hid (∀ w', Away [] w11 w' → Calls Tryd.prog 14 #[u11, .slice (some ⟨g12, 0, none⟩) (2 * 3) wc] w' fun E w2 => E = .returned (.bool true) ∧ Away (mkd V U) w11 w2) := fun w' hw' =>
                  (marked_c w' _ _ (zipK V U) ((HKB.out.on hw').bag (by rw [HV.out, HU.out]) HS.out HSL.out) (by
                    have h1 := congrArg List.length (zip_v (V := V) (U := U) (by rw [HV.out, HU.out]))
                    rw [List.length_map, List.length_map, HV.out] at h1
                    omega)).mono (by rintro E w2 ⟨rfl, h2⟩; exact ⟨rfl, (hw'.mono (by simp)).trans h2⟩)
                have KA : Hid (∀ w', Away (mkd V U) w11 w' → Calls Tryd.prog 11 #[.pointer (some ⟨gt, 0, none⟩)] w' (OwnOut w' S)) := fun w' hw' => all_c (HT.out.away hw' (fun hc => by have := HMN.out gt hc; have := HTB.out.1; omega) (fun z hz hc => by have := HMN.out z hc; have := HTB.out.2 z hz; omega))
                have HFS : Hid (∀ w', Away (mkd V U) w11 w' → LR w' (.slice sa sl sc) S ∧ w'.cell? ⟨g12, 0, none⟩ = some (.slice sa sl sc)) := fun w' hw' => by
                  obtain ⟨h1, h2⟩ := HKB.out.first hw' HS0.out
                  rw [HSE.out, HSS.out] at h1
                  refine ⟨h1, ?_⟩
                  obtain ⟨a', c', e', -, -, hx'⟩ := h2.shape
                  obtain ⟨g', e2, c2⟩ := hx' 0 s0.v (by rw [List.getElem?_map, HS0.out]; rfl)
                  rw [e2] at e'
                  simp only [Value.slice.injEq, Option.some.injEq, Addr.mk.injEq] at e'
                  rw [← e'.1.1, HSE.out] at c2
                  exact c2
                clear hs0 hsS hwx hls0 hse hsl HKA HKW HAW hkn hk
                go_wp2_with fail
                go_region_held3 (fun w' => w'.cell? ⟨g12, 0, none⟩ = some (.slice sa sl sc)) (go_keep)
                  (first
                    | (go_at_call 14; refine (KM.out _ (by first | exact (Away.refl [] w11).drew | exact (Away.refl [] w11).drewN _ | exact Away.refl [] w11)).mono ?_; rintro E y1 ⟨rfl, haw1⟩; have z0 := (HFS.out y1 haw1).2)
                    | (go_at_call 11; refine (KA.out _ (by first | exact haw1 | exact haw1.drew)).mono ?_; rintro E y2 ⟨vz, rfl, hown2, hnew2, haw2⟩; have z1 := haw2.cell (by simp) z0; obtain ⟨za, zc, rfl, hzc⟩ := hown2.sl; rw [← HSSL.out])
                    | (go_at_call 10; refine (same_yes (L := S) (by rw [HSSL.out]; exact hown2.rd HOKS.out) (by exact (((HFS.out y1 haw1).1.on haw2).1.rd HOKS.out)) (by have := HSL.out; omega)).mono ?_; rintro E y3 ⟨rfl, haw3⟩; have z3 := haw3.cell (by simp) z1))
                all_goals
                  have HAY : Hid (Away (mkd V U) w11 y3) := (haw1.trans (haw2.mono (by simp))).trans (haw3.mono (by simp))
                  clear haw1 haw2 haw3 hown2 hnew2 KM KA HFS
                  replace HA : Hid (Away [] W y3) := HA.out.next HAY.out (fun z hz => .inr (by have := HMN.out z hz; rw [HB.out] at this; have := HSZ.out; omega))
                  replace HT := Lib.hid (HT.out.away HAY.out (fun hc => by have := HMN.out gt hc; have := HTB.out.1; omega) (fun z hz hc => by have := HMN.out z hc; have := HTB.out.2 z hz; omega))
                  replace HLR := Lib.hid (HLR.out.away HAY.out (fun z hz hc => by simp [Value.ownBlock] at hz; subst hz; have := HMN.out _ hc; have := HG5B.out; omega))
                  replace HLI := Lib.hid (HLI.out.away HAY.out (fun z hz hc => by have := HLN9.out z hc; have := HLN.out z hz; omega))
                  go_wp2_with fail
                  go_loopw [22] (fun x wr => ∃ i' : Nat, x = .int .i64 (i' : Int) ∧ i' ≤ i ∧ Away [] y3 wr) (fun x _ => i - (intOf x).toNat)
                  case atStart => exact ⟨0, rfl, by omega, Away.refl _ _⟩
                  case round =>
                    obtain ⟨q, rfl, hq, haw⟩ := hrel
                    have HAW := Lib.hid haw
                    clear haw
                    by_cases hqi : q < i
                    · have i1 : decide (q < i) = true := by simp; omega
                      have i0 : (q : Int) < (i : Int) := by omega
                      have i2 : 0 ≤ (q : Int) := by omega
                      have i3 : ((q : Int)).toNat = q := by omega
                      obtain ⟨x, hx, hxm⟩ := get_of (show q < D.length by rw [← HM.out]; omega)
                      obtain ⟨db, do_, hda, hxr, hxo⟩ := HD.out.at hx
                      subst hda
                      have HXO := Lib.hid hxo
                      have HXR := Lib.hid (range_away (HA.out.trans HAW.out) (by simp) hxr)
                      have HF1 := Lib.hid (find_c (HT.out.on HAW.out) x.v x.l hxo.1)
                      obtain ⟨⟨r1, r2⟩, hrr⟩ : ∃ r, r = findA x.v x.l S := ⟨_, rfl⟩
                      rw [← hrr] at HF1
                      obtain ⟨la, lc, hle, hlx⟩ := (HLI.out.on HAW.out).shape
                      obtain ⟨gl, hla, cl⟩ := hlx q r1 (by rw [HZ.out q x hx, ← hrr])
                      rw [HZL.out, hla] at hle
                      have HLE := Lib.hid hle
                      have HCL := Lib.hid cl
                      clear hx hxm hxr hxo hqi hrr hlx cl hla hle
                      go_wp2_with (first
                        | (refine wpList_ixA rfl _ _ rfl db do_ i dcap q rfl rfl (by omega) ?_)
                        | (refine wpList_load32m rfl _ rfl db (do_ + q * 17) rfl x.v x.l HXO.out.1 HXR.out ?_)
                        | (go_at_call 13; refine HF1.out.mono ?_; refine Hid.out ?_))
                      refine Lib.hid ?_
                      first
                        | rintro E x1 rfl haw
                        | rintro E x1 ⟨rfl, haw⟩
                      replace HAW := Lib.hid (HAW.out.trans haw)
                      have c17 : x1.cell? ⟨gl, q, none⟩ = some (.int .i64 r1) := haw.cell (by simp) HCL.out
                      have hle := HLE.out
                      subst hle
                      have hr1 : (r1 != r1) = false := by simp
                      clear haw HF1 HXR HCL HLE
                      go_wp2_with fail
                      go_roundw
                      case rel => first | exact ⟨q + 1, by go_num, by omega, HAW.out⟩ | exact ⟨_, _, _, _, _, _, _, _, _, _, _, _, _, _, _, _, _, _, _, _, _, _, _, _, ⟨q + 1, by go_num, by omega, HAW.out⟩, rfl⟩
                      case measure => simp [intOf]; omega
                    · have i1 : decide (q < i) = false := by simp; omega
                      obtain rfl : q = i := by omega
                      have HPR := Lib.hid (print_r ((HLR.out.on HAW.out).1.rd (HLR.out.2)) (by simp; omega) (HG.out.aw (HA.out.trans HAW.out)))
                      replace HA := Lib.hid (HA.out.trans HAW.out)
                      clear hqi hq HAW
                      go_wp2_with (go_at_call 7; refine HPR.out.mono ?_; refine Hid.out ?_)
                      refine Lib.hid ?_
                      rintro E x1 ⟨hpr, haw⟩
                      replace HA := Lib.hid (HA.out.trans haw)
                      clear haw HPR
                      rcases (show k = 0 ∨ k = 1 ∨ ∃ j, k = j + 2 from by rcases k with _ | _ | j <;> simp) with rfl | rfl | ⟨j, rfl⟩
                      · rcases hpr with ⟨hm, -⟩ | ⟨-, S3, hS3, rfl⟩
                        · rw [show List.replicate 0 nC = [] from rfl, may_nil] at hm; simp at hm
                        go_wp2_with fail
                        go_ret
                        exact ⟨rfl, HA.out.to_below⟩
                      · rcases hpr with ⟨hm, -⟩ | ⟨-, S3, hS3, rfl⟩
                        · rw [show List.replicate 1 nC = [nC] from rfl, may_one] at hm; simp at hm
                        rw [show List.replicate 1 nC = [nC] from rfl] at hS3
                        obtain rfl := ord_one hS3
                        rw [text_one]
                        go_wp2_with fail
                        go_ret
                        exact ⟨rfl, HA.out.to_below⟩
                      · rcases hpr with ⟨-, rfl⟩ | ⟨hm, -⟩
                        · have k5 : ¬ (((j + 2 : Nat) : Int) < 2) := by omega
                          have k6 : ¬ (((j + 2 : Nat) : Int) = 1) := by omega
                          go_wp2_with fail
                          go_ret
                          exact ⟨by first | (simp; done) | (simp; omega), HA.out.to_below⟩
                        · rw [may_rep] at hm; simp at hm
end routeKeeps
end Go.Proofs.YtoifolmcdkfniaaDoor
