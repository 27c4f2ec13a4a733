/-
  SpanMemory.
-/
import Derived.Test.YtckiiidigajhpaaAlive
import Derived.Test.YtckiiidigajhpaaRkit
import Derived.Test.YtckiiidigajhpaaGr
import Derived.Test.YtckiiidigajhpaaQt
import Derived.Deep.Cut
namespace Go.Proofs.Ytckiiidigajhpaa
open Go.ChangeShapes Go.WideShapes Go.ChangeAt Go.RowKit Go.Deep
set_option linter.unusedVariables false
set_option maxRecDepth 100000

def othL : List Sp := [(1, 3), (9, 700)]
def mk2L : List Sp := [(-7, -7), (-8, -8)]
theorem mk2_ok : ∀ x ∈ mk2L, OkS x := by unfold mk2L OkS I64; simp
theorem oth_right : rightP othL = true := by decide
theorem quiet_ix33 {o : Oper} {a : Act} {C : World → Prop} {K : Act → Prop} {gb n cap : Nat} (x ix : Operand) (ho : o.op = .indexAddr 33 x ix) (i : Nat) (hx : a.eval x = .slice (some ⟨gb, 0, none⟩) n cap) (hix : a.eval ix = .int .i64 (i : Int)) (hi : i < n) (hk : K (a.put o.dst (.pointer (some ⟨gb, i, none⟩)))) : o.quiet Try.prog a C K := by
  refine ⟨.pointer (some ⟨gb, i, none⟩), fun w hw => ?_, hk⟩
  have hu : Try.prog.underlying 33 = some (.slice (Try.prog.elem 33)) := by kernel_rfl
  have he : Try.prog.elem 33 = 22 := by kernel_rfl
  have hsz : (sizeOf 22).run Try.prog w = .ok 1 w := by kernel_rfl
  unfold Oper.quietAt execOp
  simp only [ho, hx, hix, Sem.run_bind]
  rw [run_indexAt_slice w 33 ⟨gb, 0, none⟩ n cap .i64 (i : Int) hu, he, if_pos ⟨by omega, by omega⟩, hsz]
  simp only [Result.andThen, add_plain, Int.toNat_natCast, Nat.mul_one, Nat.zero_add]
  exact ⟨rfl, rfl⟩
theorem lit6 (w : World) (xs : List Value) (t : TypeId) : ∀ j u, xs[j]? = some u → (w.alloc (.cells xs.toArray t)).cell? ((⟨w.heap.size, 0, none⟩ : Addr).add j) = some u := fun j u hj => by
  rw [add_plain, Nat.zero_add, World.cell?_alloc_at (hn := rfl)]; simpa using hj
/-- So many times. -/
def repL (q : Nat) (R : List (List Sp)) : List (List Sp) := (List.replicate q R).flatten
theorem rep_succ (q : Nat) (R : List (List Sp)) : repL (q + 1) R = repL q R ++ R := by simp [repL, List.replicate_succ', List.flatten_append]
theorem rep_two {T : List Hl} {R : List (List Sp)} (h : T.map (·.2) = repL 2 R) (hR : R.length = 6) : T.length = 12 ∧ (∀ i, i < 6 → ∃ s t, T[i]? = some s ∧ T[6 + i]? = some t ∧ s.2 = t.2) ∧ ∀ t ∈ T, t.2 ∈ R := by
  have e : repL 2 R = R ++ R := by simp [repL, List.replicate_succ]
  rw [e] at h
  have hl : T.length = 12 := by have := congrArg List.length h; simp at this; omega
  refine ⟨hl, fun i hi => ?_, fun t ht => ?_⟩
  · have a1 : T[i]? = some T[i] := List.getElem?_eq_getElem (by omega)
    have a2 : T[6 + i]? = some T[6 + i] := List.getElem?_eq_getElem (by omega)
    refine ⟨_, _, a1, a2, ?_⟩
    have b1 : (T.map (·.2))[i]? = some T[i].2 := by rw [List.getElem?_map, a1]; rfl
    have b2 : (T.map (·.2))[6 + i]? = some T[6 + i].2 := by rw [List.getElem?_map, a2]; rfl
    rw [h, List.getElem?_append_left (by omega)] at b1
    rw [h, List.getElem?_append_right (by omega), hR, show 6 + i - 6 = i from by omega] at b2
    rw [b1] at b2
    simpa using b2
  · have : t.2 ∈ T.map (·.2) := List.mem_map.2 ⟨t, ht, rfl⟩
    rw [h] at this
    rcases List.mem_append.1 this with h1 | h1 <;> exact h1
theorem Lst.shp {w : World} {v : Value} {l : List Sp} (h : Lst w v l) : ∃ a n c, v = .slice a n c := by
  rcases h.2 with ⟨h3, _⟩ | ⟨g9, cap9, cur9, h3, _⟩
  · exact ⟨_, _, _, h3⟩
  · exact ⟨_, _, _, h3⟩
theorem Gr.cell {B : Nat} {w : World} {kg n kc : Nat} {T : List Hl} (h : Gr B w (.slice (some ⟨kg, 0, none⟩) n kc) T) {i : Nat} {v : Value} {l : List Sp} (ht : T[i]? = some (v, l)) : w.cell? ⟨kg, i, none⟩ = some v := by
  obtain ⟨a9, c9, he9, -, -, hx9⟩ := h.kl.shape
  obtain ⟨g9, hg9, z9⟩ := hx9 i v (map_at ht)
  simp only [Value.slice.injEq] at he9
  rw [← he9.1] at hg9
  simp only [Option.some.injEq, Addr.mk.injEq] at hg9
  rw [hg9.1]; exact z9
theorem Gr.sl {B : Nat} {w : World} {kv : Value} {T : List Hl} (h : Gr B w kv T) {i : Nat} {v : Value} {l : List Sp} (ht : T[i]? = some (v, l)) (hok : l.length ≤ 100000 ∧ ∀ x ∈ l, OkS x) : ∃ va vc ln, v = .slice va ln vc ∧ l.length = ln ∧ Sl w va vc l := by
  obtain ⟨a9, c9, he9, h1, h2, h3, -⟩ := (h.own _ (List.mem_of_getElem? ht)).row (by have := hok.1; simp only; omega) hok.2
  exact ⟨a9, c9, l.length, he9, rfl, h3, h2, h1⟩
namespace spanMemory
set_option maxHeartbeats 16000000 in
theorem walk (a : Option Addr) (l : List Sp) (cap : Nat) (s : Sp) (to : Int) (W : World) (hsl : Sl W a cap l) (hl : l.length ≤ 8796093021952) (hsp : OkS s) (hto0 : (Lit.int .i64 to).wf = true) :
    Calls Try.prog 4 #[.slice a l.length cap, valS s, .int .i64 to] W fun e w' => e = .returned (.bool true) ∧ Below W.heap.size W w' := by
  have HL : Hid (Sl W a cap l) := hsl
  obtain ⟨nl, hnl⟩ : ∃ n, l.length = n := ⟨_, rfl⟩
  rw [hnl]
  have NL := hidI hnl
  clear hsl hto0 hsp hl hnl
  obtain ⟨s1, s2⟩ := s
  simp only [valS]
  have HW : Hid (Away [] W (W.alloc (.cells #[.int .i64 s1, .int .i64 s2] 29))) := (Away.refl _ _).alloc _
  have HC0 : Hid ((W.alloc (.cells #[.int .i64 s1, .int .i64 s2] 29)).cell? ⟨W.heap.size, 0, none⟩ = some (.int .i64 s1)) := by show _ = _; rw [World.cell?_alloc_at (hn := rfl)]; rfl
  have HC1 : Hid ((W.alloc (.cells #[.int .i64 s1, .int .i64 s2] 29)).cell? ⟨W.heap.size, 1, none⟩ = some (.int .i64 s2)) := by show _ = _; rw [World.cell?_alloc_at (hn := rfl)]; rfl
  go_enter Try.func4, Try.ntmps4
  go_upto_region 1 with fail
  obtain ⟨g, hg⟩ : ∃ g, g = W.heap.size := ⟨_, rfl⟩
  have HSB : Hid (g < (W.alloc (.cells #[.int .i64 s1, .int .i64 s2] 29)).heap.size) := by show _ < _; rw [hg]; simp
  rw [← hg] at HC0 HC1 ⊢
  clear hg
  replace HL := hidI (HL.out.on HW.out)
  generalize W.alloc (.cells #[.int .i64 s1, .int .i64 s2] 29) = w0 at *
  go_wp2_with fail
  refine (alive_c _).mono ?_
  rintro E w2 ⟨rfl, haw⟩
  replace HW := hidI (HW.out.trans haw)
  replace HC0 := hidI (haw.cell (by simp) HC0.out)
  replace HC1 := hidI (haw.cell (by simp) HC1.out)
  replace HL := hidI (HL.out.on haw)
  clear haw
  go_wp2_with fail
  refine (own_s (by exact HL.out) NL.out).mono ?_
  rintro E w2 ⟨ao, co, rfl, hso, -, haw⟩
  replace HW := hidI (HW.out.trans haw)
  replace HC0 := hidI (haw.cell (by simp) HC0.out)
  replace HC1 := hidI (haw.cell (by simp) HC1.out)
  have Ho := hidI hso
  clear hso HL
  clear haw
  go_wp2_with fail
  refine (normA (by exact Ho.out) NL.out).mono ?_
  rintro E w2 ⟨m, e, hnorm, am, cm, n, rfl, hnm, hsm, haw⟩
  replace HW := hidI (HW.out.trans haw)
  replace HC0 := hidI (haw.cell (by simp) HC0.out)
  replace HC1 := hidI (haw.cell (by simp) HC1.out)
  have Hm := hidI hsm
  have NM := hidI hnm
  clear hsm hnm haw Ho NL
  rcases hnorm with ⟨-, hof, rfl⟩ | ⟨-, -, rfl⟩
  · have HMR : Hid (rightP m = true) := hof.right
    have hnb : n ≤ 32768 := by have := right_short hof.right; have := NM.out; omega
    have HMK : Hid (∀ x ∈ m, OkS x) := (right_ok hof.right).2
    have HML : Hid (m.length ≤ 32768) := right_short hof.right
    clear hof
    generalize hwN : w2 = wN at *
    clear hwN
    have HNW : Hid (W.heap.size ≤ wN.heap.size) := HW.out.size
    go_wp2_with fail
    refine (own_c am m n cm _ NM.out (by exact Hm.out.row)).mono ?_
    rintro E w2 ⟨fv, rfl, hmk⟩
    have HFM := hidI hmk
    clear hmk
    go_wp2_with (at_builtin; first | (refine wpList_appL rfl _ _ rfl _ m mk2L rfl (by exact HFM.out.1.on ((Away.refl [] _).alloc _)) (some ⟨_, 0, none⟩) 2 2 rfl rfl (by simp) (by exact (lit_row _ mk2L (by decide) (by unfold mk2L OkS I64; simp)).row) (by have := HML.out; omega) ?_))
    intro f3 w3 hown3 hgr3 hmov3
    have HM3 : Hid (Mk wN w3 f3 (m ++ mk2L)) := ⟨hown3, HFM.out.2.1.moved hmov3 (by have := HFM.out.2.2.size; simp; omega), (HFM.out.2.2.alloc _).step hgr3 HFM.out.2.1⟩
    have haw := HM3.out.2.2
    replace HW := hidI (HW.out.trans haw)
    replace HC0 := hidI (haw.cell (by simp) HC0.out)
    replace HC1 := hidI (haw.cell (by simp) HC1.out)
    replace Hm := hidI (Hm.out.on haw)
    clear haw hown3 hgr3 hmov3 HFM
    have HLF : Hid ((m ++ mk2L).length = n + 2) := by show _ = _; rw [List.length_append, NM.out]; rfl
    obtain ⟨fa, fc, hfe, hfcap, -, hfrow, hfown⟩ := HM3.out.1.row (by rw [HLF.out]; omega) (fun x hx => by
      rcases List.mem_append.1 hx with h | h
      · exact HMK.out x h
      · exact mk2_ok x h)
    rw [HLF.out] at hfe hfcap
    obtain ⟨gf, hgf0⟩ : ∃ gf, fa = some ⟨gf, 0, none⟩ := by
      obtain ⟨b, off, h1, -⟩ := hfrow.at (k := m.length) (x := (-7, -7)) (by rw [List.getElem?_append_right (Nat.le_refl _), Nat.sub_self]; rfl)
      obtain ⟨h2, h3, h4⟩ := hfown _ h1
      simp only at h3
      exact ⟨b, by rw [h1, h3]⟩
    subst hgf0
    subst hfe
    have HFU : Hid (Lst w3 (.slice (some ⟨gf, 0, none⟩) (n + 2) fc) (m ++ mk2L)) := HM3.out.1
    have HGN : Hid (W.heap.size ≤ gf) := by have h1 := HM3.out.2.1 gf rfl; have h2 := HNW.out; show _ ≤ _; omega
    have HGL : Hid (gf < w3.heap.size) := HM3.out.1.lt gf rfl
    have HIN : Hid (Sl w3 (some ⟨gf, 0, none⟩) fc m) := ⟨by have := hfrow.head m.length; rwa [List.take_left] at this, by simp, by rw [NM.out]; omega⟩
    clear hfrow hfown HM3
    have hsl := slice_h (some ⟨gf, 0, none⟩) (n + 2) fc n (n : Int) rfl (by omega)
    go_upto_region 11 with fail
    have haw : Away [] w3 (w3.alloc (.cells #[.int .i64 1, .int .i64 3, .int .i64 9, .int .i64 700] 29)) := (Away.refl [] _).alloc _
    have HOT : Hid (Sl (w3.alloc (.cells #[.int .i64 1, .int .i64 3, .int .i64 9, .int .i64 700] 29)) (some ⟨w3.heap.size, 0, none⟩) 2 othL) := lit_row w3 othL (by decide) (by unfold othL OkS I64; simp)
    have HGA : Hid (w3.heap.size < (w3.alloc (.cells #[.int .i64 1, .int .i64 3, .int .i64 9, .int .i64 700] 29)).heap.size) := by show _ < _; simp
    replace HW := hidI (HW.out.trans haw)
    replace HC0 := hidI (haw.cell (by simp) HC0.out)
    replace HC1 := hidI (haw.cell (by simp) HC1.out)
    replace Hm := hidI (Hm.out.on haw)
    replace HIN := hidI (HIN.out.on haw)
    replace HFU := hidI (HFU.out.on haw)
    obtain ⟨gA, hgA⟩ : ∃ gA, gA = w3.heap.size := ⟨_, rfl⟩
    rw [← hgA] at HOT HGA HGL ⊢
    clear hgA haw hsl
    generalize w3.alloc (.cells #[.int .i64 1, .int .i64 3, .int .i64 9, .int .i64 700] 29) = wA at *
    replace HGL : Hid (gf < wA.heap.size) := by have h1 := HGL.out; have h2 := HGA.out; show _ < _; omega
    obtain ⟨bb, hbb⟩ : ∃ b, (rightP m && isB (s1, s2)) = b := ⟨_, rfl⟩
    obtain ⟨bh, hbh⟩ : ∃ b, (rightP m && decide (0 ≤ to ∧ to ≤ 65535)) = b := ⟨_, rfl⟩
    obtain ⟨bo, hbo⟩ : ∃ b, (rightP othL && isB (s1, s2)) = b := ⟨_, rfl⟩
    obtain ⟨bp, hbp⟩ : ∃ b, (rightP othL && decide (0 ≤ to ∧ to ≤ 65535)) = b := ⟨_, rfl⟩
    obtain ⟨r1, hr1⟩ : ∃ r, resR bb (addP m (s1, s2)) = r := ⟨_, rfl⟩
    obtain ⟨r2, hr2⟩ : ∃ r, resR bb (cutP m (s1, s2)) = r := ⟨_, rfl⟩
    obtain ⟨r3, hr3⟩ : ∃ r, resR bh (holesP m to) = r := ⟨_, rfl⟩
    obtain ⟨r4, hr4⟩ : ∃ r, resR bo (addP othL (s1, s2)) = r := ⟨_, rfl⟩
    obtain ⟨r5, hr5⟩ : ∃ r, resR bp (holesP othL to) = r := ⟨_, rfl⟩
    have HRR : Hid (∀ x ∈ [m, r1, r2, r3, r4, r5], x.length ≤ 100000 ∧ ∀ y ∈ x, OkS y) := by
      have a1 := res_ok (b := bb) (r := addP m (s1, s2)) (fun h => by rw [h] at hbb; simp at hbb; exact (add_of hbb.1 (isB_iff.1 hbb.2)).right)
      have a2 := res_ok (b := bb) (r := cutP m (s1, s2)) (fun h => by rw [h] at hbb; simp at hbb; exact (cut_of hbb.1 (isB_iff.1 hbb.2)).right)
      have a3 := res_ok (b := bh) (r := holesP m to) (fun h => by rw [h] at hbh; simp at hbh; exact (holes_of hbh.1 hbh.2.2).right)
      have a4 := res_ok (b := bo) (r := addP othL (s1, s2)) (fun h => by rw [h] at hbo; simp at hbo; exact (add_of hbo.1 (isB_iff.1 hbo.2)).right)
      have a5 := res_ok (b := bp) (r := holesP othL to) (fun h => by rw [h] at hbp; simp at hbp; exact (holes_of hbp.1 hbp.2.2).right)
      rw [hr1] at a1; rw [hr2] at a2; rw [hr3] at a3; rw [hr4] at a4; rw [hr5] at a5
      intro x hx
      simp only [List.mem_cons, List.not_mem_nil, or_false] at hx
      rcases hx with rfl | rfl | rfl | rfl | rfl | rfl
      · exact ⟨by have := HML.out; omega, HMK.out⟩
      · exact a1
      · exact a2
      · exact a3
      · exact a4
      · exact a5
    have HOL : Hid (∀ V, Away [] wA V → Old V (some ⟨gf, 0, none⟩)) := fun V hV p hp => by simp at hp; subst hp; have h1 := HGL.out; have h2 := hV.size; simp only; omega
    have HOA : Hid (∀ V, Away [] wA V → Old V (some ⟨gA, 0, none⟩)) := fun V hV p hp => by simp at hp; subst hp; have h1 := HGA.out; have h2 := hV.size; simp only; omega
    have HSI := hidI HIN.out
    have HSO := hidI HOT.out
    have KN : Hid (∀ V, Away [] wA V → Calls Try.prog 9 #[.slice (some ⟨gf, 0, none⟩) n fc] V fun E w' => AnsM V m 0 E w') := fun V hV => (normM (HSI.out.on hV) NM.out).mono (fun E w' ⟨r, e, h1, h2⟩ => by obtain ⟨rfl, rfl⟩ := norm_right h1 HMR.out; exact h2)
    have KA : Hid (∀ V, Away [] wA V → Calls Try.prog 13 #[.slice (some ⟨gf, 0, none⟩) n fc, .agg #[.int .i64 s1, .int .i64 s2]] V fun E w' => AnsM V r1 (resE bb) E w') := fun V hV => by rw [← hr1, ← hbb]; exact addM (s1, s2) (HSI.out.on hV) NM.out (HOL.out V hV)
    have KC : Hid (∀ V, Away [] wA V → Calls Try.prog 14 #[.slice (some ⟨gf, 0, none⟩) n fc, .agg #[.int .i64 s1, .int .i64 s2]] V fun E w' => AnsM V r2 (resE bb) E w') := fun V hV => by rw [← hr2, ← hbb]; exact cutM (s1, s2) (HSI.out.on hV) NM.out
    have KH : Hid (∀ V, Away [] wA V → Calls Try.prog 15 #[.slice (some ⟨gf, 0, none⟩) n fc, .int .i64 to] V fun E w' => AnsM V r3 (resE bh) E w') := fun V hV => by rw [← hr3, ← hbh]; exact holesM to (HSI.out.on hV) NM.out
    have KB : Hid (∀ V, Away [] wA V → Calls Try.prog 13 #[.slice (some ⟨gA, 0, none⟩) 2 2, .agg #[.int .i64 s1, .int .i64 s2]] V fun E w' => AnsM V r4 (resE bo) E w') := fun V hV => by rw [← hr4, ← hbo]; exact addM (s1, s2) (HSO.out.on hV) rfl (HOA.out V hV)
    have KG : Hid (∀ V, Away [] wA V → Calls Try.prog 15 #[.slice (some ⟨gA, 0, none⟩) 2 2, .int .i64 to] V fun E w' => AnsM V r5 (resE bp) E w') := fun V hV => by rw [← hr5, ← hbp]; exact holesM to (HSO.out.on hV) rfl
    clear hbb hbh hbo hbp hr1 hr2 hr3 hr4 hr5 HSI HSO HOL HOA HOT
    obtain ⟨e1, he1⟩ : ∃ e, resE bb = e := ⟨_, rfl⟩
    obtain ⟨e2, he2⟩ : ∃ e, resE bh = e := ⟨_, rfl⟩
    obtain ⟨e3, he3⟩ : ∃ e, resE bo = e := ⟨_, rfl⟩
    obtain ⟨e4, he4⟩ : ∃ e, resE bp = e := ⟨_, rfl⟩
    rw [he1] at KA KC
    rw [he2] at KH
    rw [he3] at KB
    rw [he4] at KG
    clear he1 he2 he3 he4
    have HWA := hidI HW.out
    clear HW
    obtain ⟨RR, hRR⟩ : ∃ RR, RR = [m, r1, r2, r3, r4, r5] := ⟨_, rfl⟩
    have HR6 : Hid (RR.length = 6) := by show _ = _; rw [hRR]; rfl
    have HRE := hidI hRR
    rw [← hRR] at HRR
    clear hRR
    go_wp2_with fail
    go_loopw [14, 15] (fun kv x wr => ∃ (q : Nat) (T : List Hl), x = .int .i64 (q : Int) ∧ q ≤ 2 ∧ Gr wA.heap.size wr kv T ∧ T.map (·.2) = repL q RR ∧ Away [] wA wr) (fun _ x _ => 2 - (intOf x).toNat)
    case atStart => exact ⟨0, [], rfl, by omega, Gr.nil _ _, rfl, Away.refl _ _⟩
    case round =>
      obtain ⟨q, T, rfl, hq, hgr, hrep, haa⟩ := hrel
      have HGR := hidI hgr
      have HREP := hidI hrep
      have HAA := hidI haa
      clear hgr hrep haa
      by_cases hlt : q < 2
      · have q1 : decide ((q : Int) < 2) = true := decide_eq_true (by omega)
        replace HC0 := hidI (HAA.out.cell (by simp) HC0.out)
        replace HC1 := hidI (HAA.out.cell (by simp) HC1.out)
        have HUP : Hid (Up wr wr []) := Up.nil _
        have HSZ : Hid (wA.heap.size ≤ wr.heap.size) := HAA.out.size
        go_wp2_with fail
        refine (KN.out _ (by exact HAA.out)).mono ?_
        rintro E w2 ⟨va, rfl, hmk⟩
        obtain ⟨vaa, van, vac, hva⟩ := hmk.1.shp
        subst hva
        replace HUP := hidI (HUP.out.snoc hmk)
        have haw := hmk.2.2
        replace HAA := hidI (HAA.out.trans haw)
        replace HC0 := hidI (haw.cell (by simp) HC0.out)
        replace HC1 := hidI (haw.cell (by simp) HC1.out)
        clear hmk haw
        have c0 := HC0.out
        have c1 := HC1.out
        go_wp2_with fail
        refine (KA.out _ (by exact HAA.out)).mono ?_
        rintro E w2 ⟨vb, rfl, hmk⟩
        obtain ⟨vba, vbn, vbc, hvb⟩ := hmk.1.shp
        subst hvb
        clear c0 c1
        replace HUP := hidI (HUP.out.snoc hmk)
        have haw := hmk.2.2
        replace HAA := hidI (HAA.out.trans haw)
        replace HC0 := hidI (haw.cell (by simp) HC0.out)
        replace HC1 := hidI (haw.cell (by simp) HC1.out)
        clear hmk haw
        have c0 := HC0.out
        have c1 := HC1.out
        go_wp2_with fail
        refine (KC.out _ (by exact HAA.out)).mono ?_
        rintro E w2 ⟨vc, rfl, hmk⟩
        obtain ⟨vca, vcn, vcc, hvc⟩ := hmk.1.shp
        subst hvc
        clear c0 c1
        replace HUP := hidI (HUP.out.snoc hmk)
        have haw := hmk.2.2
        replace HAA := hidI (HAA.out.trans haw)
        replace HC0 := hidI (haw.cell (by simp) HC0.out)
        replace HC1 := hidI (haw.cell (by simp) HC1.out)
        clear hmk haw
        go_wp2_with fail
        refine (KH.out _ (by exact HAA.out)).mono ?_
        rintro E w2 ⟨vd, rfl, hmk⟩
        obtain ⟨vda, vdn, vdc, hvd⟩ := hmk.1.shp
        subst hvd
        replace HUP := hidI (HUP.out.snoc hmk)
        have haw := hmk.2.2
        replace HAA := hidI (HAA.out.trans haw)
        replace HC0 := hidI (haw.cell (by simp) HC0.out)
        replace HC1 := hidI (haw.cell (by simp) HC1.out)
        clear hmk haw
        have c0 := HC0.out
        have c1 := HC1.out
        go_wp2_with fail
        refine (KB.out _ (by exact HAA.out)).mono ?_
        rintro E w2 ⟨vf, rfl, hmk⟩
        obtain ⟨vfa, vfn, vfc, hvf⟩ := hmk.1.shp
        subst hvf
        clear c0 c1
        replace HUP := hidI (HUP.out.snoc hmk)
        have haw := hmk.2.2
        replace HAA := hidI (HAA.out.trans haw)
        replace HC0 := hidI (haw.cell (by simp) HC0.out)
        replace HC1 := hidI (haw.cell (by simp) HC1.out)
        clear hmk haw
        go_wp2_with fail
        refine (KG.out _ (by exact HAA.out)).mono ?_
        rintro E w2 ⟨vg, rfl, hmk⟩
        obtain ⟨vga, vgn, vgc, hvg⟩ := hmk.1.shp
        subst hvg
        replace HUP := hidI (HUP.out.snoc hmk)
        have haw := hmk.2.2
        replace HAA := hidI (HAA.out.trans haw)
        replace HC0 := hidI (haw.cell (by simp) HC0.out)
        replace HC1 := hidI (haw.cell (by simp) HC1.out)
        clear hmk haw
        have HUL : Hid (([] ++ [(Value.slice vaa van vac, m)] ++ [(Value.slice vba vbn vbc, r1)] ++ [(Value.slice vca vcn vcc, r2)] ++ [(Value.slice vda vdn vdc, r3)] ++ [(Value.slice vfa vfn vfc, r4)] ++ [(Value.slice vga vgn vgc, r5)] : List Hl) = [(Value.slice vaa van vac, m), (Value.slice vba vbn vbc, r1), (Value.slice vca vcn vcc, r2), (Value.slice vda vdn vdc, r3), (Value.slice vfa vfn vfc, r4), (Value.slice vga vgn vgc, r5)]) := rfl
        rw [HUL.out] at HUP
        have HONE := hidI HUP.out.one
        have HTL : Hid ((T.map (·.1)).length ≤ 6) := by
          have := congrArg List.length HREP.out
          rw [List.length_map] at this
          show _ ≤ _
          rw [List.length_map, this]
          rcases (show q = 0 ∨ q = 1 by omega) with rfl | rfl
          · simp [repL]
          · simp [repL, HR6.out]
        go_wp2_with (at_builtin; first | (refine wpList_appV rfl _ _ rfl _ (T.map (·.1)) [Value.slice vaa van vac, Value.slice vba vbn vbc, Value.slice vca vcn vcc, Value.slice vda vdn vdc, Value.slice vfa vfn vfc, Value.slice vga vgn vgc] rfl (by exact ((HGR.out.on HUP.out.aw).on ((Away.refl [] _).alloc _)).kl) ⟨_, 0, none⟩ 6 6 rfl rfl (by exact lit6 _ [Value.slice vaa van vac, Value.slice vba vbn vbc, Value.slice vca vcn vcc, Value.slice vda vdn vdc, Value.slice vfa vfn vfc, Value.slice vga vgn vgc] 22) (fun u hu => by simp only [List.mem_cons, List.not_mem_nil, or_false] at hu; rcases hu with rfl | rfl | rfl | rfl | rfl | rfl; exact HONE.out (_, m) (by simp); exact HONE.out (_, r1) (by simp); exact HONE.out (_, r2) (by simp); exact HONE.out (_, r3) (by simp); exact HONE.out (_, r4) (by simp); exact HONE.out (_, r5) (by simp)) (by have := HTL.out; omega) ?_))
        intro kv2 w9 hkl hawk hmovk
        have HG2 : Hid (Gr wA.heap.size w9 kv2 (T ++ [(Value.slice vaa van vac, m), (Value.slice vba vbn vbc, r1), (Value.slice vca vcn vcc, r2), (Value.slice vda vdn vdc, r3), (Value.slice vfa vfn vfc, r4), (Value.slice vga vgn vgc, r5)])) := HGR.out.join HSZ.out (HUP.out.on ((Away.refl [] _).alloc _)) hkl hawk hmovk
        have HA2 : Hid (Away [] wA w9) := (HAA.out.alloc _).next hawk (fun k hk => .inr (HGR.out.newk k (by simpa using hk)))
        have HP2 : Hid ((T ++ [(Value.slice vaa van vac, m), (Value.slice vba vbn vbc, r1), (Value.slice vca vcn vcc, r2), (Value.slice vda vdn vdc, r3), (Value.slice vfa vfn vfc, r4), (Value.slice vga vgn vgc, r5)]).map (·.2) = repL (q + 1) RR) := by show _ = _; rw [List.map_append, HREP.out, rep_succ, HRE.out]; rfl
        clear hkl hawk hmovk HGR HUP HONE
        go_wp2_with fail
        go_roundw
        case rel => exact ⟨q + 1, _, by go_num, by omega, HG2.out, HP2.out, HA2.out⟩
        case measure => simp [intOf]; omega
      · obtain rfl : q = 2 := by omega
        have q1 : decide (((2 : Nat) : Int) < 2) = false := rfl
        replace HC0 := hidI (HAA.out.cell (by simp) HC0.out)
        replace HC1 := hidI (HAA.out.cell (by simp) HC1.out)
        replace Hm := hidI (Hm.out.on HAA.out)
        replace HIN := hidI (HIN.out.on HAA.out)
        replace HFU := hidI (HFU.out.on HAA.out)
        obtain ⟨hT12, hT6, hTR⟩ := rep_two HREP.out HR6.out
        have HT12 := hidI hT12
        have HT6 := hidI hT6
        have HTO : Hid (∀ (i : Nat) v l, T[i]? = some (v, l) → l.length ≤ 100000 ∧ ∀ x ∈ l, OkS x) := fun i v l h => HRR.out l (hTR _ (List.mem_of_getElem? h))
        clear hT12 hT6 hTR KN KA KC KH KB KG HREP HR6 HRE HRR
        obtain ⟨zh, hzh⟩ : ∃ z, (rightP m && isB (s1, s2) && hasP m (s1, s2)) = z := ⟨_, rfl⟩
        obtain ⟨zm, hzm⟩ : ∃ z, (rightP m && isB (s1, s2) && meetsP m (s1, s2)) = z := ⟨_, rfl⟩
        obtain ⟨zs, hzs⟩ : ∃ z, sizeP m = z := ⟨_, rfl⟩
        have HZH := hidI hzh
        have HZM := hidI hzm
        have HZS := hidI hzs
        clear hzh hzm hzs
        have c0 := HC0.out
        have c1 := HC1.out
        go_wp2_with fail
        refine (hasS (s1, s2) (by exact HIN.out) NM.out HZH.out).mono ?_
        rintro E w2 ⟨rfl, haw⟩
        clear c0 c1
        replace HAA := hidI (HAA.out.trans haw)
        replace HC0 := hidI (haw.cell (by simp) HC0.out)
        replace HC1 := hidI (haw.cell (by simp) HC1.out)
        replace Hm := hidI (Hm.out.on haw)
        replace HIN := hidI (HIN.out.on haw)
        replace HFU := hidI (HFU.out.on haw)
        replace HGR := hidI (HGR.out.on haw)
        clear haw
        have c0 := HC0.out
        have c1 := HC1.out
        go_wp2_with fail
        refine (meetsS (s1, s2) (by exact HIN.out) NM.out HZM.out).mono ?_
        rintro E w2 ⟨rfl, haw⟩
        clear c0 c1
        replace HAA := hidI (HAA.out.trans haw)
        replace HC0 := hidI (haw.cell (by simp) HC0.out)
        replace HC1 := hidI (haw.cell (by simp) HC1.out)
        replace Hm := hidI (Hm.out.on haw)
        replace HIN := hidI (HIN.out.on haw)
        replace HFU := hidI (HFU.out.on haw)
        replace HGR := hidI (HGR.out.on haw)
        clear haw
        go_wp2_with fail
        refine (sizeS (by exact HIN.out) NM.out HZS.out).mono ?_
        rintro E w2 ⟨rfl, haw⟩
        replace HAA := hidI (HAA.out.trans haw)
        replace HC0 := hidI (haw.cell (by simp) HC0.out)
        replace HC1 := hidI (haw.cell (by simp) HC1.out)
        replace Hm := hidI (Hm.out.on haw)
        replace HIN := hidI (HIN.out.on haw)
        replace HFU := hidI (HFU.out.on haw)
        replace HGR := hidI (HGR.out.on haw)
        clear haw
        go_wp2_with fail
        refine (rightS (by exact HIN.out) NM.out HMR.out).mono ?_
        rintro E w2 ⟨rfl, haw⟩
        replace HAA := hidI (HAA.out.trans haw)
        replace HC0 := hidI (haw.cell (by simp) HC0.out)
        replace HC1 := hidI (haw.cell (by simp) HC1.out)
        replace Hm := hidI (Hm.out.on haw)
        replace HIN := hidI (HIN.out.on haw)
        replace HFU := hidI (HFU.out.on haw)
        replace HGR := hidI (HGR.out.on haw)
        clear haw
        go_wp2_with fail
        refine (same_s (z := true) (l := m) (m := m) (by exact HIN.out) (by exact Hm.out) NM.out NM.out (by simp)).mono ?_
        rintro E w2 ⟨rfl, haw⟩
        replace HAA := hidI (HAA.out.trans haw)
        replace HC0 := hidI (haw.cell (by simp) HC0.out)
        replace HC1 := hidI (haw.cell (by simp) HC1.out)
        replace Hm := hidI (Hm.out.on haw)
        replace HIN := hidI (HIN.out.on haw)
        replace HFU := hidI (HFU.out.on haw)
        replace HGR := hidI (HGR.out.on haw)
        clear haw
        obtain ⟨z7, z8⟩ : w2.cell? ⟨gf, n * 2, none⟩ = some (.int .i64 (-7)) ∧ w2.cell? ⟨gf, (n + 1) * 2, none⟩ = some (.int .i64 (-8)) := by
          obtain ⟨a9, c9, he9, hcl⟩ := Lst.shape HFU.out
          simp only [Value.slice.injEq] at he9
          obtain ⟨g7, h7, y7, -⟩ := hcl n (-7, -7) (by rw [← NM.out, List.getElem?_append_right (Nat.le_refl _), Nat.sub_self]; rfl)
          obtain ⟨g8, h8, y8, -⟩ := hcl (n + 1) (-8, -8) (by rw [← NM.out, List.getElem?_append_right (by omega), show m.length + 1 - m.length = 1 from by omega]; rfl)
          rw [← he9.1] at h7 h8
          simp only [Option.some.injEq, Addr.mk.injEq] at h7 h8
          rw [h7.1]; rw [← h7.1, h8.1]
          exact ⟨by rw [← h8.1, h7.1]; exact y7, y8⟩
        have n2 : 0 ≤ (n : Int) := by omega
        have n3 : (n : Int) < (n : Int) + 2 := by omega
        have n4 : ((n : Int)).toNat = n := by omega
        have n5 : (n : Int) + 1 < (n : Int) + 2 := by omega
        have n6 : 0 ≤ (n : Int) + 1 := by omega
        have n7 : ((n : Int) + 1).toNat = n + 1 := by omega
        clear HC0 HC1 Hm HZH HZM HZS
        generalize hwC : w2 = wC at *
        clear hwC
        obtain ⟨ka, kc, hke, -, -, hkx⟩ := HGR.out.kl.shape
        rw [List.length_map, HT12.out] at hke
        obtain ⟨v0, l0, h0⟩ := getH HT12.out (show 0 < 12 by omega)
        obtain ⟨kg, hka, -⟩ := hkx 0 v0 (map_at h0)
        subst hka
        subst hke
        clear hkx h0 HIN
        have HSC : Hid (wA.heap.size ≤ wC.heap.size) := HAA.out.size
        go_wp2_with fail
        clear z7 z8 n3 n5 n6 n7
        go_loopw [28, 29] (fun wv x wr => ∃ (k : Nat) (S : List Hl), x = .int .i64 (k : Int) ∧ k ≤ 12 ∧ Gr wC.heap.size wr wv S ∧ S.map (·.2) = (T.map (·.2)).take k ∧ Away [] wC wr) (fun _ x _ => 12 - (intOf x).toNat)
        case atStart => exact ⟨0, [], rfl, by omega, Gr.nil _ _, rfl, Away.refl _ _⟩
        case round =>
          obtain ⟨k, S, rfl, hk, hgs, hsm, hac⟩ := hrel
          have HGS := hidI hgs
          have HSM := hidI hsm
          have HAC := hidI hac
          clear hgs hsm hac
          by_cases hlk : k < 12
          · have k1 : decide ((k : Int) < 12) = true := decide_eq_true (by omega)
            have k2 : 0 ≤ (k : Int) := by omega
            have k3 : (k : Int) < 12 := by omega
            have k4 : ((k : Int)).toNat = k := by omega
            obtain ⟨v, l, hvl⟩ := getH HT12.out hlk
            have z1 := (HGR.out.on HAC.out).cell hvl
            obtain ⟨va, vc, ln, rfl, hll, hsl⟩ := (HGR.out.on HAC.out).sl hvl (HTO.out k v l hvl)
            have HVL := hidI hvl
            have HLL := hidI hll
            have HSL := hidI hsl
            clear hvl hll hsl
            go_wp2_with fail
            refine (own_c va l ln vc _ HLL.out (by exact HSL.out.row)).mono ?_
            rintro E w2 ⟨vo, rfl, hmk⟩
            obtain ⟨voa, von, voc, hvo⟩ := hmk.1.shp
            subst hvo
            have HUP : Hid (Up wr w2 [(Value.slice voa von voc, l)]) := (Up.nil wr).snoc hmk
            clear hmk z1
            have HSK : Hid ((S.map (·.1)).length ≤ 12) := by
              have h1 := congrArg List.length HSM.out
              simp only [List.length_map, List.length_take] at h1
              show _ ≤ _
              rw [List.length_map]; omega
            have HSZ : Hid (wC.heap.size ≤ wr.heap.size) := HAC.out.size
            go_wp2_with (at_builtin; first | (refine wpList_appV rfl _ _ rfl _ (S.map (·.1)) [Value.slice voa von voc] rfl (by exact ((HGS.out.on HUP.out.aw).on ((Away.refl [] _).alloc _)).kl) ⟨_, 0, none⟩ 1 1 rfl rfl (by exact lit6 _ [Value.slice voa von voc] 22) (fun u hu => by simp at hu; subst hu; exact HUP.out.one (_, l) (by simp)) (by have := HSK.out; omega) ?_))
            intro wv2 w9 hkl hawk hmovk
            have HG2 : Hid (Gr wC.heap.size w9 wv2 (S ++ [(Value.slice voa von voc, l)])) := HGS.out.join HSZ.out (HUP.out.on ((Away.refl [] _).alloc _)) hkl hawk hmovk
            have HA2 : Hid (Away [] wC w9) := ((HAC.out.trans HUP.out.aw).alloc _).next hawk (fun k hk => .inr (HGS.out.newk k (by simpa using hk)))
            have HP2 : Hid ((S ++ [(Value.slice voa von voc, l)]).map (·.2) = (T.map (·.2)).take (k + 1)) := by
              show _ = _
              have h9 : (T.map (·.2))[k]? = some l := by rw [List.getElem?_map, HVL.out]; rfl
              rw [List.map_append, HSM.out, List.take_add_one, h9]; rfl
            clear hkl hawk hmovk HGS HUP
            go_wp2_with fail
            go_roundw
            case rel => exact ⟨k + 1, _, by go_num, by omega, HG2.out, HP2.out, HA2.out⟩
            case measure => simp [intOf]; omega
          · obtain rfl : k = 12 := by omega
            have k1 : decide (((12 : Nat) : Int) < 12) = false := rfl
            have HTS : Hid (∀ (i : Nat) v l, T[i]? = some (v, l) → ∃ u, S[i]? = some (u, l)) := fun i v l h => by
              have h1 : (T.map (·.2))[i]? = some l := by rw [List.getElem?_map, h]; rfl
              have h2 : i < T.length := getH_lt h
              have h3 : (S.map (·.2))[i]? = some l := by rw [HSM.out, List.getElem?_take_of_lt (by have := HT12.out; omega), h1]
              rw [List.getElem?_map] at h3
              obtain ⟨⟨u, l'⟩, h4, h5⟩ := Option.map_eq_some_iff.1 h3
              simp only at h5
              subst h5
              exact ⟨u, h4⟩
            have hS12 : S.length = 12 := by
              have h1 := congrArg List.length HSM.out
              have h2 := HT12.out
              simp only [List.length_map, List.length_take] at h1
              omega
            have HS12 := hidI hS12
            clear HSM
            replace HGR := hidI (HGR.out.on HAC.out)
            replace HAA := hidI (HAA.out.trans HAC.out)
            replace HFU := hidI (HFU.out.on HAC.out)
            obtain ⟨sa, sc, hse, -, -, hsx⟩ := HGS.out.kl.shape
            rw [List.length_map, hS12] at hse
            obtain ⟨v0, l0, h0⟩ := getH hS12 (show 0 < 12 by omega)
            obtain ⟨wg, hsa, -⟩ := hsx 0 v0 (map_at h0)
            subst hsa
            subst hse
            clear hsx h0 hS12
            go_wp2_with fail
            generalize hwD : wr = wD at *
            clear hwD
            go_loopw [30] (fun x wr => ∃ (k : Nat), x = .int .i64 (k : Int) ∧ k ≤ 6 ∧ Away [] wD wr) (fun x _ => 6 - (intOf x).toNat)
            case atStart => exact ⟨0, rfl, by omega, Away.refl _ _⟩
            case round =>
              obtain ⟨k, rfl, hk, hac⟩ := hrel
              have HAD := hidI hac
              clear hac
              by_cases hlk : k < 6
              · have k1 : decide ((k : Int) < 6) = true := decide_eq_true (by omega)
                have k2 : 0 ≤ (k : Int) := by omega
                have k4 : ((k : Int)).toNat = k := by omega
                obtain ⟨⟨v, l⟩, ⟨u, l'⟩, hvl, hul, hll⟩ := HT6.out k hlk
                simp only at hll
                subst hll
                obtain ⟨j, hj⟩ : ∃ j, j = 6 + k := ⟨_, rfl⟩
                rw [← hj] at hul
                have hj12 : j < 12 := by omega
                have e6 : (6 : Int) + (k : Int) = (j : Int) := by omega
                have wj : IntKind.i64.wrap ((j : Int)) = (j : Int) := by rw [IntKind.wrap_i64]; omega
                have z1 := (HGR.out.on HAD.out).cell hvl
                have z2 := (HGR.out.on HAD.out).cell hul
                obtain ⟨va, vc, ln, rfl, hll, hsl⟩ := (HGR.out.on HAD.out).sl hvl (HTO.out k v l hvl)
                obtain ⟨ua, uc, lm, rfl, hlm, hsm⟩ := (HGR.out.on HAD.out).sl hul (HTO.out j u l hul)
                obtain rfl : ln = lm := by omega
                have KS : Hid (∀ q, Calls Try.prog 11 #[.slice va ln vc, .slice ua ln uc] (wr.drewN q) fun E w' => E = .returned (.bool true) ∧ ∃ n, w' = (wr.drewN q).drewN n) := fun q => same_b va ua l l ln ln vc uc _ hll hll (hsl.row.drewN q) (hsm.row.drewN q) (by simp)
                clear hll hlm hsl hsm hvl hul hj
                go_wp2_with fail
                refine wp_region_cls (C := DrewC wr) (by kernel_rfl) (by kernel_rfl) ⟨1, rfl⟩ ?_
                go_big_quiet_want; (refine quiet_val ?_ ?_ ?_; rotate_left; (intro w; go_simp; rfl); go_simp; go_big_quiet_on)
                go_big_quiet_want; (refine quiet_val ?_ ?_ ?_; rotate_left; (intro w; go_simp; rfl); go_simp; go_big_quiet_on)
                go_big_quiet_want; refine quiet_ix33 _ _ rfl k rfl rfl (by omega) ?_; go_simp; go_big_quiet_on
                go_big_quiet_want; refine quiet_ld _ rfl (ad := ⟨kg, k, none⟩) rfl (fun w' h => ld22 (h.cell z1)) ?_; go_simp; go_big_quiet_on
                go_big_quiet_want; (refine quiet_val ?_ ?_ ?_; rotate_left; (intro w; go_simp; rfl); go_simp; go_big_quiet_on)
                go_big_quiet_want; (refine quiet_val ?_ ?_ ?_; rotate_left; (intro w; go_simp; rfl); go_simp; go_big_quiet_on)
                go_big_quiet_want; (refine quiet_val ?_ ?_ ?_; rotate_left; (intro w; go_simp; rfl); go_simp; go_big_quiet_on)
                go_big_quiet_want; refine quiet_ix33 _ _ rfl j rfl rfl (by omega) ?_; go_simp; go_big_quiet_on
                go_big_quiet_want; refine quiet_ld _ rfl (ad := ⟨kg, j, none⟩) rfl (fun w' h => ld22 (h.cell z2)) ?_; go_simp; go_big_quiet_on
                go_big_quiet_want; refine quiet_call 11 #[.slice va ln vc, .slice ua ln uc] (.bool true) ?_ (DrewC.call KS.out) ?_
                · intro w; go_simp; done
                go_simp; go_big_quiet_on
                go_big_quiet_want; (refine quiet_val ?_ ?_ ?_; rotate_left; (intro w; go_simp; rfl); go_simp; go_big_quiet_on)
                refine wpQuiet_nil ?_
                intro V hV
                obtain ⟨qV, rfl⟩ := hV
                go_wp2_with fail
                go_roundw
                case rel => first | exact ⟨k + 1, by go_num, by omega, HAD.out.drewN _⟩ | exact ⟨_, _, _, _, _, _, _, _, _, _, _, _, _, _, _, ⟨k + 1, by go_num, by omega, HAD.out.drewN _⟩, rfl⟩ | exact ⟨_, _, _, _, _, _, _, _, _, _, _, _, _, _, _, _, ⟨k + 1, by go_num, by omega, HAD.out.drewN _⟩, rfl⟩ | exact ⟨_, _, _, _, _, _, _, _, _, _, _, _, _, _, _, _, _, ⟨k + 1, by go_num, by omega, HAD.out.drewN _⟩, rfl⟩ | exact ⟨_, _, _, _, _, _, _, _, _, _, _, _, _, _, _, _, _, _, ⟨k + 1, by go_num, by omega, HAD.out.drewN _⟩, rfl⟩ | exact ⟨_, _, _, _, _, _, _, _, _, _, _, _, _, _, _, _, _, _, _, ⟨k + 1, by go_num, by omega, HAD.out.drewN _⟩, rfl⟩ | exact ⟨_, _, _, _, _, _, _, _, _, _, _, _, _, _, _, _, _, _, _, _, ⟨k + 1, by go_num, by omega, HAD.out.drewN _⟩, rfl⟩
                case measure => simp [intOf]; omega
              · have k1 : decide ((k : Int) < 6) = false := decide_eq_false (by omega)
                have k1' : decide (k < 6) = false := decide_eq_false (by omega)
                replace HGR := hidI (HGR.out.on HAD.out)
                replace HGS := hidI (HGS.out.on HAD.out)
                replace HAA := hidI (HAA.out.trans HAD.out)
                replace HFU := hidI (HFU.out.on HAD.out)
                clear HT6
                go_wp2_with fail
                generalize hwE : wr = wE at *
                clear hwE
                go_loopw [31] (fun x wr => ∃ (k : Nat) (F : List Sp), x = .int .i64 (k : Int) ∧ k ≤ n ∧ Lst wr (.slice (some ⟨gf, 0, none⟩) (n + 2) fc) F ∧ F.length = n + 2 ∧ (∀ q, q < k → F[q]? = some (3 * (q : Int), 3 * (q : Int) + 2)) ∧ Away [gf] wE wr) (fun x _ => n - (intOf x).toNat)
                case atStart => exact ⟨0, m ++ mk2L, rfl, by omega, HFU.out, HLF.out, fun q hq => by omega, Away.refl _ _⟩
                case round =>
                  clear HFU
                  obtain ⟨k, F, rfl, hk, hlf, hfl, hth, hae⟩ := hrel
                  have HFU := hidI hlf
                  have HFL := hidI hfl
                  have HTH := hidI hth
                  have HAE := hidI hae
                  by_cases hlk : k < n
                  · have k1 : decide ((k : Int) < (n : Int)) = true := decide_eq_true (by omega)
                    have k2 : 0 ≤ (k : Int) := by omega
                    have k3 : (k : Int) < (n : Int) := by omega
                    have k4 : ((k : Int)).toNat = k := by omega
                    obtain ⟨y, hy, -⟩ := get_of (l := F) (i := k) (by omega)
                    obtain ⟨a9, c9, he9, hcl⟩ := Lst.shape hlf
                    simp only [Value.slice.injEq] at he9
                    obtain ⟨g9, hg9, s0, s1, hfr⟩ := hcl k y hy
                    rw [← he9.1] at hg9
                    simp only [Option.some.injEq, Addr.mk.injEq] at hg9
                    rw [← hg9.1] at s0 s1 hfr
                    have f0 := hfr (k * 2)
                    have f1 := hfr (k * 2 + 1)
                    have m3 : IntKind.i64.wrap (3 * (k : Int)) = 3 * (k : Int) := by rw [IntKind.wrap_i64]; omega
                    have m4 : IntKind.i64.wrap (3 * (k : Int) + 2) = 3 * (k : Int) + 2 := by rw [IntKind.wrap_i64]; omega
                    have HF2 := hidI (hlf.put hfl.symm (k := k) (by omega) (3 * (k : Int), 3 * (k : Int) + 2))
                    have HA2 : Hid (Away [gf] wE _) := hae.next (away_put2 (w := wr) (g := gf) (k := k) (3 * (k : Int), 3 * (k : Int) + 2)) (fun x hx => .inl hx)
                    have HL2 : Hid ((F.set k (3 * (k : Int), 3 * (k : Int) + 2)).length = n + 2) := by show _ = _; rw [List.length_set]; exact hfl
                    have HT2 : Hid (∀ q, q < k + 1 → (F.set k (3 * (k : Int), 3 * (k : Int) + 2))[q]? = some (3 * (q : Int), 3 * (q : Int) + 2)) := fun q hq => by
                      by_cases e : q = k
                      · subst e; rw [List.getElem?_set_self (by omega)]
                      · rw [List.getElem?_set_ne (fun x => e x.symm)]; exact hth q (by omega)
                    clear hlf hfl hth hae hy hcl he9 hg9 hfr HFU HFL HTH HAE
                    go_wp2_with fail
                    go_roundw
                    case rel => exact ⟨k + 1, _, by go_num, by omega, HF2.out, HL2.out, HT2.out, HA2.out⟩
                    case measure => simp [intOf]; omega
                  · have k1 : decide ((k : Int) < (n : Int)) = false := decide_eq_false (by omega)
                    have k1' : decide (k < n) = false := decide_eq_false (by omega)
                    have hkn : k = n := by omega
                    have HTL : Hid (∀ q, q < n → F[q]? = some (3 * (q : Int), 3 * (q : Int) + 2)) := fun q hq => hth q (by omega)
                    have HGT : Hid (Gr wA.heap.size wr (.slice (some ⟨kg, 0, none⟩) 12 kc) T) := HGR.out.off hae (fun x hx => by simp at hx; subst hx; exact HGL.out)
                    have HGW : Hid (Gr wC.heap.size wr (.slice (some ⟨wg, 0, none⟩) 12 sc) S) := HGS.out.off hae (fun x hx => by simp at hx; subst hx; have h1 := HGL.out; have h2 := HSC.out; omega)
                    have HSG : Hid (wA.heap.size ≤ wr.heap.size) := by have h1 := HAA.out.size; have h2 := hae.size; show _ ≤ _; omega
                    have HWX : Hid (Away [] W wr) := (HWA.out.trans HAA.out).next hae (fun x hx => .inr (by simp at hx; subst hx; exact HGN.out))
                    have HIN : Hid (Sl wr (some ⟨gf, 0, none⟩) fc (thrL n)) := by
                      obtain ⟨a9, c9, he9, hcl⟩ := Lst.shape hlf
                      simp only [Value.slice.injEq] at he9
                      refine ⟨⟨by rw [thr_len]; omega, thr_ok n (by omega), .inr ⟨gf, 0, rfl, fun q x hx => ?_⟩⟩, by simp, by rw [thr_len]; omega⟩
                      have hq : q < n := by have := get_lt hx; rw [thr_len] at this; exact this
                      have hx2 : F[q]? = some x := by rw [← thr_of HTL.out, List.getElem?_take_of_lt hq] at hx; exact hx
                      obtain ⟨g9, hg9, s0, s1, -⟩ := hcl q x hx2
                      rw [← he9.1] at hg9
                      simp only [Option.some.injEq, Addr.mk.injEq] at hg9
                      rw [← hg9.1] at s0 s1
                      rw [Nat.zero_add]
                      exact ⟨s0, s1⟩
                    have NT : Hid ((thrL n).length = n) := thr_len n
                    clear hkn hlf hfl hth hae HGR HGS HAA HFU HFL HTH HAE HTL
                    generalize hwG : wr = wG at *
                    clear hwG
                    go_wp2_with fail
                    refine (normM (by exact HIN.out) NT.out).mono ?_
                    rintro E w2 ⟨lx, ex, hnx, vx, rfl, hmk⟩
                    obtain ⟨vxa, vxn, vxc, hvx⟩ := hmk.1.shp
                    subst hvx
                    have HUP : Hid (Up wG w2 [(Value.slice vxa vxn vxc, lx)]) := (Up.nil wG).snoc hmk
                    have haw := hmk.2.2
                    have HGR : Hid (Gr wA.heap.size w2 (.slice (some ⟨kg, 0, none⟩) 12 kc) T) := HGT.out.on haw
                    by_cases h20 : n ≤ 20000
                    · replace HIN := hidI (HIN.out.on haw)
                      replace HGW := hidI (HGW.out.on haw)
                      replace HWX := hidI (HWX.out.trans haw)
                      clear haw
                      have HLEN : Hid (lx.length ≤ 100000) := by
                        rcases hnx with ⟨_, h2, _⟩ | ⟨_, rfl, _⟩
                        · have := right_short h2.right; show _ ≤ _; omega
                        · show _ ≤ _; simp
                      obtain ⟨rfl, rfl⟩ := norm_right hnx (thr_right n h20).1
                      obtain ⟨xa, xc, hxe, hxs⟩ := hmk.sl (by rw [thr_len]; omega) (thr_ok n (by omega))
                      rw [thr_len] at hxe
                      simp only [Value.slice.injEq] at hxe
                      obtain ⟨rfl, e2, rfl⟩ := hxe
                      have e2' := e2.symm
                      clear e2
                      subst e2'
                      have HXS := hidI hxs
                      have HSZ2 : Hid (sizeP (thrL n) = 2 * (n : Int)) := by show _ = _; unfold sizeP; rw [if_pos (thr_right n h20).1, thr_size]
                      clear hmk hnx hxs
                      have d1 : decide ((n : Int) ≤ 20000) = true := decide_eq_true (by omega)
                      have m5 : IntKind.i64.wrap (2 * (n : Int)) = 2 * (n : Int) := by rw [IntKind.wrap_i64]; omega
                      generalize thrL n = th at *
                      go_wp2_with fail
                      refine (sizeS (by exact HIN.out) NT.out HSZ2.out).mono ?_
                      rintro E w2 ⟨rfl, haw⟩
                      replace HIN := hidI (HIN.out.on haw)
                      replace HXS := hidI (HXS.out.on haw)
                      replace HGW := hidI (HGW.out.on haw)
                      replace HWX := hidI (HWX.out.trans haw)
                      replace HUP := hidI (HUP.out.on haw)
                      clear haw
                      go_wp2_with fail
                      refine (same_s (z := true) (l := th) (m := th) (by exact HXS.out) (by exact HIN.out) NT.out NT.out (by simp)).mono ?_
                      rintro E w2 ⟨rfl, haw⟩
                      replace HGW := hidI (HGW.out.on haw)
                      replace HWX := hidI (HWX.out.trans haw)
                      replace HUP := hidI (HUP.out.on haw)
                      clear haw HXS HIN
                      go_wp2_with fail
                      generalize hwH : w2 = wH at *
                      clear hwH
                      replace HGR := hidI (HGT.out.on HUP.out.aw)
                      go_loopw [35] (fun x wr => ∃ (k : Nat), x = .int .i64 (k : Int) ∧ k ≤ 12 ∧ Away [] wH wr) (fun x _ => 12 - (intOf x).toNat)
                      case atStart => exact ⟨0, rfl, by omega, Away.refl _ _⟩
                      case round =>
                        obtain ⟨k, rfl, hk, hac⟩ := hrel
                        have HAD := hidI hac
                        clear hac
                        by_cases hlk : k < 12
                        · have k1 : decide ((k : Int) < 12) = true := decide_eq_true (by omega)
                          have k2 : 0 ≤ (k : Int) := by omega
                          have k4 : ((k : Int)).toNat = k := by omega
                          obtain ⟨v, l, hvl⟩ := getH HT12.out hlk
                          obtain ⟨u, hul⟩ := HTS.out k v l hvl
                          have z1 := (HGR.out.on HAD.out).cell hvl
                          have z2 := (HGW.out.on HAD.out).cell hul
                          obtain ⟨va, vc, ln, rfl, hll, hsl⟩ := (HGR.out.on HAD.out).sl hvl (HTO.out k v l hvl)
                          obtain ⟨ua, uc, lm, rfl, hlm, hsm⟩ := (HGW.out.on HAD.out).sl hul (HTO.out k _ l hvl)
                          obtain rfl : ln = lm := by omega
                          have KS : Hid (∀ q, Calls Try.prog 11 #[.slice va ln vc, .slice ua ln uc] (wr.drewN q) fun E w' => E = .returned (.bool true) ∧ ∃ n, w' = (wr.drewN q).drewN n) := fun q => same_b va ua l l ln ln vc uc _ hll hll (hsl.row.drewN q) (hsm.row.drewN q) (by simp)
                          clear hll hlm hsl hsm hvl hul
                          go_wp2_with fail
                          refine wp_region_cls (C := DrewC wr) (by kernel_rfl) (by kernel_rfl) ⟨1, rfl⟩ ?_
                          go_big_quiet_want; (refine quiet_val ?_ ?_ ?_; rotate_left; (intro w; go_simp; rfl); go_simp; go_big_quiet_on)
                          go_big_quiet_want; (refine quiet_val ?_ ?_ ?_; rotate_left; (intro w; go_simp; rfl); go_simp; go_big_quiet_on)
                          go_big_quiet_want; refine quiet_ix33 _ _ rfl k rfl rfl (by omega) ?_; go_simp; go_big_quiet_on
                          go_big_quiet_want; refine quiet_ld _ rfl (ad := ⟨kg, k, none⟩) rfl (fun w' h => ld22 (h.cell z1)) ?_; go_simp; go_big_quiet_on
                          go_big_quiet_want; (refine quiet_val ?_ ?_ ?_; rotate_left; (intro w; go_simp; rfl); go_simp; go_big_quiet_on)
                          go_big_quiet_want; (refine quiet_val ?_ ?_ ?_; rotate_left; (intro w; go_simp; rfl); go_simp; go_big_quiet_on)
                          go_big_quiet_want; refine quiet_ix33 _ _ rfl k rfl rfl (by omega) ?_; go_simp; go_big_quiet_on
                          go_big_quiet_want; refine quiet_ld _ rfl (ad := ⟨wg, k, none⟩) rfl (fun w' h => ld22 (h.cell z2)) ?_; go_simp; go_big_quiet_on
                          go_big_quiet_want; refine quiet_call 11 #[.slice va ln vc, .slice ua ln uc] (.bool true) ?_ (DrewC.call KS.out) ?_
                          · intro w; go_simp; done
                          go_simp; go_big_quiet_on
                          go_big_quiet_want; (refine quiet_val ?_ ?_ ?_; rotate_left; (intro w; go_simp; rfl); go_simp; go_big_quiet_on)
                          refine wpQuiet_nil ?_
                          intro V hV
                          obtain ⟨qV, rfl⟩ := hV
                          go_wp2_with fail
                          go_roundw
                          case rel => first | exact ⟨k + 1, by go_num, by omega, HAD.out.drewN _⟩ | exact ⟨_, _, _, _, _, _, _, _, _, _, _, _, _, _, _, ⟨k + 1, by go_num, by omega, HAD.out.drewN _⟩, rfl⟩ | exact ⟨_, _, _, _, _, _, _, _, _, _, _, _, _, _, _, _, ⟨k + 1, by go_num, by omega, HAD.out.drewN _⟩, rfl⟩ | exact ⟨_, _, _, _, _, _, _, _, _, _, _, _, _, _, _, _, _, ⟨k + 1, by go_num, by omega, HAD.out.drewN _⟩, rfl⟩ | exact ⟨_, _, _, _, _, _, _, _, _, _, _, _, _, _, _, _, _, _, ⟨k + 1, by go_num, by omega, HAD.out.drewN _⟩, rfl⟩ | exact ⟨_, _, _, _, _, _, _, _, _, _, _, _, _, _, _, _, _, _, _, ⟨k + 1, by go_num, by omega, HAD.out.drewN _⟩, rfl⟩ | exact ⟨_, _, _, _, _, _, _, _, _, _, _, _, _, _, _, _, _, _, _, _, ⟨k + 1, by go_num, by omega, HAD.out.drewN _⟩, rfl⟩
                          case measure => simp [intOf]; omega
                        · have k1 : decide ((k : Int) < 12) = false := decide_eq_false (by omega)
                          have k1' : decide (k < 12) = false := decide_eq_false (by omega)
                          replace HUP := hidI (HUP.out.on HAD.out)
                          replace HWX := hidI (HWX.out.trans HAD.out)
                          have HONE := hidI HUP.out.one
                          have HKL := hidI (HGT.out.on HUP.out.aw)
                          clear HGR HGW
                          go_wp2_with (at_builtin; first | (refine wpList_appV rfl _ _ rfl _ (T.map (·.1)) [(Value.slice vxa n vxc)] rfl (by exact (HKL.out.on ((Away.refl [] _).alloc _)).kl) ⟨_, 0, none⟩ 1 1 rfl rfl (by exact lit6 _ [(Value.slice vxa n vxc)] 22) (fun u hu => by simp at hu; subst hu; exact HONE.out (_, th) (by simp)) (by have := HT12.out; rw [List.length_map]; omega) ?_))
                          intro kv2 w9 hkl hawk hmovk
                          have HG2 : Hid (Gr wA.heap.size w9 kv2 (T ++ [((Value.slice vxa n vxc), th)])) := HGT.out.join HSG.out (HUP.out.on ((Away.refl [] _).alloc _)) hkl hawk hmovk
                          have HA2 : Hid (Away [] W w9) := (HWX.out.alloc _).next hawk (fun k hk => .inr (by have h1 := HGT.out.newk k (by simpa using hk); have h2 := HWA.out.size; omega))
                          have HTT : Hid ((T ++ [((Value.slice vxa n vxc), th)]).length ≤ 1000) := by have := HT12.out; show _ ≤ _; simp; omega
                          have HTB : Hid (∀ t ∈ T ++ [((Value.slice vxa n vxc), th)], t.2.length ≤ 100000) := fun t ht => by
                            rcases List.mem_append.1 ht with h | h
                            · obtain ⟨i, hi⟩ := List.getElem?_of_mem h
                              exact (HTO.out i t.1 t.2 hi).1
                            · simp at h; subst h; exact HLEN.out
                          clear hkl hawk hmovk
                          go_wp2_with fail
                          refine (apart_c W.heap.size W _ kv2 _ (HG2.out.ap HA2.out.to_below HWA.out.size (HA2.out.size)) HTT.out HTB.out).mono ?_
                          rintro E w8 ⟨rfl, hbl⟩
                          go_wp2_with fail
                          go_ret
                          exact ⟨rfl, hbl⟩
                    · replace HIN := hidI (HIN.out.on haw)
                      replace HGW := hidI (HGW.out.on haw)
                      replace HWX := hidI (HWX.out.trans haw)
                      clear haw
                      have HLEN : Hid (lx.length ≤ 100000) := by
                        rcases hnx with ⟨_, h2, _⟩ | ⟨_, rfl, _⟩
                        · have := right_short h2.right; show _ ≤ _; omega
                        · show _ ≤ _; simp
                      have d1 : decide ((n : Int) ≤ 20000) = false := decide_eq_false (by omega)
                      have d1' : decide (n ≤ 20000) = false := decide_eq_false (by omega)
                      clear hmk hnx
                      obtain ⟨zs2, hzs2⟩ : ∃ z, sizeP (thrL n) = z := ⟨_, rfl⟩
                      have HZS2 := hidI hzs2
                      clear hzs2
                      go_wp2_with fail
                      refine (sizeS (by exact HIN.out) NT.out HZS2.out).mono ?_
                      rintro E w2 ⟨rfl, haw⟩
                      replace HGW := hidI (HGW.out.on haw)
                      replace HWX := hidI (HWX.out.trans haw)
                      replace HUP := hidI (HUP.out.on haw)
                      clear haw HIN
                      go_wp2_with fail
                      generalize hwH : w2 = wH at *
                      clear hwH
                      replace HGR := hidI (HGT.out.on HUP.out.aw)
                      go_loopw [35] (fun x wr => ∃ (k : Nat), x = .int .i64 (k : Int) ∧ k ≤ 12 ∧ Away [] wH wr) (fun x _ => 12 - (intOf x).toNat)
                      case atStart => exact ⟨0, rfl, by omega, Away.refl _ _⟩
                      case round =>
                        obtain ⟨k, rfl, hk, hac⟩ := hrel
                        have HAD := hidI hac
                        clear hac
                        by_cases hlk : k < 12
                        · have k1 : decide ((k : Int) < 12) = true := decide_eq_true (by omega)
                          have k2 : 0 ≤ (k : Int) := by omega
                          have k4 : ((k : Int)).toNat = k := by omega
                          obtain ⟨v, l, hvl⟩ := getH HT12.out hlk
                          obtain ⟨u, hul⟩ := HTS.out k v l hvl
                          have z1 := (HGR.out.on HAD.out).cell hvl
                          have z2 := (HGW.out.on HAD.out).cell hul
                          obtain ⟨va, vc, ln, rfl, hll, hsl⟩ := (HGR.out.on HAD.out).sl hvl (HTO.out k v l hvl)
                          obtain ⟨ua, uc, lm, rfl, hlm, hsm⟩ := (HGW.out.on HAD.out).sl hul (HTO.out k _ l hvl)
                          obtain rfl : ln = lm := by omega
                          have KS : Hid (∀ q, Calls Try.prog 11 #[.slice va ln vc, .slice ua ln uc] (wr.drewN q) fun E w' => E = .returned (.bool true) ∧ ∃ n, w' = (wr.drewN q).drewN n) := fun q => same_b va ua l l ln ln vc uc _ hll hll (hsl.row.drewN q) (hsm.row.drewN q) (by simp)
                          clear hll hlm hsl hsm hvl hul
                          go_wp2_with fail
                          refine wp_region_cls (C := DrewC wr) (by kernel_rfl) (by kernel_rfl) ⟨1, rfl⟩ ?_
                          go_big_quiet_want; (refine quiet_val ?_ ?_ ?_; rotate_left; (intro w; go_simp; rfl); go_simp; go_big_quiet_on)
                          go_big_quiet_want; (refine quiet_val ?_ ?_ ?_; rotate_left; (intro w; go_simp; rfl); go_simp; go_big_quiet_on)
                          go_big_quiet_want; refine quiet_ix33 _ _ rfl k rfl rfl (by omega) ?_; go_simp; go_big_quiet_on
                          go_big_quiet_want; refine quiet_ld _ rfl (ad := ⟨kg, k, none⟩) rfl (fun w' h => ld22 (h.cell z1)) ?_; go_simp; go_big_quiet_on
                          go_big_quiet_want; (refine quiet_val ?_ ?_ ?_; rotate_left; (intro w; go_simp; rfl); go_simp; go_big_quiet_on)
                          go_big_quiet_want; (refine quiet_val ?_ ?_ ?_; rotate_left; (intro w; go_simp; rfl); go_simp; go_big_quiet_on)
                          go_big_quiet_want; refine quiet_ix33 _ _ rfl k rfl rfl (by omega) ?_; go_simp; go_big_quiet_on
                          go_big_quiet_want; refine quiet_ld _ rfl (ad := ⟨wg, k, none⟩) rfl (fun w' h => ld22 (h.cell z2)) ?_; go_simp; go_big_quiet_on
                          go_big_quiet_want; refine quiet_call 11 #[.slice va ln vc, .slice ua ln uc] (.bool true) ?_ (DrewC.call KS.out) ?_
                          · intro w; go_simp; done
                          go_simp; go_big_quiet_on
                          go_big_quiet_want; (refine quiet_val ?_ ?_ ?_; rotate_left; (intro w; go_simp; rfl); go_simp; go_big_quiet_on)
                          refine wpQuiet_nil ?_
                          intro V hV
                          obtain ⟨qV, rfl⟩ := hV
                          go_wp2_with fail
                          go_roundw
                          case rel => first | exact ⟨k + 1, by go_num, by omega, HAD.out.drewN _⟩ | exact ⟨_, _, _, _, _, _, _, _, _, _, _, _, _, _, _, ⟨k + 1, by go_num, by omega, HAD.out.drewN _⟩, rfl⟩ | exact ⟨_, _, _, _, _, _, _, _, _, _, _, _, _, _, _, _, ⟨k + 1, by go_num, by omega, HAD.out.drewN _⟩, rfl⟩ | exact ⟨_, _, _, _, _, _, _, _, _, _, _, _, _, _, _, _, _, ⟨k + 1, by go_num, by omega, HAD.out.drewN _⟩, rfl⟩ | exact ⟨_, _, _, _, _, _, _, _, _, _, _, _, _, _, _, _, _, _, ⟨k + 1, by go_num, by omega, HAD.out.drewN _⟩, rfl⟩ | exact ⟨_, _, _, _, _, _, _, _, _, _, _, _, _, _, _, _, _, _, _, ⟨k + 1, by go_num, by omega, HAD.out.drewN _⟩, rfl⟩ | exact ⟨_, _, _, _, _, _, _, _, _, _, _, _, _, _, _, _, _, _, _, _, ⟨k + 1, by go_num, by omega, HAD.out.drewN _⟩, rfl⟩
                          case measure => simp [intOf]; omega
                        · have k1 : decide ((k : Int) < 12) = false := decide_eq_false (by omega)
                          have k1' : decide (k < 12) = false := decide_eq_false (by omega)
                          replace HUP := hidI (HUP.out.on HAD.out)
                          replace HWX := hidI (HWX.out.trans HAD.out)
                          have HONE := hidI HUP.out.one
                          have HKL := hidI (HGT.out.on HUP.out.aw)
                          clear HGR HGW
                          go_wp2_with (at_builtin; first | (refine wpList_appV rfl _ _ rfl _ (T.map (·.1)) [(Value.slice vxa vxn vxc)] rfl (by exact (HKL.out.on ((Away.refl [] _).alloc _)).kl) ⟨_, 0, none⟩ 1 1 rfl rfl (by exact lit6 _ [(Value.slice vxa vxn vxc)] 22) (fun u hu => by simp at hu; subst hu; exact HONE.out (_, lx) (by simp)) (by have := HT12.out; rw [List.length_map]; omega) ?_))
                          intro kv2 w9 hkl hawk hmovk
                          have HG2 : Hid (Gr wA.heap.size w9 kv2 (T ++ [((Value.slice vxa vxn vxc), lx)])) := HGT.out.join HSG.out (HUP.out.on ((Away.refl [] _).alloc _)) hkl hawk hmovk
                          have HA2 : Hid (Away [] W w9) := (HWX.out.alloc _).next hawk (fun k hk => .inr (by have h1 := HGT.out.newk k (by simpa using hk); have h2 := HWA.out.size; omega))
                          have HTT : Hid ((T ++ [((Value.slice vxa vxn vxc), lx)]).length ≤ 1000) := by have := HT12.out; show _ ≤ _; simp; omega
                          have HTB : Hid (∀ t ∈ T ++ [((Value.slice vxa vxn vxc), lx)], t.2.length ≤ 100000) := fun t ht => by
                            rcases List.mem_append.1 ht with h | h
                            · obtain ⟨i, hi⟩ := List.getElem?_of_mem h
                              exact (HTO.out i t.1 t.2 hi).1
                            · simp at h; subst h; exact HLEN.out
                          clear hkl hawk hmovk
                          go_wp2_with fail
                          refine (apart_c W.heap.size W _ kv2 _ (HG2.out.ap HA2.out.to_below HWA.out.size (HA2.out.size)) HTT.out HTB.out).mono ?_
                          rintro E w8 ⟨rfl, hbl⟩
                          go_wp2_with fail
                          go_ret
                          exact ⟨rfl, hbl⟩
  · go_wp2_with fail
    go_ret
    exact ⟨rfl, HW.out.to_below⟩
end spanMemory
namespace spanMemory
theorem lifted (os : Os) (started : os.Started) (H : Type) (enc : TypeId × Value → H) :
    ReturnsInHanded {} Try.checked os 4 .any (Rows.spanMemorySpec.pre6 enc Try.prog Try.f4 Rows.spanMemoryRow.domain false) (Rows.spanMemorySpec.post enc Try.prog Try.f4 false true false false) := by
  refine returnsInHanded_of_change_sized (C := Try.checked) ownKn started (by kernel_rfl) Try.func4
    (ChangeSpec.witness6 (enc := enc) (C := Try.checked) false ⟨#[], #[.slice none 0 0, .agg #[.int .i64 0, .int .i64 0], .int .i64 0], []⟩ 8 (by kernel_rfl) (by kernel_rfl) (by kernel_rfl) (by kernel_rfl)) ?_
  intro W base args ds gs before hval0 hW _ hsz0 _
  have hsz : (DataW.weightsEach Try.prog (Try.f4.params.toList ++ Rows.spanMemorySpec.plain.varTypes Try.prog) (ds ++ gs)).all (· ≤ reachBytes) = true := hsz0
  clear hsz0
  have hval : ∀ (j : Nat) t v, Try.f4.params[j]? = some t → args[j]? = some v → Value.okWide Try.prog W .any base t v := hval0
  have hW' := hW
  obtain ⟨p, q, hA0, hV, rfl, hfz, hnd⟩ := hW
  have hA : DataW.TrodAll enc Try.prog W 0 (fun _ => true) true Try.f4.params.toList args.toList ds p := hA0
  rw [Try.params4] at hA hval hsz
  obtain ⟨v0, vs0, d0, ds0, p0, q0, hargs, rfl, rfl, h0, r0⟩ := trodAll_cons hA
  obtain ⟨v1, vs1, d1, ds1, p1, q1, rfl, rfl, rfl, h1, r1⟩ := trodAll_cons r0
  obtain ⟨v2, vs2, d2, ds2, p2, q2, rfl, rfl, rfl, h2, r2⟩ := trodAll_cons r1
  obtain ⟨rfl, rfl, rfl⟩ := trodAll_nil r2
  obtain rfl : args = #[v0, v1, v2] := by cases args; simp_all
  have hV2 : DataW.TrodVars enc Try.prog W (fun _ => true) Rows.spanMemorySpec.vars gs q := hV
  obtain ⟨rfl, rfl⟩ := trodVars_none hV2
  have k0 := h0
  have lt0 : ∀ x ∈ p0, x.block < W.heap.size := by obtain ⟨m, hm⟩ := k0; exact DataW.trod_lt m _ _ _ hm
  have z0 : ∀ m ∈ d0.weights Try.prog 22, m ≤ reachBytes := fun m hm => by
    have := List.all_eq_true.1 hsz m (DataW.weights_mem_each (j := 0) (t := 22) rfl rfl m hm)
    simpa using this
  obtain ⟨a0, len0, cap0, rfl⟩ := okWide_slice Try.underlying22 (hval 0 22 v0 rfl rfl)
  obtain ⟨l0, rfl, w0, u0, b0⟩ := open_spans h0 z0 lt0
  have k1 := h1
  have lt1 : ∀ x ∈ p1, x.block < W.heap.size := by obtain ⟨m, hm⟩ := k1; exact DataW.trod_lt m _ _ _ hm
  have z1 : ∀ m ∈ d1.weights Try.prog 29, m ≤ reachBytes := fun m hm => by
    have := List.all_eq_true.1 hsz m (DataW.weights_mem_each (j := 1) (t := 29) rfl rfl m hm)
    simpa using this
  obtain ⟨x1, rfl, w1⟩ := open_sp (hval 1 29 v1 rfl rfl) h1
  obtain ⟨a2, rfl, rfl, rfl, w2⟩ := open_int Try.underlying3 (hval 2 3 v2 rfl rfl) h2
  clear hA0 hval0
  refine (walk a0 l0 cap0 x1 a2 W w0 b0 w1 w2).mono fun e W' ⟨he, bel⟩ => ?_
  subst he
  exact ⟨_, rfl, _, _, _, [], _, [], hW', trodAll_mk1 (shut_bool Try.underlying4 _), (trodAll_cons_mk (Below.trod laidOut (by kernel_rfl) (of_decide_eq_true (by kernel_rfl)) k0 bel lt0) (trodAll_cons_mk (Below.trod laidOut (by kernel_rfl) (of_decide_eq_true (by kernel_rfl)) k1 bel lt1) (trodAll_cons_mk (shut_int Try.underlying3 w2) trodAll_mk0))), rfl, bel.frame _, fun h => by cases h⟩
theorem over : Rows.spanMemoryRow.holds Try.pinned (OpenSpec.ofChange Rows.spanMemorySpec) :=
  OpenClaim.holds_of_wide 4 Try.f4 rfl rfl rfl rfl rfl rfl rfl ⟨rfl, rfl, rfl, rfl, rfl⟩ rfl rfl rfl rfl rfl (by kernel_rfl) Try.func4 (by kernel_rfl)
    (of_decide_eq_true (by kernel_rfl)) (by unfold Func.isWrapper; first | (rw [if_pos (by decide +kernel)]; kernel_rfl) | (rw [if_neg (by decide +kernel)]; exact ⟨rfl, rfl⟩))
    (fun os started H enc _ => lifted os started H enc)
end spanMemory
theorem spanMemory_holds : Rows.SpanMemorySaid := spanMemory.over
#print axioms spanMemory_holds
end Go.Proofs.Ytckiiidigajhpaa
