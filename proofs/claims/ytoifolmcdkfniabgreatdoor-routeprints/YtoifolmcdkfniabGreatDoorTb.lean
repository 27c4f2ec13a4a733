/-
  New, Find, All; the law's own, same.
-/
import Derived.Test.YtoifolmcdkfniabGreatDoorRo
namespace Go.Proofs.YtoifolmcdkfniabGreatDoor
open Go.ChangeShapes Go.WideShapes Go.ChangeAt Go.RowKit
set_option linter.unusedVariables false
set_option linter.unusedSimpArgs false
set_option maxRecDepth 100000

/-- A table in memory. -/
structure Tm (w : World) (g : Nat) (v : Value) (S : List Rt) : Prop where
  box : w.heap[g]? = some (.cells #[v] 77 (0, 0))
  lst : LstD w v S
  ne : ∀ k, v.ownBlock = some k → k ≠ g
  ok : ∀ x ∈ S, Okr x
  len : S.length ≤ 32
theorem Tm.away {S : List Nat} {w w' : World} {g : Nat} {v : Value} {L : List Rt} (h : Tm w g v L) (hw : Away S w w') (hg : g ∉ S) (hv : ∀ k, v.ownBlock = some k → k ∉ S) : Tm w' g v L := ⟨hw.keep hg h.box, h.lst.away hw hv, h.ne, h.ok, h.len⟩
theorem Tm.on {w w' : World} {g : Nat} {v : Value} {L : List Rt} (h : Tm w g v L) (hw : Away [] w w') : Tm w' g v L := h.away hw (by simp) (by simp)
theorem Tm.c0 {w : World} {g : Nat} {v : Value} {L : List Rt} (h : Tm w g v L) : w.cell? ⟨g, 0, none⟩ = some v := by rw [cell_of_block h.box]; rfl
theorem Tm.rd {w : World} {g : Nat} {v : Value} {L : List Rt} (h : Tm w g v L) : Rd w v L := h.lst.rd h.ok
theorem ord_ok {L S : List Rt} (h : IsOrd L S) (hA : ∀ x ∈ L, Okr x) : ∀ x ∈ S, Okr x := fun x hx => hA x (h.1.mem_iff.1 hx)
def NewOut (w : World) (L : List Rt) (E : Ending) (w' : World) : Prop :=
  (mayL L = false ∧ E = .returned (.tuple #[.pointer none, .int .i64 1]) ∧ Away [] w w') ∨
  (mayL L = true ∧ ∃ g v S, E = .returned (.tuple #[.pointer (some ⟨g, 0, none⟩), .int .i64 0]) ∧ IsOrd L S ∧ Tm w' g v S ∧ w.heap.size ≤ g ∧ New w.heap.size v ∧ Away [] w w')
theorem run_buildT (w : World) (a : Option Addr) (n c : Nat) : (Instr.build 77 #[(0, .slice a n c)]).run Tryz.prog w = .ok (.agg #[.slice a n c]) w := by kernel_rfl
theorem run_boxT (w : World) (cs : Array Value) : (Instr.box 77 (.agg cs)).run Tryz.prog w = .ok (.pointer (some ⟨w.heap.size, 0, none⟩)) (w.alloc (.cells cs 77)) := by
  simp only [Instr.box, newVar, newRow, Value.cells, run_newObj_alloc, Sem.run_bind, Sem.run_pure, Result.andThen_ok]
theorem wpList_boxT {ops : Array Oper} {rest : List Oper} {o : Oper} {a : Act} {w : World} {Q : Exit → Act → World → Prop} (hg : o.guard = none) (x : Operand) (ho : o.op = .box 77 x) (v : Value) (hx : a.eval x = .agg #[v])
    (h : ∀ g w1, g = w.heap.size → w1.heap[g]? = some (.cells #[v] 77 (0, 0)) → Away [] w w1 → wpList Tryz.prog ops Q rest (a.put o.dst (.pointer (some ⟨g, 0, none⟩))) w1) : wpList Tryz.prog ops Q (o :: rest) a w := by
  refine wpList_plain hg fun K hK => ?_
  unfold Oper.wp execOp
  simp only [ho, hx, Sem.run_bind, Instr.box, newVar, newRow, Value.cells, run_newObj_alloc, Sem.run_pure, Result.andThen_ok]
  exact hK _ _ (h w.heap.size _ rfl (block_new _ _) ((Away.refl [] w).alloc _))
set_option maxHeartbeats 4000000 in
theorem new_c {w : World} {v : Value} {L : List Rt} (h : Rd w v L) (hl : L.length ≤ 3518437208790) : Calls Tryz.prog 17 #[v] w (NewOut w L) := by
  have HC := Lib.hid (inOrder_c h hl)
  have HOK := Lib.hid h.ok
  obtain ⟨a, cap, rfl, -, -⟩ := h.shp
  obtain ⟨n, hn⟩ : ∃ n, n = L.length := ⟨_, rfl⟩
  rw [← hn] at HC ⊢
  clear h hl hn
  go_enter Tryz.func17, Tryz.ntmps17
  go_wp2_with (go_at_call 8; refine HC.out.mono ?_; refine Hid.out ?_)
  refine Lib.hid ?_
  rintro E w2 (⟨hm, rfl, haw⟩ | ⟨hm, v, S, rfl, ho, hown, hnew, haw⟩)
  · have HM := Lib.hid hm
    have HA := Lib.hid haw
    clear hm haw HC
    go_wp2_with fail
    go_ret2
    exact .inl ⟨HM.out, rfl, HA.out⟩
  · have HM := Lib.hid hm
    have HA := Lib.hid haw
    have HO := Lib.hid ho
    have HL := Lib.hid hown
    have HNW := Lib.hid hnew
    obtain ⟨b, c, rfl, -⟩ := hown.sl
    obtain ⟨m, hm'⟩ : ∃ m, m = S.length := ⟨_, rfl⟩
    rw [← hm'] at HL HNW ⊢
    have HB := Lib.hid (fun w => run_buildT w b m c)
    clear hm haw ho hown hnew HC hm'
    have hb := HB.out
    go_wp2_with (refine wpList_boxT rfl _ rfl _ rfl ?_; refine Hid.out ?_)
    refine Lib.hid ?_
    intro g w3 hg hbx haw
    have HG := Lib.hid hg
    have HBX := Lib.hid hbx
    have HA3 := Lib.hid (HA.out.trans haw)
    have HL3 := Lib.hid (HL.out.on haw)
    clear hg hbx haw hb
    go_wp2_with fail
    go_ret2
    refine .inr ⟨HM.out, g, _, S, rfl, HO.out, ⟨HBX.out, HL3.out, fun k hk => ?_, ord_ok HO.out HOK.out, ?_⟩, ?_, HNW.out, HA3.out⟩
    · have := HL.out.lt k hk
      rw [HG.out]; omega
    · rw [HO.out.1.length_eq]; exact (mayL_iff.1 HM.out).1
    · rw [HG.out]; exact HA.out.size
/-- What Find answers. -/
def findA (v : Int) (l : List Int) (S : List Rt) : Int × Int := if validP v l = true then (match findP v l S with | some x => (x.k, 0) | none => (0, 210)) else (0, 1)
theorem findA_bad {v : Int} {l : List Int} {S : List Rt} (h : validP v l = false) : findA v l S = (0, 1) := by unfold findA; rw [if_neg (by simp [h])]
theorem findA_some {v : Int} {l : List Int} {S : List Rt} {x : Rt} (h : validP v l = true) (hx : findP v l S = some x) : findA v l S = (x.k, 0) := by unfold findA; rw [if_pos h, hx]
theorem findA_none {v : Int} {l : List Int} {S : List Rt} (h : validP v l = true) (hx : findP v l S = none) : findA v l S = (0, 210) := by unfold findA; rw [if_pos h, hx]
theorem find_last {v : Int} {l : List Int} {S : List Rt} {j : Nat} {x : Rt} (hx : S[j]? = some x) (hh : hitR v l x = true) (hno : ∀ (i : Nat) (y : Rt), j < i → S[i]? = some y → hitR v l y = false) : findP v l S = some x := by
  unfold findP
  rw [List.find?_eq_some_iff_append]
  have hj := (List.getElem?_eq_some_iff.1 hx).1
  have hxe := (List.getElem?_eq_some_iff.1 hx).2
  refine ⟨hh, (S.drop (j + 1)).reverse, (S.take j).reverse, ?_, fun y hy => ?_⟩
  · have e : S = S.take j ++ x :: S.drop (j + 1) := by
      rw [← hxe, ← List.drop_eq_getElem_cons hj, List.take_append_drop]
    have := congrArg List.reverse e
    simpa using this
  · rw [List.mem_reverse, List.mem_drop_iff_getElem] at hy
    obtain ⟨i, hi, rfl⟩ := hy
    have := hno (j + 1 + i) _ (by omega) (List.getElem?_eq_getElem (by omega))
    simp [this]

set_option maxHeartbeats 4000000 in
theorem find_c {w : World} {g : Nat} {u : Value} {S : List Rt} (h : Tm w g u S) (v : Int) (l : List Int) (hl : l.length = 16) :
    Calls Tryz.prog 19 #[.pointer (some ⟨g, 0, none⟩), .agg (csA v l)] w fun E w' => E = .returned (.tuple #[.int .i64 (findA v l S).1, .int .i64 (findA v l S).2]) ∧ Away [] w w' := by
  have H := Lib.hid h
  have HL := Lib.hid hl
  have HOK := Lib.hid h.ok
  have hlen := h.len
  obtain ⟨a, cap, hu, hcap, hsh⟩ := h.rd.shp
  obtain ⟨n, hn⟩ : ∃ n, n = S.length := ⟨_, rfl⟩
  rw [← hn] at hu hcap hlen
  have HU := Lib.hid hu
  have HSH := Lib.hid hsh
  have HN := Lib.hid hn
  obtain ⟨r, hr⟩ : ∃ r, r = findA v l S := ⟨_, rfl⟩
  rw [← hr]
  obtain ⟨r1, r2⟩ := r
  have HR := Lib.hid hr
  have HV := Lib.hid (fun w => valid_c v l hl w)
  have HW := Lib.hid (fun (x : Rt) (hx : Okr x) w => within_c v x.v l x.l hl hx.1 x.b w)
  clear h hl hsh hn hr hu
  go_enter Tryz.func19, Tryz.ntmps19
  go_wp2_with (refine wpList_box32 rfl _ rfl v l rfl ?_; refine Hid.out ?_)
  refine Lib.hid ?_
  intro g3 w1 hg3 hb haw
  have HA := Lib.hid haw
  have HB := Lib.hid hb
  clear hg3 hb haw
  obtain ⟨q, hq⟩ : ∃ q, q = validP v l := ⟨_, rfl⟩
  rw [← hq] at HV
  have HQ := Lib.hid hq
  clear hq
  go_wp2_with (first
    | (refine wpList_load32 rfl _ rfl g3 rfl v l HL.out HB.out ?_)
    | (go_at_call 31; refine (HV.out _).mono ?_; refine Hid.out ?_))
  refine Lib.hid ?_
  rintro E w2 ⟨rfl, hbl⟩
  have haw := Away.of_below hbl
  have HA2 := Lib.hid (HA.out.trans haw)
  have HB2 := Lib.hid (HB.out.on haw (by simp))
  clear hbl haw HV HA HB
  cases q
  · have HE : Hid ((r1, r2) = (0, 1)) := by show _ = _; rw [HR.out]; exact findA_bad HQ.out.symm
    have h1 : r1 = 0 := congrArg Prod.fst HE.out
    have h2 : r2 = 1 := congrArg Prod.snd HE.out
    subst h1; subst h2
    go_wp2_with fail
    go_ret2
    exact ⟨rfl, HA2.out⟩
  · have c0 : w2.cell? ⟨g, 0, none⟩ = some (.slice a n cap) := by rw [← HU.out]; exact (H.out.on HA2.out).c0
    go_wp2_with fail
    clear c0
    go_loopw [6] (fun i wr => ∃ k : Nat, i = .int .i64 ((k : Int) - 1) ∧ k ≤ n ∧ Away [] w2 wr ∧ ∀ (j : Nat) (x : Rt), k ≤ j → S[j]? = some x → hitR v l x = false) (fun i _ => (intOf i + 1).toNat)
    case atStart => exact ⟨n, by go_num, Nat.le_refl _, Away.refl _ _, fun j x hj hx => by
      have := (List.getElem?_eq_some_iff.1 hx).1
      rw [← HN.out] at this; omega⟩
    case round =>
      obtain ⟨k, rfl, hk, haw, hno⟩ := hrel
      have HA3 := Lib.hid haw
      have HNO := Lib.hid hno
      clear haw hno
      rcases k with _ | k
      · have HE : Hid ((r1, r2) = (0, 210)) := by
          show _ = _; rw [HR.out]
          refine findA_none HQ.out.symm (find_none.2 fun x hx => ?_)
          obtain ⟨j, hj, rfl⟩ := List.mem_iff_getElem.1 hx
          exact HNO.out j _ (Nat.zero_le _) (by simp [hj])
        have h1 : r1 = 0 := congrArg Prod.fst HE.out
        have h2 : r2 = 210 := congrArg Prod.snd HE.out
        subst h1; subst h2
        go_wp2_with fail
        go_ret2
        exact ⟨rfl, HA2.out.trans HA3.out⟩
      · have ek : ((k + 1 : Nat) : Int) - 1 = (k : Int) := by omega
        rw [ek]
        have j0 : 0 ≤ (k : Int) := by omega
        have j1 : decide ((k : Int) ≥ 0) = true := by simp
        obtain ⟨x, hx, hxm⟩ := get_of (show k < S.length by rw [← HN.out]; omega)
        have HX := Lib.hid hx
        have HXO := Lib.hid (HOK.out x hxm)
        rcases HSH.out with he | ⟨b, o, ha, hrg⟩
        · exfalso; rw [he] at hx; simp at hx
        subst ha
        have HRG := Lib.hid (range_away (HA2.out.trans HA3.out) (by simp) (hrg k x hx))
        have c0 : wr.cell? ⟨g, 0, none⟩ = some (.slice (some ⟨b, o, none⟩) n cap) := by rw [← HU.out]; exact (H.out.on (HA2.out.trans HA3.out)).c0
        clear hrg hx hxm
        go_wp2_with (first
          | (refine wpList_ixR rfl _ _ rfl b o n cap k rfl rfl (by omega) ?_)
          | (refine wpList_loadE rfl _ rfl b (o + k * 19) rfl x HXO.out (by exact HRG.out) ?_)
          | (refine wpList_allocE rfl rfl ?_; refine Hid.out ?_))
        refine Lib.hid ?_
        intro g7 w3 hg7 hbx haw
        have HBX := Lib.hid hbx
        have hs1 := HA3.out.size
        have HB3 := Lib.hid ((HB2.out.on HA3.out (by simp)).on haw (by simp))
        have hlt := lt_of_block (HB2.out.on HA3.out (by simp))
        replace HA3 := Lib.hid (HA3.out.trans haw)
        clear haw hbx HRG c0
        go_wp2_with (refine wpList_storeE rfl _ _ rfl g7 rfl x zeroD HXO.out zeroD_ok rfl HBX.out ?_; refine Hid.out ?_)
        refine Lib.hid ?_
        intro w4 hbx haw
        replace HBX := Lib.hid hbx
        have HA4 : Hid (Away [] w2 w4) := HA3.out.next haw (fun x hx => .inr (by simp at hx; subst hx; omega))
        have HB4 := Lib.hid (HB3.out.on haw (by simp; omega))
        clear haw hbx HA3 HB3 hs1 hg7 hlt
        have HRA := Lib.hid (range_a HBX.out.range HXO.out)
        have c17 := range_b HBX.out.range HXO.out
        simp only [Nat.zero_add] at c17
        have HWX := Lib.hid (fun w => HW.out x HXO.out w)
        change Hid (∀ w, Calls Tryz.prog 43 _ w fun e w' => e = .returned (.bool (hitR v l x)) ∧ _) at HWX
        obtain ⟨q, hq⟩ : ∃ q, q = hitR v l x := ⟨_, rfl⟩
        rw [← hq] at HWX
        have HH := Lib.hid hq
        clear hq
        go_wp2_with (first
          | (refine wpList_load32 rfl _ rfl g3 rfl v l HL.out HB4.out ?_)
          | (refine wpList_load32m rfl _ rfl g7 0 rfl x.v x.l HXO.out.1 HRA.out ?_)
          | (go_at_call 43; refine (HWX.out _).mono ?_; refine Hid.out ?_))
        refine Lib.hid ?_
        rintro E w5 ⟨rfl, hbl⟩
        have haw := Away.of_below hbl
        have HA5 := Lib.hid (HA4.out.trans haw)
        have HBX5 := Lib.hid (HBX.out.on haw (by simp))
        clear hbl haw HWX HA4 HBX HB4 HRA c17
        cases q
        · go_wp2_with fail
          go_roundw
          case rel => exact ⟨k, by go_num, by omega, HA5.out, fun j z hj hz => by
            rcases Nat.lt_or_ge k j with h1 | h1
            · exact HNO.out j z h1 hz
            · rw [show j = k from by omega, HX.out] at hz
              simp only [Option.some.injEq] at hz
              rw [← hz]; exact HH.out.symm⟩
          case measure => simp [intOf]; try omega
        · have HE : Hid ((r1, r2) = (x.k, 0)) := by
            show _ = _; rw [HR.out]
            exact findA_some HQ.out.symm (find_last HX.out HH.out.symm (fun i y hi hy => HNO.out i y hi hy))
          have h1 : r1 = x.k := congrArg Prod.fst HE.out
          have h2 : r2 = 0 := congrArg Prod.snd HE.out
          have c18 := range_k HBX5.out.range HXO.out
          simp only [Nat.zero_add] at c18
          clear HE HR
          subst h2
          have HH1 := Lib.hid h1
          clear h1
          go_wp2_with fail
          go_ret2
          exact ⟨by rw [HH1.out]; rfl, HA2.out.trans HA5.out⟩
set_option maxHeartbeats 4000000 in
theorem all_c {w : World} {g : Nat} {u : Value} {S : List Rt} (h : Tm w g u S) : Calls Tryz.prog 22 #[.pointer (some ⟨g, 0, none⟩)] w (OwnOut w S) := by
  have HC := Lib.hid (clone_c h.rd (by have := h.len; omega))
  have c0 := h.c0
  obtain ⟨a, cap, rfl, -⟩ := h.lst.sl
  obtain ⟨n, hn⟩ : ∃ n, n = S.length := ⟨_, rfl⟩
  rw [← hn] at HC c0
  clear h hn
  go_enter Tryz.func22, Tryz.ntmps22
  go_wp2_with (go_at_call 24; refine HC.out.mono ?_; refine Hid.out ?_)
  refine Lib.hid ?_
  rintro E w2 ⟨v, rfl, hl, hn, haw⟩
  have HO : Hid (OwnOut w S (.returned v) w2) := ⟨v, rfl, hl, hn, haw⟩
  clear hl hn haw HC c0
  go_wp2_with fail
  go_ret
  exact HO.out
/-- append onto nil. -/
theorem run_appnil (w : World) (ty : TypeId) (L : List Rt) (v : Value) (h : Rd w v L) (hl : L.length ≤ 3518437208790) : ∃ v' w', (Builtin.append_ #[22, 22] ty #[.slice none 0 0, v]).run Tryz.prog w = .ok v' w' ∧ LstD w' v' L ∧ New w.heap.size v' ∧ Away [] w w' := by
  obtain ⟨a, cap, rfl, hcap, hsh⟩ := h.shp
  rcases a with _ | ad
  · have hL : L = [] := by
      rcases hsh with h1 | ⟨b, o, h1, -⟩
      · exact h1
      · simp at h1
    subst hL
    obtain ⟨i0, hi, hz0, hz1, hz2⟩ := info_parts infoK
    refine ⟨.slice none 0 0, w, ?_, LstD.nil _, New.nil _, Away.refl _ _⟩
    have hfc := run_firstCells_none (P := Tryz.prog) w 19 0 0 cap
    simp [Builtin.append_, run_underlying Tryz.underlying22, sizeOf, typeInfo, hi, hz1, Builtin.lenOf, hfc]
  · obtain ⟨v', w', h1, h2, h3, h4⟩ := run_appL ty w (.slice none 0 0) [] (LstD.nil w) ad L.length cap L rfl h.ok (fun j u hj => by
      rcases hsh with rfl | ⟨b, o, h1, -⟩
      · simp at hj
      · simp only [Option.some.injEq] at h1
        subst h1
        exact h.flat j u hj) (by simp; omega)
    refine ⟨v', w', h1, by simpa using h2, fun k hk => ?_, (Away.refl _ _).grown h3 (by simp [Value.ownBlock])⟩
    rcases h4 k hk with h5 | h5
    · simp [Value.ownBlock] at h5
    · exact h5
end Go.Proofs.YtoifolmcdkfniabGreatDoor
