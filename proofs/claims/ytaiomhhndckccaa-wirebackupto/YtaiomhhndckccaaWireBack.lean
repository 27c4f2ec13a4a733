/-
  WireBack: the walk, and the row's step.
-/
import Derived.Test.YtaiomhhndckccaaFlat
import Derived.Deep.CondSized
namespace Go.Proofs.Ytaiomhhndckccaa.wireBack
open Go.ChangeShapes Go.WideShapes Go.ChangeAt Go.RowKit Go.Deep
set_option linter.unusedVariables false

/-- Behind k calls, where there are too many bytes. -/
structure Big (w wr : World) (gw : Nat) (ops : List OpD) (k : Nat) : Prop where
  aw : Away [] w wr
  wr : ∃ v l e, Wr wr gw v 65575 l e ∧ (∀ k ∈ fp gw v, w.heap.size ≤ k) ∧ ((e = 0 ∧ l = flat (ops.take k)) ∨ e = 3)
/-- Behind k calls, where all fit. -/
structure Sml (w wr : World) (gw : Nat) (N : Nat) (ops : List OpD) (k : Nat) : Prop where
  aw : Away [] w wr
  wr : ∃ v, Wr wr gw v N (flat (ops.take k)) 0 ∧ (∀ k ∈ fp gw v, w.heap.size ≤ k)
structure Bck (w wr : World) (g d : Nat) (ops : List OpD) (k : Nat) : Prop where
  aw : Away [] w wr
  rd : Rd wr g d (flat (ops.drop k)) 0
structure Two (w wr : World) (g d h c : Nat) (ops : List OpD) (k : Nat) : Prop where
  aw : Away [] w wr
  rd : Rd wr g d (flat (ops.drop k) ++ [7]) 0
  sh : ∃ l e, Rd wr h c l e ∧ (flat ops ≠ [] → (e = 0 ∧ flat (ops.drop k) ≠ [] ∧ l = (flat (ops.drop k)).dropLast) ∨ e = 20)

set_option maxRecDepth 100000 in
set_option maxHeartbeats 1000000 in
theorem walkb (sa : Option Addr) (ops : List OpD) (scap N : Nat) (w : World) (hscap : ops.length ≤ scap) (hsc : Script w sa ops) (hN : (flat ops).length = N) (hN' : N ≤ 1048576) (hbig : 65575 < N) :
    Calls Try.prog 8 #[.slice sa ops.length scap] w fun e w' => e = .returned (.bool true) ∧ Below w.heap.size w w' := by
  have hol := hsc.1
  have HN : Hid ((flat ops).length = N) := hN
  clear hN
  go_enter Try.func8, Try.ntmps8
  go_wp2_with fail
  refine (alive_any _).mono ?_
  rintro E w1 ⟨rfl, haw1⟩
  have hsc1 := hsc.away haw1
  go_wp2_with fail
  refine (size_any _ sa ops scap (by exact hsc1) (by rw [HN.out]; exact hN')).mono ?_
  rintro E w' ⟨rfl, rfl⟩
  rw [HN.out]
  have hbig' : decide ((65575 : Int) < (N : Int)) = true := by simp; omega
  go_wp2_with fail
  refine (newWriter_any 65575 _ (by omega) (by omega)).mono ?_
  rintro E w4 ⟨gw, v, rfl, hwr, hgw, hv, haw4⟩
  rw [show limOf 65575 = 65575 from by decide] at hwr
  have hs1 := haw1.size
  have hB : ∀ k ∈ fp gw v, w.heap.size ≤ k := by intro k hk; simp [fp, hv] at hk; omega
  have hst : Big w w4 gw ops 0 := ⟨haw1.next haw4 (by simp), v, [], 0, hwr, hB, .inl ⟨rfl, rfl⟩⟩
  clear hwr hB hv hgw haw4 haw1 hsc1 hs1
  go_wp2_with fail
  go_loopw [5] (fun i wr => ∃ k : Nat, k ≤ ops.length ∧ i = .int .i64 k ∧ Big w wr gw ops k) (fun i _ => ops.length - (intOf i).toNat)
  case atStart => exact ⟨0, by omega, rfl, hst⟩
  case round =>
    obtain ⟨k, hk, rfl, hs⟩ := hrel
    obtain ⟨aw, v, l, e, wwr, fpB, hor⟩ := hs
    by_cases hlt : k < ops.length
    · rcases hsc.2.2 with h0 | ⟨b, off, rfl, hcell⟩
      · rw [h0] at hlt; simp at hlt
      obtain ⟨o, ho⟩ : ∃ o, ops[k]? = some o := ⟨_, List.getElem?_eq_getElem hlt⟩
      obtain ⟨c0, c1, c2, c3, c4⟩ := hcell k o ho
      have d0 := aw.cell (by simp) c0
      have d1 := aw.cell (by simp) c1
      have d2 := aw.cell (by simp) c2
      have d3 := aw.cell (by simp) c3
      have d4 := aw.cell (by simp) c4
      have hok := (hsc.2.1 o (List.mem_of_getElem? ho)).away (S := []) aw
      have HO : Hid (ops[k]? = some o) := ho
      have HOR : Hid ((e = 0 ∧ l = flat (ops.take k)) ∨ e = 3) := hor
      have hsz := aw.size
      clear c0 c1 c2 c3 c4 hcell ho hor
      go_wp2_with fail
      refine (put_any _ gw v 65575 l e o (by exact wwr) (by exact hok)).mono ?_
      rintro E w10 ⟨rfl, v10, wwr10, hm10, haw10⟩
      have fpB10 := fp_new hm10 fpB hsz
      have aw10 := aw.next haw10 (fun k hk => .inr (fpB k hk))
      go_wp2_with fail
      go_roundw
      case rel =>
        refine ⟨k + 1, by omega, by go_num, ⟨aw10, v10, _, _, wwr10, fpB10, ?_⟩⟩
        rcases HOR.out with ⟨he, hl⟩ | he
        · subst he
          by_cases hfit : (l.length : Int) + (opBytes o).length ≤ 65575
          · left
            rw [(wr_app l (opBytes o) 65575 hfit).1, (wr_app l (opBytes o) 65575 hfit).2, flat_take HO.out, hl]
            exact ⟨rfl, rfl⟩
          · right
            rw [(wr_over l (opBytes o) 65575 hfit).2]
        · subst he
          right
          rw [(wr_stuck l [] 65575 _).2]
      case measure => simp [intOf]; omega
    · have he3 : e = 3 := by
        rcases hor with ⟨he, hl⟩ | he
        · exfalso
          rw [List.take_of_length_le (by omega)] at hl
          have := wwr.len
          rw [hl, HN.out] at this
          omega
        · exact he
      subst he3
      have hlen := wwr.len
      have hlend : decide ((l.length : Int) ≤ 65575) = true := by simp; omega
      clear hor
      go_wp2_with fail
      refine (out_any _ gw v 65575 l 3 (by exact wwr)).mono ?_
      rintro E w12 ⟨v12, rfl, hown12, hnew12, haw12⟩
      rw [show wrOut l 3 = [] from by unfold wrOut; rw [if_neg (by omega)]] at hown12
      obtain ⟨a12, cap12, hv12, _⟩ := hown12.row (by simp) Bytes.nil
      simp only [List.length_nil] at hv12
      subst hv12
      have wwr12 := wwr.away haw12 (by simp) (by simp)
      have aw12 := aw.next haw12 (by simp)
      clear hown12 hnew12 wwr aw haw12
      go_wp2_with fail
      refine (werr_any _ gw v 65575 l 3 (by exact wwr12)).mono ?_
      rintro E w' ⟨rfl, rfl⟩
      go_wp2_with fail
      refine (wlen_any _ gw v 65575 l 3 (by exact wwr12)).mono ?_
      rintro E w' ⟨rfl, rfl⟩
      go_wp2_with fail
      go_ret
      exact ⟨rfl, aw12.to_below⟩
set_option maxRecDepth 100000 in
set_option maxHeartbeats 1000000 in
theorem walks (sa : Option Addr) (ops : List OpD) (scap N : Nat) (w : World) (hscap : ops.length ≤ scap) (hsc : Script w sa ops) (hN : (flat ops).length = N) (hsml : N ≤ 65575) :
    Calls Try.prog 8 #[.slice sa ops.length scap] w fun e w' => e = .returned (.bool true) ∧ Below w.heap.size w w' := by
  have hol := hsc.1
  have HN : Hid ((flat ops).length = N) := hN
  have hFb := flat_bytes ops hsc.2.1
  clear hN
  go_enter Try.func8, Try.ntmps8
  go_wp2_with fail
  refine (alive_any _).mono ?_
  rintro E w1 ⟨rfl, haw1⟩
  have hsc1 := hsc.away haw1
  go_wp2_with fail
  refine (size_any _ sa ops scap (by exact hsc1) (by rw [HN.out]; omega)).mono ?_
  rintro E w' ⟨rfl, rfl⟩
  rw [HN.out]
  have hbig' : decide ((65575 : Int) < (N : Int)) = false := by simp; omega
  go_wp2_with fail
  refine (newWriter_any N _ (by omega) (by omega)).mono ?_
  rintro E w4 ⟨gw, v, rfl, hwr, hgw, hv, haw4⟩
  rw [show limOf N = N from by unfold limOf; rw [if_neg (by omega), if_pos (by omega)]] at hwr
  have hs1 := haw1.size
  have hB : ∀ k ∈ fp gw v, w.heap.size ≤ k := by intro k hk; simp [fp, hv] at hk; omega
  have hst : Sml w w4 gw N ops 0 := ⟨haw1.next haw4 (by simp), v, hwr, hB⟩
  clear hwr hB hv hgw haw4 haw1 hsc1 hs1
  go_wp2_with fail
  go_loopw [9] (fun i wr => ∃ k : Nat, k ≤ ops.length ∧ i = .int .i64 k ∧ Sml w wr gw N ops k) (fun i _ => ops.length - (intOf i).toNat)
  case atStart => exact ⟨0, by omega, rfl, hst⟩
  case round =>
    obtain ⟨k, hk, rfl, hs⟩ := hrel
    obtain ⟨aw, v, wwr, fpB⟩ := hs
    by_cases hlt : k < ops.length
    · rcases hsc.2.2 with h0 | ⟨b, off, rfl, hcell⟩
      · rw [h0] at hlt; simp at hlt
      obtain ⟨o, ho⟩ : ∃ o, ops[k]? = some o := ⟨_, List.getElem?_eq_getElem hlt⟩
      obtain ⟨c0, c1, c2, c3, c4⟩ := hcell k o ho
      have d0 := aw.cell (by simp) c0
      have d1 := aw.cell (by simp) c1
      have d2 := aw.cell (by simp) c2
      have d3 := aw.cell (by simp) c3
      have d4 := aw.cell (by simp) c4
      have hok := (hsc.2.1 o (List.mem_of_getElem? ho)).away (S := []) aw
      have hft := flat_take ho
      have hle := flat_take_le ops (k + 1)
      have hsz := aw.size
      have hfit : ((flat (ops.take k)).length : Int) + (opBytes o).length ≤ N := by
        rw [hft, HN.out] at hle
        simp at hle
        omega
      have hW := wr_app (flat (ops.take k)) (opBytes o) N hfit
      rw [← hft] at hW
      have HW : Hid (wrAll (flat (ops.take k)) 0 N (opBytes o) = flat (ops.take (k + 1)) ∧ wrErr (flat (ops.take k)) 0 N (opBytes o).length = 0) := hW
      have HL : Hid (((flat (ops.take (k + 1))).length : Int) = ((flat (ops.take k)).length : Int) + (opBytes o).length) := by show _ = _; rw [hft]; simp
      clear c0 c1 c2 c3 c4 hcell ho hW hft hle
      generalize flat (ops.take k) = L at *
      generalize hLL : flat (ops.take (k + 1)) = L' at *
      have HLL : Hid (flat (ops.take (k + 1)) = L') := hLL
      clear hLL
      go_wp2_with fail
      refine (wlen_any _ gw v N L 0 (by exact wwr)).mono ?_
      rintro E w' ⟨rfl, rfl⟩
      go_wp2_with fail
      refine (put_any _ gw v N L 0 o (by exact wwr) (by exact hok)).mono ?_
      rintro E w10 ⟨rfl, v10, wwr10, hm10, haw10⟩
      rw [HW.out.1, HW.out.2] at wwr10
      have fpB10 := fp_new hm10 fpB hsz
      have aw10 := aw.next haw10 (fun k hk => .inr (fpB k hk))
      generalize (opBytes o).length = M at *
      clear d0 d1 d2 d3 d4 wwr aw haw10 hm10 fpB
      go_wp2_with fail
      refine (wlen_any _ gw v10 N L' 0 (by exact wwr10)).mono ?_
      rintro E w' ⟨rfl, rfl⟩
      rw [HL.out]
      go_wp2_with fail
      refine (werr_any _ gw v10 N L' 0 (by exact wwr10)).mono ?_
      rintro E w' ⟨rfl, rfl⟩
      go_wp2_with fail
      go_roundw
      case rel => exact ⟨k + 1, by omega, by go_num, ⟨aw10, v10, by rw [HLL.out]; exact wwr10, fpB10⟩⟩
      case measure => simp [intOf]; omega
    · rw [List.take_of_length_le (by omega)] at wwr
      obtain ⟨F, hF⟩ : ∃ F, F = flat ops := ⟨_, rfl⟩
      rw [← hF] at wwr hFb
      have HL : Hid (F.length = N) := by show _ = _; rw [hF]; exact HN.out
      have HF : Hid (F = flat ops) := hF
      clear hF
      go_wp2_with fail
      refine (out_any _ gw v N F 0 (by exact wwr)).mono ?_
      rintro E w12 ⟨v12, rfl, hown12, hnew12, haw12⟩
      rw [show wrOut F 0 = F from by unfold wrOut; rw [if_pos rfl]] at hown12
      obtain ⟨a12, cap12, hv12, hcap12, hnone12, hrow12, hblk12, _⟩ := hown12.row (by rw [HL.out]; omega) hFb
      have hbF : ∀ x, a12 = some x → x.block < w12.heap.size := fun x hx => hown12.lt _ (hblk12 x hx)
      rw [HL.out] at hv12 hcap12
      subst hv12
      have aw12 := aw.next haw12 (by simp)
      clear hown12 hnew12 wwr aw haw12 fpB
      go_wp2_with fail
      refine (own_any a12 F _ _ _ HL.out (by exact hrow12)).mono ?_
      rintro E w13 ⟨v13, rfl, hown13, hnew13, haw13, _, hl13⟩
      obtain ⟨a13, cap13, hv13, hcap13, hnone13, hrow13, _⟩ := hown13.row hl13 hFb
      rw [HL.out] at hv13
      subst hv13
      go_wp2_with fail
      refine (newReader_any a13 F _ _ _ HL.out hnone13 (by exact hrow13)).mono ?_
      rintro E w14 ⟨gr, dr, rfl, hrd, hgr, hdr, haw14⟩
      have aw13 := aw12.next haw13 (by simp)
      have aw14 := aw13.next haw14 (by simp)
      have hs13 := aw13.size
      have hBr : w.heap.size ≤ gr := by omega
      have row14 := hrow12.away (haw13.next haw14 (by simp)) (by simp)
      have hst : Bck w w14 gr dr ops 0 := ⟨aw14, by rw [List.drop_zero, ← HF.out]; exact hrd⟩
      have hlt14 : w12.heap.size ≤ w14.heap.size := (haw13.next haw14 (by simp)).size
      have hs12 := haw13.size
      have hrF : ∀ x, a12 = some x → x.block ∉ [gr] := by
        intro x hx
        have := hbF x hx
        simp; omega
      clear hblk12 hbF
      clear hown13 hnew13 haw13 haw14 hrd hgr hdr hrow13 aw12 aw13 aw14 hs13 hcap13 hnone13
      go_wp2_with fail
      go_loopw [15] (fun i wr => ∃ k : Nat, k ≤ ops.length ∧ i = .int .i64 k ∧ Bck w wr gr dr ops k ∧ Row wr a12 F) (fun i _ => ops.length - (intOf i).toNat)
      case atStart => exact ⟨0, by omega, rfl, hst, row14⟩
      case round =>
        obtain ⟨k, hk, rfl, hs, hrowF⟩ := hrel
        obtain ⟨aw, rd⟩ := hs
        by_cases hlt : k < ops.length
        · rcases hsc.2.2 with h0 | ⟨b, off, rfl, hcell⟩
          · rw [h0] at hlt; simp at hlt
          obtain ⟨o, ho⟩ : ∃ o, ops[k]? = some o := ⟨_, List.getElem?_eq_getElem hlt⟩
          obtain ⟨c0, c1, c2, c3, c4⟩ := hcell k o ho
          have d0 := aw.cell (by simp) c0
          have d1 := aw.cell (by simp) c1
          have d2 := aw.cell (by simp) c2
          have d3 := aw.cell (by simp) c3
          have d4 := aw.cell (by simp) c4
          have hok0 := hsc.2.1 o (List.mem_of_getElem? ho)
          have hok := hok0.away (S := []) aw
          have hfd := flat_drop ho
          rw [hfd] at rd
          have HG : Hid _ := rd_app (opBytes o) (flat (ops.drop (k + 1)))
          clear c0 c1 c2 c3 c4 hcell ho hfd
          go_wp2_with fail
          refine (got_any w.heap.size _ gr dr _ 0 o (by exact rd) (by exact hok) hok0.old hBr).mono ?_
          rintro E w20 ⟨bb, rfl, hbb, rd20, haw20⟩
          obtain rfl := hbb HG.out.1
          rw [HG.out.2.1, HG.out.2.2] at rd20
          have aw20 := aw.next haw20 (by simpa using hBr)
          have row20 := hrowF.away haw20 hrF
          clear d0 d1 d2 d3 d4 rd haw20 hbb
          go_wp2_with fail
          go_roundw
          case rel => exact ⟨k + 1, by omega, by go_num, ⟨aw20, rd20⟩, row20⟩
          case measure => simp [intOf]; omega
        · rw [List.drop_eq_nil_of_le (by omega), flat_nil] at rd
          go_wp2_with fail
          refine (end_any _ gr dr [] 0 (by exact rd)).mono ?_
          rintro E w' ⟨rfl, rfl⟩
          rw [show rdEnd [] 0 = 0 from by decide]
          go_wp2_with fail
          refine (left_any _ gr dr [] 0 (by exact rd)).mono ?_
          rintro E w' ⟨rfl, rfl⟩
          rw [List.length_nil]
          go_wp2_with fail
          refine (err_any _ gr dr [] 0 (by exact rd)).mono ?_
          rintro E w' ⟨rfl, rfl⟩
          go_wp2_with fail
          refine (own_any a12 F _ _ _ HL.out (by exact hrowF)).mono ?_
          rintro E w21 ⟨v21, rfl, hown21, hnew21, haw21, _, hl21⟩
          clear rd
          have hs21 := haw21.size
          have hsw := aw.size
          go_wp2_with (at_builtin; refine wpList_app rfl _ _ rfl _ F [7] rfl (by exact hown21.away ((Away.refl [] _).alloc _) (by simp)) ⟨w21.heap.size, 0, none⟩ 1 1 rfl rfl (lit_cells _ [7] _ rfl) (by rw [HL.out]; omega) ?_)
          intro v22 w22 hown22 hgr22 hmov22
          have haw22 := (haw21.alloc (.cells #[.int .u8 7] 5)).grown hgr22 (fun k hk => .inr (hnew21 k hk))
          have HL1 : Hid ((F ++ [7]).length = N + 1) := by show _ = _; simp [HL.out]
          have hb22 : Bytes (F ++ [7]) := hFb.app (by unfold Bytes; decide)
          obtain ⟨a22, cap22, hv22, hcap22, hnone22, hrow22, _⟩ := hown22.row (by rw [HL1.out]; omega) hb22
          rw [HL1.out] at hv22
          subst hv22
          have row22 := hrowF.away haw22 (by simp)
          have aw22 := aw.next haw22 (by simp)
          clear hgr22 hmov22 hown21 hnew21 haw21 hown22 haw22 hrowF aw
          go_wp2_with fail
          refine (newReader_any a22 (F ++ [7]) _ _ _ HL1.out hnone22 (by exact hrow22)).mono ?_
          rintro E w23 ⟨gl, dl, rfl, hrl, hgl, hdl, haw23⟩
          have row23 := row22.away haw23 (by simp)
          have hs22 := aw22.size
          have aw23 := aw22.next haw23 (by simp)
          clear haw23 hrow22 row22 aw22 hcap22 hnone22
          by_cases hN0 : N = 0
          · subst hN0
            skip
            have s1 := slice_h a12 0 cap12 0 0 rfl (Nat.zero_le _)
            have HM : Hid ((F.take (0)).length = 0) := by show _ = _; rw [List.length_take, HL.out]; omega
            have rowM := row23.head (0)
            go_wp2_with fail
            refine (own_any a12 (F.take (0)) _ _ _ HM.out (by exact rowM)).mono ?_
            rintro E w24 ⟨v24, rfl, hown24, hnew24, haw24, hb24, hl24⟩
            obtain ⟨a24, cap24, hv24, hcap24, hnone24, hrow24, _⟩ := hown24.row hl24 hb24
            rw [HM.out] at hv24
            subst hv24
            go_wp2_with fail
            refine (newReader_any a24 _ _ _ _ HM.out hnone24 (by exact hrow24)).mono ?_
            rintro E w25 ⟨gs, ds, rfl, hrs, hgs, hds, haw25⟩
            have hs24 := haw24.size
            have hll := hrl.lt
            have n1 : gs ∉ [gl] := by simp; omega
            have n2 : ds ∉ [gl] := by simp; omega
            have n3 : gl ∉ [gs] := by simp; omega
            have n4 : dl ∉ [gs] := by simp; omega
            have hBl : w.heap.size ≤ gl := by omega
            have hs23 := aw23.size
            have hBs : w.heap.size ≤ gs := by omega
            have aw25 := (aw23.next haw24 (by simp)).next haw25 (by simp)
            have hrl25 := hrl.away (haw24.next haw25 (by simp)) (by simp) (by simp)
            have hst : Two w w25 gl dl gs ds ops 0 := by
              exact ⟨aw25, by rw [List.drop_zero, ← HF.out]; exact hrl25, _, _, hrs, fun hne => absurd (List.eq_nil_of_length_eq_zero HN.out) hne⟩
              
            clear hown24 hnew24 haw24 haw25 hrow24 hcap24 hnone24 hrl hrl25 hrs aw23 aw25 hs24 hll hs23 hgs hds rowM row23
            go_wp2_with fail
            go_loopw [19] (fun i wr => ∃ k : Nat, k ≤ ops.length ∧ i = .int .i64 k ∧ Two w wr gl dl gs ds ops k) (fun i _ => ops.length - (intOf i).toNat)
            case atStart => exact ⟨0, by omega, rfl, hst⟩
            case round =>
              obtain ⟨k, hk, rfl, hs⟩ := hrel
              obtain ⟨aw, rd, ls, es, rs, hor⟩ := hs
              by_cases hlt : k < ops.length
              · rcases hsc.2.2 with h0 | ⟨b, off, rfl, hcell⟩
                · rw [h0] at hlt; simp at hlt
                obtain ⟨o, ho⟩ : ∃ o, ops[k]? = some o := ⟨_, List.getElem?_eq_getElem hlt⟩
                obtain ⟨c0, c1, c2, c3, c4⟩ := hcell k o ho
                have d0 := aw.cell (by simp) c0
                have d1 := aw.cell (by simp) c1
                have d2 := aw.cell (by simp) c2
                have d3 := aw.cell (by simp) c3
                have d4 := aw.cell (by simp) c4
                have hok0 := hsc.2.1 o (List.mem_of_getElem? ho)
                have hok := hok0.away (S := []) aw
                have hfd := flat_drop ho
                rw [hfd, List.append_assoc] at rd
                have HG : Hid _ := rd_app (opBytes o) (flat (ops.drop (k + 1)) ++ [7])
                have HOR : Hid (flat ops ≠ [] → (es = 0 ∧ flat (ops.drop k) ≠ [] ∧ ls = (flat (ops.drop k)).dropLast) ∨ es = 20) := hor
                have HFD : Hid (flat (ops.drop k) = opBytes o ++ flat (ops.drop (k + 1))) := hfd
                clear ho hfd hor
                go_wp2_with fail
                refine (got_any w.heap.size _ gl dl _ 0 o (by exact rd) (by exact hok) hok0.old hBl).mono ?_
                rintro E w30 ⟨bb, rfl, hbb, rd30, haw30⟩
                obtain rfl := hbb HG.out.1
                rw [HG.out.2.1, HG.out.2.2] at rd30
                have aw30 := aw.next haw30 (by simpa using hBl)
                have rs30 := rs.away haw30 n1 n2
                have hok30 := hok0.away (S := []) aw30
                have e0 := aw30.cell (by simp) c0
                have e1 := aw30.cell (by simp) c1
                have e2 := aw30.cell (by simp) c2
                have e3 := aw30.cell (by simp) c3
                have e4 := aw30.cell (by simp) c4
                clear c0 c1 c2 c3 c4 d0 d1 d2 d3 d4 rd rs haw30 hbb hcell aw hok
                go_wp2_with fail
                refine (got_any w.heap.size _ gs ds ls es o (by exact rs30) (by exact hok30) hok0.old hBs).mono ?_
                rintro E w31 ⟨bb, rfl, _, rs31, haw31⟩
                have aw31 := aw30.next haw31 (by simpa using hBs)
                have rd31 := rd30.away haw31 n3 n4
                clear e0 e1 e2 e3 e4 rd30 rs30 haw31
                go_wp2_with fail
                go_roundw
                case rel =>
                  refine ⟨k + 1, by omega, by go_num, ⟨aw31, rd31, _, _, rs31, fun hne => ?_⟩⟩
                  rcases HOR.out hne with ⟨he, hn, hl⟩ | he
                  · subst he
                    rw [HFD.out] at hn hl
                    subst hl
                    rcases cut_step (opBytes o) (flat (ops.drop (k + 1))) hn with ⟨q1, q2, q3⟩ | ⟨q2, q3⟩
                    · left; exact ⟨q3, q1, q2⟩
                    · right; exact q3
                  · subst he
                    right
                    exact (rd_stuck ls _).2
                case measure => simp [intOf]; omega
              · rw [List.drop_eq_nil_of_le (by omega), flat_nil, List.nil_append] at rd
                
                clear hor
                go_wp2_with fail
                refine (end_any _ gl dl [7] 0 (by exact rd)).mono ?_
                rintro E w' ⟨rfl, rfl⟩
                rw [show rdEnd [7] 0 = 21 from by decide]
                go_wp2_with fail
                refine (err_any _ gl dl [7] 0 (by exact rd)).mono ?_
                rintro E w' ⟨rfl, rfl⟩
                go_wp2_with fail
                refine (left_any _ gl dl [7] 0 (by exact rd)).mono ?_
                rintro E w' ⟨rfl, rfl⟩
                rw [show ((([7] : List Int).length : Nat) : Int) = 1 from rfl]
                go_wp2_with fail
                go_ret
                exact ⟨rfl, aw.to_below⟩
          by_cases hN1 : N = 1
          · subst hN1
            skip
            have s1 := slice_h a12 1 cap12 0 0 rfl (Nat.zero_le _)
            have HM : Hid ((F.take (0)).length = 0) := by show _ = _; rw [List.length_take, HL.out]; omega
            have rowM := row23.head (0)
            go_wp2_with fail
            refine (own_any a12 (F.take (0)) _ _ _ HM.out (by exact rowM)).mono ?_
            rintro E w24 ⟨v24, rfl, hown24, hnew24, haw24, hb24, hl24⟩
            obtain ⟨a24, cap24, hv24, hcap24, hnone24, hrow24, _⟩ := hown24.row hl24 hb24
            rw [HM.out] at hv24
            subst hv24
            go_wp2_with fail
            refine (newReader_any a24 _ _ _ _ HM.out hnone24 (by exact hrow24)).mono ?_
            rintro E w25 ⟨gs, ds, rfl, hrs, hgs, hds, haw25⟩
            have hs24 := haw24.size
            have hll := hrl.lt
            have n1 : gs ∉ [gl] := by simp; omega
            have n2 : ds ∉ [gl] := by simp; omega
            have n3 : gl ∉ [gs] := by simp; omega
            have n4 : dl ∉ [gs] := by simp; omega
            have hBl : w.heap.size ≤ gl := by omega
            have hs23 := aw23.size
            have hBs : w.heap.size ≤ gs := by omega
            have aw25 := (aw23.next haw24 (by simp)).next haw25 (by simp)
            have hrl25 := hrl.away (haw24.next haw25 (by simp)) (by simp) (by simp)
            have hst : Two w w25 gl dl gs ds ops 0 := by
              refine ⟨aw25, by rw [List.drop_zero, ← HF.out]; exact hrl25, _, _, hrs, fun hne => .inl ⟨rfl, by rw [List.drop_zero]; exact hne, ?_⟩⟩
              rw [List.drop_zero, ← HF.out, List.dropLast_eq_take, HL.out]
            clear hown24 hnew24 haw24 haw25 hrow24 hcap24 hnone24 hrl hrl25 hrs aw23 aw25 hs24 hll hs23 hgs hds rowM row23
            go_wp2_with fail
            go_loopw [19] (fun i wr => ∃ k : Nat, k ≤ ops.length ∧ i = .int .i64 k ∧ Two w wr gl dl gs ds ops k) (fun i _ => ops.length - (intOf i).toNat)
            case atStart => exact ⟨0, by omega, rfl, hst⟩
            case round =>
              obtain ⟨k, hk, rfl, hs⟩ := hrel
              obtain ⟨aw, rd, ls, es, rs, hor⟩ := hs
              by_cases hlt : k < ops.length
              · rcases hsc.2.2 with h0 | ⟨b, off, rfl, hcell⟩
                · rw [h0] at hlt; simp at hlt
                obtain ⟨o, ho⟩ : ∃ o, ops[k]? = some o := ⟨_, List.getElem?_eq_getElem hlt⟩
                obtain ⟨c0, c1, c2, c3, c4⟩ := hcell k o ho
                have d0 := aw.cell (by simp) c0
                have d1 := aw.cell (by simp) c1
                have d2 := aw.cell (by simp) c2
                have d3 := aw.cell (by simp) c3
                have d4 := aw.cell (by simp) c4
                have hok0 := hsc.2.1 o (List.mem_of_getElem? ho)
                have hok := hok0.away (S := []) aw
                have hfd := flat_drop ho
                rw [hfd, List.append_assoc] at rd
                have HG : Hid _ := rd_app (opBytes o) (flat (ops.drop (k + 1)) ++ [7])
                have HOR : Hid (flat ops ≠ [] → (es = 0 ∧ flat (ops.drop k) ≠ [] ∧ ls = (flat (ops.drop k)).dropLast) ∨ es = 20) := hor
                have HFD : Hid (flat (ops.drop k) = opBytes o ++ flat (ops.drop (k + 1))) := hfd
                clear ho hfd hor
                go_wp2_with fail
                refine (got_any w.heap.size _ gl dl _ 0 o (by exact rd) (by exact hok) hok0.old hBl).mono ?_
                rintro E w30 ⟨bb, rfl, hbb, rd30, haw30⟩
                obtain rfl := hbb HG.out.1
                rw [HG.out.2.1, HG.out.2.2] at rd30
                have aw30 := aw.next haw30 (by simpa using hBl)
                have rs30 := rs.away haw30 n1 n2
                have hok30 := hok0.away (S := []) aw30
                have e0 := aw30.cell (by simp) c0
                have e1 := aw30.cell (by simp) c1
                have e2 := aw30.cell (by simp) c2
                have e3 := aw30.cell (by simp) c3
                have e4 := aw30.cell (by simp) c4
                clear c0 c1 c2 c3 c4 d0 d1 d2 d3 d4 rd rs haw30 hbb hcell aw hok
                go_wp2_with fail
                refine (got_any w.heap.size _ gs ds ls es o (by exact rs30) (by exact hok30) hok0.old hBs).mono ?_
                rintro E w31 ⟨bb, rfl, _, rs31, haw31⟩
                have aw31 := aw30.next haw31 (by simpa using hBs)
                have rd31 := rd30.away haw31 n3 n4
                clear e0 e1 e2 e3 e4 rd30 rs30 haw31
                go_wp2_with fail
                go_roundw
                case rel =>
                  refine ⟨k + 1, by omega, by go_num, ⟨aw31, rd31, _, _, rs31, fun hne => ?_⟩⟩
                  rcases HOR.out hne with ⟨he, hn, hl⟩ | he
                  · subst he
                    rw [HFD.out] at hn hl
                    subst hl
                    rcases cut_step (opBytes o) (flat (ops.drop (k + 1))) hn with ⟨q1, q2, q3⟩ | ⟨q2, q3⟩
                    · left; exact ⟨q3, q1, q2⟩
                    · right; exact q3
                  · subst he
                    right
                    exact (rd_stuck ls _).2
                case measure => simp [intOf]; omega
              · rw [List.drop_eq_nil_of_le (by omega), flat_nil, List.nil_append] at rd
                have hes : es = 20 := by
                  have hne : flat ops ≠ [] := by intro h; have := HN.out; rw [h] at this; simp only [List.length_nil] at this; omega
                  rcases hor hne with ⟨_, hn, _⟩ | h
                  · rw [List.drop_eq_nil_of_le (by omega)] at hn; exact absurd flat_nil hn
                  · exact h
                subst hes
                clear hor
                go_wp2_with fail
                refine (end_any _ gl dl [7] 0 (by exact rd)).mono ?_
                rintro E w' ⟨rfl, rfl⟩
                rw [show rdEnd [7] 0 = 21 from by decide]
                go_wp2_with fail
                refine (err_any _ gl dl [7] 0 (by exact rd)).mono ?_
                rintro E w' ⟨rfl, rfl⟩
                go_wp2_with fail
                refine (left_any _ gl dl [7] 0 (by exact rd)).mono ?_
                rintro E w' ⟨rfl, rfl⟩
                rw [show ((([7] : List Int).length : Nat) : Int) = 1 from rfl]
                go_wp2_with fail
                refine (end_any _ gs ds ls 20 (by exact rs)).mono ?_
                rintro E w' ⟨rfl, rfl⟩
                rw [show rdEnd ls 20 = 20 from by unfold rdEnd; rw [if_neg (by omega)]]
                go_wp2_with fail
                go_ret
                exact ⟨rfl, aw.to_below⟩
          · have hn1 : 0 < (N : Int) - 1 := by omega
            have hn2 : ((N : Int) == 0) = false := by simp; omega
            have s1 := slice_h a12 N cap12 (N - 1) ((N : Int) - 1) (by omega) (by omega)
            have HM : Hid ((F.take (N - 1)).length = N - 1) := by show _ = _; rw [List.length_take, HL.out]; omega
            have rowM := row23.head (N - 1)
            go_wp2_with fail
            refine (own_any a12 (F.take (N - 1)) _ _ _ HM.out (by exact rowM)).mono ?_
            rintro E w24 ⟨v24, rfl, hown24, hnew24, haw24, hb24, hl24⟩
            obtain ⟨a24, cap24, hv24, hcap24, hnone24, hrow24, _⟩ := hown24.row hl24 hb24
            rw [HM.out] at hv24
            subst hv24
            go_wp2_with fail
            refine (newReader_any a24 _ _ _ _ HM.out hnone24 (by exact hrow24)).mono ?_
            rintro E w25 ⟨gs, ds, rfl, hrs, hgs, hds, haw25⟩
            have hs24 := haw24.size
            have hll := hrl.lt
            have n1 : gs ∉ [gl] := by simp; omega
            have n2 : ds ∉ [gl] := by simp; omega
            have n3 : gl ∉ [gs] := by simp; omega
            have n4 : dl ∉ [gs] := by simp; omega
            have hBl : w.heap.size ≤ gl := by omega
            have hs23 := aw23.size
            have hBs : w.heap.size ≤ gs := by omega
            have aw25 := (aw23.next haw24 (by simp)).next haw25 (by simp)
            have hrl25 := hrl.away (haw24.next haw25 (by simp)) (by simp) (by simp)
            have hst : Two w w25 gl dl gs ds ops 0 := by
              refine ⟨aw25, by rw [List.drop_zero, ← HF.out]; exact hrl25, _, _, hrs, fun hne => .inl ⟨rfl, by rw [List.drop_zero]; exact hne, ?_⟩⟩
              rw [List.drop_zero, ← HF.out, List.dropLast_eq_take, HL.out]
            clear hown24 hnew24 haw24 haw25 hrow24 hcap24 hnone24 hrl hrl25 hrs aw23 aw25 hs24 hll hs23 hgs hds rowM row23
            go_wp2_with fail
            go_loopw [19] (fun i wr => ∃ k : Nat, k ≤ ops.length ∧ i = .int .i64 k ∧ Two w wr gl dl gs ds ops k) (fun i _ => ops.length - (intOf i).toNat)
            case atStart => exact ⟨0, by omega, rfl, hst⟩
            case round =>
              obtain ⟨k, hk, rfl, hs⟩ := hrel
              obtain ⟨aw, rd, ls, es, rs, hor⟩ := hs
              by_cases hlt : k < ops.length
              · rcases hsc.2.2 with h0 | ⟨b, off, rfl, hcell⟩
                · rw [h0] at hlt; simp at hlt
                obtain ⟨o, ho⟩ : ∃ o, ops[k]? = some o := ⟨_, List.getElem?_eq_getElem hlt⟩
                obtain ⟨c0, c1, c2, c3, c4⟩ := hcell k o ho
                have d0 := aw.cell (by simp) c0
                have d1 := aw.cell (by simp) c1
                have d2 := aw.cell (by simp) c2
                have d3 := aw.cell (by simp) c3
                have d4 := aw.cell (by simp) c4
                have hok0 := hsc.2.1 o (List.mem_of_getElem? ho)
                have hok := hok0.away (S := []) aw
                have hfd := flat_drop ho
                rw [hfd, List.append_assoc] at rd
                have HG : Hid _ := rd_app (opBytes o) (flat (ops.drop (k + 1)) ++ [7])
                have HOR : Hid (flat ops ≠ [] → (es = 0 ∧ flat (ops.drop k) ≠ [] ∧ ls = (flat (ops.drop k)).dropLast) ∨ es = 20) := hor
                have HFD : Hid (flat (ops.drop k) = opBytes o ++ flat (ops.drop (k + 1))) := hfd
                clear ho hfd hor
                go_wp2_with fail
                refine (got_any w.heap.size _ gl dl _ 0 o (by exact rd) (by exact hok) hok0.old hBl).mono ?_
                rintro E w30 ⟨bb, rfl, hbb, rd30, haw30⟩
                obtain rfl := hbb HG.out.1
                rw [HG.out.2.1, HG.out.2.2] at rd30
                have aw30 := aw.next haw30 (by simpa using hBl)
                have rs30 := rs.away haw30 n1 n2
                have hok30 := hok0.away (S := []) aw30
                have e0 := aw30.cell (by simp) c0
                have e1 := aw30.cell (by simp) c1
                have e2 := aw30.cell (by simp) c2
                have e3 := aw30.cell (by simp) c3
                have e4 := aw30.cell (by simp) c4
                clear c0 c1 c2 c3 c4 d0 d1 d2 d3 d4 rd rs haw30 hbb hcell aw hok
                go_wp2_with fail
                refine (got_any w.heap.size _ gs ds ls es o (by exact rs30) (by exact hok30) hok0.old hBs).mono ?_
                rintro E w31 ⟨bb, rfl, _, rs31, haw31⟩
                have aw31 := aw30.next haw31 (by simpa using hBs)
                have rd31 := rd30.away haw31 n3 n4
                clear e0 e1 e2 e3 e4 rd30 rs30 haw31
                go_wp2_with fail
                go_roundw
                case rel =>
                  refine ⟨k + 1, by omega, by go_num, ⟨aw31, rd31, _, _, rs31, fun hne => ?_⟩⟩
                  rcases HOR.out hne with ⟨he, hn, hl⟩ | he
                  · subst he
                    rw [HFD.out] at hn hl
                    subst hl
                    rcases cut_step (opBytes o) (flat (ops.drop (k + 1))) hn with ⟨q1, q2, q3⟩ | ⟨q2, q3⟩
                    · left; exact ⟨q3, q1, q2⟩
                    · right; exact q3
                  · subst he
                    right
                    exact (rd_stuck ls _).2
                case measure => simp [intOf]; omega
              · rw [List.drop_eq_nil_of_le (by omega), flat_nil, List.nil_append] at rd
                have hes : es = 20 := by
                  have hne : flat ops ≠ [] := by intro h; have := HN.out; rw [h] at this; simp only [List.length_nil] at this; omega
                  rcases hor hne with ⟨_, hn, _⟩ | h
                  · rw [List.drop_eq_nil_of_le (by omega)] at hn; exact absurd flat_nil hn
                  · exact h
                subst hes
                clear hor
                go_wp2_with fail
                refine (end_any _ gl dl [7] 0 (by exact rd)).mono ?_
                rintro E w' ⟨rfl, rfl⟩
                rw [show rdEnd [7] 0 = 21 from by decide]
                go_wp2_with fail
                refine (err_any _ gl dl [7] 0 (by exact rd)).mono ?_
                rintro E w' ⟨rfl, rfl⟩
                go_wp2_with fail
                refine (left_any _ gl dl [7] 0 (by exact rd)).mono ?_
                rintro E w' ⟨rfl, rfl⟩
                rw [show ((([7] : List Int).length : Nat) : Int) = 1 from rfl]
                go_wp2_with fail
                refine (end_any _ gs ds ls 20 (by exact rs)).mono ?_
                rintro E w' ⟨rfl, rfl⟩
                rw [show rdEnd ls 20 = 20 from by unfold rdEnd; rw [if_neg (by omega)]]
                go_wp2_with fail
                go_ret
                exact ⟨rfl, aw.to_below⟩
theorem walk (sa : Option Addr) (ops : List OpD) (scap : Nat) (w : World) (hscap : ops.length ≤ scap) (hsc : Script w sa ops) (hb : (ops.map (fun o => o.b.length + 4)).sum ≤ 1048576) :
    Calls Try.prog 8 #[.slice sa ops.length scap] w fun e w' => e = .returned (.bool true) ∧ Below w.heap.size w w' := by
  have h1 := flat_len ops
  by_cases hbig : 65575 < (flat ops).length
  · exact walkb sa ops scap _ w hscap hsc rfl (by omega) hbig
  · exact walks sa ops scap _ w hscap hsc rfl (by omega)
set_option maxRecDepth 100000 in
theorem lifted (os : Os) (started : os.Started) (H : Type) (enc : TypeId × Value → H) (F : Stop.Interp) :
    ReturnsInHanded {} Try.checked os 8 .any ((Rows.OpenSpec.upto Rows.wireBackSpec).pre6 enc Try.prog Try.f8 Rows.wireBackUptoRow.domain false) (((Rows.OpenSpec.upto Rows.wireBackSpec).at F).post enc Try.prog Try.f8 false true false false) := by
  refine returnsInHanded_of_cond_sized (C := Try.checked) (s := Rows.OpenSpec.upto Rows.wireBackSpec) (k := Rows.uptoSmall) rfl ownKn started (by kernel_rfl) Try.func8
    (OpenSpec.witness (enc := enc) (C := Try.checked) (s := Rows.OpenSpec.upto Rows.wireBackSpec) (k := Rows.uptoSmall) rfl false ⟨#[], #[.slice none 0 0], []⟩ 8 (by kernel_rfl) (by kernel_rfl) (by kernel_rfl)
      (x := ([.nil], [], [])) (by kernel_rfl) rfl (by kernel_rfl)) ?_
  intro W base args ds gs before hval0 hW _ hk hsz0 _
  have hsz : (DataW.weightsEach Try.prog (Try.f8.params.toList ++ Rows.wireBackSpec.plain.varTypes Try.prog) (ds ++ gs)).all (· ≤ reachBytes) = true := hsz0
  clear hsz0
  have hval : ∀ (j : Nat) t v, Try.f8.params[j]? = some t → args[j]? = some v → Value.okWide Try.prog W .any base t v := hval0
  have hW' := hW
  obtain ⟨p, q, hA0, hV, rfl, hfz, hnd⟩ := hW
  have hA : DataW.TrodAll enc Try.prog W 0 (fun _ => true) true Try.f8.params.toList args.toList ds p := hA0
  rw [Try.params8] at hA hval hsz
  obtain ⟨v0, vs0, d0, ds0, p0, q0, hargs, rfl, rfl, h0, r0⟩ := trodAll_cons hA
  obtain ⟨rfl, rfl, rfl⟩ := trodAll_nil r0
  obtain rfl : args = #[v0] := by cases args; simp_all
  have hV2 : DataW.TrodVars enc Try.prog W (fun _ => true) Rows.wireBackSpec.vars gs q := hV
  obtain ⟨rfl, rfl⟩ := trodVars_none hV2
  obtain ⟨a0, len0, cap0, rfl⟩ := okWide_slice Try.underlying52 (hval 0 52 v0 rfl rfl)
  have k0 := h0
  have lt0 : ∀ x ∈ p0, x.block < W.heap.size := by obtain ⟨m, hm⟩ := k0; exact DataW.trod_lt m _ _ _ hm
  obtain ⟨ops0, hol0, w0, hsc0, hbk0⟩ : ∃ ops : List OpD, ops.length = len0 ∧ ops.length ≤ cap0 ∧ Script W a0 ops ∧ (ops.map (fun o => o.b.length + 4)).sum ≤ Rows.uptoBulk d0 := by
    obtain ⟨fuel, hf⟩ := h0
    obtain ⟨ops, e1, e2, e3, e4⟩ := open_script (enc := enc) (fuel := fuel) (a := a0) (len := len0) (cap := cap0) (by simpa [Value.cells] using hf) (fun m hm => by
      have := List.all_eq_true.1 hsz m (DataW.weights_mem_each (j := 0) (t := 52) rfl rfl m hm)
      simpa using this)
    exact ⟨ops, e1, by omega, e3, e4⟩
  subst hol0
  have hbulk : Rows.uptoBulk d0 ≤ 1048576 := by
    have h : Rows.uptoBulkAll ([d0] ++ []) ≤ 1048576 := of_decide_eq_true hk
    simp only [List.append_nil, Rows.uptoBulkAll] at h
    omega
  clear hA0 hval0
  refine (walk a0 ops0 cap0 W w0 hsc0 (by omega)).mono fun e W' ⟨he, bel⟩ => ?_
  subst he
  exact ⟨_, rfl, _, _, _, [], _, [], hW', trodAll_mk1 (shut_bool Try.underlying4 _), (trodAll_cons_mk (Below.trod laidOut (by kernel_rfl) (of_decide_eq_true (by kernel_rfl)) k0 bel lt0) trodAll_mk0), rfl, bel.frame _, fun h => by cases h⟩

theorem over : Rows.wireBackUptoRow.holds Try.pinned (Rows.OpenSpec.upto Rows.wireBackSpec) :=
  OpenClaim.holds_of_cond 8 Try.f8 rfl rfl rfl rfl rfl rfl rfl ⟨rfl, rfl, rfl, rfl, rfl⟩ rfl rfl rfl rfl rfl (by kernel_rfl) Try.func8 (by kernel_rfl)
    (of_decide_eq_true (by kernel_rfl)) (by unfold Func.isWrapper; first | (rw [if_pos (by decide +kernel)]; kernel_rfl) | (rw [if_neg (by decide +kernel)]; exact ⟨rfl, rfl⟩))
    (fun os started H enc _ F => lifted os started H enc F)

end Go.Proofs.Ytaiomhhndckccaa.wireBack
namespace Go.Proofs.Ytaiomhhndckccaa
theorem wireBack_holds : Rows.WireBackUptoSaid := wireBack.over
#print axioms wireBack_holds
end Go.Proofs.Ytaiomhhndckccaa
