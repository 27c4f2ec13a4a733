/-
  WireStays: the walk, and the row's step.
-/
import Derived.Test.YtaiomhhndckccaaGot
namespace Go.Proofs.Ytaiomhhndckccaa.wireStays
open Go.ChangeShapes Go.WideShapes Go.ChangeAt Go.RowKit Go.Deep
set_option linter.unusedVariables false

theorem rd_stays (l : List Int) (n : Int) : rdOut l 20 n = [] ∧ rdRest l 20 n = l ∧ rdErr l 20 n = 20 ∧ num (rdOut l 20 n) = 0 := by
  have e : rdOut l 20 n = [] := by unfold rdOut; rw [if_neg (by omega)]
  exact ⟨e, by unfold rdRest; rw [if_neg (by omega)], by unfold rdErr; rw [if_neg (by omega)], by rw [e]; rfl⟩
theorem wr_stays (l m : List Int) (lim n : Int) : wrAll l 3 lim m = l ∧ wrErr l 3 lim n = 3 := ⟨by unfold wrAll; rw [if_neg (by omega)], by unfold wrErr; rw [if_neg (by omega)]⟩
theorem put_stays (l : List Int) (p x : Int) : putAll l 3 p x = l ∧ putErr l 3 p = 3 := ⟨by unfold putAll; rw [if_neg (by omega)], by unfold putErr; rw [if_neg (by omega)]⟩
/-- What stays. -/
structure St (w wr : World) (gr dr gw : Nat) (lim : Int) (l m : List Int) : Prop where
  aw : Away [] w wr
  rd : Rd wr gr dr l 20
  wr : ∃ v, Wr wr gw v lim m 3 ∧ (∀ k ∈ fp gw v, w.heap.size ≤ k) ∧ gr ∉ fp gw v ∧ dr ∉ fp gw v
  br : w.heap.size ≤ gr
set_option maxRecDepth 100000 in
set_option maxHeartbeats 1000000 in
theorem walkl (a : Option Addr) (l : List Int) (len cap : Nat) (sa : Option Addr) (ops : List OpD) (scap : Nat) (w : World) (hll : l.length = len) (hcap : len ≤ cap) (hcap' : cap ≤ 140737488351232) (ha : a = none → cap = 0) (hr : Row w a l)
    (hscap : ops.length ≤ scap) (hsc : Script w sa ops) :
    Calls Try.prog 5 #[.slice a len cap, .slice sa ops.length scap] w fun e w' => e = .returned (.bool true) ∧ Below w.heap.size w w' := by
  have HL : Hid (l.length = len) := hll
  have hol := hsc.1
  clear hll
  by_cases hbig : 65575 < len
  · have hbig' : decide ((65575 : Int) < (len : Int)) = true := by simp; omega
    have F0 : limOf len = 65575 := by unfold limOf; rw [if_neg (by omega), if_neg (by omega)]
    have F1 : Hid (wrAll [] 0 65575 l = [] ∧ wrErr [] 0 65575 l.length = 3) := by
      have := HL.out
      constructor
      · unfold wrAll; rw [if_neg (by simp; omega)]
      · unfold wrErr; rw [if_pos rfl, if_neg (by simp; omega)]
    have F2 : Hid (wrAll [] 3 65575 [1] = [] ∧ wrErr [] 3 65575 1 = 3) := by
      have := HL.out
      constructor
      · unfold wrAll; rw [if_neg (by simp; try omega)]
      · unfold wrErr; rw [if_neg (by omega)]
    have F3 : Hid (rdOut l 0 ((len : Int) + 1) = [] ∧ rdRest l 0 ((len : Int) + 1) = l ∧ rdErr l 0 ((len : Int) + 1) = 20) := by
      have := HL.out
      refine ⟨?_, ?_, ?_⟩
      · unfold rdOut; rw [if_neg (by omega)]
      · unfold rdRest; rw [if_neg (by omega)]
      · unfold rdErr; rw [if_pos rfl, if_neg (by omega), if_neg (by omega)]
    go_enter Try.func5, Try.ntmps5
    go_wp2_with fail
    refine (alive_any _).mono ?_
    rintro E w1 ⟨rfl, haw1⟩
    have hr1 := hr.away haw1 (by simp)
    go_wp2_with fail
    refine (own_any a l _ _ _ HL.out (by exact hr1)).mono ?_
    rintro E w2 ⟨v2, rfl, hown2, hnew2, haw2, hb2, hl2⟩
    obtain ⟨a2, cap2, hv2, hcap2, hnone2, hrow2, _⟩ := hown2.row hl2 hb2
    rw [HL.out] at hv2
    subst hv2
    go_wp2_with fail
    refine (newReader_any a2 l _ _ _ HL.out hnone2 (by exact hrow2)).mono ?_
    rintro E w3 ⟨gr, dr, rfl, hrd, hgr, hdr, haw3⟩
    have hA3 := (haw1.next haw2 (by simp)).next haw3 (by simp)
    have hs2 := (haw1.next haw2 (by simp)).size
    have hBr : w.heap.size ≤ gr := by omega
    clear hown2 hnew2 hrow2 haw1 haw2 haw3 hr1 hgr hdr hs2 hcap2 hnone2
    go_wp2_with fail
    refine (newWriter_any len _ (by omega) (by omega)).mono ?_
    rintro E w4 ⟨gw, v, rfl, hwr, hgw, hv, haw4⟩
    rw [F0] at hwr
    have hlt := hrd.lt
    have hrn : gr ∉ fp gw v := fp_none hv (by omega)
    have hdn : dr ∉ fp gw v := fp_none hv (by omega)
    have hs3 := hA3.size
    have hB : ∀ k ∈ fp gw v, w.heap.size ≤ k := by intro k hk; simp [fp, hv] at hk; omega
    have hA4 := hA3.next haw4 (by simp)
    have hrd4 := hrd.away haw4 (by simp) (by simp)
    have hr4 := hr.away hA4 (by simp)
    clear hA3 haw4 hrd hlt hs3 hv hgw
    go_wp2_with fail
    refine (own_any a l _ _ _ HL.out (by exact hr4)).mono ?_
    rintro E w5 ⟨v5, rfl, hown5, hnew5, haw5, hb5, hl5⟩
    obtain ⟨a5, cap5, hv5, hcap5, hnone5, hrow5, _⟩ := hown5.row hl5 hb5
    rw [HL.out] at hv5
    subst hv5
    have hwr5 := hwr.away haw5 (by simp) (by simp)
    have hrd5 := hrd4.away haw5 (by simp) (by simp)
    have hA5 := hA4.next haw5 (by simp)
    have hs5 := hA5.size
    clear hwr hrd4 hA4 haw5 hown5 hnew5 hcap5
    go_wp2_with fail
    refine (wbytes_any _ gw v 65575 [] 0 a5 l len cap5 (by exact hwr5) HL.out hnone5 (by exact hrow5)).mono ?_
    rintro E w6 ⟨rfl, v6, hwr6, hm6, haw6⟩
    rw [F1.out.1, F1.out.2] at hwr6
    have hB6 := fp_new hm6 hB hs5
    have hrn6 := fp_next hm6 hrn hrd5.lt.1
    have hdn6 := fp_next hm6 hdn hrd5.lt.2
    have hrd6 := hrd5.away haw6 hrn hdn
    have hA6 := hA5.next haw6 (fun k hk => .inr (hB k hk))
    have hs6 := hA6.size
    clear hwr5 hrd5 hA5 haw6 hB hrn hdn hm6 hs5 hrow5 hnone5
    go_wp2_with fail
    refine (bytes_any _ gr dr l 0 ((len : Int) + 1) (by exact hrd6)).mono ?_
    rintro E w7 ⟨v7, rfl, hown7, hnew7, hrd7, haw7, hb7, hl7⟩
    rw [F3.out.2.1, F3.out.2.2] at hrd7
    have hgrw : gw ∉ [gr] := by intro hh; simp at hh; exact hrn6 (by rw [← hh]; exact fp_self _ _)
    have hwr7 := hwr6.away haw7 hgrw (fun k hk hh => by simp at hh; exact hrn6 (by rw [← hh]; exact fp_own hk))
    have hA7 := hA6.next haw7 (by simpa using hBr)
    have hs7 := hA7.size
    clear hwr6 hrd6 hA6 haw7 hown7 hnew7 hs6 hgrw
    go_wp2_with fail
    refine (w8_any _ gw v6 65575 [] 3 1 (by exact hwr7) (by omega) (by omega)).mono ?_
    rintro E w8 ⟨rfl, v8, hwr8, hm8, haw8⟩
    rw [F2.out.1, F2.out.2] at hwr8
    have hB8 := fp_new hm8 hB6 hs7
    have hrn8 := fp_next hm8 hrn6 hrd7.lt.1
    have hdn8 := fp_next hm8 hdn6 hrd7.lt.2
    have hrd8 := hrd7.away haw8 hrn6 hdn6
    have hA8 := hA7.next haw8 (fun k hk => .inr (hB6 k hk))
    clear hwr7 hrd7 hA7 haw8 hB6 hrn6 hdn6 hm8 hs7
    have hst : St w w8 gr dr gw 65575 l [] := ⟨hA8, hrd8, ⟨v8, hwr8, hB8, hrn8, hdn8⟩, hBr⟩
    go_wp2_with fail
    refine (err_any _ gr dr l 20 (by exact hrd8)).mono ?_
    rintro E w' ⟨rfl, rfl⟩
    go_wp2_with fail
    refine (werr_any _ gw v8 65575 [] 3 (by exact hwr8)).mono ?_
    rintro E w' ⟨rfl, rfl⟩
    go_wp2_with fail
    refine (left_any _ gr dr l 20 (by exact hrd8)).mono ?_
    rintro E w' ⟨rfl, rfl⟩
    rw [HL.out]
    go_wp2_with fail
    refine (wlen_any _ gw v8 65575 [] 3 (by exact hwr8)).mono ?_
    rintro E w' ⟨rfl, rfl⟩
    rw [List.length_nil]
    clear hwr8 hrd8 hA8 hB8 hrn8 hdn8 F0 F1 F2 F3
    go_wp2_with fail
    go_loopw [8] (fun i wr => ∃ k : Nat, k ≤ ops.length ∧ i = .int .i64 k ∧ St w wr gr dr gw 65575 l []) (fun i _ => ops.length - (intOf i).toNat)
    case atStart => exact ⟨0, by omega, rfl, hst⟩
    case round =>
      obtain ⟨k, hk, rfl, hs⟩ := hrel
      by_cases hlt : k < ops.length
      · rcases hsc.2.2 with h0 | ⟨b, off, rfl, hcell⟩
        · rw [h0] at hlt; simp at hlt
        obtain ⟨aw, rd, ⟨v, wwr, fpB, rn, dn⟩, _⟩ := hs
        obtain ⟨o, ho⟩ : ∃ o, ops[k]? = some o := ⟨_, List.getElem?_eq_getElem hlt⟩
        obtain ⟨c0, c1, c2, c3, c4⟩ := hcell k o ho
        have d0 := aw.cell (by simp) c0
        have d1 := aw.cell (by simp) c1
        have d2 := aw.cell (by simp) c2
        have d3 := aw.cell (by simp) c3
        have d4 := aw.cell (by simp) c4
        have hok := hsc.2.1 o (List.mem_of_getElem? ho)
        have HO : Hid (ops[k]? = some o) := ho
        clear c0 c1 c2 c3 c4 hcell ho
        have hA0 : Away [] wr (wr.alloc (box55 o)) := (Away.refl [] wr).alloc _
        unfold box55 at hA0
        have rd0 := rd.away hA0 (by simp) (by simp)
        have wwr0 := wwr.away hA0 (by simp) (by simp)
        have aw0 := aw.next hA0 (by simp)
        have hok0 := hok.away (S := []) aw0
        have hsz := aw0.size
        have hbx : wr.heap.size ∉ fp gw v := by
          intro hm
          simp only [fp, List.mem_cons, Option.mem_toList] at hm
          have hl := wwr.lt
          rcases hm with hm | hm
          · omega
          · have := hl.2 _ hm; omega
        have hbr : wr.heap.size ≠ gr := by have := rd.lt; omega
        have x2 : (wr.alloc (.cells #[.int .i64 o.kd, .int .i64 o.who, .int .i64 o.n, .int .u32 o.v, .slice o.ba o.b.length o.bc] 55)).cell? ⟨wr.heap.size, 2, none⟩ = some (.int .i64 o.n) := by rw [World.cell?_alloc_at (hn := rfl)]; rfl
        have x3 : (wr.alloc (.cells #[.int .i64 o.kd, .int .i64 o.who, .int .i64 o.n, .int .u32 o.v, .slice o.ba o.b.length o.bc] 55)).cell? ⟨wr.heap.size, 3, none⟩ = some (.int .u32 o.v) := by rw [World.cell?_alloc_at (hn := rfl)]; rfl
        have hbxlt : wr.heap.size < (wr.alloc (.cells #[.int .i64 o.kd, .int .i64 o.who, .int .i64 o.n, .int .u32 o.v, .slice o.ba o.b.length o.bc] 55)).heap.size := by simp
        go_wp2_with fail
        refine (put_any _ gw v 65575 [] 3 o (by exact wwr0) (by exact hok0)).mono ?_
        rintro E w10 ⟨rfl, v10, wwr10, hm10, haw10⟩
        rw [(wr_stays _ _ _ 0).1, (wr_stays _ [] _ _).2] at wwr10
        have y2 := haw10.cell hbx x2
        have y3 := haw10.cell hbx x3
        have hbx10 := fp_next hm10 hbx hbxlt
        have fpB10 := fp_new hm10 fpB hsz
        have rn10 := fp_next hm10 rn rd0.lt.1
        have dn10 := fp_next hm10 dn rd0.lt.2
        have rd10 := rd0.away haw10 rn dn
        have aw10 := aw0.next haw10 (fun k hk => .inr (fpB k hk))
        have hsz10 := aw10.size
        have hv := hok.2.2.2.1
        have hv0 := hv.1
        have hv1 := hv.2
        have hn := hok.2.2.1
        have hn0 := hn.1
        have hn1 := hn.2
        clear x2 x3 wwr wwr0 rd rd0 aw aw0 haw10 hm10 fpB rn dn hok0 hbx hbxlt hA0 hsz hv hn d0 d1 d2 d3 d4
        go_wp2_with fail
        refine (put16_any _ gw v10 65575 [] 3 o.n (o.v % 65536) (by exact wwr10) (by omega) (by omega) hn0 hn1).mono ?_
        rintro E w11 ⟨rfl, v11, wwr11, hm11, haw11⟩
        rw [(put_stays _ _ _).1, (put_stays _ _ 0).2] at wwr11
        have z2 := haw11.cell hbx10 y2
        have fpB11 := fp_new hm11 fpB10 hsz10
        have rn11 := fp_next hm11 rn10 rd10.lt.1
        have dn11 := fp_next hm11 dn10 rd10.lt.2
        have rd11 := rd10.away haw11 rn10 dn10
        have aw11 := aw10.next haw11 (fun k hk => .inr (fpB10 k hk))
        clear y2 y3 wwr10 rd10 aw10 haw11 hm11 fpB10 rn10 dn10 hbx10 hsz10
        go_wp2_with fail
        refine (out_any _ gw v11 65575 [] 3 (by exact wwr11)).mono ?_
        rintro E w12 ⟨v12, rfl, hown12, hnew12, haw12⟩
        rw [show wrOut [] 3 = [] from by unfold wrOut; rw [if_neg (by omega)]] at hown12
        obtain ⟨a12, cap12, hv12, _⟩ := hown12.row (by simp) Bytes.nil
        simp only [List.length_nil] at hv12
        subst hv12
        have u2 := haw12.cell (by simp) z2
        have wwr12 := wwr11.away haw12 (by simp) (by simp)
        have rd12 := rd11.away haw12 (by simp) (by simp)
        have aw12 := aw11.next haw12 (by simp)
        clear z2 wwr11 rd11 aw11 haw12 hown12 hnew12
        go_wp2_with fail
        refine (werr_any _ gw v11 65575 [] 3 (by exact wwr12)).mono ?_
        rintro E w' ⟨rfl, rfl⟩
        go_wp2_with fail
        refine (wlen_any _ gw v11 65575 [] 3 (by exact wwr12)).mono ?_
        rintro E w' ⟨rfl, rfl⟩
        rw [List.length_nil]
        go_wp2_with fail
        refine (bytes_any _ gr dr l 20 o.n (by exact rd12)).mono ?_
        rintro E w13 ⟨v13, rfl, hown13, hnew13, rd13, haw13, _, _⟩
        rw [(rd_stays l o.n).1] at hown13
        rw [(rd_stays l o.n).2.1, (rd_stays l o.n).2.2.1] at rd13
        obtain ⟨a13, cap13, hv13, _⟩ := hown13.row (by simp) Bytes.nil
        simp only [List.length_nil] at hv13
        subst hv13
        have hgrw : gw ∉ [gr] := by intro hh; simp at hh; exact rn11 (by rw [← hh]; exact fp_self _ _)
        have hvrw : ∀ k, v11.ownBlock = some k → k ∉ [gr] := fun k hk hh => by simp at hh; exact rn11 (by rw [← hh]; exact fp_own hk)
        have wwr13 := wwr12.away haw13 hgrw hvrw
        have aw13 := aw12.next haw13 (by simpa using hBr)
        clear wwr12 rd12 aw12 haw13 hown13 hnew13 u2
        go_wp2_with fail
        refine (u8_any _ gr dr l 20 (by exact rd13)).mono ?_
        rintro E w14 ⟨rfl, rd14, haw14⟩
        rw [(rd_stays l 1).2.1, (rd_stays l 1).2.2.1] at rd14
        rw [(rd_stays l 1).2.2.2]
        have wwr14 := wwr13.away haw14 hgrw hvrw
        have aw14 := aw13.next haw14 (by simpa using hBr)
        clear wwr13 rd13 aw13 haw14
        go_wp2_with fail
        refine (u16_any _ gr dr l 20 (by exact rd14)).mono ?_
        rintro E w15 ⟨rfl, rd15, haw15⟩
        rw [(rd_stays l 2).2.1, (rd_stays l 2).2.2.1] at rd15
        rw [(rd_stays l 2).2.2.2]
        have wwr15 := wwr14.away haw15 hgrw hvrw
        have aw15 := aw14.next haw15 (by simpa using hBr)
        clear wwr14 rd14 aw14 haw15
        go_wp2_with fail
        refine (u32_any _ gr dr l 20 (by exact rd15)).mono ?_
        rintro E w16 ⟨rfl, rd16, haw16⟩
        rw [(rd_stays l 4).2.1, (rd_stays l 4).2.2.1] at rd16
        rw [(rd_stays l 4).2.2.2]
        have wwr16 := wwr15.away haw16 hgrw hvrw
        have aw16 := aw15.next haw16 (by simpa using hBr)
        clear wwr15 rd15 aw15 haw16
        go_wp2_with fail
        refine (err_any _ gr dr l 20 (by exact rd16)).mono ?_
        rintro E w' ⟨rfl, rfl⟩
        go_wp2_with fail
        refine (end_any _ gr dr l 20 (by exact rd16)).mono ?_
        rintro E w' ⟨rfl, rfl⟩
        rw [show rdEnd l 20 = 20 from by unfold rdEnd; rw [if_neg (by omega)]]
        go_wp2_with fail
        refine (left_any _ gr dr l 20 (by exact rd16)).mono ?_
        rintro E w' ⟨rfl, rfl⟩
        rw [HL.out]
        go_wp2_with fail
        go_roundw
        case rel => exact ⟨k + 1, by omega, by go_num, ⟨aw16, rd16, ⟨v11, wwr16, fpB11, rn11, dn11⟩, hBr⟩⟩
        case measure => simp [intOf]; omega
      · go_wp2_with fail
        go_ret
        exact ⟨rfl, hs.aw.to_below⟩
  · have hbig' : decide ((65575 : Int) < (len : Int)) = false := by simp; omega
    have F0 : limOf len = len := by unfold limOf; rw [if_neg (by omega), if_pos (by omega)]
    have F1 : Hid (wrAll [] 0 len l = l ∧ wrErr [] 0 len l.length = 0) := by
      have := HL.out
      constructor
      · unfold wrAll; rw [if_pos (by simp; omega)]; rfl
      · unfold wrErr; rw [if_pos rfl, if_pos (by simp; omega)]
    have F2 : Hid (wrAll l 0 len [1] = l ∧ wrErr l 0 len 1 = 3) := by
      have := HL.out
      constructor
      · unfold wrAll; rw [if_neg (by simp; try omega)]
      · unfold wrErr; rw [if_pos rfl, if_neg (by omega)]
    have F3 : Hid (rdOut l 0 ((len : Int) + 1) = [] ∧ rdRest l 0 ((len : Int) + 1) = l ∧ rdErr l 0 ((len : Int) + 1) = 20) := by
      have := HL.out
      refine ⟨?_, ?_, ?_⟩
      · unfold rdOut; rw [if_neg (by omega)]
      · unfold rdRest; rw [if_neg (by omega)]
      · unfold rdErr; rw [if_pos rfl, if_neg (by omega), if_neg (by omega)]
    go_enter Try.func5, Try.ntmps5
    go_wp2_with fail
    refine (alive_any _).mono ?_
    rintro E w1 ⟨rfl, haw1⟩
    have hr1 := hr.away haw1 (by simp)
    go_wp2_with fail
    refine (own_any a l _ _ _ HL.out (by exact hr1)).mono ?_
    rintro E w2 ⟨v2, rfl, hown2, hnew2, haw2, hb2, hl2⟩
    obtain ⟨a2, cap2, hv2, hcap2, hnone2, hrow2, _⟩ := hown2.row hl2 hb2
    rw [HL.out] at hv2
    subst hv2
    go_wp2_with fail
    refine (newReader_any a2 l _ _ _ HL.out hnone2 (by exact hrow2)).mono ?_
    rintro E w3 ⟨gr, dr, rfl, hrd, hgr, hdr, haw3⟩
    have hA3 := (haw1.next haw2 (by simp)).next haw3 (by simp)
    have hs2 := (haw1.next haw2 (by simp)).size
    have hBr : w.heap.size ≤ gr := by omega
    clear hown2 hnew2 hrow2 haw1 haw2 haw3 hr1 hgr hdr hs2 hcap2 hnone2
    go_wp2_with fail
    refine (newWriter_any len _ (by omega) (by omega)).mono ?_
    rintro E w4 ⟨gw, v, rfl, hwr, hgw, hv, haw4⟩
    rw [F0] at hwr
    have hlt := hrd.lt
    have hrn : gr ∉ fp gw v := fp_none hv (by omega)
    have hdn : dr ∉ fp gw v := fp_none hv (by omega)
    have hs3 := hA3.size
    have hB : ∀ k ∈ fp gw v, w.heap.size ≤ k := by intro k hk; simp [fp, hv] at hk; omega
    have hA4 := hA3.next haw4 (by simp)
    have hrd4 := hrd.away haw4 (by simp) (by simp)
    have hr4 := hr.away hA4 (by simp)
    clear hA3 haw4 hrd hlt hs3 hv hgw
    go_wp2_with fail
    refine (own_any a l _ _ _ HL.out (by exact hr4)).mono ?_
    rintro E w5 ⟨v5, rfl, hown5, hnew5, haw5, hb5, hl5⟩
    obtain ⟨a5, cap5, hv5, hcap5, hnone5, hrow5, _⟩ := hown5.row hl5 hb5
    rw [HL.out] at hv5
    subst hv5
    have hwr5 := hwr.away haw5 (by simp) (by simp)
    have hrd5 := hrd4.away haw5 (by simp) (by simp)
    have hA5 := hA4.next haw5 (by simp)
    have hs5 := hA5.size
    clear hwr hrd4 hA4 haw5 hown5 hnew5 hcap5
    go_wp2_with fail
    refine (wbytes_any _ gw v len [] 0 a5 l len cap5 (by exact hwr5) HL.out hnone5 (by exact hrow5)).mono ?_
    rintro E w6 ⟨rfl, v6, hwr6, hm6, haw6⟩
    rw [F1.out.1, F1.out.2] at hwr6
    have hB6 := fp_new hm6 hB hs5
    have hrn6 := fp_next hm6 hrn hrd5.lt.1
    have hdn6 := fp_next hm6 hdn hrd5.lt.2
    have hrd6 := hrd5.away haw6 hrn hdn
    have hA6 := hA5.next haw6 (fun k hk => .inr (hB k hk))
    have hs6 := hA6.size
    clear hwr5 hrd5 hA5 haw6 hB hrn hdn hm6 hs5 hrow5 hnone5
    go_wp2_with fail
    refine (bytes_any _ gr dr l 0 ((len : Int) + 1) (by exact hrd6)).mono ?_
    rintro E w7 ⟨v7, rfl, hown7, hnew7, hrd7, haw7, hb7, hl7⟩
    rw [F3.out.2.1, F3.out.2.2] at hrd7
    have hgrw : gw ∉ [gr] := by intro hh; simp at hh; exact hrn6 (by rw [← hh]; exact fp_self _ _)
    have hwr7 := hwr6.away haw7 hgrw (fun k hk hh => by simp at hh; exact hrn6 (by rw [← hh]; exact fp_own hk))
    have hA7 := hA6.next haw7 (by simpa using hBr)
    have hs7 := hA7.size
    clear hwr6 hrd6 hA6 haw7 hown7 hnew7 hs6 hgrw
    go_wp2_with fail
    refine (w8_any _ gw v6 len l 0 1 (by exact hwr7) (by omega) (by omega)).mono ?_
    rintro E w8 ⟨rfl, v8, hwr8, hm8, haw8⟩
    rw [F2.out.1, F2.out.2] at hwr8
    have hB8 := fp_new hm8 hB6 hs7
    have hrn8 := fp_next hm8 hrn6 hrd7.lt.1
    have hdn8 := fp_next hm8 hdn6 hrd7.lt.2
    have hrd8 := hrd7.away haw8 hrn6 hdn6
    have hA8 := hA7.next haw8 (fun k hk => .inr (hB6 k hk))
    clear hwr7 hrd7 hA7 haw8 hB6 hrn6 hdn6 hm8 hs7
    have hst : St w w8 gr dr gw len l l := ⟨hA8, hrd8, ⟨v8, hwr8, hB8, hrn8, hdn8⟩, hBr⟩
    go_wp2_with fail
    refine (err_any _ gr dr l 20 (by exact hrd8)).mono ?_
    rintro E w' ⟨rfl, rfl⟩
    go_wp2_with fail
    refine (werr_any _ gw v8 len l 3 (by exact hwr8)).mono ?_
    rintro E w' ⟨rfl, rfl⟩
    go_wp2_with fail
    refine (left_any _ gr dr l 20 (by exact hrd8)).mono ?_
    rintro E w' ⟨rfl, rfl⟩
    rw [HL.out]
    go_wp2_with fail
    refine (wlen_any _ gw v8 len l 3 (by exact hwr8)).mono ?_
    rintro E w' ⟨rfl, rfl⟩
    rw [HL.out]
    clear hwr8 hrd8 hA8 hB8 hrn8 hdn8 F0 F1 F2 F3
    go_wp2_with fail
    go_loopw [8] (fun i wr => ∃ k : Nat, k ≤ ops.length ∧ i = .int .i64 k ∧ St w wr gr dr gw len l l) (fun i _ => ops.length - (intOf i).toNat)
    case atStart => exact ⟨0, by omega, rfl, hst⟩
    case round =>
      obtain ⟨k, hk, rfl, hs⟩ := hrel
      by_cases hlt : k < ops.length
      · rcases hsc.2.2 with h0 | ⟨b, off, rfl, hcell⟩
        · rw [h0] at hlt; simp at hlt
        obtain ⟨aw, rd, ⟨v, wwr, fpB, rn, dn⟩, _⟩ := hs
        obtain ⟨o, ho⟩ : ∃ o, ops[k]? = some o := ⟨_, List.getElem?_eq_getElem hlt⟩
        obtain ⟨c0, c1, c2, c3, c4⟩ := hcell k o ho
        have d0 := aw.cell (by simp) c0
        have d1 := aw.cell (by simp) c1
        have d2 := aw.cell (by simp) c2
        have d3 := aw.cell (by simp) c3
        have d4 := aw.cell (by simp) c4
        have hok := hsc.2.1 o (List.mem_of_getElem? ho)
        have HO : Hid (ops[k]? = some o) := ho
        clear c0 c1 c2 c3 c4 hcell ho
        have hA0 : Away [] wr (wr.alloc (box55 o)) := (Away.refl [] wr).alloc _
        unfold box55 at hA0
        have rd0 := rd.away hA0 (by simp) (by simp)
        have wwr0 := wwr.away hA0 (by simp) (by simp)
        have aw0 := aw.next hA0 (by simp)
        have hok0 := hok.away (S := []) aw0
        have hsz := aw0.size
        have hbx : wr.heap.size ∉ fp gw v := by
          intro hm
          simp only [fp, List.mem_cons, Option.mem_toList] at hm
          have hl := wwr.lt
          rcases hm with hm | hm
          · omega
          · have := hl.2 _ hm; omega
        have hbr : wr.heap.size ≠ gr := by have := rd.lt; omega
        have x2 : (wr.alloc (.cells #[.int .i64 o.kd, .int .i64 o.who, .int .i64 o.n, .int .u32 o.v, .slice o.ba o.b.length o.bc] 55)).cell? ⟨wr.heap.size, 2, none⟩ = some (.int .i64 o.n) := by rw [World.cell?_alloc_at (hn := rfl)]; rfl
        have x3 : (wr.alloc (.cells #[.int .i64 o.kd, .int .i64 o.who, .int .i64 o.n, .int .u32 o.v, .slice o.ba o.b.length o.bc] 55)).cell? ⟨wr.heap.size, 3, none⟩ = some (.int .u32 o.v) := by rw [World.cell?_alloc_at (hn := rfl)]; rfl
        have hbxlt : wr.heap.size < (wr.alloc (.cells #[.int .i64 o.kd, .int .i64 o.who, .int .i64 o.n, .int .u32 o.v, .slice o.ba o.b.length o.bc] 55)).heap.size := by simp
        go_wp2_with fail
        refine (put_any _ gw v len l 3 o (by exact wwr0) (by exact hok0)).mono ?_
        rintro E w10 ⟨rfl, v10, wwr10, hm10, haw10⟩
        rw [(wr_stays _ _ _ 0).1, (wr_stays _ [] _ _).2] at wwr10
        have y2 := haw10.cell hbx x2
        have y3 := haw10.cell hbx x3
        have hbx10 := fp_next hm10 hbx hbxlt
        have fpB10 := fp_new hm10 fpB hsz
        have rn10 := fp_next hm10 rn rd0.lt.1
        have dn10 := fp_next hm10 dn rd0.lt.2
        have rd10 := rd0.away haw10 rn dn
        have aw10 := aw0.next haw10 (fun k hk => .inr (fpB k hk))
        have hsz10 := aw10.size
        have hv := hok.2.2.2.1
        have hv0 := hv.1
        have hv1 := hv.2
        have hn := hok.2.2.1
        have hn0 := hn.1
        have hn1 := hn.2
        clear x2 x3 wwr wwr0 rd rd0 aw aw0 haw10 hm10 fpB rn dn hok0 hbx hbxlt hA0 hsz hv hn d0 d1 d2 d3 d4
        go_wp2_with fail
        refine (put16_any _ gw v10 len l 3 o.n (o.v % 65536) (by exact wwr10) (by omega) (by omega) hn0 hn1).mono ?_
        rintro E w11 ⟨rfl, v11, wwr11, hm11, haw11⟩
        rw [(put_stays _ _ _).1, (put_stays _ _ 0).2] at wwr11
        have z2 := haw11.cell hbx10 y2
        have fpB11 := fp_new hm11 fpB10 hsz10
        have rn11 := fp_next hm11 rn10 rd10.lt.1
        have dn11 := fp_next hm11 dn10 rd10.lt.2
        have rd11 := rd10.away haw11 rn10 dn10
        have aw11 := aw10.next haw11 (fun k hk => .inr (fpB10 k hk))
        clear y2 y3 wwr10 rd10 aw10 haw11 hm11 fpB10 rn10 dn10 hbx10 hsz10
        go_wp2_with fail
        refine (out_any _ gw v11 len l 3 (by exact wwr11)).mono ?_
        rintro E w12 ⟨v12, rfl, hown12, hnew12, haw12⟩
        rw [show wrOut l 3 = [] from by unfold wrOut; rw [if_neg (by omega)]] at hown12
        obtain ⟨a12, cap12, hv12, _⟩ := hown12.row (by simp) Bytes.nil
        simp only [List.length_nil] at hv12
        subst hv12
        have u2 := haw12.cell (by simp) z2
        have wwr12 := wwr11.away haw12 (by simp) (by simp)
        have rd12 := rd11.away haw12 (by simp) (by simp)
        have aw12 := aw11.next haw12 (by simp)
        clear z2 wwr11 rd11 aw11 haw12 hown12 hnew12
        go_wp2_with fail
        refine (werr_any _ gw v11 len l 3 (by exact wwr12)).mono ?_
        rintro E w' ⟨rfl, rfl⟩
        go_wp2_with fail
        refine (wlen_any _ gw v11 len l 3 (by exact wwr12)).mono ?_
        rintro E w' ⟨rfl, rfl⟩
        rw [HL.out]
        go_wp2_with fail
        refine (bytes_any _ gr dr l 20 o.n (by exact rd12)).mono ?_
        rintro E w13 ⟨v13, rfl, hown13, hnew13, rd13, haw13, _, _⟩
        rw [(rd_stays l o.n).1] at hown13
        rw [(rd_stays l o.n).2.1, (rd_stays l o.n).2.2.1] at rd13
        obtain ⟨a13, cap13, hv13, _⟩ := hown13.row (by simp) Bytes.nil
        simp only [List.length_nil] at hv13
        subst hv13
        have hgrw : gw ∉ [gr] := by intro hh; simp at hh; exact rn11 (by rw [← hh]; exact fp_self _ _)
        have hvrw : ∀ k, v11.ownBlock = some k → k ∉ [gr] := fun k hk hh => by simp at hh; exact rn11 (by rw [← hh]; exact fp_own hk)
        have wwr13 := wwr12.away haw13 hgrw hvrw
        have aw13 := aw12.next haw13 (by simpa using hBr)
        clear wwr12 rd12 aw12 haw13 hown13 hnew13 u2
        go_wp2_with fail
        refine (u8_any _ gr dr l 20 (by exact rd13)).mono ?_
        rintro E w14 ⟨rfl, rd14, haw14⟩
        rw [(rd_stays l 1).2.1, (rd_stays l 1).2.2.1] at rd14
        rw [(rd_stays l 1).2.2.2]
        have wwr14 := wwr13.away haw14 hgrw hvrw
        have aw14 := aw13.next haw14 (by simpa using hBr)
        clear wwr13 rd13 aw13 haw14
        go_wp2_with fail
        refine (u16_any _ gr dr l 20 (by exact rd14)).mono ?_
        rintro E w15 ⟨rfl, rd15, haw15⟩
        rw [(rd_stays l 2).2.1, (rd_stays l 2).2.2.1] at rd15
        rw [(rd_stays l 2).2.2.2]
        have wwr15 := wwr14.away haw15 hgrw hvrw
        have aw15 := aw14.next haw15 (by simpa using hBr)
        clear wwr14 rd14 aw14 haw15
        go_wp2_with fail
        refine (u32_any _ gr dr l 20 (by exact rd15)).mono ?_
        rintro E w16 ⟨rfl, rd16, haw16⟩
        rw [(rd_stays l 4).2.1, (rd_stays l 4).2.2.1] at rd16
        rw [(rd_stays l 4).2.2.2]
        have wwr16 := wwr15.away haw16 hgrw hvrw
        have aw16 := aw15.next haw16 (by simpa using hBr)
        clear wwr15 rd15 aw15 haw16
        go_wp2_with fail
        refine (err_any _ gr dr l 20 (by exact rd16)).mono ?_
        rintro E w' ⟨rfl, rfl⟩
        go_wp2_with fail
        refine (end_any _ gr dr l 20 (by exact rd16)).mono ?_
        rintro E w' ⟨rfl, rfl⟩
        rw [show rdEnd l 20 = 20 from by unfold rdEnd; rw [if_neg (by omega)]]
        go_wp2_with fail
        refine (left_any _ gr dr l 20 (by exact rd16)).mono ?_
        rintro E w' ⟨rfl, rfl⟩
        rw [HL.out]
        go_wp2_with fail
        go_roundw
        case rel => exact ⟨k + 1, by omega, by go_num, ⟨aw16, rd16, ⟨v11, wwr16, fpB11, rn11, dn11⟩, hBr⟩⟩
        case measure => simp [intOf]; omega
      · go_wp2_with fail
        go_ret
        exact ⟨rfl, hs.aw.to_below⟩
theorem walk (a0 : Option Addr) (len0 cap0 : Nat) (z0 : List Int) (sa : Option Addr) (ops : List OpD) (scap : Nat) (w : World) (h0 : IsRow .u8 w a0 len0 cap0 z0) (h1 : ops.length ≤ scap) (h2 : Script w sa ops) :
    Calls Try.prog 5 #[.slice a0 len0 cap0, .slice sa ops.length scap] w fun e w' => e = .returned (.bool true) ∧ Below w.heap.size w w' := by
  obtain ⟨l, hl, hc, hc', hr, hn⟩ := view h0
  exact walkl a0 l len0 cap0 sa ops scap w hl hc hc' hn hr h1 h2
set_option maxRecDepth 100000 in
theorem lifted (os : Os) (started : os.Started) (H : Type) (enc : TypeId × Value → H) :
    ReturnsInHanded {} Try.checked os 5 .any (Rows.wireStaysSpec.pre6 enc Try.prog Try.f5 Rows.wireStaysRow.domain false) (Rows.wireStaysSpec.post enc Try.prog Try.f5 false true false false) := by
  refine returnsInHanded_of_change_sized (C := Try.checked) ownKn started (by kernel_rfl) Try.func5
    (ChangeSpec.witness6 (enc := enc) (C := Try.checked) false ⟨#[], #[.slice none 0 0, .slice none 0 0], []⟩ 8 (by kernel_rfl) (by kernel_rfl) (by kernel_rfl) (by kernel_rfl)) ?_
  intro W base args ds gs before hval0 hW _ hsz0 _
  have hsz : (DataW.weightsEach Try.prog (Try.f5.params.toList ++ Rows.wireStaysSpec.plain.varTypes Try.prog) (ds ++ gs)).all (· ≤ reachBytes) = true := hsz0
  clear hsz0
  have hval : ∀ (j : Nat) t v, Try.f5.params[j]? = some t → args[j]? = some v → Value.okWide Try.prog W .any base t v := hval0
  have hW' := hW
  obtain ⟨p, q, hA0, hV, rfl, hfz, hnd⟩ := hW
  have hA : DataW.TrodAll enc Try.prog W 0 (fun _ => true) true Try.f5.params.toList args.toList ds p := hA0
  rw [Try.params5] at hA hval hsz
  obtain ⟨v0, vs0, d0, ds0, p0, q0, hargs, rfl, rfl, h0, r0⟩ := trodAll_cons hA
  obtain ⟨v1, vs1, d1, ds1, p1, q1, rfl, rfl, rfl, h1, r1⟩ := trodAll_cons r0
  obtain ⟨rfl, rfl, rfl⟩ := trodAll_nil r1
  obtain rfl : args = #[v0, v1] := by cases args; simp_all
  obtain ⟨rfl, rfl⟩ := trodVars_none hV
  obtain ⟨a0, len0, cap0, rfl⟩ := okWide_slice Try.underlying22 (hval 0 22 v0 rfl rfl)
  have k0 := h0
  have lt0 : ∀ x ∈ p0, x.block < W.heap.size := by obtain ⟨m, hm⟩ := k0; exact DataW.trod_lt m _ _ _ hm
  obtain ⟨z0, w0⟩ : ∃ zs, IsRow .u8 W a0 len0 cap0 zs := by
    obtain ⟨fuel, hf⟩ := h0
    rcases open_ints Try.underlying22 Try.underlying5 (by kernel_rfl) hf with ⟨hcs, _⟩ | ⟨x, l, c, zs, hcs, _, hl, hm, hz, hx, hcell, hwz⟩
    · simp [Value.cells] at hcs
      obtain ⟨rfl, rfl, rfl⟩ := hcs
      exact ⟨[], .inl ⟨rfl, rfl, rfl, rfl⟩⟩
    · simp [Value.cells] at hcs
      obtain ⟨rfl, rfl, rfl⟩ := hcs
      simp only [Prod.mk.injEq] at hx
      obtain ⟨rfl, hpl⟩ := hx
      have hreach : cap0 * kindBytes .u8 ≤ 140737488351232 := by
        have := sized_slice hsz (j := 0) (t := 22) (e := 5) rfl rfl Try.underlying22
        rw [show Try.prog.bytesOf 5 = kindBytes .u8 from by kernel_rfl] at this
        simp only [lits, List.length_map, List.length_take, List.length_drop, reachBytes] at this
        simp only [if_true] at hz
        rw [show min len0 zs.length + (zs.length - len0) = cap0 from by omega] at this
        exact this
      exact ⟨zs, .inr ⟨_, rfl, hl, hreach, by simpa using hz, hcell, hwz⟩⟩
  obtain ⟨a1, len1, cap1, rfl⟩ := okWide_slice Try.underlying52 (hval 1 52 v1 rfl rfl)
  have k1 := h1
  have lt1 : ∀ x ∈ p1, x.block < W.heap.size := by obtain ⟨m, hm⟩ := k1; exact DataW.trod_lt m _ _ _ hm
  obtain ⟨ops1, hol1, w1, hsc1, hbk1⟩ : ∃ ops : List OpD, ops.length = len1 ∧ ops.length ≤ cap1 ∧ Script W a1 ops ∧ (ops.map (fun o => o.b.length + 4)).sum ≤ Rows.uptoBulk d1 := by
    obtain ⟨fuel, hf⟩ := h1
    obtain ⟨ops, e1, e2, e3, e4⟩ := open_script (enc := enc) (fuel := fuel) (a := a1) (len := len1) (cap := cap1) (by simpa [Value.cells] using hf) (fun m hm => by
      have := List.all_eq_true.1 hsz m (DataW.weights_mem_each (j := 1) (t := 52) rfl rfl m hm)
      simpa using this)
    exact ⟨ops, e1, by omega, e3, e4⟩
  subst hol1
  clear hA0 hval0
  refine (walk a0 len0 cap0 z0 a1 ops1 cap1 W w0 w1 hsc1).mono fun e W' ⟨he, bel⟩ => ?_
  subst he
  exact ⟨_, rfl, _, _, _, [], _, [], hW', trodAll_mk1 (shut_bool Try.underlying4 _), (trodAll_cons_mk (Below.trod laidOut (by kernel_rfl) (of_decide_eq_true (by kernel_rfl)) k0 bel lt0) (trodAll_cons_mk (Below.trod laidOut (by kernel_rfl) (of_decide_eq_true (by kernel_rfl)) k1 bel lt1) trodAll_mk0)), rfl, bel.frame _, fun h => by cases h⟩

theorem over : Rows.wireStaysRow.holds Try.pinned (OpenSpec.ofChange Rows.wireStaysSpec) :=
  OpenClaim.holds_of_wide 5 Try.f5 rfl rfl rfl rfl rfl rfl rfl ⟨rfl, rfl, rfl, rfl, rfl⟩ rfl rfl rfl rfl rfl (by kernel_rfl) Try.func5 (by kernel_rfl)
    (of_decide_eq_true (by kernel_rfl)) (by unfold Func.isWrapper; first | (rw [if_pos (by decide +kernel)]; kernel_rfl) | (rw [if_neg (by decide +kernel)]; exact ⟨rfl, rfl⟩))
    (fun os started H enc _ => lifted os started H enc)

end Go.Proofs.Ytaiomhhndckccaa.wireStays
namespace Go.Proofs.Ytaiomhhndckccaa
theorem wireStays_holds : Rows.WireStaysSaid := wireStays.over
#print axioms wireStays_holds
end Go.Proofs.Ytaiomhhndckccaa
