/-
  OptsKeeps (P4.9): what is handed in stays; what is told is new memory.
-/
import Derived.Test.YtokhmlpajfhbpaaDoorSeven
namespace Go.Proofs.YtokhmlpajfhbpaaDoor
open Go.ChangeShapes Go.WideShapes Go.ChangeAt Go.RowKit Go.Deep
set_option linter.unusedVariables false
set_option maxRecDepth 100000
namespace optsKeeps
theorem build200 : buildP [(200, [9, 8, 7])] = ([200, 5, 9, 8, 7, 0, 0, 0], 0) := by decide
theorem data_lit : Bytes [9, 8, 7, 171, 172] := by unfold Bytes; decide
set_option maxHeartbeats 16000000 in
theorem walk (a : Option Addr) (l : List Int) (c : Nat) (a' : Option Addr) (m : List Int) (c' : Nat) (a2 : Option Addr) (ls : List V) (c2 : Nat) (w : World) (hg : Glob w)
    (hc : l.length ≤ c) (hr : Row w a l) (hn : a = none → c = 0) (hu : l.length ≤ 1048576)
    (hc' : m.length ≤ c') (hr' : Row w a' m) (hn' : a' = none → c' = 0) (hu' : m.length ≤ 1048576)
    (hc2 : ls.length ≤ c2) (ho2 : Opts w a2 ls) (hu2 : (ls.map (fun x => x.b.length + 1)).sum ≤ 1048576) :
    Calls Tryd.prog 8 #[.slice a l.length c, .slice a' m.length c', .slice a2 ls.length c2] w fun e w' => e = .returned (.bool true) ∧ Below w.heap.size w w' := by
  have HG : Hid (Glob w) := hg
  have HR : Hid (Row w a l) := hr
  have HS : Hid (Row w a' m) := hr'
  have HO : Hid (Opts w a2 ls) := ho2
  have hlb := hr.2.1
  have hmb := hr'.2.1
  clear hg hr hr' ho2 hu2
  go_enter Tryd.func8, Tryd.ntmps8
  go_wp2_with (at_builtin; refine wpList_appA rfl _ _ rfl (.slice none 0 0) [] l rfl (Owns.nil _) a _ _ rfl rfl hn (by exact HR.out) (by simp; omega) ?_)
  intro v1 w1 hown1 haw1 hmov1
  have hown1 : Owns w1 v1 l := by simpa using hown1
  have haw1 : Away [] w w1 := haw1
  have hnew1 : New w.heap.size v1 := fun j hj => by
    rcases hmov1 j hj with h | h
    · simp [Value.ownBlock] at h
    · exact h
  clear hmov1
  go_wp2_with (at_builtin; refine wpList_app rfl _ _ rfl v1 l [171, 172] rfl (by exact hown1.away ((Away.refl [] _).alloc _) (by simp)) ⟨_, 0, none⟩ 2 2 rfl rfl (by exact lit_cells _ [171, 172] _ rfl) (by omega) ?_)
  intro v2 w2 hown2 hgr2 hmov2
  have hs1 := haw1.size
  have haw2 : Away [] w w2 := (haw1.alloc _).grown hgr2 (fun k hk => .inr (hnew1 k hk))
  have hnew2 : New w.heap.size v2 := hnew1.moved hmov2 (by simp; omega)
  clear hgr2 hmov2 hown1 hnew1 haw1 hs1
  obtain ⟨ra, rc, hrv, hrc, hrcell⟩ := owns_slice hown2
  have hrl : (l ++ [171, 172]).length = l.length + 2 := by simp
  rw [hrl] at hrv hrc hrcell
  obtain ⟨rb, hrb, _⟩ := hrcell 0 (by omega)
  subst hrb; subst hrv
  have hrbn : w.heap.size ≤ rb := hnew2 rb rfl
  have hrblt : rb < w2.heap.size := hown2.lt rb rfl
  have HROOM : Hid (Owns w2 (.slice (some ⟨rb, 0, none⟩) (l.length + 2) rc) (l ++ [171, 172])) := hown2
  have hsl := slice_h (some ⟨rb, 0, none⟩) (l.length + 2) rc l.length l.length rfl (by omega)
  clear hrcell hown2 hnew2 hrl
  go_wp2_with fail
  refine (fitting_c a2 ls _ _ _ rfl (by exact HO.out.on haw2)).mono ?_
  rintro E w3 ⟨v3, xs, rfl, hm3, hright, htot, haw3⟩
  have hxl : xs.length ≤ 40 := by have := len_tot xs; omega
  obtain ⟨la, lc, rfl, hlc, hln, hlo, _⟩ := hm3.opts (by omega)
  have HM3 : Hid (Made w3 w2.heap.size (.slice la xs.length lc) xs) := hm3
  have haw4 := haw2.next haw3 (by simp)
  have HROOM3 : Hid (Owns w3 (.slice (some ⟨rb, 0, none⟩) (l.length + 2) rc) (l ++ [171, 172])) := HROOM.out.away haw3 (by simp)
  have hs3 := haw3.size
  clear hm3 hright htot hlo haw3 HROOM
  go_wp2_with (at_builtin; refine wpList_app2 rfl _ _ rfl _ xs.length (xs.flatMap V.cells) rfl (by exact (HM3.out.lst.away ((Away.refl [] _).alloc _) (by simp)).away ((Away.refl [] _).alloc _) (by simp)) ⟨_, 0, none⟩ 1 rfl (.int .i64 200) (.slice (some ⟨w3.heap.size, 0, none⟩) 3 5) (by rw [World.cell?_alloc_at (hn := by simp)]; rfl) (by rw [add_plain, World.cell?_alloc_at (hn := by simp)]; rfl) rfl rfl (by omega) ?_)
  intro v5 w5 hown5 hgr5 hmov5
  have hmov5' : New w2.heap.size v5 := HM3.out.new.moved hmov5 (by simp; omega)
  have hawL : Away (Value.slice la xs.length lc).ownBlock.toList w3 w5 := (((Away.refl _ w3).alloc _).alloc _).grown hgr5 (fun k hk => .inl (by simp [hk]))
  have hlaR : ∀ k, k ∈ (Value.slice la xs.length lc).ownBlock.toList → w2.heap.size ≤ k ∧ k < w3.heap.size := fun k hk => ⟨HM3.out.new k (by simpa using hk), HM3.out.lst.lt k (by simpa using hk)⟩
  have haw5 : Away [] w w5 := haw4.next hawL (fun k hk => .inr (by have := (hlaR k hk).1; have := haw2.size; omega))
  have HROOM5 : Hid (Owns w5 (.slice (some ⟨rb, 0, none⟩) (l.length + 2) rc) (l ++ [171, 172])) := HROOM3.out.away hawL (fun k hk hm => by
    have : k = rb := by simpa [Value.ownBlock] using hk.symm
    have := (hlaR k hm).1; omega)
  have hawD : Away (Value.slice la xs.length lc).ownBlock.toList (w3.alloc (.cells #[.int .u8 9, .int .u8 8, .int .u8 7, .int .u8 171, .int .u8 172] 5)) w5 := ((Away.refl _ _).alloc _).grown hgr5 (fun k hk => .inl (by simp [hk]))
  have hD5 : Row w5 (some ⟨w3.heap.size, 0, none⟩) [9, 8, 7, 171, 172] := (Row.lit w3 [9, 8, 7, 171, 172] data_lit (by decide)).away hawD (fun x hx hm => by
    have : x.block = w3.heap.size := by simp at hx; rw [← hx]
    have := (hlaR _ hm).2; omega)
  generalize hdb : w3.heap.size = db at *
  have HD5 : Hid (Row w5 (some ⟨db, 0, none⟩) [9, 8, 7, 171, 172]) := hD5
  have hl5 : Lst w5 v5 (xs ++ [⟨200, some ⟨db, 0, none⟩, 5, [9, 8, 7]⟩]) := Lst.snoc hown5
  obtain ⟨qa, qc, hqv, hqc, hqcell⟩ := lst_slice hl5
  obtain ⟨lb, hqb, q1, q2, _⟩ := hqcell xs.length ⟨200, some ⟨db, 0, none⟩, 5, [9, 8, 7]⟩ (by simp)
  have hql : (xs ++ [(⟨200, some ⟨db, 0, none⟩, 5, [9, 8, 7]⟩ : V)]).length = xs.length + 1 := by simp
  rw [hql] at hqv hqc
  subst hqb; subst hqv
  have HL5 : Hid (Opts w5 (some ⟨lb, xs.length * 2, none⟩) [⟨200, some ⟨db, 0, none⟩, 5, [9, 8, 7]⟩]) := by
    refine ⟨by simp, fun x hx => ?_, .inr ⟨lb, xs.length * 2, rfl, fun i x hx => ?_⟩⟩
    · simp only [List.mem_singleton] at hx
      subst hx
      exact ⟨by unfold I64; simp, HD5.out.head 3, by simp, by simp⟩
    · match i, hx with
      | 0, hx =>
        simp only [List.getElem?_cons_zero, Option.some.injEq] at hx
        subst hx
        exact ⟨by simpa using q1, by simpa using q2⟩
      | i + 1, hx => simp at hx
  have hslL := slice23_l lb (xs.length + 1) qc xs.length (xs.length : Int) rfl (by omega) (by omega)
  clear hown5 hgr5 hmov5 hawL hawD hlaR hD5 hl5 hqcell q1 q2 hql HROOM3 HM3 hdb haw4 haw2 hmov5' hs3 hln
  have HIN5 : Hid (Row w5 (some ⟨rb, 0, none⟩) l) := by
    have h1 := Owns.row' HROOM5.out (by simp; omega) (hlb.app (by intro z hz; simp at hz; omega))
    have h2 := h1.head l.length
    rwa [List.take_left] at h2
  have hpos := (HG.out.on haw5).pos
  go_wp2_with fail
  have hlot6 : Lot (w5.alloc (.cells #[.slice none 0 0] 43)) w5.heap.size w5.heap.size (.slice none 0 0) (.slice none 0 0) [] :=
    ⟨block_new _ _, OwnsG.nil _ _, OwnsG.nil _ _, by simp, fun k hk => by
      rcases hk with rfl | hk | hk | ⟨t, ht, _⟩
      · exact Nat.le_refl _
      · simp [Value.ownBlock] at hk
      · simp [Value.ownBlock] at hk
      · simp at ht, by simp, .nil, by simp [Value.ownBlock], by simp [Value.ownBlock], by simp⟩
  have hA56 : Away [] w5 (w5.alloc (.cells #[.slice none 0 0] 43)) := (Away.refl [] w5).alloc _
  have h6 : (w5.alloc (.cells #[.slice none 0 0] 43)).heap.size = w5.heap.size + 1 := by simp
  generalize w5.alloc (.cells #[.slice none 0 0] 43) = w6 at *
  generalize hgg : w5.heap.size = g at *
  have HA5 : Hid (∀ S ws, (∀ k ∈ S, g ≤ k) → Away S w6 ws → Away [] w5 ws) := fun S ws hS hw => hA56.next hw (fun k hk => .inr (by rw [hgg]; exact hS k hk))
  have HA0 : Hid (∀ ws, Away [] w5 ws → Away [] w ws) := fun ws hw => haw5.next hw (by simp)
  have HGG : Hid (w5.heap.size = g) := hgg
  have HLOT : Hid (Lot w6 g g (.slice none 0 0) (.slice none 0 0) []) := hlot6
  clear hgg hlot6 hA56
  go_loopw [12, 13] (fun wv tv ws => ∃ tn : Nat, tn ≤ 2 ∧ tv = .int .i64 tn ∧ TS w6 g (tn * 3000000) wv ws) (fun _ tv _ => 2 - (intOf tv).toNat)
  case atStart => exact ⟨0, by omega, rfl, _, [], HLOT.out, by simp, Away.refl _ _⟩
  case round =>
    obtain ⟨tn, htn, rfl, kv, T, hL, hT, haw⟩ := hrel
    have hA := HA5.out [g] wr (by simp) haw
    by_cases ht2 : tn < 2
    · have hsz := haw.size
      go_wp2_with fail
      refine (parse_m (some ⟨rb, 0, none⟩) l _ _ _ rfl (by omega) (by omega) (by exact HIN5.out.away hA (by simp)) (by exact HG.out.on (HA0.out _ hA))).mono ?_
      rintro E wp ⟨v, ys, e, rfl, hm, hyl, hys, hawp, _⟩
      have hPI := PI.start hL hT haw hm hawp
      obtain ⟨ya, yc, rfl, _⟩ := lst_slice hm.lst
      have HPI : Hid (PI w6 wr.heap.size wp.heap.size g (.slice ya ys.length yc) ys (tn * 3000000) 0 u12 wp) := hPI
      have hS1 : g < wr.heap.size := by omega
      generalize wr.heap.size = S1 at *
      generalize wp.heap.size = S2 at *
      clear hPI hL hT haw hm hawp hA hsz
      go_wp2_with fail
      go_loopw [12, 16] (fun wv iv ws => ∃ i : Nat, i ≤ ys.length ∧ iv = .int .i64 i ∧ PI w6 S1 S2 g (.slice ya ys.length yc) ys (tn * 3000000) i wv ws) (fun _ iv _ => ys.length - (intOf iv).toNat)
      case atStart => exact ⟨0, by omega, rfl, HPI.out⟩
      case round =>
        obtain ⟨i, hi, rfl, kv, T, hl, hT, hm, hS, haw, hv, hd, hf, hin⟩ := hrel
        have hsz := haw.size
        by_cases hlt : i < ys.length
        · obtain ⟨x, hx, hmem⟩ := get_of_lt hlt
          obtain ⟨oa, oc, eo, _, _, hop, _⟩ := hm.opts (by omega)
          simp only [Value.slice.injEq, true_and] at eo
          obtain ⟨rfl, rfl⟩ := eo
          obtain ⟨b', off', rfl, c1, c2', _⟩ := cells_opts hop hx
          have hok := hm.ok x hmem
          have hea := hm.each x hmem
          have hfar := PI.far hm hd hf hx
          have hbl := hys x hmem
          have HX : Hid (ys[i]? = some x) := hx
          have HSTP : Hid (∀ E ws', PutOut wr g g kv u12 T x.sl x.b E ws' → ∃ wv', E = .returned wv' ∧ PI w6 S1 S2 g (.slice (some ⟨b', off', none⟩) ys.length yc) ys (tn * 3000000) (i + 1) wv' ws') := fun E ws' hp => PI.step h6 hl hT hm hS haw hv hd hf hin hx hp
          have HPUT : Hid (Calls Tryd.prog 19 #[.pointer (some ⟨g, 0, none⟩), .slice x.ba x.b.length x.bc, u12] wr fun E w' => PutOut wr g g kv u12 T x.sl x.b E w') := put_c wr g g kv u12 T x.ba x.b _ x.bc rfl hl (by omega) (by omega) hea.2.1 hok.2.2.1 hea.2.2.1 hbl (hea.2.2.2.2.mono (by omega)) hfar
          obtain ⟨kd, xa, xc, xb⟩ := x
          simp only at c1 c2' HPUT
          clear hl hT hm hS haw hv hd hf hin hop hok hea hfar hx hmem hsz c1
          go_wp2_with fail
          refine HPUT.out.mono ?_
          intro E ws' hp
          obtain ⟨wv', rfl, hPI'⟩ := HSTP.out E ws' hp
          have HPI' := hPI'
          clear hp
          have HPI2 : Hid (PI w6 S1 S2 g (.slice (some ⟨b', off', none⟩) ys.length yc) ys (tn * 3000000) (i + 1) wv' ws') := hPI'
          clear hPI' HPI'
          go_wp2_with fail
          go_roundw
          case rel => exact ⟨i + 1, by omega, by go_num, HPI2.out⟩
          case measure => simp [intOf]; omega
        · obtain rfl : i = ys.length := by omega
          have hpi : PI w6 S1 S2 g (.slice ya ys.length yc) ys (tn * 3000000) ys.length u12 wr := ⟨kv, T, hl, hT, hm, hS, haw, hv, hd, hf, hin⟩
          obtain ⟨kv3, T3, hL3, hT3, haw3⟩ := hpi.done
          have hA := HA5.out [g] wr (by simp) haw3
          clear hl hT hm hS haw hv hd hf hin hpi HPI
          go_wp2_with fail
          refine (parse_m a' m _ _ _ rfl hc' (by omega) (by exact HS.out.away (HA0.out _ hA) (by simp)) (by exact HG.out.on (HA0.out _ hA))).mono ?_
          rintro E wp2 ⟨v, zs, e2, rfl, hm, hzl, hzs, hawp, _⟩
          have hPI := PI.start hL3 hT3 haw3 hm hawp
          obtain ⟨za, zc, rfl, _⟩ := lst_slice hm.lst
          have HPI : Hid (PI w6 wr.heap.size wp2.heap.size g (.slice za zs.length zc) zs (tn * 3000000 + ys.length) 0 u12 wp2) := hPI
          have hS3 : g < wr.heap.size := by omega
          generalize wr.heap.size = S3 at *
          generalize wp2.heap.size = S4 at *
          clear hPI hL3 hT3 haw3 hm hawp hA hsz
          go_wp2_with fail
          go_loopw [12, 19] (fun wv iv ws => ∃ i : Nat, i ≤ zs.length ∧ iv = .int .i64 i ∧ PI w6 S3 S4 g (.slice za zs.length zc) zs (tn * 3000000 + ys.length) i wv ws) (fun _ iv _ => zs.length - (intOf iv).toNat)
          case atStart => exact ⟨0, by omega, rfl, HPI.out⟩
          case round =>
            obtain ⟨i, hi, rfl, kv, T, hl, hT, hm, hS, haw, hv, hd, hf, hin⟩ := hrel
            have hsz := haw.size
            by_cases hlt : i < zs.length
            · obtain ⟨x, hx, hmem⟩ := get_of_lt hlt
              obtain ⟨oa, oc, eo, _, _, hop, _⟩ := hm.opts (by omega)
              simp only [Value.slice.injEq, true_and] at eo
              obtain ⟨rfl, rfl⟩ := eo
              obtain ⟨b', off', rfl, c1, c2', _⟩ := cells_opts hop hx
              have hok := hm.ok x hmem
              have hea := hm.each x hmem
              have hfar := PI.far hm hd hf hx
              have hbl := hzs x hmem
              have HX : Hid (zs[i]? = some x) := hx
              have HSTP : Hid (∀ E ws', PutOut wr g g kv u12 T x.sl x.b E ws' → ∃ wv', E = .returned wv' ∧ PI w6 S3 S4 g (.slice (some ⟨b', off', none⟩) zs.length zc) zs (tn * 3000000 + ys.length) (i + 1) wv' ws') := fun E ws' hp => PI.step h6 hl hT hm hS haw hv hd hf hin hx hp
              have HPUT : Hid (Calls Tryd.prog 19 #[.pointer (some ⟨g, 0, none⟩), .slice x.ba x.b.length x.bc, u12] wr fun E w' => PutOut wr g g kv u12 T x.sl x.b E w') := put_c wr g g kv u12 T x.ba x.b _ x.bc rfl hl (by omega) (by omega) hea.2.1 hok.2.2.1 hea.2.2.1 hbl (hea.2.2.2.2.mono (by omega)) hfar
              obtain ⟨kd, xa, xc, xb⟩ := x
              simp only at c1 c2' HPUT
              clear hl hT hm hS haw hv hd hf hin hop hok hea hfar hx hmem hsz c1
              go_wp2_with fail
              refine HPUT.out.mono ?_
              intro E ws' hp
              obtain ⟨wv', rfl, hPI'⟩ := HSTP.out E ws' hp
              have HPI' := hPI'
              clear hp
              have HPI2 : Hid (PI w6 S3 S4 g (.slice (some ⟨b', off', none⟩) zs.length zc) zs (tn * 3000000 + ys.length) (i + 1) wv' ws') := hPI'
              clear hPI' HPI'
              go_wp2_with fail
              go_roundw
              case rel => exact ⟨i + 1, by omega, by go_num, HPI2.out⟩
              case measure => simp [intOf]; omega
            · obtain rfl : i = zs.length := by omega
              have hpi : PI w6 S3 S4 g (.slice za zs.length zc) zs (tn * 3000000 + ys.length) zs.length u12 wr := ⟨kv, T, hl, hT, hm, hS, haw, hv, hd, hf, hin⟩
              obtain ⟨kv5, T5, hL5, hT5, haw5'⟩ := hpi.done
              have hA := HA5.out [g] wr (by simp) haw5'
              clear hl hT hm hS haw hv hd hf hin hpi HPI
              go_wp2_with fail
              refine (build_c (some ⟨lb, xs.length * 2, none⟩) [⟨200, some ⟨db, 0, none⟩, 5, [9, 8, 7]⟩] _ _ _ (by simp) (by exact HL5.out.on hA) (by exact HG.out.on (HA0.out _ hA))).mono ?_
              rintro E wb ⟨hawb, vb, rfl, hownb, hnewb⟩
              have e200 : buildP [(200, [9, 8, 7])] = ([200, 5, 9, 8, 7, 0, 0, 0], 0) := build200
              simp only [List.map_cons, List.map_nil, V.o] at hownb ⊢
              rw [e200] at hownb ⊢
              simp only at hownb ⊢
              obtain ⟨P8, hP8⟩ : ∃ P8 : List Int, P8 = [200, 5, 9, 8, 7, 0, 0, 0] := ⟨_, rfl⟩
              have hP8b : Bytes P8 := by rw [hP8]; unfold Bytes; decide
              have hP8l : P8.length ≤ 40 := by rw [hP8]; decide
              rw [← hP8] at hownb
              have hB5 := haw5'
              have hszr := hB5.size
              clear e200 hP8 haw5'
              obtain ⟨pba, pbc, pbe, _, pbn, _⟩ := hownb.row (by omega) hP8b
              subst pbe
              have hlotb := hL5.on hawb
              have hTSb : ∀ E ws', PutOut wb g g kv5 u12 T5 (.slice pba P8.length pbc) P8 E ws' → ∃ wv', E = .returned wv' ∧ TS w6 g (tn * 3000000 + ys.length + zs.length + 1) wv' ws' := fun E ws' hp => TS.step h6 hlotb hT5 (hB5.next hawb (by simp)) hp
              have HTSb : Hid (∀ E ws', PutOut wb g g kv5 u12 T5 (.slice pba P8.length pbc) P8 E ws' → ∃ wv', E = .returned wv' ∧ TS w6 g (tn * 3000000 + ys.length + zs.length + 1) wv' ws') := hTSb
              have HPUTb : Hid (Calls Tryd.prog 19 #[.pointer (some ⟨g, 0, none⟩), .slice pba P8.length pbc, u12] wb fun E w' => PutOut wb g g kv5 u12 T5 (.slice pba P8.length pbc) P8 E w') := put_c wb g g kv5 u12 T5 pba P8 _ pbc rfl hlotb (by have := hawb.size; omega) (by omega) hownb pbn hP8b (by omega) (hnewb.mono (by omega)) (fun k hk hin => by
                have h1 := hnewb k hk
                have h2 := hL5.lt hin
                omega)
              clear hownb hnewb hawb hlotb hTSb hL5 hB5 hA
              go_wp2_with fail
              refine HPUTb.out.mono ?_
              intro E wq hp
              obtain ⟨wv7, rfl, kv7, T7, hL7, hT7, hB7⟩ := HTSb.out E wq hp
              have hA := HA5.out [g] wq (by simp) hB7
              have hszq := hB7.size
              clear hp HTSb HPUTb
              obtain ⟨ci1, ci2, ci3, ci4⟩ := carry_valid hlb
              obtain ⟨cm1, cm2, cm3, cm4⟩ := carry_valid hmb
              go_wp2_with fail
              refine (carry_c (some ⟨rb, 0, none⟩) l _ _ _ rfl (by omega) (by exact HIN5.out.away hA (by simp)) (by exact HG.out.on (HA0.out _ hA))).mono ?_
              rintro E wd ⟨vd, rfl, hownd, hnewd, hawd⟩
              generalize carryP l = CL at *
              obtain ⟨CM, hCM⟩ : ∃ CM, carryP m = CM := ⟨_, rfl⟩
              rw [hCM] at cm1 cm2 cm3 cm4
              have HCM : Hid (carryP m = CM) := hCM
              clear hCM
              obtain ⟨pda, pdc, pde, _, pdn, _⟩ := hownd.row (by omega) ci3
              subst pde
              have hlotd := hL7.on hawd
              have hTSd : ∀ E ws', PutOut wd g g kv7 wv7 T7 (.slice pda CL.length pdc) CL E ws' → ∃ wv', E = .returned wv' ∧ TS w6 g (tn * 3000000 + ys.length + zs.length + 1 + 1) wv' ws' := fun E ws' hp => TS.step h6 hlotd hT7 (hB7.next hawd (by simp)) hp
              have HTSd : Hid (∀ E ws', PutOut wd g g kv7 wv7 T7 (.slice pda CL.length pdc) CL E ws' → ∃ wv', E = .returned wv' ∧ TS w6 g (tn * 3000000 + ys.length + zs.length + 1 + 1) wv' ws') := hTSd
              have HPUTd : Hid (Calls Tryd.prog 19 #[.pointer (some ⟨g, 0, none⟩), .slice pda CL.length pdc, wv7] wd fun E w' => PutOut wd g g kv7 wv7 T7 (.slice pda CL.length pdc) CL E w') := put_c wd g g kv7 wv7 T7 pda CL _ pdc rfl hlotd (by have := hawd.size; omega) (by omega) hownd pdn ci3 (by omega) (hnewd.mono (by omega)) (fun k hk hin => by
                have h1 := hnewd k hk
                have h2 := hL7.lt hin
                omega)
              clear hownd hnewd hawd hlotd hTSd hL7 hB7 hA
              go_wp2_with fail
              refine HPUTd.out.mono ?_
              intro E ws2 hp
              obtain ⟨wv8, rfl, kv8, T8, hL8, hT8, hB8⟩ := HTSd.out E ws2 hp
              have hA := HA5.out [g] ws2 (by simp) hB8
              have hszs := hB8.size
              clear hp HTSd HPUTd
              go_wp2_with fail
              refine (carry_c a' m _ _ _ rfl hc' (by exact HS.out.away (HA0.out _ hA) (by simp)) (by exact HG.out.on (HA0.out _ hA))).mono ?_
              rintro E wf ⟨vf, rfl, hownf, hnewf, hawf⟩
              rw [HCM.out] at hownf
              obtain ⟨pfa, pfc, pfe, _, pfn, _⟩ := hownf.row (by omega) cm3
              subst pfe
              have hlotf := hL8.on hawf
              have hTSf : ∀ E ws', PutOut wf g g kv8 wv8 T8 (.slice pfa CM.length pfc) CM E ws' → ∃ wv', E = .returned wv' ∧ TS w6 g (tn * 3000000 + ys.length + zs.length + 1 + 1 + 1) wv' ws' := fun E ws' hp => TS.step h6 hlotf hT8 (hB8.next hawf (by simp)) hp
              have HTSf : Hid (∀ E ws', PutOut wf g g kv8 wv8 T8 (.slice pfa CM.length pfc) CM E ws' → ∃ wv', E = .returned wv' ∧ TS w6 g (tn * 3000000 + ys.length + zs.length + 1 + 1 + 1) wv' ws') := hTSf
              have HPUTf : Hid (Calls Tryd.prog 19 #[.pointer (some ⟨g, 0, none⟩), .slice pfa CM.length pfc, wv8] wf fun E w' => PutOut wf g g kv8 wv8 T8 (.slice pfa CM.length pfc) CM E w') := put_c wf g g kv8 wv8 T8 pfa CM _ pfc rfl hlotf (by have := hawf.size; omega) (by omega) hownf pfn cm3 (by omega) (hnewf.mono (by omega)) (fun k hk hin => by
                have h1 := hnewf k hk
                have h2 := hL8.lt hin
                omega)
              clear hownf hnewf hawf hlotf hTSf hL8 hB8 hA
              go_wp2_with fail
              refine HPUTf.out.mono ?_
              intro E ws3 hp
              obtain ⟨wv9, rfl, kv9, T9, hL9, hT9, hB9⟩ := HTSf.out E ws3 hp
              have HTS9 : Hid (TS w6 g ((tn + 1) * 3000000) wv9 ws3) := ⟨kv9, T9, hL9, by omega, hB9⟩
              clear hp HTSf HPUTf hL9 hT9 hB9
              go_wp2_with fail
              go_roundw
              case rel => exact ⟨tn + 1, by omega, by go_num, HTS9.out⟩
              case measure => simp [intOf]; omega
    · go_wp2_with fail
      refine (known_c _ (by exact HG.out.on (HA0.out _ hA))).mono ?_
      rintro E w10 ⟨rfl, haw10⟩
      have hL10 := hL.on haw10
      have hA10 := hA.next haw10 (by simp)
      have hVS : ∀ k ∈ VS T, g ≤ k := fun k hk => by
        obtain ⟨t, ht, hk2⟩ := mem_VS.1 hk
        exact hL.new k (.inr (.inr (.inr ⟨t, ht, .inl hk2⟩)))
      have HST : Hid (Calls Tryd.prog 20 #[.pointer (some ⟨g, 0, none⟩), u12] w10 fun E w' => E = .returned (.bool true) ∧ Away (VS T) w10 w') := stands_c w10 g g kv u12 T hL10 (by omega)
      have HNX : Hid (∀ wx, Away (VS T) w10 wx → Away [] w5 wx) := fun wx hx => hA10.next hx (fun k hk => .inr (by rw [HGG.out]; exact hVS k hk))
      clear hL hL10 hVS haw hA haw10 hA10
      go_wp2_with fail
      refine HST.out.mono ?_
      rintro E w11 ⟨rfl, haw11⟩
      have hA11 := HNX.out w11 haw11
      clear HST HNX haw11 hT
      go_wp2_with fail
      refine (same_b (z := true) (some ⟨rb, 0, none⟩) a l l _ _ _ _ _ rfl rfl (by exact HIN5.out.away hA11 (by simp)) (by exact HR.out.away (HA0.out _ hA11) (by simp)) (by simp)).mono ?_
      rintro E w12 ⟨rfl, n12, hw12⟩
      have hA12 : Away [] w5 w12 := by rw [hw12]; exact hA11.drewN _
      have hrm := HROOM5.out.away hA12 (by simp)
      have d0 : w12.cell? ⟨rb, l.length, none⟩ = some (.int .u8 171) := by
        have := (hrm.cells l.length (by simp)).1
        simpa using this
      have d1 : w12.cell? ⟨rb, l.length + 1, none⟩ = some (.int .u8 172) := by
        have := (hrm.cells (l.length + 1) (by simp)).1
        rw [List.getElem?_append_right (by omega), show l.length + 1 - l.length = 1 from by omega] at this
        simpa using this
      clear hw12 hA11 hrm
      go_wp2_with fail
      refine (same_b (z := true) (some ⟨db, 0, none⟩) _ [9, 8, 7, 171, 172] [9, 8, 7, 171, 172] _ _ _ _ _ rfl rfl (by exact (HD5.out.away hA12 (by simp)).away ((Away.refl [] _).alloc _) (by simp)) (by exact Row.lit w12 [9, 8, 7, 171, 172] data_lit (by decide)) (by simp)).mono ?_
      rintro E w13 ⟨rfl, n13, hw13⟩
      have hA13 : Away [] w5 w13 := by rw [hw13]; exact (hA12.alloc _).drewN _
      clear hw13 hA12 d0 d1
      go_wp2_with fail
      refine (parse_m (some ⟨rb, 0, none⟩) l _ _ _ rfl (by omega) (by omega) (by exact HIN5.out.away hA13 (by simp)) (by exact HG.out.on (HA0.out _ hA13))).mono ?_
      rintro E w14 ⟨v14, ms, e14, rfl, hm14, hml, _, haw14, _⟩
      have hA14 := hA13.next haw14 (by simp)
      have hs13 := hA13.size
      rw [HGG.out] at hs13
      obtain ⟨ma, mc, rfl, hmc, _⟩ := lst_slice hm14.lst
      have HL14 : Hid (Lst w14 (.slice ma ms.length mc) ms) := hm14.lst
      have HN14 : Hid (New w13.heap.size (.slice ma ms.length mc)) := hm14.new
      have HA14 : Hid (Away [] w5 w14) := hA14
      clear hm14 haw14 hA14 hA13
      go_wp2_with fail
      go_loopw [24] (fun iv ws => ∃ i : Nat, i ≤ ms.length ∧ iv = .int .i64 i ∧ Lst ws (.slice ma ms.length mc) (List.replicate i Z7 ++ ms.drop i) ∧ Away [] w5 ws) (fun iv _ => ms.length - (intOf iv).toNat)
      case atStart => exact ⟨0, by omega, rfl, by simpa using HL14.out, HA14.out⟩
      case round =>
        obtain ⟨i, hi, rfl, hl, hA⟩ := hrel
        by_cases hlt : i < ms.length
        · have hll : (List.replicate i Z7 ++ ms.drop i).length = ms.length := by simp; omega
          obtain ⟨x, hx, _⟩ := get_of_lt (xs := List.replicate i Z7 ++ ms.drop i) (k := i) (by omega)
          obtain ⟨a9, c9, e9, _, hcell⟩ := lst_slice hl
          obtain ⟨b9, hb9, k0, k1, f0, f1⟩ := hcell i x hx
          rw [hll] at e9
          simp only [Value.slice.injEq, true_and] at e9
          obtain ⟨rfl, rfl⟩ := e9
          subst hb9
          have hset := hl.set hll i hlt
          rw [seven_set ms i hlt] at hset
          have HSET : Hid (Lst ((wr.setCell ⟨b9, i * 2, none⟩ (.int .i64 (-7))).setCell ⟨b9, i * 2 + 1, none⟩ (.slice none 0 0)) (.slice (some ⟨b9, 0, none⟩) ms.length mc) (List.replicate (i + 1) Z7 ++ ms.drop (i + 1))) := hset
          have hb9n : w13.heap.size ≤ b9 := HN14.out b9 rfl
          have HAX : Hid (Away [] w5 ((wr.setCell ⟨b9, i * 2, none⟩ (.int .i64 (-7))).setCell ⟨b9, i * 2 + 1, none⟩ (.slice none 0 0))) := (hA.setCell (.inr (by rw [HGG.out]; simp only; omega)) _).setCell (.inr (by rw [HGG.out]; simp only; omega)) _
          have t5 : 0 ≤ (i : Int) := by omega
          have t6 : (i : Int) < (ms.length : Int) := by omega
          clear hset hcell hl hll hx
          go_wp2_with fail
          go_roundw
          case rel => exact ⟨i + 1, by omega, by go_num, HSET.out, HAX.out⟩
          case measure => simp [intOf]; omega
        · obtain rfl : i = ms.length := by omega
          have hl' : Lst wr (.slice ma ms.length mc) (List.replicate ms.length Z7) := by simpa using hl
          have HSV : Hid (SvI (.slice ma ms.length mc) ms.length 0 wr (.slice ma ms.length mc) wr) := SvI.start hl'
          have hsz := hA.size
          rw [HGG.out] at hsz
          have HAW : Hid (Away [] w5 wr) := hA
          generalize hwz : wr = w15 at *
          clear hwz hl hl' hA
          go_wp2_with fail
          go_loopw [25, 26] (fun xv jv ws => ∃ j : Nat, j ≤ 80 ∧ jv = .int .i64 j ∧ SvI (.slice ma ms.length mc) ms.length j w15 xv ws) (fun _ jv _ => 80 - (intOf jv).toNat)
          case atStart => exact ⟨0, by omega, rfl, HSV.out⟩
          case round =>
            obtain ⟨j, hj, rfl, hI⟩ := hrel
            have HI : Hid (SvI (.slice ma ms.length mc) ms.length j w15 u25 wr) := hI
            clear hI
            by_cases hjl : j < 80
            · go_wp2_with (at_builtin; refine wpList_app2X rfl _ _ rfl u25 (List.replicate (ms.length + j) Z7) rfl (by exact (HI.out.alloc _).own) ⟨_, 0, none⟩ 1 rfl Z7 (by rw [World.cell?_alloc_at (hn := rfl)]; rfl) (by rw [add_plain, World.cell?_alloc_at (hn := rfl)]; rfl) (by simp; omega) ?_)
              intro xv ws' ho hd
              have HI2 : Hid (SvI (.slice ma ms.length mc) ms.length (j + 1) w15 xv ws') := (HI.out.alloc (.cells #[.int .i64 (-7), .slice none 0 0] 38)).step ho (hd.imp id (fun h => ⟨by simpa using h.1, h.2⟩))
              clear ho hd
              go_wp2_with fail
              go_roundw
              case rel => exact ⟨j + 1, by omega, by go_num, HI2.out⟩
              case measure => simp [intOf]; omega
            · obtain rfl : j = 80 := by omega
              have hA : Away [] w5 wr := HAW.out.next HI.out.away (fun k hk => .inr (by
                have := HN14.out k (by simpa using hk)
                rw [HGG.out]; omega))
              obtain ⟨la9, lc9, e9, _⟩ := lst_slice HI.out.own
              rw [List.length_replicate] at e9
              subst e9
              go_wp2_with fail
              refine (parse_m (some ⟨rb, 0, none⟩) l _ _ _ rfl (by omega) (by omega) (by exact HIN5.out.away hA (by simp)) (by exact HG.out.on (HA0.out _ hA))).mono ?_
              rintro E w16 ⟨v16, ns, e16, rfl, hm16, hnl, _, haw16, hp16⟩
              have hA16 := hA.next haw16 (by simp)
              have HI16 : Hid (SvI (.slice ma ms.length mc) ms.length 80 w15 (.slice la9 (ms.length + 80) lc9) w16) := HI.out.on haw16
              obtain ⟨na, nc, rfl, _, _, hno, _⟩ := hm16.opts (by omega)
              have HNO : Hid (Opts w16 na ns) := hno
              have HP16 : Hid ((parseP l = none ∧ ns = [] ∧ e16 = 40) ∨ (parseP l = some (ns.map V.o) ∧ e16 = 0)) := hp16
              have HA16 : Hid (Away [] w5 w16) := hA16
              have HSC : Hid (∀ i, i < ms.length → ∃ b b2, ma = some ⟨b, 0, none⟩ ∧ la9 = some ⟨b2, 0, none⟩ ∧ w16.cell? ⟨b, i * 2, none⟩ = some (.int .i64 (-7)) ∧ w16.cell? ⟨b2, i * 2, none⟩ = some (.int .i64 (-7))) := fun i hi => by
                obtain ⟨am, cm, em, _, hcm⟩ := lst_slice HL14.out
                obtain ⟨x, hx, _⟩ := get_of_lt hi
                obtain ⟨b, hb, _⟩ := hcm i x hx
                simp only [Value.slice.injEq, true_and] at em
                obtain ⟨rfl, rfl⟩ := em
                obtain ⟨al, cl, el, _, hcl⟩ := lst_slice HI16.out.own
                obtain ⟨b2, hb2, h2, _⟩ := hcl i Z7 (by rw [List.getElem?_replicate, if_pos (by omega)])
                simp only [Value.slice.injEq] at el
                exact ⟨b, b2, hb, by rw [el.1, hb2], HI16.out.row i b mc hi (by rw [hb]), h2⟩
              clear hm16 haw16 hno hp16 hA hA16 HI
              go_wp2_with fail
              go_loopw [29] (fun iv ws => ∃ i : Nat, i ≤ ms.length ∧ iv = .int .i64 i ∧ ws = w16) (fun iv _ => ms.length - (intOf iv).toNat)
              case atStart => exact ⟨0, by omega, rfl, rfl⟩
              case round =>
                obtain ⟨i, hi, rfl, hW⟩ := hrel
                subst hW
                by_cases hlt2 : i < ms.length
                · obtain ⟨b, b2, rfl, rfl, s1, s2⟩ := HSC.out i hlt2
                  have t5 : 0 ≤ (i : Int) := by omega
                  have t6 : (i : Int) < (ms.length : Int) := by omega
                  have t7 : (i : Int) < (ms.length : Int) + 80 := by omega
                  go_wp2_with fail
                  go_roundw
                  case rel => exact ⟨i + 1, by omega, by go_num, by trivial⟩
                  case measure => simp [intOf]; omega
                · go_wp2_with fail
                  refine (parse_m a l _ _ _ rfl hc (by omega) (by exact HR.out.away (HA0.out _ HA16.out) (by simp)) (by exact HG.out.on (HA0.out _ HA16.out))).mono ?_
                  rintro E w17 ⟨v17, fs, e17, rfl, hm17, hfl, _, haw17, hp17⟩
                  have heq : e16 = e17 ∧ ns.map V.o = fs.map V.o := by
                    rcases HP16.out with ⟨p1, rfl, rfl⟩ | ⟨p1, rfl⟩
                    · rcases hp17 with ⟨_, rfl, rfl⟩ | ⟨p2, _⟩
                      · exact ⟨rfl, rfl⟩
                      · rw [p1] at p2; simp at p2
                    · rcases hp17 with ⟨p2, _⟩ | ⟨p2, rfl⟩
                      · rw [p1] at p2; simp at p2
                      · rw [p1] at p2; exact ⟨rfl, Option.some.inj p2⟩
                  obtain ⟨rfl, hnf⟩ := heq
                  have HNF : Hid (ns.map V.o = fs.map V.o) := hnf
                  obtain ⟨fa, fc, rfl, _, _, hfo, _⟩ := hm17.opts (by omega)
                  have HFO : Hid (Opts w17 fa fs) := hfo
                  have HNO17 : Hid (Opts w17 na ns) := HNO.out.on haw17
                  have hA17 := HA16.out.next haw17 (by simp)
                  clear hm17 hfo hp17 hnf haw17 HSC HI16
                  go_wp2_with fail
                  refine (sameOpts_c na fa ns fs _ _ _ _ _ rfl rfl (by exact HNO17.out) (by exact HFO.out)).mono ?_
                  rintro E w18 ⟨rfl, n18, hw18⟩
                  rw [decide_eq_true HNF.out]
                  have hA18 : Away [] w5 w18 := by rw [hw18]; exact hA17.drewN _
                  have HRM : Hid (Owns w18 (.slice (some ⟨rb, 0, none⟩) (l.length + 2) rc) (List.replicate 0 1 ++ (l ++ [171, 172]).drop 0)) := by
                    show Owns _ _ _
                    simpa using HROOM5.out.away hA18 (by simp)
                  have HAW18 : Hid (Away [] w w18) := HA0.out _ hA18
                  clear hw18 hA17 hA18
                  go_wp2_with fail
                  go_loopw [32] (fun iv ws => ∃ i : Nat, i ≤ l.length ∧ iv = .int .i64 i ∧ Owns ws (.slice (some ⟨rb, 0, none⟩) (l.length + 2) rc) (List.replicate i 1 ++ (l ++ [171, 172]).drop i) ∧ Away [] w ws) (fun iv _ => l.length - (intOf iv).toNat)
                  case atStart => exact ⟨0, by omega, rfl, HRM.out, HAW18.out⟩
                  case round =>
                    obtain ⟨i, hi, rfl, hown, hawx⟩ := hrel
                    have hpl : (List.replicate i 1 ++ (l ++ [171, 172]).drop i).length = l.length + 2 := by simp; omega
                    by_cases hlt3 : i < l.length
                    · obtain ⟨cx, fx⟩ := hown.cells i (by omega)
                      have hset := hown.set hpl i 1
                      rw [set_mark (l ++ [171, 172]) i 1 (by simp; omega)] at hset
                      have HSET : Hid (Owns (wr.setCell ⟨rb, i, none⟩ (.int .u8 1)) (.slice (some ⟨rb, 0, none⟩) (l.length + 2) rc) (List.replicate (i + 1) 1 ++ (l ++ [171, 172]).drop (i + 1))) := hset
                      have HAX : Hid (Away [] w (wr.setCell ⟨rb, i, none⟩ (.int .u8 1))) := hawx.setCell (.inr hrbn) _
                      have t5 : 0 ≤ (i : Int) := by omega
                      have t6 : (i : Int) < (l.length : Int) := by omega
                      clear hset hown hpl
                      go_wp2_with fail
                      go_roundw
                      case rel => exact ⟨i + 1, by omega, by go_num, HSET.out, HAX.out⟩
                      case measure => simp [intOf]; omega
                    · obtain rfl : i = l.length := by omega
                      have hob : Bytes (List.replicate l.length 1) := fun z hz => by rw [List.eq_of_mem_replicate hz]; omega
                      have hrow : Row wr (some ⟨rb, 0, none⟩) (List.replicate l.length 1) := by
                        have h1 := Owns.row' hown (by omega) (hob.app (by
                          rw [List.drop_left]
                          intro z hz; simp at hz; omega))
                        have h2 := h1.head l.length
                        have h3 : (List.replicate l.length (1 : Int) ++ (l ++ [171, 172]).drop l.length).take l.length = List.replicate l.length 1 := by
                          have := List.take_left (l₁ := List.replicate l.length (1 : Int)) (l₂ := (l ++ [171, 172]).drop l.length)
                          rwa [List.length_replicate] at this
                        rwa [h3] at h2
                      have HRW : Hid (Row wr (some ⟨rb, 0, none⟩) (List.replicate l.length 1)) := hrow
                      clear hrow hown hpl hob
                      go_wp2_with fail
                      refine (parse_m (some ⟨rb, 0, none⟩) (List.replicate l.length 1) _ _ _ (by simp) (by omega) (by omega) (by exact HRW.out) (by exact HG.out.on hawx)).mono ?_
                      rintro E w19 ⟨v19, os, e19, rfl, hm19, hol, _, haw19, hp19⟩
                      have heq : e19 = 0 ∧ os.length = l.length := by
                        rw [parse_ones] at hp19
                        rcases hp19 with ⟨p1, _⟩ | ⟨p1, rfl⟩
                        · simp at p1
                        · refine ⟨rfl, ?_⟩
                          have := congrArg List.length (Option.some.inj p1)
                          simpa using this.symm
                      obtain ⟨rfl, hol2⟩ := heq
                      obtain ⟨oa, oc, hov, _⟩ := lst_slice hm19.lst
                      rw [hol2] at hov
                      subst hov
                      have haw20 := hawx.next haw19 (by simp)
                      have HRW20 : Hid (Row w19 (some ⟨rb, 0, none⟩) (List.replicate l.length 1)) := HRW.out.away haw19 (by simp)
                      have HVV : Hid (validP (List.replicate l.length 1) = (decide (l.length ≤ 40) && decide (l.length % 4 = 0))) := by
                        show _ = _
                        unfold validP
                        rw [parse_ones]; simp
                      clear hm19 hp19 hol haw19 hol2
                      by_cases q1 : l.length % 4 = 0
                      · have b3 : ((l.length : Int) % 4 == 0) = true := by simp; omega
                        by_cases q2 : l.length ≤ 40
                        · have b4 : decide ((l.length : Int) ≤ 40) = true := by simp; omega
                          go_wp2_with fail
                          refine (valid_c (some ⟨rb, 0, none⟩) (List.replicate l.length 1) _ _ _ (by simp) (by omega) (by exact HRW20.out) (by exact HG.out.on haw20)).mono ?_
                          rintro E w21 ⟨rfl, haw21⟩
                          rw [HVV.out, decide_eq_true q2, decide_eq_true q1]
                          go_wp2_with fail
                          go_ret
                          exact ⟨rfl, (haw20.next haw21 (by simp)).to_below⟩
                        · have b4 : decide ((l.length : Int) ≤ 40) = false := by simp; omega
                          go_wp2_with fail
                          refine (valid_c (some ⟨rb, 0, none⟩) (List.replicate l.length 1) _ _ _ (by simp) (by omega) (by exact HRW20.out) (by exact HG.out.on haw20)).mono ?_
                          rintro E w21 ⟨rfl, haw21⟩
                          rw [HVV.out, decide_eq_false q2]
                          go_wp2_with fail
                          go_ret
                          exact ⟨rfl, (haw20.next haw21 (by simp)).to_below⟩
                      · have b3 : ((l.length : Int) % 4 == 0) = false := by simp; omega
                        go_wp2_with fail
                        refine (valid_c (some ⟨rb, 0, none⟩) (List.replicate l.length 1) _ _ _ (by simp) (by omega) (by exact HRW20.out) (by exact HG.out.on haw20)).mono ?_
                        rintro E w21 ⟨rfl, haw21⟩
                        rw [HVV.out, decide_eq_false q1]
                        go_wp2_with fail
                        go_ret
                        exact ⟨by simp, (haw20.next haw21 (by simp)).to_below⟩
end optsKeeps
namespace optsKeeps
theorem contract (H : Type) (enc : TypeId × Value → H) (W : World) (base : Nat) (args : Array Value) (ds gs : List (DataW H)) (before : List MemPlace)
    (hval0 : ∀ (j : Nat) t v, Tryd.f8.params[j]? = some t → args[j]? = some v → Value.okWide Tryd.prog W .any base t v)
    (hW : DataW.Whole enc Tryd.prog Tryd.f8.params.toList Rows.optsKeepsSpec.vars false W args.toList ds gs before) (hk : Rows.uptoSmall H (ds ++ gs) = true)
    (hsz0 : (DataW.weightsEach Tryd.prog (Tryd.f8.params.toList ++ Rows.optsKeepsSpec.plain.varTypes Tryd.prog) (ds ++ gs)).all (· ≤ reachBytes) = true)
    (hL : laidMetH Tryd.prog Rows.optsKeepsUptoRow.laid W) :
    Calls Tryd.prog 8 args W fun e W' => ∃ v, e = .returned v ∧ Rows.optsKeepsSpec.post enc Tryd.prog Tryd.f8 false true false false W args v W' := by
  have hval := hval0
  have hsz := hsz0
  have hW' := hW
  obtain ⟨p, q, hA0, hV, rfl, hfz, hnd⟩ := hW
  have hA : DataW.TrodAll enc Tryd.prog W 0 (fun _ => true) true Tryd.f8.params.toList args.toList ds p := hA0
  rw [Tryd.params8] at hA hval hsz
  obtain ⟨v0, vs0, d0, ds0, p0, q0, hargs, rfl, rfl, h0, r0⟩ := trodAll_cons hA
  obtain ⟨v1, vs1, d1, ds1, p1, q1, rfl, rfl, rfl, h1, r1⟩ := trodAll_cons r0
  obtain ⟨v2, vs2, d2, ds2, p2, q2, rfl, rfl, rfl, h2, r2⟩ := trodAll_cons r1
  obtain ⟨rfl, rfl, rfl⟩ := trodAll_nil r2
  obtain rfl : args = #[v0, v1, v2] := by cases args; simp_all
  obtain ⟨rfl, rfl⟩ := trodVars_none hV
  have k0 := h0
  have lt0 : ∀ x ∈ p0, x.block < W.heap.size := by obtain ⟨m, hm⟩ := k0; exact DataW.trod_lt m _ _ _ hm
  obtain ⟨a0, len0, cap0, rfl⟩ := okWide_slice Tryd.underlying22 (hval 0 22 v0 rfl rfl)
  have z0 : ∀ m ∈ d0.weights Tryd.prog 22, m ≤ reachBytes := fun m hm => by
    have := List.all_eq_true.1 hsz m (DataW.weights_mem_each (j := 0) (t := 22) rfl rfl m hm)
    simpa using this
  obtain ⟨l0, rfl, c0, _, w0, n0, u0⟩ := open_bytes h0 z0
  have k1 := h1
  have lt1 : ∀ x ∈ p1, x.block < W.heap.size := by obtain ⟨m, hm⟩ := k1; exact DataW.trod_lt m _ _ _ hm
  obtain ⟨a1, len1, cap1, rfl⟩ := okWide_slice Tryd.underlying22 (hval 1 22 v1 rfl rfl)
  have z1 : ∀ m ∈ d1.weights Tryd.prog 22, m ≤ reachBytes := fun m hm => by
    have := List.all_eq_true.1 hsz m (DataW.weights_mem_each (j := 1) (t := 22) rfl rfl m hm)
    simpa using this
  obtain ⟨l1, rfl, c1, _, w1, n1, u1⟩ := open_bytes h1 z1
  have k2 := h2
  have lt2 : ∀ x ∈ p2, x.block < W.heap.size := by obtain ⟨m, hm⟩ := k2; exact DataW.trod_lt m _ _ _ hm
  obtain ⟨a2, len2, cap2, rfl⟩ := okWide_slice Tryd.underlying23 (hval 2 23 v2 rfl rfl)
  have z2 : ∀ m ∈ d2.weights Tryd.prog 23, m ≤ reachBytes := fun m hm => by
    have := List.all_eq_true.1 hsz m (DataW.weights_mem_each (j := 2) (t := 23) rfl rfl m hm)
    simpa using this
  obtain ⟨l2, rfl, c2, w2, u2⟩ := open_opts h2 z2
  clear hA0 hval0
  refine (walk a0 l0 cap0 a1 l1 cap1 a2 l2 cap2 W (glob_of hL) c0 w0 n0 (Nat.le_trans u0 (small_mem hk (by simp))) c1 w1 n1 (Nat.le_trans u1 (small_mem hk (by simp))) c2 w2 (Nat.le_trans u2 (small_mem hk (by simp)))).mono fun e W' ⟨he, bel⟩ => ?_
  subst he
  exact ⟨_, rfl, _, _, _, [], _, [], hW', trodAll_mk1 (shut_bool Tryd.underlying4 _), (trodAll_cons_mk (Below.trod laidOut (by kernel_rfl) (of_decide_eq_true (by kernel_rfl)) k0 bel lt0) (trodAll_cons_mk (Below.trod laidOut (by kernel_rfl) (of_decide_eq_true (by kernel_rfl)) k1 bel lt1) (trodAll_cons_mk (Below.trod laidOut (by kernel_rfl) (of_decide_eq_true (by kernel_rfl)) k2 bel lt2) trodAll_mk0))), rfl, bel.frame _, fun h => by cases h⟩
theorem laid_met (os : Os) : laidMet Tryd.prog Rows.optsKeepsUptoRow.laid ((laidWorld Tryd.prog os).forCall (fun _ _ => 0) ⟨#[], #[.slice none 0 0, .slice none 0 0, .slice none 0 0], []⟩).memory :=
  laidMet_of_run' 8 (by kernel_rfl) (by kernel_rfl)
theorem reads (os : Os) {H : Type} (enc : TypeId × Value → H) : ∃ places, DataW.whole enc Tryd.prog ((laidWorld Tryd.prog os).forCall (fun _ _ => 0) ⟨#[], #[.slice none 0 0, .slice none 0 0, .slice none 0 0], []⟩).memory Tryd.f8.params.toList Rows.optsKeepsSpec.vars false #[.slice none 0 0, .slice none 0 0, .slice none 0 0].toList 8 = some ([.nil, .nil, .nil], [], places) :=
  ⟨[], by kernel_rfl⟩
theorem lifted (os : Os) (started : os.Started) (H : Type) (enc : TypeId × Value → H) (F : Stop.Interp) :
    ReturnsInHanded {} Tryd.checked os 8 .any ((Rows.OpenSpec.upto Rows.optsKeepsSpec).preRow enc Tryd.prog Tryd.f8 Rows.optsKeepsUptoRow.domain false Rows.optsKeepsUptoRow.laid) (((Rows.OpenSpec.upto Rows.optsKeepsSpec).at F).post enc Tryd.prog Tryd.f8 false true false false) := by
  obtain ⟨places, hx⟩ := reads os enc
  refine returnsInHanded_of_row (C := Tryd.checked) (s := Rows.OpenSpec.upto Rows.optsKeepsSpec) ownKn started (by kernel_rfl) Tryd.func8
    (witness_row_at (enc := enc) (C := Tryd.checked) false (laidWorld Tryd.prog os) #[.slice none 0 0, .slice none 0 0, .slice none 0 0] rfl (by kernel_rfl) (by kernel_rfl) (by kernel_rfl)
      (OpenSpec.preRow_of_cond 8 hx (by kernel_rfl) (fun k hk => by cases hk; kernel_rfl) (by kernel_rfl) (laid_met os))) ?_
  intro W base args ds gs before hval hW _ hcond hsz hL hS _
  exact contract H enc W base args ds gs before hval hW (hcond _ rfl) hsz hL
theorem said : Rows.OptsKeepsUptoSaid :=
  OpenClaim.holds_of_cond 8 Tryd.f8 rfl rfl rfl rfl rfl rfl rfl ⟨rfl, rfl, rfl, rfl, rfl⟩ rfl rfl rfl rfl rfl (by kernel_rfl) Tryd.func8 (by kernel_rfl)
    (of_decide_eq_true (by kernel_rfl)) (by unfold Func.isWrapper; first | (rw [if_pos (by decide +kernel)]; kernel_rfl) | (rw [if_neg (by decide +kernel)]; exact ⟨rfl, rfl⟩))
    (fun os started H enc _ F => by rw [OpenClaim.pre_eq_preRow]; exact lifted os started H enc F)
theorem plain (f : FuncId) (fn : Func) (hf : Tryd.pinned.checked.prog.funcNamed "mosaic/mosaiclaw04.OptsKeeps" = some f) (hfn : Tryd.pinned.checked.prog.funcs[f]? = some fn) :
    false = Tryd.pinned.checked.prog.looks [] ∧ ∀ (j : Nat) t, fn.params[j]? = some t → Tryd.pinned.checked.prog.wantsStandIn t = false := by
  obtain rfl : f = 8 := Option.some.inj ((show Tryd.prog.funcNamed "mosaic/mosaiclaw04.OptsKeeps" = some 8 by kernel_rfl).symm.trans hf) |>.symm
  obtain rfl : fn = Tryd.f8 := (Option.some.inj (Tryd.func8.symm.trans hfn)).symm
  refine ⟨by kernel_rfl, fun j t ht => ?_⟩
  rw [Tryd.params8] at ht
  have hm := Array.mem_of_getElem? ht
  simp only [List.mem_toArray, List.mem_cons, List.not_mem_nil, or_false] at hm
  have h22 : Tryd.prog.wantsStandIn 22 = false := by kernel_rfl
  have h23 : Tryd.prog.wantsStandIn 23 = false := by kernel_rfl
  rcases hm with rfl | rfl | rfl
  all_goals first | exact h22 | exact h23
theorem card : Rows.OptsKeepsUptoCardSaid :=
  Claim7.holds_tied_plain_at .later [] _ _ _ _ said (fun _ h => by cases h) (by kernel_rfl) (fun _ h => by cases h) optsKeepsUpto_row_tie rfl ⟨rfl, rfl⟩ (by kernel_rfl) rfl plain (by kernel_rfl)
end optsKeeps
theorem optsKeepsUpto_holds : Rows.OptsKeepsUptoCardSaid := optsKeeps.card
#print axioms optsKeepsUpto_holds
end Go.Proofs.YtokhmlpajfhbpaaDoor
