/-
  stands.
-/
import Derived.Test.YtokhmlpajfhbpaaDoorLong
namespace Go.Proofs.YtokhmlpajfhbpaaDoor
open Go.ChangeShapes Go.WideShapes Go.ChangeAt Go.RowKit Go.Deep
set_option linter.unusedVariables false
set_option maxRecDepth 100000

theorem mrk_wrap (i : Nat) : IntKind.u8.wrap (100 + (i : Int) % 150) = 100 + (i : Int) % 150 := by simp [IntKind.wrap, IntKind.bits, IntKind.signed]; omega
theorem rep_get (n j : Nat) (x : Int) (h : j < n) : (List.replicate n x)[j]?.getD 0 = x := by rw [List.getElem?_replicate, if_pos h]; rfl
set_option maxHeartbeats 8000000 in
theorem stands_c (w : World) (B g : Nat) (kv wv : Value) (T : List Tr) (h : Lot w B g kv wv T) (hT : T.length ≤ 900000000) :
    Calls Tryd.prog 20 #[.pointer (some ⟨g, 0, none⟩), wv] w fun E w' => E = .returned (.bool true) ∧ Away (VS T) w w' := by
  have HL : Hid (Lot w B g kv wv T) := h
  obtain ⟨ka, kc, hkv, _⟩ := ownsG_slice h.kl
  obtain ⟨wa, wc, hwv, _⟩ := ownsG_slice h.wl
  rw [List.length_map] at hkv hwv
  subst hkv; subst hwv
  clear h
  have hgV : Hid (g ∉ VS T) := fun hm => by
    obtain ⟨t, ht, hk⟩ := mem_VS.1 hm
    exact (HL.out.vg t ht g hk).1 rfl
  have hkV : Hid (∀ k, (Value.slice ka T.length kc).ownBlock = some k → k ∉ VS T) := fun k hk hm => by
    obtain ⟨t, ht, hk2⟩ := mem_VS.1 hm
    exact (HL.out.vg t ht k hk2).2.1 hk
  have HKL : Hid (∀ wx, Away (VS T) w wx → OwnsG 22 wx (.slice ka T.length kc) (T.map Tr.v)) := fun wx hwx => HL.out.kl.away hwx hkV.out
  have HBK : Hid (∀ wx, Away (VS T) w wx → wx.cell? ⟨g, 0, none⟩ = some (.slice ka T.length kc)) := fun wx hwx => by
    rw [cell_of_block (hwx.keep hgV.out HL.out.blk)]; rfl
  have HKC : Hid (∀ wx, Away (VS T) w wx → ∀ i t, T[i]? = some t → ∃ b, ka = some ⟨b, 0, none⟩ ∧ wx.cell? ⟨b, i, none⟩ = some t.v) := fun wx hwx i t ht => by
    obtain ⟨a', c', e, hc⟩ := ownsG_slice (HKL.out wx hwx)
    simp only [Value.slice.injEq] at e
    obtain ⟨b, hb, hcell⟩ := hc i t.v (by rw [List.getElem?_map, ht]; rfl)
    exact ⟨b, by rw [e.1, hb], hcell⟩
  go_enter Tryd.func20, Tryd.ntmps20
  go_wp2_with fail
  go_loopw [5] (fun i wr => ∃ (j q : Nat), j ≤ T.length ∧ i = .int .i64 j ∧ wr = w.drewN q) (fun i _ => T.length - (intOf i).toNat)
  case atStart => exact ⟨0, 0, by omega, rfl, rfl⟩
  case round =>
    obtain ⟨j, q, hj, rfl, hW⟩ := hrel
    have HW : Hid (wr = w.drewN q) := hW
    have hawr : Away [] w wr := by rw [hW]; exact (Away.refl [] w).drewN q
    have hawV : Away (VS T) w wr := hawr.mono (by simp)
    have c0 := HBK.out wr hawV
    clear hW
    by_cases hlt : j < T.length
    · obtain ⟨t, ht, hmem⟩ := get_of_lt hlt
      obtain ⟨b1, rfl, c1⟩ := HKC.out wr hawV j t ht
      obtain ⟨o1, o2, o3, o4⟩ := HL.out.own t hmem
      have hwl := HL.out.wl.away hawr (by simp)
      obtain ⟨a', c', e, hc⟩ := ownsG_slice hwl
      simp only [Value.slice.injEq, List.length_map] at e
      obtain ⟨b2, hb2, c2⟩ := hc j t.u (by rw [List.getElem?_map, ht]; rfl)
      obtain ⟨rfl, _, rfl⟩ := e
      subst hb2
      obtain ⟨va, vc, hv, _, _, hrv, _⟩ := (o1.away hawr (by simp)).row (by omega) o3
      obtain ⟨ua, uc, hu, _, _, hru, _⟩ := (o2.away hawr (by simp)).row (by omega) o3
      rw [hv] at c1
      rw [hu] at c2
      have HRV : Hid (Row wr va t.p) := hrv
      have HRU : Hid (Row wr ua t.p) := hru
      have t2 : 0 ≤ (j : Int) := by omega
      have t3 : (j : Int) < (T.length : Int) := by omega
      have t4 : ((j : Int)).toNat = j := by omega
      clear hrv hru hc hwl o1 o2 hv hu hawV
      generalize t.p = p at *
      go_wp2_with fail
      go_quiet ((go_at_call 13; exact Calls.quiet_of (same_b (z := true) va ua p p _ _ _ _ _ rfl rfl (by exact HRV.out) (by exact HRU.out) (by simp))))
      go_wp2_with fail
      go_roundw
      case rel => exact ⟨j + 1, q + nq, by omega, by go_num, by rw [HW.out, World.drewN_drewN]⟩
      case measure => simp [intOf]; omega
    · have hb0 : decide ((j : Int) < (T.length : Int)) = false := by simp; omega
      have L1 := HL.out.on hawr
      have HL1 : Hid (Lot wr B g (.slice ka T.length kc) (.slice wa T.length wc) T) := L1
      have HAW : Hid (Away [] w wr) := hawr
      generalize hw1 : wr = w1 at *
      clear hw1 HW L1 hawr hawV
      go_wp2_with fail
      go_loopw [6] (fun i ws => ∃ j : Nat, j ≤ T.length ∧ i = .int .i64 j ∧ MkI w1 T j 0 ws) (fun i _ => T.length - (intOf i).toNat)
      case atStart => exact ⟨0, by omega, rfl, MkI.start HL1.out⟩
      case round =>
        obtain ⟨i, hi, rfl, hm⟩ := hrel
        have HM : Hid (MkI w1 T i 0 wr) := hm
        have hawV : Away (VS T) w wr := (HAW.out.mono (by simp)).trans hm.away
        have c0 := HBK.out wr hawV
        clear hm
        by_cases hlt : i < T.length
        · obtain ⟨t, ht, hmem⟩ := get_of_lt hlt
          go_wp2_with fail
          go_loopw [7] (fun jv ws => ∃ j : Nat, j ≤ t.p.length ∧ jv = .int .i64 j ∧ MkI w1 T i j ws) (fun jv _ => t.p.length - (intOf jv).toNat)
          case atStart => exact ⟨0, by omega, rfl, HM.out⟩
          case round =>
            obtain ⟨j, hj, rfl, hm⟩ := hrel
            have HM : Hid (MkI w1 T i j wr) := hm
            have hawV : Away (VS T) w wr := (HAW.out.mono (by simp)).trans hm.away
            have c0 := HBK.out wr hawV
            obtain ⟨b1, rfl, c1⟩ := HKC.out wr hawV i t ht
            have hpl := (HL1.out.own t hmem).2.2.2
            have hoo := hm.own i t ht
            obtain ⟨va, vc, hv, hvc, hcel⟩ := owns_slice hoo
            rw [part_len (fun _ => hj)] at hv hvc hcel
            rw [hv] at c1
            have t2 : 0 ≤ (i : Int) := by omega
            have t3 : (i : Int) < (T.length : Int) := by omega
            clear hm hoo hawV
            by_cases hjl : j < t.p.length
            · obtain ⟨b, rfl, cj, fj⟩ := hcel j hjl
              have hset := HM.out.set HL1.out ht hjl hv
              have HSET : Hid (MkI w1 T i (j + 1) (wr.setCell ⟨b, j, none⟩ (.int .u8 (100 + (i : Int) % 150)))) := hset
              have hwr := mrk_wrap i
              have t5 : 0 ≤ (j : Int) := by omega
              have t6 : (j : Int) < (t.p.length : Int) := by omega
              clear hset hcel hv
              go_wp2_with fail
              go_roundw
              case rel => exact ⟨j + 1, by omega, by go_num, HSET.out⟩
              case measure => simp [intOf]; omega
            · obtain rfl : j = t.p.length := by omega
              have HMT : Hid (MkI w1 T (i + 1) 0 wr) := HM.out.turn ht
              clear hcel hv
              go_wp2_with fail
              go_roundw
              case rel => exact ⟨i + 1, by omega, by go_num, HMT.out⟩
              case measure => simp [intOf]; omega
        · obtain rfl : i = T.length := by omega
          have HLG : Hid (LgS wr T 0 (.slice none 0 0) [] wr) := LgS.start HL1.out HM.out
          have HA2 : Hid (Away (VS T) w wr) := hawV
          have HS2 : Hid (w1.heap.size ≤ wr.heap.size) := HM.out.away.size
          generalize hw2 : wr = w2 at *
          clear hw2 HM hawV
          have hmax : (T.length : Int) ≤ 900000000 := by omega
          go_wp2_with fail
          go_loopw [8, 9] (fun lv iv ws => ∃ (i : Nat) (X : List Value), i ≤ T.length ∧ iv = .int .i64 i ∧ LgS w2 T i lv X ws) (fun _ iv _ => T.length - (intOf iv).toNat)
          case atStart => exact ⟨0, [], by omega, rfl, HLG.out⟩
          case round =>
            obtain ⟨i, X, hi, rfl, hs⟩ := hrel
            have HS : Hid (LgS w2 T i u8 X wr) := hs
            have hawV : Away (VS T) w wr := HA2.out.trans hs.away
            have c0 := HBK.out wr hawV
            have hXl : X.length ≤ 900000000 := by rw [hs.len]; omega
            clear hs
            by_cases hlt : i < T.length
            · obtain ⟨t, ht, hmem⟩ := get_of_lt hlt
              obtain ⟨b1, rfl, c1⟩ := HKC.out wr hawV i t ht
              have hpl := (HL1.out.own t hmem).2.2.2
              have hoo := HS.out.own i t ht (Nat.le_refl _)
              have HTV : Hid (∃ l, Owns wr t.v l ∧ l.length = t.p.length) := ⟨_, hoo, by simp [full]⟩
              obtain ⟨va, vc, hv, _⟩ := owns_slice hoo
              rw [show (full i t).length = t.p.length from by simp [full]] at hv
              rw [hv] at c1
              have HV : Hid (t.v = .slice va t.p.length vc) := hv
              have t2 : 0 ≤ (i : Int) := by omega
              have t3 : (i : Int) < (T.length : Int) := by omega
              have hws := HS.out.away.size
              have hwrp := mrk_wrap i
              clear hv hoo hawV
              generalize hwr0 : wr = wr0 at *
              clear hwr0
              go_wp2_with fail
              go_loopw [10, 11] (fun xv jv ws => ∃ j : Nat, j ≤ 80 ∧ jv = .int .i64 j ∧ LgI t i j wr0 xv ws) (fun _ jv _ => 80 - (intOf jv).toNat)
              case atStart => exact ⟨0, by omega, rfl, by rw [← HV.out]; exact LgI.start HS.out ht⟩
              case round =>
                obtain ⟨j, hj, rfl, hI⟩ := hrel
                have HI : Hid (LgI t i j wr0 u10 wr) := hI
                clear hI
                by_cases hjl : j < 80
                · go_wp2_with (at_builtin; refine wpList_appX rfl _ _ rfl u10 (List.replicate (t.p.length + j) (mrk i)) [mrk i] rfl (by exact (HI.out.alloc _).own) ⟨_, 0, none⟩ 1 1 rfl rfl (by exact lit_cells _ [mrk i] _ rfl) (by simp; omega) ?_)
                  intro xv ws' ho hd
                  have HI2 : Hid (LgI t i (j + 1) wr0 xv ws') := (HI.out.alloc (.cells #[.int .u8 (100 + (i : Int) % 150)] 5)).step hpl HTV.out ho hjl (hd.imp id (fun h => ⟨by simpa using h.1, h.2⟩))
                  clear ho hd
                  go_wp2_with fail
                  go_roundw
                  case rel => exact ⟨j + 1, by omega, by go_num, HI2.out⟩
                  case measure => simp [intOf]; omega
                · obtain rfl : j = 80 := by omega
                  obtain ⟨xa, xc, hx, _⟩ := owns_slice HI.out.own
                  rw [List.length_replicate] at hx
                  subst hx
                  have hsI := HI.out.away.size
                  have HLV : Hid (OwnsG 22 wr u8 X) := HS.out.lst.away HI.out.away (fun k hk hm => by
                    have h1 := (HL1.out.own t hmem).1.lt k (by simpa using hm)
                    have h2 := HS.out.new k hk
                    have h3 := HS2.out
                    omega)
                  go_wp2_with (at_builtin; refine wpList_app41 rfl _ _ rfl _ X rfl (by exact HLV.out.away ((Away.refl [] _).alloc _) (by simp)) ⟨_, 0, none⟩ 1 rfl (.slice xa (t.p.length + 80) xc) (by rw [World.cell?_alloc_at (hn := rfl)]; rfl) rfl (by omega) ?_)
                  intro lv' ws' ho haw hmv
                  have HS3 : Hid (LgS w2 T (i + 1) lv' (X ++ [.slice xa (t.p.length + 80) xc]) ws') := HS.out.push HL1.out HS2.out ht (HI.out.alloc (.cells #[.slice xa (t.p.length + 80) xc] 22)) ho haw (fun k hk => (hmv k hk).imp id (fun h => by simpa using h))
                  clear ho haw hmv
                  go_wp2_with fail
                  go_roundw
                  case rel => exact ⟨i + 1, _, by omega, by go_num, HS3.out⟩
                  case measure => simp [intOf]; omega
            · obtain rfl : i = T.length := by omega
              obtain ⟨la, lc, hlv, hlc⟩ := ownsG_slice HS.out.lst
              rw [HS.out.len] at hlv
              subst hlv
              have HLC : Hid (∀ i y, X[i]? = some y → ∃ b, la = some ⟨b, 0, none⟩ ∧ wr.cell? ⟨b, i, none⟩ = some y) := hlc
              have HAV : Hid (Away (VS T) w wr) := hawV
              clear hlc hawV
              generalize hwr0 : wr = w4 at *
              clear hwr0
              go_wp2_with fail
              go_loopw [12] (fun iv ws => ∃ i : Nat, i ≤ T.length ∧ iv = .int .i64 i ∧ ws = w4) (fun iv _ => T.length - (intOf iv).toNat)
              case atStart => exact ⟨0, by omega, rfl, rfl⟩
              case round =>
                obtain ⟨i, hi, rfl, hW⟩ := hrel
                subst hW
                by_cases hlt : i < T.length
                · obtain ⟨t, ht, hmem⟩ := get_of_lt hlt
                  obtain ⟨x, hx, _⟩ := get_of_lt (xs := X) (k := i) (by rw [HS.out.len]; exact hlt)
                  have hpl := (HL1.out.own t hmem).2.2.2
                  obtain ⟨b1, rfl, c1⟩ := HKC.out _ HAV.out i t ht
                  obtain ⟨b2, rfl, c2⟩ := HLC.out i x hx
                  obtain ⟨o1, _⟩ := HS.out.lng i t x ht hx
                  obtain ⟨xa, xc, hxv, hxc, hxcell⟩ := owns_slice o1
                  rw [show (long i t).length = t.p.length + 80 from by simp [long]] at hxv hxc hxcell
                  subst hxv
                  have HXC : Hid (∀ j, j < t.p.length + 80 → ∃ b, xa = some ⟨b, 0, none⟩ ∧ wr.cell? ⟨b, j, none⟩ = some (.int .u8 (100 + (i : Int) % 150))) := fun j hj => by
                    obtain ⟨b, hb, hc, _⟩ := hxcell j hj
                    refine ⟨b, hb, ?_⟩
                    rw [hc]
                    unfold long
                    rw [rep_get _ _ _ hj]; rfl
                  obtain ⟨va, vc, hv, _⟩ := owns_slice (HL1.out.own t hmem).1
                  rw [hv] at c1
                  have HVR : Hid (Row wr va (full i t)) := HS.out.row i t ht va _ _ hv
                  have t2 : 0 ≤ (i : Int) := by omega
                  have t3 : (i : Int) < (T.length : Int) := by omega
                  have hwrp := mrk_wrap i
                  clear hxcell o1 hx hv hxc
                  generalize hz5 : wr = w5 at *
                  clear hz5
                  go_wp2_with fail
                  go_loopw [13] (fun jv ws => ∃ j : Nat, j ≤ t.p.length + 80 ∧ jv = .int .i64 j ∧ ws = w5) (fun jv _ => t.p.length + 80 - (intOf jv).toNat)
                  case atStart => exact ⟨0, by omega, rfl, rfl⟩
                  case round =>
                    obtain ⟨j, hj, rfl, hW⟩ := hrel
                    subst hW
                    by_cases hjl : j < t.p.length + 80
                    · obtain ⟨b3, rfl, c3⟩ := HXC.out j hjl
                      have t5 : 0 ≤ (j : Int) := by omega
                      have t6 : (j : Int) < (t.p.length : Int) + 80 := by omega
                      by_cases hjp : j < t.p.length
                      · obtain ⟨b4, o4, rfl, c4⟩ := cells_row HVR.out (k := j) (by simpa [full] using hjp)
                        have e4 : (full i t)[j]?.getD 0 = 100 + (i : Int) % 150 := by unfold full; rw [rep_get _ _ _ hjp]; rfl
                        rw [e4] at c4
                        have t7 : (j : Int) < (t.p.length : Int) := by omega
                        clear e4
                        go_wp2_with fail
                        go_roundw
                        case rel => exact ⟨j + 1, by omega, by go_num, by trivial⟩
                        case measure => simp [intOf]; omega
                      · have t7 : ¬ ((j : Int) < (t.p.length : Int)) := by omega
                        go_wp2_with fail
                        go_roundw
                        case rel => exact ⟨j + 1, by omega, by go_num, by trivial⟩
                        case measure => simp [intOf]; omega
                    · go_wp2_with fail
                      go_roundw
                      case rel => exact ⟨i + 1, by omega, by go_num, by trivial⟩
                      case measure => simp [intOf]; omega
                · go_wp2_with fail
                  go_ret
                  exact ⟨rfl, HAV.out⟩
#print axioms stands_c
end Go.Proofs.YtokhmlpajfhbpaaDoor
