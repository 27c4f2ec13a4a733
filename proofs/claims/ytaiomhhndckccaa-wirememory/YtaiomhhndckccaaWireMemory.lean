/-
  WireMemory: the walk, and the row's step.
-/
import Derived.Test.YtaiomhhndckccaaMs
namespace Go.Proofs.Ytaiomhhndckccaa.wireMemory
open Go.ChangeShapes Go.WideShapes Go.ChangeAt Go.RowKit
set_option linter.unusedVariables false

theorem view64 {w : World} {a : Option Addr} {len cap : Nat} {zs : List Int} (h : IsRow .i64 w a len cap zs) :
    len ≤ 140737488351232 ∧ (len = 0 ∨ ∃ b off, a = some ⟨b, off, none⟩ ∧ ∀ i, i < len → w.cell? ⟨b, off + i, none⟩ = some (.int .i64 (zs[i]?.getD 0))) := by
  rcases h with ⟨rfl, rfl, rfl, rfl⟩ | ⟨x, rfl, hl, hm, hz, hcell, hwz⟩
  · exact ⟨by omega, .inl rfl⟩
  · simp only [kindBytes] at hm
    refine ⟨by omega, ?_⟩
    by_cases h0 : len = 0
    · exact .inl h0
    · right
      obtain ⟨b, off, spot⟩ := x
      have hspot : spot = none := by simpa [Addr.add] using World.cell?_spot (hcell 0 (by omega))
      subst hspot
      refine ⟨b, off, rfl, fun i hi => ?_⟩
      have := hcell i (by omega)
      rw [add_plain] at this
      simpa using this
theorem LotAt.drewN {w : World} {va : Value} {P : Lot} (h : LotAt w va P) (q : Nat) : LotAt (w.drewN q) va P := ⟨h.own, h.con, h.ap, h.far, h.few⟩
theorem and_63 (n : Int) : ∃ d : Nat, d ≤ 63 ∧ bits .and .i64 n 63 = (d : Int) := by
  have e : bits .and .i64 n 63 = IntKind.i64.wrap (((BitVec.ofInt 64 n).toNat % 64 : Nat) : Int) := by
    show IntKind.i64.wrap (((BitVec.ofInt 64 n &&& BitVec.ofInt 64 63).toNat : Nat) : Int) = _
    rw [BitVec.toNat_and, show (BitVec.ofInt 64 63).toNat = 2 ^ 6 - 1 from rfl, Nat.and_two_pow_sub_one_eq_mod]
  refine ⟨(BitVec.ofInt 64 n).toNat % 64, by omega, ?_⟩
  rw [e, IntWalk.i64_in _ ⟨by omega, by omega⟩]
theorem wpList_app44 {w : World} {ops : Array Oper} {rest : List Oper} {o : Oper} {a : Act} {Q : Exit → Act → World → Prop} (hgd : o.guard = none) (s x : Operand)
    (ho : o.op = .call { callee := .builtin .append, args := #[s, x], argTypes := #[44, 44] }) (v : Value) (l : List Value) (p q r : Value) (hs : a.eval s = v) (hown : OwnsG 22 w v l)
    (ad : Addr) (hx : a.eval x = .slice (some ad) 3 3) (hm : ∀ j u, ([p, q, r] : List Value)[j]? = some u → w.cell? (ad.add j) = some u) (hone : p.oneCell' = true ∧ q.oneCell' = true ∧ r.oneCell' = true) (hlen : l.length ≤ 1000)
    (h : ∀ v' w', OwnsG 22 w' v' (l ++ [p, q, r]) → Went w w' v v' → wpList Try.prog ops Q rest (a.put o.dst v') w') : wpList Try.prog ops Q (o :: rest) a w := by
  obtain ⟨i0, hi, hz0, hz1, hz2⟩ := info_parts info22
  obtain ⟨v', w', hrun, r1, r2⟩ := run_appN 44 o.type 22 i0 _ 1 24 Try.underlying44 hi hz0 hz1 hz2 rfl (by decide) w v l.length l hown ad 3 3 [p, q, r] rfl hm (by
    intro u hu
    simp only [List.mem_cons, List.not_mem_nil, or_false] at hu
    rcases hu with rfl | rfl | rfl
    · exact hone.1
    · exact hone.2.1
    · exact hone.2.2) (by unfold maxLen; omega) (by omega)
  refine wpList_plain hgd fun _ hK => ?_
  unfold Oper.wp
  simp [execOp, ho, resolve, invoke, builtin, hs, hx, hrun, Result.andThen]
  refine hK _ _ (h v' w' ?_ r2)
  unfold OwnsG
  rw [List.length_append]
  exact r1
theorem three_cells (w : World) (p q r : Value) (n : Nat) (hn : n = w.heap.size) : ∀ j u, ([p, q, r] : List Value)[j]? = some u → (w.alloc (.cells #[p, q, r] 22)).cell? ((⟨n, 0, none⟩ : Addr).add j) = some u := by
  intro j u hj
  rw [add_plain, Nat.zero_add, World.cell?_alloc_at (hn := hn)]
  simpa using hj
theorem wpList_appG {w : World} {ops : Array Oper} {rest : List Oper} {o : Oper} {a : Act} {Q : Exit → Act → World → Prop} (hw : Region.wanted o (yielded ops a.tmps) = true) (s x : Operand)
    (ho : o.op = .call { callee := .builtin .append, args := #[s, x], argTypes := #[22, 22] }) (v : Value) (l m : List Int) (hs : a.eval s = v) (hown : Owns w v l)
    (ad : Addr) (n c : Nat) (hx : a.eval x = .slice (some ad) n c) (hn : m.length = n) (hm : ∀ j u, (m.map (Value.int .u8))[j]? = some u → w.cell? (ad.add j) = some u) (hlen : l.length + n ≤ 140737488355328)
    (h : ∀ v' w', Owns w' v' (l ++ m) → w.grownBy w' v.ownBlock → Moved w v v' → wpList Try.prog ops Q rest (a.put o.dst v') w') : wpList Try.prog ops Q (o :: rest) a w := by
  obtain ⟨v', w', hrun, r1, r2, r3⟩ := run_appB o.type w v l m hown ad n c hn hm hlen
  refine wpList_step fun K hK => ?_
  rw [if_pos hw]
  unfold Oper.wp
  simp [execOp, ho, resolve, invoke, builtin, hs, hx, hrun, Result.andThen]
  exact hK _ _ (h v' w' r1 r2 r3)
theorem Still.away {S : List Nat} {w w' : World} {v : Value} {l : List Tk} (h : Still w v l) (ha : Away S w w') (hv : ∀ k, v.ownBlock = some k → k ∉ S) (ht : ∀ t ∈ l, (∀ k, t.b.ownBlock = some k → k ∉ S) ∧ (∀ k, t.g.ownBlock = some k → k ∉ S)) : Still w' v l :=
  ⟨h.1.away ha hv, h.2.1, fun t hm => ⟨(h.2.2 t hm).1.away ha (ht t hm).1, (h.2.2 t hm).2.away ha (ht t hm).2⟩⟩
theorem rd_n (m : List Int) (pos nn : Nat) (h : pos + nn ≤ m.length) : rdOut (m.drop pos) 0 nn = (m.drop pos).take nn ∧ rdRest (m.drop pos) 0 nn = m.drop (pos + nn) ∧ rdErr (m.drop pos) 0 nn = 0 := by
  have h1 : (nn : Int) ≤ ((m.drop pos).length : Int) := by simp; omega
  refine ⟨?_, ?_, ?_⟩
  · unfold rdOut; rw [if_pos ⟨rfl, by omega, h1⟩, Int.toNat_natCast]
  · unfold rdRest; rw [if_pos ⟨rfl, by omega, h1⟩, Int.toNat_natCast, List.drop_drop]
  · unfold rdErr; rw [if_pos rfl, if_neg (by omega), if_pos h1]
theorem take_more (m : List Int) (pos nn : Nat) : m.take pos ++ (m.drop pos).take nn = m.take (pos + nn) := (List.take_add (l := m) (i := pos) (j := nn)).symm
theorem wr_n (m : List Int) (pos nn : Nat) (lim : Int) (h : pos + nn ≤ m.length) (hl : (m.length : Int) + 2 = lim) : wrAll (m.take pos) 0 lim ((m.drop pos).take nn) = m.take (pos + nn) ∧ wrErr (m.take pos) 0 lim ((m.drop pos).take nn).length = 0 := by
  have h1 : ((m.take pos).length : Int) + ((m.drop pos).take nn).length ≤ lim := by simp; omega
  exact ⟨by unfold wrAll; rw [if_pos ⟨rfl, h1⟩, take_more], by unfold wrErr; rw [if_pos rfl, if_pos h1]⟩
theorem ms_start {w wr : World} {gr dr gw : Nat} {v : Value} {lim : Int} {m : List Int} (aw : Away [] w wr) (rd : Rd wr gr dr m 0) (wt : Wr wr gw v lim [] 0) (hv : v.ownBlock = none) (h1 : gw ≠ gr) (h2 : gw ≠ dr) (h3 : w.heap.size ≤ gw) (h4 : w.heap.size ≤ gr) : MS w wr gr dr gw v (.slice none 0 0) (.slice none 0 0) lim m 0 [] [] := by
  have f : ∀ x ∈ fp gw v, x = gw := by intro x hx; simpa [fp, hv] using hx
  refine ⟨aw, by simpa using rd, by simpa using wt, OwnsG.nil _ _, OwnsG.nil _ _, by simp, by simp, rfl, ⟨by simp⟩, ?_, ?_, ?_, ?_, h4⟩
  · intro x hx
    rcases hx with hx | hx | hx | hx | hx
    · rw [f x hx]; exact ⟨h1, h2, h3⟩
    all_goals simp [vb, bl, Value.ownBlock] at hx
  · intro x hx; simp [vb, bl, Value.ownBlock]
  · intro x hx; simp [vb, Value.ownBlock] at hx
  · intro x hx; simp [vb, Value.ownBlock] at hx

set_option maxRecDepth 100000 in
set_option maxHeartbeats 2000000 in
theorem walkl (a : Option Addr) (l : List Int) (len cap : Nat) (ca : Option Addr) (clen ccap : Nat) (zs : List Int) (w : World) (hll : l.length = len) (hcap : len ≤ cap) (hcap' : cap ≤ 140737488351232) (ha : a = none → cap = 0) (hr : Row w a l)
    (hcl : clen ≤ 140737488351232) (hcc : clen = 0 ∨ ∃ b off, ca = some ⟨b, off, none⟩ ∧ ∀ i, i < clen → w.cell? ⟨b, off + i, none⟩ = some (.int .i64 (zs[i]?.getD 0))) :
    Calls Try.prog 4 #[.slice a len cap, .slice ca clen ccap] w fun e w' => e = .returned (.bool true) ∧ Below w.heap.size w w' := by
  have HCC : Hid (clen = 0 ∨ ∃ b off, ca = some ⟨b, off, none⟩ ∧ ∀ i, i < clen → w.cell? ⟨b, off + i, none⟩ = some (.int .i64 (zs[i]?.getD 0))) := hcc
  clear hcc
  by_cases hbig : 2000 < len
  · have hbig' : decide ((2000 : Int) < (len : Int)) = true := by simp; omega
    have hbig2 : decide (2000 < len) = true := by simp; omega
    obtain ⟨n, hn⟩ : ∃ n : Nat, n = 2000 := ⟨_, rfl⟩
    have s1 := slice_h a len cap n 2000 (by omega) (by omega)
    have hn4 : n ≤ 2000 := by omega
    have hnc : n ≤ cap := by omega
    obtain ⟨m, hm, hmn, hmr⟩ : ∃ m, m = l.take 2000 ∧ m.length = n ∧ Row w a m := ⟨_, rfl, by simp; omega, hr.head 2000⟩
    have HM : Hid (m.length = n) := hmn
    clear hn hm hmn hr hll
    go_enter Try.func4, Try.ntmps4
    go_wp2_with fail
    refine (alive_any _).mono ?_
    rintro E w1 ⟨rfl, aw1⟩
    have hr1 := hmr.away aw1 (by simp)
    go_wp2_with fail
    refine (own_any a m _ _ _ HM.out (by exact hr1)).mono ?_
    rintro E w2 ⟨v2, rfl, hown2, hnew2, haw2, hb2, hl2⟩
    obtain ⟨a2, cap2, hv2, hcap2, hnone2, hrow2, _⟩ := hown2.row hl2 hb2
    rw [HM.out] at hv2
    subst hv2
    go_wp2_with fail
    refine (newReader_any a2 m _ _ _ HM.out hnone2 (by exact hrow2)).mono ?_
    rintro E w3 ⟨gr, dr, rfl, hrd, hgr, hdr, haw3⟩
    have hA3 := (aw1.next haw2 (by simp)).next haw3 (by simp)
    have hs2 := (aw1.next haw2 (by simp)).size
    go_wp2_with fail
    refine (newWriter_any ((n : Int) + 2) _ (by omega) (by omega)).mono ?_
    rintro E w4 ⟨gw, v, rfl, hwr, hgw, hv, haw4⟩
    rw [show limOf ((n : Int) + 2) = (n : Int) + 2 from by unfold limOf; rw [if_neg (by omega), if_pos (by omega)]] at hwr
    have hlt := hrd.lt
    have hs3 := hA3.size
    have hst := ms_start (hA3.next haw4 (by simp)) (hrd.away haw4 (by simp) (by simp)) hwr hv (by omega) (by omega) (by omega) (by omega)
    clear hown2 hnew2 haw2 haw3 hrow2 hcap2 hnone2 hr1 hA3 hrd hwr hlt hs3 hs2 hgr hdr hgw haw4 aw1 hv
    go_wp2_with fail
    go_loopw [7, 8, 9] (fun ua uw i wr => ∃ (k pos : Nat) (P Pw : Lot) (v : Value), k ≤ 20 ∧ i = .int .i64 k ∧ pos ≤ n ∧ P.length = 3 * k ∧ MS w wr gr dr gw v ua uw ((n : Int) + 2) m pos P Pw) (fun _ _ i _ => 20 - (intOf i).toNat)
    case atStart => exact ⟨0, 0, [], [], v, by omega, rfl, by omega, rfl, hst⟩
    case round =>
      obtain ⟨k, pos, P, Pw, v, hk, rfl, hpos, hPn, ms⟩ := hrel
      have HPN : Hid (P.length = 3 * k) := hPn
      have hPn60 : P.length ≤ 60 := by omega
      clear hPn
      have HLD : Hid ((m.drop pos).length = n - pos) := by show _ = _; rw [List.length_drop, HM.out]
      by_cases hgo : k < clen ∧ k < 20
      · obtain ⟨hg1, hg2⟩ := hgo
        have i1 : (k : Int) < (clen : Int) := by omega
        have i2 : (k : Int) < 20 := by omega
        rcases HCC.out with h0 | ⟨cb, coff, rfl, hcell⟩
        · omega
        have c0 := ms.aw.cell (by simp) (hcell k hg1)
        obtain ⟨d, hd63, hand⟩ := and_63 (zs[k]?.getD 0)
        generalize zs[k]?.getD 0 = cz at *
        clear hcell
        obtain ⟨Lf, hLf⟩ : ∃ Lf : Nat, Lf = n - pos := ⟨_, rfl⟩
        rw [← hLf] at HLD
        have HLF : Hid (Lf + pos = n) := by show _ = _; omega
        clear hLf
        by_cases hdl : Lf < d
        · obtain ⟨nn, hnn⟩ : ∃ nn : Nat, nn = Lf := ⟨_, rfl⟩
          · · · · skip
                  have hnn2 : pos + nn ≤ n := by have := HLF.out; omega
                  have hdl1 : (Lf : Int) < (d : Int) := by omega
                  go_wp2_with fail
                  refine (left_any _ gr dr _ 0 (by exact ms.rd)).mono ?_
                  rintro E w44 ⟨rfl, hw44⟩
                  have hw44 := hw44.symm
                  subst hw44
                  rw [HLD.out]
                  go_wp2_with fail
                  refine (left_any _ gr dr _ 0 (by exact ms.rd)).mono ?_
                  rintro E w44 ⟨rfl, hw44⟩
                  have hw44 := hw44.symm
                  subst hw44
                  rw [HLD.out]
                  rw [show ((Lf : Nat) : Int) = (nn : Int) from by omega]
                  have HNN : Hid (nn = Lf) := hnn
                  clear hnn
                  have hsub : (n : Int) - (Lf : Int) = (pos : Int) := by have := HLF.out; omega
                  have hp1 : (pos : Int) ≤ (n : Int) := by omega
                  have hp2 : (pos : Int) + (nn : Int) ≤ (n : Int) := by omega
                  go_wp2_with fail
                  refine (left_any _ gr dr _ 0 (by exact ms.rd)).mono ?_
                  rintro E w44 ⟨rfl, hw44⟩
                  have hw44 := hw44.symm
                  subst hw44
                  rw [HLD.out]
                  go_wp2_with fail
                  refine (bytes_any _ gr dr _ 0 nn (by exact ms.rd)).mono ?_
                  rintro E w1 ⟨x, rfl, ox, nx, rd1, a1, bX, _⟩
                  have hrn := rd_n m pos nn (by rw [HM.out]; omega)
                  rw [hrn.1] at ox bX
                  rw [hrn.2.1, hrn.2.2] at rd1
                  clear hrn
                  have hXl : ((m.drop pos).take nn).length = nn := by simp [HM.out]; omega
                  have HXL : Hid (((m.drop pos).take nn).length = nn) := hXl
                  clear hXl
                  obtain ⟨xa, xc, hxv, hxc, hxn, rowx, hxb, _⟩ := ox.row (by rw [HXL.out]; omega) bX
                  rw [HXL.out] at hxv
                  subst hxv
                  have wt1 := ms.wt.away a1 (fun hm => by simp at hm; exact (ms.s1 gw (.inl (fp_self _ _))).1 hm) (fun k hk hm => by simp at hm; exact (ms.s1 k (.inl (fp_own hk))).1 hm)
                  go_wp2_with fail
                  refine (wbytes_any _ gw v _ _ 0 xa ((m.drop pos).take nn) nn xc (by exact wt1) HXL.out hxn (by exact rowx)).mono ?_
                  rintro E w2 ⟨rfl, v', wt2, mv, a2⟩
                  have hwn := wr_n m pos nn ((n : Int) + 2) (by rw [HM.out]; omega) (by rw [HM.out])
                  rw [hwn.1, hwn.2] at wt2
                  clear hwn
                  have hYb : Bytes (m.take (pos + nn)) := wt2.2.2.2.1
                  have hYl : (m.take (pos + nn)).length = pos + nn := by simp [HM.out]; omega
                  have HYL : Hid ((m.take (pos + nn)).length = pos + nn) := hYl
                  clear hYl
                  go_wp2_with fail
                  refine (out_any _ gw v' _ _ 0 (by exact wt2)).mono ?_
                  rintro E w3 ⟨y, rfl, oy, ny, a3⟩
                  rw [show wrOut (m.take (pos + nn)) 0 = m.take (pos + nn) from by unfold wrOut; rw [if_pos rfl]] at oy
                  obtain ⟨ya, yc, hyv, hyc, hyn, rowy, hyb, _⟩ := oy.row (by rw [HYL.out]; omega) hYb
                  rw [HYL.out] at hyv
                  subst hyv
                  have wt3 := wt2.away a3 (by simp) (by simp)
                  go_wp2_with fail
                  refine (out_any _ gw v' _ _ 0 (by exact wt3)).mono ?_
                  rintro E w4 ⟨z, rfl, oz, nz, a4⟩
                  rw [show wrOut (m.take (pos + nn)) 0 = m.take (pos + nn) from by unfold wrOut; rw [if_pos rfl]] at oz
                  obtain ⟨za, zc, hzv, hzc, hzn, rowz, hzb, _⟩ := oz.row (by rw [HYL.out]; omega) hYb
                  rw [HYL.out] at hzv
                  subst hzv
                  have z1 := a1.size
                  have z2 := a2.size
                  have z3 := a3.size
                  have lv : ∀ k ∈ fp gw v, k < wr.heap.size := fun k hk => by
                    simp only [fp, List.mem_cons, Option.mem_toList] at hk
                    rcases hk with rfl | hk
                    · exact ms.wt.lt.1
                    · exact ms.wt.lt.2 k hk
                  have rowx4 := (rowx.away a2 (fun y hy hm => by have h1 := nx _ (hxb y hy); have h2 := lv _ hm; omega)).away (a3.next a4 (by simp)) (by simp)
                  have ox4 := (ox.away a2 (fun k hk hm => by have h1 := nx _ hk; have h2 := lv _ hm; omega)).away (a3.next a4 (by simp)) (by simp)
                  have rowy4 := rowy.away a4 (by simp)
                  have A4 : Away ([gr] ++ fp gw v) wr w4 := (((a1.mono (T := [gr] ++ fp gw v) (by simp)).next (a2.mono (T := [gr] ++ fp gw v) (fun k hk => by simp [hk])) (fun k hk => .inl hk)).next a3 (by simp)).next a4 (by simp)
                  have aw4 := ms.aw.next A4 (fun k hk => .inr (by
                    simp only [List.cons_append, List.nil_append, List.mem_cons] at hk
                    rcases hk with rfl | hk
                    · exact ms.old
                    · exact (ms.s1 k (.inl hk)).2.2))
                  have rowm := hmr.away aw4 (by simp)
                  obtain ⟨A1, hA1⟩ : ∃ A, A = if cap = pos then a else a.map (·.add pos) := ⟨_, rfl⟩
                  have rowm1 := rowm.sub pos nn cap (by rw [HM.out]; omega) (by rw [HM.out]; omega)
                  rw [← hA1] at rowm1
                  have rowm2 := rowm.head (pos + nn)
                  have hpn : (pos : Int) + (nn : Int) = ((pos + nn : Nat) : Int) := by omega
                  have t1 := slice_lh a A1 n cap pos nn (pos : Int) ((pos : Int) + (nn : Int)) hA1 rfl rfl (by omega)
                  have t2 := slice_h a n cap (pos + nn) ((pos : Int) + (nn : Int)) (by omega) (by omega)
                  have hA1n : A1 = none → cap - pos = 0 := by
                    rw [hA1]; split
                    · intro h; omega
                    · intro h; have := ha (by simpa using h); omega
                  have HA1 : Hid (A1 = none → cap - pos = 0) := hA1n
                  clear hA1 hA1n hpn
                  go_wp2_with fail
                  refine (same_yes xa A1 ((m.drop pos).take nn) ((m.drop pos).take nn) _ _ _ _ _ HXL.out HXL.out hxn HA1.out (by exact rowx4) (by exact rowm1) rfl).mono ?_
                  rintro E w44 ⟨rfl, hw44⟩
                  have hw44 := hw44.symm
                  subst hw44
                  go_wp2_with fail
                  refine (same_yes ya a (m.take (pos + nn)) (m.take (pos + nn)) _ _ _ _ _ HYL.out HYL.out hyn ha (by exact rowy4) (by exact rowm2) rfl).mono ?_
                  rintro E w44 ⟨rfl, hw44⟩
                  have hw44 := hw44.symm
                  subst hw44
                  go_wp2_with fail
                  refine (same_yes ya za (m.take (pos + nn)) (m.take (pos + nn)) _ _ _ _ _ HYL.out HYL.out hyn hzn (by exact rowy4) (by exact rowz) rfl).mono ?_
                  rintro E w44 ⟨rfl, hw44⟩
                  have hw44 := hw44.symm
                  subst hw44
                  have oa4 := ms.oa.away A4 (fun k hk hm => by
                    simp only [List.cons_append, List.nil_append, List.mem_cons] at hm
                    rcases hm with h1 | h1
                    · exact (ms.s1 k (.inr (.inl (vb_mem.mpr hk)))).1 h1
                    · exact (ms.s2 k h1).1 (vb_mem.mpr hk))
                  have hPl : (P.map (·.1)).length ≤ 1000 := by simp; omega
                  have hPwl : (Pw.map (·.1)).length ≤ 1000 := by have := congrArg List.length ms.eq; simp at this; simp; omega
                  go_wp2_with (at_builtin; refine wpList_app44 rfl _ _ rfl _ (P.map (·.1)) (.slice xa nn xc) (.slice ya (pos + nn) yc) (.slice za (pos + nn) zc) rfl (by exact oa4.away ((Away.refl [] _).alloc _) (by simp)) ⟨w4.heap.size, 0, none⟩ rfl (three_cells w4 _ _ _ _ rfl) ⟨rfl, rfl, rfl⟩ hPl ?_)
                  intro ua' w5 oa5 wa
                  have a5 : Away (vb u7) w4 w5 := ((Away.refl _ w4).alloc _).grown wa.grown (fun k hk => .inl (vb_mem.mpr hk))
                  have ma : Moved w4 u7 ua' := fun k hk => by
                    rcases wa.moved k hk with h1 | h1
                    · exact .inl h1
                    · right; simp at h1; omega
                  have lua : ∀ k ∈ vb u7, k < wr.heap.size := fun k hk => ms.oa.lt k (vb_mem.mp hk)
                  have z4 := a4.size
                  have z5 := a5.size
                  have rowx5 := rowx4.away a5 (fun y hy hm => by have h1 := nx _ (hxb y hy); have h2 := lua _ hm; omega)
                  have rowy5 := rowy4.away a5 (fun y hy hm => by have h1 := ny _ (hyb y hy); have h2 := lua _ hm; omega)
                  have rowz5 := rowz.away a5 (fun y hy hm => by have h1 := nz _ (hzb y hy); have h2 := lua _ hm; omega)
                  clear rowx4 rowy4 rowz rowm rowm1 rowm2 wa oa4
                  go_wp2_with fail
                  refine (own_any xa ((m.drop pos).take nn) _ _ _ HXL.out (by exact rowx5)).mono ?_
                  rintro E w6 ⟨x', rfl, ox6, nx6, a6, _, _⟩
                  obtain ⟨xa', xn', xc', rfl⟩ := ox6.shape
                  go_wp2_with fail
                  refine (own_any ya (m.take (pos + nn)) _ _ _ HYL.out (by exact rowy5.away a6 (by simp))).mono ?_
                  rintro E w7 ⟨y', rfl, oy7, ny7, a7, _, _⟩
                  obtain ⟨ya', yn', yc', rfl⟩ := oy7.shape
                  go_wp2_with fail
                  refine (own_any za (m.take (pos + nn)) _ _ _ HYL.out (by exact rowz5.away (a6.next a7 (by simp)) (by simp))).mono ?_
                  rintro E w8 ⟨z', rfl, oz8, nz8, a8, _, _⟩
                  obtain ⟨za', zn', zc', rfl⟩ := oz8.shape
                  have z6 := a6.size
                  have z7 := a7.size
                  have z8 := a8.size
                  have A8 : Away ([gr] ++ fp gw v ++ vb u7) wr w8 := (((((A4.mono (T := [gr] ++ fp gw v ++ vb u7) (fun k hk => List.mem_append_left _ hk)).next (a5.mono (T := [gr] ++ fp gw v ++ vb u7) (fun k hk => List.mem_append_right _ hk)) (fun k hk => .inl hk)).next a6 (by simp)).next a7 (by simp)).next a8 (by simp))
                  have ow8 := ms.ow.away A8 (fun k hk hm => by
                    rcases List.mem_append.mp hm with hm | hm
                    · simp only [List.cons_append, List.nil_append, List.mem_cons] at hm
                      rcases hm with h1 | h1
                      · exact (ms.s1 k (.inr (.inr (.inl (vb_mem.mpr hk))))).1 h1
                      · exact (ms.s2 k h1).2.1 (vb_mem.mpr hk)
                    · exact (ms.s3 k hm).1 (vb_mem.mpr hk))
                  go_wp2_with (at_builtin; refine wpList_app44 rfl _ _ rfl _ (Pw.map (·.1)) (.slice xa' xn' xc') (.slice ya' yn' yc') (.slice za' zn' zc') rfl (by exact ow8.away ((Away.refl [] _).alloc _) (by simp)) ⟨w8.heap.size, 0, none⟩ rfl (three_cells w8 _ _ _ _ rfl) ⟨rfl, rfl, rfl⟩ hPwl ?_)
                  intro uw' w9 ow9 ww
                  have a9 : Away (vb u8) w8 w9 := ((Away.refl _ w8).alloc _).grown ww.grown (fun k hk => .inl (vb_mem.mpr hk))
                  have mw : Moved w8 u8 uw' := fun k hk => by
                    rcases ww.moved k hk with h1 | h1
                    · exact .inl h1
                    · right; simp at h1; omega
                  have ms2 := ms.step a1 rd1 ox nx a2 wt2 mv a3 oy ny a4 oz nz a5 oa5 ma a6 ox6 nx6 a7 oy7 ny7 a8 oz8 nz8 a9 ow9 mw ⟨bX, by rw [HXL.out]; omega⟩ ⟨hYb, by rw [HYL.out]; omega⟩ ⟨hYb, by rw [HYL.out]; omega⟩
                  clear ww a1 a2 a3 a4 a5 a6 a7 a8 a9 rd1 wt1 wt2 wt3 ox oy oz ox4 oa5 ox6 oy7 oz8 ow8 ow9 A4 A8 aw4 ma mw mv lv lua rowx5 rowy5 rowz5 rowx rowy
                  go_wp2_with fail
                  go_roundw
                  case rel => exact ⟨k + 1, pos + nn, _, _, v', by omega, by go_num, by omega, by have := HPN.out; simp; omega, ms2⟩
                  case measure => simp [intOf]; omega
        · obtain ⟨nn, hnn⟩ : ∃ nn : Nat, nn = d := ⟨_, rfl⟩
          · · · · subst hnn
                  have hnn2 : pos + nn ≤ n := by have := HLF.out; omega
                  have hdl1 : ¬ ((Lf : Int) < (nn : Int)) := by omega
                  go_wp2_with fail
                  refine (left_any _ gr dr _ 0 (by exact ms.rd)).mono ?_
                  rintro E w44 ⟨rfl, hw44⟩
                  have hw44 := hw44.symm
                  subst hw44
                  rw [HLD.out]
                  have hsub : (n : Int) - (Lf : Int) = (pos : Int) := by have := HLF.out; omega
                  have hp1 : (pos : Int) ≤ (n : Int) := by omega
                  have hp2 : (pos : Int) + (nn : Int) ≤ (n : Int) := by omega
                  go_wp2_with fail
                  refine (left_any _ gr dr _ 0 (by exact ms.rd)).mono ?_
                  rintro E w44 ⟨rfl, hw44⟩
                  have hw44 := hw44.symm
                  subst hw44
                  rw [HLD.out]
                  go_wp2_with fail
                  refine (bytes_any _ gr dr _ 0 nn (by exact ms.rd)).mono ?_
                  rintro E w1 ⟨x, rfl, ox, nx, rd1, a1, bX, _⟩
                  have hrn := rd_n m pos nn (by rw [HM.out]; omega)
                  rw [hrn.1] at ox bX
                  rw [hrn.2.1, hrn.2.2] at rd1
                  clear hrn
                  have hXl : ((m.drop pos).take nn).length = nn := by simp [HM.out]; omega
                  have HXL : Hid (((m.drop pos).take nn).length = nn) := hXl
                  clear hXl
                  obtain ⟨xa, xc, hxv, hxc, hxn, rowx, hxb, _⟩ := ox.row (by rw [HXL.out]; omega) bX
                  rw [HXL.out] at hxv
                  subst hxv
                  have wt1 := ms.wt.away a1 (fun hm => by simp at hm; exact (ms.s1 gw (.inl (fp_self _ _))).1 hm) (fun k hk hm => by simp at hm; exact (ms.s1 k (.inl (fp_own hk))).1 hm)
                  go_wp2_with fail
                  refine (wbytes_any _ gw v _ _ 0 xa ((m.drop pos).take nn) nn xc (by exact wt1) HXL.out hxn (by exact rowx)).mono ?_
                  rintro E w2 ⟨rfl, v', wt2, mv, a2⟩
                  have hwn := wr_n m pos nn ((n : Int) + 2) (by rw [HM.out]; omega) (by rw [HM.out])
                  rw [hwn.1, hwn.2] at wt2
                  clear hwn
                  have hYb : Bytes (m.take (pos + nn)) := wt2.2.2.2.1
                  have hYl : (m.take (pos + nn)).length = pos + nn := by simp [HM.out]; omega
                  have HYL : Hid ((m.take (pos + nn)).length = pos + nn) := hYl
                  clear hYl
                  go_wp2_with fail
                  refine (out_any _ gw v' _ _ 0 (by exact wt2)).mono ?_
                  rintro E w3 ⟨y, rfl, oy, ny, a3⟩
                  rw [show wrOut (m.take (pos + nn)) 0 = m.take (pos + nn) from by unfold wrOut; rw [if_pos rfl]] at oy
                  obtain ⟨ya, yc, hyv, hyc, hyn, rowy, hyb, _⟩ := oy.row (by rw [HYL.out]; omega) hYb
                  rw [HYL.out] at hyv
                  subst hyv
                  have wt3 := wt2.away a3 (by simp) (by simp)
                  go_wp2_with fail
                  refine (out_any _ gw v' _ _ 0 (by exact wt3)).mono ?_
                  rintro E w4 ⟨z, rfl, oz, nz, a4⟩
                  rw [show wrOut (m.take (pos + nn)) 0 = m.take (pos + nn) from by unfold wrOut; rw [if_pos rfl]] at oz
                  obtain ⟨za, zc, hzv, hzc, hzn, rowz, hzb, _⟩ := oz.row (by rw [HYL.out]; omega) hYb
                  rw [HYL.out] at hzv
                  subst hzv
                  have z1 := a1.size
                  have z2 := a2.size
                  have z3 := a3.size
                  have lv : ∀ k ∈ fp gw v, k < wr.heap.size := fun k hk => by
                    simp only [fp, List.mem_cons, Option.mem_toList] at hk
                    rcases hk with rfl | hk
                    · exact ms.wt.lt.1
                    · exact ms.wt.lt.2 k hk
                  have rowx4 := (rowx.away a2 (fun y hy hm => by have h1 := nx _ (hxb y hy); have h2 := lv _ hm; omega)).away (a3.next a4 (by simp)) (by simp)
                  have ox4 := (ox.away a2 (fun k hk hm => by have h1 := nx _ hk; have h2 := lv _ hm; omega)).away (a3.next a4 (by simp)) (by simp)
                  have rowy4 := rowy.away a4 (by simp)
                  have A4 : Away ([gr] ++ fp gw v) wr w4 := (((a1.mono (T := [gr] ++ fp gw v) (by simp)).next (a2.mono (T := [gr] ++ fp gw v) (fun k hk => by simp [hk])) (fun k hk => .inl hk)).next a3 (by simp)).next a4 (by simp)
                  have aw4 := ms.aw.next A4 (fun k hk => .inr (by
                    simp only [List.cons_append, List.nil_append, List.mem_cons] at hk
                    rcases hk with rfl | hk
                    · exact ms.old
                    · exact (ms.s1 k (.inl hk)).2.2))
                  have rowm := hmr.away aw4 (by simp)
                  obtain ⟨A1, hA1⟩ : ∃ A, A = if cap = pos then a else a.map (·.add pos) := ⟨_, rfl⟩
                  have rowm1 := rowm.sub pos nn cap (by rw [HM.out]; omega) (by rw [HM.out]; omega)
                  rw [← hA1] at rowm1
                  have rowm2 := rowm.head (pos + nn)
                  have hpn : (pos : Int) + (nn : Int) = ((pos + nn : Nat) : Int) := by omega
                  have t1 := slice_lh a A1 n cap pos nn (pos : Int) ((pos : Int) + (nn : Int)) hA1 rfl rfl (by omega)
                  have t2 := slice_h a n cap (pos + nn) ((pos : Int) + (nn : Int)) (by omega) (by omega)
                  have hA1n : A1 = none → cap - pos = 0 := by
                    rw [hA1]; split
                    · intro h; omega
                    · intro h; have := ha (by simpa using h); omega
                  have HA1 : Hid (A1 = none → cap - pos = 0) := hA1n
                  clear hA1 hA1n hpn
                  go_wp2_with fail
                  refine (same_yes xa A1 ((m.drop pos).take nn) ((m.drop pos).take nn) _ _ _ _ _ HXL.out HXL.out hxn HA1.out (by exact rowx4) (by exact rowm1) rfl).mono ?_
                  rintro E w44 ⟨rfl, hw44⟩
                  have hw44 := hw44.symm
                  subst hw44
                  go_wp2_with fail
                  refine (same_yes ya a (m.take (pos + nn)) (m.take (pos + nn)) _ _ _ _ _ HYL.out HYL.out hyn ha (by exact rowy4) (by exact rowm2) rfl).mono ?_
                  rintro E w44 ⟨rfl, hw44⟩
                  have hw44 := hw44.symm
                  subst hw44
                  go_wp2_with fail
                  refine (same_yes ya za (m.take (pos + nn)) (m.take (pos + nn)) _ _ _ _ _ HYL.out HYL.out hyn hzn (by exact rowy4) (by exact rowz) rfl).mono ?_
                  rintro E w44 ⟨rfl, hw44⟩
                  have hw44 := hw44.symm
                  subst hw44
                  have oa4 := ms.oa.away A4 (fun k hk hm => by
                    simp only [List.cons_append, List.nil_append, List.mem_cons] at hm
                    rcases hm with h1 | h1
                    · exact (ms.s1 k (.inr (.inl (vb_mem.mpr hk)))).1 h1
                    · exact (ms.s2 k h1).1 (vb_mem.mpr hk))
                  have hPl : (P.map (·.1)).length ≤ 1000 := by simp; omega
                  have hPwl : (Pw.map (·.1)).length ≤ 1000 := by have := congrArg List.length ms.eq; simp at this; simp; omega
                  go_wp2_with (at_builtin; refine wpList_app44 rfl _ _ rfl _ (P.map (·.1)) (.slice xa nn xc) (.slice ya (pos + nn) yc) (.slice za (pos + nn) zc) rfl (by exact oa4.away ((Away.refl [] _).alloc _) (by simp)) ⟨w4.heap.size, 0, none⟩ rfl (three_cells w4 _ _ _ _ rfl) ⟨rfl, rfl, rfl⟩ hPl ?_)
                  intro ua' w5 oa5 wa
                  have a5 : Away (vb u7) w4 w5 := ((Away.refl _ w4).alloc _).grown wa.grown (fun k hk => .inl (vb_mem.mpr hk))
                  have ma : Moved w4 u7 ua' := fun k hk => by
                    rcases wa.moved k hk with h1 | h1
                    · exact .inl h1
                    · right; simp at h1; omega
                  have lua : ∀ k ∈ vb u7, k < wr.heap.size := fun k hk => ms.oa.lt k (vb_mem.mp hk)
                  have z4 := a4.size
                  have z5 := a5.size
                  have rowx5 := rowx4.away a5 (fun y hy hm => by have h1 := nx _ (hxb y hy); have h2 := lua _ hm; omega)
                  have rowy5 := rowy4.away a5 (fun y hy hm => by have h1 := ny _ (hyb y hy); have h2 := lua _ hm; omega)
                  have rowz5 := rowz.away a5 (fun y hy hm => by have h1 := nz _ (hzb y hy); have h2 := lua _ hm; omega)
                  clear rowx4 rowy4 rowz rowm rowm1 rowm2 wa oa4
                  go_wp2_with fail
                  refine (own_any xa ((m.drop pos).take nn) _ _ _ HXL.out (by exact rowx5)).mono ?_
                  rintro E w6 ⟨x', rfl, ox6, nx6, a6, _, _⟩
                  obtain ⟨xa', xn', xc', rfl⟩ := ox6.shape
                  go_wp2_with fail
                  refine (own_any ya (m.take (pos + nn)) _ _ _ HYL.out (by exact rowy5.away a6 (by simp))).mono ?_
                  rintro E w7 ⟨y', rfl, oy7, ny7, a7, _, _⟩
                  obtain ⟨ya', yn', yc', rfl⟩ := oy7.shape
                  go_wp2_with fail
                  refine (own_any za (m.take (pos + nn)) _ _ _ HYL.out (by exact rowz5.away (a6.next a7 (by simp)) (by simp))).mono ?_
                  rintro E w8 ⟨z', rfl, oz8, nz8, a8, _, _⟩
                  obtain ⟨za', zn', zc', rfl⟩ := oz8.shape
                  have z6 := a6.size
                  have z7 := a7.size
                  have z8 := a8.size
                  have A8 : Away ([gr] ++ fp gw v ++ vb u7) wr w8 := (((((A4.mono (T := [gr] ++ fp gw v ++ vb u7) (fun k hk => List.mem_append_left _ hk)).next (a5.mono (T := [gr] ++ fp gw v ++ vb u7) (fun k hk => List.mem_append_right _ hk)) (fun k hk => .inl hk)).next a6 (by simp)).next a7 (by simp)).next a8 (by simp))
                  have ow8 := ms.ow.away A8 (fun k hk hm => by
                    rcases List.mem_append.mp hm with hm | hm
                    · simp only [List.cons_append, List.nil_append, List.mem_cons] at hm
                      rcases hm with h1 | h1
                      · exact (ms.s1 k (.inr (.inr (.inl (vb_mem.mpr hk))))).1 h1
                      · exact (ms.s2 k h1).2.1 (vb_mem.mpr hk)
                    · exact (ms.s3 k hm).1 (vb_mem.mpr hk))
                  go_wp2_with (at_builtin; refine wpList_app44 rfl _ _ rfl _ (Pw.map (·.1)) (.slice xa' xn' xc') (.slice ya' yn' yc') (.slice za' zn' zc') rfl (by exact ow8.away ((Away.refl [] _).alloc _) (by simp)) ⟨w8.heap.size, 0, none⟩ rfl (three_cells w8 _ _ _ _ rfl) ⟨rfl, rfl, rfl⟩ hPwl ?_)
                  intro uw' w9 ow9 ww
                  have a9 : Away (vb u8) w8 w9 := ((Away.refl _ w8).alloc _).grown ww.grown (fun k hk => .inl (vb_mem.mpr hk))
                  have mw : Moved w8 u8 uw' := fun k hk => by
                    rcases ww.moved k hk with h1 | h1
                    · exact .inl h1
                    · right; simp at h1; omega
                  have ms2 := ms.step a1 rd1 ox nx a2 wt2 mv a3 oy ny a4 oz nz a5 oa5 ma a6 ox6 nx6 a7 oy7 ny7 a8 oz8 nz8 a9 ow9 mw ⟨bX, by rw [HXL.out]; omega⟩ ⟨hYb, by rw [HYL.out]; omega⟩ ⟨hYb, by rw [HYL.out]; omega⟩
                  clear ww a1 a2 a3 a4 a5 a6 a7 a8 a9 rd1 wt1 wt2 wt3 ox oy oz ox4 oa5 ox6 oy7 oz8 ow8 ow9 A4 A8 aw4 ma mw mv lv lua rowx5 rowy5 rowz5 rowx rowy
                  go_wp2_with fail
                  go_roundw
                  case rel => exact ⟨k + 1, pos + nn, _, _, v', by omega, by go_num, by omega, by have := HPN.out; simp; omega, ms2⟩
                  case measure => simp [intOf]; omega
      · by_cases hg1 : k < clen
        · have i1 : (k : Int) < (clen : Int) := by omega
          have i2 : ¬ ((k : Int) < 20) := by omega
          · have lot : LotAt wr u7 P := ⟨ms.oa, ms.con, ms.ap, fun k hk => (ms.s3 k (vb_mem.mpr hk)).2.1, hPn60⟩
            obtain ⟨ga, gn, gc, hu7, hgn⟩ : ∃ a n c, u7 = .slice a n c ∧ n = P.length := by
              rcases ms.oa.2 with ⟨h, h0⟩ | ⟨g, cp, cur, h, _⟩
              · exact ⟨_, _, _, h, by simpa using h0.symm⟩
              · exact ⟨_, _, _, h, by simp⟩
            obtain ⟨ha', hn', hc', hu8, hhn⟩ : ∃ a n c, u8 = .slice a n c ∧ n = P.length := by
              have he := congrArg List.length ms.eq
              simp at he
              rcases ms.ow.2 with ⟨h, h0⟩ | ⟨g, cp, cur, h, _⟩
              · refine ⟨_, _, _, h, ?_⟩
                have h1 : Pw.length = 0 := by rw [List.length_map] at h0; exact h0
                omega
              · exact ⟨_, _, _, h, by simp; omega⟩
            subst hu7
            subst hu8
            subst hgn
            subst hhn
            have HMS : Hid (MS w wr gr dr gw v (.slice ga P.length gc) (.slice ha' P.length hc') ((n : Int) + 2) m pos P Pw) := ms
            have HLOT : Hid (LotAt wr (.slice ga P.length gc) P) := lot
            clear ms lot
            go_wp2_with fail
            go_loopw [17] (fun i wq => ∃ j q : Nat, j ≤ P.length ∧ i = .int .i64 j ∧ wq = wr.drewN q) (fun i _ => P.length - (intOf i).toNat)
            case atStart => exact ⟨0, 0, by omega, rfl, rfl⟩
            case round =>
              obtain ⟨j, q, hj, rfl, rfl⟩ := hrel
              by_cases hjl : j < P.length
              · have ms := HMS.out
                have he := congrArg List.length ms.eq
                simp at he
                obtain ⟨p, hp⟩ : ∃ p, P[j]? = some p := ⟨_, List.getElem?_eq_getElem hjl⟩
                obtain ⟨r, hr'⟩ : ∃ r, Pw[j]? = some r := ⟨_, List.getElem?_eq_getElem (by omega)⟩
                have hpr : p.2 = r.2 := by
                  have := congrArg (fun l => l[j]?) ms.eq
                  simpa [hp, hr'] using this
                obtain ⟨op, bp, lp⟩ := ms.con j p hp
                obtain ⟨or', br, lr'⟩ := ms.conw j r hr'
                obtain ⟨pa, pc, hpv, _, hpn, rowp, _⟩ := op.row (by omega) bp
                obtain ⟨ra, rc, hrv, _, hrn, rowr, _⟩ := or'.row (by omega) br
                have cp : ∃ g, ga = some ⟨g, 0, none⟩ ∧ wr.cell? ⟨g, j, none⟩ = some p.1 := by
                  rcases ms.oa.2 with ⟨h, h0⟩ | ⟨g, cp, cur, h, _⟩
                  · simp at h0; rw [h0] at hjl; simp at hjl
                  · simp only [Value.slice.injEq] at h
                    obtain ⟨rfl, _, rfl⟩ := h
                    refine ⟨g, rfl, ?_⟩
                    rw [(OwnsG.cells ms.oa j (by simpa using hjl)).1, List.getElem?_map, hp]; rfl
                have cr : ∃ g, ha' = some ⟨g, 0, none⟩ ∧ wr.cell? ⟨g, j, none⟩ = some r.1 := by
                  rcases ms.ow.2 with ⟨h, h0⟩ | ⟨g, cp, cur, h, _⟩
                  · have h1 : Pw.length = 0 := by rw [List.length_map] at h0; exact h0
                    omega
                  · simp only [Value.slice.injEq] at h
                    obtain ⟨rfl, _, rfl⟩ := h
                    refine ⟨g, rfl, ?_⟩
                    rw [(OwnsG.cells ms.ow j (by simp; omega)).1, List.getElem?_map, hr']; rfl
                obtain ⟨g1, rfl, cp⟩ := cp
                obtain ⟨g2, rfl, cr⟩ := cr
                rw [hpv] at cp
                rw [hrv] at cr
                have HPR : Hid (p.2 = r.2) := hpr
                have HRR : Hid (Row wr pa p.2 ∧ Row wr ra r.2 ∧ (pa = none → pc = 0) ∧ (ra = none → rc = 0)) := ⟨rowp, rowr, hpn, hrn⟩
                have hj0 : (0 : Int) ≤ (j : Int) := by omega
                have hj1 : (j : Int) < (P.length : Int) := by omega
                clear ms op or' rowp rowr hpv hrv hpr hp hr' bp br he
                go_wp2_with fail
                go_quiet ((go_at_call 20; exact (same_yes pa ra p.2 r.2 _ _ _ _ _ rfl rfl HRR.out.2.2.1 HRR.out.2.2.2 (by exact HRR.out.1) (by exact HRR.out.2.1) HPR.out).mono (fun _ _ h => ⟨h.1, _, h.2⟩)))
                go_wp2_with fail
                go_roundw
                case rel => exact ⟨j + 1, _, by omega, by go_num, rfl⟩
                case measure => simp [intOf]; omega
              · have hjl' : ¬ ((j : Int) < (P.length : Int)) := by omega
                have hjl2 : decide (j < P.length) = false := by simp; omega
                go_wp2_with fail
                refine (marked_any _ _ P (by exact LotAt.drewN HLOT.out q)).mono ?_
                rintro E w20 ⟨vl, tl, rfl, still, nvl, aM, blk⟩
                have ms := HMS.out
                have aM : Away (bl P) wr w20 := aM.undrewN
                have hszw := aM.size
                have nvl : New wr.heap.size vl := nvl
                have blk : ∀ t ∈ tl, (∀ k, t.b.ownBlock = some k → k ∈ bl P) ∧ (∀ k, t.g.ownBlock = some k → k ∈ bl P ∨ wr.heap.size ≤ k) := blk
                have sP : ∀ x ∈ bl P, x ≠ gr ∧ x ≠ dr ∧ w.heap.size ≤ x := fun x hx => ms.s1 x (.inr (.inr (.inr (.inl hx))))
                have rd20 := ms.rd.away aM (fun hm => (sP gr hm).1 rfl) (fun hm => (sP dr hm).2.1 rfl)
                have wt20 := ms.wt.away aM (fun hm => (ms.s2 gw (fp_self _ _)).2.2.1 hm) (fun k hk hm => (ms.s2 k (fp_own hk)).2.2.1 hm)
                have aw20 := ms.aw.next aM (fun k hk => .inr (sP k hk).2.2)
                have lv : ∀ k ∈ fp gw v, k < wr.heap.size := fun k hk => by
                  simp only [fp, List.mem_cons, Option.mem_toList] at hk
                  rcases hk with rfl | hk
                  · exact ms.wt.lt.1
                  · exact ms.wt.lt.2 k hk
                have lgr := ms.rd.lt.1
                have svB : ∀ k ∈ fp gw v, w.heap.size ≤ k := fun k hk => (ms.s1 k (.inl hk)).2.2
                have svP : ∀ k ∈ fp gw v, k ∉ bl P ∧ k ≠ gr ∧ k ≠ dr := fun k hk => ⟨(ms.s2 k hk).2.2.1, (ms.s1 k (.inl hk)).1, (ms.s1 k (.inl hk)).2.1⟩
                have hgrB := ms.old
                have HKEEP : Hid (∀ (S : List Nat) (W W' : World), (∀ k ∈ S, k ∉ bl P ∧ k < wr.heap.size) → Away S W W' → Still W vl tl → Still W' vl tl) := by
                  intro S W W' hS hA hst'
                  refine Still.away hst' hA (fun k hk hm => by have h1 := nvl k hk; have h2 := (hS k hm).2; omega) (fun t ht => ⟨fun k hk hm => (hS k hm).1 ((blk t ht).1 k hk), fun k hk hm => ?_⟩)
                  rcases (blk t ht).2 k hk with h1 | h1
                  · exact (hS k hm).1 h1
                  · have := (hS k hm).2; omega
                have hgrP : gr ∉ bl P := fun hm => (sP gr hm).1 rfl
                have hpos1 : (pos : Int) ≤ (n : Int) := by omega
                have hsub : (n : Int) - ((n - pos : Nat) : Int) = (pos : Int) := by omega
                obtain ⟨Lf, hLf⟩ : ∃ Lf : Nat, Lf = n - pos := ⟨_, rfl⟩
                rw [← hLf] at HLD hsub
                have HLF : Hid (Lf = n - pos) := hLf
                clear hLf ms sP
                go_wp2_with fail
                refine (left_any _ gr dr _ 0 (by exact rd20)).mono ?_
                rintro E w44 ⟨rfl, hw44⟩
                have hw44 := hw44.symm
                subst hw44
                rw [HLD.out]
                go_wp2_with fail
                refine (out_any _ gw v _ _ 0 (by exact wt20)).mono ?_
                rintro E w21 ⟨y, rfl, oy, ny, a21⟩
                have hYb : Bytes (m.take pos) := wt20.2.2.2.1
                have HYL : Hid ((m.take pos).length = pos) := by show _ = _; simp [HM.out]; omega
                rw [show wrOut (m.take pos) 0 = m.take pos from by unfold wrOut; rw [if_pos rfl]] at oy
                obtain ⟨ya, yc, hyv, hyc, hyn, rowy, hyb, _⟩ := oy.row (by rw [HYL.out]; omega) hYb
                rw [HYL.out] at hyv
                subst hyv
                have rd21 := rd20.away a21 (by simp) (by simp)
                have wt21 := wt20.away a21 (by simp) (by simp)
                have st21 := HKEEP.out [] _ _ (by simp) a21 still
                have aw21 := aw20.next a21 (by simp)
                clear rd20 wt20 still aw20 oy
                go_wp2_with fail
                refine (left_any _ gr dr _ 0 (by exact rd21)).mono ?_
                rintro E w44 ⟨rfl, hw44⟩
                have hw44 := hw44.symm
                subst hw44
                rw [HLD.out]
                go_wp2_with fail
                refine (bytes_any _ gr dr _ 0 Lf (by exact rd21)).mono ?_
                rintro E w22 ⟨x, rfl, ox, nx, rd22, a22, bX, _⟩
                have hrn := rd_n m pos Lf (by rw [HM.out, HLF.out]; omega)
                rw [hrn.1] at ox bX
                rw [hrn.2.1, hrn.2.2, show pos + Lf = n from by rw [HLF.out]; omega, List.drop_eq_nil_of_le (by rw [HM.out]; omega)] at rd22
                clear hrn
                rw [List.take_of_length_le (by rw [HLD.out]; omega)] at ox bX
                obtain ⟨xa, xc, hxv, hxc, hxn, rowx, hxb, _⟩ := ox.row (by rw [HLD.out]; omega) bX
                rw [HLD.out] at hxv
                subst hxv
                have wt22 := wt21.away a22 (fun hm => by simp at hm; exact (svP gw (fp_self _ _)).2.1 hm) (fun k hk hm => by simp at hm; exact (svP k (fp_own hk)).2.1 hm)
                have st22 := HKEEP.out [gr] _ _ (fun k hk => by simp at hk; rw [hk]; exact ⟨hgrP, lgr⟩) a22 st21
                have aw22 := aw21.next a22 (by simpa using hgrB)
                have rowy22 := rowy.away a22 (fun y hy hm => by simp at hm; have h1 := ny _ (hyb y hy); omega)
                clear rd21 wt21 st21 aw21 ox
                go_wp2_with fail
                refine (w16_any _ gw v _ _ 0 258 (by exact wt22) (by omega) (by omega)).mono ?_
                rintro E w23 ⟨rfl, v', wt23, mv, a23⟩
                have hfit : ((m.take pos).length : Int) + (([258 / 256, 258 % 256] : List Int)).length ≤ (n : Int) + 2 := by rw [HYL.out]; simp; omega
                rw [show wrAll (m.take pos) 0 ((n : Int) + 2) [258 / 256, 258 % 256] = m.take pos ++ [1, 2] from by unfold wrAll; rw [if_pos ⟨rfl, hfit⟩]; rfl, show wrErr (m.take pos) 0 ((n : Int) + 2) 2 = 0 from by unfold wrErr; rw [if_pos rfl, if_pos (by simpa using hfit)]] at wt23
                have rd23 := rd22.away a23 (fun hm => (svP gr hm).2.1 rfl) (fun hm => (svP dr hm).2.2 rfl)
                have st23 := HKEEP.out (fp gw v) _ _ (fun k hk => ⟨(svP k hk).1, lv k hk⟩) a23 st22
                have aw23 := aw22.next a23 (fun k hk => .inr (svB k hk))
                have z21 := a21.size
                have z22 := a22.size
                have rowy23 := rowy22.away a23 (fun y hy hm => by have h1 := ny _ (hyb y hy); have h2 := lv _ hm; omega)
                have rowx23 := rowx.away a23 (fun y hy hm => by have h1 := nx _ (hxb y hy); have h2 := lv _ hm; omega)
                clear rd22 wt22 st22 aw22 rowy22
                go_wp2_with fail
                refine (out_any _ gw v' _ _ 0 (by exact wt23)).mono ?_
                rintro E w24 ⟨z, rfl, oz, nz, a24⟩
                have hZb : Bytes (m.take pos ++ [1, 2]) := wt23.2.2.2.1
                have HZL : Hid ((m.take pos ++ [1, 2]).length = pos + 2) := by show _ = _; rw [List.length_append, HYL.out]; rfl
                rw [show wrOut (m.take pos ++ [1, 2]) 0 = m.take pos ++ [1, 2] from by unfold wrOut; rw [if_pos rfl]] at oz
                obtain ⟨za, zc, hzv, hzc, hzn, rowz, hzb, _⟩ := oz.row (by rw [HZL.out]; omega) hZb
                rw [HZL.out] at hzv
                subst hzv
                have rd24 := rd23.away a24 (by simp) (by simp)
                have wt24 := wt23.away a24 (by simp) (by simp)
                have st24 := HKEEP.out [] _ _ (by simp) a24 st23
                have aw24 := aw23.next a24 (by simp)
                have rowy24 := rowy23.away a24 (by simp)
                have rowx24 := rowx23.away a24 (by simp)
                have rowm := hmr.away aw24 (by simp)
                obtain ⟨A1, hA1⟩ : ∃ A, A = if cap = pos then a else a.map (·.add pos) := ⟨_, rfl⟩
                have rowm1 := rowm.tail pos cap (by rw [HM.out]; omega) (by rw [HM.out]; omega)
                rw [← hA1] at rowm1
                have rowm2 := rowm.head pos
                have t1 := slice_l a A1 n cap pos (pos : Int) hA1 rfl (by omega)
                have t2 := slice_h a n cap pos (pos : Int) rfl (by omega)
                have hA1n : A1 = none → cap - pos = 0 := by
                  rw [hA1]; split
                  · intro h; omega
                  · intro h; have := ha (by simpa using h); omega
                have HA1 : Hid (A1 = none → cap - pos = 0) := hA1n
                have HLD2 : Hid ((m.drop pos).length = n - pos) := by show _ = _; rw [HLD.out, HLF.out]
                clear hA1 hA1n rd23 wt23 st23 aw23 oz hfit
                go_wp2_with fail
                refine (same_yes ya a (m.take pos) (m.take pos) _ _ _ _ _ HYL.out HYL.out hyn ha (by exact rowy24) (by exact rowm2) rfl).mono ?_
                rintro E w44 ⟨rfl, hw44⟩
                have hw44 := hw44.symm
                subst hw44
                go_wp2_with fail
                refine (same_yes xa A1 (m.drop pos) (m.drop pos) _ _ _ _ _ HLD.out HLD2.out hxn HA1.out (by exact rowx24) (by exact rowm1) rfl).mono ?_
                rintro E w44 ⟨rfl, hw44⟩
                have hw44 := hw44.symm
                subst hw44
                go_wp2_with fail
                refine (own_any a (m.take pos) _ _ _ HYL.out (by exact rowm2)).mono ?_
                rintro E w25 ⟨q1, rfl, oq, nq, a25, _, _⟩
                go_wp2_with (at_builtin; refine wpList_appG rfl _ _ rfl _ (m.take pos) [1, 2] rfl (by exact oq.away ((Away.refl [] _).alloc _) (by simp)) ⟨w25.heap.size, 0, none⟩ 2 2 rfl rfl (lit_cells _ [1, 2] _ rfl) (by rw [HYL.out]; omega) ?_)
                intro q2 w26 oq2 hgr26 hmov26
                have a26 := (a25.alloc (.cells #[.int .u8 1, .int .u8 2] 5)).grown hgr26 (fun k hk => .inr (nq k hk))
                obtain ⟨qa, qc, hqv, hqc, hqn, rowq, _⟩ := oq2.row (by rw [HZL.out]; omega) hZb
                rw [HZL.out] at hqv
                subst hqv
                have rowz26 := rowz.away a26 (by simp)
                have rd26 := rd24.away a26 (by simp) (by simp)
                have wt26 := wt24.away a26 (by simp) (by simp)
                have st26 := HKEEP.out [] _ _ (by simp) a26 st24
                have aw26 := aw24.next a26 (by simp)
                clear rd24 wt24 st24 aw24 rowm rowm1 rowm2 rowy24 rowx24 hgr26 hmov26 oq a25 oq2
                go_wp2_with fail
                refine (same_yes za qa (m.take pos ++ [1, 2]) (m.take pos ++ [1, 2]) _ _ _ _ _ HZL.out HZL.out hzn hqn (by exact rowz26) (by exact rowq) rfl).mono ?_
                rintro E w44 ⟨rfl, hw44⟩
                have hw44 := hw44.symm
                subst hw44
                go_wp2_with fail
                refine (still_any _ vl tl (by exact st26)).mono ?_
                rintro E w44 ⟨rfl, nst, hw44⟩
                have rd27 : Rd w44 gr dr [] 0 := by rw [hw44]; exact rd26.drewN nst
                have wt27 : Wr w44 gw v' ((n : Int) + 2) (m.take pos ++ [1, 2]) 0 := by rw [hw44]; exact wt26.drewN nst
                have aw27 : Away [] w w44 := by rw [hw44]; exact aw26.drewN nst
                clear hw44 rd26 wt26 aw26 st26
                go_wp2_with fail
                refine (end_any _ gr dr [] 0 (by exact rd27)).mono ?_
                rintro E w45 ⟨rfl, hw45⟩
                have hw45 := hw45.symm
                subst hw45
                rw [show rdEnd [] 0 = 0 from by decide]
                go_wp2_with fail
                refine (werr_any _ gw v' _ _ 0 (by exact wt27)).mono ?_
                rintro E w45 ⟨rfl, hw45⟩
                have hw45 := hw45.symm
                subst hw45
                go_wp2_with fail
                go_ret
                exact ⟨rfl, aw27.to_below⟩
        · have i1 : ¬ ((k : Int) < (clen : Int)) := by omega
          · have lot : LotAt wr u7 P := ⟨ms.oa, ms.con, ms.ap, fun k hk => (ms.s3 k (vb_mem.mpr hk)).2.1, hPn60⟩
            obtain ⟨ga, gn, gc, hu7, hgn⟩ : ∃ a n c, u7 = .slice a n c ∧ n = P.length := by
              rcases ms.oa.2 with ⟨h, h0⟩ | ⟨g, cp, cur, h, _⟩
              · exact ⟨_, _, _, h, by simpa using h0.symm⟩
              · exact ⟨_, _, _, h, by simp⟩
            obtain ⟨ha', hn', hc', hu8, hhn⟩ : ∃ a n c, u8 = .slice a n c ∧ n = P.length := by
              have he := congrArg List.length ms.eq
              simp at he
              rcases ms.ow.2 with ⟨h, h0⟩ | ⟨g, cp, cur, h, _⟩
              · refine ⟨_, _, _, h, ?_⟩
                have h1 : Pw.length = 0 := by rw [List.length_map] at h0; exact h0
                omega
              · exact ⟨_, _, _, h, by simp; omega⟩
            subst hu7
            subst hu8
            subst hgn
            subst hhn
            have HMS : Hid (MS w wr gr dr gw v (.slice ga P.length gc) (.slice ha' P.length hc') ((n : Int) + 2) m pos P Pw) := ms
            have HLOT : Hid (LotAt wr (.slice ga P.length gc) P) := lot
            clear ms lot
            go_wp2_with fail
            go_loopw [17] (fun i wq => ∃ j q : Nat, j ≤ P.length ∧ i = .int .i64 j ∧ wq = wr.drewN q) (fun i _ => P.length - (intOf i).toNat)
            case atStart => exact ⟨0, 0, by omega, rfl, rfl⟩
            case round =>
              obtain ⟨j, q, hj, rfl, rfl⟩ := hrel
              by_cases hjl : j < P.length
              · have ms := HMS.out
                have he := congrArg List.length ms.eq
                simp at he
                obtain ⟨p, hp⟩ : ∃ p, P[j]? = some p := ⟨_, List.getElem?_eq_getElem hjl⟩
                obtain ⟨r, hr'⟩ : ∃ r, Pw[j]? = some r := ⟨_, List.getElem?_eq_getElem (by omega)⟩
                have hpr : p.2 = r.2 := by
                  have := congrArg (fun l => l[j]?) ms.eq
                  simpa [hp, hr'] using this
                obtain ⟨op, bp, lp⟩ := ms.con j p hp
                obtain ⟨or', br, lr'⟩ := ms.conw j r hr'
                obtain ⟨pa, pc, hpv, _, hpn, rowp, _⟩ := op.row (by omega) bp
                obtain ⟨ra, rc, hrv, _, hrn, rowr, _⟩ := or'.row (by omega) br
                have cp : ∃ g, ga = some ⟨g, 0, none⟩ ∧ wr.cell? ⟨g, j, none⟩ = some p.1 := by
                  rcases ms.oa.2 with ⟨h, h0⟩ | ⟨g, cp, cur, h, _⟩
                  · simp at h0; rw [h0] at hjl; simp at hjl
                  · simp only [Value.slice.injEq] at h
                    obtain ⟨rfl, _, rfl⟩ := h
                    refine ⟨g, rfl, ?_⟩
                    rw [(OwnsG.cells ms.oa j (by simpa using hjl)).1, List.getElem?_map, hp]; rfl
                have cr : ∃ g, ha' = some ⟨g, 0, none⟩ ∧ wr.cell? ⟨g, j, none⟩ = some r.1 := by
                  rcases ms.ow.2 with ⟨h, h0⟩ | ⟨g, cp, cur, h, _⟩
                  · have h1 : Pw.length = 0 := by rw [List.length_map] at h0; exact h0
                    omega
                  · simp only [Value.slice.injEq] at h
                    obtain ⟨rfl, _, rfl⟩ := h
                    refine ⟨g, rfl, ?_⟩
                    rw [(OwnsG.cells ms.ow j (by simp; omega)).1, List.getElem?_map, hr']; rfl
                obtain ⟨g1, rfl, cp⟩ := cp
                obtain ⟨g2, rfl, cr⟩ := cr
                rw [hpv] at cp
                rw [hrv] at cr
                have HPR : Hid (p.2 = r.2) := hpr
                have HRR : Hid (Row wr pa p.2 ∧ Row wr ra r.2 ∧ (pa = none → pc = 0) ∧ (ra = none → rc = 0)) := ⟨rowp, rowr, hpn, hrn⟩
                have hj0 : (0 : Int) ≤ (j : Int) := by omega
                have hj1 : (j : Int) < (P.length : Int) := by omega
                clear ms op or' rowp rowr hpv hrv hpr hp hr' bp br he
                go_wp2_with fail
                go_quiet ((go_at_call 20; exact (same_yes pa ra p.2 r.2 _ _ _ _ _ rfl rfl HRR.out.2.2.1 HRR.out.2.2.2 (by exact HRR.out.1) (by exact HRR.out.2.1) HPR.out).mono (fun _ _ h => ⟨h.1, _, h.2⟩)))
                go_wp2_with fail
                go_roundw
                case rel => exact ⟨j + 1, _, by omega, by go_num, rfl⟩
                case measure => simp [intOf]; omega
              · have hjl' : ¬ ((j : Int) < (P.length : Int)) := by omega
                have hjl2 : decide (j < P.length) = false := by simp; omega
                go_wp2_with fail
                refine (marked_any _ _ P (by exact LotAt.drewN HLOT.out q)).mono ?_
                rintro E w20 ⟨vl, tl, rfl, still, nvl, aM, blk⟩
                have ms := HMS.out
                have aM : Away (bl P) wr w20 := aM.undrewN
                have hszw := aM.size
                have nvl : New wr.heap.size vl := nvl
                have blk : ∀ t ∈ tl, (∀ k, t.b.ownBlock = some k → k ∈ bl P) ∧ (∀ k, t.g.ownBlock = some k → k ∈ bl P ∨ wr.heap.size ≤ k) := blk
                have sP : ∀ x ∈ bl P, x ≠ gr ∧ x ≠ dr ∧ w.heap.size ≤ x := fun x hx => ms.s1 x (.inr (.inr (.inr (.inl hx))))
                have rd20 := ms.rd.away aM (fun hm => (sP gr hm).1 rfl) (fun hm => (sP dr hm).2.1 rfl)
                have wt20 := ms.wt.away aM (fun hm => (ms.s2 gw (fp_self _ _)).2.2.1 hm) (fun k hk hm => (ms.s2 k (fp_own hk)).2.2.1 hm)
                have aw20 := ms.aw.next aM (fun k hk => .inr (sP k hk).2.2)
                have lv : ∀ k ∈ fp gw v, k < wr.heap.size := fun k hk => by
                  simp only [fp, List.mem_cons, Option.mem_toList] at hk
                  rcases hk with rfl | hk
                  · exact ms.wt.lt.1
                  · exact ms.wt.lt.2 k hk
                have lgr := ms.rd.lt.1
                have svB : ∀ k ∈ fp gw v, w.heap.size ≤ k := fun k hk => (ms.s1 k (.inl hk)).2.2
                have svP : ∀ k ∈ fp gw v, k ∉ bl P ∧ k ≠ gr ∧ k ≠ dr := fun k hk => ⟨(ms.s2 k hk).2.2.1, (ms.s1 k (.inl hk)).1, (ms.s1 k (.inl hk)).2.1⟩
                have hgrB := ms.old
                have HKEEP : Hid (∀ (S : List Nat) (W W' : World), (∀ k ∈ S, k ∉ bl P ∧ k < wr.heap.size) → Away S W W' → Still W vl tl → Still W' vl tl) := by
                  intro S W W' hS hA hst'
                  refine Still.away hst' hA (fun k hk hm => by have h1 := nvl k hk; have h2 := (hS k hm).2; omega) (fun t ht => ⟨fun k hk hm => (hS k hm).1 ((blk t ht).1 k hk), fun k hk hm => ?_⟩)
                  rcases (blk t ht).2 k hk with h1 | h1
                  · exact (hS k hm).1 h1
                  · have := (hS k hm).2; omega
                have hgrP : gr ∉ bl P := fun hm => (sP gr hm).1 rfl
                have hpos1 : (pos : Int) ≤ (n : Int) := by omega
                have hsub : (n : Int) - ((n - pos : Nat) : Int) = (pos : Int) := by omega
                obtain ⟨Lf, hLf⟩ : ∃ Lf : Nat, Lf = n - pos := ⟨_, rfl⟩
                rw [← hLf] at HLD hsub
                have HLF : Hid (Lf = n - pos) := hLf
                clear hLf ms sP
                go_wp2_with fail
                refine (left_any _ gr dr _ 0 (by exact rd20)).mono ?_
                rintro E w44 ⟨rfl, hw44⟩
                have hw44 := hw44.symm
                subst hw44
                rw [HLD.out]
                go_wp2_with fail
                refine (out_any _ gw v _ _ 0 (by exact wt20)).mono ?_
                rintro E w21 ⟨y, rfl, oy, ny, a21⟩
                have hYb : Bytes (m.take pos) := wt20.2.2.2.1
                have HYL : Hid ((m.take pos).length = pos) := by show _ = _; simp [HM.out]; omega
                rw [show wrOut (m.take pos) 0 = m.take pos from by unfold wrOut; rw [if_pos rfl]] at oy
                obtain ⟨ya, yc, hyv, hyc, hyn, rowy, hyb, _⟩ := oy.row (by rw [HYL.out]; omega) hYb
                rw [HYL.out] at hyv
                subst hyv
                have rd21 := rd20.away a21 (by simp) (by simp)
                have wt21 := wt20.away a21 (by simp) (by simp)
                have st21 := HKEEP.out [] _ _ (by simp) a21 still
                have aw21 := aw20.next a21 (by simp)
                clear rd20 wt20 still aw20 oy
                go_wp2_with fail
                refine (left_any _ gr dr _ 0 (by exact rd21)).mono ?_
                rintro E w44 ⟨rfl, hw44⟩
                have hw44 := hw44.symm
                subst hw44
                rw [HLD.out]
                go_wp2_with fail
                refine (bytes_any _ gr dr _ 0 Lf (by exact rd21)).mono ?_
                rintro E w22 ⟨x, rfl, ox, nx, rd22, a22, bX, _⟩
                have hrn := rd_n m pos Lf (by rw [HM.out, HLF.out]; omega)
                rw [hrn.1] at ox bX
                rw [hrn.2.1, hrn.2.2, show pos + Lf = n from by rw [HLF.out]; omega, List.drop_eq_nil_of_le (by rw [HM.out]; omega)] at rd22
                clear hrn
                rw [List.take_of_length_le (by rw [HLD.out]; omega)] at ox bX
                obtain ⟨xa, xc, hxv, hxc, hxn, rowx, hxb, _⟩ := ox.row (by rw [HLD.out]; omega) bX
                rw [HLD.out] at hxv
                subst hxv
                have wt22 := wt21.away a22 (fun hm => by simp at hm; exact (svP gw (fp_self _ _)).2.1 hm) (fun k hk hm => by simp at hm; exact (svP k (fp_own hk)).2.1 hm)
                have st22 := HKEEP.out [gr] _ _ (fun k hk => by simp at hk; rw [hk]; exact ⟨hgrP, lgr⟩) a22 st21
                have aw22 := aw21.next a22 (by simpa using hgrB)
                have rowy22 := rowy.away a22 (fun y hy hm => by simp at hm; have h1 := ny _ (hyb y hy); omega)
                clear rd21 wt21 st21 aw21 ox
                go_wp2_with fail
                refine (w16_any _ gw v _ _ 0 258 (by exact wt22) (by omega) (by omega)).mono ?_
                rintro E w23 ⟨rfl, v', wt23, mv, a23⟩
                have hfit : ((m.take pos).length : Int) + (([258 / 256, 258 % 256] : List Int)).length ≤ (n : Int) + 2 := by rw [HYL.out]; simp; omega
                rw [show wrAll (m.take pos) 0 ((n : Int) + 2) [258 / 256, 258 % 256] = m.take pos ++ [1, 2] from by unfold wrAll; rw [if_pos ⟨rfl, hfit⟩]; rfl, show wrErr (m.take pos) 0 ((n : Int) + 2) 2 = 0 from by unfold wrErr; rw [if_pos rfl, if_pos (by simpa using hfit)]] at wt23
                have rd23 := rd22.away a23 (fun hm => (svP gr hm).2.1 rfl) (fun hm => (svP dr hm).2.2 rfl)
                have st23 := HKEEP.out (fp gw v) _ _ (fun k hk => ⟨(svP k hk).1, lv k hk⟩) a23 st22
                have aw23 := aw22.next a23 (fun k hk => .inr (svB k hk))
                have z21 := a21.size
                have z22 := a22.size
                have rowy23 := rowy22.away a23 (fun y hy hm => by have h1 := ny _ (hyb y hy); have h2 := lv _ hm; omega)
                have rowx23 := rowx.away a23 (fun y hy hm => by have h1 := nx _ (hxb y hy); have h2 := lv _ hm; omega)
                clear rd22 wt22 st22 aw22 rowy22
                go_wp2_with fail
                refine (out_any _ gw v' _ _ 0 (by exact wt23)).mono ?_
                rintro E w24 ⟨z, rfl, oz, nz, a24⟩
                have hZb : Bytes (m.take pos ++ [1, 2]) := wt23.2.2.2.1
                have HZL : Hid ((m.take pos ++ [1, 2]).length = pos + 2) := by show _ = _; rw [List.length_append, HYL.out]; rfl
                rw [show wrOut (m.take pos ++ [1, 2]) 0 = m.take pos ++ [1, 2] from by unfold wrOut; rw [if_pos rfl]] at oz
                obtain ⟨za, zc, hzv, hzc, hzn, rowz, hzb, _⟩ := oz.row (by rw [HZL.out]; omega) hZb
                rw [HZL.out] at hzv
                subst hzv
                have rd24 := rd23.away a24 (by simp) (by simp)
                have wt24 := wt23.away a24 (by simp) (by simp)
                have st24 := HKEEP.out [] _ _ (by simp) a24 st23
                have aw24 := aw23.next a24 (by simp)
                have rowy24 := rowy23.away a24 (by simp)
                have rowx24 := rowx23.away a24 (by simp)
                have rowm := hmr.away aw24 (by simp)
                obtain ⟨A1, hA1⟩ : ∃ A, A = if cap = pos then a else a.map (·.add pos) := ⟨_, rfl⟩
                have rowm1 := rowm.tail pos cap (by rw [HM.out]; omega) (by rw [HM.out]; omega)
                rw [← hA1] at rowm1
                have rowm2 := rowm.head pos
                have t1 := slice_l a A1 n cap pos (pos : Int) hA1 rfl (by omega)
                have t2 := slice_h a n cap pos (pos : Int) rfl (by omega)
                have hA1n : A1 = none → cap - pos = 0 := by
                  rw [hA1]; split
                  · intro h; omega
                  · intro h; have := ha (by simpa using h); omega
                have HA1 : Hid (A1 = none → cap - pos = 0) := hA1n
                have HLD2 : Hid ((m.drop pos).length = n - pos) := by show _ = _; rw [HLD.out, HLF.out]
                clear hA1 hA1n rd23 wt23 st23 aw23 oz hfit
                go_wp2_with fail
                refine (same_yes ya a (m.take pos) (m.take pos) _ _ _ _ _ HYL.out HYL.out hyn ha (by exact rowy24) (by exact rowm2) rfl).mono ?_
                rintro E w44 ⟨rfl, hw44⟩
                have hw44 := hw44.symm
                subst hw44
                go_wp2_with fail
                refine (same_yes xa A1 (m.drop pos) (m.drop pos) _ _ _ _ _ HLD.out HLD2.out hxn HA1.out (by exact rowx24) (by exact rowm1) rfl).mono ?_
                rintro E w44 ⟨rfl, hw44⟩
                have hw44 := hw44.symm
                subst hw44
                go_wp2_with fail
                refine (own_any a (m.take pos) _ _ _ HYL.out (by exact rowm2)).mono ?_
                rintro E w25 ⟨q1, rfl, oq, nq, a25, _, _⟩
                go_wp2_with (at_builtin; refine wpList_appG rfl _ _ rfl _ (m.take pos) [1, 2] rfl (by exact oq.away ((Away.refl [] _).alloc _) (by simp)) ⟨w25.heap.size, 0, none⟩ 2 2 rfl rfl (lit_cells _ [1, 2] _ rfl) (by rw [HYL.out]; omega) ?_)
                intro q2 w26 oq2 hgr26 hmov26
                have a26 := (a25.alloc (.cells #[.int .u8 1, .int .u8 2] 5)).grown hgr26 (fun k hk => .inr (nq k hk))
                obtain ⟨qa, qc, hqv, hqc, hqn, rowq, _⟩ := oq2.row (by rw [HZL.out]; omega) hZb
                rw [HZL.out] at hqv
                subst hqv
                have rowz26 := rowz.away a26 (by simp)
                have rd26 := rd24.away a26 (by simp) (by simp)
                have wt26 := wt24.away a26 (by simp) (by simp)
                have st26 := HKEEP.out [] _ _ (by simp) a26 st24
                have aw26 := aw24.next a26 (by simp)
                clear rd24 wt24 st24 aw24 rowm rowm1 rowm2 rowy24 rowx24 hgr26 hmov26 oq a25 oq2
                go_wp2_with fail
                refine (same_yes za qa (m.take pos ++ [1, 2]) (m.take pos ++ [1, 2]) _ _ _ _ _ HZL.out HZL.out hzn hqn (by exact rowz26) (by exact rowq) rfl).mono ?_
                rintro E w44 ⟨rfl, hw44⟩
                have hw44 := hw44.symm
                subst hw44
                go_wp2_with fail
                refine (still_any _ vl tl (by exact st26)).mono ?_
                rintro E w44 ⟨rfl, nst, hw44⟩
                have rd27 : Rd w44 gr dr [] 0 := by rw [hw44]; exact rd26.drewN nst
                have wt27 : Wr w44 gw v' ((n : Int) + 2) (m.take pos ++ [1, 2]) 0 := by rw [hw44]; exact wt26.drewN nst
                have aw27 : Away [] w w44 := by rw [hw44]; exact aw26.drewN nst
                clear hw44 rd26 wt26 aw26 st26
                go_wp2_with fail
                refine (end_any _ gr dr [] 0 (by exact rd27)).mono ?_
                rintro E w45 ⟨rfl, hw45⟩
                have hw45 := hw45.symm
                subst hw45
                rw [show rdEnd [] 0 = 0 from by decide]
                go_wp2_with fail
                refine (werr_any _ gw v' _ _ 0 (by exact wt27)).mono ?_
                rintro E w45 ⟨rfl, hw45⟩
                have hw45 := hw45.symm
                subst hw45
                go_wp2_with fail
                go_ret
                exact ⟨rfl, aw27.to_below⟩
  · have hbig' : decide ((2000 : Int) < (len : Int)) = false := by simp; omega
    have hbig2 : decide (2000 < len) = false := by simp; omega
    obtain ⟨n, hn⟩ : ∃ n : Nat, n = len := ⟨_, rfl⟩
    subst hn
    have hn4 : n ≤ 2000 := by omega
    have hnc : n ≤ cap := by omega
    have hmr := hr
    have HM : Hid (l.length = n) := hll
    clear hr hll
    revert hmr HM
    generalize l = m
    intro hmr HM
    go_enter Try.func4, Try.ntmps4
    go_wp2_with fail
    refine (alive_any _).mono ?_
    rintro E w1 ⟨rfl, aw1⟩
    have hr1 := hmr.away aw1 (by simp)
    go_wp2_with fail
    refine (own_any a m _ _ _ HM.out (by exact hr1)).mono ?_
    rintro E w2 ⟨v2, rfl, hown2, hnew2, haw2, hb2, hl2⟩
    obtain ⟨a2, cap2, hv2, hcap2, hnone2, hrow2, _⟩ := hown2.row hl2 hb2
    rw [HM.out] at hv2
    subst hv2
    go_wp2_with fail
    refine (newReader_any a2 m _ _ _ HM.out hnone2 (by exact hrow2)).mono ?_
    rintro E w3 ⟨gr, dr, rfl, hrd, hgr, hdr, haw3⟩
    have hA3 := (aw1.next haw2 (by simp)).next haw3 (by simp)
    have hs2 := (aw1.next haw2 (by simp)).size
    go_wp2_with fail
    refine (newWriter_any ((n : Int) + 2) _ (by omega) (by omega)).mono ?_
    rintro E w4 ⟨gw, v, rfl, hwr, hgw, hv, haw4⟩
    rw [show limOf ((n : Int) + 2) = (n : Int) + 2 from by unfold limOf; rw [if_neg (by omega), if_pos (by omega)]] at hwr
    have hlt := hrd.lt
    have hs3 := hA3.size
    have hst := ms_start (hA3.next haw4 (by simp)) (hrd.away haw4 (by simp) (by simp)) hwr hv (by omega) (by omega) (by omega) (by omega)
    clear hown2 hnew2 haw2 haw3 hrow2 hcap2 hnone2 hr1 hA3 hrd hwr hlt hs3 hs2 hgr hdr hgw haw4 aw1 hv
    go_wp2_with fail
    go_loopw [7, 8, 9] (fun ua uw i wr => ∃ (k pos : Nat) (P Pw : Lot) (v : Value), k ≤ 20 ∧ i = .int .i64 k ∧ pos ≤ n ∧ P.length = 3 * k ∧ MS w wr gr dr gw v ua uw ((n : Int) + 2) m pos P Pw) (fun _ _ i _ => 20 - (intOf i).toNat)
    case atStart => exact ⟨0, 0, [], [], v, by omega, rfl, by omega, rfl, hst⟩
    case round =>
      obtain ⟨k, pos, P, Pw, v, hk, rfl, hpos, hPn, ms⟩ := hrel
      have HPN : Hid (P.length = 3 * k) := hPn
      have hPn60 : P.length ≤ 60 := by omega
      clear hPn
      have HLD : Hid ((m.drop pos).length = n - pos) := by show _ = _; rw [List.length_drop, HM.out]
      by_cases hgo : k < clen ∧ k < 20
      · obtain ⟨hg1, hg2⟩ := hgo
        have i1 : (k : Int) < (clen : Int) := by omega
        have i2 : (k : Int) < 20 := by omega
        rcases HCC.out with h0 | ⟨cb, coff, rfl, hcell⟩
        · omega
        have c0 := ms.aw.cell (by simp) (hcell k hg1)
        obtain ⟨d, hd63, hand⟩ := and_63 (zs[k]?.getD 0)
        generalize zs[k]?.getD 0 = cz at *
        clear hcell
        obtain ⟨Lf, hLf⟩ : ∃ Lf : Nat, Lf = n - pos := ⟨_, rfl⟩
        rw [← hLf] at HLD
        have HLF : Hid (Lf + pos = n) := by show _ = _; omega
        clear hLf
        by_cases hdl : Lf < d
        · obtain ⟨nn, hnn⟩ : ∃ nn : Nat, nn = Lf := ⟨_, rfl⟩
          · · · · skip
                  have hnn2 : pos + nn ≤ n := by have := HLF.out; omega
                  have hdl1 : (Lf : Int) < (d : Int) := by omega
                  go_wp2_with fail
                  refine (left_any _ gr dr _ 0 (by exact ms.rd)).mono ?_
                  rintro E w44 ⟨rfl, hw44⟩
                  have hw44 := hw44.symm
                  subst hw44
                  rw [HLD.out]
                  go_wp2_with fail
                  refine (left_any _ gr dr _ 0 (by exact ms.rd)).mono ?_
                  rintro E w44 ⟨rfl, hw44⟩
                  have hw44 := hw44.symm
                  subst hw44
                  rw [HLD.out]
                  rw [show ((Lf : Nat) : Int) = (nn : Int) from by omega]
                  have HNN : Hid (nn = Lf) := hnn
                  clear hnn
                  have hsub : (n : Int) - (Lf : Int) = (pos : Int) := by have := HLF.out; omega
                  have hp1 : (pos : Int) ≤ (n : Int) := by omega
                  have hp2 : (pos : Int) + (nn : Int) ≤ (n : Int) := by omega
                  go_wp2_with fail
                  refine (left_any _ gr dr _ 0 (by exact ms.rd)).mono ?_
                  rintro E w44 ⟨rfl, hw44⟩
                  have hw44 := hw44.symm
                  subst hw44
                  rw [HLD.out]
                  go_wp2_with fail
                  refine (bytes_any _ gr dr _ 0 nn (by exact ms.rd)).mono ?_
                  rintro E w1 ⟨x, rfl, ox, nx, rd1, a1, bX, _⟩
                  have hrn := rd_n m pos nn (by rw [HM.out]; omega)
                  rw [hrn.1] at ox bX
                  rw [hrn.2.1, hrn.2.2] at rd1
                  clear hrn
                  have hXl : ((m.drop pos).take nn).length = nn := by simp [HM.out]; omega
                  have HXL : Hid (((m.drop pos).take nn).length = nn) := hXl
                  clear hXl
                  obtain ⟨xa, xc, hxv, hxc, hxn, rowx, hxb, _⟩ := ox.row (by rw [HXL.out]; omega) bX
                  rw [HXL.out] at hxv
                  subst hxv
                  have wt1 := ms.wt.away a1 (fun hm => by simp at hm; exact (ms.s1 gw (.inl (fp_self _ _))).1 hm) (fun k hk hm => by simp at hm; exact (ms.s1 k (.inl (fp_own hk))).1 hm)
                  go_wp2_with fail
                  refine (wbytes_any _ gw v _ _ 0 xa ((m.drop pos).take nn) nn xc (by exact wt1) HXL.out hxn (by exact rowx)).mono ?_
                  rintro E w2 ⟨rfl, v', wt2, mv, a2⟩
                  have hwn := wr_n m pos nn ((n : Int) + 2) (by rw [HM.out]; omega) (by rw [HM.out])
                  rw [hwn.1, hwn.2] at wt2
                  clear hwn
                  have hYb : Bytes (m.take (pos + nn)) := wt2.2.2.2.1
                  have hYl : (m.take (pos + nn)).length = pos + nn := by simp [HM.out]; omega
                  have HYL : Hid ((m.take (pos + nn)).length = pos + nn) := hYl
                  clear hYl
                  go_wp2_with fail
                  refine (out_any _ gw v' _ _ 0 (by exact wt2)).mono ?_
                  rintro E w3 ⟨y, rfl, oy, ny, a3⟩
                  rw [show wrOut (m.take (pos + nn)) 0 = m.take (pos + nn) from by unfold wrOut; rw [if_pos rfl]] at oy
                  obtain ⟨ya, yc, hyv, hyc, hyn, rowy, hyb, _⟩ := oy.row (by rw [HYL.out]; omega) hYb
                  rw [HYL.out] at hyv
                  subst hyv
                  have wt3 := wt2.away a3 (by simp) (by simp)
                  go_wp2_with fail
                  refine (out_any _ gw v' _ _ 0 (by exact wt3)).mono ?_
                  rintro E w4 ⟨z, rfl, oz, nz, a4⟩
                  rw [show wrOut (m.take (pos + nn)) 0 = m.take (pos + nn) from by unfold wrOut; rw [if_pos rfl]] at oz
                  obtain ⟨za, zc, hzv, hzc, hzn, rowz, hzb, _⟩ := oz.row (by rw [HYL.out]; omega) hYb
                  rw [HYL.out] at hzv
                  subst hzv
                  have z1 := a1.size
                  have z2 := a2.size
                  have z3 := a3.size
                  have lv : ∀ k ∈ fp gw v, k < wr.heap.size := fun k hk => by
                    simp only [fp, List.mem_cons, Option.mem_toList] at hk
                    rcases hk with rfl | hk
                    · exact ms.wt.lt.1
                    · exact ms.wt.lt.2 k hk
                  have rowx4 := (rowx.away a2 (fun y hy hm => by have h1 := nx _ (hxb y hy); have h2 := lv _ hm; omega)).away (a3.next a4 (by simp)) (by simp)
                  have ox4 := (ox.away a2 (fun k hk hm => by have h1 := nx _ hk; have h2 := lv _ hm; omega)).away (a3.next a4 (by simp)) (by simp)
                  have rowy4 := rowy.away a4 (by simp)
                  have A4 : Away ([gr] ++ fp gw v) wr w4 := (((a1.mono (T := [gr] ++ fp gw v) (by simp)).next (a2.mono (T := [gr] ++ fp gw v) (fun k hk => by simp [hk])) (fun k hk => .inl hk)).next a3 (by simp)).next a4 (by simp)
                  have aw4 := ms.aw.next A4 (fun k hk => .inr (by
                    simp only [List.cons_append, List.nil_append, List.mem_cons] at hk
                    rcases hk with rfl | hk
                    · exact ms.old
                    · exact (ms.s1 k (.inl hk)).2.2))
                  have rowm := hmr.away aw4 (by simp)
                  obtain ⟨A1, hA1⟩ : ∃ A, A = if cap = pos then a else a.map (·.add pos) := ⟨_, rfl⟩
                  have rowm1 := rowm.sub pos nn cap (by rw [HM.out]; omega) (by rw [HM.out]; omega)
                  rw [← hA1] at rowm1
                  have rowm2 := rowm.head (pos + nn)
                  have hpn : (pos : Int) + (nn : Int) = ((pos + nn : Nat) : Int) := by omega
                  have t1 := slice_lh a A1 n cap pos nn (pos : Int) ((pos : Int) + (nn : Int)) hA1 rfl rfl (by omega)
                  have t2 := slice_h a n cap (pos + nn) ((pos : Int) + (nn : Int)) (by omega) (by omega)
                  have hA1n : A1 = none → cap - pos = 0 := by
                    rw [hA1]; split
                    · intro h; omega
                    · intro h; have := ha (by simpa using h); omega
                  have HA1 : Hid (A1 = none → cap - pos = 0) := hA1n
                  clear hA1 hA1n hpn
                  go_wp2_with fail
                  refine (same_yes xa A1 ((m.drop pos).take nn) ((m.drop pos).take nn) _ _ _ _ _ HXL.out HXL.out hxn HA1.out (by exact rowx4) (by exact rowm1) rfl).mono ?_
                  rintro E w44 ⟨rfl, hw44⟩
                  have hw44 := hw44.symm
                  subst hw44
                  go_wp2_with fail
                  refine (same_yes ya a (m.take (pos + nn)) (m.take (pos + nn)) _ _ _ _ _ HYL.out HYL.out hyn ha (by exact rowy4) (by exact rowm2) rfl).mono ?_
                  rintro E w44 ⟨rfl, hw44⟩
                  have hw44 := hw44.symm
                  subst hw44
                  go_wp2_with fail
                  refine (same_yes ya za (m.take (pos + nn)) (m.take (pos + nn)) _ _ _ _ _ HYL.out HYL.out hyn hzn (by exact rowy4) (by exact rowz) rfl).mono ?_
                  rintro E w44 ⟨rfl, hw44⟩
                  have hw44 := hw44.symm
                  subst hw44
                  have oa4 := ms.oa.away A4 (fun k hk hm => by
                    simp only [List.cons_append, List.nil_append, List.mem_cons] at hm
                    rcases hm with h1 | h1
                    · exact (ms.s1 k (.inr (.inl (vb_mem.mpr hk)))).1 h1
                    · exact (ms.s2 k h1).1 (vb_mem.mpr hk))
                  have hPl : (P.map (·.1)).length ≤ 1000 := by simp; omega
                  have hPwl : (Pw.map (·.1)).length ≤ 1000 := by have := congrArg List.length ms.eq; simp at this; simp; omega
                  go_wp2_with (at_builtin; refine wpList_app44 rfl _ _ rfl _ (P.map (·.1)) (.slice xa nn xc) (.slice ya (pos + nn) yc) (.slice za (pos + nn) zc) rfl (by exact oa4.away ((Away.refl [] _).alloc _) (by simp)) ⟨w4.heap.size, 0, none⟩ rfl (three_cells w4 _ _ _ _ rfl) ⟨rfl, rfl, rfl⟩ hPl ?_)
                  intro ua' w5 oa5 wa
                  have a5 : Away (vb u7) w4 w5 := ((Away.refl _ w4).alloc _).grown wa.grown (fun k hk => .inl (vb_mem.mpr hk))
                  have ma : Moved w4 u7 ua' := fun k hk => by
                    rcases wa.moved k hk with h1 | h1
                    · exact .inl h1
                    · right; simp at h1; omega
                  have lua : ∀ k ∈ vb u7, k < wr.heap.size := fun k hk => ms.oa.lt k (vb_mem.mp hk)
                  have z4 := a4.size
                  have z5 := a5.size
                  have rowx5 := rowx4.away a5 (fun y hy hm => by have h1 := nx _ (hxb y hy); have h2 := lua _ hm; omega)
                  have rowy5 := rowy4.away a5 (fun y hy hm => by have h1 := ny _ (hyb y hy); have h2 := lua _ hm; omega)
                  have rowz5 := rowz.away a5 (fun y hy hm => by have h1 := nz _ (hzb y hy); have h2 := lua _ hm; omega)
                  clear rowx4 rowy4 rowz rowm rowm1 rowm2 wa oa4
                  go_wp2_with fail
                  refine (own_any xa ((m.drop pos).take nn) _ _ _ HXL.out (by exact rowx5)).mono ?_
                  rintro E w6 ⟨x', rfl, ox6, nx6, a6, _, _⟩
                  obtain ⟨xa', xn', xc', rfl⟩ := ox6.shape
                  go_wp2_with fail
                  refine (own_any ya (m.take (pos + nn)) _ _ _ HYL.out (by exact rowy5.away a6 (by simp))).mono ?_
                  rintro E w7 ⟨y', rfl, oy7, ny7, a7, _, _⟩
                  obtain ⟨ya', yn', yc', rfl⟩ := oy7.shape
                  go_wp2_with fail
                  refine (own_any za (m.take (pos + nn)) _ _ _ HYL.out (by exact rowz5.away (a6.next a7 (by simp)) (by simp))).mono ?_
                  rintro E w8 ⟨z', rfl, oz8, nz8, a8, _, _⟩
                  obtain ⟨za', zn', zc', rfl⟩ := oz8.shape
                  have z6 := a6.size
                  have z7 := a7.size
                  have z8 := a8.size
                  have A8 : Away ([gr] ++ fp gw v ++ vb u7) wr w8 := (((((A4.mono (T := [gr] ++ fp gw v ++ vb u7) (fun k hk => List.mem_append_left _ hk)).next (a5.mono (T := [gr] ++ fp gw v ++ vb u7) (fun k hk => List.mem_append_right _ hk)) (fun k hk => .inl hk)).next a6 (by simp)).next a7 (by simp)).next a8 (by simp))
                  have ow8 := ms.ow.away A8 (fun k hk hm => by
                    rcases List.mem_append.mp hm with hm | hm
                    · simp only [List.cons_append, List.nil_append, List.mem_cons] at hm
                      rcases hm with h1 | h1
                      · exact (ms.s1 k (.inr (.inr (.inl (vb_mem.mpr hk))))).1 h1
                      · exact (ms.s2 k h1).2.1 (vb_mem.mpr hk)
                    · exact (ms.s3 k hm).1 (vb_mem.mpr hk))
                  go_wp2_with (at_builtin; refine wpList_app44 rfl _ _ rfl _ (Pw.map (·.1)) (.slice xa' xn' xc') (.slice ya' yn' yc') (.slice za' zn' zc') rfl (by exact ow8.away ((Away.refl [] _).alloc _) (by simp)) ⟨w8.heap.size, 0, none⟩ rfl (three_cells w8 _ _ _ _ rfl) ⟨rfl, rfl, rfl⟩ hPwl ?_)
                  intro uw' w9 ow9 ww
                  have a9 : Away (vb u8) w8 w9 := ((Away.refl _ w8).alloc _).grown ww.grown (fun k hk => .inl (vb_mem.mpr hk))
                  have mw : Moved w8 u8 uw' := fun k hk => by
                    rcases ww.moved k hk with h1 | h1
                    · exact .inl h1
                    · right; simp at h1; omega
                  have ms2 := ms.step a1 rd1 ox nx a2 wt2 mv a3 oy ny a4 oz nz a5 oa5 ma a6 ox6 nx6 a7 oy7 ny7 a8 oz8 nz8 a9 ow9 mw ⟨bX, by rw [HXL.out]; omega⟩ ⟨hYb, by rw [HYL.out]; omega⟩ ⟨hYb, by rw [HYL.out]; omega⟩
                  clear ww a1 a2 a3 a4 a5 a6 a7 a8 a9 rd1 wt1 wt2 wt3 ox oy oz ox4 oa5 ox6 oy7 oz8 ow8 ow9 A4 A8 aw4 ma mw mv lv lua rowx5 rowy5 rowz5 rowx rowy
                  go_wp2_with fail
                  go_roundw
                  case rel => exact ⟨k + 1, pos + nn, _, _, v', by omega, by go_num, by omega, by have := HPN.out; simp; omega, ms2⟩
                  case measure => simp [intOf]; omega
        · obtain ⟨nn, hnn⟩ : ∃ nn : Nat, nn = d := ⟨_, rfl⟩
          · · · · subst hnn
                  have hnn2 : pos + nn ≤ n := by have := HLF.out; omega
                  have hdl1 : ¬ ((Lf : Int) < (nn : Int)) := by omega
                  go_wp2_with fail
                  refine (left_any _ gr dr _ 0 (by exact ms.rd)).mono ?_
                  rintro E w44 ⟨rfl, hw44⟩
                  have hw44 := hw44.symm
                  subst hw44
                  rw [HLD.out]
                  have hsub : (n : Int) - (Lf : Int) = (pos : Int) := by have := HLF.out; omega
                  have hp1 : (pos : Int) ≤ (n : Int) := by omega
                  have hp2 : (pos : Int) + (nn : Int) ≤ (n : Int) := by omega
                  go_wp2_with fail
                  refine (left_any _ gr dr _ 0 (by exact ms.rd)).mono ?_
                  rintro E w44 ⟨rfl, hw44⟩
                  have hw44 := hw44.symm
                  subst hw44
                  rw [HLD.out]
                  go_wp2_with fail
                  refine (bytes_any _ gr dr _ 0 nn (by exact ms.rd)).mono ?_
                  rintro E w1 ⟨x, rfl, ox, nx, rd1, a1, bX, _⟩
                  have hrn := rd_n m pos nn (by rw [HM.out]; omega)
                  rw [hrn.1] at ox bX
                  rw [hrn.2.1, hrn.2.2] at rd1
                  clear hrn
                  have hXl : ((m.drop pos).take nn).length = nn := by simp [HM.out]; omega
                  have HXL : Hid (((m.drop pos).take nn).length = nn) := hXl
                  clear hXl
                  obtain ⟨xa, xc, hxv, hxc, hxn, rowx, hxb, _⟩ := ox.row (by rw [HXL.out]; omega) bX
                  rw [HXL.out] at hxv
                  subst hxv
                  have wt1 := ms.wt.away a1 (fun hm => by simp at hm; exact (ms.s1 gw (.inl (fp_self _ _))).1 hm) (fun k hk hm => by simp at hm; exact (ms.s1 k (.inl (fp_own hk))).1 hm)
                  go_wp2_with fail
                  refine (wbytes_any _ gw v _ _ 0 xa ((m.drop pos).take nn) nn xc (by exact wt1) HXL.out hxn (by exact rowx)).mono ?_
                  rintro E w2 ⟨rfl, v', wt2, mv, a2⟩
                  have hwn := wr_n m pos nn ((n : Int) + 2) (by rw [HM.out]; omega) (by rw [HM.out])
                  rw [hwn.1, hwn.2] at wt2
                  clear hwn
                  have hYb : Bytes (m.take (pos + nn)) := wt2.2.2.2.1
                  have hYl : (m.take (pos + nn)).length = pos + nn := by simp [HM.out]; omega
                  have HYL : Hid ((m.take (pos + nn)).length = pos + nn) := hYl
                  clear hYl
                  go_wp2_with fail
                  refine (out_any _ gw v' _ _ 0 (by exact wt2)).mono ?_
                  rintro E w3 ⟨y, rfl, oy, ny, a3⟩
                  rw [show wrOut (m.take (pos + nn)) 0 = m.take (pos + nn) from by unfold wrOut; rw [if_pos rfl]] at oy
                  obtain ⟨ya, yc, hyv, hyc, hyn, rowy, hyb, _⟩ := oy.row (by rw [HYL.out]; omega) hYb
                  rw [HYL.out] at hyv
                  subst hyv
                  have wt3 := wt2.away a3 (by simp) (by simp)
                  go_wp2_with fail
                  refine (out_any _ gw v' _ _ 0 (by exact wt3)).mono ?_
                  rintro E w4 ⟨z, rfl, oz, nz, a4⟩
                  rw [show wrOut (m.take (pos + nn)) 0 = m.take (pos + nn) from by unfold wrOut; rw [if_pos rfl]] at oz
                  obtain ⟨za, zc, hzv, hzc, hzn, rowz, hzb, _⟩ := oz.row (by rw [HYL.out]; omega) hYb
                  rw [HYL.out] at hzv
                  subst hzv
                  have z1 := a1.size
                  have z2 := a2.size
                  have z3 := a3.size
                  have lv : ∀ k ∈ fp gw v, k < wr.heap.size := fun k hk => by
                    simp only [fp, List.mem_cons, Option.mem_toList] at hk
                    rcases hk with rfl | hk
                    · exact ms.wt.lt.1
                    · exact ms.wt.lt.2 k hk
                  have rowx4 := (rowx.away a2 (fun y hy hm => by have h1 := nx _ (hxb y hy); have h2 := lv _ hm; omega)).away (a3.next a4 (by simp)) (by simp)
                  have ox4 := (ox.away a2 (fun k hk hm => by have h1 := nx _ hk; have h2 := lv _ hm; omega)).away (a3.next a4 (by simp)) (by simp)
                  have rowy4 := rowy.away a4 (by simp)
                  have A4 : Away ([gr] ++ fp gw v) wr w4 := (((a1.mono (T := [gr] ++ fp gw v) (by simp)).next (a2.mono (T := [gr] ++ fp gw v) (fun k hk => by simp [hk])) (fun k hk => .inl hk)).next a3 (by simp)).next a4 (by simp)
                  have aw4 := ms.aw.next A4 (fun k hk => .inr (by
                    simp only [List.cons_append, List.nil_append, List.mem_cons] at hk
                    rcases hk with rfl | hk
                    · exact ms.old
                    · exact (ms.s1 k (.inl hk)).2.2))
                  have rowm := hmr.away aw4 (by simp)
                  obtain ⟨A1, hA1⟩ : ∃ A, A = if cap = pos then a else a.map (·.add pos) := ⟨_, rfl⟩
                  have rowm1 := rowm.sub pos nn cap (by rw [HM.out]; omega) (by rw [HM.out]; omega)
                  rw [← hA1] at rowm1
                  have rowm2 := rowm.head (pos + nn)
                  have hpn : (pos : Int) + (nn : Int) = ((pos + nn : Nat) : Int) := by omega
                  have t1 := slice_lh a A1 n cap pos nn (pos : Int) ((pos : Int) + (nn : Int)) hA1 rfl rfl (by omega)
                  have t2 := slice_h a n cap (pos + nn) ((pos : Int) + (nn : Int)) (by omega) (by omega)
                  have hA1n : A1 = none → cap - pos = 0 := by
                    rw [hA1]; split
                    · intro h; omega
                    · intro h; have := ha (by simpa using h); omega
                  have HA1 : Hid (A1 = none → cap - pos = 0) := hA1n
                  clear hA1 hA1n hpn
                  go_wp2_with fail
                  refine (same_yes xa A1 ((m.drop pos).take nn) ((m.drop pos).take nn) _ _ _ _ _ HXL.out HXL.out hxn HA1.out (by exact rowx4) (by exact rowm1) rfl).mono ?_
                  rintro E w44 ⟨rfl, hw44⟩
                  have hw44 := hw44.symm
                  subst hw44
                  go_wp2_with fail
                  refine (same_yes ya a (m.take (pos + nn)) (m.take (pos + nn)) _ _ _ _ _ HYL.out HYL.out hyn ha (by exact rowy4) (by exact rowm2) rfl).mono ?_
                  rintro E w44 ⟨rfl, hw44⟩
                  have hw44 := hw44.symm
                  subst hw44
                  go_wp2_with fail
                  refine (same_yes ya za (m.take (pos + nn)) (m.take (pos + nn)) _ _ _ _ _ HYL.out HYL.out hyn hzn (by exact rowy4) (by exact rowz) rfl).mono ?_
                  rintro E w44 ⟨rfl, hw44⟩
                  have hw44 := hw44.symm
                  subst hw44
                  have oa4 := ms.oa.away A4 (fun k hk hm => by
                    simp only [List.cons_append, List.nil_append, List.mem_cons] at hm
                    rcases hm with h1 | h1
                    · exact (ms.s1 k (.inr (.inl (vb_mem.mpr hk)))).1 h1
                    · exact (ms.s2 k h1).1 (vb_mem.mpr hk))
                  have hPl : (P.map (·.1)).length ≤ 1000 := by simp; omega
                  have hPwl : (Pw.map (·.1)).length ≤ 1000 := by have := congrArg List.length ms.eq; simp at this; simp; omega
                  go_wp2_with (at_builtin; refine wpList_app44 rfl _ _ rfl _ (P.map (·.1)) (.slice xa nn xc) (.slice ya (pos + nn) yc) (.slice za (pos + nn) zc) rfl (by exact oa4.away ((Away.refl [] _).alloc _) (by simp)) ⟨w4.heap.size, 0, none⟩ rfl (three_cells w4 _ _ _ _ rfl) ⟨rfl, rfl, rfl⟩ hPl ?_)
                  intro ua' w5 oa5 wa
                  have a5 : Away (vb u7) w4 w5 := ((Away.refl _ w4).alloc _).grown wa.grown (fun k hk => .inl (vb_mem.mpr hk))
                  have ma : Moved w4 u7 ua' := fun k hk => by
                    rcases wa.moved k hk with h1 | h1
                    · exact .inl h1
                    · right; simp at h1; omega
                  have lua : ∀ k ∈ vb u7, k < wr.heap.size := fun k hk => ms.oa.lt k (vb_mem.mp hk)
                  have z4 := a4.size
                  have z5 := a5.size
                  have rowx5 := rowx4.away a5 (fun y hy hm => by have h1 := nx _ (hxb y hy); have h2 := lua _ hm; omega)
                  have rowy5 := rowy4.away a5 (fun y hy hm => by have h1 := ny _ (hyb y hy); have h2 := lua _ hm; omega)
                  have rowz5 := rowz.away a5 (fun y hy hm => by have h1 := nz _ (hzb y hy); have h2 := lua _ hm; omega)
                  clear rowx4 rowy4 rowz rowm rowm1 rowm2 wa oa4
                  go_wp2_with fail
                  refine (own_any xa ((m.drop pos).take nn) _ _ _ HXL.out (by exact rowx5)).mono ?_
                  rintro E w6 ⟨x', rfl, ox6, nx6, a6, _, _⟩
                  obtain ⟨xa', xn', xc', rfl⟩ := ox6.shape
                  go_wp2_with fail
                  refine (own_any ya (m.take (pos + nn)) _ _ _ HYL.out (by exact rowy5.away a6 (by simp))).mono ?_
                  rintro E w7 ⟨y', rfl, oy7, ny7, a7, _, _⟩
                  obtain ⟨ya', yn', yc', rfl⟩ := oy7.shape
                  go_wp2_with fail
                  refine (own_any za (m.take (pos + nn)) _ _ _ HYL.out (by exact rowz5.away (a6.next a7 (by simp)) (by simp))).mono ?_
                  rintro E w8 ⟨z', rfl, oz8, nz8, a8, _, _⟩
                  obtain ⟨za', zn', zc', rfl⟩ := oz8.shape
                  have z6 := a6.size
                  have z7 := a7.size
                  have z8 := a8.size
                  have A8 : Away ([gr] ++ fp gw v ++ vb u7) wr w8 := (((((A4.mono (T := [gr] ++ fp gw v ++ vb u7) (fun k hk => List.mem_append_left _ hk)).next (a5.mono (T := [gr] ++ fp gw v ++ vb u7) (fun k hk => List.mem_append_right _ hk)) (fun k hk => .inl hk)).next a6 (by simp)).next a7 (by simp)).next a8 (by simp))
                  have ow8 := ms.ow.away A8 (fun k hk hm => by
                    rcases List.mem_append.mp hm with hm | hm
                    · simp only [List.cons_append, List.nil_append, List.mem_cons] at hm
                      rcases hm with h1 | h1
                      · exact (ms.s1 k (.inr (.inr (.inl (vb_mem.mpr hk))))).1 h1
                      · exact (ms.s2 k h1).2.1 (vb_mem.mpr hk)
                    · exact (ms.s3 k hm).1 (vb_mem.mpr hk))
                  go_wp2_with (at_builtin; refine wpList_app44 rfl _ _ rfl _ (Pw.map (·.1)) (.slice xa' xn' xc') (.slice ya' yn' yc') (.slice za' zn' zc') rfl (by exact ow8.away ((Away.refl [] _).alloc _) (by simp)) ⟨w8.heap.size, 0, none⟩ rfl (three_cells w8 _ _ _ _ rfl) ⟨rfl, rfl, rfl⟩ hPwl ?_)
                  intro uw' w9 ow9 ww
                  have a9 : Away (vb u8) w8 w9 := ((Away.refl _ w8).alloc _).grown ww.grown (fun k hk => .inl (vb_mem.mpr hk))
                  have mw : Moved w8 u8 uw' := fun k hk => by
                    rcases ww.moved k hk with h1 | h1
                    · exact .inl h1
                    · right; simp at h1; omega
                  have ms2 := ms.step a1 rd1 ox nx a2 wt2 mv a3 oy ny a4 oz nz a5 oa5 ma a6 ox6 nx6 a7 oy7 ny7 a8 oz8 nz8 a9 ow9 mw ⟨bX, by rw [HXL.out]; omega⟩ ⟨hYb, by rw [HYL.out]; omega⟩ ⟨hYb, by rw [HYL.out]; omega⟩
                  clear ww a1 a2 a3 a4 a5 a6 a7 a8 a9 rd1 wt1 wt2 wt3 ox oy oz ox4 oa5 ox6 oy7 oz8 ow8 ow9 A4 A8 aw4 ma mw mv lv lua rowx5 rowy5 rowz5 rowx rowy
                  go_wp2_with fail
                  go_roundw
                  case rel => exact ⟨k + 1, pos + nn, _, _, v', by omega, by go_num, by omega, by have := HPN.out; simp; omega, ms2⟩
                  case measure => simp [intOf]; omega
      · by_cases hg1 : k < clen
        · have i1 : (k : Int) < (clen : Int) := by omega
          have i2 : ¬ ((k : Int) < 20) := by omega
          · have lot : LotAt wr u7 P := ⟨ms.oa, ms.con, ms.ap, fun k hk => (ms.s3 k (vb_mem.mpr hk)).2.1, hPn60⟩
            obtain ⟨ga, gn, gc, hu7, hgn⟩ : ∃ a n c, u7 = .slice a n c ∧ n = P.length := by
              rcases ms.oa.2 with ⟨h, h0⟩ | ⟨g, cp, cur, h, _⟩
              · exact ⟨_, _, _, h, by simpa using h0.symm⟩
              · exact ⟨_, _, _, h, by simp⟩
            obtain ⟨ha', hn', hc', hu8, hhn⟩ : ∃ a n c, u8 = .slice a n c ∧ n = P.length := by
              have he := congrArg List.length ms.eq
              simp at he
              rcases ms.ow.2 with ⟨h, h0⟩ | ⟨g, cp, cur, h, _⟩
              · refine ⟨_, _, _, h, ?_⟩
                have h1 : Pw.length = 0 := by rw [List.length_map] at h0; exact h0
                omega
              · exact ⟨_, _, _, h, by simp; omega⟩
            subst hu7
            subst hu8
            subst hgn
            subst hhn
            have HMS : Hid (MS w wr gr dr gw v (.slice ga P.length gc) (.slice ha' P.length hc') ((n : Int) + 2) m pos P Pw) := ms
            have HLOT : Hid (LotAt wr (.slice ga P.length gc) P) := lot
            clear ms lot
            go_wp2_with fail
            go_loopw [17] (fun i wq => ∃ j q : Nat, j ≤ P.length ∧ i = .int .i64 j ∧ wq = wr.drewN q) (fun i _ => P.length - (intOf i).toNat)
            case atStart => exact ⟨0, 0, by omega, rfl, rfl⟩
            case round =>
              obtain ⟨j, q, hj, rfl, rfl⟩ := hrel
              by_cases hjl : j < P.length
              · have ms := HMS.out
                have he := congrArg List.length ms.eq
                simp at he
                obtain ⟨p, hp⟩ : ∃ p, P[j]? = some p := ⟨_, List.getElem?_eq_getElem hjl⟩
                obtain ⟨r, hr'⟩ : ∃ r, Pw[j]? = some r := ⟨_, List.getElem?_eq_getElem (by omega)⟩
                have hpr : p.2 = r.2 := by
                  have := congrArg (fun l => l[j]?) ms.eq
                  simpa [hp, hr'] using this
                obtain ⟨op, bp, lp⟩ := ms.con j p hp
                obtain ⟨or', br, lr'⟩ := ms.conw j r hr'
                obtain ⟨pa, pc, hpv, _, hpn, rowp, _⟩ := op.row (by omega) bp
                obtain ⟨ra, rc, hrv, _, hrn, rowr, _⟩ := or'.row (by omega) br
                have cp : ∃ g, ga = some ⟨g, 0, none⟩ ∧ wr.cell? ⟨g, j, none⟩ = some p.1 := by
                  rcases ms.oa.2 with ⟨h, h0⟩ | ⟨g, cp, cur, h, _⟩
                  · simp at h0; rw [h0] at hjl; simp at hjl
                  · simp only [Value.slice.injEq] at h
                    obtain ⟨rfl, _, rfl⟩ := h
                    refine ⟨g, rfl, ?_⟩
                    rw [(OwnsG.cells ms.oa j (by simpa using hjl)).1, List.getElem?_map, hp]; rfl
                have cr : ∃ g, ha' = some ⟨g, 0, none⟩ ∧ wr.cell? ⟨g, j, none⟩ = some r.1 := by
                  rcases ms.ow.2 with ⟨h, h0⟩ | ⟨g, cp, cur, h, _⟩
                  · have h1 : Pw.length = 0 := by rw [List.length_map] at h0; exact h0
                    omega
                  · simp only [Value.slice.injEq] at h
                    obtain ⟨rfl, _, rfl⟩ := h
                    refine ⟨g, rfl, ?_⟩
                    rw [(OwnsG.cells ms.ow j (by simp; omega)).1, List.getElem?_map, hr']; rfl
                obtain ⟨g1, rfl, cp⟩ := cp
                obtain ⟨g2, rfl, cr⟩ := cr
                rw [hpv] at cp
                rw [hrv] at cr
                have HPR : Hid (p.2 = r.2) := hpr
                have HRR : Hid (Row wr pa p.2 ∧ Row wr ra r.2 ∧ (pa = none → pc = 0) ∧ (ra = none → rc = 0)) := ⟨rowp, rowr, hpn, hrn⟩
                have hj0 : (0 : Int) ≤ (j : Int) := by omega
                have hj1 : (j : Int) < (P.length : Int) := by omega
                clear ms op or' rowp rowr hpv hrv hpr hp hr' bp br he
                go_wp2_with fail
                go_quiet ((go_at_call 20; exact (same_yes pa ra p.2 r.2 _ _ _ _ _ rfl rfl HRR.out.2.2.1 HRR.out.2.2.2 (by exact HRR.out.1) (by exact HRR.out.2.1) HPR.out).mono (fun _ _ h => ⟨h.1, _, h.2⟩)))
                go_wp2_with fail
                go_roundw
                case rel => exact ⟨j + 1, _, by omega, by go_num, rfl⟩
                case measure => simp [intOf]; omega
              · have hjl' : ¬ ((j : Int) < (P.length : Int)) := by omega
                have hjl2 : decide (j < P.length) = false := by simp; omega
                go_wp2_with fail
                refine (marked_any _ _ P (by exact LotAt.drewN HLOT.out q)).mono ?_
                rintro E w20 ⟨vl, tl, rfl, still, nvl, aM, blk⟩
                have ms := HMS.out
                have aM : Away (bl P) wr w20 := aM.undrewN
                have hszw := aM.size
                have nvl : New wr.heap.size vl := nvl
                have blk : ∀ t ∈ tl, (∀ k, t.b.ownBlock = some k → k ∈ bl P) ∧ (∀ k, t.g.ownBlock = some k → k ∈ bl P ∨ wr.heap.size ≤ k) := blk
                have sP : ∀ x ∈ bl P, x ≠ gr ∧ x ≠ dr ∧ w.heap.size ≤ x := fun x hx => ms.s1 x (.inr (.inr (.inr (.inl hx))))
                have rd20 := ms.rd.away aM (fun hm => (sP gr hm).1 rfl) (fun hm => (sP dr hm).2.1 rfl)
                have wt20 := ms.wt.away aM (fun hm => (ms.s2 gw (fp_self _ _)).2.2.1 hm) (fun k hk hm => (ms.s2 k (fp_own hk)).2.2.1 hm)
                have aw20 := ms.aw.next aM (fun k hk => .inr (sP k hk).2.2)
                have lv : ∀ k ∈ fp gw v, k < wr.heap.size := fun k hk => by
                  simp only [fp, List.mem_cons, Option.mem_toList] at hk
                  rcases hk with rfl | hk
                  · exact ms.wt.lt.1
                  · exact ms.wt.lt.2 k hk
                have lgr := ms.rd.lt.1
                have svB : ∀ k ∈ fp gw v, w.heap.size ≤ k := fun k hk => (ms.s1 k (.inl hk)).2.2
                have svP : ∀ k ∈ fp gw v, k ∉ bl P ∧ k ≠ gr ∧ k ≠ dr := fun k hk => ⟨(ms.s2 k hk).2.2.1, (ms.s1 k (.inl hk)).1, (ms.s1 k (.inl hk)).2.1⟩
                have hgrB := ms.old
                have HKEEP : Hid (∀ (S : List Nat) (W W' : World), (∀ k ∈ S, k ∉ bl P ∧ k < wr.heap.size) → Away S W W' → Still W vl tl → Still W' vl tl) := by
                  intro S W W' hS hA hst'
                  refine Still.away hst' hA (fun k hk hm => by have h1 := nvl k hk; have h2 := (hS k hm).2; omega) (fun t ht => ⟨fun k hk hm => (hS k hm).1 ((blk t ht).1 k hk), fun k hk hm => ?_⟩)
                  rcases (blk t ht).2 k hk with h1 | h1
                  · exact (hS k hm).1 h1
                  · have := (hS k hm).2; omega
                have hgrP : gr ∉ bl P := fun hm => (sP gr hm).1 rfl
                have hpos1 : (pos : Int) ≤ (n : Int) := by omega
                have hsub : (n : Int) - ((n - pos : Nat) : Int) = (pos : Int) := by omega
                obtain ⟨Lf, hLf⟩ : ∃ Lf : Nat, Lf = n - pos := ⟨_, rfl⟩
                rw [← hLf] at HLD hsub
                have HLF : Hid (Lf = n - pos) := hLf
                clear hLf ms sP
                go_wp2_with fail
                refine (left_any _ gr dr _ 0 (by exact rd20)).mono ?_
                rintro E w44 ⟨rfl, hw44⟩
                have hw44 := hw44.symm
                subst hw44
                rw [HLD.out]
                go_wp2_with fail
                refine (out_any _ gw v _ _ 0 (by exact wt20)).mono ?_
                rintro E w21 ⟨y, rfl, oy, ny, a21⟩
                have hYb : Bytes (m.take pos) := wt20.2.2.2.1
                have HYL : Hid ((m.take pos).length = pos) := by show _ = _; simp [HM.out]; omega
                rw [show wrOut (m.take pos) 0 = m.take pos from by unfold wrOut; rw [if_pos rfl]] at oy
                obtain ⟨ya, yc, hyv, hyc, hyn, rowy, hyb, _⟩ := oy.row (by rw [HYL.out]; omega) hYb
                rw [HYL.out] at hyv
                subst hyv
                have rd21 := rd20.away a21 (by simp) (by simp)
                have wt21 := wt20.away a21 (by simp) (by simp)
                have st21 := HKEEP.out [] _ _ (by simp) a21 still
                have aw21 := aw20.next a21 (by simp)
                clear rd20 wt20 still aw20 oy
                go_wp2_with fail
                refine (left_any _ gr dr _ 0 (by exact rd21)).mono ?_
                rintro E w44 ⟨rfl, hw44⟩
                have hw44 := hw44.symm
                subst hw44
                rw [HLD.out]
                go_wp2_with fail
                refine (bytes_any _ gr dr _ 0 Lf (by exact rd21)).mono ?_
                rintro E w22 ⟨x, rfl, ox, nx, rd22, a22, bX, _⟩
                have hrn := rd_n m pos Lf (by rw [HM.out, HLF.out]; omega)
                rw [hrn.1] at ox bX
                rw [hrn.2.1, hrn.2.2, show pos + Lf = n from by rw [HLF.out]; omega, List.drop_eq_nil_of_le (by rw [HM.out]; omega)] at rd22
                clear hrn
                rw [List.take_of_length_le (by rw [HLD.out]; omega)] at ox bX
                obtain ⟨xa, xc, hxv, hxc, hxn, rowx, hxb, _⟩ := ox.row (by rw [HLD.out]; omega) bX
                rw [HLD.out] at hxv
                subst hxv
                have wt22 := wt21.away a22 (fun hm => by simp at hm; exact (svP gw (fp_self _ _)).2.1 hm) (fun k hk hm => by simp at hm; exact (svP k (fp_own hk)).2.1 hm)
                have st22 := HKEEP.out [gr] _ _ (fun k hk => by simp at hk; rw [hk]; exact ⟨hgrP, lgr⟩) a22 st21
                have aw22 := aw21.next a22 (by simpa using hgrB)
                have rowy22 := rowy.away a22 (fun y hy hm => by simp at hm; have h1 := ny _ (hyb y hy); omega)
                clear rd21 wt21 st21 aw21 ox
                go_wp2_with fail
                refine (w16_any _ gw v _ _ 0 258 (by exact wt22) (by omega) (by omega)).mono ?_
                rintro E w23 ⟨rfl, v', wt23, mv, a23⟩
                have hfit : ((m.take pos).length : Int) + (([258 / 256, 258 % 256] : List Int)).length ≤ (n : Int) + 2 := by rw [HYL.out]; simp; omega
                rw [show wrAll (m.take pos) 0 ((n : Int) + 2) [258 / 256, 258 % 256] = m.take pos ++ [1, 2] from by unfold wrAll; rw [if_pos ⟨rfl, hfit⟩]; rfl, show wrErr (m.take pos) 0 ((n : Int) + 2) 2 = 0 from by unfold wrErr; rw [if_pos rfl, if_pos (by simpa using hfit)]] at wt23
                have rd23 := rd22.away a23 (fun hm => (svP gr hm).2.1 rfl) (fun hm => (svP dr hm).2.2 rfl)
                have st23 := HKEEP.out (fp gw v) _ _ (fun k hk => ⟨(svP k hk).1, lv k hk⟩) a23 st22
                have aw23 := aw22.next a23 (fun k hk => .inr (svB k hk))
                have z21 := a21.size
                have z22 := a22.size
                have rowy23 := rowy22.away a23 (fun y hy hm => by have h1 := ny _ (hyb y hy); have h2 := lv _ hm; omega)
                have rowx23 := rowx.away a23 (fun y hy hm => by have h1 := nx _ (hxb y hy); have h2 := lv _ hm; omega)
                clear rd22 wt22 st22 aw22 rowy22
                go_wp2_with fail
                refine (out_any _ gw v' _ _ 0 (by exact wt23)).mono ?_
                rintro E w24 ⟨z, rfl, oz, nz, a24⟩
                have hZb : Bytes (m.take pos ++ [1, 2]) := wt23.2.2.2.1
                have HZL : Hid ((m.take pos ++ [1, 2]).length = pos + 2) := by show _ = _; rw [List.length_append, HYL.out]; rfl
                rw [show wrOut (m.take pos ++ [1, 2]) 0 = m.take pos ++ [1, 2] from by unfold wrOut; rw [if_pos rfl]] at oz
                obtain ⟨za, zc, hzv, hzc, hzn, rowz, hzb, _⟩ := oz.row (by rw [HZL.out]; omega) hZb
                rw [HZL.out] at hzv
                subst hzv
                have rd24 := rd23.away a24 (by simp) (by simp)
                have wt24 := wt23.away a24 (by simp) (by simp)
                have st24 := HKEEP.out [] _ _ (by simp) a24 st23
                have aw24 := aw23.next a24 (by simp)
                have rowy24 := rowy23.away a24 (by simp)
                have rowx24 := rowx23.away a24 (by simp)
                have rowm := hmr.away aw24 (by simp)
                obtain ⟨A1, hA1⟩ : ∃ A, A = if cap = pos then a else a.map (·.add pos) := ⟨_, rfl⟩
                have rowm1 := rowm.tail pos cap (by rw [HM.out]; omega) (by rw [HM.out]; omega)
                rw [← hA1] at rowm1
                have rowm2 := rowm.head pos
                have t1 := slice_l a A1 n cap pos (pos : Int) hA1 rfl (by omega)
                have t2 := slice_h a n cap pos (pos : Int) rfl (by omega)
                have hA1n : A1 = none → cap - pos = 0 := by
                  rw [hA1]; split
                  · intro h; omega
                  · intro h; have := ha (by simpa using h); omega
                have HA1 : Hid (A1 = none → cap - pos = 0) := hA1n
                have HLD2 : Hid ((m.drop pos).length = n - pos) := by show _ = _; rw [HLD.out, HLF.out]
                clear hA1 hA1n rd23 wt23 st23 aw23 oz hfit
                go_wp2_with fail
                refine (same_yes ya a (m.take pos) (m.take pos) _ _ _ _ _ HYL.out HYL.out hyn ha (by exact rowy24) (by exact rowm2) rfl).mono ?_
                rintro E w44 ⟨rfl, hw44⟩
                have hw44 := hw44.symm
                subst hw44
                go_wp2_with fail
                refine (same_yes xa A1 (m.drop pos) (m.drop pos) _ _ _ _ _ HLD.out HLD2.out hxn HA1.out (by exact rowx24) (by exact rowm1) rfl).mono ?_
                rintro E w44 ⟨rfl, hw44⟩
                have hw44 := hw44.symm
                subst hw44
                go_wp2_with fail
                refine (own_any a (m.take pos) _ _ _ HYL.out (by exact rowm2)).mono ?_
                rintro E w25 ⟨q1, rfl, oq, nq, a25, _, _⟩
                go_wp2_with (at_builtin; refine wpList_appG rfl _ _ rfl _ (m.take pos) [1, 2] rfl (by exact oq.away ((Away.refl [] _).alloc _) (by simp)) ⟨w25.heap.size, 0, none⟩ 2 2 rfl rfl (lit_cells _ [1, 2] _ rfl) (by rw [HYL.out]; omega) ?_)
                intro q2 w26 oq2 hgr26 hmov26
                have a26 := (a25.alloc (.cells #[.int .u8 1, .int .u8 2] 5)).grown hgr26 (fun k hk => .inr (nq k hk))
                obtain ⟨qa, qc, hqv, hqc, hqn, rowq, _⟩ := oq2.row (by rw [HZL.out]; omega) hZb
                rw [HZL.out] at hqv
                subst hqv
                have rowz26 := rowz.away a26 (by simp)
                have rd26 := rd24.away a26 (by simp) (by simp)
                have wt26 := wt24.away a26 (by simp) (by simp)
                have st26 := HKEEP.out [] _ _ (by simp) a26 st24
                have aw26 := aw24.next a26 (by simp)
                clear rd24 wt24 st24 aw24 rowm rowm1 rowm2 rowy24 rowx24 hgr26 hmov26 oq a25 oq2
                go_wp2_with fail
                refine (same_yes za qa (m.take pos ++ [1, 2]) (m.take pos ++ [1, 2]) _ _ _ _ _ HZL.out HZL.out hzn hqn (by exact rowz26) (by exact rowq) rfl).mono ?_
                rintro E w44 ⟨rfl, hw44⟩
                have hw44 := hw44.symm
                subst hw44
                go_wp2_with fail
                refine (still_any _ vl tl (by exact st26)).mono ?_
                rintro E w44 ⟨rfl, nst, hw44⟩
                have rd27 : Rd w44 gr dr [] 0 := by rw [hw44]; exact rd26.drewN nst
                have wt27 : Wr w44 gw v' ((n : Int) + 2) (m.take pos ++ [1, 2]) 0 := by rw [hw44]; exact wt26.drewN nst
                have aw27 : Away [] w w44 := by rw [hw44]; exact aw26.drewN nst
                clear hw44 rd26 wt26 aw26 st26
                go_wp2_with fail
                refine (end_any _ gr dr [] 0 (by exact rd27)).mono ?_
                rintro E w45 ⟨rfl, hw45⟩
                have hw45 := hw45.symm
                subst hw45
                rw [show rdEnd [] 0 = 0 from by decide]
                go_wp2_with fail
                refine (werr_any _ gw v' _ _ 0 (by exact wt27)).mono ?_
                rintro E w45 ⟨rfl, hw45⟩
                have hw45 := hw45.symm
                subst hw45
                go_wp2_with fail
                go_ret
                exact ⟨rfl, aw27.to_below⟩
        · have i1 : ¬ ((k : Int) < (clen : Int)) := by omega
          · have lot : LotAt wr u7 P := ⟨ms.oa, ms.con, ms.ap, fun k hk => (ms.s3 k (vb_mem.mpr hk)).2.1, hPn60⟩
            obtain ⟨ga, gn, gc, hu7, hgn⟩ : ∃ a n c, u7 = .slice a n c ∧ n = P.length := by
              rcases ms.oa.2 with ⟨h, h0⟩ | ⟨g, cp, cur, h, _⟩
              · exact ⟨_, _, _, h, by simpa using h0.symm⟩
              · exact ⟨_, _, _, h, by simp⟩
            obtain ⟨ha', hn', hc', hu8, hhn⟩ : ∃ a n c, u8 = .slice a n c ∧ n = P.length := by
              have he := congrArg List.length ms.eq
              simp at he
              rcases ms.ow.2 with ⟨h, h0⟩ | ⟨g, cp, cur, h, _⟩
              · refine ⟨_, _, _, h, ?_⟩
                have h1 : Pw.length = 0 := by rw [List.length_map] at h0; exact h0
                omega
              · exact ⟨_, _, _, h, by simp; omega⟩
            subst hu7
            subst hu8
            subst hgn
            subst hhn
            have HMS : Hid (MS w wr gr dr gw v (.slice ga P.length gc) (.slice ha' P.length hc') ((n : Int) + 2) m pos P Pw) := ms
            have HLOT : Hid (LotAt wr (.slice ga P.length gc) P) := lot
            clear ms lot
            go_wp2_with fail
            go_loopw [17] (fun i wq => ∃ j q : Nat, j ≤ P.length ∧ i = .int .i64 j ∧ wq = wr.drewN q) (fun i _ => P.length - (intOf i).toNat)
            case atStart => exact ⟨0, 0, by omega, rfl, rfl⟩
            case round =>
              obtain ⟨j, q, hj, rfl, rfl⟩ := hrel
              by_cases hjl : j < P.length
              · have ms := HMS.out
                have he := congrArg List.length ms.eq
                simp at he
                obtain ⟨p, hp⟩ : ∃ p, P[j]? = some p := ⟨_, List.getElem?_eq_getElem hjl⟩
                obtain ⟨r, hr'⟩ : ∃ r, Pw[j]? = some r := ⟨_, List.getElem?_eq_getElem (by omega)⟩
                have hpr : p.2 = r.2 := by
                  have := congrArg (fun l => l[j]?) ms.eq
                  simpa [hp, hr'] using this
                obtain ⟨op, bp, lp⟩ := ms.con j p hp
                obtain ⟨or', br, lr'⟩ := ms.conw j r hr'
                obtain ⟨pa, pc, hpv, _, hpn, rowp, _⟩ := op.row (by omega) bp
                obtain ⟨ra, rc, hrv, _, hrn, rowr, _⟩ := or'.row (by omega) br
                have cp : ∃ g, ga = some ⟨g, 0, none⟩ ∧ wr.cell? ⟨g, j, none⟩ = some p.1 := by
                  rcases ms.oa.2 with ⟨h, h0⟩ | ⟨g, cp, cur, h, _⟩
                  · simp at h0; rw [h0] at hjl; simp at hjl
                  · simp only [Value.slice.injEq] at h
                    obtain ⟨rfl, _, rfl⟩ := h
                    refine ⟨g, rfl, ?_⟩
                    rw [(OwnsG.cells ms.oa j (by simpa using hjl)).1, List.getElem?_map, hp]; rfl
                have cr : ∃ g, ha' = some ⟨g, 0, none⟩ ∧ wr.cell? ⟨g, j, none⟩ = some r.1 := by
                  rcases ms.ow.2 with ⟨h, h0⟩ | ⟨g, cp, cur, h, _⟩
                  · have h1 : Pw.length = 0 := by rw [List.length_map] at h0; exact h0
                    omega
                  · simp only [Value.slice.injEq] at h
                    obtain ⟨rfl, _, rfl⟩ := h
                    refine ⟨g, rfl, ?_⟩
                    rw [(OwnsG.cells ms.ow j (by simp; omega)).1, List.getElem?_map, hr']; rfl
                obtain ⟨g1, rfl, cp⟩ := cp
                obtain ⟨g2, rfl, cr⟩ := cr
                rw [hpv] at cp
                rw [hrv] at cr
                have HPR : Hid (p.2 = r.2) := hpr
                have HRR : Hid (Row wr pa p.2 ∧ Row wr ra r.2 ∧ (pa = none → pc = 0) ∧ (ra = none → rc = 0)) := ⟨rowp, rowr, hpn, hrn⟩
                have hj0 : (0 : Int) ≤ (j : Int) := by omega
                have hj1 : (j : Int) < (P.length : Int) := by omega
                clear ms op or' rowp rowr hpv hrv hpr hp hr' bp br he
                go_wp2_with fail
                go_quiet ((go_at_call 20; exact (same_yes pa ra p.2 r.2 _ _ _ _ _ rfl rfl HRR.out.2.2.1 HRR.out.2.2.2 (by exact HRR.out.1) (by exact HRR.out.2.1) HPR.out).mono (fun _ _ h => ⟨h.1, _, h.2⟩)))
                go_wp2_with fail
                go_roundw
                case rel => exact ⟨j + 1, _, by omega, by go_num, rfl⟩
                case measure => simp [intOf]; omega
              · have hjl' : ¬ ((j : Int) < (P.length : Int)) := by omega
                have hjl2 : decide (j < P.length) = false := by simp; omega
                go_wp2_with fail
                refine (marked_any _ _ P (by exact LotAt.drewN HLOT.out q)).mono ?_
                rintro E w20 ⟨vl, tl, rfl, still, nvl, aM, blk⟩
                have ms := HMS.out
                have aM : Away (bl P) wr w20 := aM.undrewN
                have hszw := aM.size
                have nvl : New wr.heap.size vl := nvl
                have blk : ∀ t ∈ tl, (∀ k, t.b.ownBlock = some k → k ∈ bl P) ∧ (∀ k, t.g.ownBlock = some k → k ∈ bl P ∨ wr.heap.size ≤ k) := blk
                have sP : ∀ x ∈ bl P, x ≠ gr ∧ x ≠ dr ∧ w.heap.size ≤ x := fun x hx => ms.s1 x (.inr (.inr (.inr (.inl hx))))
                have rd20 := ms.rd.away aM (fun hm => (sP gr hm).1 rfl) (fun hm => (sP dr hm).2.1 rfl)
                have wt20 := ms.wt.away aM (fun hm => (ms.s2 gw (fp_self _ _)).2.2.1 hm) (fun k hk hm => (ms.s2 k (fp_own hk)).2.2.1 hm)
                have aw20 := ms.aw.next aM (fun k hk => .inr (sP k hk).2.2)
                have lv : ∀ k ∈ fp gw v, k < wr.heap.size := fun k hk => by
                  simp only [fp, List.mem_cons, Option.mem_toList] at hk
                  rcases hk with rfl | hk
                  · exact ms.wt.lt.1
                  · exact ms.wt.lt.2 k hk
                have lgr := ms.rd.lt.1
                have svB : ∀ k ∈ fp gw v, w.heap.size ≤ k := fun k hk => (ms.s1 k (.inl hk)).2.2
                have svP : ∀ k ∈ fp gw v, k ∉ bl P ∧ k ≠ gr ∧ k ≠ dr := fun k hk => ⟨(ms.s2 k hk).2.2.1, (ms.s1 k (.inl hk)).1, (ms.s1 k (.inl hk)).2.1⟩
                have hgrB := ms.old
                have HKEEP : Hid (∀ (S : List Nat) (W W' : World), (∀ k ∈ S, k ∉ bl P ∧ k < wr.heap.size) → Away S W W' → Still W vl tl → Still W' vl tl) := by
                  intro S W W' hS hA hst'
                  refine Still.away hst' hA (fun k hk hm => by have h1 := nvl k hk; have h2 := (hS k hm).2; omega) (fun t ht => ⟨fun k hk hm => (hS k hm).1 ((blk t ht).1 k hk), fun k hk hm => ?_⟩)
                  rcases (blk t ht).2 k hk with h1 | h1
                  · exact (hS k hm).1 h1
                  · have := (hS k hm).2; omega
                have hgrP : gr ∉ bl P := fun hm => (sP gr hm).1 rfl
                have hpos1 : (pos : Int) ≤ (n : Int) := by omega
                have hsub : (n : Int) - ((n - pos : Nat) : Int) = (pos : Int) := by omega
                obtain ⟨Lf, hLf⟩ : ∃ Lf : Nat, Lf = n - pos := ⟨_, rfl⟩
                rw [← hLf] at HLD hsub
                have HLF : Hid (Lf = n - pos) := hLf
                clear hLf ms sP
                go_wp2_with fail
                refine (left_any _ gr dr _ 0 (by exact rd20)).mono ?_
                rintro E w44 ⟨rfl, hw44⟩
                have hw44 := hw44.symm
                subst hw44
                rw [HLD.out]
                go_wp2_with fail
                refine (out_any _ gw v _ _ 0 (by exact wt20)).mono ?_
                rintro E w21 ⟨y, rfl, oy, ny, a21⟩
                have hYb : Bytes (m.take pos) := wt20.2.2.2.1
                have HYL : Hid ((m.take pos).length = pos) := by show _ = _; simp [HM.out]; omega
                rw [show wrOut (m.take pos) 0 = m.take pos from by unfold wrOut; rw [if_pos rfl]] at oy
                obtain ⟨ya, yc, hyv, hyc, hyn, rowy, hyb, _⟩ := oy.row (by rw [HYL.out]; omega) hYb
                rw [HYL.out] at hyv
                subst hyv
                have rd21 := rd20.away a21 (by simp) (by simp)
                have wt21 := wt20.away a21 (by simp) (by simp)
                have st21 := HKEEP.out [] _ _ (by simp) a21 still
                have aw21 := aw20.next a21 (by simp)
                clear rd20 wt20 still aw20 oy
                go_wp2_with fail
                refine (left_any _ gr dr _ 0 (by exact rd21)).mono ?_
                rintro E w44 ⟨rfl, hw44⟩
                have hw44 := hw44.symm
                subst hw44
                rw [HLD.out]
                go_wp2_with fail
                refine (bytes_any _ gr dr _ 0 Lf (by exact rd21)).mono ?_
                rintro E w22 ⟨x, rfl, ox, nx, rd22, a22, bX, _⟩
                have hrn := rd_n m pos Lf (by rw [HM.out, HLF.out]; omega)
                rw [hrn.1] at ox bX
                rw [hrn.2.1, hrn.2.2, show pos + Lf = n from by rw [HLF.out]; omega, List.drop_eq_nil_of_le (by rw [HM.out]; omega)] at rd22
                clear hrn
                rw [List.take_of_length_le (by rw [HLD.out]; omega)] at ox bX
                obtain ⟨xa, xc, hxv, hxc, hxn, rowx, hxb, _⟩ := ox.row (by rw [HLD.out]; omega) bX
                rw [HLD.out] at hxv
                subst hxv
                have wt22 := wt21.away a22 (fun hm => by simp at hm; exact (svP gw (fp_self _ _)).2.1 hm) (fun k hk hm => by simp at hm; exact (svP k (fp_own hk)).2.1 hm)
                have st22 := HKEEP.out [gr] _ _ (fun k hk => by simp at hk; rw [hk]; exact ⟨hgrP, lgr⟩) a22 st21
                have aw22 := aw21.next a22 (by simpa using hgrB)
                have rowy22 := rowy.away a22 (fun y hy hm => by simp at hm; have h1 := ny _ (hyb y hy); omega)
                clear rd21 wt21 st21 aw21 ox
                go_wp2_with fail
                refine (w16_any _ gw v _ _ 0 258 (by exact wt22) (by omega) (by omega)).mono ?_
                rintro E w23 ⟨rfl, v', wt23, mv, a23⟩
                have hfit : ((m.take pos).length : Int) + (([258 / 256, 258 % 256] : List Int)).length ≤ (n : Int) + 2 := by rw [HYL.out]; simp; omega
                rw [show wrAll (m.take pos) 0 ((n : Int) + 2) [258 / 256, 258 % 256] = m.take pos ++ [1, 2] from by unfold wrAll; rw [if_pos ⟨rfl, hfit⟩]; rfl, show wrErr (m.take pos) 0 ((n : Int) + 2) 2 = 0 from by unfold wrErr; rw [if_pos rfl, if_pos (by simpa using hfit)]] at wt23
                have rd23 := rd22.away a23 (fun hm => (svP gr hm).2.1 rfl) (fun hm => (svP dr hm).2.2 rfl)
                have st23 := HKEEP.out (fp gw v) _ _ (fun k hk => ⟨(svP k hk).1, lv k hk⟩) a23 st22
                have aw23 := aw22.next a23 (fun k hk => .inr (svB k hk))
                have z21 := a21.size
                have z22 := a22.size
                have rowy23 := rowy22.away a23 (fun y hy hm => by have h1 := ny _ (hyb y hy); have h2 := lv _ hm; omega)
                have rowx23 := rowx.away a23 (fun y hy hm => by have h1 := nx _ (hxb y hy); have h2 := lv _ hm; omega)
                clear rd22 wt22 st22 aw22 rowy22
                go_wp2_with fail
                refine (out_any _ gw v' _ _ 0 (by exact wt23)).mono ?_
                rintro E w24 ⟨z, rfl, oz, nz, a24⟩
                have hZb : Bytes (m.take pos ++ [1, 2]) := wt23.2.2.2.1
                have HZL : Hid ((m.take pos ++ [1, 2]).length = pos + 2) := by show _ = _; rw [List.length_append, HYL.out]; rfl
                rw [show wrOut (m.take pos ++ [1, 2]) 0 = m.take pos ++ [1, 2] from by unfold wrOut; rw [if_pos rfl]] at oz
                obtain ⟨za, zc, hzv, hzc, hzn, rowz, hzb, _⟩ := oz.row (by rw [HZL.out]; omega) hZb
                rw [HZL.out] at hzv
                subst hzv
                have rd24 := rd23.away a24 (by simp) (by simp)
                have wt24 := wt23.away a24 (by simp) (by simp)
                have st24 := HKEEP.out [] _ _ (by simp) a24 st23
                have aw24 := aw23.next a24 (by simp)
                have rowy24 := rowy23.away a24 (by simp)
                have rowx24 := rowx23.away a24 (by simp)
                have rowm := hmr.away aw24 (by simp)
                obtain ⟨A1, hA1⟩ : ∃ A, A = if cap = pos then a else a.map (·.add pos) := ⟨_, rfl⟩
                have rowm1 := rowm.tail pos cap (by rw [HM.out]; omega) (by rw [HM.out]; omega)
                rw [← hA1] at rowm1
                have rowm2 := rowm.head pos
                have t1 := slice_l a A1 n cap pos (pos : Int) hA1 rfl (by omega)
                have t2 := slice_h a n cap pos (pos : Int) rfl (by omega)
                have hA1n : A1 = none → cap - pos = 0 := by
                  rw [hA1]; split
                  · intro h; omega
                  · intro h; have := ha (by simpa using h); omega
                have HA1 : Hid (A1 = none → cap - pos = 0) := hA1n
                have HLD2 : Hid ((m.drop pos).length = n - pos) := by show _ = _; rw [HLD.out, HLF.out]
                clear hA1 hA1n rd23 wt23 st23 aw23 oz hfit
                go_wp2_with fail
                refine (same_yes ya a (m.take pos) (m.take pos) _ _ _ _ _ HYL.out HYL.out hyn ha (by exact rowy24) (by exact rowm2) rfl).mono ?_
                rintro E w44 ⟨rfl, hw44⟩
                have hw44 := hw44.symm
                subst hw44
                go_wp2_with fail
                refine (same_yes xa A1 (m.drop pos) (m.drop pos) _ _ _ _ _ HLD.out HLD2.out hxn HA1.out (by exact rowx24) (by exact rowm1) rfl).mono ?_
                rintro E w44 ⟨rfl, hw44⟩
                have hw44 := hw44.symm
                subst hw44
                go_wp2_with fail
                refine (own_any a (m.take pos) _ _ _ HYL.out (by exact rowm2)).mono ?_
                rintro E w25 ⟨q1, rfl, oq, nq, a25, _, _⟩
                go_wp2_with (at_builtin; refine wpList_appG rfl _ _ rfl _ (m.take pos) [1, 2] rfl (by exact oq.away ((Away.refl [] _).alloc _) (by simp)) ⟨w25.heap.size, 0, none⟩ 2 2 rfl rfl (lit_cells _ [1, 2] _ rfl) (by rw [HYL.out]; omega) ?_)
                intro q2 w26 oq2 hgr26 hmov26
                have a26 := (a25.alloc (.cells #[.int .u8 1, .int .u8 2] 5)).grown hgr26 (fun k hk => .inr (nq k hk))
                obtain ⟨qa, qc, hqv, hqc, hqn, rowq, _⟩ := oq2.row (by rw [HZL.out]; omega) hZb
                rw [HZL.out] at hqv
                subst hqv
                have rowz26 := rowz.away a26 (by simp)
                have rd26 := rd24.away a26 (by simp) (by simp)
                have wt26 := wt24.away a26 (by simp) (by simp)
                have st26 := HKEEP.out [] _ _ (by simp) a26 st24
                have aw26 := aw24.next a26 (by simp)
                clear rd24 wt24 st24 aw24 rowm rowm1 rowm2 rowy24 rowx24 hgr26 hmov26 oq a25 oq2
                go_wp2_with fail
                refine (same_yes za qa (m.take pos ++ [1, 2]) (m.take pos ++ [1, 2]) _ _ _ _ _ HZL.out HZL.out hzn hqn (by exact rowz26) (by exact rowq) rfl).mono ?_
                rintro E w44 ⟨rfl, hw44⟩
                have hw44 := hw44.symm
                subst hw44
                go_wp2_with fail
                refine (still_any _ vl tl (by exact st26)).mono ?_
                rintro E w44 ⟨rfl, nst, hw44⟩
                have rd27 : Rd w44 gr dr [] 0 := by rw [hw44]; exact rd26.drewN nst
                have wt27 : Wr w44 gw v' ((n : Int) + 2) (m.take pos ++ [1, 2]) 0 := by rw [hw44]; exact wt26.drewN nst
                have aw27 : Away [] w w44 := by rw [hw44]; exact aw26.drewN nst
                clear hw44 rd26 wt26 aw26 st26
                go_wp2_with fail
                refine (end_any _ gr dr [] 0 (by exact rd27)).mono ?_
                rintro E w45 ⟨rfl, hw45⟩
                have hw45 := hw45.symm
                subst hw45
                rw [show rdEnd [] 0 = 0 from by decide]
                go_wp2_with fail
                refine (werr_any _ gw v' _ _ 0 (by exact wt27)).mono ?_
                rintro E w45 ⟨rfl, hw45⟩
                have hw45 := hw45.symm
                subst hw45
                go_wp2_with fail
                go_ret
                exact ⟨rfl, aw27.to_below⟩
theorem walk (a0 : Option Addr) (len0 cap0 : Nat) (z0 : List Int) (a1 : Option Addr) (len1 cap1 : Nat) (z1 : List Int) (w : World) (h0 : IsRow .u8 w a0 len0 cap0 z0) (h1 : IsRow .i64 w a1 len1 cap1 z1) :
    Calls Try.prog 4 #[.slice a0 len0 cap0, .slice a1 len1 cap1] w fun e w' => e = .returned (.bool true) ∧ Below w.heap.size w w' := by
  obtain ⟨l, hl, hc, hc', hr, hn⟩ := view h0
  obtain ⟨hd, hcc⟩ := view64 h1
  exact walkl a0 l len0 cap0 a1 len1 cap1 z1 w hl hc hc' hn hr hd hcc
set_option maxRecDepth 100000 in
theorem lifted (os : Os) (started : os.Started) (H : Type) (enc : TypeId × Value → H) :
    ReturnsInHanded {} Try.checked os 4 .any (Rows.wireMemorySpec.pre6 enc Try.prog Try.f4 Rows.wireMemoryRow.domain false) (Rows.wireMemorySpec.post enc Try.prog Try.f4 false true false false) := by
  refine returnsInHanded_of_change_sized (C := Try.checked) ownKn started (by kernel_rfl) Try.func4
    (ChangeSpec.witness6 (enc := enc) (C := Try.checked) false ⟨#[], #[.slice none 0 0, .slice none 0 0], []⟩ 8 (by kernel_rfl) (by kernel_rfl) (by kernel_rfl) (by kernel_rfl)) ?_
  intro W base args ds gs before hval0 hW _ hsz0 _
  have hsz : (DataW.weightsEach Try.prog (Try.f4.params.toList ++ Rows.wireMemorySpec.plain.varTypes Try.prog) (ds ++ gs)).all (· ≤ reachBytes) = true := hsz0
  clear hsz0
  have hval : ∀ (j : Nat) t v, Try.f4.params[j]? = some t → args[j]? = some v → Value.okWide Try.prog W .any base t v := hval0
  have hW' := hW
  obtain ⟨p, q, hA0, hV, rfl, hfz, hnd⟩ := hW
  have hA : DataW.TrodAll enc Try.prog W 0 (fun _ => true) true Try.f4.params.toList args.toList ds p := hA0
  rw [Try.params4] at hA hval hsz
  obtain ⟨v0, vs0, d0, ds0, p0, q0, hargs, rfl, rfl, h0, r0⟩ := trodAll_cons hA
  obtain ⟨v1, vs1, d1, ds1, p1, q1, rfl, rfl, rfl, h1, r1⟩ := trodAll_cons r0
  obtain ⟨rfl, rfl, rfl⟩ := trodAll_nil r1
  obtain rfl : args = #[v0, v1] := by cases args; simp_all
  obtain ⟨rfl, rfl⟩ := trodVars_none hV
  obtain ⟨a0, len0, cap0, rfl⟩ := okWide_slice Try.underlying22 (hval 0 22 v0 rfl rfl)
  have k0 := h0
  have lt0 : ∀ x ∈ p0, x.block < W.heap.size := by obtain ⟨m, hm⟩ := k0; exact DataW.trod_lt m _ _ _ hm
  obtain ⟨z0, w0⟩ : ∃ zs, IsRow .u8 W a0 len0 cap0 zs := by
    obtain ⟨fuel, hf⟩ := h0
    rcases open_ints Try.underlying22 Try.underlying5 (by kernel_rfl) hf with ⟨hcs, _⟩ | ⟨x, l, c, zs, hcs, _, hl, hm, hz, hx, hcell, hwz⟩
    · simp [Value.cells] at hcs
      obtain ⟨rfl, rfl, rfl⟩ := hcs
      exact ⟨[], .inl ⟨rfl, rfl, rfl, rfl⟩⟩
    · simp [Value.cells] at hcs
      obtain ⟨rfl, rfl, rfl⟩ := hcs
      simp only [Prod.mk.injEq] at hx
      obtain ⟨rfl, hpl⟩ := hx
      have hreach : cap0 * kindBytes .u8 ≤ 140737488351232 := by
        have := sized_slice hsz (j := 0) (t := 22) (e := 5) rfl rfl Try.underlying22
        rw [show Try.prog.bytesOf 5 = kindBytes .u8 from by kernel_rfl] at this
        simp only [lits, List.length_map, List.length_take, List.length_drop, reachBytes] at this
        simp only [if_true] at hz
        rw [show min len0 zs.length + (zs.length - len0) = cap0 from by omega] at this
        exact this
      exact ⟨zs, .inr ⟨_, rfl, hl, hreach, by simpa using hz, hcell, hwz⟩⟩
  obtain ⟨a1, len1, cap1, rfl⟩ := okWide_slice Try.underlying43 (hval 1 43 v1 rfl rfl)
  have k1 := h1
  have lt1 : ∀ x ∈ p1, x.block < W.heap.size := by obtain ⟨m, hm⟩ := k1; exact DataW.trod_lt m _ _ _ hm
  obtain ⟨z1, w1⟩ : ∃ zs, IsRow .i64 W a1 len1 cap1 zs := by
    obtain ⟨fuel, hf⟩ := h1
    rcases open_ints Try.underlying43 Try.underlying3 (by kernel_rfl) hf with ⟨hcs, _⟩ | ⟨x, l, c, zs, hcs, _, hl, hm, hz, hx, hcell, hwz⟩
    · simp [Value.cells] at hcs
      obtain ⟨rfl, rfl, rfl⟩ := hcs
      exact ⟨[], .inl ⟨rfl, rfl, rfl, rfl⟩⟩
    · simp [Value.cells] at hcs
      obtain ⟨rfl, rfl, rfl⟩ := hcs
      simp only [Prod.mk.injEq] at hx
      obtain ⟨rfl, hpl⟩ := hx
      have hreach : cap1 * kindBytes .i64 ≤ 140737488351232 := by
        have := sized_slice hsz (j := 1) (t := 43) (e := 3) rfl rfl Try.underlying43
        rw [show Try.prog.bytesOf 3 = kindBytes .i64 from by kernel_rfl] at this
        simp only [lits, List.length_map, List.length_take, List.length_drop, reachBytes] at this
        simp only [if_true] at hz
        rw [show min len1 zs.length + (zs.length - len1) = cap1 from by omega] at this
        exact this
      exact ⟨zs, .inr ⟨_, rfl, hl, hreach, by simpa using hz, hcell, hwz⟩⟩
  clear hA0 hval0
  refine (walk a0 len0 cap0 z0 a1 len1 cap1 z1 W w0 w1).mono fun e W' ⟨he, bel⟩ => ?_
  subst he
  exact ⟨_, rfl, _, _, _, [], _, [], hW', trodAll_mk1 (shut_bool Try.underlying4 _), (trodAll_cons_mk (Below.trod laidOut (by kernel_rfl) (of_decide_eq_true (by kernel_rfl)) k0 bel lt0) (trodAll_cons_mk (Below.trod laidOut (by kernel_rfl) (of_decide_eq_true (by kernel_rfl)) k1 bel lt1) trodAll_mk0)), rfl, bel.frame _, fun h => by cases h⟩

theorem over : Rows.wireMemoryRow.holds Try.pinned (OpenSpec.ofChange Rows.wireMemorySpec) :=
  OpenClaim.holds_of_wide 4 Try.f4 rfl rfl rfl rfl rfl rfl rfl ⟨rfl, rfl, rfl, rfl, rfl⟩ rfl rfl rfl rfl rfl (by kernel_rfl) Try.func4 (by kernel_rfl)
    (of_decide_eq_true (by kernel_rfl)) (by unfold Func.isWrapper; first | (rw [if_pos (by decide +kernel)]; kernel_rfl) | (rw [if_neg (by decide +kernel)]; exact ⟨rfl, rfl⟩))
    (fun os started H enc _ => lifted os started H enc)

end Go.Proofs.Ytaiomhhndckccaa.wireMemory
namespace Go.Proofs.Ytaiomhhndckccaa
theorem wireMemory_holds : Rows.WireMemorySaid := wireMemory.over
#print axioms wireMemory_holds
end Go.Proofs.Ytaiomhhndckccaa

