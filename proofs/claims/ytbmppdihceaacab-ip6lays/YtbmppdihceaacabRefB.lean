/-
  The document's own: Head, two, Build.
-/
import Derived.Test.YtbmppdihceaacabRefR
import Derived.Test.YtbmppdihceaacabStp
import Derived.Deep.CutRange
namespace Go.Proofs.Ytbmppdihceaacab
open Go.ChangeShapes Go.WideShapes Go.ChangeAt Go.RowKit Num
set_option linter.unusedVariables false
set_option maxHeartbeats 8000000
set_option maxRecDepth 100000

theorem rhead_c (p : Pk) (ov dv : Value) (w : World) (hp : Pkt w p ov dv) :
    Calls Try.prog 12 #[.agg (csP p ov dv)] w fun E w' => E = .returned (.int .i64 (headP p)) ∧ Away [] w w' := by
  have ha := hp.wf.ad
  have KF : Hid (∀ w', Away [] w w' → Calls Try.prog 10 #[.agg (csP p ov dv)] w' fun E w'' => E = .returned (.bool (rightP p)) ∧ Away [] w' w'') := fun w' h => rright_c p ov dv w' (hp.on h)
  clear hp
  obtain ⟨z, hz⟩ : ∃ z, z = headP p := ⟨_, rfl⟩
  rw [← hz]
  have HZ : Hid (z = if rightP p = true then (hofP p : Int) else 0) := hz
  have HH : Hid (hofP p = if p.frag = true then 48 else 40) := rfl
  clear hz
  go_enter Try.func12, Try.ntmps12
  go_wp2_with (refine wpList_box28 rfl _ rfl p _ _ rfl ?_; refine Hid.out ?_)
  refine Lib.hid ?_
  intro g w1 hg hb haw
  have HA : Hid (Away [] w w1) := haw
  have HB : Hid (BoxP w1 g p ov dv) := hb
  have HAD : Hid (Ad p) := ha
  clear hb haw hg ha
  go_wp2_with (refine wpList_load28 rfl _ rfl _ rfl p _ _ (by exact HB.out) HAD.out ?_)
  refine (KF.out _ HA.out).mono ?_
  rintro E w2 ⟨rfl, haw⟩
  have HA2 : Hid (Away [] w w2) := HA.out.next haw (by simp)
  have c9 := ((HB.out.on haw).cells HAD.out).frag
  clear HA HB haw
  generalize rightP p = y at *
  cases y
  · obtain rfl : z = 0 := by rw [HZ.out]; rfl
    go_wp2_with fail
    go_ret
    exact ⟨rfl, HA2.out⟩
  · generalize hfr : p.frag = fr at c9
    cases fr
    · obtain rfl : z = 40 := by rw [HZ.out, HH.out, hfr]; rfl
      go_wp2_with fail
      go_ret
      exact ⟨rfl, HA2.out⟩
    · obtain rfl : z = 48 := by rw [HZ.out, HH.out, hfr]; rfl
      go_wp2_with fail
      go_ret
      exact ⟨rfl, HA2.out⟩
theorem two_c (v : Value) (l : List Int) (n : Int) (w : World) (hown : Owns w v l) (hl : l.length ≤ 1000) (h0 : 0 ≤ n) (h1 : n ≤ 65535) :
    Calls Try.prog 21 #[v, .int .i64 n] w fun E w' => ∃ v', E = .returned v' ∧ Owns w' v' (l ++ [n / 256, n % 256]) ∧ Away v.ownBlock.toList w w' ∧ Moved w v v' := by
  obtain ⟨a, c, rfl, hc⟩ := hown.slc
  have HO : Hid (Owns (w.alloc (.cells #[.int .u8 (n / 256), .int .u8 (n % 256)] 5)) (.slice a l.length c) l) := hown.away ((Away.refl [] w).alloc _) (by simp)
  clear hown
  go_enter Try.func21, Try.ntmps21
  go_wp2_with (at_builtin; refine wpList_app rfl _ _ rfl _ l [n / 256, n % 256] rfl (by exact HO.out) ⟨w.heap.size, 0, none⟩ 2 2 rfl rfl (lit_cells _ [n / 256, n % 256] _ rfl) (by omega) ?_; refine Hid.out ?_)
  refine Lib.hid ?_
  intro v' w2 hown2 hgr hmv
  have haw2 := (Away.refl (Value.ownBlock (.slice a l.length c)).toList (w.alloc (.cells #[.int .u8 (n / 256), .int .u8 (n % 256)] 5))).grown hgr (fun k hk => .inl (by simp [hk]))
  have HO2 := Lib.hid hown2
  have HA2 : Hid (Away (Value.ownBlock (.slice a l.length c)).toList w w2) := ((Away.refl _ w).alloc _).trans haw2
  have HM : Hid (Moved w (.slice a l.length c) v') := fun k hk => by
    rcases hmv k hk with e | e
    · exact .inl e
    · right; have : w.heap.size + 1 ≤ k := by simpa using e
      omega
  clear hown2 hgr hmv haw2
  go_wp2_with fail
  go_ret
  exact ⟨v', rfl, HO2.out, HA2.out, HM.out⟩
/-- A list of the call's own beside a packet in a box. -/
structure BS (w wx : World) (g : Nat) (v : Value) (p : Pk) (ov dv : Value) (l : List Int) : Prop where
  aw : Away [] w wx
  box : BoxP wx g p ov dv
  own : Owns wx v l
  new : New w.heap.size v
  gB : w.heap.size ≤ g
  ne : ∀ k, v.ownBlock = some k → k ≠ g
theorem BS.step {w wx w1 w2 : World} {g : Nat} {v v' : Value} {p : Pk} {ov dv : Value} {l l' : List Int} (h : BS w wx g v p ov dv l) (h0 : Away [] wx w1) (ho : Owns w2 v' l') (ha : Away v.ownBlock.toList w1 w2) (hm : Moved w1 v v') : BS w w2 g v' p ov dv l' := by
  have hs := h.aw.size; have hs0 := h0.size; have hl := h.box.lt
  refine ⟨(h.aw.next h0 (by simp)).next ha (fun x hx => .inr (h.new x (by simpa using hx))), (h.box.on h0).away ha (fun hx => h.ne g (by simpa using hx) rfl), ho, h.new.moved hm (by omega), h.gB, fun k hk => ?_⟩
  rcases hm k hk with e | e
  · exact h.ne k e
  · omega
theorem BS.grow {w wx w2 : World} {g : Nat} {v v' : Value} {p : Pk} {ov dv : Value} {l m : List Int} {cs : Array Value} (h : BS w wx g v p ov dv l) (ho : Owns w2 v' (l ++ m)) (hgr : (wx.alloc (.cells cs 5)).grownBy w2 v.ownBlock) (hm : Moved (wx.alloc (.cells cs 5)) v v') : BS w w2 g v' p ov dv (l ++ m) :=
  h.step ((Away.refl [] wx).alloc _) ho ((Away.refl _ _).grown hgr (fun k hk => .inl (by simp [hk]))) hm
def RBOut (w : World) (p : Pk) (E : Ending) (w' : World) : Prop :=
  ∃ v, E = .returned (.tuple #[v, .int .i64 (build6 p).2]) ∧ Owns w' v (build6 p).1 ∧ Away [] w w'
theorem rbuild_c (p : Pk) (ov dv : Value) (w : World) (hp : Pkt w p ov dv) :
    Calls Try.prog 7 #[.agg (csP p ov dv)] w fun E w' => RBOut w p E w' := by
  have HP := Lib.hid hp
  have HAD := Lib.hid hp.wf.ad
  have HSD := Lib.hid hp.d
  have KH : Hid (∀ w', Away [] w w' → Calls Try.prog 12 #[.agg (csP p ov dv)] w' fun E w'' => E = .returned (.int .i64 (headP p)) ∧ Away [] w' w'') := fun w' h => rhead_c p ov dv w' (hp.on h)
  have HHP : Hid (headP p = if rightP p = true then (hofP p : Int) else 0) := rfl
  have hdn := hp.wf.dn
  have hsl := hp.wf.sl; have hdl := hp.wf.dl
  have HSB := Lib.hid hp.wf.sb; have HDB := Lib.hid hp.wf.db
  obtain ⟨da, dc, hdv, -⟩ := hp.d
  subst hdv
  clear hp
  obtain ⟨z, hz⟩ : ∃ z, z = rightP p := ⟨_, rfl⟩
  have HZ := Lib.hid hz
  clear hz
  go_enter Try.func7, Try.ntmps7
  go_wp2_with (refine wpList_box28 rfl _ rfl p _ _ rfl ?_; refine Hid.out ?_)
  refine Lib.hid ?_
  intro g w1 hg hb haw
  have HA := Lib.hid haw; have HB := Lib.hid hb
  clear hb haw
  go_wp2_with (refine wpList_load28 rfl _ rfl _ rfl p _ _ (by exact HB.out) HAD.out ?_)
  refine (KH.out _ HA.out).mono ?_
  rintro E w2 ⟨rfl, haw⟩
  replace HA := Lib.hid (HA.out.next haw (by simp)); replace HB := Lib.hid (HB.out.on haw)
  clear haw
  cases z
  · have hh : headP p = 0 := by rw [HHP.out, ← HZ.out]; rfl
    rw [hh]
    clear hh
    go_wp2_with fail
    go_ret2
    exact ⟨_, by rw [build_no HZ.out.symm]; rfl, by rw [build_no HZ.out.symm]; exact Owns.nil _, HA.out⟩
  have hf := (right_iff p).1 HZ.out.symm
  have HF := Lib.hid hf
  have hhd : headP p = (hofP p : Int) := by rw [HHP.out, ← HZ.out]; rfl
  rw [hhd]
  have hho : hofP p = 40 ∨ hofP p = 48 := by unfold hofP; split <;> simp
  have hh0 : ((hofP p : Int) == 0) = false := beq_eq_false_iff_ne.2 (by omega)
  have p0 := hf.t0; have p1 := hf.t1; have p2 := hf.f0; have p3 := hf.f1; have p4 := hf.l0; have p5 := hf.l1; have p6 := hf.r0; have p7 := hf.r1; have p8 := hf.o0; have p9 := hf.o1; have pa := hf.all
  have i0 := HP.out.wf.id0; have i1 := HP.out.wf.id1
  clear hf hhd
  have HL : Hid (BS w w2 g (.slice none 0 0) p ov (.slice da p.d.length dc) []) := ⟨HA.out, HB.out, Owns.nil _, New.nil _, hg, by simp [Value.ownBlock]⟩
  clear HA HB
  have hc := HL.out.box.cells HAD.out
  have c1 := hc.tos; have c2 := hc.flow
  clear hc
  obtain ⟨L2, hL2⟩ : ∃ L : List Int, L = [] := ⟨_, rfl⟩
  rw [← hL2] at HL
  have hk2 : L2.length = 0 := by rw [hL2]; rfl
  have HQ2 := Lib.hid hL2
  clear hL2
  have HO3 := Lib.hid (HL.out.own.away ((Away.refl [] w2).alloc (.cells #[.int .u8 (96 + p.tos / 16), .int .u8 (p.tos % 16 * 16 + p.flow / 65536)] 5)) (by simp))
  go_wp2_with (at_builtin; refine wpList_app rfl _ _ rfl _ L2 [96 + p.tos / 16, p.tos % 16 * 16 + p.flow / 65536] rfl (by exact HO3.out) ⟨w2.heap.size, 0, none⟩ 2 2 rfl rfl (lit_cells _ [96 + p.tos / 16, p.tos % 16 * 16 + p.flow / 65536] _ rfl) (by omega) ?_; refine Hid.out ?_)
  refine Lib.hid ?_
  intro v3 w3 hown hgr hmv
  have HLn := Lib.hid (HL.out.grow hown hgr hmv)
  clear HL hown hgr hmv HO3
  have HL := HLn
  clear HLn
  obtain ⟨L3, hL3⟩ : ∃ L, L = L2 ++ [96 + p.tos / 16, p.tos % 16 * 16 + p.flow / 65536] := ⟨_, rfl⟩
  rw [← hL3] at HL
  have HQ3 := Lib.hid hL3
  have hk3 : L3.length = 2 := by rw [hL3]; simp only [List.length_append, List.length_cons, List.length_nil, hk2]
  clear hL3
  obtain ⟨a3, m3, hv3, -⟩ := HL.out.own.slc
  rw [hk3] at hv3
  subst hv3
  have c3 := (HL.out.box.cells HAD.out).flow
  go_wp2_with fail
  refine (two_c (.slice a3 2 m3) L3 (p.flow % 65536) _ (by exact HL.out.own) (by omega) (by omega) (by omega)).mono ?_
  rintro E w4 ⟨vn4, rfl, hown, haw, hmv⟩
  have HLn := Lib.hid (HL.out.step (Away.refl [] _) hown haw hmv)
  clear HL hown haw hmv
  have HL := HLn
  clear HLn
  obtain ⟨L4, hL4⟩ : ∃ L, L = L3 ++ [(p.flow % 65536) / 256, (p.flow % 65536) % 256] := ⟨_, rfl⟩
  rw [← hL4] at HL
  have HQ4 := Lib.hid hL4
  have hk4 : L4.length = 4 := by rw [hL4]; simp only [List.length_append, List.length_cons, List.length_nil, hk3]
  clear hL4
  obtain ⟨a4, m4, hv4, -⟩ := HL.out.own.slc
  rw [hk4] at hv4
  subst hv4
  have c4 := (HL.out.box.cells HAD.out).d
  go_wp2_with fail
  refine (two_c (.slice a4 4 m4) L4 ((hofP p : Int) - 40 + p.d.length) _ (by exact HL.out.own) (by omega) (by omega) (by omega)).mono ?_
  rintro E w5 ⟨vn5, rfl, hown, haw, hmv⟩
  have HLn := Lib.hid (HL.out.step (Away.refl [] _) hown haw hmv)
  clear HL hown haw hmv
  have HL := HLn
  clear HLn
  obtain ⟨L5, hL5⟩ : ∃ L, L = L4 ++ [((hofP p : Int) - 40 + p.d.length) / 256, ((hofP p : Int) - 40 + p.d.length) % 256] := ⟨_, rfl⟩
  rw [← hL5] at HL
  have HQ5 := Lib.hid hL5
  have hk5 : L5.length = 6 := by rw [hL5]; simp only [List.length_append, List.length_cons, List.length_nil, hk4]
  clear hL5
  obtain ⟨a5, m5, hv5, -⟩ := HL.out.own.slc
  rw [hk5] at hv5
  subst hv5
  have hc := HL.out.box.cells HAD.out
  have c5 := hc.proto; have c6 := hc.frag; have c7 := hc.ttl
  clear hc
  obtain ⟨nx, hnx⟩ : ∃ nx, nx = nextP p := ⟨_, rfl⟩
  have nb := nextP_bd HF.out
  rw [← hnx] at nb
  have HN := Lib.hid hnx
  have HNX : Hid (nextP p = if p.frag = true then 44 else p.proto) := rfl
  clear hnx
  generalize hfr : p.frag = fr at c6
  go_upto_if 47 with fail
  go_cut [6] (fun v wc => v = .int .i64 nx ∧ wc = w5)
  case first =>
    cases fr
    · obtain rfl : nx = p.proto := by rw [HN.out, HNX.out, hfr]; rfl
      go_wp2_with fail
      go_meet
      exact ⟨rfl, rfl⟩
    · obtain rfl : nx = 44 := by rw [HN.out, HNX.out, hfr]; rfl
      go_wp2_with fail
      go_meet
      exact ⟨rfl, rfl⟩
  case rest =>
  obtain ⟨hv6, hwc⟩ := hcut
  subst hwc
  rename Value => vs6
  subst hv6
  have HO8 := Lib.hid (HL.out.own.away ((Away.refl [] wc).alloc (.cells #[.int .u8 (nx), .int .u8 (p.ttl)] 5)) (by simp))
  go_wp2_with (at_builtin; refine wpList_app rfl _ _ rfl _ L5 [nx, p.ttl] rfl (by exact HO8.out) ⟨wc.heap.size, 0, none⟩ 2 2 rfl rfl (lit_cells _ [nx, p.ttl] _ rfl) (by omega) ?_; refine Hid.out ?_)
  refine Lib.hid ?_
  intro v8 w8 hown hgr hmv
  have HLn := Lib.hid (HL.out.grow hown hgr hmv)
  clear HL hown hgr hmv HO8
  have HL := HLn
  clear HLn
  obtain ⟨L8, hL8⟩ : ∃ L, L = L5 ++ [nx, p.ttl] := ⟨_, rfl⟩
  rw [← hL8] at HL
  have HQ8 := Lib.hid hL8
  have hk8 : L8.length = 8 := by rw [hL8]; simp only [List.length_append, List.length_cons, List.length_nil, hk5]
  clear hL8
  obtain ⟨a8, m8, hv8, -⟩ := HL.out.own.slc
  rw [hk8] at hv8
  subst hv8
  go_wp2_with fail
  go_loopw [5, 7] (fun bv i wr => ∃ (k : Nat), k ≤ 16 ∧ i = .int .i64 k ∧ BS w wr g bv p ov (.slice da p.d.length dc) (L8 ++ p.sb.take k)) (fun _ i _ => 16 - (intOf i).toNat)
  case atStart => exact ⟨0, by omega, rfl, by simpa using HL.out⟩
  case round =>
    obtain ⟨k, hk, rfl, hL⟩ := hrel
    have HLr := Lib.hid hL
    clear hL HL
    by_cases hlt : k < 16
    · obtain ⟨x, hx⟩ : ∃ x, p.sb[k]? = some x := ⟨_, List.getElem?_eq_getElem (by omega)⟩
      have cx : wr.cell? ⟨g, 3 + 1 + k, none⟩ = some (.int .u8 x) := range_cell HLr.out.box.srow k x hx
      have b1 : decide ((k : Int) < 16) = true := by simp; omega
      have b2 : 0 ≤ (k : Int) := by omega
      have b3 : (k : Int) < 16 := by omega
      have b4 : ((k : Int)).toNat = k := by omega
      have HS : Hid (L8 ++ p.sb.take k ++ [x] = L8 ++ p.sb.take (k + 1)) := by
        show _ = _
        rw [List.take_succ_eq_append_getElem (by omega), List.append_assoc]
        rw [List.getElem?_eq_getElem (by omega)] at hx
        simp only [Option.some.injEq] at hx
        rw [hx]
      clear hx
      have hkl : (L8 ++ p.sb.take k).length = 8 + k := by simp; omega
      obtain ⟨La, hLa⟩ : ∃ L, L = L8 ++ p.sb.take k := ⟨_, rfl⟩
      rw [← hLa] at HLr HS hkl
      clear hLa
      obtain ⟨ba, bc, hbv, -⟩ := HLr.out.own.slc
      rw [hkl] at hbv
      subst hbv
      have HOx := Lib.hid (HLr.out.own.away ((Away.refl [] wr).alloc (.cells #[.int .u8 x] 5)) (by simp))
      go_wp2_with (at_builtin; refine wpList_app rfl _ _ rfl _ La [x] rfl (by exact HOx.out) ⟨wr.heap.size, 0, none⟩ 1 1 rfl rfl (lit_cells _ [x] _ rfl) (by omega) ?_; refine Hid.out ?_)
      refine Lib.hid ?_
      intro v' w9 hown hgr hmv
      have HLn := Lib.hid (HLr.out.grow hown hgr hmv)
      rw [HS.out] at HLn
      clear hown hgr hmv HOx
      go_wp2_with fail
      go_roundw
      case rel => first | exact ⟨k + 1, by omega, by go_num, HLn.out⟩ | ((repeat apply Exists.intro); exact ⟨⟨k + 1, by omega, by go_num, HLn.out⟩, rfl⟩)
      case measure => simp [intOf]; omega
    · have b1 : decide ((k : Int) < 16) = false := by simp; omega
      obtain rfl : k = 16 := by omega
      rw [List.take_of_length_le (by omega)] at HLr
      obtain ⟨L10, hL10⟩ : ∃ L, L = L8 ++ p.sb := ⟨_, rfl⟩
      rw [← hL10] at HLr
      have HQ10 := Lib.hid hL10
      have hk10 : L10.length = 8 + 16 := by rw [hL10]; simp; omega
      clear hL10 hlt hk
      have HL := HLr
      clear HLr
      obtain ⟨a10, m10, hv10, -⟩ := HL.out.own.slc
      rw [hk10] at hv10
      subst hv10
      go_wp2_with fail
      go_loopw [5, 8] (fun bv i wr => ∃ (k : Nat), k ≤ 16 ∧ i = .int .i64 k ∧ BS w wr g bv p ov (.slice da p.d.length dc) (L10 ++ p.db.take k)) (fun _ i _ => 16 - (intOf i).toNat)
      case atStart => exact ⟨0, by omega, rfl, by simpa using HL.out⟩
      case round =>
        obtain ⟨k, hk, rfl, hL⟩ := hrel
        have HLr := Lib.hid hL
        clear hL HL
        by_cases hlt : k < 16
        · obtain ⟨x, hx⟩ : ∃ x, p.db[k]? = some x := ⟨_, List.getElem?_eq_getElem (by omega)⟩
          have cx : wr.cell? ⟨g, 20 + 1 + k, none⟩ = some (.int .u8 x) := range_cell (HLr.out.box.drow HAD.out) k x hx
          have b1 : decide ((k : Int) < 16) = true := by simp; omega
          have b2 : 0 ≤ (k : Int) := by omega
          have b3 : (k : Int) < 16 := by omega
          have b4 : ((k : Int)).toNat = k := by omega
          have HS : Hid (L10 ++ p.db.take k ++ [x] = L10 ++ p.db.take (k + 1)) := by
            show _ = _
            rw [List.take_succ_eq_append_getElem (by omega), List.append_assoc]
            rw [List.getElem?_eq_getElem (by omega)] at hx
            simp only [Option.some.injEq] at hx
            rw [hx]
          clear hx
          have hkl : (L10 ++ p.db.take k).length = 24 + k := by simp; omega
          obtain ⟨La, hLa⟩ : ∃ L, L = L10 ++ p.db.take k := ⟨_, rfl⟩
          rw [← hLa] at HLr HS hkl
          clear hLa
          obtain ⟨ba, bc, hbv, -⟩ := HLr.out.own.slc
          rw [hkl] at hbv
          subst hbv
          have HOx := Lib.hid (HLr.out.own.away ((Away.refl [] wr).alloc (.cells #[.int .u8 x] 5)) (by simp))
          go_wp2_with (at_builtin; refine wpList_app rfl _ _ rfl _ La [x] rfl (by exact HOx.out) ⟨wr.heap.size, 0, none⟩ 1 1 rfl rfl (lit_cells _ [x] _ rfl) (by omega) ?_; refine Hid.out ?_)
          refine Lib.hid ?_
          intro v' w9 hown hgr hmv
          have HLn := Lib.hid (HLr.out.grow hown hgr hmv)
          rw [HS.out] at HLn
          clear hown hgr hmv HOx
          go_wp2_with fail
          go_roundw
          case rel => first | exact ⟨k + 1, by omega, by go_num, HLn.out⟩ | ((repeat apply Exists.intro); exact ⟨⟨k + 1, by omega, by go_num, HLn.out⟩, rfl⟩)
          case measure => simp [intOf]; omega
        · have b1 : decide ((k : Int) < 16) = false := by simp; omega
          obtain rfl : k = 16 := by omega
          rw [List.take_of_length_le (by omega)] at HLr
          obtain ⟨L12, hL12⟩ : ∃ L, L = L10 ++ p.db := ⟨_, rfl⟩
          rw [← hL12] at HLr
          have HQ12 := Lib.hid hL12
          have hk12 : L12.length = 24 + 16 := by rw [hL12]; simp; omega
          clear hL12 hlt hk
          have HL := HLr
          clear HLr
          obtain ⟨a12, m12, hv12, -⟩ := HL.out.own.slc
          rw [hk12] at hv12
          subst hv12
          have c12 := (HL.out.box.cells HAD.out).frag
          rw [hfr] at c12
          cases fr
          · go_upto_region 27 with fail
            have c13 := (HL.out.box.cells HAD.out).d
            have HS9 := Lib.hid (HSD.out.on HL.out.aw)
            go_wp2_with (at_builtin; refine wpList_appS rfl _ _ rfl _ L12 p.d rfl (by exact HL.out.own) _ rfl (by exact HS9.out) (by omega) ?_; refine Hid.out ?_)
            refine Lib.hid ?_
            intro vz wz hown hawx hmvx
            have HLn := Lib.hid (HL.out.step (Away.refl [] _) hown hawx hmvx)
            clear HL hown hawx hmvx
            go_wp2_with fail
            go_ret2
            refine ⟨vz, by rw [build_ok HZ.out.symm]; rfl, ?_, HLn.out.aw⟩
            rw [build_ok HZ.out.symm]
            have ho := HLn.out.own
            have e : L12 ++ p.d = lay6 p := by
              unfold lay6 headB fixP
              rw [hfr, HQ12.out, HQ10.out, HQ8.out, HQ5.out, HQ4.out, HQ3.out, HQ2.out, HN.out]
              have w1' : 96 + p.tos / 16 = word p / 16777216 := by unfold word; omega
              have w2' : p.tos % 16 * 16 + p.flow / 65536 = word p / 65536 % 256 := by unfold word; omega
              have w3' : p.flow % 65536 / 256 = word p / 256 % 256 := by unfold word; omega
              have w4' : p.flow % 65536 % 256 = word p % 256 := by unfold word; omega
              rw [w1', w2', w3', w4']
              simp [q4, q2, lenP]
            rw [e] at ho
            exact ho
          · have hc := HL.out.box.cells HAD.out
            have e1 := hc.off; have e2 := hc.more; have e3 := hc.proto; have e4 := hc.id
            clear hc
            generalize hmr : p.more = mr at e2
            cases mr
            · go_upto_region 24 with fail
              have HO20 := Lib.hid (HL.out.own.away ((Away.refl [] wr).alloc (.cells #[.int .u8 (p.proto), .int .u8 (0)] 5)) (by simp))
              go_wp2_with (at_builtin; refine wpList_app rfl _ _ rfl _ L12 [p.proto, 0] rfl (by exact HO20.out) ⟨wr.heap.size, 0, none⟩ 2 2 rfl rfl (lit_cells _ [p.proto, 0] _ rfl) (by omega) ?_; refine Hid.out ?_)
              refine Lib.hid ?_
              intro v20 w20 hown hgr hmv
              have HLn := Lib.hid (HL.out.grow hown hgr hmv)
              clear HL hown hgr hmv HO20
              have HL := HLn
              clear HLn
              obtain ⟨L20, hL20⟩ : ∃ L, L = L12 ++ [p.proto, 0] := ⟨_, rfl⟩
              rw [← hL20] at HL
              have HQ20 := Lib.hid hL20
              have hk20 : L20.length = 42 := by rw [hL20]; simp only [List.length_append, List.length_cons, List.length_nil, hk12]
              clear hL20
              obtain ⟨a20, m20, hv20, -⟩ := HL.out.own.slc
              rw [hk20] at hv20
              subst hv20
              go_wp2_with fail
              refine (two_c (.slice a20 42 m20) L20 (p.off) _ (by exact HL.out.own) (by omega) (by omega) (by omega)).mono ?_
              rintro E w21 ⟨vn21, rfl, hown, haw, hmv⟩
              have HLn := Lib.hid (HL.out.step (Away.refl [] _) hown haw hmv)
              clear HL hown haw hmv
              have HL := HLn
              clear HLn
              obtain ⟨L21, hL21⟩ : ∃ L, L = L20 ++ [(p.off) / 256, (p.off) % 256] := ⟨_, rfl⟩
              rw [← hL21] at HL
              have HQ21 := Lib.hid hL21
              have hk21 : L21.length = 44 := by rw [hL21]; simp only [List.length_append, List.length_cons, List.length_nil, hk20]
              clear hL21
              obtain ⟨a21, m21, hv21, -⟩ := HL.out.own.slc
              rw [hk21] at hv21
              subst hv21
              have e5 := (HL.out.box.cells HAD.out).id
              have HO22 := Lib.hid (HL.out.own.away ((Away.refl [] w21).alloc (.cells #[.int .u8 (p.id / 16777216), .int .u8 (p.id / 65536 % 256), .int .u8 (p.id / 256 % 256), .int .u8 (p.id % 256)] 5)) (by simp))
              go_wp2_with (at_builtin; refine wpList_app rfl _ _ rfl _ L21 [p.id / 16777216, p.id / 65536 % 256, p.id / 256 % 256, p.id % 256] rfl (by exact HO22.out) ⟨w21.heap.size, 0, none⟩ 4 4 rfl rfl (lit_cells _ [p.id / 16777216, p.id / 65536 % 256, p.id / 256 % 256, p.id % 256] _ rfl) (by omega) ?_; refine Hid.out ?_)
              refine Lib.hid ?_
              intro v22 w22 hown hgr hmv
              have HLn := Lib.hid (HL.out.grow hown hgr hmv)
              clear HL hown hgr hmv HO22
              have HL := HLn
              clear HLn
              obtain ⟨L22, hL22⟩ : ∃ L, L = L21 ++ [p.id / 16777216, p.id / 65536 % 256, p.id / 256 % 256, p.id % 256] := ⟨_, rfl⟩
              rw [← hL22] at HL
              have HQ22 := Lib.hid hL22
              have hk22 : L22.length = 48 := by rw [hL22]; simp only [List.length_append, List.length_cons, List.length_nil, hk21]
              clear hL22
              obtain ⟨a22, m22, hv22, -⟩ := HL.out.own.slc
              rw [hk22] at hv22
              subst hv22
              have c13 := (HL.out.box.cells HAD.out).d
              have HS9 := Lib.hid (HSD.out.on HL.out.aw)
              go_wp2_with (at_builtin; refine wpList_appS rfl _ _ rfl _ L22 p.d rfl (by exact HL.out.own) _ rfl (by exact HS9.out) (by omega) ?_; refine Hid.out ?_)
              refine Lib.hid ?_
              intro vz wz hown hawx hmvx
              have HLn := Lib.hid (HL.out.step (Away.refl [] _) hown hawx hmvx)
              clear HL hown hawx hmvx
              go_wp2_with fail
              go_ret2
              refine ⟨vz, by rw [build_ok HZ.out.symm]; rfl, ?_, HLn.out.aw⟩
              rw [build_ok HZ.out.symm]
              have ho := HLn.out.own
              have e : L22 ++ p.d = lay6 p := by
                unfold lay6 headB fixP
                rw [hfr, HQ22.out, HQ21.out, HQ20.out, HQ12.out, HQ10.out, HQ8.out, HQ5.out, HQ4.out, HQ3.out, HQ2.out, HN.out]
                have w1' : 96 + p.tos / 16 = word p / 16777216 := by unfold word; omega
                have w2' : p.tos % 16 * 16 + p.flow / 65536 = word p / 65536 % 256 := by unfold word; omega
                have w3' : p.flow % 65536 / 256 = word p / 256 % 256 := by unfold word; omega
                have w4' : p.flow % 65536 % 256 = word p % 256 := by unfold word; omega
                rw [w1', w2', w3', w4']
                simp [q4, q2, lenP, fragP, placeP, hmr]
              rw [e] at ho
              exact ho
            · go_upto_region 24 with fail
              have HO20 := Lib.hid (HL.out.own.away ((Away.refl [] wr).alloc (.cells #[.int .u8 (p.proto), .int .u8 (0)] 5)) (by simp))
              go_wp2_with (at_builtin; refine wpList_app rfl _ _ rfl _ L12 [p.proto, 0] rfl (by exact HO20.out) ⟨wr.heap.size, 0, none⟩ 2 2 rfl rfl (lit_cells _ [p.proto, 0] _ rfl) (by omega) ?_; refine Hid.out ?_)
              refine Lib.hid ?_
              intro v20 w20 hown hgr hmv
              have HLn := Lib.hid (HL.out.grow hown hgr hmv)
              clear HL hown hgr hmv HO20
              have HL := HLn
              clear HLn
              obtain ⟨L20, hL20⟩ : ∃ L, L = L12 ++ [p.proto, 0] := ⟨_, rfl⟩
              rw [← hL20] at HL
              have HQ20 := Lib.hid hL20
              have hk20 : L20.length = 42 := by rw [hL20]; simp only [List.length_append, List.length_cons, List.length_nil, hk12]
              clear hL20
              obtain ⟨a20, m20, hv20, -⟩ := HL.out.own.slc
              rw [hk20] at hv20
              subst hv20
              go_wp2_with fail
              refine (two_c (.slice a20 42 m20) L20 (p.off + 1) _ (by exact HL.out.own) (by omega) (by omega) (by omega)).mono ?_
              rintro E w21 ⟨vn21, rfl, hown, haw, hmv⟩
              have HLn := Lib.hid (HL.out.step (Away.refl [] _) hown haw hmv)
              clear HL hown haw hmv
              have HL := HLn
              clear HLn
              obtain ⟨L21, hL21⟩ : ∃ L, L = L20 ++ [(p.off + 1) / 256, (p.off + 1) % 256] := ⟨_, rfl⟩
              rw [← hL21] at HL
              have HQ21 := Lib.hid hL21
              have hk21 : L21.length = 44 := by rw [hL21]; simp only [List.length_append, List.length_cons, List.length_nil, hk20]
              clear hL21
              obtain ⟨a21, m21, hv21, -⟩ := HL.out.own.slc
              rw [hk21] at hv21
              subst hv21
              have e5 := (HL.out.box.cells HAD.out).id
              have HO22 := Lib.hid (HL.out.own.away ((Away.refl [] w21).alloc (.cells #[.int .u8 (p.id / 16777216), .int .u8 (p.id / 65536 % 256), .int .u8 (p.id / 256 % 256), .int .u8 (p.id % 256)] 5)) (by simp))
              go_wp2_with (at_builtin; refine wpList_app rfl _ _ rfl _ L21 [p.id / 16777216, p.id / 65536 % 256, p.id / 256 % 256, p.id % 256] rfl (by exact HO22.out) ⟨w21.heap.size, 0, none⟩ 4 4 rfl rfl (lit_cells _ [p.id / 16777216, p.id / 65536 % 256, p.id / 256 % 256, p.id % 256] _ rfl) (by omega) ?_; refine Hid.out ?_)
              refine Lib.hid ?_
              intro v22 w22 hown hgr hmv
              have HLn := Lib.hid (HL.out.grow hown hgr hmv)
              clear HL hown hgr hmv HO22
              have HL := HLn
              clear HLn
              obtain ⟨L22, hL22⟩ : ∃ L, L = L21 ++ [p.id / 16777216, p.id / 65536 % 256, p.id / 256 % 256, p.id % 256] := ⟨_, rfl⟩
              rw [← hL22] at HL
              have HQ22 := Lib.hid hL22
              have hk22 : L22.length = 48 := by rw [hL22]; simp only [List.length_append, List.length_cons, List.length_nil, hk21]
              clear hL22
              obtain ⟨a22, m22, hv22, -⟩ := HL.out.own.slc
              rw [hk22] at hv22
              subst hv22
              have c13 := (HL.out.box.cells HAD.out).d
              have HS9 := Lib.hid (HSD.out.on HL.out.aw)
              go_wp2_with (at_builtin; refine wpList_appS rfl _ _ rfl _ L22 p.d rfl (by exact HL.out.own) _ rfl (by exact HS9.out) (by omega) ?_; refine Hid.out ?_)
              refine Lib.hid ?_
              intro vz wz hown hawx hmvx
              have HLn := Lib.hid (HL.out.step (Away.refl [] _) hown hawx hmvx)
              clear HL hown hawx hmvx
              go_wp2_with fail
              go_ret2
              refine ⟨vz, by rw [build_ok HZ.out.symm]; rfl, ?_, HLn.out.aw⟩
              rw [build_ok HZ.out.symm]
              have ho := HLn.out.own
              have e : L22 ++ p.d = lay6 p := by
                unfold lay6 headB fixP
                rw [hfr, HQ22.out, HQ21.out, HQ20.out, HQ12.out, HQ10.out, HQ8.out, HQ5.out, HQ4.out, HQ3.out, HQ2.out, HN.out]
                have w1' : 96 + p.tos / 16 = word p / 16777216 := by unfold word; omega
                have w2' : p.tos % 16 * 16 + p.flow / 65536 = word p / 65536 % 256 := by unfold word; omega
                have w3' : p.flow % 65536 / 256 = word p / 256 % 256 := by unfold word; omega
                have w4' : p.flow % 65536 % 256 = word p % 256 := by unfold word; omega
                rw [w1', w2', w3', w4']
                simp [q4, q2, lenP, fragP, placeP, hmr]
              rw [e] at ho
              exact ho
#print axioms rbuild_c
end Go.Proofs.Ytbmppdihceaacab
