/-
  Right, Head.
-/
import Derived.Test.YtkccpidgeecemaaGreatDoorPktA
import Derived.Test.YtkccpidgeecemaaGreatDoorPk6
import Derived.Deep.DrawnRows
import Derived.Deep.RegionHeld3
import Derived.BigQuiet
import Derived.BigCall
namespace Go.Proofs.YtkccpidgeecemaaGreatDoor.S6
open Go.ChangeShapes Go.WideShapes Go.ChangeAt Go.RowKit Num
set_option linter.unusedVariables false
set_option maxHeartbeats 4000000
set_option maxRecDepth 100000
theorem octet_c (n : Int) (w : World) : Calls Tryz.prog 43 #[.int .i64 n] w fun E w' => E = .returned (.bool (octP n)) ∧ w' = w := by
  unfold octP
  by_cases h0 : 0 ≤ n
  · have e0 : decide (0 ≤ n) = true := by simp [h0]
    go_enter Tryz.func43, Tryz.ntmps43
    go_wp2
    go_ret
    exact ⟨by rw [e0]; rfl, rfl⟩
  · have e0 : decide (0 ≤ n) = false := by simp [h0]
    go_enter Tryz.func43, Tryz.ntmps43
    go_wp2
    go_ret
    exact ⟨rfl, rfl⟩
theorem avalid6 (l : List Int) : avalidP 6 l = true := by unfold avalidP; rw [if_neg (by decide)]; rfl
theorem address_c (v : Int) (l : List Int) (hl : l.length = 16) (w : World) : Calls Tryz.prog 44 #[.agg (csA v l)] w fun E w' => E = .returned (.bool (decide (v = 6))) ∧ Away [] w w' := by
  obtain ⟨cs, hcs⟩ : ∃ c, c = csA v l := ⟨_, rfl⟩
  have r1 : rowAt (w.alloc (.cells cs 35)) w.heap.size = some (csA v l) := by rw [hcs]; exact rowAt_new w _ 35 (csA_size hl)
  have c1 : cs[0]? = some (.int .i64 v) := by rw [hcs]; exact csA_zero v l
  have HA : Hid (Away [] w (w.alloc (.cells cs 35))) := (Away.refl [] w).alloc _
  rw [← hcs]
  clear hcs
  have key := avalid_c v l hl
  have KEY : Hid (∀ w, Calls Tryz.prog 65 #[.agg (csA v l)] w fun e w' => e = .returned (.bool (avalidP v l)) ∧ Below w.heap.size w w') := key
  clear key
  by_cases hv : v = 6
  · subst hv
    rw [avalid6] at KEY
    go_enter Tryz.func44, Tryz.ntmps44
    go_wp2_with (refine wpList_load24 rfl _ rfl _ rfl _ (by assumption) ?_)
    refine (KEY.out _).mono ?_
    rintro E w' ⟨rfl, hb⟩
    have HB : Hid (Away [] w w') := HA.out.next (Away.of_below hb) (by simp)
    clear hb
    go_wp2_with fail
    go_ret
    exact ⟨rfl, HB.out⟩
  · have h1 : decide (v = 6) = false := by simp [hv]
    have h2 : (v == 6) = false := by simp [hv]
    rw [h1]
    go_enter Tryz.func44, Tryz.ntmps44
    go_wp2_with fail
    go_ret
    exact ⟨rfl, HA.out⟩
theorem placed_c (p : Pk) (ov dv : Value) (w : World) (hw : Wf p) (ho : Sl w ov p.o) (hd : Sl w dv p.d) :
    Calls Tryz.prog 45 #[.agg (csP p ov dv)] w fun E w' => E = .returned (.bool (placedP p.off p.more p.d.length)) ∧ Away [] w w' := by
  have ha := hw.ad
  obtain ⟨a, cap, rfl, -⟩ := hd
  have hn := hw.dn
  have hi := hw.off
  unfold i64ok at hi
  clear ho hw
  obtain ⟨z, hz⟩ : ∃ z, z = placedP p.off p.more p.d.length := ⟨_, rfl⟩
  rw [← hz]
  have HZ : Hid (z = placedP p.off p.more p.d.length) := hz
  clear hz
  go_enter Tryz.func45, Tryz.ntmps45
  go_wp2_with (refine wpList_box28 rfl _ rfl p _ _ rfl ?_; refine Hid.out ?_)
  refine Lib.hid ?_
  intro g w1 hg hb haw
  have hc := hb.cells ha
  have c1 := hc.off
  have c2 := hc.more
  have c3 := hc.d
  have HA : Hid (Away [] w w1) := haw
  clear hc hb haw hg ha
  generalize p.off = off at *
  generalize p.more = more at *
  generalize p.d.length = n at *
  have hdec : off < 0 ∨ (0 ≤ off ∧ 65528 < off) ∨ (0 ≤ off ∧ off ≤ 65528 ∧ off % 8 ≠ 0) ∨ (0 ≤ off ∧ off ≤ 65528 ∧ off % 8 = 0) := by omega
  rcases hdec with h | ⟨h1, h2⟩ | ⟨h1, h2, h3⟩ | ⟨h1, h2, h3⟩
  · obtain rfl : z = false := by rw [HZ.out]; unfold placedP; rw [show decide (0 ≤ off) = false from by simp; omega]; rfl
    go_wp2_with fail
    go_ret
    exact ⟨rfl, HA.out⟩
  · obtain rfl : z = false := by rw [HZ.out]; unfold placedP; rw [show decide (off ≤ 65528) = false from by simp; omega]; simp
    go_wp2_with fail
    go_ret
    exact ⟨rfl, HA.out⟩
  · obtain rfl : z = false := by rw [HZ.out]; unfold placedP; rw [show decide (off % 8 = 0) = false from by simp; omega]; simp
    have h4 : (off % 8 == 0) = false := by simp [h3]
    have h5 : (off % 8 != 0) = true := by simp [h3]
    clear h3
    go_wp2_with fail
    go_ret
    exact ⟨rfl, HA.out⟩
  · have h4 : (off % 8 == 0) = true := by simp [h3]
    have h5 : (off % 8 != 0) = false := by simp [h3]
    clear h3
    have HP : Hid (z = ((!more || decide (n % 8 = 0)) && (!(more || decide (0 < off)) || decide (n ≠ 0)) && decide (off + n ≤ 65535))) := by
      show _ = _
      rw [HZ.out]; unfold placedP; rw [show decide (0 ≤ off) = true from by simp; omega, show decide (off ≤ 65528) = true from by simp; omega, show decide (off % 8 = 0) = true from by simpa using h4]; simp
    clear HZ
    cases more
    · by_cases h6 : 0 < off
      · by_cases h7 : n = 0
        · subst h7
          obtain rfl : z = false := by rw [HP.out]; simp [h6]
          go_wp2_with fail
          go_ret
          exact ⟨rfl, HA.out⟩
        · have HQ : Hid (z = decide (off + n ≤ 65535)) := by show _ = _; rw [HP.out]; simp [h6, h7]
          have h8 : ((n : Int) == 0) = false := by simp; omega
          have h9 : decide ((n : Int) = 0) = false := by simp; omega
          clear HP h7
          go_wp2_with fail
          go_ret
          exact ⟨by rw [HQ.out]; rfl, HA.out⟩
      · have HQ : Hid (z = decide (off + n ≤ 65535)) := by show _ = _; rw [HP.out]; simp [h6]
        obtain rfl : off = 0 := by omega
        clear HP h6 h1 h2 h4 h5
        go_wp2_with fail
        go_ret
        exact ⟨by rw [HQ.out]; simp, HA.out⟩
    · by_cases h6 : n % 8 = 0
      · have h10 : ((n : Int) % 8 == 0) = true := by simp; omega
        have h11 : ((n : Int) % 8 != 0) = false := by simp; omega
        by_cases h7 : n = 0
        · subst h7
          obtain rfl : z = false := by rw [HP.out]; simp
          go_wp2_with fail
          go_ret
          exact ⟨rfl, HA.out⟩
        · have HQ : Hid (z = decide (off + n ≤ 65535)) := by show _ = _; rw [HP.out]; simp [h6, h7]
          have h8 : ((n : Int) == 0) = false := by simp; omega
          have h9 : decide ((n : Int) = 0) = false := by simp; omega
          clear HP h7 h6
          go_wp2_with fail
          go_ret
          exact ⟨by rw [HQ.out]; rfl, HA.out⟩
      · have h10 : ((n : Int) % 8 == 0) = false := by simp; omega
        have h11 : ((n : Int) % 8 != 0) = true := by simp; omega
        obtain rfl : z = false := by rw [HP.out]; simp [h6]
        clear h6
        go_wp2_with fail
        go_ret
        exact ⟨rfl, HA.out⟩
theorem bare_c (p : Pk) (ov dv : Value) (w : World) (ha : Ad p) :
    Calls Tryz.prog 46 #[.agg (csP p ov dv)] w fun E w' => E = .returned (.bool (bareP p)) ∧ Away [] w w' := by
  obtain ⟨z, hz⟩ : ∃ z, z = bareP p := ⟨_, rfl⟩
  rw [← hz]
  have HZ : Hid (z = bareP p) := hz
  unfold bareP at HZ
  clear hz
  go_enter Tryz.func46, Tryz.ntmps46
  go_wp2_with (refine wpList_box28 rfl _ rfl p _ _ rfl ?_; refine Hid.out ?_)
  refine Lib.hid ?_
  intro g w1 hg hb haw
  have hc := hb.cells ha
  have c1 := hc.off; have c2 := hc.more; have c3 := hc.id
  have HA : Hid (Away [] w w1) := haw
  clear hc hb haw hg ha
  generalize p.off = off at *
  generalize p.more = more at *
  generalize p.id = id at *
  by_cases h1 : id = 0
  · subst h1
    by_cases h2 : off = 0
    · subst h2
      obtain rfl : z = !more := by rw [HZ.out]; simp
      cases more
      · go_wp2_with fail
        go_ret
        exact ⟨rfl, HA.out⟩
      · go_wp2_with fail
        go_ret
        exact ⟨rfl, HA.out⟩
    · obtain rfl : z = false := by rw [HZ.out]; simp [h2]
      have h3 : (off == 0) = false := by simp [h2]
      clear h2
      go_wp2_with fail
      go_ret
      exact ⟨rfl, HA.out⟩
  · obtain rfl : z = false := by rw [HZ.out]; simp [h1]
    have h3 : (id == 0) = false := by simp [h1]
    clear h1
    go_wp2_with fail
    go_ret
    exact ⟨rfl, HA.out⟩
theorem headOf_c (p : Pk) (ov dv : Value) (w : World) (ha : Ad p) :
    Calls Tryz.prog 47 #[.agg (csP p ov dv)] w fun E w' => E = .returned (.int .i64 (hofP p)) ∧ Away [] w w' := by
  obtain ⟨z, hz⟩ : ∃ z : Int, z = hofP p := ⟨_, rfl⟩
  rw [← hz]
  have HZ : Hid (z = hofP p) := hz
  unfold hofP at HZ
  clear hz
  go_enter Tryz.func47, Tryz.ntmps47
  go_wp2_with (refine wpList_box28 rfl _ rfl p _ _ rfl ?_; refine Hid.out ?_)
  refine Lib.hid ?_
  intro g w1 hg hb haw
  have hc := hb.cells ha
  have c1 := hc.frag
  have HA : Hid (Away [] w w1) := haw
  clear hc hb haw hg ha
  generalize p.frag = fr at *
  cases fr
  · obtain rfl : z = 40 := by rw [HZ.out]; rfl
    go_wp2_with fail
    go_ret
    exact ⟨rfl, HA.out⟩
  · obtain rfl : z = 48 := by rw [HZ.out]; rfl
    go_wp2_with fail
    go_ret
    exact ⟨rfl, HA.out⟩
end Go.Proofs.YtkccpidgeecemaaGreatDoor.S6
namespace Go.Proofs.YtkccpidgeecemaaGreatDoor.S6
open Go.ChangeShapes Go.WideShapes Go.ChangeAt Go.RowKit Num
set_option linter.unusedVariables false
set_option maxHeartbeats 4000000
set_option maxRecDepth 100000
theorem wp_region_cls {C : World → Prop} {id : Nat} {Q : Exit → Act → World → Prop} {a : Act} {w : World} {l : List Oper} (hm : Tryz.prog.follows .mixedOrders = true) (hB : Region.lexB .any l.toArray = true) (hC : C w.drew)
    (h : wpQuiet Tryz.prog l.toArray C (fun a' => ∀ w', C w' → Q .normal a' w') l a) : (Code.region id l.toArray true).wp Tryz.prog Q a w :=
  wp_region_quiet (C := C) hm hB hC (by simpa using h)
theorem quiet_val {o : Oper} {a : Act} {C : World → Prop} {K : Act → Prop} (v : Value) (h : ∀ w, (execOp a.eval o).run Tryz.prog w = .ok (.value v) w) (hk : K (a.put o.dst v)) : o.quiet Tryz.prog a C K :=
  ⟨v, fun w _ => by unfold Oper.quietAt; rw [h w]; exact ⟨rfl, rfl⟩, hk⟩
theorem quiet_call {o : Oper} {a : Act} {C : World → Prop} {K : Act → Prop} (f : FuncId) (args : Array Value) (v : Value) (h : ∀ w, (execOp a.eval o).run Tryz.prog w = .ok (.enter f args) w) (hc : ∀ W, C W → Calls Tryz.prog f args W fun e w' => e = .returned v ∧ C w') (hk : K (a.put o.dst v)) : o.quiet Tryz.prog a C K :=
  ⟨v, fun w hw => by unfold Oper.quietAt; rw [h w]; exact ⟨rfl, hc w hw⟩, hk⟩
theorem ld3 {w : World} {ad : Addr} {z : Int} (h : w.cell? ad = some (.int .i64 z)) : (Instr.loadAt 3 (.pointer (some ad))).run Tryz.prog w = .ok (.int .i64 z) w := by
  simp [go_sem, Instr.loadAt, Instr.sureAddr, h]
theorem ld4 {w : World} {ad : Addr} {z : Bool} (h : w.cell? ad = some (.bool z)) : (Instr.loadAt 4 (.pointer (some ad))).run Tryz.prog w = .ok (.bool z) w := by
  simp [go_sem, Instr.loadAt, Instr.sureAddr, h]
theorem ld5 {w : World} {ad : Addr} {z : Int} (h : w.cell? ad = some (.int .u8 z)) : (Instr.loadAt 5 (.pointer (some ad))).run Tryz.prog w = .ok (.int .u8 z) w := by
  simp [go_sem, Instr.loadAt, Instr.sureAddr, h]
theorem ld25 {w : World} {ad : Addr} {z : Int} (h : w.cell? ad = some (.int .u32 z)) : (Instr.loadAt 36 (.pointer (some ad))).run Tryz.prog w = .ok (.int .u32 z) w := by
  simp [go_sem, Instr.loadAt, Instr.sureAddr, h]
theorem ld26 {w : World} {ad : Addr} {a : Option Addr} {n c : Nat} (h : w.cell? ad = some (.slice a n c)) : (Instr.loadAt 37 (.pointer (some ad))).run Tryz.prog w = .ok (.slice a n c) w := by
  simp [go_sem, Instr.loadAt, Instr.sureAddr, h]
theorem quiet_ld {o : Oper} {a : Act} {C : World → Prop} {K : Act → Prop} {t : TypeId} {v : Value} {ad : Addr} (x : Operand) (ho : o.op = .load t x) (hx : a.eval x = .pointer (some ad)) (hC : ∀ w, C w → (Instr.loadAt t (.pointer (some ad))).run Tryz.prog w = .ok v w) (hk : K (a.put o.dst v)) : o.quiet Tryz.prog a C K := by
  refine ⟨v, fun w hw => ?_, hk⟩
  unfold Oper.quietAt execOp
  simp only [ho, hx, Sem.run_bind, hC w hw, Result.andThen_ok]
  exact ⟨rfl, rfl⟩
theorem load28_run {w : World} {g : Nat} {p : Pk} {ov dv : Value} (hb : BoxP w g p ov dv) (ha : Ad p) : (Instr.loadAt 39 (.pointer (some ⟨g, 0, none⟩))).run Tryz.prog w = .ok (.agg (csP p ov dv)) w := by
  simp only [Instr.loadAt, Instr.sureAddr, Sem.run_bind, Sem.run_pure, Result.andThen]
  rw [run_loadVar_row w g 39 39 (csP p ov dv) (0, 0) _ hb Tryz.underlying39 rfl (by rw [csP_size ha]; exact info28)]
theorem load24m_run {w : World} {g k : Nat} {v : Int} {l : List Int} (hc : w.rangeAt g k (cellsA v l)) (hl : l.length = 16) : (Instr.loadAt 35 (.pointer (some ⟨g, k, none⟩))).run Tryz.prog w = .ok (.agg (csA v l)) w := by
  have h17 : (cellsA v l).length = 17 := by simp [cellsA, hl]
  have := run_loadVar_mid (P := Tryz.prog) w g k 35 (cellsA v l) _ hc Tryz.underlying35 rfl (by rw [h17]; exact info24)
  simp only [Instr.loadAt, Instr.sureAddr, Sem.run_bind, Sem.run_pure, Result.andThen]
  rw [this]; rfl
end Go.Proofs.YtkccpidgeecemaaGreatDoor.S6
namespace Go.Proofs.YtkccpidgeecemaaGreatDoor.S6
open Go.ChangeShapes Go.WideShapes Go.ChangeAt Go.RowKit Num
set_option linter.unusedVariables false
set_option maxHeartbeats 4000000
set_option maxRecDepth 100000
structure Pkt (w : World) (p : Pk) (ov dv : Value) : Prop where
  wf : Wf p
  o : Sl w ov p.o
  d : Sl w dv p.d
theorem Pkt.on {w w' : World} {p : Pk} {ov dv : Value} (h : Pkt w p ov dv) (hw : Away [] w w') : Pkt w' p ov dv := ⟨h.wf, h.o.on hw, h.d.on hw⟩
theorem right_c (p : Pk) (ov dv : Value) (w : World) (hp : Pkt w p ov dv) :
    Calls Tryz.prog 31 #[.agg (csP p ov dv)] w fun E w' => E = .returned (.bool (rightP p)) ∧ Away [] w w' := by
  have ha := hp.wf.ad
  have CLS : ∀ (f : FuncId) (g : Nat) (args : Array Value) (v : Value), (∀ w', Away [] w w' → Calls Tryz.prog f args w' fun E w'' => E = .returned v ∧ Away [] w' w'') →
      ∀ W, (Away [] w W ∧ BoxP W g p ov dv) → Calls Tryz.prog f args W fun E w'' => E = .returned v ∧ (Away [] w w'' ∧ BoxP w'' g p ov dv) :=
    fun f g args v h W hW => (h W hW.1).mono fun E w'' hk => ⟨hk.1, hW.1.next hk.2 (by simp), hW.2.on hk.2⟩
  have KO : ∀ n : Int, ∀ w', Away [] w w' → Calls Tryz.prog 43 #[.int .i64 n] w' fun E w'' => E = .returned (.bool (octP n)) ∧ Away [] w' w'' := fun n w' _ => (octet_c n w').mono fun E w'' h => ⟨h.1, by rw [h.2]; exact Away.refl _ _⟩
  have K1 := fun g => Lib.hid (CLS 43 g _ _ (KO p.tos))
  have K2 := fun g => Lib.hid (CLS 43 g _ _ (KO p.ttl))
  have K3 := fun g => Lib.hid (CLS 43 g _ _ (KO p.proto))
  have K4 := fun g => Lib.hid (CLS 44 g _ _ (fun w' _ => address_c p.sv p.sb hp.wf.sl w'))
  have K5 := fun g => Lib.hid (CLS 44 g _ _ (fun w' _ => address_c p.dv p.db hp.wf.dl w'))
  have KP := fun g => Lib.hid (CLS 45 g _ _ (fun w' h => placed_c p ov dv w' hp.wf (hp.o.on h) (hp.d.on h)))
  have KB := fun g => Lib.hid (CLS 46 g _ _ (fun w' _ => bare_c p ov dv w' ha))
  have KH := fun g => Lib.hid (CLS 47 g _ _ (fun w' _ => headOf_c p ov dv w' ha))
  clear CLS KO
  obtain ⟨hw, ⟨ao, capo, hov, -⟩, ⟨ad, capd, hdv, -⟩⟩ := hp
  have HOV := Lib.hid hov; have HDV := Lib.hid hdv
  clear hov hdv
  have hn := hw.dn
  have hm := hw.ol
  have hl1 := hw.sl
  have hl2 := hw.dl
  clear hw
  obtain ⟨z, hz⟩ : ∃ z, z = rightP p := ⟨_, rfl⟩
  rw [← hz]
  have HZ : Hid (z = rightP p) := hz
  unfold rightP at HZ
  clear hz
  have HAD : Hid (Ad p) := ha
  go_enter Tryz.func31, Tryz.ntmps31
  simp only [List.append_eq, List.cons_append, List.nil_append]
  go_wp2_with (refine wpList_box28 rfl _ rfl p _ _ rfl ?_; refine Hid.out ?_)
  refine Lib.hid ?_
  intro g w1 hg hb haw
  have HC : Hid (Away [] w w1.drew ∧ BoxP w1.drew g p ov dv) := ⟨haw.drew, hb⟩
  clear hb haw hg ha
  go_wp2_with fail
  replace K1 := K1 g; replace K2 := K2 g; replace K3 := K3 g; replace K4 := K4 g; replace K5 := K5 g; replace KP := KP g; replace KB := KB g; replace KH := KH g
  refine wp_region_cls (C := fun w' => Away [] w w' ∧ BoxP w' g p ov dv) (by kernel_rfl) (by kernel_rfl) HC.out ?_
  go_big_quiet_want; (refine quiet_val ?_ ?_ ?_; rotate_left; (intro w; go_simp; rfl); go_simp; go_big_quiet_on)
  go_big_quiet_want; refine quiet_ld _ rfl (ad := ⟨g, 0, none⟩) rfl (fun w' h => ld3 (h.2.cells HAD.out).v) ?_; go_simp; go_big_quiet_on
  go_big_quiet_want; (refine quiet_val ?_ ?_ ?_; rotate_left; (intro w; go_simp; rfl); go_simp; go_big_quiet_on)
  go_big_quiet_want; (refine quiet_val ?_ ?_ ?_; rotate_left; (intro w; go_simp; rfl); go_simp; go_big_quiet_on)
  generalize hb1 : (p.v == 6) = b1
  cases b1
  · rw [show decide (p.v = 6) = false from decide_eq_false (by simpa using hb1)] at HZ
    repeat (first | go_big_quiet_skip | (go_big_quiet_want; (refine quiet_val ?_ ?_ ?_; rotate_left; (intro w; go_simp; rfl); go_simp; go_big_quiet_on)))
    refine wpQuiet_nil ?_
    intro V hV
    have HV := Lib.hid hV.1
    clear hV
    obtain rfl : z = false := by rw [HZ.out]; simp
    go_wp2_with fail
    go_ret
    exact ⟨rfl, HV.out⟩
  rw [show decide (p.v = 6) = true from decide_eq_true (by simpa using hb1)] at HZ
  go_big_quiet_want; (refine quiet_val ?_ ?_ ?_; rotate_left; (intro w; go_simp; rfl); go_simp; go_big_quiet_on)
  go_big_quiet_want; refine quiet_ld _ rfl (ad := ⟨g, 40, none⟩) rfl (fun w' h => ld4 (h.2.cells HAD.out).df) ?_; go_simp; go_big_quiet_on
  iterate 3 (go_big_quiet_want; (refine quiet_val ?_ ?_ ?_; rotate_left; (intro w; go_simp; rfl); go_simp; go_big_quiet_on))
  generalize hb2 : (!p.df) = b2
  cases b2
  · rw [show p.df = true from by simpa using hb2] at HZ
    repeat (first | go_big_quiet_skip | (go_big_quiet_want; (refine quiet_val ?_ ?_ ?_; rotate_left; (intro w; go_simp; rfl); go_simp; go_big_quiet_on)))
    refine wpQuiet_nil ?_
    intro V hV
    have HV := Lib.hid hV.1
    clear hV
    obtain rfl : z = false := by rw [HZ.out]; simp
    go_wp2_with fail
    go_ret
    exact ⟨rfl, HV.out⟩
  rw [show p.df = false from by simpa using hb2] at HZ
  go_big_quiet_want; (refine quiet_val ?_ ?_ ?_; rotate_left; (intro w; go_simp; rfl); go_simp; go_big_quiet_on)
  go_big_quiet_want; refine quiet_ld _ rfl (ad := ⟨g, 44, none⟩) rfl (fun w' h => ld26 (by have := (h.2.cells HAD.out).o; rw [HOV.out] at this; exact this)) ?_; go_simp; go_big_quiet_on
  iterate 4 (go_big_quiet_want; (refine quiet_val ?_ ?_ ?_; rotate_left; (intro w; go_simp; rfl); go_simp; go_big_quiet_on))
  generalize hb3 : ((p.o.length : Int) == 0) = b3
  cases b3
  · rw [show decide (p.o.length = 0) = false from decide_eq_false (by have := beq_eq_false_iff_ne.1 hb3; omega)] at HZ
    repeat (first | go_big_quiet_skip | (go_big_quiet_want; (refine quiet_val ?_ ?_ ?_; rotate_left; (intro w; go_simp; rfl); go_simp; go_big_quiet_on)))
    refine wpQuiet_nil ?_
    intro V hV
    have HV := Lib.hid hV.1
    clear hV
    obtain rfl : z = false := by rw [HZ.out]; simp
    go_wp2_with fail
    go_ret
    exact ⟨rfl, HV.out⟩
  rw [show decide (p.o.length = 0) = true from decide_eq_true (by have := beq_iff_eq.1 hb3; omega)] at HZ
  go_big_quiet_want; (refine quiet_val ?_ ?_ ?_; rotate_left; (intro w; go_simp; rfl); go_simp; go_big_quiet_on)
  go_big_quiet_want; refine quiet_ld _ rfl (ad := ⟨g, 2, none⟩) rfl (fun w' h => ld3 (h.2.cells HAD.out).flow) ?_; go_simp; go_big_quiet_on
  iterate 3 (go_big_quiet_want; (refine quiet_val ?_ ?_ ?_; rotate_left; (intro w; go_simp; rfl); go_simp; go_big_quiet_on))
  generalize hb4 : (decide (0 ≤ p.flow)) = b4 at HZ ⊢
  cases b4
  · skip
    repeat (first | go_big_quiet_skip | (go_big_quiet_want; (refine quiet_val ?_ ?_ ?_; rotate_left; (intro w; go_simp; rfl); go_simp; go_big_quiet_on)))
    refine wpQuiet_nil ?_
    intro V hV
    have HV := Lib.hid hV.1
    clear hV
    obtain rfl : z = false := by rw [HZ.out]; simp
    go_wp2_with fail
    go_ret
    exact ⟨rfl, HV.out⟩
  go_big_quiet_want; (refine quiet_val ?_ ?_ ?_; rotate_left; (intro w; go_simp; rfl); go_simp; go_big_quiet_on)
  go_big_quiet_want; refine quiet_ld _ rfl (ad := ⟨g, 2, none⟩) rfl (fun w' h => ld3 (h.2.cells HAD.out).flow) ?_; go_simp; go_big_quiet_on
  iterate 3 (go_big_quiet_want; (refine quiet_val ?_ ?_ ?_; rotate_left; (intro w; go_simp; rfl); go_simp; go_big_quiet_on))
  generalize hb5 : (decide (p.flow < 1048576)) = b5 at HZ ⊢
  cases b5
  · skip
    repeat (first | go_big_quiet_skip | (go_big_quiet_want; (refine quiet_val ?_ ?_ ?_; rotate_left; (intro w; go_simp; rfl); go_simp; go_big_quiet_on)))
    refine wpQuiet_nil ?_
    intro V hV
    have HV := Lib.hid hV.1
    clear hV
    obtain rfl : z = false := by rw [HZ.out]; simp
    go_wp2_with fail
    go_ret
    exact ⟨rfl, HV.out⟩
  go_big_quiet_want; (refine quiet_val ?_ ?_ ?_; rotate_left; (intro w; go_simp; rfl); go_simp; go_big_quiet_on)
  go_big_quiet_want; refine quiet_ld _ rfl (ad := ⟨g, 1, none⟩) rfl (fun w' h => ld3 (h.2.cells HAD.out).tos) ?_; go_simp; go_big_quiet_on
  go_big_quiet_want; refine quiet_call 43 #[.int .i64 p.tos] (.bool (octP p.tos)) ?_ K1.out ?_
  · intro w; go_simp; done
  go_simp; go_big_quiet_on
  go_big_quiet_want; (refine quiet_val ?_ ?_ ?_; rotate_left; (intro w; go_simp; rfl); go_simp; go_big_quiet_on)
  go_big_quiet_want; (refine quiet_val ?_ ?_ ?_; rotate_left; (intro w; go_simp; rfl); go_simp; go_big_quiet_on)
  generalize hb6 : (octP p.tos) = b6 at HZ ⊢
  cases b6
  · skip
    repeat (first | go_big_quiet_skip | (go_big_quiet_want; (refine quiet_val ?_ ?_ ?_; rotate_left; (intro w; go_simp; rfl); go_simp; go_big_quiet_on)))
    refine wpQuiet_nil ?_
    intro V hV
    have HV := Lib.hid hV.1
    clear hV
    obtain rfl : z = false := by rw [HZ.out]; simp
    go_wp2_with fail
    go_ret
    exact ⟨rfl, HV.out⟩
  go_big_quiet_want; (refine quiet_val ?_ ?_ ?_; rotate_left; (intro w; go_simp; rfl); go_simp; go_big_quiet_on)
  go_big_quiet_want; refine quiet_ld _ rfl (ad := ⟨g, 38, none⟩) rfl (fun w' h => ld3 (h.2.cells HAD.out).ttl) ?_; go_simp; go_big_quiet_on
  go_big_quiet_want; refine quiet_call 43 #[.int .i64 p.ttl] (.bool (octP p.ttl)) ?_ K2.out ?_
  · intro w; go_simp; done
  go_simp; go_big_quiet_on
  go_big_quiet_want; (refine quiet_val ?_ ?_ ?_; rotate_left; (intro w; go_simp; rfl); go_simp; go_big_quiet_on)
  go_big_quiet_want; (refine quiet_val ?_ ?_ ?_; rotate_left; (intro w; go_simp; rfl); go_simp; go_big_quiet_on)
  generalize hb7 : (octP p.ttl) = b7 at HZ ⊢
  cases b7
  · skip
    repeat (first | go_big_quiet_skip | (go_big_quiet_want; (refine quiet_val ?_ ?_ ?_; rotate_left; (intro w; go_simp; rfl); go_simp; go_big_quiet_on)))
    refine wpQuiet_nil ?_
    intro V hV
    have HV := Lib.hid hV.1
    clear hV
    obtain rfl : z = false := by rw [HZ.out]; simp
    go_wp2_with fail
    go_ret
    exact ⟨rfl, HV.out⟩
  go_big_quiet_want; (refine quiet_val ?_ ?_ ?_; rotate_left; (intro w; go_simp; rfl); go_simp; go_big_quiet_on)
  go_big_quiet_want; refine quiet_ld _ rfl (ad := ⟨g, 37, none⟩) rfl (fun w' h => ld3 (h.2.cells HAD.out).proto) ?_; go_simp; go_big_quiet_on
  go_big_quiet_want; refine quiet_call 43 #[.int .i64 p.proto] (.bool (octP p.proto)) ?_ K3.out ?_
  · intro w; go_simp; done
  go_simp; go_big_quiet_on
  go_big_quiet_want; (refine quiet_val ?_ ?_ ?_; rotate_left; (intro w; go_simp; rfl); go_simp; go_big_quiet_on)
  go_big_quiet_want; (refine quiet_val ?_ ?_ ?_; rotate_left; (intro w; go_simp; rfl); go_simp; go_big_quiet_on)
  generalize hb8 : (octP p.proto) = b8 at HZ ⊢
  cases b8
  · skip
    repeat (first | go_big_quiet_skip | (go_big_quiet_want; (refine quiet_val ?_ ?_ ?_; rotate_left; (intro w; go_simp; rfl); go_simp; go_big_quiet_on)))
    refine wpQuiet_nil ?_
    intro V hV
    have HV := Lib.hid hV.1
    clear hV
    obtain rfl : z = false := by rw [HZ.out]; simp
    go_wp2_with fail
    go_ret
    exact ⟨rfl, HV.out⟩
  go_big_quiet_want; (refine quiet_val ?_ ?_ ?_; rotate_left; (intro w; go_simp; rfl); go_simp; go_big_quiet_on)
  go_big_quiet_want; refine quiet_ld _ rfl (ad := ⟨g, 37, none⟩) rfl (fun w' h => ld3 (h.2.cells HAD.out).proto) ?_; go_simp; go_big_quiet_on
  iterate 3 (go_big_quiet_want; (refine quiet_val ?_ ?_ ?_; rotate_left; (intro w; go_simp; rfl); go_simp; go_big_quiet_on))
  generalize hb9 : (p.proto != 44) = b9
  cases b9
  · rw [show decide (p.proto ≠ 44) = false from decide_eq_false (by simpa using hb9)] at HZ
    repeat (first | go_big_quiet_skip | (go_big_quiet_want; (refine quiet_val ?_ ?_ ?_; rotate_left; (intro w; go_simp; rfl); go_simp; go_big_quiet_on)))
    refine wpQuiet_nil ?_
    intro V hV
    have HV := Lib.hid hV.1
    clear hV
    obtain rfl : z = false := by rw [HZ.out]; simp
    go_wp2_with fail
    go_ret
    exact ⟨rfl, HV.out⟩
  rw [show decide (p.proto ≠ 44) = true from decide_eq_true (by simpa using hb9)] at HZ
  go_big_quiet_want; (refine quiet_val ?_ ?_ ?_; rotate_left; (intro w; go_simp; rfl); go_simp; go_big_quiet_on)
  go_big_quiet_want; refine quiet_ld _ rfl (ad := ⟨g, 3, none⟩) rfl (fun w' h => load24m_run h.2.srow hl1) ?_; go_simp; go_big_quiet_on
  go_big_quiet_want; refine quiet_call 44 #[.agg (csA p.sv p.sb)] (.bool (decide (p.sv = 6))) ?_ K4.out ?_
  · intro w; go_simp; done
  go_simp; go_big_quiet_on
  go_big_quiet_want; (refine quiet_val ?_ ?_ ?_; rotate_left; (intro w; go_simp; rfl); go_simp; go_big_quiet_on)
  go_big_quiet_want; (refine quiet_val ?_ ?_ ?_; rotate_left; (intro w; go_simp; rfl); go_simp; go_big_quiet_on)
  generalize hb10 : (decide (p.sv = 6)) = b10 at HZ ⊢
  cases b10
  · skip
    repeat (first | go_big_quiet_skip | (go_big_quiet_want; (refine quiet_val ?_ ?_ ?_; rotate_left; (intro w; go_simp; rfl); go_simp; go_big_quiet_on)))
    refine wpQuiet_nil ?_
    intro V hV
    have HV := Lib.hid hV.1
    clear hV
    obtain rfl : z = false := by rw [HZ.out]; simp
    go_wp2_with fail
    go_ret
    exact ⟨rfl, HV.out⟩
  go_big_quiet_want; (refine quiet_val ?_ ?_ ?_; rotate_left; (intro w; go_simp; rfl); go_simp; go_big_quiet_on)
  go_big_quiet_want; refine quiet_ld _ rfl (ad := ⟨g, 20, none⟩) rfl (fun w' h => load24m_run (h.2.drow HAD.out) hl2) ?_; go_simp; go_big_quiet_on
  go_big_quiet_want; refine quiet_call 44 #[.agg (csA p.dv p.db)] (.bool (decide (p.dv = 6))) ?_ K5.out ?_
  · intro w; go_simp; done
  go_simp; go_big_quiet_on
  go_big_quiet_want; (refine quiet_val ?_ ?_ ?_; rotate_left; (intro w; go_simp; rfl); go_simp; go_big_quiet_on)
  go_big_quiet_want; (refine quiet_val ?_ ?_ ?_; rotate_left; (intro w; go_simp; rfl); go_simp; go_big_quiet_on)
  generalize hb11 : (decide (p.dv = 6)) = b11 at HZ ⊢
  cases b11
  · skip
    repeat (first | go_big_quiet_skip | (go_big_quiet_want; (refine quiet_val ?_ ?_ ?_; rotate_left; (intro w; go_simp; rfl); go_simp; go_big_quiet_on)))
    refine wpQuiet_nil ?_
    intro V hV
    have HV := Lib.hid hV.1
    clear hV
    obtain rfl : z = false := by rw [HZ.out]; simp
    go_wp2_with fail
    go_ret
    exact ⟨rfl, HV.out⟩
  go_big_quiet_want; refine quiet_ld _ rfl (ad := ⟨g, 0, none⟩) rfl (fun w' h => load28_run h.2 HAD.out) ?_; go_simp; go_big_quiet_on
  go_big_quiet_want; refine quiet_call 45 #[.agg (csP p ov dv)] (.bool (placedP p.off p.more p.d.length)) ?_ KP.out ?_
  · intro w; go_simp; done
  go_simp; go_big_quiet_on
  go_big_quiet_want; (refine quiet_val ?_ ?_ ?_; rotate_left; (intro w; go_simp; rfl); go_simp; go_big_quiet_on)
  go_big_quiet_want; (refine quiet_val ?_ ?_ ?_; rotate_left; (intro w; go_simp; rfl); go_simp; go_big_quiet_on)
  generalize hb12 : (placedP p.off p.more p.d.length) = b12 at HZ ⊢
  cases b12
  · skip
    repeat (first | go_big_quiet_skip | (go_big_quiet_want; (refine quiet_val ?_ ?_ ?_; rotate_left; (intro w; go_simp; rfl); go_simp; go_big_quiet_on)))
    refine wpQuiet_nil ?_
    intro V hV
    have HV := Lib.hid hV.1
    clear hV
    obtain rfl : z = false := by rw [HZ.out]; simp
    go_wp2_with fail
    go_ret
    exact ⟨rfl, HV.out⟩
  go_big_quiet_want; (refine quiet_val ?_ ?_ ?_; rotate_left; (intro w; go_simp; rfl); go_simp; go_big_quiet_on)
  go_big_quiet_want; refine quiet_ld _ rfl (ad := ⟨g, 42, none⟩) rfl (fun w' h => ld4 (h.2.cells HAD.out).frag) ?_; go_simp; go_big_quiet_on
  go_big_quiet_want; (refine quiet_val ?_ ?_ ?_; rotate_left; (intro w; go_simp; rfl); go_simp; go_big_quiet_on)
  generalize hfr : p.frag = fr at HZ ⊢
  cases fr
  · skip
    go_big_quiet_want; refine quiet_ld _ rfl (ad := ⟨g, 0, none⟩) rfl (fun w' h => load28_run h.2 HAD.out) ?_; go_simp; go_big_quiet_on
    go_big_quiet_want; refine quiet_call 46 #[.agg (csP p ov dv)] (.bool (bareP p)) ?_ KB.out ?_
    · intro w; go_simp; done
    go_simp; go_big_quiet_on
    iterate 3 (go_big_quiet_want; (refine quiet_val ?_ ?_ ?_; rotate_left; (intro w; go_simp; rfl); go_simp; go_big_quiet_on))
    generalize bareP p = b13 at HZ ⊢
    cases b13
    · repeat (first | go_big_quiet_skip | (go_big_quiet_want; (refine quiet_val ?_ ?_ ?_; rotate_left; (intro w; go_simp; rfl); go_simp; go_big_quiet_on)))
      refine wpQuiet_nil ?_
      intro V hV
      have HV := Lib.hid hV.1
      clear hV
      obtain rfl : z = false := by rw [HZ.out]; simp
      go_wp2_with fail
      go_ret
      exact ⟨rfl, HV.out⟩
    have HQ : Hid (z = decide (hofP p - 40 + p.d.length ≤ 65535)) := by show _ = _; rw [HZ.out]; simp
    clear HZ
    have hhh : hofP p = 40 ∨ hofP p = 48 := by unfold hofP; split <;> simp
    generalize hofP p = hh at *
    go_big_quiet_want; refine quiet_ld _ rfl (ad := ⟨g, 0, none⟩) rfl (fun w' h => load28_run h.2 HAD.out) ?_; go_simp; go_big_quiet_on
    go_big_quiet_want; refine quiet_call 47 #[.agg (csP p ov dv)] (.int .i64 hh) ?_ KH.out ?_
    · intro w; go_simp; done
    go_simp; go_big_quiet_on
    go_big_quiet_want; (refine quiet_val ?_ ?_ ?_; rotate_left; (intro w; go_simp; rfl); go_simp; go_big_quiet_on)
    go_big_quiet_want; (refine quiet_val ?_ ?_ ?_; rotate_left; (intro w; go_simp; rfl); go_simp; go_big_quiet_on)
    go_big_quiet_want; refine quiet_ld _ rfl (ad := ⟨g, 45, none⟩) rfl (fun w' h => ld26 (by have := (h.2.cells HAD.out).d; rw [HDV.out] at this; exact this)) ?_; go_simp; go_big_quiet_on
    iterate 5 (go_big_quiet_want; (refine quiet_val ?_ ?_ ?_; rotate_left; (intro w; go_simp; rfl); go_simp; go_big_quiet_on))
    refine wpQuiet_nil ?_
    intro V hV
    have HV := Lib.hid hV.1
    clear hV
    go_wp2_with fail
    go_ret
    refine ⟨?_, HV.out⟩
    rw [HQ.out]
    have ew : IntKind.i64.wrap (IntKind.i64.wrap ((hh : Int) - 40) + p.d.length) = (hh : Int) - 40 + p.d.length := by simp only [IntKind.wrap_i64]; omega
    show Ending.returned (.bool (decide (IntKind.i64.wrap (IntKind.i64.wrap ((hh : Int) - 40) + p.d.length) ≤ 65535))) = _
    rw [ew]
    exact ret_bool (by rw [decide_eq_decide]; omega)
  · skip
    go_big_quiet_skip
    go_big_quiet_skip
    iterate 3 (go_big_quiet_want; (refine quiet_val ?_ ?_ ?_; rotate_left; (intro w; go_simp; rfl); go_simp; go_big_quiet_on))
    have HQ : Hid (z = decide (hofP p - 40 + p.d.length ≤ 65535)) := by show _ = _; rw [HZ.out]; simp
    clear HZ
    have hhh : hofP p = 40 ∨ hofP p = 48 := by unfold hofP; split <;> simp
    generalize hofP p = hh at *
    go_big_quiet_want; refine quiet_ld _ rfl (ad := ⟨g, 0, none⟩) rfl (fun w' h => load28_run h.2 HAD.out) ?_; go_simp; go_big_quiet_on
    go_big_quiet_want; refine quiet_call 47 #[.agg (csP p ov dv)] (.int .i64 hh) ?_ KH.out ?_
    · intro w; go_simp; done
    go_simp; go_big_quiet_on
    go_big_quiet_want; (refine quiet_val ?_ ?_ ?_; rotate_left; (intro w; go_simp; rfl); go_simp; go_big_quiet_on)
    go_big_quiet_want; (refine quiet_val ?_ ?_ ?_; rotate_left; (intro w; go_simp; rfl); go_simp; go_big_quiet_on)
    go_big_quiet_want; refine quiet_ld _ rfl (ad := ⟨g, 45, none⟩) rfl (fun w' h => ld26 (by have := (h.2.cells HAD.out).d; rw [HDV.out] at this; exact this)) ?_; go_simp; go_big_quiet_on
    iterate 5 (go_big_quiet_want; (refine quiet_val ?_ ?_ ?_; rotate_left; (intro w; go_simp; rfl); go_simp; go_big_quiet_on))
    refine wpQuiet_nil ?_
    intro V hV
    have HV := Lib.hid hV.1
    clear hV
    go_wp2_with fail
    go_ret
    refine ⟨?_, HV.out⟩
    rw [HQ.out]
    have ew : IntKind.i64.wrap (IntKind.i64.wrap ((hh : Int) - 40) + p.d.length) = (hh : Int) - 40 + p.d.length := by simp only [IntKind.wrap_i64]; omega
    show Ending.returned (.bool (decide (IntKind.i64.wrap (IntKind.i64.wrap ((hh : Int) - 40) + p.d.length) ≤ 65535))) = _
    rw [ew]
    exact ret_bool (by rw [decide_eq_decide]; omega)
end Go.Proofs.YtkccpidgeecemaaGreatDoor.S6
