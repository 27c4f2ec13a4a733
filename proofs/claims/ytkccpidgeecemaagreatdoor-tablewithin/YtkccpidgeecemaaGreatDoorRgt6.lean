/-
  Right, Head.
-/
import Derived.Test.YtkccpidgeecemaaGreatDoorFld6
import Derived.Test.YtkccpidgeecemaaGreatDoorQt6
namespace Go.Proofs.YtkccpidgeecemaaGreatDoor.S6
open Go.ChangeShapes Go.WideShapes Go.ChangeAt Go.RowKit Num
set_option linter.unusedVariables false
set_option maxHeartbeats 4000000
set_option maxRecDepth 100000

/-- A packet that can be read. -/
structure Pkt (w : World) (p : Pk) (ov dv : Value) : Prop where
  wf : Wf p
  o : Sl w ov p.o
  d : Sl w dv p.d
theorem Pkt.on {w w' : World} {p : Pk} {ov dv : Value} (h : Pkt w p ov dv) (hw : Away [] w w') : Pkt w' p ov dv := ⟨h.wf, h.o.on hw, h.d.on hw⟩

theorem right_c (p : Pk) (ov dv : Value) (w : World) (hp : Pkt w p ov dv) :
    Calls Tryz.prog 31 #[.agg (csP p ov dv)] w fun E w' => E = .returned (.bool (rightP p)) ∧ Away [] w w' := by
  have ha := hp.wf.ad
  have CLS : ∀ (f : FuncId) (g : Nat) (args : Array Value) (v : Value), (∀ w', Away [] w w' → Calls Tryz.prog f args w' fun E w'' => E = .returned v ∧ Away [] w' w'') →
      ∀ W, (Away [] w W ∧ BoxP W g p ov dv) → Calls Tryz.prog f args W fun E w'' => E = .returned v ∧ (Away [] w w'' ∧ BoxP w'' g p ov dv) :=
    fun f g args v h W hW => (h W hW.1).mono fun E w'' hk => ⟨hk.1, hW.1.next hk.2 (by simp), hW.2.on hk.2⟩
  have KO : ∀ n : Int, ∀ w', Away [] w w' → Calls Tryz.prog 43 #[.int .i64 n] w' fun E w'' => E = .returned (.bool (octP n)) ∧ Away [] w' w'' := fun n w' _ => (octet_c n w').mono fun E w'' h => ⟨h.1, by rw [h.2]; exact Away.refl _ _⟩
  have K1 := fun g => Lib.hid (CLS 43 g _ _ (KO p.tos))
  have K2 := fun g => Lib.hid (CLS 43 g _ _ (KO p.ttl))
  have K3 := fun g => Lib.hid (CLS 43 g _ _ (KO p.proto))
  have K4 := fun g => Lib.hid (CLS 44 g _ _ (fun w' _ => address_c p.sv p.sb hp.wf.sl w'))
  have K5 := fun g => Lib.hid (CLS 44 g _ _ (fun w' _ => address_c p.dv p.db hp.wf.dl w'))
  have KP := fun g => Lib.hid (CLS 45 g _ _ (fun w' h => placed_c p ov dv w' hp.wf (hp.o.on h) (hp.d.on h)))
  have KB := fun g => Lib.hid (CLS 46 g _ _ (fun w' _ => bare_c p ov dv w' ha))
  have KH := fun g => Lib.hid (CLS 47 g _ _ (fun w' _ => headOf_c p ov dv w' ha))
  clear CLS KO
  obtain ⟨hw, ⟨ao, capo, hov, -⟩, ⟨ad, capd, hdv, -⟩⟩ := hp
  have HOV := Lib.hid hov; have HDV := Lib.hid hdv
  clear hov hdv
  have hn := hw.dn
  have hm := hw.ol
  have hl1 := hw.sl
  have hl2 := hw.dl
  clear hw
  obtain ⟨z, hz⟩ : ∃ z, z = rightP p := ⟨_, rfl⟩
  rw [← hz]
  have HZ : Hid (z = rightP p) := hz
  unfold rightP at HZ
  clear hz
  have HAD : Hid (Ad p) := ha
  go_enter Tryz.func31, Tryz.ntmps31
  simp only [List.append_eq, List.cons_append, List.nil_append]
  go_wp2_with (refine wpList_box28 rfl _ rfl p _ _ rfl ?_; refine Hid.out ?_)
  refine Lib.hid ?_
  intro g w1 hg hb haw
  have HC : Hid (Away [] w w1.drew ∧ BoxP w1.drew g p ov dv) := ⟨haw.drew, hb⟩
  clear hb haw hg ha
  go_wp2_with fail
  replace K1 := K1 g; replace K2 := K2 g; replace K3 := K3 g; replace K4 := K4 g; replace K5 := K5 g; replace KP := KP g; replace KB := KB g; replace KH := KH g
  refine wp_region_cls (C := fun w' => Away [] w w' ∧ BoxP w' g p ov dv) (by kernel_rfl) (by kernel_rfl) HC.out ?_
  go_big_quiet_want; (refine quiet_val ?_ ?_ ?_; rotate_left; (intro w; go_simp; rfl); go_simp; go_big_quiet_on)
  go_big_quiet_want; refine quiet_ld _ rfl (ad := ⟨g, 0, none⟩) rfl (fun w' h => ld3 (h.2.cells HAD.out).v) ?_; go_simp; go_big_quiet_on
  go_big_quiet_want; (refine quiet_val ?_ ?_ ?_; rotate_left; (intro w; go_simp; rfl); go_simp; go_big_quiet_on)
  go_big_quiet_want; (refine quiet_val ?_ ?_ ?_; rotate_left; (intro w; go_simp; rfl); go_simp; go_big_quiet_on)
  generalize hb1 : (p.v == 6) = b1
  cases b1
  · rw [show decide (p.v = 6) = false from decide_eq_false (by simpa using hb1)] at HZ
    repeat (first | go_big_quiet_skip | (go_big_quiet_want; (refine quiet_val ?_ ?_ ?_; rotate_left; (intro w; go_simp; rfl); go_simp; go_big_quiet_on)))
    refine wpQuiet_nil ?_
    intro V hV
    have HV := Lib.hid hV.1
    clear hV
    obtain rfl : z = false := by rw [HZ.out]; simp
    go_wp2_with fail
    go_ret
    exact ⟨rfl, HV.out⟩
  rw [show decide (p.v = 6) = true from decide_eq_true (by simpa using hb1)] at HZ
  go_big_quiet_want; (refine quiet_val ?_ ?_ ?_; rotate_left; (intro w; go_simp; rfl); go_simp; go_big_quiet_on)
  go_big_quiet_want; refine quiet_ld _ rfl (ad := ⟨g, 40, none⟩) rfl (fun w' h => ld4 (h.2.cells HAD.out).df) ?_; go_simp; go_big_quiet_on
  go_big_quiet_want; (refine quiet_val ?_ ?_ ?_; rotate_left; (intro w; go_simp; rfl); go_simp; go_big_quiet_on)
  go_big_quiet_want; (refine quiet_val ?_ ?_ ?_; rotate_left; (intro w; go_simp; rfl); go_simp; go_big_quiet_on)
  go_big_quiet_want; (refine quiet_val ?_ ?_ ?_; rotate_left; (intro w; go_simp; rfl); go_simp; go_big_quiet_on)
  generalize hb2 : (!p.df) = b2
  cases b2
  · rw [show p.df = true from by simpa using hb2] at HZ
    repeat (first | go_big_quiet_skip | (go_big_quiet_want; (refine quiet_val ?_ ?_ ?_; rotate_left; (intro w; go_simp; rfl); go_simp; go_big_quiet_on)))
    refine wpQuiet_nil ?_
    intro V hV
    have HV := Lib.hid hV.1
    clear hV
    obtain rfl : z = false := by rw [HZ.out]; simp
    go_wp2_with fail
    go_ret
    exact ⟨rfl, HV.out⟩
  rw [show p.df = false from by simpa using hb2] at HZ
  go_big_quiet_want; (refine quiet_val ?_ ?_ ?_; rotate_left; (intro w; go_simp; rfl); go_simp; go_big_quiet_on)
  go_big_quiet_want; refine quiet_ld _ rfl (ad := ⟨g, 44, none⟩) rfl (fun w' h => ld26 (by have := (h.2.cells HAD.out).o; rw [HOV.out] at this; exact this)) ?_; go_simp; go_big_quiet_on
  go_big_quiet_want; (refine quiet_val ?_ ?_ ?_; rotate_left; (intro w; go_simp; rfl); go_simp; go_big_quiet_on)
  go_big_quiet_want; (refine quiet_val ?_ ?_ ?_; rotate_left; (intro w; go_simp; rfl); go_simp; go_big_quiet_on)
  go_big_quiet_want; (refine quiet_val ?_ ?_ ?_; rotate_left; (intro w; go_simp; rfl); go_simp; go_big_quiet_on)
  go_big_quiet_want; (refine quiet_val ?_ ?_ ?_; rotate_left; (intro w; go_simp; rfl); go_simp; go_big_quiet_on)
  generalize hb3 : ((p.o.length : Int) == 0) = b3
  cases b3
  · rw [show decide (p.o.length = 0) = false from decide_eq_false (by have := beq_eq_false_iff_ne.1 hb3; omega)] at HZ
    repeat (first | go_big_quiet_skip | (go_big_quiet_want; (refine quiet_val ?_ ?_ ?_; rotate_left; (intro w; go_simp; rfl); go_simp; go_big_quiet_on)))
    refine wpQuiet_nil ?_
    intro V hV
    have HV := Lib.hid hV.1
    clear hV
    obtain rfl : z = false := by rw [HZ.out]; simp
    go_wp2_with fail
    go_ret
    exact ⟨rfl, HV.out⟩
  rw [show decide (p.o.length = 0) = true from decide_eq_true (by have := beq_iff_eq.1 hb3; omega)] at HZ
  go_big_quiet_want; (refine quiet_val ?_ ?_ ?_; rotate_left; (intro w; go_simp; rfl); go_simp; go_big_quiet_on)
  go_big_quiet_want; refine quiet_ld _ rfl (ad := ⟨g, 2, none⟩) rfl (fun w' h => ld3 (h.2.cells HAD.out).flow) ?_; go_simp; go_big_quiet_on
  go_big_quiet_want; (refine quiet_val ?_ ?_ ?_; rotate_left; (intro w; go_simp; rfl); go_simp; go_big_quiet_on)
  go_big_quiet_want; (refine quiet_val ?_ ?_ ?_; rotate_left; (intro w; go_simp; rfl); go_simp; go_big_quiet_on)
  go_big_quiet_want; (refine quiet_val ?_ ?_ ?_; rotate_left; (intro w; go_simp; rfl); go_simp; go_big_quiet_on)
  generalize hb4 : (decide (0 ≤ p.flow)) = b4 at HZ ⊢
  cases b4
  · skip
    repeat (first | go_big_quiet_skip | (go_big_quiet_want; (refine quiet_val ?_ ?_ ?_; rotate_left; (intro w; go_simp; rfl); go_simp; go_big_quiet_on)))
    refine wpQuiet_nil ?_
    intro V hV
    have HV := Lib.hid hV.1
    clear hV
    obtain rfl : z = false := by rw [HZ.out]; simp
    go_wp2_with fail
    go_ret
    exact ⟨rfl, HV.out⟩
  go_big_quiet_want; (refine quiet_val ?_ ?_ ?_; rotate_left; (intro w; go_simp; rfl); go_simp; go_big_quiet_on)
  go_big_quiet_want; refine quiet_ld _ rfl (ad := ⟨g, 2, none⟩) rfl (fun w' h => ld3 (h.2.cells HAD.out).flow) ?_; go_simp; go_big_quiet_on
  go_big_quiet_want; (refine quiet_val ?_ ?_ ?_; rotate_left; (intro w; go_simp; rfl); go_simp; go_big_quiet_on)
  go_big_quiet_want; (refine quiet_val ?_ ?_ ?_; rotate_left; (intro w; go_simp; rfl); go_simp; go_big_quiet_on)
  go_big_quiet_want; (refine quiet_val ?_ ?_ ?_; rotate_left; (intro w; go_simp; rfl); go_simp; go_big_quiet_on)
  generalize hb5 : (decide (p.flow < 1048576)) = b5 at HZ ⊢
  cases b5
  · skip
    repeat (first | go_big_quiet_skip | (go_big_quiet_want; (refine quiet_val ?_ ?_ ?_; rotate_left; (intro w; go_simp; rfl); go_simp; go_big_quiet_on)))
    refine wpQuiet_nil ?_
    intro V hV
    have HV := Lib.hid hV.1
    clear hV
    obtain rfl : z = false := by rw [HZ.out]; simp
    go_wp2_with fail
    go_ret
    exact ⟨rfl, HV.out⟩
  go_big_quiet_want; (refine quiet_val ?_ ?_ ?_; rotate_left; (intro w; go_simp; rfl); go_simp; go_big_quiet_on)
  go_big_quiet_want; refine quiet_ld _ rfl (ad := ⟨g, 1, none⟩) rfl (fun w' h => ld3 (h.2.cells HAD.out).tos) ?_; go_simp; go_big_quiet_on
  go_big_quiet_want; refine quiet_call 43 #[.int .i64 p.tos] (.bool (octP p.tos)) ?_ K1.out ?_
  · intro w; go_simp; done
  go_simp; go_big_quiet_on
  go_big_quiet_want; (refine quiet_val ?_ ?_ ?_; rotate_left; (intro w; go_simp; rfl); go_simp; go_big_quiet_on)
  go_big_quiet_want; (refine quiet_val ?_ ?_ ?_; rotate_left; (intro w; go_simp; rfl); go_simp; go_big_quiet_on)
  generalize hb6 : (octP p.tos) = b6 at HZ ⊢
  cases b6
  · skip
    repeat (first | go_big_quiet_skip | (go_big_quiet_want; (refine quiet_val ?_ ?_ ?_; rotate_left; (intro w; go_simp; rfl); go_simp; go_big_quiet_on)))
    refine wpQuiet_nil ?_
    intro V hV
    have HV := Lib.hid hV.1
    clear hV
    obtain rfl : z = false := by rw [HZ.out]; simp
    go_wp2_with fail
    go_ret
    exact ⟨rfl, HV.out⟩
  go_big_quiet_want; (refine quiet_val ?_ ?_ ?_; rotate_left; (intro w; go_simp; rfl); go_simp; go_big_quiet_on)
  go_big_quiet_want; refine quiet_ld _ rfl (ad := ⟨g, 38, none⟩) rfl (fun w' h => ld3 (h.2.cells HAD.out).ttl) ?_; go_simp; go_big_quiet_on
  go_big_quiet_want; refine quiet_call 43 #[.int .i64 p.ttl] (.bool (octP p.ttl)) ?_ K2.out ?_
  · intro w; go_simp; done
  go_simp; go_big_quiet_on
  go_big_quiet_want; (refine quiet_val ?_ ?_ ?_; rotate_left; (intro w; go_simp; rfl); go_simp; go_big_quiet_on)
  go_big_quiet_want; (refine quiet_val ?_ ?_ ?_; rotate_left; (intro w; go_simp; rfl); go_simp; go_big_quiet_on)
  generalize hb7 : (octP p.ttl) = b7 at HZ ⊢
  cases b7
  · skip
    repeat (first | go_big_quiet_skip | (go_big_quiet_want; (refine quiet_val ?_ ?_ ?_; rotate_left; (intro w; go_simp; rfl); go_simp; go_big_quiet_on)))
    refine wpQuiet_nil ?_
    intro V hV
    have HV := Lib.hid hV.1
    clear hV
    obtain rfl : z = false := by rw [HZ.out]; simp
    go_wp2_with fail
    go_ret
    exact ⟨rfl, HV.out⟩
  go_big_quiet_want; (refine quiet_val ?_ ?_ ?_; rotate_left; (intro w; go_simp; rfl); go_simp; go_big_quiet_on)
  go_big_quiet_want; refine quiet_ld _ rfl (ad := ⟨g, 37, none⟩) rfl (fun w' h => ld3 (h.2.cells HAD.out).proto) ?_; go_simp; go_big_quiet_on
  go_big_quiet_want; refine quiet_call 43 #[.int .i64 p.proto] (.bool (octP p.proto)) ?_ K3.out ?_
  · intro w; go_simp; done
  go_simp; go_big_quiet_on
  go_big_quiet_want; (refine quiet_val ?_ ?_ ?_; rotate_left; (intro w; go_simp; rfl); go_simp; go_big_quiet_on)
  go_big_quiet_want; (refine quiet_val ?_ ?_ ?_; rotate_left; (intro w; go_simp; rfl); go_simp; go_big_quiet_on)
  generalize hb8 : (octP p.proto) = b8 at HZ ⊢
  cases b8
  · skip
    repeat (first | go_big_quiet_skip | (go_big_quiet_want; (refine quiet_val ?_ ?_ ?_; rotate_left; (intro w; go_simp; rfl); go_simp; go_big_quiet_on)))
    refine wpQuiet_nil ?_
    intro V hV
    have HV := Lib.hid hV.1
    clear hV
    obtain rfl : z = false := by rw [HZ.out]; simp
    go_wp2_with fail
    go_ret
    exact ⟨rfl, HV.out⟩
  go_big_quiet_want; (refine quiet_val ?_ ?_ ?_; rotate_left; (intro w; go_simp; rfl); go_simp; go_big_quiet_on)
  go_big_quiet_want; refine quiet_ld _ rfl (ad := ⟨g, 37, none⟩) rfl (fun w' h => ld3 (h.2.cells HAD.out).proto) ?_; go_simp; go_big_quiet_on
  go_big_quiet_want; (refine quiet_val ?_ ?_ ?_; rotate_left; (intro w; go_simp; rfl); go_simp; go_big_quiet_on)
  go_big_quiet_want; (refine quiet_val ?_ ?_ ?_; rotate_left; (intro w; go_simp; rfl); go_simp; go_big_quiet_on)
  go_big_quiet_want; (refine quiet_val ?_ ?_ ?_; rotate_left; (intro w; go_simp; rfl); go_simp; go_big_quiet_on)
  generalize hb9 : (p.proto != 44) = b9
  cases b9
  · rw [show decide (p.proto ≠ 44) = false from decide_eq_false (by simpa using hb9)] at HZ
    repeat (first | go_big_quiet_skip | (go_big_quiet_want; (refine quiet_val ?_ ?_ ?_; rotate_left; (intro w; go_simp; rfl); go_simp; go_big_quiet_on)))
    refine wpQuiet_nil ?_
    intro V hV
    have HV := Lib.hid hV.1
    clear hV
    obtain rfl : z = false := by rw [HZ.out]; simp
    go_wp2_with fail
    go_ret
    exact ⟨rfl, HV.out⟩
  rw [show decide (p.proto ≠ 44) = true from decide_eq_true (by simpa using hb9)] at HZ
  go_big_quiet_want; (refine quiet_val ?_ ?_ ?_; rotate_left; (intro w; go_simp; rfl); go_simp; go_big_quiet_on)
  go_big_quiet_want; refine quiet_ld _ rfl (ad := ⟨g, 3, none⟩) rfl (fun w' h => load24m_run h.2.srow hl1) ?_; go_simp; go_big_quiet_on
  go_big_quiet_want; refine quiet_call 44 #[.agg (csA p.sv p.sb)] (.bool (decide (p.sv = 6))) ?_ K4.out ?_
  · intro w; go_simp; done
  go_simp; go_big_quiet_on
  go_big_quiet_want; (refine quiet_val ?_ ?_ ?_; rotate_left; (intro w; go_simp; rfl); go_simp; go_big_quiet_on)
  go_big_quiet_want; (refine quiet_val ?_ ?_ ?_; rotate_left; (intro w; go_simp; rfl); go_simp; go_big_quiet_on)
  generalize hb10 : (decide (p.sv = 6)) = b10 at HZ ⊢
  cases b10
  · skip
    repeat (first | go_big_quiet_skip | (go_big_quiet_want; (refine quiet_val ?_ ?_ ?_; rotate_left; (intro w; go_simp; rfl); go_simp; go_big_quiet_on)))
    refine wpQuiet_nil ?_
    intro V hV
    have HV := Lib.hid hV.1
    clear hV
    obtain rfl : z = false := by rw [HZ.out]; simp
    go_wp2_with fail
    go_ret
    exact ⟨rfl, HV.out⟩
  go_big_quiet_want; (refine quiet_val ?_ ?_ ?_; rotate_left; (intro w; go_simp; rfl); go_simp; go_big_quiet_on)
  go_big_quiet_want; refine quiet_ld _ rfl (ad := ⟨g, 20, none⟩) rfl (fun w' h => load24m_run (h.2.drow HAD.out) hl2) ?_; go_simp; go_big_quiet_on
  go_big_quiet_want; refine quiet_call 44 #[.agg (csA p.dv p.db)] (.bool (decide (p.dv = 6))) ?_ K5.out ?_
  · intro w; go_simp; done
  go_simp; go_big_quiet_on
  go_big_quiet_want; (refine quiet_val ?_ ?_ ?_; rotate_left; (intro w; go_simp; rfl); go_simp; go_big_quiet_on)
  go_big_quiet_want; (refine quiet_val ?_ ?_ ?_; rotate_left; (intro w; go_simp; rfl); go_simp; go_big_quiet_on)
  generalize hb11 : (decide (p.dv = 6)) = b11 at HZ ⊢
  cases b11
  · skip
    repeat (first | go_big_quiet_skip | (go_big_quiet_want; (refine quiet_val ?_ ?_ ?_; rotate_left; (intro w; go_simp; rfl); go_simp; go_big_quiet_on)))
    refine wpQuiet_nil ?_
    intro V hV
    have HV := Lib.hid hV.1
    clear hV
    obtain rfl : z = false := by rw [HZ.out]; simp
    go_wp2_with fail
    go_ret
    exact ⟨rfl, HV.out⟩
  go_big_quiet_want; refine quiet_ld _ rfl (ad := ⟨g, 0, none⟩) rfl (fun w' h => load28_run h.2 HAD.out) ?_; go_simp; go_big_quiet_on
  go_big_quiet_want; refine quiet_call 45 #[.agg (csP p ov dv)] (.bool (placedP p.off p.more p.d.length)) ?_ KP.out ?_
  · intro w; go_simp; done
  go_simp; go_big_quiet_on
  go_big_quiet_want; (refine quiet_val ?_ ?_ ?_; rotate_left; (intro w; go_simp; rfl); go_simp; go_big_quiet_on)
  go_big_quiet_want; (refine quiet_val ?_ ?_ ?_; rotate_left; (intro w; go_simp; rfl); go_simp; go_big_quiet_on)
  generalize hb12 : (placedP p.off p.more p.d.length) = b12 at HZ ⊢
  cases b12
  · skip
    repeat (first | go_big_quiet_skip | (go_big_quiet_want; (refine quiet_val ?_ ?_ ?_; rotate_left; (intro w; go_simp; rfl); go_simp; go_big_quiet_on)))
    refine wpQuiet_nil ?_
    intro V hV
    have HV := Lib.hid hV.1
    clear hV
    obtain rfl : z = false := by rw [HZ.out]; simp
    go_wp2_with fail
    go_ret
    exact ⟨rfl, HV.out⟩
  go_big_quiet_want; (refine quiet_val ?_ ?_ ?_; rotate_left; (intro w; go_simp; rfl); go_simp; go_big_quiet_on)
  go_big_quiet_want; refine quiet_ld _ rfl (ad := ⟨g, 42, none⟩) rfl (fun w' h => ld4 (h.2.cells HAD.out).frag) ?_; go_simp; go_big_quiet_on
  go_big_quiet_want; (refine quiet_val ?_ ?_ ?_; rotate_left; (intro w; go_simp; rfl); go_simp; go_big_quiet_on)
  generalize hfr : p.frag = fr at HZ ⊢
  cases fr
  · skip
    go_big_quiet_want; refine quiet_ld _ rfl (ad := ⟨g, 0, none⟩) rfl (fun w' h => load28_run h.2 HAD.out) ?_; go_simp; go_big_quiet_on
    go_big_quiet_want; refine quiet_call 46 #[.agg (csP p ov dv)] (.bool (bareP p)) ?_ KB.out ?_
    · intro w; go_simp; done
    go_simp; go_big_quiet_on
    go_big_quiet_want; (refine quiet_val ?_ ?_ ?_; rotate_left; (intro w; go_simp; rfl); go_simp; go_big_quiet_on)
    go_big_quiet_want; (refine quiet_val ?_ ?_ ?_; rotate_left; (intro w; go_simp; rfl); go_simp; go_big_quiet_on)
    go_big_quiet_want; (refine quiet_val ?_ ?_ ?_; rotate_left; (intro w; go_simp; rfl); go_simp; go_big_quiet_on)
    generalize bareP p = b13 at HZ ⊢
    cases b13
    · repeat (first | go_big_quiet_skip | (go_big_quiet_want; (refine quiet_val ?_ ?_ ?_; rotate_left; (intro w; go_simp; rfl); go_simp; go_big_quiet_on)))
      refine wpQuiet_nil ?_
      intro V hV
      have HV := Lib.hid hV.1
      clear hV
      obtain rfl : z = false := by rw [HZ.out]; simp
      go_wp2_with fail
      go_ret
      exact ⟨rfl, HV.out⟩
    have HQ : Hid (z = decide (hofP p - 40 + p.d.length ≤ 65535)) := by show _ = _; rw [HZ.out]; simp
    clear HZ
    have hhh : hofP p = 40 ∨ hofP p = 48 := by unfold hofP; split <;> simp
    generalize hofP p = hh at *
    go_big_quiet_want; refine quiet_ld _ rfl (ad := ⟨g, 0, none⟩) rfl (fun w' h => load28_run h.2 HAD.out) ?_; go_simp; go_big_quiet_on
    go_big_quiet_want; refine quiet_call 47 #[.agg (csP p ov dv)] (.int .i64 hh) ?_ KH.out ?_
    · intro w; go_simp; done
    go_simp; go_big_quiet_on
    go_big_quiet_want; (refine quiet_val ?_ ?_ ?_; rotate_left; (intro w; go_simp; rfl); go_simp; go_big_quiet_on)
    go_big_quiet_want; (refine quiet_val ?_ ?_ ?_; rotate_left; (intro w; go_simp; rfl); go_simp; go_big_quiet_on)
    go_big_quiet_want; refine quiet_ld _ rfl (ad := ⟨g, 45, none⟩) rfl (fun w' h => ld26 (by have := (h.2.cells HAD.out).d; rw [HDV.out] at this; exact this)) ?_; go_simp; go_big_quiet_on
    go_big_quiet_want; (refine quiet_val ?_ ?_ ?_; rotate_left; (intro w; go_simp; rfl); go_simp; go_big_quiet_on)
    go_big_quiet_want; (refine quiet_val ?_ ?_ ?_; rotate_left; (intro w; go_simp; rfl); go_simp; go_big_quiet_on)
    go_big_quiet_want; (refine quiet_val ?_ ?_ ?_; rotate_left; (intro w; go_simp; rfl); go_simp; go_big_quiet_on)
    go_big_quiet_want; (refine quiet_val ?_ ?_ ?_; rotate_left; (intro w; go_simp; rfl); go_simp; go_big_quiet_on)
    go_big_quiet_want; (refine quiet_val ?_ ?_ ?_; rotate_left; (intro w; go_simp; rfl); go_simp; go_big_quiet_on)
    refine wpQuiet_nil ?_
    intro V hV
    have HV := Lib.hid hV.1
    clear hV
    go_wp2_with fail
    go_ret
    refine ⟨?_, HV.out⟩
    rw [HQ.out]
    have ew : IntKind.i64.wrap (IntKind.i64.wrap ((hh : Int) - 40) + p.d.length) = (hh : Int) - 40 + p.d.length := by simp only [IntKind.wrap_i64]; omega
    show Ending.returned (.bool (decide (IntKind.i64.wrap (IntKind.i64.wrap ((hh : Int) - 40) + p.d.length) ≤ 65535))) = _
    rw [ew]
    exact ret_bool (by rw [decide_eq_decide]; omega)
  · skip
    go_big_quiet_skip
    go_big_quiet_skip
    go_big_quiet_want; (refine quiet_val ?_ ?_ ?_; rotate_left; (intro w; go_simp; rfl); go_simp; go_big_quiet_on)
    go_big_quiet_want; (refine quiet_val ?_ ?_ ?_; rotate_left; (intro w; go_simp; rfl); go_simp; go_big_quiet_on)
    go_big_quiet_want; (refine quiet_val ?_ ?_ ?_; rotate_left; (intro w; go_simp; rfl); go_simp; go_big_quiet_on)
    have HQ : Hid (z = decide (hofP p - 40 + p.d.length ≤ 65535)) := by show _ = _; rw [HZ.out]; simp
    clear HZ
    have hhh : hofP p = 40 ∨ hofP p = 48 := by unfold hofP; split <;> simp
    generalize hofP p = hh at *
    go_big_quiet_want; refine quiet_ld _ rfl (ad := ⟨g, 0, none⟩) rfl (fun w' h => load28_run h.2 HAD.out) ?_; go_simp; go_big_quiet_on
    go_big_quiet_want; refine quiet_call 47 #[.agg (csP p ov dv)] (.int .i64 hh) ?_ KH.out ?_
    · intro w; go_simp; done
    go_simp; go_big_quiet_on
    go_big_quiet_want; (refine quiet_val ?_ ?_ ?_; rotate_left; (intro w; go_simp; rfl); go_simp; go_big_quiet_on)
    go_big_quiet_want; (refine quiet_val ?_ ?_ ?_; rotate_left; (intro w; go_simp; rfl); go_simp; go_big_quiet_on)
    go_big_quiet_want; refine quiet_ld _ rfl (ad := ⟨g, 45, none⟩) rfl (fun w' h => ld26 (by have := (h.2.cells HAD.out).d; rw [HDV.out] at this; exact this)) ?_; go_simp; go_big_quiet_on
    go_big_quiet_want; (refine quiet_val ?_ ?_ ?_; rotate_left; (intro w; go_simp; rfl); go_simp; go_big_quiet_on)
    go_big_quiet_want; (refine quiet_val ?_ ?_ ?_; rotate_left; (intro w; go_simp; rfl); go_simp; go_big_quiet_on)
    go_big_quiet_want; (refine quiet_val ?_ ?_ ?_; rotate_left; (intro w; go_simp; rfl); go_simp; go_big_quiet_on)
    go_big_quiet_want; (refine quiet_val ?_ ?_ ?_; rotate_left; (intro w; go_simp; rfl); go_simp; go_big_quiet_on)
    go_big_quiet_want; (refine quiet_val ?_ ?_ ?_; rotate_left; (intro w; go_simp; rfl); go_simp; go_big_quiet_on)
    refine wpQuiet_nil ?_
    intro V hV
    have HV := Lib.hid hV.1
    clear hV
    go_wp2_with fail
    go_ret
    refine ⟨?_, HV.out⟩
    rw [HQ.out]
    have ew : IntKind.i64.wrap (IntKind.i64.wrap ((hh : Int) - 40) + p.d.length) = (hh : Int) - 40 + p.d.length := by simp only [IntKind.wrap_i64]; omega
    show Ending.returned (.bool (decide (IntKind.i64.wrap (IntKind.i64.wrap ((hh : Int) - 40) + p.d.length) ≤ 65535))) = _
    rw [ew]
    exact ret_bool (by rw [decide_eq_decide]; omega)
end Go.Proofs.YtkccpidgeecemaaGreatDoor.S6
