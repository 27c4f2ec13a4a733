/-
  pieces of package cut.
-/
import Derived.Test.YtbkeilboneaejaaGreatDoorFr
namespace Go.Proofs.YtbkeilboneaejaaGreatDoor
open Go.ChangeShapes Go.WideShapes Go.ChangeAt Go.RowKit Num S6
set_option linter.unusedVariables false
set_option maxHeartbeats 4000000
set_option maxRecDepth 100000

theorem yields_slh {ops : Array Oper} {S : World → Prop} {op : Oper} {a : Act} {v : Value} {sa : Option Addr} {n c : Nat} {lo hi : Int} (hw : Region.wanted op (yielded ops a.tmps) = true) (x l h : Operand) (ho : op.op = .slice 26 x (some l) (some h) none) (hx : a.eval x = .slice sa n c) (hl : a.eval l = .int .i64 lo) (hh : a.eval h = .int .i64 hi)
    (hS : ∀ w, (Instr.sliceAt 26 (.slice sa n c) (some (.int .i64 lo)) (some (.int .i64 hi)) none).run Tryz.prog w = .ok v w) : YieldsIf Tryz.prog ops S op v a :=
  .inl ⟨hw, fun w hw' => by
    unfold execOp
    simp only [ho, hx, hl, hh, Option.map_none, Option.map_some, Sem.run_bind, hS w, Result.andThen_ok, Sem.run_pure]⟩
/-- One piece more. -/
theorem Cuts.snoc {w w' : World} {B : Nat} {v v' : Value} {xs : List X} {x : X} (h : Cuts w B v xs) (hx : Wf x.p ∧ Mine w B x.p x.o x.d) (hnew : ∀ y ∈ xs, ∀ k, y.o.ownBlock = some k ∨ y.d.ownBlock = some k → x.o.ownBlock ≠ some k ∧ x.d.ownBlock ≠ some k)
    (hv : ∀ k, x.o.ownBlock = some k ∨ x.d.ownBlock = some k → v.ownBlock ≠ some k) (hl : LstP w' v' (xs ++ [x])) (hgr : w.grownBy w' v.ownBlock) (hmv : Moved w v v') (hB : B ≤ w.heap.size) : Cuts w' B v' (xs ++ [x]) := by
  have hA : ∀ S : List Nat, (∀ k, v.ownBlock = some k → k ∈ S) → Away S w w' := fun S hS => (Away.refl S w).grown hgr (fun k hk => .inl (hS k hk))
  have keep : ∀ y : X, (∀ k, y.o.ownBlock = some k ∨ y.d.ownBlock = some k → v.ownBlock ≠ some k) → Mine w B y.p y.o y.d → Mine w' B y.p y.o y.d := fun y hy hm => by
    cases hb : v.ownBlock with
    | none => exact hm.on (hA [] (fun k hk => by rw [hb] at hk; simp at hk))
    | some g => exact hm.away (hA [g] (fun k hk => by rw [hb] at hk; simp at hk; simp [hk])) (fun k hk e => by simp at e; subst e; exact hy k hk hb)
  refine ⟨hl, h.new.moved hmv hB, fun y hy => ?_, fun y hy k hk e => ?_, List.pairwise_append.2 ⟨h.apart, by simp, fun y hy z hz => ?_⟩⟩
  · rcases List.mem_append.1 hy with hy | hy
    · exact ⟨(h.each y hy).1, keep y (h.far y hy) (h.each y hy).2⟩
    · simp at hy; subst hy; exact ⟨hx.1, keep y hv hx.2⟩
  · rcases hmv k e with e | e
    · rcases List.mem_append.1 hy with hy | hy
      · exact h.far y hy k hk e
      · simp at hy; subst hy; exact hv k hk e
    · have : k < w.heap.size := by
        rcases List.mem_append.1 hy with hy | hy
        · exact ((h.each y hy).2.lto k hk).1
        · simp at hy; subst hy; exact (hx.2.lto k hk).1
      omega
  · simp at hz; subst hz; exact fun k hk => hnew y hy k hk
theorem Cuts.away {S : List Nat} {w w' : World} {B : Nat} {v : Value} {xs : List X} (h : Cuts w B v xs) (hw : Away S w w') (hS : ∀ k ∈ S, k < B) : Cuts w' B v xs :=
  ⟨h.lst.away hw (fun k hk e => by have := h.new k hk; have := hS k e; omega), h.new, fun x hx => ⟨(h.each x hx).1, (h.each x hx).2.away hw (fun k hk e => by have := ((h.each x hx).2.lto k hk).2; have := hS k e; omega)⟩, h.far, h.apart⟩
theorem Old.sl {S : List Nat} {w w' : World} {v : Value} {l : List Int} {B : Nat} (h : Sl w v l) (ho : Old B v l) (hw : Away S w w') (hS : ∀ k ∈ S, B ≤ k) : Sl w' v l := h.away hw (fun hl k hk e => by have := ho hl k hk; have := hS k e; omega)
theorem pieces_c (p : Pk) (ov dv : Value) (m id : Int) (w : World) (hp : Pkt w p ov dv) (hg : Glob w) (hu : Unc p) (hm : mtuP m p.v = true) (h0 : 0 ≤ id) (h1 : id ≤ 4294967295) :
    Calls Tryz.prog 64 #[.agg (csP p ov dv), .int .i64 m, .int .u32 id] w fun E w' => ∃ v xs, E = .returned v ∧ Cuts w' w.heap.size v xs ∧ xs.map X.p = cutL p m id ∧ Away [] w w' := by
  have HAD := Lib.hid hp.wf.ad
  have HW := Lib.hid hp.wf
  have HU := Lib.hid hu; have HM := Lib.hid hm
  have HF1 : Hid (Frm p (fstP p id)) := hu.fst hp.wf h0 h1
  have HF2 : Hid (Frm p (latP p id)) := hu.lat hp.wf h0 h1
  have HG := Lib.hid hg
  have KF : Hid (∀ w', Away [] w w' → Calls Tryz.prog 82 #[.agg (csP p ov dv), .int .u32 id] w' fun E w'' => FrOut w' p ov id E w'') := fun w' h => frames_c p ov dv id w' (hp.on h) (hg.on h)
  have HOO := Lib.hid hp.o
  have HOL : Hid (Old w.heap.size ov p.o) := hp.o.old
  have HFA : Hid (Ad (fstP p id)) := fst_ad hp.wf.ad id
  have HLA : Hid (Ad (latP p id)) := lat_ad hp.wf.ad id
  have HWF1 : Hid (Wf (fstP p id)) := by
    have := HF1.out.wf hp.wf 0 (by omega) [] Bytes.nil (by simp) false
    have e : fstP p id = plcP (fstP p id) 0 [] false := by
      have h2 := fst_d p id
      unfold plcP
      by_cases hv : p.v = 6
      · simp [fstP, hv, hu.off, hu.more]
      · simp [fstP, hv, hu.off, hu.more]
    show Wf _
    rw [e]; exact this
  have HWF2 : Hid (Wf (latP p id)) := by
    have := HF2.out.wf hp.wf 0 (by omega) [] Bytes.nil (by simp) false
    have e : latP p id = plcP (latP p id) 0 [] false := by
      unfold plcP
      by_cases hv : p.v = 6
      · simp [latP, fstP, hv, hu.off, hu.more]
      · simp [latP, fstP, hv, hu.off, hu.more]
    show Wf _
    rw [e]; exact this
  have hdl : p.d.length ≤ 65535 := hu.all.1
  have hov1 := hp.ov
  have HOV1 := Lib.hid hov1
  obtain ⟨-, -, ⟨ad, capd, rfl, q1, q2, q3⟩⟩ := hp
  have HR : Hid (Row w ad p.d) := q3
  have HCAP : Hid (p.d.length ≤ capd ∧ (ad = none → capd = 0)) := ⟨q1, q2⟩
  clear hg hu hm q3 hov1 q1 q2
  go_enter Tryz.func64, Tryz.ntmps64
  go_wp2_with (refine wpList_box28 rfl _ rfl p _ _ rfl ?_; refine Hid.out ?_)
  refine Lib.hid ?_
  intro g3 w1 hg3 hb3 haw1
  have HB3 := Lib.hid hb3; have HA := Lib.hid haw1
  have hl3 := hb3.lt
  have hs1 := haw1.size
  clear hb3 haw1
  go_wp2_with (refine wpList_load28 rfl _ rfl g3 rfl p _ _ (by exact HB3.out) HAD.out ?_)
  refine (KF.out _ HA.out).mono ?_
  rintro E w2 ⟨cv, rfl, hown, hnew, haw2⟩
  have HCO := Lib.hid hown
  have HCL := Lib.hid (show ∀ k, cv.ownBlock = some k → k < w2.heap.size from hown.lt)
  replace HB3 := Lib.hid (HB3.out.on haw2)
  replace HA := Lib.hid (HA.out.next haw2 (by simp))
  have hs2 := haw2.size
  have HCV1 := Lib.hid hown.one
  clear haw2 hown hnew KF
  go_wp2_with (refine wpList_alloc28 rfl rfl ?_; refine Hid.out ?_)
  refine Lib.hid ?_
  intro g8 w3 hg8 hb8 haw3
  have HB8 := Lib.hid hb8
  have hl8 := hb8.lt
  replace HB3 := Lib.hid (HB3.out.on haw3)
  replace HA := Lib.hid (HA.out.next haw3 (by simp))
  replace HCO := Lib.hid (HCO.out.on haw3)
  have hs3 := haw3.size
  clear hb8 haw3
  go_wp2_with (refine wpList_alloc28 rfl rfl ?_; refine Hid.out ?_)
  refine Lib.hid ?_
  intro g9 w4 hg9 hb9 haw4
  have HB9 := Lib.hid hb9
  have hl9 := hb9.lt
  replace HB3 := Lib.hid (HB3.out.on haw4)
  replace HB8 := Lib.hid (HB8.out.on haw4)
  replace HA := Lib.hid (HA.out.next haw4 (by simp))
  replace HCO := Lib.hid (HCO.out.on haw4)
  have hs4 := haw4.size
  clear hb9 haw4
  go_wp2_with (refine wpList_store28 rfl _ _ rfl g8 rfl (fstP p id) ov (.slice none 0 0) rfl zeroPk (.slice none 0 0) (.slice none 0 0) (by exact HB8.out) HFA.out ⟨rfl, rfl⟩ HOV1.out rfl ?_; refine Hid.out ?_)
  refine Lib.hid ?_
  intro w5 hb8 haw5
  replace HB8 := Lib.hid hb8
  replace HB3 := Lib.hid (HB3.out.away haw5 (by simp; omega))
  replace HB9 := Lib.hid (HB9.out.away haw5 (by simp; omega))
  replace HA := Lib.hid (HA.out.next haw5 (fun x hx => .inr (by simp at hx; omega)))
  replace HCO := Lib.hid (HCO.out.away haw5 (fun k hk => by have := HCL.out k hk; simp; omega))
  have hs5 := haw5.size
  clear hb8 haw5
  go_wp2_with (refine wpList_store28 rfl _ _ rfl g9 rfl (latP p id) cv (.slice none 0 0) rfl zeroPk (.slice none 0 0) (.slice none 0 0) (by exact HB9.out) HLA.out ⟨rfl, rfl⟩ HCV1.out rfl ?_; refine Hid.out ?_)
  refine Lib.hid ?_
  intro wb hb9 haw6
  replace HB9 := Lib.hid hb9
  replace HB3 := Lib.hid (HB3.out.away haw6 (by simp; omega))
  replace HB8 := Lib.hid (HB8.out.away haw6 (by simp; omega))
  replace HA := Lib.hid (HA.out.next haw6 (fun x hx => .inr (by simp at hx; omega)))
  replace HCO := Lib.hid (HCO.out.away haw6 (fun k hk => by have := HCL.out k hk; simp; omega))
  have hs6 := haw6.size
  clear hb9 haw6
  have HCS : Hid (Sl wb cv (carryP p.o)) := by
    have hc := carry_valid HW.out.o
    exact HCO.out.sl hc.2.2.1 (by omega)
  have HRB : Hid (Row wb ad p.d) := HR.out.on HA.out
  have HGB : Hid (Glob wb) := HG.out.on HA.out
  have HSZ : Hid (w.heap.size ≤ g3 ∧ g3 < g8 ∧ g8 < g9 ∧ g9 < wb.heap.size ∧ w2.heap.size ≤ g8 ∧ w.heap.size ≤ wb.heap.size) := ⟨by omega, by omega, by omega, by omega, by omega, by omega⟩
  have HS0 := Lib.hid (Old.sl HOO.out HOL.out HA.out (by simp))
  clear hs1 hs2 hs3 hs4 hs5 hs6 hl3 hl8 hl9 hg3 hg8 hg9
  go_wp2_with fail
  go_loopw [7, 10] (fun v i wr => ∃ (n k : Nat) (f : Pk) (fv : Value) (xs : List X), i = .int .i64 (n : Int) ∧ n ≤ p.d.length ∧ (n = p.d.length ∨ n % 8 = 0) ∧ p.d.length - n ≤ k ∧ Frm p f ∧ Ad f ∧ Wf f ∧ BoxP wr g8 f fv (.slice none 0 0) ∧ Sl wb fv f.o ∧ Old g8 fv f.o ∧ Cuts wr wb.heap.size v xs ∧ xs.length ≤ n ∧ xs.map X.p ++ pcsP p m (latP p id) k f n = cutL p m id ∧ Away [g8] wb wr) (fun _ i _ => p.d.length - (intOf i).toNat)
  case atStart =>
    have hz := HSZ.out
    refine ⟨0, p.d.length, fstP p id, ov, [], rfl, by omega, by omega, by omega, HF1.out, HFA.out, HWF1.out, HB8.out, ?_, ?_, Cuts.nil _ _, by simp, rfl, Away.refl _ _⟩
    · rw [fst_o]; exact HS0.out
    · rw [fst_o]; exact HOL.out.mono (by omega)
  case round =>
    obtain ⟨n, k, f, fv, xs, rfl, hn, hn8, hk, hf, haf, hwf, hb8, hfs, hfo, hcu, hxl, hpc, haw⟩ := hrel
    have hzz := HSZ.out
    have HF := Lib.hid hf; have HAF := Lib.hid haf; have HWF := Lib.hid hwf; have HB8r := Lib.hid hb8; have HFO := Lib.hid hfo; have HCU := Lib.hid hcu; have HPC := Lib.hid hpc; have HAW := Lib.hid haw
    have HFS := Lib.hid (Old.sl hfs hfo haw (by simp))
    have HB9r := Lib.hid (HB9.out.away haw (by simp; omega))
    have HB3r := Lib.hid (HB3.out.away haw (by simp; omega))
    have HGr : Hid (Glob wr) := HGB.out.away haw (by have := HG.out.pos; simp; omega)
    have hszr := haw.size
    clear hf haf hwf hb8 hfs hfo hcu hpc haw
    have c45 := (HB3r.out.cells HAD.out).d
    by_cases hlt : n < p.d.length
    · have HT := Lib.hid (took HU.out HW.out HF.out HM.out hlt)
      obtain ⟨r1, r2, r3, r4, r5, r6, r7⟩ := room_eq HU.out HW.out HF.out HM.out
      obtain ⟨s, hs⟩ : ∃ s, s = shareP (p.d.length - n) (roomP f m) p.v := ⟨_, rfl⟩
      have HS := Lib.hid hs
      rw [← hs] at HT
      have t1 := HT.out.pos; have t2 := HT.out.le
      have HRM : Hid (longP f = topP f ∧ (roomP f m : Int) = m - topP f ∧ roomP f m ≤ 65515) := ⟨r1, r4, r7⟩
      clear r1 r2 r3 r4 r5 r6 r7 hs
      have KL : Hid (∀ W, (Away [] wr W ∧ BoxP W g8 f fv (.slice none 0 0) ∧ BoxP W g3 p ov (.slice ad p.d.length capd)) → Calls Tryz.prog 81 #[.agg (csP f fv (.slice none 0 0))] W fun E w'' => E = .returned (.int .i64 (longP f)) ∧ (Away [] wr w'' ∧ BoxP w'' g8 f fv (.slice none 0 0) ∧ BoxP w'' g3 p ov (.slice ad p.d.length capd))) := fun W hW =>
        (length_c f fv (.slice none 0 0) W ⟨HWF.out, HFS.out.on hW.1, by rw [show f.d = [] from (frame_right HU.out HW.out HF.out).2.1]; exact Sl.nil _⟩ (HGr.out.on hW.1)).mono fun E w'' h => ⟨h.1, hW.1.on h.2, hW.2.1.on h.2, hW.2.2.on h.2⟩
      have hsub : IntKind.i64.wrap (m - longP f) = (roomP f m : Int) := by
        have h1 := HRM.out
        rw [IntKind.wrap_i64, h1.1, ← h1.2.1]; omega
      have KS : Hid (∀ W, (Away [] wr W ∧ BoxP W g8 f fv (.slice none 0 0) ∧ BoxP W g3 p ov (.slice ad p.d.length capd)) → Calls Tryz.prog 83 #[.int .i64 ((p.d.length : Int) - n), .int .i64 (IntKind.i64.wrap (m - longP f)), .int .i64 p.v] W fun E w'' => E = .returned (.int .i64 (s : Int)) ∧ (Away [] wr w'' ∧ BoxP w'' g8 f fv (.slice none 0 0) ∧ BoxP w'' g3 p ov (.slice ad p.d.length capd))) := fun W hW =>
        (share_c (p.d.length - n) (roomP f m) _ _ p.v (by omega) hsub (by have := HRM.out; omega) W).mono fun E w'' h => ⟨by rw [h.1, HS.out], by rw [h.2]; exact hW⟩
      clear hsub
      have HC : Hid (Away [] wr wr.drew ∧ BoxP wr.drew g8 f fv (.slice none 0 0) ∧ BoxP wr.drew g3 p ov (.slice ad p.d.length capd)) := ⟨(Away.refl [] wr).drew, HB8r.out, HB3r.out⟩
      go_wp2_with fail
      refine wp_region_cls (C := fun w' => Away [] wr w' ∧ BoxP w' g8 f fv (.slice none 0 0) ∧ BoxP w' g3 p ov (.slice ad p.d.length capd)) (by kernel_rfl) (by kernel_rfl) HC.out ?_
      go_big_quiet_want; (refine quiet_val ?_ ?_ ?_; rotate_left; (intro w; go_simp; rfl); go_simp; go_big_quiet_on)
      go_big_quiet_want; (refine quiet_val ?_ ?_ ?_; rotate_left; (intro w; go_simp; rfl); go_simp; go_big_quiet_on)
      go_big_quiet_want; refine quiet_ld _ rfl (ad := ⟨g8, 0, none⟩) rfl (fun w' h => load28_run h.2.1 HAF.out) ?_; go_simp; go_big_quiet_on
      go_big_quiet_want; refine quiet_call 81 #[.agg (csP f fv (.slice none 0 0))] (.int .i64 (longP f)) ?_ KL.out ?_
      · intro w; go_simp; all_goals (with_reducible rfl)
      go_simp; go_big_quiet_on
      go_big_quiet_want; (refine quiet_val ?_ ?_ ?_; rotate_left; (intro w; go_simp; rfl); go_simp; go_big_quiet_on)
      go_big_quiet_want; (refine quiet_val ?_ ?_ ?_; rotate_left; (intro w; go_simp; rfl); go_simp; go_big_quiet_on)
      go_big_quiet_want; refine quiet_ld _ rfl (ad := ⟨g3, 0, none⟩) rfl (fun w' h => ld3 (h.2.2.cells HAD.out).v) ?_; go_simp; go_big_quiet_on
      go_big_quiet_want; refine quiet_call 83 #[.int .i64 ((p.d.length : Int) - n), .int .i64 (IntKind.i64.wrap (m - longP f)), .int .i64 p.v] (.int .i64 (s : Int)) ?_ KS.out ?_
      · intro w; go_simp; all_goals (with_reducible rfl)
      go_simp; go_big_quiet_on
      go_big_quiet_want; (refine quiet_val ?_ ?_ ?_; rotate_left; (intro w; go_simp; rfl); go_simp; go_big_quiet_on)
      refine wpQuiet_nil ?_
      intro V hV
      have hVA := hV.1
      replace HB8r := Lib.hid hV.2.1
      replace HB3r := Lib.hid hV.2.2
      replace HFS := Lib.hid (HFS.out.on hVA)
      replace HB9r := Lib.hid (HB9r.out.on hVA)
      replace HCU := Lib.hid (HCU.out.on hVA)
      have HRr : Hid (Row V ad p.d) := (HRB.out.away HAW.out (fun x hx => by
        have := HR.out.lt (by intro e; rw [e] at hlt; simp at hlt) x hx
        have := HSZ.out; simp; omega)).on hVA
      replace HAW := Lib.hid (HAW.out.next hVA (by simp))
      have hszV := hVA.size
      clear hV hVA KL KS HC c45 HGr
      obtain ⟨A, hA⟩ : ∃ A, A = if capd = n then ad else ad.map (·.add n) := ⟨_, rfl⟩
      have hcap := HCAP.out
      have HLN := Lib.hid HT.out.len
      have HRA : Hid (Row V A ((p.d.drop n).take s)) := by
        show Row _ _ _
        rw [hA]; exact HRr.out.sub n s capd hcap.1 hn
      have HSD : Hid (Sl V (.slice A s (capd - n)) ((p.d.drop n).take s)) := ⟨A, capd - n, by rw [HLN.out], by rw [HLN.out]; omega, fun e => by
        rw [hA] at e
        have : ad = none := by
          by_cases hc : capd = n
          · rw [if_pos hc] at e; exact e
          · rw [if_neg hc] at e; simpa using e
        have := hcap.2 this; omega, HRA.out⟩
      have hwr : IntKind.i64.wrap ((n : Int) + (s : Int)) = ((n + s : Nat) : Int) := by rw [IntKind.wrap_i64]; push_cast; omega
      have HWR := Lib.hid hwr
      have hs9 := fun wx => slice_lh ad A p.d.length capd n s (n : Int) (IntKind.i64.wrap ((n : Int) + (s : Int))) hA rfl (by rw [hwr]; push_cast; rfl) (by omega) wx
      have HS9 := Lib.hid hs9
      clear hA hs9 hwr hcap
      obtain ⟨b, hb⟩ : ∃ b, b = decide ((s : Int) < (p.d.length : Int) - n) := ⟨_, rfl⟩
      have HBD : Hid (b = decide (s < p.d.length - n)) := by
        show _ = _
        rw [hb]; apply decide_eq_decide.2; omega
      have HBD0 := Lib.hid hb
      clear hb
      obtain ⟨l, hl⟩ : ∃ l, l = (p.d.drop n).take s := ⟨_, rfl⟩
      have HLL := Lib.hid hl
      rw [← hl] at HRA HSD HLN
      have HBY : Hid (Bytes l) := by show Bytes l; rw [HLL.out]; exact (HW.out.d.drop n).take s
      have HWQ : Hid (Wf (plcP f n l b)) := HF.out.wf HW.out n (by omega) l HBY.out (by rw [HLN.out]; omega) b
      have HAQ : Hid (Ad (plcP f n l b)) := HAF.out
      have hfv1 := HFS.out.one
      have HFV1 := Lib.hid hfv1
      clear hl hfv1
      go_wp2_with fail
      have HCU0 : Hid ((∀ y ∈ xs, ∀ k, y.o.ownBlock = some k ∨ y.d.ownBlock = some k → k < V.heap.size) ∧ (∀ k, u7.ownBlock = some k → k < V.heap.size)) := ⟨fun y hy k hk => ((HCU.out.each y hy).2.lto k hk).1, HCU.out.lst.lt⟩
      refine wp_region_held_drew (S := (fun w' => BoxP w' g8 f fv (.slice none 0 0) ∧ BoxP w' g3 p ov (.slice ad p.d.length capd))) (by kernel_rfl) ⟨HB8r.out, HB3r.out⟩ (fun hHeld => ?_)
      refine wpAnyH_take (i := 0) (v := ?_) (by simp only [List.getElem?_toArray, List.getElem?_cons_zero]; rfl) (by kernel_rfl) (by kernel_rfl) (by kernel_rfl) (by exact fun _ _ _ h => h) (Or.inl ⟨by rfl, ?_⟩) (by assumption) ?_
      rotate_left
      · intro wq hSw
        (try dsimp only at hSw)
        go_simp
        all_goals (with_reducible rfl)
      try simp only [Act.put, List.setIfInBounds_toArray, List.set_cons_zero, List.set_cons_succ]
      refine wpAnyH_take (i := 1) (by simp only [List.getElem?_toArray, List.getElem?_cons_succ, List.getElem?_cons_zero]; rfl) (by kernel_rfl) (by kernel_rfl) (by kernel_rfl) (by exact fun _ _ _ h => h) (yields_ldc (ad := ⟨g8, 0, none⟩) (by rfl) _ rfl rfl (fun w' h => load28_run h.1 HAF.out)) (by assumption) ?_
      try simp only [Act.put, List.setIfInBounds_toArray, List.set_cons_zero, List.set_cons_succ]
      refine wpAnyH_take (i := 2) (v := ?_) (by simp only [List.getElem?_toArray, List.getElem?_cons_succ, List.getElem?_cons_zero]; rfl) (by kernel_rfl) (by kernel_rfl) (by kernel_rfl) (by exact fun _ _ _ h => h) (Or.inl ⟨by rfl, ?_⟩) (by assumption) ?_
      rotate_left
      · intro wq hSw
        (try dsimp only at hSw)
        go_simp
        all_goals (with_reducible rfl)
      try simp only [Act.put, List.setIfInBounds_toArray, List.set_cons_zero, List.set_cons_succ]
      refine wpAnyH_take (i := 3) (v := ?_) (by simp only [List.getElem?_toArray, List.getElem?_cons_succ, List.getElem?_cons_zero]; rfl) (by kernel_rfl) (by kernel_rfl) (by kernel_rfl) (by exact fun _ _ _ h => h) (Or.inl ⟨by rfl, ?_⟩) (by assumption) ?_
      rotate_left
      · intro wq hSw
        (try dsimp only at hSw)
        go_simp
        all_goals (with_reducible rfl)
      try simp only [Act.put, List.setIfInBounds_toArray, List.set_cons_zero, List.set_cons_succ]
      refine wpAnyH_take (i := 4) (by simp only [List.getElem?_toArray, List.getElem?_cons_succ, List.getElem?_cons_zero]; rfl) (by kernel_rfl) (by kernel_rfl) (by kernel_rfl) (by exact fun _ _ _ h => h) (yields_ldc (ad := ⟨g3, 45, none⟩) (by rfl) _ rfl rfl (fun w' h => ld26 (h.2.cells HAD.out).d)) (by assumption) ?_
      try simp only [Act.put, List.setIfInBounds_toArray, List.set_cons_zero, List.set_cons_succ]
      refine wpAnyH_take (i := 5) (v := ?_) (by simp only [List.getElem?_toArray, List.getElem?_cons_succ, List.getElem?_cons_zero]; rfl) (by kernel_rfl) (by kernel_rfl) (by kernel_rfl) (by exact fun _ _ _ h => h) (Or.inl ⟨by rfl, ?_⟩) (by assumption) ?_
      rotate_left
      · intro wq hSw
        (try dsimp only at hSw)
        go_simp
        all_goals (with_reducible rfl)
      try simp only [Act.put, List.setIfInBounds_toArray, List.set_cons_zero, List.set_cons_succ]
      refine wpAnyH_take (i := 6) (v := ?_) (by simp only [List.getElem?_toArray, List.getElem?_cons_succ, List.getElem?_cons_zero]; rfl) (by kernel_rfl) (by kernel_rfl) (by kernel_rfl) (by exact fun _ _ _ h => h) (Or.inl ⟨by rfl, ?_⟩) (by assumption) ?_
      rotate_left
      · intro wq hSw
        (try dsimp only at hSw)
        go_simp
        all_goals (with_reducible rfl)
      try simp only [Act.put, List.setIfInBounds_toArray, List.set_cons_zero, List.set_cons_succ]
      refine wpAnyH_take (i := 7) (v := ?_) (by simp only [List.getElem?_toArray, List.getElem?_cons_succ, List.getElem?_cons_zero]; rfl) (by kernel_rfl) (by kernel_rfl) (by kernel_rfl) (by exact fun _ _ _ h => h) (Or.inl ⟨by rfl, ?_⟩) (by assumption) ?_
      rotate_left
      · intro wq hSw
        (try dsimp only at hSw)
        go_simp
        all_goals (with_reducible rfl)
      try simp only [Act.put, List.setIfInBounds_toArray, List.set_cons_zero, List.set_cons_succ]
      refine wpAnyH_take (i := 8) (v := ?_) (by simp only [List.getElem?_toArray, List.getElem?_cons_succ, List.getElem?_cons_zero]; rfl) (by kernel_rfl) (by kernel_rfl) (by kernel_rfl) (by exact fun _ _ _ h => h) (Or.inl ⟨by rfl, ?_⟩) (by assumption) ?_
      rotate_left
      · intro wq hSw
        (try dsimp only at hSw)
        go_simp
        all_goals (with_reducible rfl)
      try simp only [Act.put, List.setIfInBounds_toArray, List.set_cons_zero, List.set_cons_succ]
      refine wpAnyH_take (i := 9) (by simp only [List.getElem?_toArray, List.getElem?_cons_succ, List.getElem?_cons_zero]; rfl) (by kernel_rfl) (by kernel_rfl) (by kernel_rfl) (by exact fun _ _ _ h => h) (yields_slh (by rfl) _ _ _ rfl rfl rfl rfl HS9.out) (by assumption) ?_
      try simp only [Act.put, List.setIfInBounds_toArray, List.set_cons_zero, List.set_cons_succ]
      refine wpAnyH_take (i := 10) (v := ?_) (by simp only [List.getElem?_toArray, List.getElem?_cons_succ, List.getElem?_cons_zero]; rfl) (by kernel_rfl) (by kernel_rfl) (by kernel_rfl) (by exact fun _ _ _ h => h) (Or.inl ⟨by rfl, ?_⟩) (by assumption) ?_
      rotate_left
      · intro wq hSw
        (try dsimp only at hSw)
        go_simp
        all_goals (with_reducible rfl)
      try simp only [Act.put, List.setIfInBounds_toArray, List.set_cons_zero, List.set_cons_succ]
      refine wpAnyH_take (i := 11) (v := ?_) (by simp only [List.getElem?_toArray, List.getElem?_cons_succ, List.getElem?_cons_zero]; rfl) (by kernel_rfl) (by kernel_rfl) (by kernel_rfl) (by exact fun _ _ _ h => h) (Or.inl ⟨by rfl, ?_⟩) (by assumption) ?_
      rotate_left
      · intro wq hSw
        (try dsimp only at hSw)
        go_simp
        all_goals (with_reducible rfl)
      try simp only [Act.put, List.setIfInBounds_toArray, List.set_cons_zero, List.set_cons_succ]
      refine wpAnyH_take (i := 12) (v := ?_) (by simp only [List.getElem?_toArray, List.getElem?_cons_succ, List.getElem?_cons_zero]; rfl) (by kernel_rfl) (by kernel_rfl) (by kernel_rfl) (by exact fun _ _ _ h => h) (Or.inl ⟨by rfl, ?_⟩) (by assumption) ?_
      rotate_left
      · intro wq hSw
        (try dsimp only at hSw)
        go_simp
        all_goals (with_reducible rfl)
      try simp only [Act.put, List.setIfInBounds_toArray, List.set_cons_zero, List.set_cons_succ]
      refine wpAnyH_ready (rs := [13]) (by kernel_rfl) (by simp) ?_
      refine AllReadyH.cons (by simp only [List.getElem?_toArray, List.getElem?_cons_succ, List.getElem?_cons_zero]; rfl) (fun K hK => ?_) AllReadyH.nil
      go_simp
      refine (plc_c f fv (.slice none 0 0) n A l s (capd - n) _ _ HAF.out HFV1.out rfl).mono ?_
      rw [← HBD0.out]
      rintro E y1 ⟨rfl, haw⟩
      have hS : BoxP y1 g8 f fv (.slice none 0 0) ∧ BoxP y1 g3 p ov (.slice ad p.d.length capd) := ⟨hHeld.1.on haw, hHeld.2.on haw⟩
      replace haw : Away [] V y1 := (Away.refl [] V).drew.next haw (by simp)
      have hs1 := haw.size
      replace HB9r := Lib.hid (HB9r.out.on haw)
      replace HCU := Lib.hid (HCU.out.on haw)
      replace HAW := Lib.hid (HAW.out.next haw (by simp))
      replace HFS := Lib.hid (HFS.out.on haw)
      replace HSD := Lib.hid (HSD.out.on haw)
      clear haw
      go_wp2_with fail
      refine hK.out _ _ hS (fun hHeld => ?_)
      clear hK K
      try simp only [Act.put, List.setIfInBounds_toArray, List.set_cons_zero, List.set_cons_succ]
      refine wpAnyH_ready (rs := [14]) (by kernel_rfl) (by simp) ?_
      refine AllReadyH.cons (by simp only [List.getElem?_toArray, List.getElem?_cons_succ, List.getElem?_cons_zero]; rfl) (fun K hK => ?_) AllReadyH.nil
      go_simp
      refine (copyP_c (plcP f n l b) fv (.slice A s (capd - n)) _ ⟨HWQ.out, HFS.out, HSD.out⟩).mono ?_
      rintro E y2 ⟨oq, dq, rfl, hmine, haw⟩
      have hs2 := haw.size
      have hS : BoxP y2 g8 f fv (.slice none 0 0) ∧ BoxP y2 g3 p ov (.slice ad p.d.length capd) := ⟨hHeld.1.on haw, hHeld.2.on haw⟩
      replace HB9r := Lib.hid (HB9r.out.on haw)
      replace HCU := Lib.hid (HCU.out.on haw)
      replace HAW := Lib.hid (HAW.out.next haw (by simp))
      have HMQ := Lib.hid hmine
      clear haw hmine
      go_wp2_with fail
      refine hK.out _ _ hS (fun hHeld => ?_)
      clear hK K
      try simp only [Act.put, List.setIfInBounds_toArray, List.set_cons_zero, List.set_cons_succ]
      refine wpAnyH_ready (rs := [15]) (by kernel_rfl) (by simp) ?_
      refine AllReadyH.cons (by simp only [List.getElem?_toArray, List.getElem?_cons_succ, List.getElem?_cons_zero]; rfl) (fun K hK => ?_) AllReadyH.nil
      rw [if_pos (by rfl)]
      refine wp_build28 (.tmp 51) rfl (plcP f n l b) oq dq rfl HAQ.out ?_
      intro gq y3 hgq hbq haw _ _
      have hs3 := haw.size
      have hS : BoxP y3 g8 f fv (.slice none 0 0) ∧ BoxP y3 g3 p ov (.slice ad p.d.length capd) := ⟨hHeld.1.on haw, hHeld.2.on haw⟩
      replace HB9r := Lib.hid (HB9r.out.on haw)
      replace HCU := Lib.hid (HCU.out.on haw)
      replace HAW := Lib.hid (HAW.out.next haw (by simp))
      replace HMQ := Lib.hid (HMQ.out.on haw)
      have HBQ := Lib.hid hbq
      clear haw hbq hgq
      refine hK.out _ _ hS (fun hHeld => ?_)
      clear hK K
      try simp only [Act.put, List.setIfInBounds_toArray, List.set_cons_zero, List.set_cons_succ]
      refine wpAnyH_ready (rs := [16]) (by kernel_rfl) (by simp) ?_
      refine AllReadyH.cons (by simp only [List.getElem?_toArray, List.getElem?_cons_succ, List.getElem?_cons_zero]; rfl) (fun K hK => ?_) AllReadyH.nil
      rw [if_pos (by rfl)]
      refine wp_appP (.tmp 37) (.tmp 52) rfl _ xs rfl (by exact HCU.out.lst) gq 1 rfl (plcP f n l b) oq dq HBQ.out HAQ.out HMQ.out.o.one HMQ.out.d.one (by omega) ?_
      intro v' y4 hl4 hgr hmv
      have hvn := HCU.out.new
      have hvl := HCU.out.lst.lt
      have HA4 : Hid (Away [g8] wb y4) := HAW.out.grown hgr (fun k hk => .inr (hvn k hk))
      have keepB : ∀ (g : Nat) (o : Obj), g < wb.heap.size → y3.heap[g]? = some o → y4.heap[g]? = some o := fun g o hg ho => (hgr.block g (lt_of_block ho) (fun e => by have := hvn g e.symm; omega)).trans ho
      have hS : BoxP y4 g8 f fv (.slice none 0 0) ∧ BoxP y4 g3 p ov (.slice ad p.d.length capd) := ⟨keepB g8 _ (by omega) hHeld.1, keepB g3 _ (by omega) hHeld.2⟩
      have HB94 : Hid (BoxP y4 g9 (latP p id) cv (.slice none 0 0)) := keepB g9 _ (by omega) HB9r.out
      have HCU4 : Hid (Cuts y4 wb.heap.size v' (xs ++ [⟨plcP f n l b, oq, dq⟩])) := by
        have hmn := HMQ.out
        have hold := HCU0.out
        refine HCU.out.snoc (x := ⟨plcP f n l b, oq, dq⟩) ⟨HWQ.out, hmn.mono (by omega)⟩ (fun y hy k hk => ?_) (fun k hk e => ?_) hl4 hgr hmv (by omega)
        · have h1 := hold.1 y hy k hk
          constructor
          · intro e; have := hmn.no k e; omega
          · intro e; have := hmn.nd k e; omega
        · have h1 := hold.2 k e
          have := (hmn.lto k hk).2; omega
      clear hl4 hgr hmv hvn hvl keepB HCU HB9r HAW HMQ HBQ
      refine hK.out _ _ hS (fun hHeld => ?_)
      clear hK K
      try simp only [Act.put, List.setIfInBounds_toArray, List.set_cons_zero, List.set_cons_succ]
      refine wpAnyH_take (i := 17) (v := ?_) (by simp only [List.getElem?_toArray, List.getElem?_cons_succ, List.getElem?_cons_zero]; rfl) (by kernel_rfl) (by kernel_rfl) (by kernel_rfl) (by exact fun _ _ _ h => h) (Or.inl ⟨by rfl, ?_⟩) (by assumption) ?_
      rotate_left
      · intro wq hSw
        (try dsimp only at hSw)
        go_simp
        all_goals (with_reducible rfl)
      try simp only [Act.put, List.setIfInBounds_toArray, List.set_cons_zero, List.set_cons_succ]
      refine wpAnyH_done (by kernel_rfl) ?_ _
      replace HB8r := Lib.hid hHeld.1
      clear hHeld HCU0
      have hs4 := HA4.out.size
      go_wp2_with fail
      refine wp_region_held_drew (S := (fun w' => BoxP w' g9 (latP p id) cv (.slice none 0 0))) (by kernel_rfl) HB94.out (fun hHeld => ?_)
      refine wpAnyH_take (i := 0) (v := ?_) (by simp only [List.getElem?_toArray, List.getElem?_cons_zero]; rfl) (by kernel_rfl) (by kernel_rfl) (by kernel_rfl) (by exact fun _ _ _ h => h) (Or.inl ⟨by rfl, ?_⟩) (by assumption) ?_
      rotate_left
      · intro wq hSw
        (try dsimp only at hSw)
        go_simp
        all_goals (with_reducible rfl)
      try simp only [Act.put, List.setIfInBounds_toArray, List.set_cons_zero, List.set_cons_succ]
      refine wpAnyH_take (i := 1) (v := ?_) (by simp only [List.getElem?_toArray, List.getElem?_cons_succ, List.getElem?_cons_zero]; rfl) (by kernel_rfl) (by kernel_rfl) (by kernel_rfl) (by exact fun _ _ _ h => h) (Or.inl ⟨by rfl, ?_⟩) (by assumption) ?_
      rotate_left
      · intro wq hSw
        (try dsimp only at hSw)
        go_simp
        all_goals (with_reducible rfl)
      try simp only [Act.put, List.setIfInBounds_toArray, List.set_cons_zero, List.set_cons_succ]
      refine wpAnyH_take (i := 2) (v := ?_) (by simp only [List.getElem?_toArray, List.getElem?_cons_succ, List.getElem?_cons_zero]; rfl) (by kernel_rfl) (by kernel_rfl) (by kernel_rfl) (by exact fun _ _ _ h => h) (Or.inl ⟨by rfl, ?_⟩) (by assumption) ?_
      rotate_left
      · intro wq hSw
        (try dsimp only at hSw)
        go_simp
        all_goals (with_reducible rfl)
      try simp only [Act.put, List.setIfInBounds_toArray, List.set_cons_zero, List.set_cons_succ]
      refine wpAnyH_take (i := 3) (by simp only [List.getElem?_toArray, List.getElem?_cons_succ, List.getElem?_cons_zero]; rfl) (by kernel_rfl) (by kernel_rfl) (by kernel_rfl) (by exact fun _ _ _ h => h) (yields_ldc (ad := ⟨g9, 0, none⟩) (by rfl) _ rfl rfl (fun w' h => load28_run h HLA.out)) (by assumption) ?_
      try simp only [Act.put, List.setIfInBounds_toArray, List.set_cons_zero, List.set_cons_succ]
      refine wpAnyH_take (i := 4) (v := ?_) (by simp only [List.getElem?_toArray, List.getElem?_cons_succ, List.getElem?_cons_zero]; rfl) (by kernel_rfl) (by kernel_rfl) (by kernel_rfl) (by exact fun _ _ _ h => h) (Or.inl ⟨by rfl, ?_⟩) (by assumption) ?_
      rotate_left
      · intro wq hSw
        (try dsimp only at hSw)
        go_simp
        all_goals (with_reducible rfl)
      try simp only [Act.put, List.setIfInBounds_toArray, List.set_cons_zero, List.set_cons_succ]
      refine wpAnyH_ready (rs := [5]) (by kernel_rfl) (by simp) ?_
      refine AllReadyH.cons (by simp only [List.getElem?_toArray, List.getElem?_cons_succ, List.getElem?_cons_zero]; rfl) (fun K hK => ?_) AllReadyH.nil
      rw [if_pos (by rfl)]
      refine wp_store28 (.tmp 8) (.tmp 57) rfl g8 rfl (latP p id) cv (.slice none 0 0) rfl f fv (.slice none 0 0) (by exact HB8r.out) HLA.out HAF.out HCV1.out rfl ?_
      intro y5 hb5 haw5
      have hS : BoxP y5 g9 (latP p id) cv (.slice none 0 0) := hHeld.away haw5 (by simp; omega)
      have HCU5 : Hid (Cuts y5 wb.heap.size v' (xs ++ [⟨plcP f n l b, oq, dq⟩])) := ((HCU4.out.on (Away.refl [] y4).drew).away haw5 (by simp; omega))
      have HA5 : Hid (Away [g8] wb y5) := HA4.out.drew.trans haw5
      have HB85 := Lib.hid hb5
      clear haw5 hb5 HCU4 HA4 HB8r
      refine hK.out _ _ hS (fun hHeld => ?_)
      clear hK K
      try simp only [Act.put]
      refine wpAnyH_done (by kernel_rfl) ?_ _
      have HP5 : Hid ((xs ++ [(⟨plcP f n l b, oq, dq⟩ : X)]).map X.p ++ pcsP p m (latP p id) (k - 1) (latP p id) (n + s) = cutL p m id) := by
        show _ = _
        obtain ⟨k', rfl⟩ : ∃ k', k = k' + 1 := ⟨k - 1, by omega⟩
        have e := HPC.out
        rw [pcsP, if_pos hlt, ← HS.out, ← HBD.out, ← HLL.out] at e
        rw [← e]
        simp
      clear HPC hHeld hS
      go_wp2_with fail
      go_roundw
      case rel => exact ⟨n + s, k - 1, latP p id, cv, xs ++ [⟨plcP f n l b, oq, dq⟩], by rw [HWR.out], t2, by have := HT.out.d8; omega, by omega, HF2.out, HLA.out, HWF2.out, HB85.out, HCS.out, fun _ k hk => by have := HCL.out k hk; omega, HCU5.out, by simp; omega, HP5.out, HA5.out⟩
      case measure =>
        rw [HWR.out]
        simp [intOf]; omega
    · have hnn : n = p.d.length := by omega
      go_wp2_with fail
      go_ret
      refine ⟨_, xs, rfl, HCU.out.mono (by omega), ?_, HA.out.next HAW.out (fun x hx => .inr (by simp at hx; omega))⟩
      have e := HPC.out
      rw [pcs_nil (by omega)] at e
      simpa using e
#print axioms pieces_c
end Go.Proofs.YtbkeilboneaejaaGreatDoor
