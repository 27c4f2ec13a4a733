/-
  ownP of the law.
-/
import Derived.Test.YtbkeilboneaejaaGreatDoorFldA
import Derived.Test.YtbkeilboneaejaaGreatDoorHelp
import Derived.Deep.CutBlock
import Derived.Deep.DeepCutAuto
namespace Go.Proofs.YtbkeilboneaejaaGreatDoor
open Go.ChangeShapes Go.WideShapes Go.ChangeAt Go.RowKit Num
set_option linter.unusedVariables false
set_option maxHeartbeats 4000000
set_option maxRecDepth 100000

/-- A packet with lists of its own, apart. -/
structure Mine (w : World) (B : Nat) (p : Pk) (ov dv : Value) : Prop where
  o : Owns w ov p.o
  d : Owns w dv p.d
  no : New B ov
  nd : New B dv
  ap : ∀ k, ov.ownBlock = some k → dv.ownBlock ≠ some k
theorem Mine.on {w w' : World} {B : Nat} {p : Pk} {ov dv : Value} (h : Mine w B p ov dv) (hw : Away [] w w') : Mine w' B p ov dv := ⟨h.o.away hw (by simp), h.d.away hw (by simp), h.no, h.nd, h.ap⟩
theorem Mine.pkt {w : World} {B : Nat} {p : Pk} {ov dv : Value} (h : Mine w B p ov dv) (hw : Wf p) : Pkt w p ov dv := ⟨hw, h.o.sl hw.o hw.ol, h.d.sl hw.d hw.dn⟩
theorem Mine.mono {w : World} {B C : Nat} {p : Pk} {ov dv : Value} (h : Mine w B p ov dv) (hc : C ≤ B) : Mine w C p ov dv := ⟨h.o, h.d, h.no.mono hc, h.nd.mono hc, h.ap⟩
def OwnOut (w : World) (p : Pk) (E : Ending) (w' : World) : Prop := ∃ ov dv, E = .returned (.agg (csP p ov dv)) ∧ Mine w' w.heap.size p ov dv ∧ Away [] w w'
theorem Owns.shp {w : World} {v : Value} {l : List Int} (h : Owns w v l) : ∃ a n c, v = .slice a n c := by
  rcases h.2 with ⟨rfl, _⟩ | ⟨g, cap, cur, rfl, _⟩
  · exact ⟨_, _, _, rfl⟩
  · exact ⟨_, _, _, rfl⟩
theorem ownP_c (p : Pk) (ov dv : Value) (w : World) (hp : Pkt w p ov dv) :
    Calls Tryz.prog 12 #[.agg (csP p ov dv)] w fun E w' => OwnOut w p E w' := by
  have HAD := Lib.hid hp.wf.ad
  have KO : Hid (∀ w', Away [] w w' → Calls Tryz.prog 24 #[ov] w' fun E w'' => Copied w' p.o E w'') := by
    obtain ⟨a, c, rfl, x1, x2, x3⟩ := hp.o
    exact fun w' h => own_any a p.o _ c w' rfl (x3.away h (by simp))
  have KD : Hid (∀ w', Away [] w w' → Calls Tryz.prog 24 #[dv] w' fun E w'' => Copied w' p.d E w'') := by
    obtain ⟨a, c, rfl, x1, x2, x3⟩ := hp.d
    exact fun w' h => own_any a p.d _ c w' rfl (x3.away h (by simp))
  obtain ⟨-, ⟨o1, o2, rfl, -⟩, ⟨o3, o4, rfl, -⟩⟩ := hp
  go_enter Tryz.func12, Tryz.ntmps12
  go_wp2_with (refine wpList_box28 rfl _ rfl p _ _ rfl ?_; refine Hid.out ?_)
  refine Lib.hid ?_
  intro g1 w1 hg1 hb1 haw1
  have HB1 := Lib.hid hb1; have HA1 := Lib.hid haw1
  have hl1 := hb1.lt
  clear hb1 haw1
  go_wp2_with (refine wpList_alloc28 rfl rfl ?_; refine Hid.out ?_)
  refine Lib.hid ?_
  intro g2 w2 hg2 hb2 haw2
  have HB2 := Lib.hid hb2
  have HB12 := Lib.hid (HB1.out.on haw2)
  have HA2 := Lib.hid (HA1.out.next haw2 (by simp))
  have hl2 := hb2.lt
  have hs1 := HA1.out.size; have hs2 := haw2.size
  clear hb2 haw2 HB1 HA1
  have c44 := (HB12.out.cells HAD.out).o
  go_wp2_with fail
  refine (KO.out _ HA2.out).mono ?_
  rintro E w3 ⟨v3, rfl, hown3, hnew3, haw3, hby3, hln3⟩
  have HB13 := Lib.hid (HB12.out.on haw3)
  have HB23 := Lib.hid (HB2.out.on haw3)
  have HA3 := Lib.hid (HA2.out.next haw3 (by simp))
  have hs3 := haw3.size
  have hlt3 := hown3.lt
  have HO3 := Lib.hid hown3
  clear c44 haw3 HB12 HB2 HA2 hown3
  obtain ⟨a3, n3, k3, rfl⟩ := HO3.out.shp
  have s44 := (HB13.out.cells HAD.out).o
  have t44 := HB13.out.free 44
  have hA4 := away_put (w := w3) (g := g1) 44 (.slice a3 n3 k3)
  have hv3 : ∀ k, (Value.slice a3 n3 k3).ownBlock = some k → k ≠ g1 ∧ k ≠ g2 := fun k hk => by have := hnew3 k hk; omega
  have HV3 := Lib.hid hv3
  have HB14 := Lib.hid (HB13.out.put 44 (.slice a3 n3 k3) ((csP_set HAD.out _ _).2.2.2.2.2.2.2.2.2.2.2.2.1 p.o (.slice a3 n3 k3)))
  have HB24 := Lib.hid (HB23.out.away hA4 (by simp; omega))
  have HA4 := Lib.hid (HA3.out.next hA4 (fun x hx => .inr (by simp at hx; omega)))
  have HO4 := Lib.hid (HO3.out.away hA4 (fun k hk => by simpa using (hv3 k hk).1))
  have hs4 := hA4.size
  clear hA4 HB13 HB23 HA3 HO3 hv3
  go_upto_region 2 with fail
  clear s44 t44
  generalize w3.setCell ⟨g1, 44, none⟩ (.slice a3 n3 k3) = w4 at *
  have c45 := (HB14.out.cells HAD.out).d
  go_wp2_with fail
  refine (KD.out _ HA4.out).mono ?_
  rintro E w5 ⟨v5, rfl, hown5, hnew5, haw5, hby5, hln5⟩
  have HB15 := Lib.hid (HB14.out.on haw5)
  have HB25 := Lib.hid (HB24.out.on haw5)
  have HA5 := Lib.hid (HA4.out.next haw5 (by simp))
  have HO5 := Lib.hid (HO4.out.away haw5 (by simp))
  have hs5 := haw5.size
  have HD5 := Lib.hid hown5
  clear c45 haw5 HB14 HB24 HA4 HO4 hown5
  obtain ⟨a5, n5, k5, rfl⟩ := HD5.out.shp
  have s45 := (HB15.out.cells HAD.out).d
  have t45 := HB15.out.free 45
  have hA6 := away_put (w := w5) (g := g1) 45 (.slice a5 n5 k5)
  have hv5 : ∀ k, (Value.slice a5 n5 k5).ownBlock = some k → k ≠ g1 ∧ k ≠ g2 ∧ (Value.slice a3 n3 k3).ownBlock ≠ some k := fun k hk => by
    have h1 := hnew5 k hk
    refine ⟨by omega, by omega, fun e => ?_⟩
    have := hlt3 k e
    omega
  have HV5 := Lib.hid hv5
  have HB16 := Lib.hid (HB15.out.put 45 (.slice a5 n5 k5) ((csP_set HAD.out _ _).2.2.2.2.2.2.2.2.2.2.2.2.2 p.d (.slice a5 n5 k5)))
  have HB26 := Lib.hid (HB25.out.away hA6 (by simp; omega))
  have HA6 := Lib.hid (HA5.out.next hA6 (fun x hx => .inr (by simp at hx; omega)))
  have HO6 := Lib.hid (HO5.out.away hA6 (fun k hk => by simpa using (HV3.out k hk).1))
  have HD6 := Lib.hid (HD5.out.away hA6 (fun k hk => by simpa using (hv5 k hk).1))
  have hs6 := hA6.size
  clear hA6 HB15 HB25 HA5 HO5 HD5 hv5
  go_upto_region 3 with fail
  clear s45 t45
  generalize w5.setCell ⟨g1, 45, none⟩ (.slice a5 n5 k5) = w6 at *
  go_wp2_with (first
    | (refine wpList_load28 rfl _ rfl _ rfl p _ _ (by exact HB16.out) HAD.out ?_)
    | (refine wpList_store28 rfl _ _ rfl _ rfl p (.slice a3 n3 k3) (.slice a5 n5 k5) rfl zeroPk (.slice none 0 0) (.slice none 0 0) (by exact HB26.out) HAD.out ⟨rfl, rfl⟩ rfl rfl ?_; refine Hid.out ?_))
  refine Lib.hid ?_
  intro w7 hb7 haw7
  have HB7 := Lib.hid hb7
  have HA7 : Hid (Away [] w w7) := HA6.out.next haw7 (fun x hx => .inr (by simp at hx; omega))
  have HO7 := Lib.hid (HO6.out.away haw7 (fun k hk => by simpa using (HV3.out k hk).2))
  have HD7 := Lib.hid (HD6.out.away haw7 (fun k hk => by simpa using (HV5.out k hk).2.1))
  clear hb7 haw7
  go_wp2_with fail
  refine bodyPost_ret (result28 rfl _ _ _ _ _ _ rfl HB7.out HAD.out) rfl ⟨_, _, rfl, ⟨HO7.out, HD7.out, hnew3.mono (by omega), hnew5.mono (by omega), fun k hk e => (HV5.out k e).2.2 hk⟩, HA7.out⟩
#print axioms ownP_c
end Go.Proofs.YtbkeilboneaejaaGreatDoor
