/-
  The document: piece.
-/
import Derived.Test.YtaicckenpplceabGreatDoorDs
import Derived.Test.YtaicckenpplceabGreatDoorPlZ
import Derived.Test.YtaicckenpplceabGreatDoorFs
namespace Go.Proofs.YtaicckenpplceabGreatDoor
open Go.ChangeShapes Go.WideShapes Go.ChangeAt Go.RowKit Num
open S6 (wp_region_cls quiet_val quiet_call quiet_ld ld3 ld4 ld5 ld25 ld26 load28_run load24m_run)
set_option linter.unusedVariables false
set_option linter.unusedSimpArgs false
set_option maxHeartbeats 8000000
set_option maxRecDepth 100000

namespace R
theorem dpiece_c (p : Pk) (ov dv : Value) (o : List Int) (oo : Value) (n t : Nat) (b : Bool) (w : World) (hp : Pkt w p ov dv) (ho : Sl w oo o) (hnm : n ≤ t) (hm : t ≤ p.d.length) (hd : p.d.length ≤ 65535) (ho0 : 0 ≤ p.off) (ho1 : p.off ≤ 65528) :
    Calls Tryz.prog 19 #[.agg (csP p ov dv), oo, .int .i64 (n : Int), .int .i64 (t : Int), .bool b] w fun E w' => ∃ ou du, E = .returned (.agg (csP (pcR p o n t b) ou du)) ∧ Mine w' w.heap.size (pcR p o n t b) ou du ∧ Away [] w w' := by
  have HAD := Lib.hid hp.wf.ad
  obtain ⟨-, ⟨oa, oc, rfl, -, -, -⟩, ⟨da, dc, rfl, y1, y2, y3⟩⟩ := hp
  obtain ⟨xa, xc, rfl, x1, x2, x3⟩ := ho
  have KO : Hid (∀ W, Away [] w W → Calls Tryz.prog 34 #[.slice xa o.length xc] W fun E w' => ∃ v, E = .returned v ∧ Owns w' v o ∧ New W.heap.size v ∧ Away [] W w') := fun W h => down_c xa o _ xc W rfl x2 (x3.away h (by simp))
  obtain ⟨A, hA⟩ : ∃ A, A = (if dc = n then da else da.map (·.add n)) := ⟨_, rfl⟩
  have KD : Hid (∀ W, Away [] w W → Calls Tryz.prog 34 #[.slice A (t - n) (dc - n)] W fun E w' => ∃ v, E = .returned v ∧ Owns w' v ((p.d.drop n).take (t - n)) ∧ New W.heap.size v ∧ Away [] W w') := fun W h =>
    down_c A _ _ _ W (by rw [List.length_take, List.length_drop]; omega) (fun hn => by
      rw [hA] at hn
      split at hn
      · omega
      · rw [Option.map_eq_none_iff] at hn; have := y2 hn; omega) (by rw [hA]; exact (y3.away h (by simp)).sub n (t - n) dc y1 (by omega))
  have hsl := fun wx => slice_lh da A p.d.length dc n (t - n) (n : Int) (t : Int) hA rfl (by omega) (by omega) wx
  have hw0 : IntKind.i64.wrap (p.off + (n : Int)) = p.off + (n : Int) := by rw [IntKind.wrap_i64]; omega
  have HPE : Hid (pcR p o n t b = { p with o := o, off := p.off + (n : Int), d := (p.d.drop n).take (t - n), more := b }) := Lib.hid rfl
  generalize o.length = no at *
  clear x1 x2 x3 y3 hA
  go_enter Tryz.func19, Tryz.ntmps19
  go_wp2_with (first
    | (refine wpList_box28 rfl _ rfl p _ _ rfl ?_; refine Hid.out ?_)
    | fail)
  refine Lib.hid ?_
  intro g4 w1 hg4 hb4 haw
  have HA := Lib.hid haw
  have HB4 := Lib.hid hb4
  clear hb4 haw
  go_wp2_with (refine wpList_alloc28 rfl rfl ?_; refine Hid.out ?_)
  refine Lib.hid ?_
  intro g8 w2 hg8 hb8 haw
  have HB8 := Lib.hid hb8
  have HS1 := Lib.hid HA.out.size
  have HL4 := Lib.hid HB4.out.lt
  replace HA := Lib.hid (HA.out.trans haw)
  replace HB4 := Lib.hid (HB4.out.on haw)
  clear hb8 haw
  go_wp2_with (first
    | (refine wpList_load28 rfl _ rfl g4 rfl p _ _ (by exact HB4.out) HAD.out ?_)
    | (refine wpList_new28 rfl rfl rfl _ _ rfl p _ _ (fun _ => rfl) (fun _ => rfl) HAD.out rfl rfl ?_; refine Hid.out ?_))
  refine Lib.hid ?_
  intro g9 w3 hg9 hb9 haw
  have hl4 := HB4.out.lt
  have hl8 := HB8.out.lt
  have hs2 := HA.out.size
  have HNE : Hid (g4 ≠ g9 ∧ g8 ≠ g9 ∧ w.heap.size ≤ g9 ∧ w.heap.size ≤ g8) := by
    have h1 := HS1.out
    have h2 := HL4.out
    refine ⟨?_, ?_, ?_, ?_⟩ <;> omega
  replace HA := Lib.hid (HA.out.trans haw)
  replace HB4 := Lib.hid (HB4.out.on haw)
  replace HB8 := Lib.hid (HB8.out.on haw)
  have HB9 := Lib.hid hb9
  clear hb9 haw hl4 hl8 hs2 hg4 hg8 hg9 HS1 HL4
  go_wp2_with fail
  refine (KO.out _ HA.out).mono ?_
  rintro E wc ⟨vo, rfl, hov, hnv, haw⟩
  have HOo := Lib.hid hov
  have HNo : Hid (New w.heap.size vo) := hnv.mono HA.out.size
  have HGo : Hid (∀ k, vo.ownBlock = some k → k ≠ g9) := fun k hk => by have h1 := hnv k hk; have h2 := HB9.out.lt; omega
  have HHo : Hid (∀ k, vo.ownBlock = some k → k ≠ g8) := fun k hk => by have h1 := hnv k hk; have h2 := HB8.out.lt; omega
  replace HA := Lib.hid (HA.out.trans haw)
  replace HB4 := Lib.hid (HB4.out.on haw)
  replace HB8 := Lib.hid (HB8.out.on haw)
  replace HB9 := Lib.hid (HB9.out.on haw)
  clear hov hnv haw KO
  obtain ⟨voa, von, voc, rfl⟩ := HOo.out.shp
  go_wp2_with (refine wpList_putF rfl 26 _ _ rfl g9 44 rfl (.slice voa von voc) rfl (fun u h1 h2 => put26 _ _ _ _ _ u h1 h2) (p) ({ p with o := o }) _ _ _ _ (by exact HB9.out) (by exact HAD.out) (by omega) (by exact (csP_set (p := p) HAD.out _ _).2.2.2.2.2.2.2.2.2.2.2.2.1 o _) ?_; refine Hid.out ?_)
  refine Lib.hid ?_
  intro wp hb9 haw
  replace HB9 := Lib.hid hb9
  replace HB4 := Lib.hid (HB4.out.away haw (by simp; exact HNE.out.1))
  replace HB8 := Lib.hid (HB8.out.away haw (by simp; exact HNE.out.2.1))
  replace HA := Lib.hid (HA.out.next haw (fun x hx => .inr (by simp at hx; subst hx; exact HNE.out.2.2.1)))
  replace HOo := Lib.hid (HOo.out.away haw (fun k hk => by simp; exact HGo.out k hk))
  clear hb9 haw
  have c43 := (HB4.out.cells HAD.out).off
  go_wp2_with (refine wpList_putF rfl 3 _ _ rfl g9 43 rfl (.int .i64 (p.off + (n : Int))) rfl (fun u h1 h2 => put3 _ _ _ u h1 h2) ({ p with o := o }) ({ p with o := o, off := p.off + (n : Int) }) _ _ _ _ (by exact HB9.out) (by exact HAD.out) (by omega) (by exact (csP_set (p := { p with o := o }) HAD.out _ _).2.2.2.2.2.2.2.2.2.2.2.1 _) ?_; refine Hid.out ?_)
  refine Lib.hid ?_
  intro wp hb9 haw
  replace HB9 := Lib.hid hb9
  replace HB4 := Lib.hid (HB4.out.away haw (by simp; exact HNE.out.1))
  replace HB8 := Lib.hid (HB8.out.away haw (by simp; exact HNE.out.2.1))
  replace HA := Lib.hid (HA.out.next haw (fun x hx => .inr (by simp at hx; subst hx; exact HNE.out.2.2.1)))
  replace HOo := Lib.hid (HOo.out.away haw (fun k hk => by simp; exact HGo.out k hk))
  clear hb9 haw c43
  have c45 := (HB4.out.cells HAD.out).d
  go_wp2_with fail
  refine (KD.out _ HA.out).mono ?_
  rintro E wc ⟨vd, rfl, hov, hnv, haw⟩
  have HOd := Lib.hid hov
  have HNd : Hid (New w.heap.size vd) := hnv.mono HA.out.size
  have HGd : Hid (∀ k, vd.ownBlock = some k → k ≠ g9) := fun k hk => by have h1 := hnv k hk; have h2 := HB9.out.lt; omega
  have HHd : Hid (∀ k, vd.ownBlock = some k → k ≠ g8) := fun k hk => by have h1 := hnv k hk; have h2 := HB8.out.lt; omega
  have HAP : Hid (∀ k, (Value.slice voa von voc).ownBlock = some k → vd.ownBlock ≠ some k) := fun k hk hc => by have h1 := hnv k hc; have h2 := HOo.out.lt k hk; omega
  replace HOo := Lib.hid (HOo.out.on haw)
  replace HA := Lib.hid (HA.out.trans haw)
  replace HB4 := Lib.hid (HB4.out.on haw)
  replace HB8 := Lib.hid (HB8.out.on haw)
  replace HB9 := Lib.hid (HB9.out.on haw)
  clear hov hnv haw KD c45 hsl
  obtain ⟨vda, vdn, vdc, rfl⟩ := HOd.out.shp
  go_wp2_with (refine wpList_putF rfl 26 _ _ rfl g9 45 rfl (.slice vda vdn vdc) rfl (fun u h1 h2 => put26 _ _ _ _ _ u h1 h2) ({ p with o := o, off := p.off + (n : Int) }) ({ p with o := o, off := p.off + (n : Int), d := (p.d.drop n).take (t - n) }) _ _ _ _ (by exact HB9.out) (by exact HAD.out) (by omega) (by exact (csP_set (p := { p with o := o, off := p.off + (n : Int) }) HAD.out _ _).2.2.2.2.2.2.2.2.2.2.2.2.2 _ _) ?_; refine Hid.out ?_)
  refine Lib.hid ?_
  intro wp hb9 haw
  replace HB9 := Lib.hid hb9
  replace HB4 := Lib.hid (HB4.out.away haw (by simp; exact HNE.out.1))
  replace HB8 := Lib.hid (HB8.out.away haw (by simp; exact HNE.out.2.1))
  replace HA := Lib.hid (HA.out.next haw (fun x hx => .inr (by simp at hx; subst hx; exact HNE.out.2.2.1)))
  replace HOo := Lib.hid (HOo.out.away haw (fun k hk => by simp; exact HGo.out k hk))
  replace HOd := Lib.hid (HOd.out.away haw (fun k hk => by simp; exact HGd.out k hk))
  clear hb9 haw
  go_wp2_with (refine wpList_putF rfl 4 _ _ rfl g9 41 rfl (.bool b) rfl (fun u h1 h2 => put4 _ _ _ u h1 h2) ({ p with o := o, off := p.off + (n : Int), d := (p.d.drop n).take (t - n) }) ({ p with o := o, off := p.off + (n : Int), d := (p.d.drop n).take (t - n), more := b }) _ _ _ _ (by exact HB9.out) (by exact HAD.out) (by omega) (by exact (csP_set (p := { p with o := o, off := p.off + (n : Int), d := (p.d.drop n).take (t - n) }) HAD.out _ _).2.2.2.2.2.2.2.2.2.1 _) ?_; refine Hid.out ?_)
  refine Lib.hid ?_
  intro wp hb9 haw
  replace HB9 := Lib.hid hb9
  replace HB4 := Lib.hid (HB4.out.away haw (by simp; exact HNE.out.1))
  replace HB8 := Lib.hid (HB8.out.away haw (by simp; exact HNE.out.2.1))
  replace HA := Lib.hid (HA.out.next haw (fun x hx => .inr (by simp at hx; subst hx; exact HNE.out.2.2.1)))
  replace HOo := Lib.hid (HOo.out.away haw (fun k hk => by simp; exact HGo.out k hk))
  replace HOd := Lib.hid (HOd.out.away haw (fun k hk => by simp; exact HGd.out k hk))
  clear hb9 haw
  go_wp2_with (first
    | (refine wpList_load28 rfl _ rfl g9 rfl { p with o := o, off := p.off + (n : Int), d := (p.d.drop n).take (t - n), more := b } _ _ (by exact HB9.out) (by exact HAD.out) ?_)
    | (refine wpList_store28 rfl _ _ rfl g8 rfl { p with o := o, off := p.off + (n : Int), d := (p.d.drop n).take (t - n), more := b } _ _ rfl zeroPk _ _ (by exact HB8.out) (by exact HAD.out) ⟨rfl, rfl⟩ rfl rfl ?_; refine Hid.out ?_))
  refine Lib.hid ?_
  intro wz hbz haw
  replace HA := Lib.hid (HA.out.next haw (fun x hx => .inr (by simp at hx; subst hx; exact HNE.out.2.2.2)))
  have HBZ := Lib.hid hbz
  replace HOo := Lib.hid (HOo.out.away haw (fun k hk => by simp; exact HHo.out k hk))
  replace HOd := Lib.hid (HOd.out.away haw (fun k hk => by simp; exact HHd.out k hk))
  clear hbz haw
  go_wp2_with fail
  refine bodyPost_ret (v := .agg (csP { p with o := o, off := p.off + (n : Int), d := (p.d.drop n).take (t - n), more := b } (.slice voa von voc) (.slice vda vdn vdc))) (result28 rfl _ _ g8 _ _ _ rfl HBZ.out (by exact HAD.out)) rfl ⟨_, _, by rw [HPE.out], ⟨by rw [HPE.out]; exact HOo.out, by rw [HPE.out]; exact HOd.out, HNo.out, HNd.out, HAP.out⟩, HA.out⟩
end R
#print axioms R.dpiece_c
end Go.Proofs.YtaicckenpplceabGreatDoor
