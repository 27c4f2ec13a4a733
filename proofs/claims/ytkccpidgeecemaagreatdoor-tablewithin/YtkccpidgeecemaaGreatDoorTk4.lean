/-
  take4.
-/
import Derived.Test.YtkccpidgeecemaaGreatDoorLay
import Derived.Test.YtkccpidgeecemaaGreatDoorHSize
import Derived.Test.YtkccpidgeecemaaGreatDoorEfA
namespace Go.Proofs.YtkccpidgeecemaaGreatDoor
open Go.ChangeShapes Go.WideShapes Go.ChangeAt Go.RowKit
open S6 (wp_region_cls quiet_val quiet_call quiet_ld ld3 ld4 ld5 ld25 ld26 load28_run load24m_run)
set_option linter.unusedVariables false
set_option linter.unusedSimpArgs false
set_option maxRecDepth 20000

/-- What lay wants. -/
structure LayIn (w : World) (g : Nat) (s : Es) (dv : Value) (p : Pk) (po pd r : Value) (fr : List H.Sp) : Prop where
  pk : Pkt w p po pd
  pl : Plc p
  lst : H.Lst w r fr
  fin : FrIn p fr
  fl : fr.length ≤ 65535
  rb : ∀ k, r.ownBlock = some k → k ≠ g ∧ dv.ownBlock ≠ some k
  out : Outs p po pd (g :: dv.ownBlock.toList)
  by_ : Bytes s.d
  dl : s.d.length ≤ 65535
  h0 : 0 ≤ s.h
  h1 : s.h + H.lenP fr ≤ 65535
theorem LayIn.on {w w' : World} {g : Nat} {s : Es} {dv : Value} {p : Pk} {po pd r : Value} {fr : List H.Sp} (h : LayIn w g s dv p po pd r fr) (hw : Away [] w w') : LayIn w' g s dv p po pd r fr :=
  ⟨h.pk.on hw, h.pl, h.lst.on hw, h.fin, h.fl, h.rb, h.out, h.by_, h.dl, h.h0, h.h1⟩
theorem LayIn.lay {w : World} {g : Nat} {s : Es} {lb : Nat} {lv dv ov : Value} {mb mn : Nat} {p : Pk} {po pd r : Value} {fr : List H.Sp} (h : LayIn w g s dv p po pd r fr) (he : EntG w g s lb lv dv ov mb mn) :
    Calls Tryz.prog 90 #[.pointer (some ⟨g, 0, none⟩), .agg (csP p po pd), r] w (LayOut w g s p fr lb lv dv ov mb mn) := lay_c he p po pd h.pk h.pl r fr h.lst h.fin h.fl h.rb h.out h.by_ h.dl h.h0 h.h1
theorem end_nat {p : Pk} (h : Plc p) : ((endP p).toNat : Int) = p.off + p.d.length ∧ (endP p).toNat ≤ 65535 := by have h1 := h.o0; have h2 := h.tt; unfold endP; omega
theorem lays_len {s : Es} {p : Pk} {fr : List H.Sp} (hq : Plc p) (hf : FrIn p fr) : (layS s p fr).d.length = max s.d.length (endP p).toNat := by
  have := end_nat hq
  show (fr.foldl (laySp p.off p.d) (grow s.d (endP p).toNat)).length = _
  rw [layd_len hq fr _ hf (by rw [grow_len]; unfold endP at *; omega), grow_len]
theorem lays_bytes {s : Es} {p : Pk} {fr : List H.Sp} (hp : Bytes p.d) (hb : Bytes s.d) : Bytes (layS s p fr).d := layd_bytes hp _ _ (grow_bytes hb _)
def Tk4Out (w : World) (g : Nat) (q : Int × Es) (lb : Nat) (lv dv ov : Value) (mb mn : Nat) (E : Ending) (w' : World) : Prop :=
  E = .returned (.int .i64 q.1) ∧ ∃ dv', EntG w' g q.2 lb lv dv' ov mb mn ∧ Moved w dv dv' ∧ Away (g :: dv.ownBlock.toList) w w'
section
variable {w : World} {g : Nat} {s : Es} {lb : Nat} {lv dv ov : Value} {mb mn : Nat}
set_option maxHeartbeats 8000000 in
theorem take4_c (h : EntG w g s lb lv dv ov mb mn) (p : Pk) (po pd r : Value) (fr : List H.Sp) (hi : LayIn w g s dv p po pd r fr) (e0 : Int) (b : Bool) (hb : b = false ↔ s.e = e0) (hhd : 0 ≤ s.hd ∧ s.hd ≤ 60) (he : -1 ≤ s.e ∧ s.e ≤ 65535) :
    Calls Tryz.prog 83 #[.pointer (some ⟨g, 0, none⟩), .agg (csP p po pd), r, .bool b] w (Tk4Out w g (take4 e0 s p fr) lb lv dv ov mb mn) := by
  have HE := Lib.hid h
  have HI := Lib.hid hi
  have HAD := Lib.hid hi.pk.wf.ad
  have HT : Hid (take4 e0 s p fr = if long4 s = true then (4, s) else if agrP (layS s p fr) p = false then (4, layS s p fr) else if fr = [] ∧ s.e = e0 then (3, layS s p fr) else (progN s, layS s p fr)) := rfl
  have HLA : Hid (agrP (layS s p fr) p = agrP (layS s p fr) p) := rfl
  have HPR : Hid (progN (layS s p fr) = progN s) := rfl
  have HDL : Hid (p.off + p.d.length ≤ (layS s p fr).d.length ∧ (layS s p fr).d.length ≤ 65535 ∧ Bytes (layS s p fr).d) := by
    have h1 := lays_len (s := s) hi.pl hi.fin
    have h2 := end_nat hi.pl
    have h3 := hi.dl
    exact ⟨by rw [h1]; omega, by rw [h1]; omega, lays_bytes hi.pk.wf.d hi.by_⟩
  have K1 : Hid (∀ W, Away [] w W → Calls Tryz.prog 94 #[.pointer (some ⟨g, 0, none⟩)] W fun E w' => E = .returned (.bool (long4 s)) ∧ Away [] W w') := fun W hW => tooLong_c (h.on hW) hhd he
  have K2 : Hid (∀ W, Away [] w W → Calls Tryz.prog 90 #[.pointer (some ⟨g, 0, none⟩), .agg (csP p po pd), r] W (LayOut W g s p fr lb lv dv ov mb mn)) := fun W hW => (hi.on hW).lay (h.on hW)
  have HB := Lib.hid hb
  obtain ⟨ra, rc, hre, -, -, -, -⟩ := hi.lst.row (by have := hi.fl; omega) (fun x hx => by have h1 := hi.fin x hx; have h2 := hi.pl.o0; have h3 := hi.pl.tt; unfold endP at h1; exact ⟨⟨by omega, by omega⟩, ⟨by omega, by omega⟩⟩)
  obtain ⟨nf, hnf⟩ : ∃ nf, nf = fr.length := ⟨_, rfl⟩
  rw [← hnf] at hre
  have HNF : Hid (fr = [] ↔ nf = 0) := by rw [hnf]; exact ⟨fun e => by rw [e]; rfl, List.eq_nil_of_length_eq_zero⟩
  have HPB := Lib.hid hi.pk.wf.d
  generalize hag : agrP (layS s p fr) p = ag at *
  generalize long4 s = lg at *
  subst hre
  clear h hi hb hhd he hnf
  cases lg with
  | true =>
    go_enter Tryz.func83, Tryz.ntmps83
    go_wp2_with (refine wpList_box28 rfl _ rfl p _ _ rfl ?_; refine Hid.out ?_)
    refine Lib.hid ?_
    intro g5 w5 hg5 hb5 haw5
    have HA5 := Lib.hid haw5
    clear hb5 haw5
    go_wp2_with fail
    refine (K1.out w5 HA5.out).mono ?_
    rintro E w6 ⟨rfl, haw6⟩
    have HA6 := Lib.hid (HA5.out.trans haw6)
    clear haw6
    go_wp2_with fail
    go_ret
    exact ⟨ret_int (by rw [HT.out]; rfl), dv, by rw [HT.out]; exact HE.out.on HA6.out, Moved.refl _ _, HA6.out.mono (by simp)⟩
  | false =>
    go_enter Tryz.func83, Tryz.ntmps83
    go_wp2_with (refine wpList_box28 rfl _ rfl p _ _ rfl ?_; refine Hid.out ?_)
    refine Lib.hid ?_
    intro g5 w5 hg5 hb5 haw5
    have HB5 := Lib.hid hb5
    have HA5 := Lib.hid haw5
    have HG5 : Hid (g5 ∉ g :: dv.ownBlock.toList) := fun hm => by
      simp at hm
      rcases hm with rfl | hm
      · have := lt_of_block HE.out.blk; omega
      · have := HE.out.da.lt _ hm; omega
    clear hb5 haw5
    go_wp2_with fail
    refine (K1.out w5 HA5.out).mono ?_
    rintro E w6 ⟨rfl, haw6⟩
    have HA6 := Lib.hid (HA5.out.trans haw6)
    have HB6 := Lib.hid (HB5.out.on haw6)
    have K2' := Lib.hid (K2.out w6 HA6.out)
    have HE6 := Lib.hid (HE.out.on HA6.out)
    have HI6 := Lib.hid (HI.out.on HA6.out)
    clear haw6
    go_wp2_with (refine wpList_load28 rfl _ rfl _ rfl p _ _ (by exact HB6.out) HAD.out ?_)
    refine K2'.out.mono ?_
    rintro E w7 ⟨rfl, dv', he7, hm7, haw7⟩
    have HE7 := Lib.hid he7
    have HM7 : Hid (Moved w dv dv') := fun k hk => by
      rcases hm7 k hk with h1 | h1
      · exact .inl h1
      · exact .inr (by have := HA6.out.size; omega)
    have HA7 : Hid (Away (g :: dv.ownBlock.toList) w w7) := (HA6.out.mono (by simp)).trans haw7
    have HB7 := Lib.hid (HB6.out.away haw7 HG5.out)
    have HP7 := Lib.hid (HI6.out.pk.away haw7 HI.out.out)
    have K3 : Hid (Calls Tryz.prog 93 #[.pointer (some ⟨g, 0, none⟩), .agg (csP p po pd)] w7 fun E w' => E = .returned (.bool ag) ∧ Away [] w7 w') := by
      rw [← hag]
      exact agrees_c he7 p po pd HP7.out HI.out.pl (by have := HDL.out.1; omega) HDL.out.2.2 HDL.out.2.1
    clear he7 hm7 haw7 hag
    cases ag with
    | false =>
      go_wp2_with (refine wpList_load28 rfl _ rfl _ rfl p _ _ (by exact HB7.out) HAD.out ?_)
      refine K3.out.mono ?_
      rintro E w8 ⟨rfl, haw8⟩
      have HA8 := Lib.hid haw8
      clear haw8
      go_wp2_with fail
      go_ret
      exact ⟨ret_int (by rw [HT.out]; rfl), dv', by rw [HT.out]; exact HE7.out.on HA8.out, HM7.out, HA7.out.next HA8.out (by simp)⟩
    | true =>
      go_wp2_with (refine wpList_load28 rfl _ rfl _ rfl p _ _ (by exact HB7.out) HAD.out ?_)
      refine K3.out.mono ?_
      rintro E w8 ⟨rfl, haw8⟩
      have HE8 := Lib.hid (HE7.out.on haw8)
      have HA8 : Hid (Away (g :: dv.ownBlock.toList) w w8) := HA7.out.next haw8 (by simp)
      have K4 := Lib.hid (progress_c HE8.out)
      rw [HPR.out] at K4
      clear haw8
      by_cases h0 : nf = 0
      · have h0' : ((nf : Int) == 0) = true := by simp [h0]
        cases b with
        | false =>
          have HT2 : Hid (take4 e0 s p fr = (3, layS s p fr)) := by show _ = _; rw [HT.out, if_neg (by simp), if_neg (by simp), if_pos ⟨HNF.out.2 h0, HB.out.1 rfl⟩]
          go_wp2_with fail
          go_ret
          exact ⟨ret_int (by rw [HT2.out]), dv', by rw [HT2.out]; exact HE8.out, HM7.out, HA8.out⟩
        | true =>
          have HT2 : Hid (take4 e0 s p fr = (progN s, layS s p fr)) := by show _ = _; rw [HT.out, if_neg (by simp), if_neg (by simp), if_neg (fun hc => by have := HB.out.2 hc.2; simp at this)]
          go_wp2_with fail
          refine K4.out.mono ?_
          rintro E w8 ⟨rfl, rfl⟩
          go_wp2_with fail
          go_ret
          exact ⟨ret_int (by rw [HT2.out]), dv', by rw [HT2.out]; exact HE8.out, HM7.out, HA8.out⟩
      · have h0' : ((nf : Int) == 0) = false := by simp [h0]
        have HT2 : Hid (take4 e0 s p fr = (progN s, layS s p fr)) := by show _ = _; rw [HT.out, if_neg (by simp), if_neg (by simp), if_neg (fun hc => h0 (HNF.out.1 hc.1))]
        go_wp2_with fail
        refine K4.out.mono ?_
        rintro E w8 ⟨rfl, rfl⟩
        go_wp2_with fail
        go_ret
        exact ⟨ret_int (by rw [HT2.out]), dv', by rw [HT2.out]; exact HE8.out, HM7.out, HA8.out⟩
end
end Go.Proofs.YtkccpidgeecemaaGreatDoor
