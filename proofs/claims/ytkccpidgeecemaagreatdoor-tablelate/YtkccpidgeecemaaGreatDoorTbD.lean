/-
  alive.
-/
import Derived.Test.YtkccpidgeecemaaGreatDoorTbC
import Derived.Deep.CutBlock
import Derived.Deep.DeepCutAuto
namespace Go.Proofs.YtkccpidgeecemaaGreatDoor
open Go.ChangeShapes Go.WideShapes Go.ChangeAt Go.RowKit
open S6 (wp_region_cls quiet_val quiet_call quiet_ld ld3 ld4 ld5 ld25 ld26 load28_run load24m_run)
set_option linter.unusedVariables false
set_option linter.unusedSimpArgs false
set_option maxRecDepth 100000
def alD : Pk := dataP 7 40
def alA : Pk := pieceP alD 16 32
def alB : Pk := pieceP alD 32 40
def alC : Pk := pieceP alD 0 16
def al1 : Es := (putS (newS alA 0) alA).2
def al2 : Es := (putS al1 alA).2
def al3 : Es := (putS al2 alB).2
def al4 : Es := (putS al3 alC).2
def al5 : Es := (putS (newS alC 4) alC).2
theorem al_right : rgt2 alA = true ∧ rgt2 alB = true ∧ rgt2 alC = true := ⟨by kernel_rfl, by kernel_rfl, by kernel_rfl⟩
theorem al_part : isWhP alA = false ∧ isWhP alB = false ∧ isWhP alC = false := ⟨by kernel_rfl, by kernel_rfl, by kernel_rfl⟩
theorem al_n1 : (putS (newS alA 0) alA).1 = 5 := by kernel_rfl
theorem al_n2 : (putS al1 alA).1 = 3 := by kernel_rfl
theorem al_n3 : (putS al2 alB).1 = 5 := by kernel_rfl
theorem al_n4 : (putS al3 alC).1 = 6 := by kernel_rfl
theorem al_n5 : (putS (newS alC 4) alC).1 = 5 := by kernel_rfl
theorem al_h : al1.h = 16 ∧ al2.h = 16 ∧ al3.h = 24 ∧ al5.h = 16 := ⟨by kernel_rfl, by kernel_rfl, by kernel_rfl, by kernel_rfl⟩
theorem al_holes : holesN al1 = 2 ∧ holesN al2 = 2 ∧ holesN al3 = 1 ∧ holesN al5 = 1 := ⟨by kernel_rfl, by kernel_rfl, by kernel_rfl, by kernel_rfl⟩
theorem al_tb : al1.tb = 0 ∧ al2.tb = 0 ∧ al3.tb = 0 ∧ al5.tb = 4 := ⟨by kernel_rfl, by kernel_rfl, by kernel_rfl, by kernel_rfl⟩
theorem al_k : al1.k = alA ∧ al2.k = alA ∧ al3.k = alA ∧ al5.k = alC := ⟨by kernel_rfl, by kernel_rfl, by kernel_rfl, by kernel_rfl⟩
theorem al_whole : (wholeP al4).1 = alD := by kernel_rfl
theorem al_first : firstP al5 = (alC, true) := by kernel_rfl
theorem al_ky : kyB alD alA = true ∧ kyB alB alA = true ∧ kyB alC alA = true ∧ kyB alA alA = true ∧ kyB alD alC = true ∧ kyB alC alC = true := ⟨by kernel_rfl, by kernel_rfl, by kernel_rfl, by kernel_rfl, by kernel_rfl, by kernel_rfl⟩
theorem take_one {q : Qo} {s : Es} {g : Nat} {fp fp1 fp2 : List Nat} {p : Pk} {n : Int} {wh ks : List Pk} {cs' : List Cel} (h : takeC q [⟨s, g, fp⟩] 0 ⟨s, g, fp⟩ p fp1 fp2 = ⟨n, wh, ks, cs'⟩) (h6 : (putS s p).1 ≠ 6) (hh : holesN (putS s p).2 ≤ q.h) (hb : (putS s p).2.h ≤ q.b) (he : 1 ≤ q.e) :
    n = (putS s p).1 ∧ wh = [] ∧ ks = [] ∧ cs' = [⟨(putS s p).2, g, fp1⟩] := by
  have ho : ∀ f, pushN q [⟨(putS s p).2, g, f⟩] = 0 := fun f => by
    unfold pushN
    rw [if_neg]
    simp only [overB, sumC, List.length_cons, List.length_nil, List.map_cons, List.map_nil, List.sum_cons, List.sum_nil, Bool.or_eq_true, decide_eq_true_eq]
    omega
  unfold takeC at h
  have hh' : ¬ q.h < holesN (putS s p).2 := by omega
  rw [if_neg h6, if_neg hh'] at h
  simp only [List.set_cons_zero, ho, List.take_zero, List.map_nil, List.drop_zero] at h
  injection h with h1 h2 h3 h4
  exact ⟨h1.symm, h2.symm, h3.symm, h4.symm⟩
theorem take_done {q : Qo} {s : Es} {g : Nat} {fp fp1 fp2 : List Nat} {p : Pk} {n : Int} {wh ks : List Pk} {cs' : List Cel} (h : takeC q [⟨s, g, fp⟩] 0 ⟨s, g, fp⟩ p fp1 fp2 = ⟨n, wh, ks, cs'⟩) (h6 : (putS s p).1 = 6) :
    n = 6 ∧ wh = [(wholeP (putS s p).2).1] ∧ ks = [] ∧ cs' = [] := by
  unfold takeC at h
  rw [if_pos h6] at h
  injection h with h1 h2 h3 h4
  exact ⟨h1.symm, h2.symm, h3.symm, h4.symm⟩
theorem res_none {q : Qo} {now : Int} {p : Pk} {n : Int} {wh ks : List Pk} {cs' : List Cel} (h : Res q now [] p n wh ks cs') (hw : isWhP p = false) (h6 : (putS (newS p now) p).1 ≠ 6) (hh : holesN (putS (newS p now) p).2 ≤ q.h) (hb : (putS (newS p now) p).2.h ≤ q.b) (he : 1 ≤ q.e) :
    n = (putS (newS p now) p).1 ∧ wh = [] ∧ ks = [] ∧ ∃ g fp, cs' = [⟨(putS (newS p now) p).2, g, fp⟩] := by
  rcases h with ⟨h, -⟩ | ⟨-, cs1, i, c, fp1, fp2, h | ⟨-, g, fp, rfl, rfl, rfl⟩, ht⟩
  · rw [hw] at h; simp at h
  · have := h.2.1; simp at this
  · obtain ⟨h1, h2, h3, h4⟩ := take_one ht h6 hh hb he
    exact ⟨h1, h2, h3, g, fp1, h4⟩
theorem res_one {q : Qo} {now : Int} {p : Pk} {s : Es} {g : Nat} {fp : List Nat} {n : Int} {wh ks : List Pk} {cs' : List Cel} (h : Res q now [⟨s, g, fp⟩] p n wh ks cs') (hw : isWhP p = false) (hk : kyB p s.k = true) :
    ∃ fp1 fp2, takeC q [⟨s, g, fp⟩] 0 ⟨s, g, fp⟩ p fp1 fp2 = ⟨n, wh, ks, cs'⟩ := by
  rcases h with ⟨h, -⟩ | ⟨-, cs1, i, c, fp1, fp2, h | ⟨h, -⟩, ht⟩
  · rw [hw] at h; simp at h
  · obtain ⟨rfl, h2, -⟩ := h
    have hi : i = 0 := by have := (List.getElem?_eq_some_iff.1 h2).1; simpa using this
    subst hi
    simp only [List.getElem?_cons_zero, Option.some.injEq] at h2
    subst h2
    exact ⟨fp1, fp2, ht⟩
  · have := h _ (List.mem_cons_self ..); rw [hk] at this; simp at this
def alQ : Qo := ⟨2, 100, 8, 10⟩
section
variable {now : Int} {n : Int} {wh ks : List Pk} {cs' : List Cel} {g : Nat} {fp : List Nat}
theorem al_put1 (h : Res alQ 0 [] alA n wh ks cs') : n = 5 ∧ wh = [] ∧ ks = [] ∧ ∃ g fp, cs' = [⟨al1, g, fp⟩] := by
  have h1 := res_none h al_part.1 (by rw [al_n1]; decide) (by show holesN al1 ≤ _; rw [al_holes.1]; decide) (by show al1.h ≤ _; rw [al_h.1]; decide) (by decide)
  rw [al_n1] at h1; exact h1
theorem al_put2 (h : Res alQ now [⟨al1, g, fp⟩] alA n wh ks cs') : n = 3 ∧ wh = [] ∧ ks = [] ∧ ∃ fp, cs' = [⟨al2, g, fp⟩] := by
  obtain ⟨fp1, fp2, ht⟩ := res_one h al_part.1 (by rw [al_k.1]; exact al_ky.2.2.2.1)
  obtain ⟨h1, h2, h3, h4⟩ := take_one ht (by rw [al_n2]; decide) (by show holesN al2 ≤ _; rw [al_holes.2.1]; decide) (by show al2.h ≤ _; rw [al_h.2.1]; decide) (by decide)
  rw [al_n2] at h1; exact ⟨h1, h2, h3, _, h4⟩
theorem al_put3 (h : Res alQ now [⟨al2, g, fp⟩] alB n wh ks cs') : n = 5 ∧ wh = [] ∧ ks = [] ∧ ∃ fp, cs' = [⟨al3, g, fp⟩] := by
  obtain ⟨fp1, fp2, ht⟩ := res_one h al_part.2.1 (by rw [al_k.2.1]; exact al_ky.2.1)
  obtain ⟨h1, h2, h3, h4⟩ := take_one ht (by rw [al_n3]; decide) (by show holesN al3 ≤ _; rw [al_holes.2.2.1]; decide) (by show al3.h ≤ _; rw [al_h.2.2.1]; decide) (by decide)
  rw [al_n3] at h1; exact ⟨h1, h2, h3, _, h4⟩
theorem al_put4 (h : Res alQ now [⟨al3, g, fp⟩] alC n wh ks cs') : n = 6 ∧ wh = [alD] ∧ ks = [] ∧ cs' = [] := by
  obtain ⟨fp1, fp2, ht⟩ := res_one h al_part.2.2 (by rw [al_k.2.2.1]; exact al_ky.2.2.1)
  have h1 := take_done ht al_n4
  rw [show (putS al3 alC).2 = al4 from rfl, al_whole] at h1; exact h1
theorem al_put5 (h : Res alQ 4 [] alC n wh ks cs') : n = 5 ∧ wh = [] ∧ ks = [] ∧ ∃ g fp, cs' = [⟨al5, g, fp⟩] := by
  have h1 := res_none h al_part.2.2 (by rw [al_n5]; decide) (by show holesN al5 ≤ _; rw [al_holes.2.2.2]; decide) (by show al5.h ≤ _; rw [al_h.2.2.2]; decide) (by decide)
  rw [al_n5] at h1; exact h1
end
theorem upB_bytes : ∀ k, k ≤ 200 → Bytes (upB k)
  | 0, _ => Bytes.nil
  | k + 1, h => (upB_bytes k (by omega)).app (Bytes.cons Bytes.nil (by omega) (by omega))
theorem ten_bytes (z : Int) (h0 : 0 ≤ z) (h1 : z ≤ 255) : Bytes (ten z) := by
  intro n hn
  simp [ten] at hn
  omega
theorem data_wf (id : Int) (h0 : 0 ≤ id) (h1 : id ≤ 4294967295) (n : Nat) (hn : n ≤ 200) : Wf (dataP id n) :=
  ⟨by simp [i64ok, dataP], by simp [i64ok, dataP], by simp [i64ok, dataP], by simp [i64ok, dataP], rfl, ten_bytes 1 (by omega) (by omega), by simp [i64ok, dataP], rfl, ten_bytes 2 (by omega) (by omega), by simp [i64ok, dataP], by simp [i64ok, dataP], h0, h1, by simp [i64ok, dataP], Bytes.nil, by simp [dataP], upB_bytes n hn, by show (upB n).length ≤ _; rw [upB_len]; omega⟩
theorem piece_wf {p : Pk} (h : Wf p) {f t : Nat} (hf : f ≤ 100000) : Wf (pieceP p f t) :=
  ⟨h.v, h.tos, h.flow, h.sv, h.sl, h.sb, h.dv, h.dl, h.db, h.proto, h.ttl, h.id0, h.id1, ⟨by show _ ≤ (f : Int); omega, by show (f : Int) ≤ _; omega⟩, h.o, h.ol, (h.d.drop _).take _, by show ((p.d.drop f).take (t - f)).length ≤ _; have := h.dn; simp only [List.length_take, List.length_drop]; omega⟩
theorem nil_sl (w : World) : Sl w (.slice none 0 0) [] := ⟨none, 0, rfl, Nat.le_refl _, fun _ => rfl, by refine ⟨?_, Bytes.nil, .inl rfl⟩; simp⟩
structure Ta (w0 w : World) (gt mb : Nat) (ov : Value) (q : Qo) (t : Int) (cs : List Cel) : Prop where
  tab : Tab w gt mb ov q t cs
  new : ∀ z ∈ fpT gt mb ov cs, w0.heap.size ≤ z
  aw : Away [] w0 w
section
variable {w0 w w' : World} {gt mb : Nat} {ov ov' : Value} {q : Qo} {t now : Int} {cs cs' : List Cel}
theorem Ta.on (h : Ta w0 w gt mb ov q t cs) (hw : Away [] w w') : Ta w0 w' gt mb ov q t cs := ⟨h.tab.on hw, h.new, h.aw.trans hw⟩
theorem Ta.step (h : Ta w0 w gt mb ov q t cs) (ht : Tab w' gt mb ov' q now cs') (hz : ∀ z ∈ fpT gt mb ov' cs', z ∈ fpT gt mb ov cs ∨ w.heap.size ≤ z) (hw : Away (fpT gt mb ov cs) w w') : Ta w0 w' gt mb ov' q now cs' :=
  ⟨ht, fun z hm => by
    rcases hz z hm with h1 | h1
    · exact h.new z h1
    · exact Nat.le_trans h.aw.size h1, h.aw.next hw (fun z hm => .inr (h.new z hm))⟩
theorem Ta.putIn (h : Ta w0 w gt mb ov q t cs) (hg : Glob w0) {p : Pk} {po pd : Value} (hp : Pkt w p po pd) (ho : p.o = []) (hd : ∀ k, pd.ownBlock = some k → k ∉ fpT gt mb ov cs) (hb : ∀ c ∈ cs, 0 ≤ c.s.tb ∧ c.s.tb ≤ t) (ht : 0 ≤ t ∧ t ≤ 1099511627776) (hq : 0 ≤ q.e ∧ 0 ≤ q.b) (hl : cs.length < 1000) :
    PutIn w gt mb ov q t cs p po pd :=
  ⟨h.tab, hg.on h.aw, hp, ⟨fun e => absurd ho e, fun _ k hk => hd k hk⟩, fun hm => by have h1 := h.new 0 hm; have h2 := hg.pos; omega, hb, ht, hq, hl⟩
def PutT (w0 w : World) (gt mb : Nat) (ov : Value) (q : Qo) (now : Int) (cs : List Cel) (n : Int) (wh : List Pk) (P : List Pk → List Cel → Prop) (E : Ending) (w' : World) : Prop :=
  ∃ wv lv gv xs ks cs' ov', E = .returned (.tuple #[.agg (csTo n wv lv gv), .int .i64 0]) ∧ wv.oneCell' = true ∧ (∃ c, lv = .slice c 0 0 ∨ ∃ k, lv = .slice c 0 k) ∧ gv.oneCell' = true ∧ Cuts w' w.heap.size wv xs ∧ xs.map X.p = wh ∧ K.LstK w' gv ks ∧ New w.heap.size gv ∧ P ks cs' ∧
    Ta w0 w' gt mb ov' q now cs' ∧ (∀ z ∈ fpT gt mb ov' cs', z ∈ fpT gt mb ov cs ∨ w.heap.size ≤ z) ∧ Away (fpT gt mb ov cs) w w'
theorem Ta.put (h : Ta w0 w gt mb ov q t cs) (hg : Glob w0) {p : Pk} {po pd : Value} (hp : Pkt w p po pd) (ho : p.o = []) (hd : ∀ k, pd.ownBlock = some k → k ∉ fpT gt mb ov cs) (hb : ∀ c ∈ cs, 0 ≤ c.s.tb ∧ c.s.tb ≤ t) (ht : 0 ≤ t ∧ t ≤ 1099511627776) (hq : 0 ≤ q.e ∧ 0 ≤ q.b) (hl : cs.length < 1000)
    (hr : rgt2 p = true) (hn : t ≤ now ∧ now ≤ 1099511627776) (hlate : ∀ c ∈ cs, lateB q now c = false) {n : Int} {wh : List Pk} {P : List Pk → List Cel → Prop} (hP : ∀ n' wh' ks cs', Res q now cs p n' wh' ks cs' → n' = n ∧ wh' = wh ∧ P ks cs') :
    Calls Tryz.prog 10 #[.pointer (some ⟨gt, 0, none⟩), .agg (csP p po pd), .int .i64 now] w (PutT w0 w gt mb ov q now cs n wh P) := by
  refine (tput_c (h.putIn hg hp ho hd hb ht hq hl) now).mono ?_
  rintro E w' (⟨hx, -⟩ | ⟨-, n', wv, lv, gv, ov', xs, ys, ks, cs', rfl, hcw, hcl, hgk, hgn, hys, htab, hres, hfp, haw⟩)
  · rcases hx with h1 | h1 | h1
    · rw [hr] at h1; simp at h1
    · omega
    · omega
  · have e1 : cs.takeWhile (lateB q now) = [] := by
      cases cs with
      | nil => rfl
      | cons c r => rw [List.takeWhile_cons, hlate c (by simp)]; rfl
    have e2 : cs.dropWhile (lateB q now) = cs := by
      cases cs with
      | nil => rfl
      | cons c r => rw [List.dropWhile_cons, hlate c (by simp)]; rfl
    rw [e1] at hys
    rw [e2] at hres
    obtain ⟨rfl, hwh, hp'⟩ := hP _ _ _ _ hres
    have hy0 : ys = [] := by
      have : (ys.map X.p).length = 0 := by rw [hys]; rfl
      rw [List.length_map] at this
      exact List.eq_nil_of_length_eq_zero this
    subst hy0
    obtain ⟨a1, n1, c1, e3⟩ := lstp_shp hcw.lst
    obtain ⟨a2, c2, e4, -⟩ := hcl.pks (by simp)
    obtain ⟨a3, n3, c3, e5⟩ := lstk_shp hgk
    exact ⟨wv, lv, gv, xs, ks, cs', ov', rfl, by rw [e3]; rfl, ⟨a2, .inr ⟨c2, e4⟩⟩, by rw [e5]; rfl, hcw, hwh, hgk, hgn, hp', h.step htab hfp haw, hfp, haw⟩
structure Al (w0 w : World) (gt mb gp : Nat) (ov pd : Value) (q : Qo) (t : Int) (cs : List Cel) (D : Pk) : Prop where
  ta : Ta w0 w gt mb ov q t cs
  box : BoxP w gp D (.slice none 0 0) pd
  pkt : Pkt w D (.slice none 0 0) pd
  gpo : gp ∉ fpT gt mb ov cs
  pdo : ∀ k, pd.ownBlock = some k → k ∉ fpT gt mb ov cs
  plt : ∀ k, pd.ownBlock = some k → k < w.heap.size
section
variable {gp : Nat} {pd : Value} {D : Pk}
theorem Al.on (h : Al w0 w gt mb gp ov pd q t cs D) (hw : Away [] w w') : Al w0 w' gt mb gp ov pd q t cs D := ⟨h.ta.on hw, h.box.on hw, h.pkt.on hw, h.gpo, h.pdo, fun k hk => Nat.lt_of_lt_of_le (h.plt k hk) hw.size⟩
theorem Al.step (h : Al w0 w gt mb gp ov pd q t cs D) (ho : D.o = []) (ht : Ta w0 w' gt mb ov' q now cs') (hz : ∀ z ∈ fpT gt mb ov' cs', z ∈ fpT gt mb ov cs ∨ w.heap.size ≤ z) (hw : Away (fpT gt mb ov cs) w w') : Al w0 w' gt mb gp ov' pd q now cs' D :=
  ⟨ht, hw.keep h.gpo h.box, h.pkt.away hw ⟨fun e => absurd ho e, fun _ k hk => h.pdo k hk⟩,
    fun hm => by
      rcases hz gp hm with h1 | h1
      · exact h.gpo h1
      · have := h.box.lt; omega,
    fun k hk hm => by
      rcases hz k hm with h1 | h1
      · exact h.pdo k hk h1
      · have := h.plt k hk; omega, fun k hk => Nat.lt_of_lt_of_le (h.plt k hk) hw.size⟩
def PcT (w0 w : World) (gt mb gp : Nat) (ov pd : Value) (q : Qo) (t : Int) (cs : List Cel) (D p : Pk) (E : Ending) (w' : World) : Prop :=
  ∃ dv, E = .returned (.agg (csP p (.slice none 0 0) dv)) ∧ Pkt w' p (.slice none 0 0) dv ∧ (∀ k, dv.ownBlock = some k → k ∉ fpT gt mb ov cs) ∧ Al w0 w' gt mb gp ov pd q t cs D ∧ Away [] w w'
theorem Al.piece (h : Al w0 w gt mb gp ov pd q t cs D) (ho : D.o = []) (hl : D.d.length ≤ 100000) {f t' : Nat} (hft : f < t') (ht : t' ≤ D.d.length) :
    Calls Tryz.prog 25 #[.agg (csP D (.slice none 0 0) pd), .int .i64 (f : Int), .int .i64 (t' : Int)] w (PcT w0 w gt mb gp ov pd q t cs D (pieceP D f t')) := by
  refine (piece_c D _ pd w h.pkt f t' hft ht hl).mono ?_
  rintro E w' ⟨dv, rfl, how, hnw, haw⟩
  have hwf : Wf (pieceP D f t') := piece_wf h.pkt.wf (by omega)
  refine ⟨dv, rfl, ⟨hwf, ?_, how.sl hwf.d hwf.dn⟩, fun k hk hm => ?_, h.on haw, haw⟩
  · show Sl w' _ D.o
    rw [ho]; exact nil_sl w'
  · have h1 := hnw k hk
    have h2 := h.ta.tab.lt k hm
    omega
end
end
theorem al_wf : Wf alD ∧ Wf alA ∧ Wf alB ∧ Wf alC := by
  have h : Wf alD := data_wf 7 (by omega) (by omega) 40 (by omega)
  exact ⟨h, piece_wf h (by omega), piece_wf h (by omega), piece_wf h (by omega)⟩
theorem alD_len : alD.d.length = 40 := upB_len 40
theorem lk_one {w : World} {g : Nat} {p : Pk} (h : BoxK w g (csK p)) (ha : Ad p) : K.LstK w (.slice (some ⟨g, 0, none⟩) 1 1) [p] := by
  have h1 : K.Blk w g 1 (listK p) := ⟨h, by rw [listK_len ha]⟩
  exact h1.lst (l := [p]) (by simpa using ha) (by unfold maxLen; omega) rfl (by omega) (by rw [List.take_of_length_le (by rw [listK_len ha]; omega)]; simp)
section
variable {w0 w w' : World} {gt mb gp g : Nat} {ov pd dv : Value} {fp : List Nat}
theorem al_pieces {t : Int} {cs : List Cel} (h : Al w0 w gt mb gp ov pd alQ t cs alD) :
    Calls Tryz.prog 25 #[.agg (csP alD (.slice none 0 0) pd), .int .i64 16, .int .i64 32] w (PcT w0 w gt mb gp ov pd alQ t cs alD alA) ∧
    Calls Tryz.prog 25 #[.agg (csP alD (.slice none 0 0) pd), .int .i64 32, .int .i64 40] w (PcT w0 w gt mb gp ov pd alQ t cs alD alB) ∧
    Calls Tryz.prog 25 #[.agg (csP alD (.slice none 0 0) pd), .int .i64 0, .int .i64 16] w (PcT w0 w gt mb gp ov pd alQ t cs alD alC) :=
  ⟨h.piece rfl (by rw [alD_len]; omega) (f := 16) (t' := 32) (by omega) (by rw [alD_len]; omega), h.piece rfl (by rw [alD_len]; omega) (f := 32) (t' := 40) (by omega) (by rw [alD_len]; omega), h.piece rfl (by rw [alD_len]; omega) (f := 0) (t' := 16) (by omega) (by rw [alD_len]; omega)⟩
def PutA (w0 w : World) (gt mb gp : Nat) (ov pd : Value) (cs : List Cel) (now n : Int) (wh : List Pk) (P : List Cel → Prop) (E : Ending) (w' : World) : Prop :=
  ∃ wv lv gv xs cs' ov', E = .returned (.tuple #[.agg (csTo n wv lv gv), .int .i64 0]) ∧ wv.oneCell' = true ∧ lv.oneCell' = true ∧ gv.oneCell' = true ∧ Cuts w' w.heap.size wv xs ∧ xs.map X.p = wh ∧ P cs' ∧ Al w0 w' gt mb gp ov' pd alQ now cs' alD ∧ (∀ b, b ∉ fpT gt mb ov cs → b < w.heap.size → b ∉ fpT gt mb ov' cs') ∧ Away (fpT gt mb ov cs) w w'
theorem Al.put {t now : Int} {cs : List Cel} (h : Al w0 w gt mb gp ov pd alQ t cs alD) (hg : Glob w0) {p : Pk} (hp : Pkt w p (.slice none 0 0) dv) (ho : p.o = []) (hd : ∀ k, dv.ownBlock = some k → k ∉ fpT gt mb ov cs) (hb : ∀ c ∈ cs, 0 ≤ c.s.tb ∧ c.s.tb ≤ t) (ht : 0 ≤ t ∧ t ≤ 1099511627776) (hl : cs.length < 1000)
    (hr : rgt2 p = true) (hn : t ≤ now ∧ now ≤ 1099511627776) (hlate : ∀ c ∈ cs, lateB alQ now c = false) {n : Int} {wh : List Pk} {P : List Cel → Prop} (hP : ∀ n' wh' ks cs', Res alQ now cs p n' wh' ks cs' → n' = n ∧ wh' = wh ∧ ks = [] ∧ P cs') :
    Calls Tryz.prog 10 #[.pointer (some ⟨gt, 0, none⟩), .agg (csP p (.slice none 0 0) dv), .int .i64 now] w (PutA w0 w gt mb gp ov pd cs now n wh P) := by
  refine (h.ta.put hg hp ho hd hb ht ⟨by decide, by decide⟩ hl hr hn hlate (P := fun ks cs' => ks = [] ∧ P cs') hP).mono ?_
  rintro E w' ⟨wv, lv, gv, xs, ks, cs', ov', rfl, h1, ⟨c, h2⟩, h3, h4, h5, h6, h7, ⟨-, h8⟩, h9, h10, h11⟩
  refine ⟨wv, lv, gv, xs, cs', ov', rfl, h1, ?_, h3, h4, h5, h8, h.step rfl h9 h10 h11, fun b hb hlt hm => ?_, h11⟩
  · rcases h2 with rfl | ⟨k, rfl⟩ <;> rfl
  · rcases h10 b hm with h12 | h12
    · exact hb h12
    · omega
theorem late1 {t now : Int} {s : Es} (h : s.tb = t) (hn : now - t < 10) : ∀ c ∈ [(⟨s, g, fp⟩ : Cel)], lateB alQ now c = false := fun c hc => by
  simp at hc
  subst hc
  simp only [lateB, alQ, h, decide_eq_false_iff_not]
  omega
theorem born1 {t : Int} {s : Es} (h : s.tb = 0) (ht : 0 ≤ t) : ∀ c ∈ [(⟨s, g, fp⟩ : Cel)], 0 ≤ c.s.tb ∧ c.s.tb ≤ t := fun c hc => by
  simp at hc
  subst hc
  simp only [h]
  omega
theorem tp1 (h : Al w0 w gt mb gp ov pd alQ 0 [] alD) (hg : Glob w0) (hp : Pkt w alA (.slice none 0 0) dv) (hd : ∀ k, dv.ownBlock = some k → k ∉ fpT gt mb ov []) :
    Calls Tryz.prog 10 #[.pointer (some ⟨gt, 0, none⟩), .agg (csP alA (.slice none 0 0) dv), .int .i64 0] w (PutA w0 w gt mb gp ov pd [] 0 5 [] (fun cs' => ∃ g fp, cs' = [⟨al1, g, fp⟩])) :=
  h.put hg hp rfl hd (by simp) (by omega) (by simp) al_right.1 (by omega) (by simp) (fun n' wh' ks cs' hr => al_put1 hr)
theorem tp2 (h : Al w0 w gt mb gp ov pd alQ 0 [⟨al1, g, fp⟩] alD) (hg : Glob w0) (hp : Pkt w alA (.slice none 0 0) dv) (hd : ∀ k, dv.ownBlock = some k → k ∉ fpT gt mb ov [⟨al1, g, fp⟩]) :
    Calls Tryz.prog 10 #[.pointer (some ⟨gt, 0, none⟩), .agg (csP alA (.slice none 0 0) dv), .int .i64 1] w (PutA w0 w gt mb gp ov pd [⟨al1, g, fp⟩] 1 3 [] (fun cs' => ∃ fp, cs' = [⟨al2, g, fp⟩])) :=
  h.put hg hp rfl hd (born1 al_tb.1 (by omega)) (by omega) (by simp) al_right.1 (by omega) (late1 al_tb.1 (by omega)) (fun n' wh' ks cs' hr => al_put2 hr)
theorem tp3 (h : Al w0 w gt mb gp ov pd alQ 1 [⟨al2, g, fp⟩] alD) (hg : Glob w0) (hp : Pkt w alB (.slice none 0 0) dv) (hd : ∀ k, dv.ownBlock = some k → k ∉ fpT gt mb ov [⟨al2, g, fp⟩]) :
    Calls Tryz.prog 10 #[.pointer (some ⟨gt, 0, none⟩), .agg (csP alB (.slice none 0 0) dv), .int .i64 2] w (PutA w0 w gt mb gp ov pd [⟨al2, g, fp⟩] 2 5 [] (fun cs' => ∃ fp, cs' = [⟨al3, g, fp⟩])) :=
  h.put hg hp rfl hd (born1 al_tb.2.1 (by omega)) (by omega) (by simp) al_right.2.1 (by omega) (late1 al_tb.2.1 (by omega)) (fun n' wh' ks cs' hr => al_put3 hr)
theorem tp4 (h : Al w0 w gt mb gp ov pd alQ 2 [⟨al3, g, fp⟩] alD) (hg : Glob w0) (hp : Pkt w alC (.slice none 0 0) dv) (hd : ∀ k, dv.ownBlock = some k → k ∉ fpT gt mb ov [⟨al3, g, fp⟩]) :
    Calls Tryz.prog 10 #[.pointer (some ⟨gt, 0, none⟩), .agg (csP alC (.slice none 0 0) dv), .int .i64 3] w (PutA w0 w gt mb gp ov pd [⟨al3, g, fp⟩] 3 6 [alD] (fun cs' => cs' = [])) :=
  h.put hg hp rfl hd (born1 al_tb.2.2.1 (by omega)) (by omega) (by simp) al_right.2.2 (by omega) (late1 al_tb.2.2.1 (by omega)) (fun n' wh' ks cs' hr => al_put4 hr)
theorem tp5 (h : Al w0 w gt mb gp ov pd alQ 3 [] alD) (hg : Glob w0) (hp : Pkt w alC (.slice none 0 0) dv) (hd : ∀ k, dv.ownBlock = some k → k ∉ fpT gt mb ov []) :
    Calls Tryz.prog 10 #[.pointer (some ⟨gt, 0, none⟩), .agg (csP alC (.slice none 0 0) dv), .int .i64 4] w (PutA w0 w gt mb gp ov pd [] 4 5 [] (fun cs' => ∃ g fp, cs' = [⟨al5, g, fp⟩])) :=
  h.put hg hp rfl hd (by simp) (by omega) (by simp) al_right.2.2 (by omega) (by simp) (fun n' wh' ks cs' hr => al_put5 hr)
theorem tpx (h : Al w0 w gt mb gp ov pd alQ 3 [] alD) (hg : Glob w0) (hp : Pkt w alC (.slice none 0 0) dv) (hd : ∀ k, dv.ownBlock = some k → k ∉ fpT gt mb ov []) :
    Calls Tryz.prog 10 #[.pointer (some ⟨gt, 0, none⟩), .agg (csP alC (.slice none 0 0) dv), .int .i64 2] w (fun E w' => E = .returned (.tuple #[.agg (csTo 0 nilV nilV nilV), .int .i64 1]) ∧ Away [] w w') := by
  refine (tput_c (h.ta.putIn hg hp rfl hd (by simp) (by omega) ⟨by decide, by decide⟩ (by simp)) 2).mono ?_
  rintro E w' (⟨-, h1, h2⟩ | ⟨⟨-, h1, -⟩, -⟩)
  · exact ⟨h1, h2⟩
  · omega
theorem tk (h : Al w0 w gt mb gp ov pd alQ 4 [⟨al5, g, fp⟩] alD) :
    Calls Tryz.prog 15 #[.pointer (some ⟨gt, 0, none⟩), .int .i64 14] w (fun E w' => ∃ lv xs ov', E = .returned (.tuple #[.agg (csTo 0 nilV lv nilV), .int .i64 0]) ∧ lv.oneCell' = true ∧ Cuts w' w.heap.size lv xs ∧ xs.map X.p = [alC] ∧ Al w0 w' gt mb gp ov' pd alQ 14 [] alD ∧ Away (fpT gt mb ov [⟨al5, g, fp⟩]) w w') := by
  have hb : ∀ c ∈ [(⟨al5, g, fp⟩ : Cel)], 0 ≤ c.s.tb ∧ c.s.tb ≤ 4 := fun c hc => by
    simp at hc
    subst hc
    simp only [al_tb.2.2.2]
    omega
  have hl : lateB alQ 14 ⟨al5, g, fp⟩ = true := by simp only [lateB, alQ, al_tb.2.2.2, decide_eq_true_eq]; omega
  refine (tick_c h.ta.tab hb (by omega) 14).mono ?_
  rintro E w' (⟨h1, -⟩ | ⟨-, v, xs, ov', rfl, hcu, hm, htab, hob, haw⟩)
  · omega
  · rw [List.takeWhile_cons, hl] at hm
    rw [List.dropWhile_cons, hl] at htab
    have e1 : toldL [(⟨al5, g, fp⟩ : Cel)] = [alC] := by
      unfold toldL
      simp only [List.filterMap_cons, al_first, if_pos, List.filterMap_nil]
    obtain ⟨a1, n1, c1, e3⟩ := lstp_shp hcu.lst
    have haw' : Away (fpT gt mb ov [⟨al5, g, fp⟩]) w w' := haw.mono (fun z hz => by
      simp only [List.mem_cons, Option.mem_toList] at hz
      rcases hz with rfl | rfl | hz
      · exact mem_fpT.2 (.inl rfl)
      · exact mem_fpT.2 (.inr (.inl rfl))
      · exact mem_fpT.2 (.inr (.inr (.inl hz))))
    have hz : ∀ z ∈ fpT gt mb ov' [], z ∈ fpT gt mb ov [⟨al5, g, fp⟩] ∨ w.heap.size ≤ z := fun z hz => by
      rcases mem_fpT.1 hz with rfl | rfl | h1 | ⟨c, hc, -⟩
      · exact .inl (mem_fpT.2 (.inl rfl))
      · exact .inl (mem_fpT.2 (.inr (.inl rfl)))
      · rw [hob] at h1; exact .inl (mem_fpT.2 (.inr (.inr (.inl h1))))
      · simp at hc
    exact ⟨v, xs, ov', rfl, by rw [e3]; rfl, hcu, hm.trans e1, h.step rfl (h.ta.step htab hz haw') hz haw', haw'⟩
theorem al_facts : sumC [(⟨al1, g, fp⟩ : Cel)] = 16 ∧ holesOf [(⟨al1, g, fp⟩ : Cel)] alD = 2 ∧ holesOf [] alD = -1 ∧ poisOf [] alD = false := by
  refine ⟨?_, ?_, rfl, rfl⟩
  · simp [sumC, al_h.1]
  · unfold holesOf
    rw [List.find?_cons_of_pos (by rw [al_k.1]; exact al_ky.1)]
    exact al_holes.1
end
theorem ld31 {w : World} {ad : Addr} {a : Option Addr} {n c : Nat} (h : w.cell? ad = some (.slice a n c)) : (Instr.loadAt 42 (.pointer (some ad))).run Tryz.prog w = .ok (.slice a n c) w := by
  have hu := Tryz.underlying42
  simp [go_sem, Instr.loadAt, Instr.sureAddr, h]
theorem step_buildKw {ops : Array Oper} {o : Oper} {a : Act} {w : World} {KK : Act → World → Prop} {Q : Exit → Act → World → Prop} {E : Prop} (hw : Region.wanted o (yielded ops a.tmps) = true) (x : Operand) (ho : o.op = .buildSlice 31 1 #[(0, x)]) (p : Pk) (hx : a.eval x = .agg (csK p)) (ha : Ad p)
    (h : ∀ g w1, w.heap.size ≤ g → BoxK w1 g (csK p) → Away [] w w1 → KK (a.put o.dst (.slice (some ⟨g, 0, none⟩) 1 1)) w1) : if Region.wanted o (yielded ops a.tmps) = true then Oper.wp Tryz.prog o a w KK Q else E := by
  rw [if_pos hw]
  unfold Oper.wp execOp
  simp only [ho, List.map_toArray, List.map_cons, List.map_nil, hx, K.run_buildK w p ha, Sem.run_bind, Result.andThen_ok, Sem.run_pure]
  exact h w.heap.size _ (Nat.le_refl _) (block_new _ _) ((Away.refl [] w).alloc _)
theorem one_x {w : World} {B : Nat} {v : Value} {xs : List X} {p : Pk} (h : Cuts w B v xs) (hm : xs.map X.p = [p]) : ∃ b c o d, v = .slice (some ⟨b, 0, none⟩) 1 c ∧ w.rangeAt b 0 (listP p o d) ∧ Pkt w p o d := by
  have hl : xs.length = 1 := by have := congrArg List.length hm; simpa using this
  obtain ⟨x, rfl⟩ : ∃ x, xs = [x] := by
    cases xs with
    | nil => simp at hl
    | cons a r => simp at hl; subst hl; exact ⟨a, rfl⟩
  simp at hm
  obtain ⟨a, c, e, -, -, hp, hb⟩ := h.pks (by simp)
  obtain ⟨b, off, rfl, hr, hok⟩ := hp.at (i := 0) (x := x) rfl
  have h0 := (hb _ rfl).2.1
  simp only at h0
  subst h0
  subst hm
  exact ⟨b, c, x.o, x.d, e, by simpa [X.cells] using hr, hok⟩
theorem nil_x {w : World} {B : Nat} {v : Value} {xs : List X} (h : Cuts w B v xs) (hm : xs.map X.p = []) : ∃ a c, v = .slice a 0 c := by
  have hl : xs = [] := by simpa using hm
  subst hl
  obtain ⟨a, c, e, -⟩ := h.pks (by simp)
  exact ⟨a, c, e⟩
set_option maxHeartbeats 16000000 in
theorem alive_c (w : World) (hg : Glob w) : Calls Tryz.prog 7 #[] w fun E w' => E = .returned (.bool true) ∧ Away [] w w' := by
  have HG := Lib.hid hg
  have HAD := Lib.hid al_wf.1.ad
  have HD1 : Hid (∀ (W : World) (dv : Value), Owns W dv (upB 40) → dv.oneCell' = true) := fun W dv h => h.one
  clear hg
  have K6 : Hid (Calls Tryz.prog 9 #[.agg #[.int .i64 2, .int .i64 100, .int .i64 8, .int .i64 10]] w (NewOut w alQ)) := tnew_c w alQ
  go_enter Tryz.func7, Tryz.ntmps7
  go_wp2_with fail
  refine K6.out.mono ?_
  rintro E wa (⟨h1, -⟩ | ⟨-, gt, mb, rfl, htab, hgt, hmb, haw⟩)
  · exact absurd h1 (by decide)
  have HTAB := Lib.hid htab
  have HNT : Hid (w.heap.size ≤ gt ∧ w.heap.size ≤ mb) := ⟨hgt, hmb⟩
  have HA := Lib.hid haw
  clear htab hgt hmb haw K6
  have K9 : Hid (Calls Tryz.prog 26 #[.int .u32 7, .int .i64 40] wa (DgrOut wa 7 40)) := data_c 7 40 (by omega) wa
  go_wp2_with fail
  refine K9.out.mono ?_
  rintro E wb ⟨pd, rfl, how, hnw, haw⟩
  have HPK : Hid (Pkt wb alD (.slice none 0 0) pd) := ⟨al_wf.1, nil_sl wb, how.sl al_wf.1.d al_wf.1.dn⟩
  have HPL : Hid (∀ k, pd.ownBlock = some k → k < wb.heap.size ∧ wa.heap.size ≤ k) := fun k hk => ⟨how.lt k hk, hnw k hk⟩
  have HPD := Lib.hid (HD1.out wb pd how)
  have HFT : Hid (∀ z ∈ fpT gt mb (.slice none 0 0) [], z < wa.heap.size ∧ w.heap.size ≤ z) := fun z hz => ⟨HTAB.out.lt z hz, by
    rcases mem_fpT.1 hz with rfl | rfl | h1 | ⟨c, hc, -⟩
    · exact HNT.out.1
    · exact HNT.out.2
    · simp [Value.ownBlock] at h1
    · simp at hc⟩
  have HSZ : Hid (wa.heap.size ≤ wb.heap.size) := haw.size
  replace HTAB := Lib.hid (HTAB.out.on haw)
  replace HA := Lib.hid (HA.out.trans haw)
  clear how hnw haw K9
  rw [show dataP 7 40 = alD from rfl]
  go_wp2_with (refine wpList_new28 rfl rfl rfl _ _ rfl alD (.slice none 0 0) pd (fun g => rfl) (fun g => rfl) HAD.out rfl HPD.out ?_; refine Hid.out ?_)
  refine Lib.hid ?_
  intro gp wc hgp hb haw
  have HAL : Hid (Al w wc gt mb gp (.slice none 0 0) pd alQ 0 [] alD) := by
    have h0 := HSZ.out
    refine ⟨⟨HTAB.out.on haw, fun z hz => (HFT.out z hz).2, HA.out.trans haw⟩, hb, HPK.out.on haw, fun hm => ?_, fun k hk hm => ?_, fun k hk => ?_⟩
    · have := (HFT.out _ hm).1; omega
    · have h1 := (HFT.out _ hm).1; have h2 := (HPL.out k hk).2; omega
    · have h1 := (HPL.out k hk).1; have h2 := haw.size; omega
  clear hgp hb haw HTAB HA HPK HPL HFT HSZ HNT
  have KP := Lib.hid (al_pieces HAL.out).1
  go_wp2_with (refine wpList_load28 rfl _ rfl gp rfl alD _ _ (by exact HAL.out.box) HAD.out ?_)
  refine KP.out.mono ?_
  rintro E x1 ⟨dv1, rfl, hpk, hnd, hal, haw⟩
  have KQ := Lib.hid (tp1 hal HG.out hpk hnd)
  replace HAL := Lib.hid hal
  clear hpk hnd hal haw KP
  go_wp2_with fail
  refine KQ.out.mono ?_
  rintro E y1 ⟨wv1, lv1, gv1, xs1, cs1, ov1, rfl, o1, o2, o3, hcu, hxm, ⟨g, fp, rfl⟩, hal, hnb, haw⟩
  replace HAL := Lib.hid hal
  have HCU := Lib.hid hcu
  have HXM := Lib.hid hxm
  have HO1 := Lib.hid o1
  have HO2 := Lib.hid o2
  have HO3 := Lib.hid o3
  clear hal hnb haw KQ hcu hxm o1 o2 o3
  go_wp2_with (refine wpList_alloc33 rfl rfl ?_; refine Hid.out ?_)
  refine Lib.hid ?_
  intro g4 z1 hg hb haw1
  have HBN := Lib.hid hb
  have HGN := Lib.hid hg
  have HW1 := Lib.hid haw1
  clear hg hb haw1
  go_wp2_with (refine wpList_store33 rfl _ _ rfl g4 rfl 5 wv1 lv1 gv1 rfl 0 nilV nilV nilV (by exact HBN.out) HO1.out HO2.out HO3.out ?_; refine Hid.out ?_)
  refine Lib.hid ?_
  intro v1 hb haw2
  have HW3 : Hid (Away [] y1 v1) := HW1.out.next haw2 (fun z hz => .inr (by simp at hz; rw [hz]; exact HGN.out))
  have HB4 : Hid (BoxT v1 g4 5 wv1 lv1 gv1 ∧ g4 ∉ fpT gt mb ov1 [⟨al1, g, fp⟩]) := ⟨hb, fun hm => by have h1 := HAL.out.ta.tab.lt _ hm; have h2 := HGN.out; omega⟩
  replace HAL := Lib.hid (HAL.out.on HW3.out)
  replace HCU := Lib.hid (HCU.out.on HW3.out)
  clear hb haw2 HW1 HW3 HBN HGN HO1 HO2 HO3
  obtain ⟨wa1, wc1, hwv⟩ := nil_x HCU.out HXM.out
  subst hwv
  clear HCU HXM
  have K10 : Hid (∀ W, Away [] v1 W → Calls Tryz.prog 14 #[.pointer (some ⟨gt, 0, none⟩)] W (KeysOut W [alA])) := fun W hW => by
    have h1 := keys_c (HAL.out.ta.tab.on hW)
    simp only [List.map_cons, List.map_nil, al_k.1] at h1
    exact h1
  have K14 : Hid (∀ W, Calls Tryz.prog 18 #[.agg (csP alD (.slice none 0 0) pd)] W fun E w' => E = .returned (.agg (csK alD)) ∧ Away [] W w') := fun W => lkey_c alD _ _ W HAD.out
  have K11 : Hid (∀ W, Away [] v1 W → Calls Tryz.prog 16 #[.pointer (some ⟨gt, 0, none⟩)] W fun E w' => E = .returned (.int .i64 16) ∧ Away [] W w') := fun W hW => by
    have h1 := tbytes_c (HAL.out.ta.tab.on hW)
    rw [al_facts.1] at h1
    exact h1
  have K15 : Hid (∀ W, Away [] v1 W → Calls Tryz.prog 19 #[.pointer (some ⟨gt, 0, none⟩), .agg (csK alD)] W fun E w' => E = .returned (.int .i64 2) ∧ Away [] W w') := fun W hW => by
    have h1 := tholes_c (HAL.out.ta.tab.on hW) alD al_wf.1
    rw [al_facts.2.1] at h1
    exact h1
  have K13 : Hid (∀ (W : World) (v u : Value), K.LstK W v [alA] → K.LstK W u [alD] → Calls Tryz.prog 13 #[v, u] W fun E w' => E = .returned (.bool true) ∧ Away [] W w') := fun W v u h1 h2 =>
    sameKeys_yes h1 h2 (by simpa using al_wf.2.1.ad) (by simpa using al_wf.1.ad) rfl (by simp) (fun i x y hx hy => by
      cases i with
      | zero => simp at hx hy; subst hx; subst hy; rw [ky_symm]; exact al_ky.1
      | succ i => simp at hx)
  go_upto_region 6 with fail
  go_cut [70] (fun v wc => v = .bool false ∧ Away [] v1 wc)
  case first =>
    as_aux_lemma =>
    refine wp_region_held_drew (S := fun w' => Away [] v1 w') (by kernel_rfl) ((Away.refl [] v1).drew) (fun hHeld => ?_)
    refine tkA 0 (v := ?_) (by simp only [gA, g1, g0]; rfl) (by kernel_rfl) (by exact fun _ _ _ h => h) (Or.inl ⟨by rfl, ?_⟩) (by assumption) ?_; rotate_left; focus (intro wq hSw; (try dsimp only at hSw); go_simp; all_goals (with_reducible rfl))
    try simp only [Act.put, sA, s0, s1]
    refine tkA 1 (v := ?_) (by simp only [gA, g1, g0]; rfl) (by kernel_rfl) (by exact fun _ _ _ h => h) (Or.inl ⟨by rfl, ?_⟩) (by assumption) ?_; rotate_left; focus (intro wq hSw; (try dsimp only at hSw); go_simp; all_goals (with_reducible rfl))
    try simp only [Act.put, sA, s0, s1]
    refine tkA 2 (v := ?_) (by simp only [gA, g1, g0]; rfl) (by kernel_rfl) (by exact fun _ _ _ h => h) (Or.inl ⟨by rfl, ?_⟩) (by assumption) ?_; rotate_left; focus (intro wq hSw; (try dsimp only at hSw); go_simp; all_goals (with_reducible rfl))
    try simp only [Act.put, sA, s0, s1]
    refine tkA 3 (v := ?_) (by simp only [gA, g1, g0]; rfl) (by kernel_rfl) (by exact fun _ _ _ h => h) (Or.inl ⟨by rfl, ?_⟩) (by assumption) ?_; rotate_left; focus (intro wq hSw; (try dsimp only at hSw); go_simp; all_goals (with_reducible rfl))
    try simp only [Act.put, sA, s0, s1]
    refine tkA 4 (by simp only [gA, g1, g0]; rfl) (by kernel_rfl) (by exact fun _ _ _ h => h) (yields_ld (ad := ⟨g4, 0, none⟩) (by rfl) _ rfl rfl (fun w' h => ld3 (cell_of_block (Away.keep h (by simp) HB4.out.1) 0))) (by assumption) ?_; try simp only [Act.put, sA, s0, s1]
    refine tkA 5 (v := ?_) (by simp only [gA, g1, g0]; rfl) (by kernel_rfl) (by exact fun _ _ _ h => h) (Or.inl ⟨by rfl, ?_⟩) (by assumption) ?_; rotate_left; focus (intro wq hSw; (try dsimp only at hSw); go_simp; all_goals (with_reducible rfl))
    try simp only [Act.put, sA, s0, s1]
    refine tkA 6 (v := ?_) (by simp only [gA, g1, g0]; rfl) (by kernel_rfl) (by exact fun _ _ _ h => h) (Or.inl ⟨by rfl, ?_⟩) (by assumption) ?_; rotate_left; focus (intro wq hSw; (try dsimp only at hSw); go_simp; all_goals (with_reducible rfl))
    try simp only [Act.put, sA, s0, s1]
    refine tkA 7 (v := ?_) (by simp only [gA, g1, g0]; rfl) (by kernel_rfl) (by exact fun _ _ _ h => h) (Or.inl ⟨by rfl, ?_⟩) (by assumption) ?_; rotate_left; focus (intro wq hSw; (try dsimp only at hSw); go_simp; all_goals (with_reducible rfl))
    try simp only [Act.put, sA, s0, s1]
    refine tkA 8 (v := ?_) (by simp only [gA, g1, g0]; rfl) (by kernel_rfl) (by exact fun _ _ _ h => h) (Or.inl ⟨by rfl, ?_⟩) (by assumption) ?_; rotate_left; focus (intro wq hSw; (try dsimp only at hSw); go_simp; all_goals (with_reducible rfl))
    try simp only [Act.put, sA, s0, s1]
    refine tkA 9 (by simp only [gA, g1, g0]; rfl) (by kernel_rfl) (by exact fun _ _ _ h => h) (yields_ld (ad := ⟨g4, 1, none⟩) (by rfl) _ rfl rfl (fun w' h => ld31 (cell_of_block (Away.keep h (by simp) HB4.out.1) 1))) (by assumption) ?_; try simp only [Act.put, sA, s0, s1]
    refine tkA 10 (v := ?_) (by simp only [gA, g1, g0]; rfl) (by kernel_rfl) (by exact fun _ _ _ h => h) (Or.inl ⟨by rfl, ?_⟩) (by assumption) ?_; rotate_left; focus (intro wq hSw; (try dsimp only at hSw); go_simp; all_goals (with_reducible rfl))
    try simp only [Act.put, sA, s0, s1]
    refine tkA 11 (v := ?_) (by simp only [gA, g1, g0]; rfl) (by kernel_rfl) (by exact fun _ _ _ h => h) (Or.inl ⟨by rfl, ?_⟩) (by assumption) ?_; rotate_left; focus (intro wq hSw; (try dsimp only at hSw); go_simp; all_goals (with_reducible rfl))
    try simp only [Act.put, sA, s0, s1]
    refine tkA 12 (v := ?_) (by simp only [gA, g1, g0]; rfl) (by kernel_rfl) (by exact fun _ _ _ h => h) (Or.inl ⟨by rfl, ?_⟩) (by assumption) ?_; rotate_left; focus (intro wq hSw; (try dsimp only at hSw); go_simp; all_goals (with_reducible rfl))
    try simp only [Act.put, sA, s0, s1]
    refine tkA 13 (v := ?_) (by simp only [gA, g1, g0]; rfl) (by kernel_rfl) (by exact fun _ _ _ h => h) (Or.inl ⟨by rfl, ?_⟩) (by assumption) ?_; rotate_left; focus (intro wq hSw; (try dsimp only at hSw); go_simp; all_goals (with_reducible rfl))
    try simp only [Act.put, sA, s0, s1]
    refine tkA 14 (v := ?_) (by simp only [gA, g1, g0]; rfl) (by kernel_rfl) (by exact fun _ _ _ h => h) (Or.inl ⟨by rfl, ?_⟩) (by assumption) ?_; rotate_left; focus (intro wq hSw; (try dsimp only at hSw); go_simp; all_goals (with_reducible rfl))
    try simp only [Act.put, sA, s0, s1]
    refine tkA 16 (by simp only [gA, g1, g0]; rfl) (by kernel_rfl) (by exact fun _ _ _ h => h) (yields_ld (ad := ⟨gp, 0, none⟩) (by rfl) _ rfl rfl (fun w' h => load28_run (Al.on HAL.out h).box HAD.out)) (by assumption) ?_; try simp only [Act.put, sA, s0, s1]
    refine wpAnyH_ready (rs := [15]) (by kernel_rfl) (by simp) ?_
    refine AllReadyH.cons (by simp only [gA, g1, g0]; rfl) (fun K hK => ?_) AllReadyH.nil
    go_simp
    refine (K10.out _ hHeld).mono ?_
    rintro E y1 ⟨kv, rfl, hlk, -, haw⟩
    obtain ⟨ka, kn, kc, rfl⟩ := lstk_shp hlk
    have HLK := Lib.hid hlk
    clear hlk
    have hS := Away.trans hHeld haw
    clear haw
    go_wp2_with fail
    refine hK.out _ _ hS (fun hHeld => ?_)
    clear hK K
    try simp only [Act.put, sA, s0, s1]
    refine wpAnyH_ready (rs := [17]) (by kernel_rfl) (by simp) ?_
    refine AllReadyH.cons (by simp only [gA, g1, g0]; rfl) (fun K hK => ?_) AllReadyH.nil
    go_simp
    refine (K14.out _).mono ?_
    rintro E y2 ⟨rfl, haw⟩
    replace HLK := Lib.hid (HLK.out.on haw)
    have hS := Away.trans hHeld haw
    clear haw
    go_wp2_with fail
    refine hK.out _ _ hS (fun hHeld => ?_)
    clear hK K
    try simp only [Act.put, sA, s0, s1]
    refine wpAnyH_ready (rs := [18]) (by kernel_rfl) (by simp) ?_
    refine AllReadyH.cons (by simp only [gA, g1, g0]; rfl) (fun K hK => ?_) AllReadyH.nil
    refine step_buildKw (by rfl) _ rfl alD rfl HAD.out ?_
    intro gb yb hgb hbk haw
    have hS := Away.trans hHeld haw
    replace HLK := Lib.hid (HLK.out.on haw)
    have HL1 := Lib.hid (lk_one hbk HAD.out)
    clear haw hgb hbk
    refine hK.out _ _ hS (fun hHeld => ?_)
    clear hK K
    try simp only [Act.put, sA, s0, s1]
    refine wpAnyH_ready (rs := [19]) (by kernel_rfl) (by simp) ?_
    refine AllReadyH.cons (by simp only [gA, g1, g0]; rfl) (fun K hK => ?_) AllReadyH.nil
    go_simp
    refine (K13.out _ _ _ HLK.out HL1.out).mono ?_
    rintro E y3 ⟨rfl, haw⟩
    clear HLK HL1
    have hS := Away.trans hHeld haw
    clear haw
    go_wp2_with fail
    refine hK.out _ _ hS (fun hHeld => ?_)
    clear hK K
    try simp only [Act.put, sA, s0, s1]
    refine tkA 20 (v := ?_) (by simp only [gA, g1, g0]; rfl) (by kernel_rfl) (by exact fun _ _ _ h => h) (Or.inl ⟨by rfl, ?_⟩) (by assumption) ?_; rotate_left; focus (intro wq hSw; (try dsimp only at hSw); go_simp; all_goals (with_reducible rfl))
    try simp only [Act.put, sA, s0, s1]
    refine tkA 21 (v := ?_) (by simp only [gA, g1, g0]; rfl) (by kernel_rfl) (by exact fun _ _ _ h => h) (Or.inl ⟨by rfl, ?_⟩) (by assumption) ?_; rotate_left; focus (intro wq hSw; (try dsimp only at hSw); go_simp; all_goals (with_reducible rfl))
    try simp only [Act.put, sA, s0, s1]
    refine tkA 22 (v := ?_) (by simp only [gA, g1, g0]; rfl) (by kernel_rfl) (by exact fun _ _ _ h => h) (Or.inl ⟨by rfl, ?_⟩) (by assumption) ?_; rotate_left; focus (intro wq hSw; (try dsimp only at hSw); go_simp; all_goals (with_reducible rfl))
    try simp only [Act.put, sA, s0, s1]
    refine tkA 23 (v := ?_) (by simp only [gA, g1, g0]; rfl) (by kernel_rfl) (by exact fun _ _ _ h => h) (Or.inl ⟨by rfl, ?_⟩) (by assumption) ?_; rotate_left; focus (intro wq hSw; (try dsimp only at hSw); go_simp; all_goals (with_reducible rfl))
    try simp only [Act.put, sA, s0, s1]
    refine wpAnyH_ready (rs := [24]) (by kernel_rfl) (by simp) ?_
    refine AllReadyH.cons (by simp only [gA, g1, g0]; rfl) (fun K hK => ?_) AllReadyH.nil
    go_simp
    refine (K11.out _ hHeld).mono ?_
    rintro E y4 ⟨rfl, haw⟩
    have hS := Away.trans hHeld haw
    clear haw
    go_wp2_with fail
    refine hK.out _ _ hS (fun hHeld => ?_)
    clear hK K
    try simp only [Act.put, sA, s0, s1]
    refine tkA 25 (v := ?_) (by simp only [gA, g1, g0]; rfl) (by kernel_rfl) (by exact fun _ _ _ h => h) (Or.inl ⟨by rfl, ?_⟩) (by assumption) ?_; rotate_left; focus (intro wq hSw; (try dsimp only at hSw); go_simp; all_goals (with_reducible rfl))
    try simp only [Act.put, sA, s0, s1]
    refine tkA 26 (v := ?_) (by simp only [gA, g1, g0]; rfl) (by kernel_rfl) (by exact fun _ _ _ h => h) (Or.inl ⟨by rfl, ?_⟩) (by assumption) ?_; rotate_left; focus (intro wq hSw; (try dsimp only at hSw); go_simp; all_goals (with_reducible rfl))
    try simp only [Act.put, sA, s0, s1]
    refine tkA 27 (v := ?_) (by simp only [gA, g1, g0]; rfl) (by kernel_rfl) (by exact fun _ _ _ h => h) (Or.inl ⟨by rfl, ?_⟩) (by assumption) ?_; rotate_left; focus (intro wq hSw; (try dsimp only at hSw); go_simp; all_goals (with_reducible rfl))
    try simp only [Act.put, sA, s0, s1]
    refine tkA 28 (v := ?_) (by simp only [gA, g1, g0]; rfl) (by kernel_rfl) (by exact fun _ _ _ h => h) (Or.inl ⟨by rfl, ?_⟩) (by assumption) ?_; rotate_left; focus (intro wq hSw; (try dsimp only at hSw); go_simp; all_goals (with_reducible rfl))
    try simp only [Act.put, sA, s0, s1]
    refine tkA 29 (by simp only [gA, g1, g0]; rfl) (by kernel_rfl) (by exact fun _ _ _ h => h) (yields_ld (ad := ⟨gp, 0, none⟩) (by rfl) _ rfl rfl (fun w' h => load28_run (Al.on HAL.out h).box HAD.out)) (by assumption) ?_; try simp only [Act.put, sA, s0, s1]
    refine wpAnyH_ready (rs := [30]) (by kernel_rfl) (by simp) ?_
    refine AllReadyH.cons (by simp only [gA, g1, g0]; rfl) (fun K hK => ?_) AllReadyH.nil
    go_simp
    refine (K14.out _).mono ?_
    rintro E y5 ⟨rfl, haw⟩
    have hS := Away.trans hHeld haw
    clear haw
    go_wp2_with fail
    refine hK.out _ _ hS (fun hHeld => ?_)
    clear hK K
    try simp only [Act.put, sA, s0, s1]
    refine wpAnyH_ready (rs := [31]) (by kernel_rfl) (by simp) ?_
    refine AllReadyH.cons (by simp only [gA, g1, g0]; rfl) (fun K hK => ?_) AllReadyH.nil
    go_simp
    refine (K15.out _ hHeld).mono ?_
    rintro E y6 ⟨rfl, haw⟩
    have hS := Away.trans hHeld haw
    clear haw
    go_wp2_with fail
    refine hK.out _ _ hS (fun hHeld => ?_)
    clear hK K
    try simp only [Act.put, sA, s0, s1]
    refine tkA 32 (v := ?_) (by simp only [gA, g1, g0]; rfl) (by kernel_rfl) (by exact fun _ _ _ h => h) (Or.inl ⟨by rfl, ?_⟩) (by assumption) ?_; rotate_left; focus (intro wq hSw; (try dsimp only at hSw); go_simp; all_goals (with_reducible rfl))
    try simp only [Act.put, sA, s0, s1]
    refine tkA 33 (v := ?_) (by simp only [gA, g1, g0]; rfl) (by kernel_rfl) (by exact fun _ _ _ h => h) (Or.inl ⟨by rfl, ?_⟩) (by assumption) ?_; rotate_left; focus (intro wq hSw; (try dsimp only at hSw); go_simp; all_goals (with_reducible rfl))
    try simp only [Act.put, sA, s0, s1]
    refine wpAnyH_done (by kernel_rfl) ?_ _
    go_wp2_with fail
    go_meet
    exact ⟨rfl, hHeld⟩
  case rest =>
  obtain ⟨rfl, haw⟩ := hcut
  replace HAL := Lib.hid (HAL.out.on haw)
  clear haw HB4 K10 K14 K11 K15 K13
  have KP := Lib.hid (al_pieces HAL.out).1
  go_wp2_with (refine wpList_load28 rfl _ rfl gp rfl alD _ _ (by exact HAL.out.box) HAD.out ?_)
  refine KP.out.mono ?_
  rintro E x2 ⟨dv2, rfl, hpk, hnd, hal, haw⟩
  have KQ := Lib.hid (tp2 hal HG.out hpk hnd)
  replace HAL := Lib.hid hal
  clear hpk hnd hal haw KP
  go_wp2_with fail
  refine KQ.out.mono ?_
  rintro E y2 ⟨wv2, lv2, gv2, xs2, cs2, ov2, rfl, o1, o2, o3, hcu, hxm, ⟨fp2, rfl⟩, hal, hnb, haw⟩
  replace HAL := Lib.hid hal
  have HCU := Lib.hid hcu
  have HXM := Lib.hid hxm
  have HO1 := Lib.hid o1
  have HO2 := Lib.hid o2
  have HO3 := Lib.hid o3
  clear hal hnb haw KQ hcu hxm o1 o2 o3
  go_wp2_with (refine wpList_alloc33 rfl rfl ?_; refine Hid.out ?_)
  refine Lib.hid ?_
  intro g6 z2 hg hb haw1
  have HBN := Lib.hid hb
  have HGN := Lib.hid hg
  have HW1 := Lib.hid haw1
  clear hg hb haw1
  go_wp2_with (refine wpList_store33 rfl _ _ rfl g6 rfl 3 wv2 lv2 gv2 rfl 0 nilV nilV nilV (by exact HBN.out) HO1.out HO2.out HO3.out ?_; refine Hid.out ?_)
  refine Lib.hid ?_
  intro v2 hb haw2
  have HW3 : Hid (Away [] y2 v2) := HW1.out.next haw2 (fun z hz => .inr (by simp at hz; rw [hz]; exact HGN.out))
  have HB6 : Hid (BoxT v2 g6 3 wv2 lv2 gv2 ∧ g6 ∉ fpT gt mb ov2 [⟨al2, g, fp2⟩]) := ⟨hb, fun hm => by have h1 := HAL.out.ta.tab.lt _ hm; have h2 := HGN.out; omega⟩
  replace HAL := Lib.hid (HAL.out.on HW3.out)
  replace HCU := Lib.hid (HCU.out.on HW3.out)
  clear hb haw2 HW1 HW3 HBN HGN HO1 HO2 HO3
  clear HCU HXM
  have KP := Lib.hid (al_pieces HAL.out).2.1
  go_wp2_with (refine wpList_load28 rfl _ rfl gp rfl alD _ _ (by exact HAL.out.box) HAD.out ?_)
  refine KP.out.mono ?_
  rintro E x3 ⟨dv3, rfl, hpk, hnd, hal, haw⟩
  have KQ := Lib.hid (tp3 hal HG.out hpk hnd)
  replace HAL := Lib.hid hal
  replace HB6 := Lib.hid (And.intro (haw.keep (by simp) HB6.out.1) HB6.out.2)
  clear hpk hnd hal haw KP
  go_wp2_with fail
  refine KQ.out.mono ?_
  rintro E y3 ⟨wv3, lv3, gv3, xs3, cs3, ov3, rfl, o1, o2, o3, hcu, hxm, ⟨fp3, rfl⟩, hal, hnb, haw⟩
  replace HB6 := Lib.hid (And.intro (haw.keep HB6.out.2 HB6.out.1) (hnb _ HB6.out.2 (lt_of_block HB6.out.1)))
  replace HAL := Lib.hid hal
  have HCU := Lib.hid hcu
  have HXM := Lib.hid hxm
  have HO1 := Lib.hid o1
  have HO2 := Lib.hid o2
  have HO3 := Lib.hid o3
  clear hal hnb haw KQ hcu hxm o1 o2 o3
  go_wp2_with (refine wpList_alloc33 rfl rfl ?_; refine Hid.out ?_)
  refine Lib.hid ?_
  intro g8 z3 hg hb haw1
  have HBN := Lib.hid hb
  have HGN := Lib.hid hg
  have HW1 := Lib.hid haw1
  clear hg hb haw1
  go_wp2_with (refine wpList_store33 rfl _ _ rfl g8 rfl 5 wv3 lv3 gv3 rfl 0 nilV nilV nilV (by exact HBN.out) HO1.out HO2.out HO3.out ?_; refine Hid.out ?_)
  refine Lib.hid ?_
  intro v3 hb haw2
  have HW3 : Hid (Away [] y3 v3) := HW1.out.next haw2 (fun z hz => .inr (by simp at hz; rw [hz]; exact HGN.out))
  have HB8 : Hid (BoxT v3 g8 5 wv3 lv3 gv3 ∧ g8 ∉ fpT gt mb ov3 [⟨al3, g, fp3⟩]) := ⟨hb, fun hm => by have h1 := HAL.out.ta.tab.lt _ hm; have h2 := HGN.out; omega⟩
  replace HAL := Lib.hid (HAL.out.on HW3.out)
  replace HCU := Lib.hid (HCU.out.on HW3.out)
  replace HB6 := Lib.hid (And.intro (HW3.out.keep (by simp) HB6.out.1) HB6.out.2)
  clear hb haw2 HW1 HW3 HBN HGN HO1 HO2 HO3
  clear HCU HXM
  have KP := Lib.hid (al_pieces HAL.out).2.2
  go_wp2_with (refine wpList_load28 rfl _ rfl gp rfl alD _ _ (by exact HAL.out.box) HAD.out ?_)
  refine KP.out.mono ?_
  rintro E x4 ⟨dv4, rfl, hpk, hnd, hal, haw⟩
  have KQ := Lib.hid (tp4 hal HG.out hpk hnd)
  replace HAL := Lib.hid hal
  replace HB6 := Lib.hid (And.intro (haw.keep (by simp) HB6.out.1) HB6.out.2)
  replace HB8 := Lib.hid (And.intro (haw.keep (by simp) HB8.out.1) HB8.out.2)
  clear hpk hnd hal haw KP
  go_wp2_with fail
  refine KQ.out.mono ?_
  rintro E y4 ⟨wv4, lv4, gv4, xs4, cs4, ov4, rfl, o1, o2, o3, hcu, hxm, rfl, hal, hnb, haw⟩
  replace HB6 := Lib.hid (And.intro (haw.keep HB6.out.2 HB6.out.1) (hnb _ HB6.out.2 (lt_of_block HB6.out.1)))
  replace HB8 := Lib.hid (And.intro (haw.keep HB8.out.2 HB8.out.1) (hnb _ HB8.out.2 (lt_of_block HB8.out.1)))
  replace HAL := Lib.hid hal
  have HCU := Lib.hid hcu
  have HXM := Lib.hid hxm
  have HO1 := Lib.hid o1
  have HO2 := Lib.hid o2
  have HO3 := Lib.hid o3
  clear hal hnb haw KQ hcu hxm o1 o2 o3
  go_wp2_with (refine wpList_alloc33 rfl rfl ?_; refine Hid.out ?_)
  refine Lib.hid ?_
  intro g10 z4 hg hb haw1
  have HBN := Lib.hid hb
  have HGN := Lib.hid hg
  have HW1 := Lib.hid haw1
  clear hg hb haw1
  go_wp2_with (refine wpList_store33 rfl _ _ rfl g10 rfl 6 wv4 lv4 gv4 rfl 0 nilV nilV nilV (by exact HBN.out) HO1.out HO2.out HO3.out ?_; refine Hid.out ?_)
  refine Lib.hid ?_
  intro v4 hb haw2
  have HW3 : Hid (Away [] y4 v4) := HW1.out.next haw2 (fun z hz => .inr (by simp at hz; rw [hz]; exact HGN.out))
  have HB10 : Hid (BoxT v4 g10 6 wv4 lv4 gv4 ∧ g10 ∉ fpT gt mb ov4 []) := ⟨hb, fun hm => by have h1 := HAL.out.ta.tab.lt _ hm; have h2 := HGN.out; omega⟩
  replace HAL := Lib.hid (HAL.out.on HW3.out)
  replace HCU := Lib.hid (HCU.out.on HW3.out)
  replace HB6 := Lib.hid (And.intro (HW3.out.keep (by simp) HB6.out.1) HB6.out.2)
  replace HB8 := Lib.hid (And.intro (HW3.out.keep (by simp) HB8.out.1) HB8.out.2)
  clear hb haw2 HW1 HW3 HBN HGN HO1 HO2 HO3
  obtain ⟨wb4, wc4, xo, xd, hwv, hrx, hokx⟩ := one_x HCU.out HXM.out
  subst hwv
  have HRX := Lib.hid hrx
  have HOK := Lib.hid hokx
  clear hrx hokx HCU HXM
  have K10 : Hid (∀ W, Away [] v4 W → Calls Tryz.prog 14 #[.pointer (some ⟨gt, 0, none⟩)] W (KeysOut W [])) := fun W hW => keys_c (HAL.out.ta.tab.on hW)
  have K16 : Hid (∀ W, Away [] v4 W → Calls Tryz.prog 24 #[.agg (csP alD xo xd), .agg (csP alD (.slice none 0 0) pd)] W fun E w' => E = .returned (.bool true) ∧ Away [] W w') := fun W hW => samePk_yes alD xo xd _ pd W (HOK.out.on hW) (HAL.out.pkt.on hW)
  go_upto_region 11 with fail
  go_cut [137] (fun v wc => v = .bool false ∧ Away [] v4 wc)
  case first =>
    as_aux_lemma =>
    refine wp_region_held_drew (S := fun w' => Away [] v4 w') (by kernel_rfl) ((Away.refl [] v4).drew) (fun hHeld => ?_)
    refine tkA 0 (v := ?_) (by simp only [gA, g1, g0]; rfl) (by kernel_rfl) (by exact fun _ _ _ h => h) (Or.inl ⟨by rfl, ?_⟩) (by assumption) ?_; rotate_left; focus (intro wq hSw; (try dsimp only at hSw); go_simp; all_goals (with_reducible rfl))
    try simp only [Act.put, sA, s0, s1]
    refine tkA 1 (v := ?_) (by simp only [gA, g1, g0]; rfl) (by kernel_rfl) (by exact fun _ _ _ h => h) (Or.inl ⟨by rfl, ?_⟩) (by assumption) ?_; rotate_left; focus (intro wq hSw; (try dsimp only at hSw); go_simp; all_goals (with_reducible rfl))
    try simp only [Act.put, sA, s0, s1]
    refine tkA 2 (v := ?_) (by simp only [gA, g1, g0]; rfl) (by kernel_rfl) (by exact fun _ _ _ h => h) (Or.inl ⟨by rfl, ?_⟩) (by assumption) ?_; rotate_left; focus (intro wq hSw; (try dsimp only at hSw); go_simp; all_goals (with_reducible rfl))
    try simp only [Act.put, sA, s0, s1]
    refine tkA 3 (v := ?_) (by simp only [gA, g1, g0]; rfl) (by kernel_rfl) (by exact fun _ _ _ h => h) (Or.inl ⟨by rfl, ?_⟩) (by assumption) ?_; rotate_left; focus (intro wq hSw; (try dsimp only at hSw); go_simp; all_goals (with_reducible rfl))
    try simp only [Act.put, sA, s0, s1]
    refine tkA 4 (v := ?_) (by simp only [gA, g1, g0]; rfl) (by kernel_rfl) (by exact fun _ _ _ h => h) (Or.inl ⟨by rfl, ?_⟩) (by assumption) ?_; rotate_left; focus (intro wq hSw; (try dsimp only at hSw); go_simp; all_goals (with_reducible rfl))
    try simp only [Act.put, sA, s0, s1]
    refine tkA 5 (v := ?_) (by simp only [gA, g1, g0]; rfl) (by kernel_rfl) (by exact fun _ _ _ h => h) (Or.inl ⟨by rfl, ?_⟩) (by assumption) ?_; rotate_left; focus (intro wq hSw; (try dsimp only at hSw); go_simp; all_goals (with_reducible rfl))
    try simp only [Act.put, sA, s0, s1]
    refine tkA 6 (v := ?_) (by simp only [gA, g1, g0]; rfl) (by kernel_rfl) (by exact fun _ _ _ h => h) (Or.inl ⟨by rfl, ?_⟩) (by assumption) ?_; rotate_left; focus (intro wq hSw; (try dsimp only at hSw); go_simp; all_goals (with_reducible rfl))
    try simp only [Act.put, sA, s0, s1]
    refine tkA 7 (v := ?_) (by simp only [gA, g1, g0]; rfl) (by kernel_rfl) (by exact fun _ _ _ h => h) (Or.inl ⟨by rfl, ?_⟩) (by assumption) ?_; rotate_left; focus (intro wq hSw; (try dsimp only at hSw); go_simp; all_goals (with_reducible rfl))
    try simp only [Act.put, sA, s0, s1]
    refine tkA 8 (v := ?_) (by simp only [gA, g1, g0]; rfl) (by kernel_rfl) (by exact fun _ _ _ h => h) (Or.inl ⟨by rfl, ?_⟩) (by assumption) ?_; rotate_left; focus (intro wq hSw; (try dsimp only at hSw); go_simp; all_goals (with_reducible rfl))
    try simp only [Act.put, sA, s0, s1]
    refine tkA 9 (v := ?_) (by simp only [gA, g1, g0]; rfl) (by kernel_rfl) (by exact fun _ _ _ h => h) (Or.inl ⟨by rfl, ?_⟩) (by assumption) ?_; rotate_left; focus (intro wq hSw; (try dsimp only at hSw); go_simp; all_goals (with_reducible rfl))
    try simp only [Act.put, sA, s0, s1]
    refine tkA 10 (v := ?_) (by simp only [gA, g1, g0]; rfl) (by kernel_rfl) (by exact fun _ _ _ h => h) (Or.inl ⟨by rfl, ?_⟩) (by assumption) ?_; rotate_left; focus (intro wq hSw; (try dsimp only at hSw); go_simp; all_goals (with_reducible rfl))
    try simp only [Act.put, sA, s0, s1]
    refine tkA 11 (v := ?_) (by simp only [gA, g1, g0]; rfl) (by kernel_rfl) (by exact fun _ _ _ h => h) (Or.inl ⟨by rfl, ?_⟩) (by assumption) ?_; rotate_left; focus (intro wq hSw; (try dsimp only at hSw); go_simp; all_goals (with_reducible rfl))
    try simp only [Act.put, sA, s0, s1]
    refine tkA 12 (by simp only [gA, g1, g0]; rfl) (by kernel_rfl) (by exact fun _ _ _ h => h) (yields_ld (ad := ⟨g6, 0, none⟩) (by rfl) _ rfl rfl (fun w' h => ld3 (cell_of_block (Away.keep h (by simp) HB6.out.1) 0))) (by assumption) ?_; try simp only [Act.put, sA, s0, s1]
    refine tkA 13 (v := ?_) (by simp only [gA, g1, g0]; rfl) (by kernel_rfl) (by exact fun _ _ _ h => h) (Or.inl ⟨by rfl, ?_⟩) (by assumption) ?_; rotate_left; focus (intro wq hSw; (try dsimp only at hSw); go_simp; all_goals (with_reducible rfl))
    try simp only [Act.put, sA, s0, s1]
    refine tkA 14 (v := ?_) (by simp only [gA, g1, g0]; rfl) (by kernel_rfl) (by exact fun _ _ _ h => h) (Or.inl ⟨by rfl, ?_⟩) (by assumption) ?_; rotate_left; focus (intro wq hSw; (try dsimp only at hSw); go_simp; all_goals (with_reducible rfl))
    try simp only [Act.put, sA, s0, s1]
    refine tkA 15 (v := ?_) (by simp only [gA, g1, g0]; rfl) (by kernel_rfl) (by exact fun _ _ _ h => h) (Or.inl ⟨by rfl, ?_⟩) (by assumption) ?_; rotate_left; focus (intro wq hSw; (try dsimp only at hSw); go_simp; all_goals (with_reducible rfl))
    try simp only [Act.put, sA, s0, s1]
    refine tkA 16 (v := ?_) (by simp only [gA, g1, g0]; rfl) (by kernel_rfl) (by exact fun _ _ _ h => h) (Or.inl ⟨by rfl, ?_⟩) (by assumption) ?_; rotate_left; focus (intro wq hSw; (try dsimp only at hSw); go_simp; all_goals (with_reducible rfl))
    try simp only [Act.put, sA, s0, s1]
    refine tkA 17 (by simp only [gA, g1, g0]; rfl) (by kernel_rfl) (by exact fun _ _ _ h => h) (yields_ld (ad := ⟨g8, 0, none⟩) (by rfl) _ rfl rfl (fun w' h => ld3 (cell_of_block (Away.keep h (by simp) HB8.out.1) 0))) (by assumption) ?_; try simp only [Act.put, sA, s0, s1]
    refine tkA 18 (v := ?_) (by simp only [gA, g1, g0]; rfl) (by kernel_rfl) (by exact fun _ _ _ h => h) (Or.inl ⟨by rfl, ?_⟩) (by assumption) ?_; rotate_left; focus (intro wq hSw; (try dsimp only at hSw); go_simp; all_goals (with_reducible rfl))
    try simp only [Act.put, sA, s0, s1]
    refine tkA 19 (v := ?_) (by simp only [gA, g1, g0]; rfl) (by kernel_rfl) (by exact fun _ _ _ h => h) (Or.inl ⟨by rfl, ?_⟩) (by assumption) ?_; rotate_left; focus (intro wq hSw; (try dsimp only at hSw); go_simp; all_goals (with_reducible rfl))
    try simp only [Act.put, sA, s0, s1]
    refine tkA 20 (v := ?_) (by simp only [gA, g1, g0]; rfl) (by kernel_rfl) (by exact fun _ _ _ h => h) (Or.inl ⟨by rfl, ?_⟩) (by assumption) ?_; rotate_left; focus (intro wq hSw; (try dsimp only at hSw); go_simp; all_goals (with_reducible rfl))
    try simp only [Act.put, sA, s0, s1]
    refine tkA 21 (v := ?_) (by simp only [gA, g1, g0]; rfl) (by kernel_rfl) (by exact fun _ _ _ h => h) (Or.inl ⟨by rfl, ?_⟩) (by assumption) ?_; rotate_left; focus (intro wq hSw; (try dsimp only at hSw); go_simp; all_goals (with_reducible rfl))
    try simp only [Act.put, sA, s0, s1]
    refine tkA 22 (by simp only [gA, g1, g0]; rfl) (by kernel_rfl) (by exact fun _ _ _ h => h) (yields_ld (ad := ⟨g10, 0, none⟩) (by rfl) _ rfl rfl (fun w' h => ld3 (cell_of_block (Away.keep h (by simp) HB10.out.1) 0))) (by assumption) ?_; try simp only [Act.put, sA, s0, s1]
    refine tkA 23 (v := ?_) (by simp only [gA, g1, g0]; rfl) (by kernel_rfl) (by exact fun _ _ _ h => h) (Or.inl ⟨by rfl, ?_⟩) (by assumption) ?_; rotate_left; focus (intro wq hSw; (try dsimp only at hSw); go_simp; all_goals (with_reducible rfl))
    try simp only [Act.put, sA, s0, s1]
    refine tkA 24 (v := ?_) (by simp only [gA, g1, g0]; rfl) (by kernel_rfl) (by exact fun _ _ _ h => h) (Or.inl ⟨by rfl, ?_⟩) (by assumption) ?_; rotate_left; focus (intro wq hSw; (try dsimp only at hSw); go_simp; all_goals (with_reducible rfl))
    try simp only [Act.put, sA, s0, s1]
    refine tkA 25 (v := ?_) (by simp only [gA, g1, g0]; rfl) (by kernel_rfl) (by exact fun _ _ _ h => h) (Or.inl ⟨by rfl, ?_⟩) (by assumption) ?_; rotate_left; focus (intro wq hSw; (try dsimp only at hSw); go_simp; all_goals (with_reducible rfl))
    try simp only [Act.put, sA, s0, s1]
    refine tkA 26 (v := ?_) (by simp only [gA, g1, g0]; rfl) (by kernel_rfl) (by exact fun _ _ _ h => h) (Or.inl ⟨by rfl, ?_⟩) (by assumption) ?_; rotate_left; focus (intro wq hSw; (try dsimp only at hSw); go_simp; all_goals (with_reducible rfl))
    try simp only [Act.put, sA, s0, s1]
    refine tkA 27 (by simp only [gA, g1, g0]; rfl) (by kernel_rfl) (by exact fun _ _ _ h => h) (yields_ld (ad := ⟨g10, 1, none⟩) (by rfl) _ rfl rfl (fun w' h => ld31 (cell_of_block (Away.keep h (by simp) HB10.out.1) 1))) (by assumption) ?_; try simp only [Act.put, sA, s0, s1]
    refine tkA 28 (v := ?_) (by simp only [gA, g1, g0]; rfl) (by kernel_rfl) (by exact fun _ _ _ h => h) (Or.inl ⟨by rfl, ?_⟩) (by assumption) ?_; rotate_left; focus (intro wq hSw; (try dsimp only at hSw); go_simp; all_goals (with_reducible rfl))
    try simp only [Act.put, sA, s0, s1]
    refine tkA 29 (v := ?_) (by simp only [gA, g1, g0]; rfl) (by kernel_rfl) (by exact fun _ _ _ h => h) (Or.inl ⟨by rfl, ?_⟩) (by assumption) ?_; rotate_left; focus (intro wq hSw; (try dsimp only at hSw); go_simp; all_goals (with_reducible rfl))
    try simp only [Act.put, sA, s0, s1]
    refine tkA 30 (v := ?_) (by simp only [gA, g1, g0]; rfl) (by kernel_rfl) (by exact fun _ _ _ h => h) (Or.inl ⟨by rfl, ?_⟩) (by assumption) ?_; rotate_left; focus (intro wq hSw; (try dsimp only at hSw); go_simp; all_goals (with_reducible rfl))
    try simp only [Act.put, sA, s0, s1]
    refine tkA 31 (v := ?_) (by simp only [gA, g1, g0]; rfl) (by kernel_rfl) (by exact fun _ _ _ h => h) (Or.inl ⟨by rfl, ?_⟩) (by assumption) ?_; rotate_left; focus (intro wq hSw; (try dsimp only at hSw); go_simp; all_goals (with_reducible rfl))
    try simp only [Act.put, sA, s0, s1]
    refine tkA 32 (v := ?_) (by simp only [gA, g1, g0]; rfl) (by kernel_rfl) (by exact fun _ _ _ h => h) (Or.inl ⟨by rfl, ?_⟩) (by assumption) ?_; rotate_left; focus (intro wq hSw; (try dsimp only at hSw); go_simp; all_goals (with_reducible rfl))
    try simp only [Act.put, sA, s0, s1]
    refine tkA 33 (by simp only [gA, g1, g0]; rfl) (by kernel_rfl) (by exact fun _ _ _ h => h) (yields_ld (ad := ⟨g10, 1, none⟩) (by rfl) _ rfl rfl (fun w' h => ld31 (cell_of_block (Away.keep h (by simp) HB10.out.1) 1))) (by assumption) ?_; try simp only [Act.put, sA, s0, s1]
    refine tkA 34 (v := ?_) (by simp only [gA, g1, g0]; rfl) (by kernel_rfl) (by exact fun _ _ _ h => h) (Or.inl ⟨by rfl, ?_⟩) (by assumption) ?_; rotate_left; focus (intro wq hSw; (try dsimp only at hSw); go_simp; all_goals (with_reducible rfl))
    try simp only [Act.put, sA, s0, s1]
    refine tkA 35 (by simp only [gA, g1, g0]; rfl) (by kernel_rfl) (by exact fun _ _ _ h => h) (yields_ld (ad := ⟨wb4, 0, none⟩) (by rfl) _ rfl rfl (fun w' h => load28m_run (range_away h (by simp) HRX.out) HAD.out)) (by assumption) ?_; try simp only [Act.put, sA, s0, s1]
    refine tkA 36 (by simp only [gA, g1, g0]; rfl) (by kernel_rfl) (by exact fun _ _ _ h => h) (yields_ld (ad := ⟨gp, 0, none⟩) (by rfl) _ rfl rfl (fun w' h => load28_run (Al.on HAL.out h).box HAD.out)) (by assumption) ?_; try simp only [Act.put, sA, s0, s1]
    refine wpAnyH_ready (rs := [37]) (by kernel_rfl) (by simp) ?_
    refine AllReadyH.cons (by simp only [gA, g1, g0]; rfl) (fun K hK => ?_) AllReadyH.nil
    go_simp
    refine (K16.out _ hHeld).mono ?_
    rintro E y1 ⟨rfl, haw⟩
    have hS := Away.trans hHeld haw
    clear haw
    go_wp2_with fail
    refine hK.out _ _ hS (fun hHeld => ?_)
    clear hK K
    try simp only [Act.put, sA, s0, s1]
    refine tkA 38 (v := ?_) (by simp only [gA, g1, g0]; rfl) (by kernel_rfl) (by exact fun _ _ _ h => h) (Or.inl ⟨by rfl, ?_⟩) (by assumption) ?_; rotate_left; focus (intro wq hSw; (try dsimp only at hSw); go_simp; all_goals (with_reducible rfl))
    try simp only [Act.put, sA, s0, s1]
    refine tkA 39 (v := ?_) (by simp only [gA, g1, g0]; rfl) (by kernel_rfl) (by exact fun _ _ _ h => h) (Or.inl ⟨by rfl, ?_⟩) (by assumption) ?_; rotate_left; focus (intro wq hSw; (try dsimp only at hSw); go_simp; all_goals (with_reducible rfl))
    try simp only [Act.put, sA, s0, s1]
    refine tkA 40 (v := ?_) (by simp only [gA, g1, g0]; rfl) (by kernel_rfl) (by exact fun _ _ _ h => h) (Or.inl ⟨by rfl, ?_⟩) (by assumption) ?_; rotate_left; focus (intro wq hSw; (try dsimp only at hSw); go_simp; all_goals (with_reducible rfl))
    try simp only [Act.put, sA, s0, s1]
    refine tkA 41 (v := ?_) (by simp only [gA, g1, g0]; rfl) (by kernel_rfl) (by exact fun _ _ _ h => h) (Or.inl ⟨by rfl, ?_⟩) (by assumption) ?_; rotate_left; focus (intro wq hSw; (try dsimp only at hSw); go_simp; all_goals (with_reducible rfl))
    try simp only [Act.put, sA, s0, s1]
    refine wpAnyH_ready (rs := [42]) (by kernel_rfl) (by simp) ?_
    refine AllReadyH.cons (by simp only [gA, g1, g0]; rfl) (fun K hK => ?_) AllReadyH.nil
    go_simp
    refine (K10.out _ hHeld).mono ?_
    rintro E y2 ⟨kv, rfl, hlk, -, haw⟩
    obtain ⟨ka, kc, rfl, -⟩ := shapeK hlk (by simp)
    clear hlk
    simp only [List.length_nil]
    have hS := Away.trans hHeld haw
    clear haw
    go_wp2_with fail
    refine hK.out _ _ hS (fun hHeld => ?_)
    clear hK K
    try simp only [Act.put, sA, s0, s1]
    refine tkA 43 (v := ?_) (by simp only [gA, g1, g0]; rfl) (by kernel_rfl) (by exact fun _ _ _ h => h) (Or.inl ⟨by rfl, ?_⟩) (by assumption) ?_; rotate_left; focus (intro wq hSw; (try dsimp only at hSw); go_simp; all_goals (with_reducible rfl))
    try simp only [Act.put, sA, s0, s1]
    refine tkA 44 (v := ?_) (by simp only [gA, g1, g0]; rfl) (by kernel_rfl) (by exact fun _ _ _ h => h) (Or.inl ⟨by rfl, ?_⟩) (by assumption) ?_; rotate_left; focus (intro wq hSw; (try dsimp only at hSw); go_simp; all_goals (with_reducible rfl))
    try simp only [Act.put, sA, s0, s1]
    refine tkA 45 (v := ?_) (by simp only [gA, g1, g0]; rfl) (by kernel_rfl) (by exact fun _ _ _ h => h) (Or.inl ⟨by rfl, ?_⟩) (by assumption) ?_; rotate_left; focus (intro wq hSw; (try dsimp only at hSw); go_simp; all_goals (with_reducible rfl))
    try simp only [Act.put, sA, s0, s1]
    refine wpAnyH_done (by kernel_rfl) ?_ _
    go_wp2_with fail
    go_meet
    exact ⟨rfl, hHeld⟩
  case rest =>
  obtain ⟨rfl, haw⟩ := hcut
  replace HAL := Lib.hid (HAL.out.on haw)
  clear haw HB6 HB8 HB10 K10 K16 HRX HOK
  have KP := Lib.hid (al_pieces HAL.out).2.2
  go_wp2_with (refine wpList_load28 rfl _ rfl gp rfl alD _ _ (by exact HAL.out.box) HAD.out ?_)
  refine KP.out.mono ?_
  rintro E x6 ⟨dv6, rfl, hpk, hnd, hal, haw⟩
  have KQ := Lib.hid (tpx hal HG.out hpk hnd)
  replace HAL := Lib.hid hal
  clear hpk hnd hal haw KP
  go_wp2_with fail
  refine KQ.out.mono ?_
  rintro E y6 ⟨rfl, haw⟩
  replace HAL := Lib.hid (HAL.out.on haw)
  clear haw KQ
  go_wp2_with (refine wpList_alloc33 rfl rfl ?_; refine Hid.out ?_)
  refine Lib.hid ?_
  intro g12 z6 hg hb haw1
  have HBN := Lib.hid hb
  have HGN := Lib.hid hg
  have HW1 := Lib.hid haw1
  clear hg hb haw1
  go_wp2_with (refine wpList_store33 rfl _ _ rfl g12 rfl 0 nilV nilV nilV rfl 0 nilV nilV nilV (by exact HBN.out) rfl rfl rfl ?_; refine Hid.out ?_)
  refine Lib.hid ?_
  intro v6 hb haw2
  have HW3 : Hid (Away [] y6 v6) := HW1.out.next haw2 (fun z hz => .inr (by simp at hz; rw [hz]; exact HGN.out))
  replace HAL := Lib.hid (HAL.out.on HW3.out)
  clear hb haw2 HW1 HW3 HBN HGN
  have KP := Lib.hid (al_pieces HAL.out).2.2
  go_wp2_with (refine wpList_load28 rfl _ rfl gp rfl alD _ _ (by exact HAL.out.box) HAD.out ?_)
  refine KP.out.mono ?_
  rintro E x5 ⟨dv5, rfl, hpk, hnd, hal, haw⟩
  have KQ := Lib.hid (tp5 hal HG.out hpk hnd)
  replace HAL := Lib.hid hal
  clear hpk hnd hal haw KP
  go_wp2_with fail
  refine KQ.out.mono ?_
  rintro E y5 ⟨wv5, lv5, gv5, xs5, cs5, ov5, rfl, o1, o2, o3, hcu, hxm, ⟨g5, fp5, rfl⟩, hal, hnb, haw⟩
  replace HAL := Lib.hid hal
  have HCU := Lib.hid hcu
  have HXM := Lib.hid hxm
  have HO1 := Lib.hid o1
  have HO2 := Lib.hid o2
  have HO3 := Lib.hid o3
  clear hal hnb haw KQ hcu hxm o1 o2 o3
  go_wp2_with (refine wpList_alloc33 rfl rfl ?_; refine Hid.out ?_)
  refine Lib.hid ?_
  intro g14 z5 hg hb haw1
  have HBN := Lib.hid hb
  have HGN := Lib.hid hg
  have HW1 := Lib.hid haw1
  clear hg hb haw1
  go_wp2_with (refine wpList_store33 rfl _ _ rfl g14 rfl 5 wv5 lv5 gv5 rfl 0 nilV nilV nilV (by exact HBN.out) HO1.out HO2.out HO3.out ?_; refine Hid.out ?_)
  refine Lib.hid ?_
  intro v5 hb haw2
  have HW3 : Hid (Away [] y5 v5) := HW1.out.next haw2 (fun z hz => .inr (by simp at hz; rw [hz]; exact HGN.out))
  have HB14 : Hid (BoxT v5 g14 5 wv5 lv5 gv5 ∧ g14 ∉ fpT gt mb ov5 [⟨al5, g5, fp5⟩]) := ⟨hb, fun hm => by have h1 := HAL.out.ta.tab.lt _ hm; have h2 := HGN.out; omega⟩
  replace HAL := Lib.hid (HAL.out.on HW3.out)
  replace HCU := Lib.hid (HCU.out.on HW3.out)
  clear hb haw2 HW1 HW3 HBN HGN HO1 HO2 HO3
  clear HCU HXM HB14
  have KT := Lib.hid (tk HAL.out)
  go_wp2_with fail
  refine KT.out.mono ?_
  rintro E y7 ⟨lv7, xs7, ov7, rfl, o2, hcu, hxm, hal, haw⟩
  replace HAL := Lib.hid hal
  obtain ⟨wb7, wc7, xo, xd, hwv, hrx, hokx⟩ := one_x hcu hxm
  subst hwv
  have HRX := Lib.hid hrx
  have HOK := Lib.hid hokx
  clear hal haw hcu hxm hrx hokx KT o2
  go_wp2_with (refine wpList_alloc33 rfl rfl ?_; refine Hid.out ?_)
  refine Lib.hid ?_
  intro g16 z7 hg hb haw1
  have HBN := Lib.hid hb
  have HGN := Lib.hid hg
  have HW1 := Lib.hid haw1
  clear hg hb haw1
  go_wp2_with (refine wpList_store33 rfl _ _ rfl g16 rfl 0 nilV (.slice (some ⟨wb7, 0, none⟩) 1 wc7) nilV rfl 0 nilV nilV nilV (by exact HBN.out) rfl rfl rfl ?_; refine Hid.out ?_)
  refine Lib.hid ?_
  intro v7 hb haw2
  have HW3 : Hid (Away [] y7 v7) := HW1.out.next haw2 (fun z hz => .inr (by simp at hz; rw [hz]; exact HGN.out))
  have HB16 : Hid (BoxT v7 g16 0 nilV (.slice (some ⟨wb7, 0, none⟩) 1 wc7) nilV) := hb
  replace HAL := Lib.hid (HAL.out.on HW3.out)
  replace HRX := Lib.hid (range_away HW3.out (by simp) HRX.out)
  replace HOK := Lib.hid (HOK.out.on HW3.out)
  clear hb haw2 HW1 HW3 HBN HGN
  have HADC := Lib.hid al_wf.2.2.2.ad
  have K8 : Hid (∀ W, Away [] v7 W → Calls Tryz.prog 25 #[.agg (csP alD (.slice none 0 0) pd), .int .i64 0, .int .i64 16] W fun E w' => ∃ dv, E = .returned (.agg (csP alC (.slice none 0 0) dv)) ∧ Pkt w' alC (.slice none 0 0) dv ∧ Away [] W w') := fun W hW => (al_pieces (HAL.out.on hW)).2.2.mono (fun E w' ⟨dv, h1, h2, _, _, h3⟩ => ⟨dv, h1, h2, h3⟩)
  have K16 : Hid (∀ W dv, Away [] v7 W → Pkt W alC (.slice none 0 0) dv → Calls Tryz.prog 24 #[.agg (csP alC xo xd), .agg (csP alC (.slice none 0 0) dv)] W fun E w' => E = .returned (.bool true) ∧ Away [] W w') := fun W dv hW h => samePk_yes alC xo xd _ dv W (HOK.out.on hW) h
  have K14 : Hid (∀ W, Calls Tryz.prog 18 #[.agg (csP alD (.slice none 0 0) pd)] W fun E w' => E = .returned (.agg (csK alD)) ∧ Away [] W w') := fun W => lkey_c alD _ _ W HAD.out
  have K15 : Hid (∀ W, Away [] v7 W → Calls Tryz.prog 19 #[.pointer (some ⟨gt, 0, none⟩), .agg (csK alD)] W fun E w' => E = .returned (.int .i64 (-1)) ∧ Away [] W w') := fun W hW => tholes_c (HAL.out.ta.tab.on hW) alD al_wf.1
  have K17 : Hid (∀ W, Away [] v7 W → Calls Tryz.prog 23 #[.pointer (some ⟨gt, 0, none⟩), .agg (csK alD)] W fun E w' => E = .returned (.bool false) ∧ Away [] W w') := fun W hW => tpois_c (HAL.out.ta.tab.on hW) alD al_wf.1
  go_upto_region 16 with fail
  go_cut [0] (fun v wc => v = .bool true ∧ Away [] v7 wc)
  case first =>
    as_aux_lemma =>
    refine wp_region_held_drew (S := fun w' => Away [] v7 w') (by kernel_rfl) ((Away.refl [] v7).drew) (fun hHeld => ?_)
    refine tkA 0 (v := ?_) (by simp only [gA, g1, g0]; rfl) (by kernel_rfl) (by exact fun _ _ _ h => h) (Or.inl ⟨by rfl, ?_⟩) (by assumption) ?_; rotate_left; focus (intro wq hSw; (try dsimp only at hSw); go_simp; all_goals (with_reducible rfl))
    try simp only [Act.put, sA, s0, s1]
    refine tkA 1 (v := ?_) (by simp only [gA, g1, g0]; rfl) (by kernel_rfl) (by exact fun _ _ _ h => h) (Or.inl ⟨by rfl, ?_⟩) (by assumption) ?_; rotate_left; focus (intro wq hSw; (try dsimp only at hSw); go_simp; all_goals (with_reducible rfl))
    try simp only [Act.put, sA, s0, s1]
    refine tkA 2 (v := ?_) (by simp only [gA, g1, g0]; rfl) (by kernel_rfl) (by exact fun _ _ _ h => h) (Or.inl ⟨by rfl, ?_⟩) (by assumption) ?_; rotate_left; focus (intro wq hSw; (try dsimp only at hSw); go_simp; all_goals (with_reducible rfl))
    try simp only [Act.put, sA, s0, s1]
    refine tkA 3 (v := ?_) (by simp only [gA, g1, g0]; rfl) (by kernel_rfl) (by exact fun _ _ _ h => h) (Or.inl ⟨by rfl, ?_⟩) (by assumption) ?_; rotate_left; focus (intro wq hSw; (try dsimp only at hSw); go_simp; all_goals (with_reducible rfl))
    try simp only [Act.put, sA, s0, s1]
    refine tkA 4 (v := ?_) (by simp only [gA, g1, g0]; rfl) (by kernel_rfl) (by exact fun _ _ _ h => h) (Or.inl ⟨by rfl, ?_⟩) (by assumption) ?_; rotate_left; focus (intro wq hSw; (try dsimp only at hSw); go_simp; all_goals (with_reducible rfl))
    try simp only [Act.put, sA, s0, s1]
    refine tkA 5 (v := ?_) (by simp only [gA, g1, g0]; rfl) (by kernel_rfl) (by exact fun _ _ _ h => h) (Or.inl ⟨by rfl, ?_⟩) (by assumption) ?_; rotate_left; focus (intro wq hSw; (try dsimp only at hSw); go_simp; all_goals (with_reducible rfl))
    try simp only [Act.put, sA, s0, s1]
    refine tkA 6 (v := ?_) (by simp only [gA, g1, g0]; rfl) (by kernel_rfl) (by exact fun _ _ _ h => h) (Or.inl ⟨by rfl, ?_⟩) (by assumption) ?_; rotate_left; focus (intro wq hSw; (try dsimp only at hSw); go_simp; all_goals (with_reducible rfl))
    try simp only [Act.put, sA, s0, s1]
    refine tkA 7 (v := ?_) (by simp only [gA, g1, g0]; rfl) (by kernel_rfl) (by exact fun _ _ _ h => h) (Or.inl ⟨by rfl, ?_⟩) (by assumption) ?_; rotate_left; focus (intro wq hSw; (try dsimp only at hSw); go_simp; all_goals (with_reducible rfl))
    try simp only [Act.put, sA, s0, s1]
    refine tkA 8 (v := ?_) (by simp only [gA, g1, g0]; rfl) (by kernel_rfl) (by exact fun _ _ _ h => h) (Or.inl ⟨by rfl, ?_⟩) (by assumption) ?_; rotate_left; focus (intro wq hSw; (try dsimp only at hSw); go_simp; all_goals (with_reducible rfl))
    try simp only [Act.put, sA, s0, s1]
    refine tkA 9 (v := ?_) (by simp only [gA, g1, g0]; rfl) (by kernel_rfl) (by exact fun _ _ _ h => h) (Or.inl ⟨by rfl, ?_⟩) (by assumption) ?_; rotate_left; focus (intro wq hSw; (try dsimp only at hSw); go_simp; all_goals (with_reducible rfl))
    try simp only [Act.put, sA, s0, s1]
    refine tkA 10 (v := ?_) (by simp only [gA, g1, g0]; rfl) (by kernel_rfl) (by exact fun _ _ _ h => h) (Or.inl ⟨by rfl, ?_⟩) (by assumption) ?_; rotate_left; focus (intro wq hSw; (try dsimp only at hSw); go_simp; all_goals (with_reducible rfl))
    try simp only [Act.put, sA, s0, s1]
    refine tkA 11 (v := ?_) (by simp only [gA, g1, g0]; rfl) (by kernel_rfl) (by exact fun _ _ _ h => h) (Or.inl ⟨by rfl, ?_⟩) (by assumption) ?_; rotate_left; focus (intro wq hSw; (try dsimp only at hSw); go_simp; all_goals (with_reducible rfl))
    try simp only [Act.put, sA, s0, s1]
    refine tkA 12 (by simp only [gA, g1, g0]; rfl) (by kernel_rfl) (by exact fun _ _ _ h => h) (yields_ld (ad := ⟨g16, 2, none⟩) (by rfl) _ rfl rfl (fun w' h => ld31 (cell_of_block (Away.keep h (by simp) HB16.out) 2))) (by assumption) ?_; try simp only [Act.put, sA, s0, s1]
    refine tkA 13 (v := ?_) (by simp only [gA, g1, g0]; rfl) (by kernel_rfl) (by exact fun _ _ _ h => h) (Or.inl ⟨by rfl, ?_⟩) (by assumption) ?_; rotate_left; focus (intro wq hSw; (try dsimp only at hSw); go_simp; all_goals (with_reducible rfl))
    try simp only [Act.put, sA, s0, s1]
    refine tkA 14 (v := ?_) (by simp only [gA, g1, g0]; rfl) (by kernel_rfl) (by exact fun _ _ _ h => h) (Or.inl ⟨by rfl, ?_⟩) (by assumption) ?_; rotate_left; focus (intro wq hSw; (try dsimp only at hSw); go_simp; all_goals (with_reducible rfl))
    try simp only [Act.put, sA, s0, s1]
    refine tkA 15 (v := ?_) (by simp only [gA, g1, g0]; rfl) (by kernel_rfl) (by exact fun _ _ _ h => h) (Or.inl ⟨by rfl, ?_⟩) (by assumption) ?_; rotate_left; focus (intro wq hSw; (try dsimp only at hSw); go_simp; all_goals (with_reducible rfl))
    try simp only [Act.put, sA, s0, s1]
    refine tkA 16 (v := ?_) (by simp only [gA, g1, g0]; rfl) (by kernel_rfl) (by exact fun _ _ _ h => h) (Or.inl ⟨by rfl, ?_⟩) (by assumption) ?_; rotate_left; focus (intro wq hSw; (try dsimp only at hSw); go_simp; all_goals (with_reducible rfl))
    try simp only [Act.put, sA, s0, s1]
    refine tkA 17 (v := ?_) (by simp only [gA, g1, g0]; rfl) (by kernel_rfl) (by exact fun _ _ _ h => h) (Or.inl ⟨by rfl, ?_⟩) (by assumption) ?_; rotate_left; focus (intro wq hSw; (try dsimp only at hSw); go_simp; all_goals (with_reducible rfl))
    try simp only [Act.put, sA, s0, s1]
    refine tkA 18 (by simp only [gA, g1, g0]; rfl) (by kernel_rfl) (by exact fun _ _ _ h => h) (yields_ld (ad := ⟨g16, 2, none⟩) (by rfl) _ rfl rfl (fun w' h => ld31 (cell_of_block (Away.keep h (by simp) HB16.out) 2))) (by assumption) ?_; try simp only [Act.put, sA, s0, s1]
    refine tkA 19 (v := ?_) (by simp only [gA, g1, g0]; rfl) (by kernel_rfl) (by exact fun _ _ _ h => h) (Or.inl ⟨by rfl, ?_⟩) (by assumption) ?_; rotate_left; focus (intro wq hSw; (try dsimp only at hSw); go_simp; all_goals (with_reducible rfl))
    try simp only [Act.put, sA, s0, s1]
    refine tkA 20 (by simp only [gA, g1, g0]; rfl) (by kernel_rfl) (by exact fun _ _ _ h => h) (yields_ld (ad := ⟨wb7, 0, none⟩) (by rfl) _ rfl rfl (fun w' h => load28m_run (range_away h (by simp) HRX.out) HADC.out)) (by assumption) ?_; try simp only [Act.put, sA, s0, s1]
    refine tkA 21 (by simp only [gA, g1, g0]; rfl) (by kernel_rfl) (by exact fun _ _ _ h => h) (yields_ld (ad := ⟨gp, 0, none⟩) (by rfl) _ rfl rfl (fun w' h => load28_run (Al.on HAL.out h).box HAD.out)) (by assumption) ?_; try simp only [Act.put, sA, s0, s1]
    refine wpAnyH_ready (rs := [22]) (by kernel_rfl) (by simp) ?_
    refine AllReadyH.cons (by simp only [gA, g1, g0]; rfl) (fun K hK => ?_) AllReadyH.nil
    go_simp
    refine (K8.out _ hHeld).mono ?_
    rintro E y1 ⟨dv8, rfl, hpk, haw⟩
    have HPK := Lib.hid hpk
    clear hpk
    have hS := Away.trans hHeld haw
    clear haw
    go_wp2_with fail
    refine hK.out _ _ hS (fun hHeld => ?_)
    clear hK K
    try simp only [Act.put, sA, s0, s1]
    refine wpAnyH_ready (rs := [23]) (by kernel_rfl) (by simp) ?_
    refine AllReadyH.cons (by simp only [gA, g1, g0]; rfl) (fun K hK => ?_) AllReadyH.nil
    go_simp
    refine (K16.out _ dv8 hHeld HPK.out).mono ?_
    rintro E y2 ⟨rfl, haw⟩
    clear HPK
    have hS := Away.trans hHeld haw
    clear haw
    go_wp2_with fail
    refine hK.out _ _ hS (fun hHeld => ?_)
    clear hK K
    try simp only [Act.put, sA, s0, s1]
    refine tkA 24 (v := ?_) (by simp only [gA, g1, g0]; rfl) (by kernel_rfl) (by exact fun _ _ _ h => h) (Or.inl ⟨by rfl, ?_⟩) (by assumption) ?_; rotate_left; focus (intro wq hSw; (try dsimp only at hSw); go_simp; all_goals (with_reducible rfl))
    try simp only [Act.put, sA, s0, s1]
    refine tkA 25 (v := ?_) (by simp only [gA, g1, g0]; rfl) (by kernel_rfl) (by exact fun _ _ _ h => h) (Or.inl ⟨by rfl, ?_⟩) (by assumption) ?_; rotate_left; focus (intro wq hSw; (try dsimp only at hSw); go_simp; all_goals (with_reducible rfl))
    try simp only [Act.put, sA, s0, s1]
    refine tkA 26 (v := ?_) (by simp only [gA, g1, g0]; rfl) (by kernel_rfl) (by exact fun _ _ _ h => h) (Or.inl ⟨by rfl, ?_⟩) (by assumption) ?_; rotate_left; focus (intro wq hSw; (try dsimp only at hSw); go_simp; all_goals (with_reducible rfl))
    try simp only [Act.put, sA, s0, s1]
    refine tkA 27 (by simp only [gA, g1, g0]; rfl) (by kernel_rfl) (by exact fun _ _ _ h => h) (yields_ld (ad := ⟨gp, 0, none⟩) (by rfl) _ rfl rfl (fun w' h => load28_run (Al.on HAL.out h).box HAD.out)) (by assumption) ?_; try simp only [Act.put, sA, s0, s1]
    refine wpAnyH_ready (rs := [28]) (by kernel_rfl) (by simp) ?_
    refine AllReadyH.cons (by simp only [gA, g1, g0]; rfl) (fun K hK => ?_) AllReadyH.nil
    go_simp
    refine (K14.out _).mono ?_
    rintro E y3 ⟨rfl, haw⟩
    have hS := Away.trans hHeld haw
    clear haw
    go_wp2_with fail
    refine hK.out _ _ hS (fun hHeld => ?_)
    clear hK K
    try simp only [Act.put, sA, s0, s1]
    refine wpAnyH_ready (rs := [29]) (by kernel_rfl) (by simp) ?_
    refine AllReadyH.cons (by simp only [gA, g1, g0]; rfl) (fun K hK => ?_) AllReadyH.nil
    go_simp
    refine (K15.out _ hHeld).mono ?_
    rintro E y4 ⟨rfl, haw⟩
    have hS := Away.trans hHeld haw
    clear haw
    go_wp2_with fail
    refine hK.out _ _ hS (fun hHeld => ?_)
    clear hK K
    try simp only [Act.put, sA, s0, s1]
    refine tkA 30 (v := ?_) (by simp only [gA, g1, g0]; rfl) (by kernel_rfl) (by exact fun _ _ _ h => h) (Or.inl ⟨by rfl, ?_⟩) (by assumption) ?_; rotate_left; focus (intro wq hSw; (try dsimp only at hSw); go_simp; all_goals (with_reducible rfl))
    try simp only [Act.put, sA, s0, s1]
    refine tkA 31 (v := ?_) (by simp only [gA, g1, g0]; rfl) (by kernel_rfl) (by exact fun _ _ _ h => h) (Or.inl ⟨by rfl, ?_⟩) (by assumption) ?_; rotate_left; focus (intro wq hSw; (try dsimp only at hSw); go_simp; all_goals (with_reducible rfl))
    try simp only [Act.put, sA, s0, s1]
    refine tkA 32 (v := ?_) (by simp only [gA, g1, g0]; rfl) (by kernel_rfl) (by exact fun _ _ _ h => h) (Or.inl ⟨by rfl, ?_⟩) (by assumption) ?_; rotate_left; focus (intro wq hSw; (try dsimp only at hSw); go_simp; all_goals (with_reducible rfl))
    try simp only [Act.put, sA, s0, s1]
    refine tkA 33 (v := ?_) (by simp only [gA, g1, g0]; rfl) (by kernel_rfl) (by exact fun _ _ _ h => h) (Or.inl ⟨by rfl, ?_⟩) (by assumption) ?_; rotate_left; focus (intro wq hSw; (try dsimp only at hSw); go_simp; all_goals (with_reducible rfl))
    try simp only [Act.put, sA, s0, s1]
    refine tkA 34 (by simp only [gA, g1, g0]; rfl) (by kernel_rfl) (by exact fun _ _ _ h => h) (yields_ld (ad := ⟨gp, 0, none⟩) (by rfl) _ rfl rfl (fun w' h => load28_run (Al.on HAL.out h).box HAD.out)) (by assumption) ?_; try simp only [Act.put, sA, s0, s1]
    refine wpAnyH_ready (rs := [35]) (by kernel_rfl) (by simp) ?_
    refine AllReadyH.cons (by simp only [gA, g1, g0]; rfl) (fun K hK => ?_) AllReadyH.nil
    go_simp
    refine (K14.out _).mono ?_
    rintro E y5 ⟨rfl, haw⟩
    have hS := Away.trans hHeld haw
    clear haw
    go_wp2_with fail
    refine hK.out _ _ hS (fun hHeld => ?_)
    clear hK K
    try simp only [Act.put, sA, s0, s1]
    refine wpAnyH_ready (rs := [36]) (by kernel_rfl) (by simp) ?_
    refine AllReadyH.cons (by simp only [gA, g1, g0]; rfl) (fun K hK => ?_) AllReadyH.nil
    go_simp
    refine (K17.out _ hHeld).mono ?_
    rintro E y6 ⟨rfl, haw⟩
    have hS := Away.trans hHeld haw
    clear haw
    go_wp2_with fail
    refine hK.out _ _ hS (fun hHeld => ?_)
    clear hK K
    try simp only [Act.put, sA, s0, s1]
    refine tkA 37 (v := ?_) (by simp only [gA, g1, g0]; rfl) (by kernel_rfl) (by exact fun _ _ _ h => h) (Or.inl ⟨by rfl, ?_⟩) (by assumption) ?_; rotate_left; focus (intro wq hSw; (try dsimp only at hSw); go_simp; all_goals (with_reducible rfl))
    try simp only [Act.put, sA, s0, s1]
    refine tkA 38 (v := ?_) (by simp only [gA, g1, g0]; rfl) (by kernel_rfl) (by exact fun _ _ _ h => h) (Or.inl ⟨by rfl, ?_⟩) (by assumption) ?_; rotate_left; focus (intro wq hSw; (try dsimp only at hSw); go_simp; all_goals (with_reducible rfl))
    try simp only [Act.put, sA, s0, s1]
    refine tkA 39 (v := ?_) (by simp only [gA, g1, g0]; rfl) (by kernel_rfl) (by exact fun _ _ _ h => h) (Or.inl ⟨by rfl, ?_⟩) (by assumption) ?_; rotate_left; focus (intro wq hSw; (try dsimp only at hSw); go_simp; all_goals (with_reducible rfl))
    try simp only [Act.put, sA, s0, s1]
    refine wpAnyH_done (by kernel_rfl) ?_ _
    go_wp2_with fail
    go_meet
    exact ⟨rfl, hHeld⟩
  case rest =>
  obtain ⟨rfl, haw⟩ := hcut
  have HE := Lib.hid (HAL.out.ta.aw.trans haw)
  clear haw
  go_wp2_with fail
  go_ret
  exact ⟨rfl, HE.out⟩
end Go.Proofs.YtkccpidgeecemaaGreatDoor
