/-
  What Cut and pieces tell are pieces of one packet. Plain data.
-/
import Derived.Test.YtbkeilboneaejaaGreatDoorRecM
import Derived.Test.YtbkeilboneaejaaGreatDoorKey
import Derived.Test.YtbkeilboneaejaaGreatDoorPcA
namespace Go.Proofs.YtbkeilboneaejaaGreatDoor
open Go.ChangeShapes Go.WideShapes Go.ChangeAt Go.RowKit Num
set_option linter.unusedVariables false
set_option maxHeartbeats 4000000
set_option maxRecDepth 100000

namespace R
def lastB : List Pk → Bool
  | [] => false
  | [q] => q.more
  | _ :: r :: s => lastB (r :: s)
def complL (e : Int) : List Pk → Bool
  | [] => true
  | p :: r => decide (p.off = e) && complL (p.off + p.d.length) r
def datas (l : List Pk) : List Int := l.flatMap Pk.d
/-- The fields that all pieces of a packet share. -/
structure Kin (p q : Pk) : Prop where
  wf : Wf q
  r : rgtP q = true
  v : q.v = p.v
  tos : q.tos = p.tos
  flow : q.flow = p.flow
  sv : q.sv = p.sv
  sb : q.sb = p.sb
  dv : q.dv = p.dv
  db : q.db = p.db
  proto : q.proto = p.proto
  ttl : q.ttl = p.ttl
  id : q.id = p.id
  df : q.df = p.df
  frag : q.frag = p.frag
theorem Kin.trans {p q r : Pk} (h : Kin p q) (k : Kin q r) : Kin p r := ⟨k.wf, k.r, k.v.trans h.v, k.tos.trans h.tos, k.flow.trans h.flow, k.sv.trans h.sv, k.sb.trans h.sb, k.dv.trans h.dv, k.db.trans h.db, k.proto.trans h.proto, k.ttl.trans h.ttl, k.id.trans h.id, k.df.trans h.df, k.frag.trans h.frag⟩
theorem Kin.key {p q r : Pk} (h : Kin p q) (k : Kin p r) : keyB q r = true := by
  unfold keyB
  rw [h.v, k.v, h.sv, k.sv, h.sb, k.sb, h.dv, k.dv, h.db, k.db, h.proto, k.proto, h.id, k.id]
  simp [eqL]
/-- All but the last have More, which the last has just if b. -/
def moresB (b : Bool) : List Pk → Prop
  | [] => False
  | [q] => q.more = b
  | q :: r :: s => q.more = true ∧ moresB b (r :: s)
theorem mores_last {b : Bool} : ∀ {l : List Pk}, moresB b l → lastB l = b
  | [], h => h.elim
  | [q], h => h
  | q :: r :: s, h => mores_last (l := r :: s) h.2
theorem mores_ne {b : Bool} {l : List Pk} (h : moresB b l) : l ≠ [] := by
  rintro rfl; exact h
theorem mores_app {b : Bool} : ∀ {l m : List Pk}, moresB true l → moresB b m → moresB b (l ++ m)
  | [], m, h, k => h.elim
  | [q], m, h, k => by
    cases m with
    | nil => exact k.elim
    | cons r s => exact ⟨h, k⟩
  | q :: r :: s, m, h, k => ⟨h.1, mores_app (l := r :: s) h.2 k⟩
theorem compl_app : ∀ (l m : List Pk) (e : Int), complL e l = true → complL (e + (datas l).length) m = true → complL e (l ++ m) = true
  | [], m, e, h, k => by simpa [datas] using k
  | q :: r, m, e, h, k => by
    rw [complL, Bool.and_eq_true, decide_eq_true_eq] at h
    have hd : datas (q :: r) = q.d ++ datas r := rfl
    rw [hd, List.length_append] at k
    show complL e (q :: (r ++ m)) = true
    rw [complL, Bool.and_eq_true, decide_eq_true_eq]
    refine ⟨h.1, compl_app r m _ h.2 ?_⟩
    have e1 : q.off + (q.d.length : Int) + (datas r).length = e + ((q.d.length + (datas r).length : Nat) : Int) := by have := h.1; omega
    rw [e1]; exact k
theorem datas_app (l m : List Pk) : datas (l ++ m) = datas l ++ datas m := by simp [datas]
/-- l are pieces of x, in their order. -/
structure Ref (x : Pk) (l : List Pk) : Prop where
  kin : ∀ q ∈ l, Kin x q
  mo : moresB x.more l
  cm : complL x.off l = true
  da : datas l = x.d
  hd : ∀ q r, l = q :: r → q.o = x.o ∧ q.off = x.off
theorem Kin.refl {x : Pk} (hw : Wf x) (hr : rgtP x = true) : Kin x x := ⟨hw, hr, rfl, rfl, rfl, rfl, rfl, rfl, rfl, rfl, rfl, rfl, rfl, rfl⟩
theorem Ref.self {x : Pk} (hw : Wf x) (hr : rgtP x = true) : Ref x [x] :=
  ⟨fun q hq => by simp at hq; subst hq; exact Kin.refl hw hr, rfl, by simp [complL], by simp [datas], fun q r e => by simp at e; obtain ⟨rfl, -⟩ := e; exact ⟨rfl, rfl⟩⟩
theorem Ref.ne {x : Pk} {l : List Pk} (h : Ref x l) : l ≠ [] := mores_ne h.mo
/-- Pieces of pieces. -/
theorem ref_join : ∀ (ls : List (Pk × List Pk)) (e : Int) (b : Bool), (∀ y ∈ ls, Ref y.1 y.2) → moresB b (ls.map Prod.fst) → complL e (ls.map Prod.fst) = true →
    moresB b (ls.flatMap Prod.snd) ∧ complL e (ls.flatMap Prod.snd) = true ∧ datas (ls.flatMap Prod.snd) = datas (ls.map Prod.fst)
  | [], e, b, h, hm, hc => hm.elim
  | [y], e, b, h, hm, hc => by
    have hy := h y (by simp)
    have h1 : y.1.more = b := hm
    simp only [List.map_cons, List.map_nil, complL, Bool.and_true, decide_eq_true_eq] at hc
    simp only [List.flatMap_cons, List.flatMap_nil, List.append_nil, List.map_cons, List.map_nil]
    refine ⟨by rw [← h1]; exact hy.mo, by rw [← hc]; exact hy.cm, ?_⟩
    rw [hy.da]; simp [datas]
  | y :: z :: r, e, b, h, hm, hc => by
    have hy := h y (by simp)
    have hm1 : y.1.more = true := hm.1
    have hc1 : y.1.off = e ∧ complL (y.1.off + y.1.d.length) ((z :: r).map Prod.fst) = true := by
      have := hc
      rw [List.map_cons, complL, Bool.and_eq_true, decide_eq_true_eq] at this
      exact this
    obtain ⟨k1, k2, k3⟩ := ref_join (z :: r) (y.1.off + y.1.d.length) b (fun q hq => h q (List.mem_cons_of_mem _ hq)) hm.2 hc1.2
    rw [List.flatMap_cons]
    refine ⟨mores_app (by rw [← hm1]; exact hy.mo) k1, compl_app _ _ _ (by rw [← hc1.1]; exact hy.cm) ?_, ?_⟩
    · rw [hy.da, ← hc1.1]; exact k2
    · rw [datas_app, k3, hy.da]; rfl
theorem Ref.trans {x : Pk} {l : List Pk} (h : Ref x l) (ls : List (Pk × List Pk)) (hl : ls.map Prod.fst = l) (hr : ∀ y ∈ ls, Ref y.1 y.2) : Ref x (ls.flatMap Prod.snd) := by
  subst hl
  obtain ⟨k1, k2, k3⟩ := ref_join ls x.off x.more hr h.mo h.cm
  refine ⟨fun q hq => ?_, k1, k2, k3.trans h.da, fun q r e => ?_⟩
  · obtain ⟨y, hy, hq⟩ := List.mem_flatMap.1 hq
    exact (h.kin y.1 (List.mem_map.2 ⟨y, hy, rfl⟩)).trans ((hr y hy).kin q hq)
  · cases ls with
    | nil => exact absurd rfl h.ne
    | cons y t =>
      rw [List.flatMap_cons] at e
      cases hy2 : y.2 with
      | nil => exact absurd hy2 (hr y (by simp)).ne
      | cons a c =>
        rw [hy2] at e
        simp only [List.cons_append, List.cons.injEq] at e
        obtain ⟨rfl, -⟩ := e
        have h1 := (hr y (by simp)).hd a c hy2
        have h2 := h.hd y.1 (t.map Prod.fst) rfl
        exact ⟨h1.1.trans h2.1, h1.2.trans h2.2⟩
/-! What Recut tells are pieces. -/
theorem sh_eq {q : Pk} {k : Int} (h0 : 0 ≤ q.off) (h1 : q.off ≤ 65535) (k0 : 0 ≤ k) (k1 : k ≤ 65535) : shP k q = { q with off := q.off + k } := by
  have : wrap64 (q.off + k) = q.off + k := by unfold wrap64; omega
  unfold shP; rw [this]
def pcX (x : Pk) (o : List Int) (n : Nat) (l : List Int) (b : Bool) : Pk := { x with o := o, off := (n : Int) + x.off, d := l, more := b }
theorem pcX_kin {x : Pk} (hw : Wf x) (hr : rgtP x = true) (hv : x.v ≠ 6) {o : List Int} (ho : validP o = true) (hob : Bytes o) (hol : o.length ≤ x.o.length) {n : Nat} {l : List Int} {b : Bool} (hl : Bytes l) (h0 : 0 < l.length) (h8 : n % 8 = 0) (hn : n + l.length ≤ x.d.length) (hb : b = true → l.length % 8 = 0) : Kin x (pcX x o n l b) := by
  have hr0 := hr
  unfold rgtP at hr
  rw [if_neg hv, right_iff] at hr
  have hr1 := hr.1
  have e1 := hr1.o0; have e2 := hr1.o1; have e3 := hr1.o8; have e4 := hr1.reach; have e5 := hr1.all; have e6 := hw.ol; have e7 := hw.dn
  have hwf : Wf (pcX x o n l b) := ⟨hw.v, hw.tos, hw.flow, hw.sv, hw.sl, hw.sb, hw.dv, hw.dl, hw.db, hw.proto, hw.ttl, hw.id0, hw.id1, ⟨by show (-9223372036854775808 : Int) ≤ (n : Int) + x.off; omega, by show (n : Int) + x.off ≤ 9223372036854775807; omega⟩, hob, by show o.length ≤ _; omega, hl, by show l.length ≤ _; omega⟩
  refine ⟨hwf, ?_, rfl, rfl, rfl, rfl, rfl, rfl, rfl, rfl, rfl, rfl, rfl, rfl⟩
  unfold rgtP
  refine (if_neg hv).trans ?_
  rw [right_iff]
  exact ⟨⟨hr1.v, hr1.flow, hr1.frag, hr1.id, hr1.t0, hr1.t1, hr1.l0, hr1.l1, hr1.r0, hr1.r1, hr1.sv, hr1.sb, hr1.dv, hr1.db, by show 0 ≤ (n : Int) + x.off; omega, by show (n : Int) + x.off ≤ 65528; omega, by show ((n : Int) + x.off) % 8 = 0; omega, hb, fun _ => by show l.length ≠ 0; omega, fun _ => by show l.length ≠ 0; omega, by show (n : Int) + x.off + l.length ≤ 65535; omega, by show 20 + o.length + l.length ≤ 65535; omega⟩, ho⟩
theorem pcs_ref {x : Pk} {m : Int} (hw : Wf x) (hr : rgtP x = true) (hv : x.v ≠ 6) (hm : mtuP m 4 = true) {lat : Pk} (hlat : Frm (unP x) lat) : ∀ (k : Nat) (f : Pk) (n : Nat), Frm (unP x) f → x.d.length - n ≤ k → n < x.d.length → n % 8 = 0 →
    (∀ q ∈ lastM x.more ((pcsP (unP x) m lat k f n).map (shP x.off)), Kin x q) ∧ moresB x.more (lastM x.more ((pcsP (unP x) m lat k f n).map (shP x.off))) ∧ complL ((n : Int) + x.off) (lastM x.more ((pcsP (unP x) m lat k f n).map (shP x.off))) = true ∧
    datas (lastM x.more ((pcsP (unP x) m lat k f n).map (shP x.off))) = x.d.drop n ∧ (∀ q r, lastM x.more ((pcsP (unP x) m lat k f n).map (shP x.off)) = q :: r → q.o = f.o ∧ q.off = (n : Int) + x.off)
  | 0, f, n, hf, hk, hn, h8 => by omega
  | k + 1, f, n, hf, hk, hn, h8 => by
    have hu := un_right hr hv
    have huw := un_wf hw
    have hm' : mtuP m (unP x).v = true := by show mtuP m x.v = true; rw [v4 hr hv]; exact hm
    have hn' : n < (unP x).d.length := hn
    have ht := took hu huw hf hm' hn'
    obtain ⟨o, rfl, hvo, hol, hob⟩ := hf.h4 hv
    generalize hs : shareP ((unP x).d.length - n) (roomP { unP x with d := [], o := o } m) (unP x).v = s at ht
    have t1 := ht.pos; have t2 : n + s ≤ x.d.length := ht.le; have t3 : n + s = x.d.length ∨ s % 8 = 0 := ht.d8; have t4 : ((x.d.drop n).take s).length = s := ht.len
    have hrx := hr
    unfold rgtP at hrx
    rw [if_neg hv, right_iff] at hrx
    have b1 := hrx.1.o0; have b2 := hrx.1.o1; have b4 := hrx.1.reach; have b5 := hrx.1.m8
    rw [pcsP, if_pos hn', hs]
    have hdl : (unP x).d.length - n = x.d.length - n := rfl
    have hsh : ∀ b, shP x.off (plcP { unP x with d := [], o := o } n (((unP x).d.drop n).take s) b) = { pcX x o n ((x.d.drop n).take s) b with more := b } := fun b => by
      rw [sh_eq (by show (0 : Int) ≤ (n : Int); omega) (by show (n : Int) ≤ 65535; omega) b1 (by omega)]
      rfl
    rw [List.map_cons, hsh]
    have hby : Bytes ((x.d.drop n).take s) := (hw.d.drop n).take s
    rcases Nat.lt_or_ge (n + s) x.d.length with hlt | hge
    · have h8s : s % 8 = 0 := by omega
      obtain ⟨i1, i2, i3, i4, i5⟩ := pcs_ref hw hr hv hm hlat k lat (n + s) hlat (by omega) hlt (by omega)
      have hd : decide (s < (unP x).d.length - n) = true := by rw [hdl]; simp; omega
      rw [hd]
      generalize (pcsP (unP x) m lat k lat (n + s)).map (shP x.off) = L at i1 i2 i3 i4 i5 ⊢
      cases L with
      | nil => exact i2.elim
      | cons a c =>
        show (∀ q ∈ ({ pcX x o n ((x.d.drop n).take s) true with more := true } : Pk) :: lastM x.more (a :: c), Kin x q) ∧ _
        have hkin : Kin x (pcX x o n ((x.d.drop n).take s) true) := pcX_kin hw hr hv hvo hob hol hby (by omega) h8 (by omega) (fun _ => by omega)
        refine ⟨fun q hq => ?_, ?_, ?_, ?_, fun q r e => ?_⟩
        · rcases List.mem_cons.1 hq with rfl | hq
          · exact hkin
          · exact i1 q hq
        · show moresB x.more ({ pcX x o n ((x.d.drop n).take s) true with more := true } :: lastM x.more (a :: c))
          cases hL : lastM x.more (a :: c) with
          | nil => rw [hL] at i2; exact i2.elim
          | cons u y => rw [hL] at i2; exact ⟨rfl, i2⟩
        · show complL ((n : Int) + x.off) ({ pcX x o n ((x.d.drop n).take s) true with more := true } :: lastM x.more (a :: c)) = true
          rw [complL, Bool.and_eq_true, decide_eq_true_eq]
          refine ⟨rfl, ?_⟩
          have e : ({ pcX x o n ((x.d.drop n).take s) true with more := true } : Pk).off + (({ pcX x o n ((x.d.drop n).take s) true with more := true } : Pk).d.length : Int) = ((n + s : Nat) : Int) + x.off := by
            show (n : Int) + x.off + (((x.d.drop n).take s).length : Int) = _
            rw [t4]; omega
          rw [e]; exact i3
        · show (x.d.drop n).take s ++ datas (lastM x.more (a :: c)) = x.d.drop n
          rw [i4, ← List.drop_drop, List.take_append_drop]
        · have e' : ({ pcX x o n ((x.d.drop n).take s) true with more := true } : Pk) :: lastM x.more (a :: c) = q :: r := e
          simp only [List.cons.injEq] at e'
          obtain ⟨rfl, -⟩ := e'
          exact ⟨rfl, rfl⟩
    · have hes : n + s = x.d.length := by omega
      rw [pcs_nil (show ¬ n + s < (unP x).d.length from by show ¬ n + s < x.d.length; omega)]
      have hkin : Kin x (pcX x o n ((x.d.drop n).take s) x.more) := pcX_kin hw hr hv hvo hob hol hby (by omega) h8 (by omega) (fun h => by have := b5 h; omega)
      have hlast : lastM x.more [({ pcX x o n ((x.d.drop n).take s) (decide (s < (unP x).d.length - n)) with more := decide (s < (unP x).d.length - n) } : Pk)] = [pcX x o n ((x.d.drop n).take s) x.more] := rfl
      rw [List.map_nil, hlast]
      refine ⟨fun q hq => by simp at hq; subst hq; exact hkin, rfl, by simp [complL, pcX], ?_, fun q r e => by simp at e; obtain ⟨rfl, -⟩ := e; exact ⟨rfl, rfl⟩⟩
      show (x.d.drop n).take s ++ [] = x.d.drop n
      rw [List.append_nil, List.take_of_length_le (by rw [List.length_drop]; omega)]
theorem recut_ref {x : Pk} {m : Int} (hw : Wf x) (hr : rgtP x = true) (hv : x.v = 4) (hdf : x.df = false) (hm : mtuP m 4 = true) : ∃ l, recutP x m = (l, 0) ∧ Ref x l := by
  have hv6 : x.v ≠ 6 := by omega
  unfold recutP
  rw [if_pos ⟨hr, hm⟩]
  by_cases hl : longP x ≤ m
  · rw [if_pos hl]; exact ⟨_, rfl, Ref.self hw hr⟩
  · rw [if_neg hl, if_neg (by rw [hdf]; simp; omega)]
    have hu := un_right hr hv6
    have huw := un_wf hw
    have h2 := un_two hw hr hm hl hv6
    have hd0 : 0 < x.d.length := by
      have := pcs_len (unP x) m (latP (unP x) 0) (unP x).d.length (fstP (unP x) 0) 0
      unfold cutL at h2
      have e : (unP x).d.length = x.d.length := rfl
      omega
    obtain ⟨i1, i2, i3, i4, i5⟩ := pcs_ref hw hr hv6 hm (hu.lat huw (id := 0) (by omega) (by omega)) x.d.length (fstP (unP x) 0) 0 (hu.fst huw (by omega) (by omega)) (by omega) hd0 rfl
    refine ⟨recutL x m, rfl, i1, i2, ?_, ?_, fun q r e => ?_⟩
    · have : ((0 : Nat) : Int) + x.off = x.off := by omega
      rw [this] at i3; exact i3
    · rw [List.drop_zero] at i4; exact i4
    · have h := i5 q r e
      rw [fst_o] at h
      exact ⟨h.1, by rw [h.2]; omega⟩
/-- One behind the other. -/
def Pw (l : List Pk) : Prop := l.Pairwise (fun a b => a.more = true ∧ a.off + (a.d.length : Int) ≤ b.off)
theorem compl_end : ∀ (l : List Pk) (e : Int), complL e l = true → ∀ q ∈ l, e ≤ q.off
  | [], e, h, q, hq => by simp at hq
  | p :: r, e, h, q, hq => by
    rw [complL, Bool.and_eq_true, decide_eq_true_eq] at h
    rcases List.mem_cons.1 hq with rfl | hq
    · omega
    · have := compl_end r _ h.2 q hq; omega
theorem pw_of : ∀ (l : List Pk) (e : Int) (b : Bool), moresB b l → complL e l = true → Pw l
  | [], e, b, hm, hc => List.Pairwise.nil
  | [q], e, b, hm, hc => by unfold Pw; simp
  | q :: r :: s, e, b, hm, hc => by
    have hc2 := hc
    rw [complL, Bool.and_eq_true, decide_eq_true_eq] at hc2
    have := pw_of (r :: s) _ b hm.2 hc2.2
    unfold Pw at this ⊢
    rw [List.pairwise_cons]
    exact ⟨fun x hx => ⟨hm.1, compl_end _ _ hc2.2 x hx⟩, this⟩
theorem Ref.pw {x : Pk} {l : List Pk} (h : Ref x l) : Pw l := pw_of l _ _ h.mo h.cm
end R
#print axioms R.recut_ref
end Go.Proofs.YtbkeilboneaejaaGreatDoor

namespace Go.Proofs.YtbkeilboneaejaaGreatDoor
open Go.ChangeShapes Go.WideShapes Go.ChangeAt Go.RowKit Num
set_option linter.unusedVariables false
set_option maxHeartbeats 4000000
set_option maxRecDepth 100000

namespace R
/-- What all pieces of p, cut by the number id, share. -/
def basP (p : Pk) (id : Int) : Pk := { p with frag := if p.v = 6 then true else p.frag, id := if p.v = 6 then id else p.id }
structure FrI (p f : Pk) (id : Int) : Prop where
  fr : Frm p f
  eq : ∃ o, f = { basP p id with d := [], o := o }
theorem fri_fst {p : Pk} (hu : Unc p) (hw : Wf p) {id : Int} (h0 : 0 ≤ id) (h1 : id ≤ 4294967295) : FrI p (fstP p id) id := by
  refine ⟨hu.fst hw h0 h1, p.o, ?_⟩
  unfold fstP basP
  by_cases hv : p.v = 6
  · rw [if_pos hv, if_pos hv, if_pos hv]
  · rw [if_neg hv, if_neg hv, if_neg hv]
theorem fri_lat {p : Pk} (hu : Unc p) (hw : Wf p) {id : Int} (h0 : 0 ≤ id) (h1 : id ≤ 4294967295) : FrI p (latP p id) id := by
  refine ⟨hu.lat hw h0 h1, carryP p.o, ?_⟩
  obtain ⟨o, e⟩ := (fri_fst hu hw h0 h1).eq
  unfold latP
  rw [e]
theorem pcs_kin {p : Pk} {m id : Int} (hu : Unc p) (hw : Wf p) (hm : mtuP m p.v = true) {lat : Pk} (hl : FrI p lat id) : ∀ (k : Nat) (f : Pk) (n : Nat), FrI p f id → p.d.length - n ≤ k → n < p.d.length → n % 8 = 0 →
    (∀ q ∈ pcsP p m lat k f n, Kin (basP p id) q) ∧ moresB false (pcsP p m lat k f n) ∧ complL (n : Int) (pcsP p m lat k f n) = true ∧ datas (pcsP p m lat k f n) = p.d.drop n ∧ (∀ q r, pcsP p m lat k f n = q :: r → q.o = f.o ∧ q.off = (n : Int))
  | 0, f, n, hf, hk, hn, h8 => by omega
  | k + 1, f, n, hf, hk, hn, h8 => by
    have ht := took hu hw hf.fr hm hn
    generalize hs : shareP (p.d.length - n) (roomP f m) p.v = s at ht
    have t1 := ht.pos; have t2 := ht.le; have t3 := ht.d8; have t4 := ht.len; have t6 := ht.six
    have ha := hu.all.1
    rw [pcsP, if_pos hn, hs]
    have hkin : ∀ b : Bool, (b = true → s % 8 = 0) → Kin (basP p id) (plcP f n ((p.d.drop n).take s) b) := fun b hb => by
      have hr := piece_right hu hw hf.fr n ((p.d.drop n).take s) b (by omega) h8 (by omega) (by rw [t4]; exact hb) (by rw [t4]; exact t6)
      have hwf := hf.fr.wf hw n (by omega) ((p.d.drop n).take s) ((hw.d.drop n).take s) (by rw [t4]; omega) b
      obtain ⟨o, rfl⟩ := hf.eq
      exact ⟨hwf, hr, rfl, rfl, rfl, rfl, rfl, rfl, rfl, rfl, rfl, rfl, rfl, rfl⟩
    rcases Nat.lt_or_ge (n + s) p.d.length with hlt | hge
    · have h8s : s % 8 = 0 := by omega
      obtain ⟨i1, i2, i3, i4, i5⟩ := pcs_kin hu hw hm hl k lat (n + s) hl (by omega) hlt (by omega)
      have hd : decide (s < p.d.length - n) = true := by simp; omega
      rw [hd]
      generalize pcsP p m lat k lat (n + s) = L at i1 i2 i3 i4 i5 ⊢
      refine ⟨fun q hq => ?_, ?_, ?_, ?_, fun q r e => ?_⟩
      · rcases List.mem_cons.1 hq with rfl | hq
        · exact hkin true (fun _ => h8s)
        · exact i1 q hq
      · cases L with
        | nil => exact i2.elim
        | cons a c => exact ⟨rfl, i2⟩
      · rw [complL, Bool.and_eq_true, decide_eq_true_eq]
        refine ⟨rfl, ?_⟩
        have e : (plcP f n ((p.d.drop n).take s) true).off + ((plcP f n ((p.d.drop n).take s) true).d.length : Int) = ((n + s : Nat) : Int) := by
          show (n : Int) + (((p.d.drop n).take s).length : Int) = _
          rw [t4]; omega
        rw [e]; exact i3
      · show (p.d.drop n).take s ++ datas L = p.d.drop n
        rw [i4, ← List.drop_drop, List.take_append_drop]
      · simp only [List.cons.injEq] at e
        obtain ⟨rfl, -⟩ := e
        exact ⟨rfl, rfl⟩
    · have hes : n + s = p.d.length := by omega
      rw [pcs_nil (by omega)]
      have hd : decide (s < p.d.length - n) = false := by simp; omega
      rw [hd]
      refine ⟨fun q hq => by simp at hq; subst hq; exact hkin false (by simp), rfl, by simp [complL, plcP], ?_, fun q r e => by simp at e; obtain ⟨rfl, -⟩ := e; exact ⟨rfl, rfl⟩⟩
      show (p.d.drop n).take s ++ [] = p.d.drop n
      rw [List.append_nil, List.take_of_length_le (by rw [List.length_drop]; omega)]
theorem cut_ref {p : Pk} {m id : Int} (hu : Unc p) (hw : Wf p) (h0 : 0 ≤ id) (h1 : id ≤ 4294967295) (hm : mtuP m p.v = true) (hno : fitsP p m = false) : Ref (basP p id) (cutL p m id) := by
  have h2 := cut_two hu hw h0 h1 hm hno
  obtain ⟨a, b, r, -, -, e, -⟩ := h2
  have hd0 : 0 < p.d.length := by
    have := pcs_len p m (latP p id) p.d.length (fstP p id) 0
    have e2 := congrArg List.length e
    unfold cutL at e2
    simp only [List.length_cons] at e2
    omega
  obtain ⟨i1, i2, i3, i4, i5⟩ := pcs_kin hu hw hm (fri_lat hu hw h0 h1) p.d.length (fstP p id) 0 (fri_fst hu hw h0 h1) (by omega) hd0 rfl
  refine ⟨i1, ?_, ?_, ?_, fun q r e => ?_⟩
  · show moresB p.more _; rw [hu.more]; exact i2
  · show complL p.off _ = true; rw [hu.off]; exact i3
  · show datas _ = p.d; rw [List.drop_zero] at i4; exact i4
  · have h := i5 q r e
    rw [fst_o] at h
    exact ⟨h.1, by show q.off = p.off; rw [hu.off, h.2]; rfl⟩
theorem bas_four {p : Pk} (hv : p.v ≠ 6) (id : Int) : basP p id = p := by unfold basP; rw [if_neg hv, if_neg hv]
/-- Each of a list cut again. -/
theorem more_ref {x : Pk} {l : List Pk} {r : Int} (h : Ref x l) (hv : x.v = 4) (hdf : x.df = false) (hm : mtuP r 4 = true) : Ref x (moreL r l) := by
  have key : ∀ y ∈ l, Ref y (recE r y) := fun y hy => by
    have k := h.kin y hy
    obtain ⟨u, e, hu⟩ := recut_ref (m := r) k.wf k.r (k.v.trans hv) (k.df.trans hdf) hm
    unfold recE
    rw [e, if_pos rfl]; exact hu
  have := h.trans (l.map (fun y => (y, recE r y))) (by rw [List.map_map]; simp [Function.comp_def]) (fun z hz => by
    obtain ⟨y, hy, rfl⟩ := List.mem_map.1 hz
    exact key y hy)
  rw [List.flatMap_map] at this
  exact this
/-- What pieces tells: nothing; or q itself, and q cut again; or the pieces of q, and those cut again. -/
theorem pcs_told {q : Pk} {n s : Int} (hu : Unc q) (hw : Wf q) (hv : q.v = 4 ∨ q.v = 6) (hdf : q.df = false) (hn : 0 ≤ n ∧ n ≤ 1023) (hs : 0 ≤ s ∧ s ≤ 255) :
    ∃ x c m, pcsE q n s = c ++ m ∧ Ref x c ∧ (m = [] ∨ Ref x m) ∧ ((x = q ∧ c = [q]) ∨ (x = basP q 9 ∧ 2 ≤ c.length)) ∧ (q.v = 6 → m = []) := by
  have hm : mtuP (lowP q + n) q.v = true := by
    rw [mtu_iff]; unfold lowP; split <;> omega
  have hunc : (uncutP q && mtuP (lowP q + n) q.v) = true := by rw [hm, (uncut_iff q).2 hu]; rfl
  have hms : mtuP (68 + s) 4 = true := by rw [mtu_iff]; simp; omega
  unfold pcsE cutP
  rw [if_pos hunc]
  by_cases hf : fitsP q (lowP q + n) = true
  · rw [if_pos hf, if_pos rfl]
    have hself := Ref.self hw hu.r
    by_cases h4 : q.v = 4
    · rw [if_pos h4]
      exact ⟨q, [q], _, rfl, hself, .inr (more_ref hself h4 hdf hms), .inl ⟨rfl, rfl⟩, fun h => by omega⟩
    · rw [if_neg h4]
      exact ⟨q, [q], [], rfl, hself, .inl rfl, .inl ⟨rfl, rfl⟩, fun _ => rfl⟩
  · have hd : ¬ (q.df = true) := by rw [hdf]; simp
    rw [if_neg hf, if_neg hd, if_pos rfl]
    have hc := cut_ref (id := 9) hu hw (by omega) (by omega) hm (by simpa using hf)
    obtain ⟨ca, cb, cr, -, -, ce, -⟩ := cut_two (id := 9) hu hw (by omega) (by omega) hm (by simpa using hf)
    have h2 : 2 ≤ (cutL q (lowP q + n) 9).length := by rw [ce]; simp
    by_cases h4 : q.v = 4
    · rw [if_pos h4]
      have hb := bas_four (p := q) (by omega) 9
      exact ⟨basP q 9, _, _, rfl, hc, .inr (more_ref hc (by rw [hb]; exact h4) (by rw [hb]; exact hdf) hms), .inr ⟨rfl, h2⟩, fun h => by omega⟩
    · rw [if_neg h4]
      exact ⟨basP q 9, _, [], rfl, hc, .inl rfl, .inr ⟨rfl, h2⟩, fun _ => rfl⟩
end R
#print axioms R.pcs_told
end Go.Proofs.YtbkeilboneaejaaGreatDoor
