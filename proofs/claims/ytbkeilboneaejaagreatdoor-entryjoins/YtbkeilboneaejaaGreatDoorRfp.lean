/-
  Pieces of pieces, as plain data (stage 11's, as far as Recut).
-/
import Derived.Test.YtbkeilboneaejaaGreatDoorRecM
import Derived.Test.YtbkeilboneaejaaGreatDoorKey
namespace Go.Proofs.YtbkeilboneaejaaGreatDoor
open Go.ChangeShapes Go.WideShapes Go.ChangeAt Go.RowKit Num
set_option linter.unusedVariables false
set_option maxHeartbeats 4000000
set_option maxRecDepth 100000

namespace R
def lastB : List Pk → Bool
  | [] => false
  | [q] => q.more
  | _ :: r :: s => lastB (r :: s)
def complL (e : Int) : List Pk → Bool
  | [] => true
  | p :: r => decide (p.off = e) && complL (p.off + p.d.length) r
def datas (l : List Pk) : List Int := l.flatMap Pk.d
/-- The fields that all pieces of a packet share. -/
structure Kin (p q : Pk) : Prop where
  wf : Wf q
  r : rgtP q = true
  v : q.v = p.v
  tos : q.tos = p.tos
  flow : q.flow = p.flow
  sv : q.sv = p.sv
  sb : q.sb = p.sb
  dv : q.dv = p.dv
  db : q.db = p.db
  proto : q.proto = p.proto
  ttl : q.ttl = p.ttl
  id : q.id = p.id
  df : q.df = p.df
  frag : q.frag = p.frag
theorem Kin.trans {p q r : Pk} (h : Kin p q) (k : Kin q r) : Kin p r := ⟨k.wf, k.r, k.v.trans h.v, k.tos.trans h.tos, k.flow.trans h.flow, k.sv.trans h.sv, k.sb.trans h.sb, k.dv.trans h.dv, k.db.trans h.db, k.proto.trans h.proto, k.ttl.trans h.ttl, k.id.trans h.id, k.df.trans h.df, k.frag.trans h.frag⟩
theorem Kin.key {p q r : Pk} (h : Kin p q) (k : Kin p r) : keyB q r = true := by
  unfold keyB
  rw [h.v, k.v, h.sv, k.sv, h.sb, k.sb, h.dv, k.dv, h.db, k.db, h.proto, k.proto, h.id, k.id]
  simp [eqL]
/-- All but the last have More, which the last has just if b. -/
def moresB (b : Bool) : List Pk → Prop
  | [] => False
  | [q] => q.more = b
  | q :: r :: s => q.more = true ∧ moresB b (r :: s)
theorem mores_last {b : Bool} : ∀ {l : List Pk}, moresB b l → lastB l = b
  | [], h => h.elim
  | [q], h => h
  | q :: r :: s, h => mores_last (l := r :: s) h.2
theorem mores_ne {b : Bool} {l : List Pk} (h : moresB b l) : l ≠ [] := by
  rintro rfl; exact h
theorem mores_app {b : Bool} : ∀ {l m : List Pk}, moresB true l → moresB b m → moresB b (l ++ m)
  | [], m, h, k => h.elim
  | [q], m, h, k => by
    cases m with
    | nil => exact k.elim
    | cons r s => exact ⟨h, k⟩
  | q :: r :: s, m, h, k => ⟨h.1, mores_app (l := r :: s) h.2 k⟩
theorem compl_app : ∀ (l m : List Pk) (e : Int), complL e l = true → complL (e + (datas l).length) m = true → complL e (l ++ m) = true
  | [], m, e, h, k => by simpa [datas] using k
  | q :: r, m, e, h, k => by
    rw [complL, Bool.and_eq_true, decide_eq_true_eq] at h
    have hd : datas (q :: r) = q.d ++ datas r := rfl
    rw [hd, List.length_append] at k
    show complL e (q :: (r ++ m)) = true
    rw [complL, Bool.and_eq_true, decide_eq_true_eq]
    refine ⟨h.1, compl_app r m _ h.2 ?_⟩
    have e1 : q.off + (q.d.length : Int) + (datas r).length = e + ((q.d.length + (datas r).length : Nat) : Int) := by have := h.1; omega
    rw [e1]; exact k
theorem datas_app (l m : List Pk) : datas (l ++ m) = datas l ++ datas m := by simp [datas]
/-- l are pieces of x, in their order. -/
structure Ref (x : Pk) (l : List Pk) : Prop where
  kin : ∀ q ∈ l, Kin x q
  mo : moresB x.more l
  cm : complL x.off l = true
  da : datas l = x.d
  hd : ∀ q r, l = q :: r → q.o = x.o ∧ q.off = x.off
theorem Kin.refl {x : Pk} (hw : Wf x) (hr : rgtP x = true) : Kin x x := ⟨hw, hr, rfl, rfl, rfl, rfl, rfl, rfl, rfl, rfl, rfl, rfl, rfl, rfl⟩
theorem Ref.self {x : Pk} (hw : Wf x) (hr : rgtP x = true) : Ref x [x] :=
  ⟨fun q hq => by simp at hq; subst hq; exact Kin.refl hw hr, rfl, by simp [complL], by simp [datas], fun q r e => by simp at e; obtain ⟨rfl, -⟩ := e; exact ⟨rfl, rfl⟩⟩
theorem Ref.ne {x : Pk} {l : List Pk} (h : Ref x l) : l ≠ [] := mores_ne h.mo
/-- Pieces of pieces. -/
theorem ref_join : ∀ (ls : List (Pk × List Pk)) (e : Int) (b : Bool), (∀ y ∈ ls, Ref y.1 y.2) → moresB b (ls.map Prod.fst) → complL e (ls.map Prod.fst) = true →
    moresB b (ls.flatMap Prod.snd) ∧ complL e (ls.flatMap Prod.snd) = true ∧ datas (ls.flatMap Prod.snd) = datas (ls.map Prod.fst)
  | [], e, b, h, hm, hc => hm.elim
  | [y], e, b, h, hm, hc => by
    have hy := h y (by simp)
    have h1 : y.1.more = b := hm
    simp only [List.map_cons, List.map_nil, complL, Bool.and_true, decide_eq_true_eq] at hc
    simp only [List.flatMap_cons, List.flatMap_nil, List.append_nil, List.map_cons, List.map_nil]
    refine ⟨by rw [← h1]; exact hy.mo, by rw [← hc]; exact hy.cm, ?_⟩
    rw [hy.da]; simp [datas]
  | y :: z :: r, e, b, h, hm, hc => by
    have hy := h y (by simp)
    have hm1 : y.1.more = true := hm.1
    have hc1 : y.1.off = e ∧ complL (y.1.off + y.1.d.length) ((z :: r).map Prod.fst) = true := by
      have := hc
      rw [List.map_cons, complL, Bool.and_eq_true, decide_eq_true_eq] at this
      exact this
    obtain ⟨k1, k2, k3⟩ := ref_join (z :: r) (y.1.off + y.1.d.length) b (fun q hq => h q (List.mem_cons_of_mem _ hq)) hm.2 hc1.2
    rw [List.flatMap_cons]
    refine ⟨mores_app (by rw [← hm1]; exact hy.mo) k1, compl_app _ _ _ (by rw [← hc1.1]; exact hy.cm) ?_, ?_⟩
    · rw [hy.da, ← hc1.1]; exact k2
    · rw [datas_app, k3, hy.da]; rfl
theorem Ref.trans {x : Pk} {l : List Pk} (h : Ref x l) (ls : List (Pk × List Pk)) (hl : ls.map Prod.fst = l) (hr : ∀ y ∈ ls, Ref y.1 y.2) : Ref x (ls.flatMap Prod.snd) := by
  subst hl
  obtain ⟨k1, k2, k3⟩ := ref_join ls x.off x.more hr h.mo h.cm
  refine ⟨fun q hq => ?_, k1, k2, k3.trans h.da, fun q r e => ?_⟩
  · obtain ⟨y, hy, hq⟩ := List.mem_flatMap.1 hq
    exact (h.kin y.1 (List.mem_map.2 ⟨y, hy, rfl⟩)).trans ((hr y hy).kin q hq)
  · cases ls with
    | nil => exact absurd rfl h.ne
    | cons y t =>
      rw [List.flatMap_cons] at e
      cases hy2 : y.2 with
      | nil => exact absurd hy2 (hr y (by simp)).ne
      | cons a c =>
        rw [hy2] at e
        simp only [List.cons_append, List.cons.injEq] at e
        obtain ⟨rfl, -⟩ := e
        have h1 := (hr y (by simp)).hd a c hy2
        have h2 := h.hd y.1 (t.map Prod.fst) rfl
        exact ⟨h1.1.trans h2.1, h1.2.trans h2.2⟩
/-! What Recut tells are pieces. -/
theorem sh_eq {q : Pk} {k : Int} (h0 : 0 ≤ q.off) (h1 : q.off ≤ 65535) (k0 : 0 ≤ k) (k1 : k ≤ 65535) : shP k q = { q with off := q.off + k } := by
  have : wrap64 (q.off + k) = q.off + k := by unfold wrap64; omega
  unfold shP; rw [this]
def pcX (x : Pk) (o : List Int) (n : Nat) (l : List Int) (b : Bool) : Pk := { x with o := o, off := (n : Int) + x.off, d := l, more := b }
theorem pcX_kin {x : Pk} (hw : Wf x) (hr : rgtP x = true) (hv : x.v ≠ 6) {o : List Int} (ho : validP o = true) (hob : Bytes o) (hol : o.length ≤ x.o.length) {n : Nat} {l : List Int} {b : Bool} (hl : Bytes l) (h0 : 0 < l.length) (h8 : n % 8 = 0) (hn : n + l.length ≤ x.d.length) (hb : b = true → l.length % 8 = 0) : Kin x (pcX x o n l b) := by
  have hr0 := hr
  unfold rgtP at hr
  rw [if_neg hv, right_iff] at hr
  have hr1 := hr.1
  have e1 := hr1.o0; have e2 := hr1.o1; have e3 := hr1.o8; have e4 := hr1.reach; have e5 := hr1.all; have e6 := hw.ol; have e7 := hw.dn
  have hwf : Wf (pcX x o n l b) := ⟨hw.v, hw.tos, hw.flow, hw.sv, hw.sl, hw.sb, hw.dv, hw.dl, hw.db, hw.proto, hw.ttl, hw.id0, hw.id1, ⟨by show (-9223372036854775808 : Int) ≤ (n : Int) + x.off; omega, by show (n : Int) + x.off ≤ 9223372036854775807; omega⟩, hob, by show o.length ≤ _; omega, hl, by show l.length ≤ _; omega⟩
  refine ⟨hwf, ?_, rfl, rfl, rfl, rfl, rfl, rfl, rfl, rfl, rfl, rfl, rfl, rfl⟩
  unfold rgtP
  refine (if_neg hv).trans ?_
  rw [right_iff]
  exact ⟨⟨hr1.v, hr1.flow, hr1.frag, hr1.id, hr1.t0, hr1.t1, hr1.l0, hr1.l1, hr1.r0, hr1.r1, hr1.sv, hr1.sb, hr1.dv, hr1.db, by show 0 ≤ (n : Int) + x.off; omega, by show (n : Int) + x.off ≤ 65528; omega, by show ((n : Int) + x.off) % 8 = 0; omega, hb, fun _ => by show l.length ≠ 0; omega, fun _ => by show l.length ≠ 0; omega, by show (n : Int) + x.off + l.length ≤ 65535; omega, by show 20 + o.length + l.length ≤ 65535; omega⟩, ho⟩
theorem pcs_ref {x : Pk} {m : Int} (hw : Wf x) (hr : rgtP x = true) (hv : x.v ≠ 6) (hm : mtuP m 4 = true) {lat : Pk} (hlat : Frm (unP x) lat) : ∀ (k : Nat) (f : Pk) (n : Nat), Frm (unP x) f → x.d.length - n ≤ k → n < x.d.length → n % 8 = 0 →
    (∀ q ∈ lastM x.more ((pcsP (unP x) m lat k f n).map (shP x.off)), Kin x q) ∧ moresB x.more (lastM x.more ((pcsP (unP x) m lat k f n).map (shP x.off))) ∧ complL ((n : Int) + x.off) (lastM x.more ((pcsP (unP x) m lat k f n).map (shP x.off))) = true ∧
    datas (lastM x.more ((pcsP (unP x) m lat k f n).map (shP x.off))) = x.d.drop n ∧ (∀ q r, lastM x.more ((pcsP (unP x) m lat k f n).map (shP x.off)) = q :: r → q.o = f.o ∧ q.off = (n : Int) + x.off)
  | 0, f, n, hf, hk, hn, h8 => by omega
  | k + 1, f, n, hf, hk, hn, h8 => by
    have hu := un_right hr hv
    have huw := un_wf hw
    have hm' : mtuP m (unP x).v = true := by show mtuP m x.v = true; rw [v4 hr hv]; exact hm
    have hn' : n < (unP x).d.length := hn
    have ht := took hu huw hf hm' hn'
    obtain ⟨o, rfl, hvo, hol, hob⟩ := hf.h4 hv
    generalize hs : shareP ((unP x).d.length - n) (roomP { unP x with d := [], o := o } m) (unP x).v = s at ht
    have t1 := ht.pos; have t2 : n + s ≤ x.d.length := ht.le; have t3 : n + s = x.d.length ∨ s % 8 = 0 := ht.d8; have t4 : ((x.d.drop n).take s).length = s := ht.len
    have hrx := hr
    unfold rgtP at hrx
    rw [if_neg hv, right_iff] at hrx
    have b1 := hrx.1.o0; have b2 := hrx.1.o1; have b4 := hrx.1.reach; have b5 := hrx.1.m8
    rw [pcsP, if_pos hn', hs]
    have hdl : (unP x).d.length - n = x.d.length - n := rfl
    have hsh : ∀ b, shP x.off (plcP { unP x with d := [], o := o } n (((unP x).d.drop n).take s) b) = { pcX x o n ((x.d.drop n).take s) b with more := b } := fun b => by
      rw [sh_eq (by show (0 : Int) ≤ (n : Int); omega) (by show (n : Int) ≤ 65535; omega) b1 (by omega)]
      rfl
    rw [List.map_cons, hsh]
    have hby : Bytes ((x.d.drop n).take s) := (hw.d.drop n).take s
    rcases Nat.lt_or_ge (n + s) x.d.length with hlt | hge
    · have h8s : s % 8 = 0 := by omega
      obtain ⟨i1, i2, i3, i4, i5⟩ := pcs_ref hw hr hv hm hlat k lat (n + s) hlat (by omega) hlt (by omega)
      have hd : decide (s < (unP x).d.length - n) = true := by rw [hdl]; simp; omega
      rw [hd]
      generalize (pcsP (unP x) m lat k lat (n + s)).map (shP x.off) = L at i1 i2 i3 i4 i5 ⊢
      cases L with
      | nil => exact i2.elim
      | cons a c =>
        show (∀ q ∈ ({ pcX x o n ((x.d.drop n).take s) true with more := true } : Pk) :: lastM x.more (a :: c), Kin x q) ∧ _
        have hkin : Kin x (pcX x o n ((x.d.drop n).take s) true) := pcX_kin hw hr hv hvo hob hol hby (by omega) h8 (by omega) (fun _ => by omega)
        refine ⟨fun q hq => ?_, ?_, ?_, ?_, fun q r e => ?_⟩
        · rcases List.mem_cons.1 hq with rfl | hq
          · exact hkin
          · exact i1 q hq
        · show moresB x.more ({ pcX x o n ((x.d.drop n).take s) true with more := true } :: lastM x.more (a :: c))
          cases hL : lastM x.more (a :: c) with
          | nil => rw [hL] at i2; exact i2.elim
          | cons u y => rw [hL] at i2; exact ⟨rfl, i2⟩
        · show complL ((n : Int) + x.off) ({ pcX x o n ((x.d.drop n).take s) true with more := true } :: lastM x.more (a :: c)) = true
          rw [complL, Bool.and_eq_true, decide_eq_true_eq]
          refine ⟨rfl, ?_⟩
          have e : ({ pcX x o n ((x.d.drop n).take s) true with more := true } : Pk).off + (({ pcX x o n ((x.d.drop n).take s) true with more := true } : Pk).d.length : Int) = ((n + s : Nat) : Int) + x.off := by
            show (n : Int) + x.off + (((x.d.drop n).take s).length : Int) = _
            rw [t4]; omega
          rw [e]; exact i3
        · show (x.d.drop n).take s ++ datas (lastM x.more (a :: c)) = x.d.drop n
          rw [i4, ← List.drop_drop, List.take_append_drop]
        · have e' : ({ pcX x o n ((x.d.drop n).take s) true with more := true } : Pk) :: lastM x.more (a :: c) = q :: r := e
          simp only [List.cons.injEq] at e'
          obtain ⟨rfl, -⟩ := e'
          exact ⟨rfl, rfl⟩
    · have hes : n + s = x.d.length := by omega
      rw [pcs_nil (show ¬ n + s < (unP x).d.length from by show ¬ n + s < x.d.length; omega)]
      have hkin : Kin x (pcX x o n ((x.d.drop n).take s) x.more) := pcX_kin hw hr hv hvo hob hol hby (by omega) h8 (by omega) (fun h => by have := b5 h; omega)
      have hlast : lastM x.more [({ pcX x o n ((x.d.drop n).take s) (decide (s < (unP x).d.length - n)) with more := decide (s < (unP x).d.length - n) } : Pk)] = [pcX x o n ((x.d.drop n).take s) x.more] := rfl
      rw [List.map_nil, hlast]
      refine ⟨fun q hq => by simp at hq; subst hq; exact hkin, rfl, by simp [complL, pcX], ?_, fun q r e => by simp at e; obtain ⟨rfl, -⟩ := e; exact ⟨rfl, rfl⟩⟩
      show (x.d.drop n).take s ++ [] = x.d.drop n
      rw [List.append_nil, List.take_of_length_le (by rw [List.length_drop]; omega)]
theorem recut_ref {x : Pk} {m : Int} (hw : Wf x) (hr : rgtP x = true) (hv : x.v = 4) (hdf : x.df = false) (hm : mtuP m 4 = true) : ∃ l, recutP x m = (l, 0) ∧ Ref x l := by
  have hv6 : x.v ≠ 6 := by omega
  unfold recutP
  rw [if_pos ⟨hr, hm⟩]
  by_cases hl : longP x ≤ m
  · rw [if_pos hl]; exact ⟨_, rfl, Ref.self hw hr⟩
  · rw [if_neg hl, if_neg (by rw [hdf]; simp; omega)]
    have hu := un_right hr hv6
    have huw := un_wf hw
    have h2 := un_two hw hr hm hl hv6
    have hd0 : 0 < x.d.length := by
      have := pcs_len (unP x) m (latP (unP x) 0) (unP x).d.length (fstP (unP x) 0) 0
      unfold cutL at h2
      have e : (unP x).d.length = x.d.length := rfl
      omega
    obtain ⟨i1, i2, i3, i4, i5⟩ := pcs_ref hw hr hv6 hm (hu.lat huw (id := 0) (by omega) (by omega)) x.d.length (fstP (unP x) 0) 0 (hu.fst huw (by omega) (by omega)) (by omega) hd0 rfl
    refine ⟨recutL x m, rfl, i1, i2, ?_, ?_, fun q r e => ?_⟩
    · have : ((0 : Nat) : Int) + x.off = x.off := by omega
      rw [this] at i3; exact i3
    · rw [List.drop_zero] at i4; exact i4
    · have h := i5 q r e
      rw [fst_o] at h
      exact ⟨h.1, by rw [h.2]; omega⟩
/-- One behind the other. -/
def Pw (l : List Pk) : Prop := l.Pairwise (fun a b => a.more = true ∧ a.off + (a.d.length : Int) ≤ b.off)
theorem compl_end : ∀ (l : List Pk) (e : Int), complL e l = true → ∀ q ∈ l, e ≤ q.off
  | [], e, h, q, hq => by simp at hq
  | p :: r, e, h, q, hq => by
    rw [complL, Bool.and_eq_true, decide_eq_true_eq] at h
    rcases List.mem_cons.1 hq with rfl | hq
    · omega
    · have := compl_end r _ h.2 q hq; omega
theorem pw_of : ∀ (l : List Pk) (e : Int) (b : Bool), moresB b l → complL e l = true → Pw l
  | [], e, b, hm, hc => List.Pairwise.nil
  | [q], e, b, hm, hc => by unfold Pw; simp
  | q :: r :: s, e, b, hm, hc => by
    have hc2 := hc
    rw [complL, Bool.and_eq_true, decide_eq_true_eq] at hc2
    have := pw_of (r :: s) _ b hm.2 hc2.2
    unfold Pw at this ⊢
    rw [List.pairwise_cons]
    exact ⟨fun x hx => ⟨hm.1, compl_end _ _ hc2.2 x hx⟩, this⟩
theorem Ref.pw {x : Pk} {l : List Pk} (h : Ref x l) : Pw l := pw_of l _ _ h.mo h.cm
end R
#print axioms R.recut_ref
end Go.Proofs.YtbkeilboneaejaaGreatDoor
