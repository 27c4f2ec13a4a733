/-
  For RecutTwice: pieces that fit, as plain data.
-/
import Derived.Test.YtaicckenpplceaaDoorBkP
namespace Go.Proofs.YtaicckenpplceaaDoor
open Go.ChangeShapes Go.WideShapes Go.ChangeAt Go.RowKit Num
set_option linter.unusedVariables false
set_option maxHeartbeats 4000000
set_option maxRecDepth 100000

namespace R
/-- Pieces that fit, with the options that are carried. -/
structure Ref2 (x : Pk) (m : Int) (l : List Pk) : Prop where
  ref : Ref x l
  tl : ∀ q r, l = q :: r → ∀ z ∈ r, z.o = carryP x.o
  fit : ∀ q ∈ l, longP q ≤ m
theorem Ref2.self {x : Pk} {m : Int} (hw : Wf x) (hr : rgtP x = true) (hm : longP x ≤ m) : Ref2 x m [x] :=
  ⟨Ref.self hw hr, fun q r e z hz => by simp at e; obtain ⟨-, rfl⟩ := e; simp at hz, fun q hq => by simp at hq; subst hq; exact hm⟩
theorem Ref2.trans {x : Pk} {m M : Int} {l : List Pk} (h : Ref2 x m l) (hb : Bytes x.o) (ls : List (Pk × List Pk)) (hl : ls.map Prod.fst = l) (hr : ∀ y ∈ ls, ∃ n, n ≤ M ∧ Ref2 y.1 n y.2) : Ref2 x M (ls.flatMap Prod.snd) := by
  refine ⟨h.ref.trans ls hl (fun y hy => by obtain ⟨n, -, h1⟩ := hr y hy; exact h1.ref), fun q r e z hz => ?_, fun q hq => ?_⟩
  · cases ls with
    | nil => simp at e
    | cons y t =>
      obtain ⟨n, -, h1⟩ := hr y (by simp)
      rw [List.flatMap_cons] at e
      cases hy2 : y.2 with
      | nil => exact absurd hy2 h1.ref.ne
      | cons a c =>
        rw [hy2] at e
        simp only [List.cons_append, List.cons.injEq] at e
        obtain ⟨rfl, rfl⟩ := e
        rcases List.mem_append.1 hz with hz | hz
        · rw [h1.tl a c hy2 z hz, (h.ref.hd y.1 (t.map Prod.fst) (by rw [← hl]; rfl)).1]
        · obtain ⟨y', hy', hz⟩ := List.mem_flatMap.1 hz
          obtain ⟨n', -, h2⟩ := hr y' (List.mem_cons_of_mem _ hy')
          have ho : y'.1.o = carryP x.o := h.tl y.1 (t.map Prod.fst) (by rw [← hl]; rfl) y'.1 (List.mem_map.2 ⟨y', hy', rfl⟩)
          cases hy3 : y'.2 with
          | nil => exact absurd hy3 h2.ref.ne
          | cons a' c' =>
            rw [hy3] at hz
            rcases List.mem_cons.1 hz with rfl | hz
            · rw [(h2.ref.hd _ _ hy3).1, ho]
            · rw [h2.tl a' c' hy3 z hz, ho, carry_twice hb]
  · obtain ⟨y, hy, hq⟩ := List.mem_flatMap.1 hq
    obtain ⟨n, hn, h1⟩ := hr y hy
    exact Int.le_trans (h1.fit q hq) hn
/-! What Recut tells. -/
theorem pcs_lat (p : Pk) (m : Int) (lat : Pk) : ∀ (k n : Nat), ∀ z ∈ pcsP p m lat k lat n, z.o = lat.o
  | 0, n, z, hz => by simp [pcsP] at hz
  | k + 1, n, z, hz => by
    rw [pcsP] at hz
    split at hz
    · rcases List.mem_cons.1 hz with rfl | hz
      · rfl
      · exact pcs_lat p m lat k _ z hz
    · simp at hz
theorem pcs_tl (p : Pk) (m : Int) (lat : Pk) (k : Nat) (f : Pk) (n : Nat) (q : Pk) (r : List Pk) (h : pcsP p m lat k f n = q :: r) : ∀ z ∈ r, z.o = lat.o := fun z hz => by
  cases k with
  | zero => simp [pcsP] at h
  | succ k =>
    rw [pcsP] at h
    split at h
    · simp only [List.cons.injEq] at h
      obtain ⟨-, rfl⟩ := h
      exact pcs_lat p m lat k _ z hz
    · simp at h
theorem lastM_o (b : Bool) : ∀ l : List Pk, (lastM b l).map (fun q => (q.o, topP q + q.d.length)) = l.map (fun q => (q.o, topP q + q.d.length))
  | [] => rfl
  | [q] => rfl
  | q :: r :: s => by
    have := lastM_o b (r :: s)
    simp only [lastM, List.map_cons] at this ⊢
    rw [this]
theorem part_fits (p : Pk) (m : Int) (lat : Pk) : ∀ (l : List Pk) (f : Pk) (n : Nat), partP p m lat f n l = true → ∀ q ∈ l, fitsP q m = true
  | [], f, n, h, q, hq => by simp at hq
  | a :: r, f, n, h, q, hq => by
    rw [partP] at h
    simp only [Bool.and_eq_true] at h
    rcases List.mem_cons.1 hq with rfl | hq
    · exact h.1.1.1
    · exact part_fits p m lat r lat _ h.2 q hq
theorem recut_ref2 {x : Pk} {m : Int} (hw : Wf x) (hr : rgtP x = true) (hv : x.v = 4) (hdf : x.df = false) (hm : mtuP m 4 = true) : ∃ l, recutP x m = (l, 0) ∧ Ref2 x m l := by
  obtain ⟨l, he, href⟩ := recut_ref hw hr hv hdf hm
  refine ⟨l, he, ?_⟩
  have hv6 : x.v ≠ 6 := by omega
  unfold recutP at he
  rw [if_pos ⟨hr, hm⟩] at he
  by_cases hl : longP x ≤ m
  · rw [if_pos hl] at he
    simp only [Prod.mk.injEq, and_true] at he
    subst he
    exact Ref2.self hw hr hl
  · rw [if_neg hl, if_neg (by rw [hdf]; simp; omega)] at he
    simp only [Prod.mk.injEq, and_true] at he
    have hu := un_right hr hv6
    have huw := un_wf hw
    have hm' : mtuP m (unP x).v = true := by show mtuP m x.v = true; rw [hv]; exact hm
    have hno : fitsP (unP x) m = false := by
      rw [Bool.eq_false_iff]
      intro h
      rw [fits_iff] at h
      rw [long_of hr] at hl
      exact hl h.2
    have hp : partP (unP x) m (latP (unP x) 0) (fstP (unP x) 0) 0 (cutL (unP x) m 0) = true := by
      have := is_cut hu huw (id := 0) (by omega) (by omega) hm' hno hdf
      obtain ⟨s, q, r, -, -, e, -⟩ := cut_two hu huw (id := 0) (by omega) (by omega) hm' hno
      unfold isP at this
      rw [e] at this ⊢
      simp only [Bool.and_eq_true] at this
      have h2 := this.2.2
      rw [show (plcP (fstP (unP x) 0) 0 ((unP x).d.take s) true).id = (fstP (unP x) 0).id from rfl, fst_id, lat_id] at h2
      exact h2
    have hmap : l.map (fun q => (q.o, topP q + q.d.length)) = (cutL (unP x) m 0).map (fun q => (q.o, topP q + q.d.length)) := by
      rw [← he]
      unfold recutL
      rw [lastM_o, List.map_map]
      rfl
    refine ⟨href, fun q r e z hz => ?_, fun q hq => ?_⟩
    · cases hC : cutL (unP x) m 0 with
      | nil => rw [e, hC] at hmap; simp at hmap
      | cons c C =>
        rw [e, hC] at hmap
        simp only [List.map_cons, List.cons.injEq] at hmap
        have h1 : (z.o, topP z + z.d.length) ∈ C.map (fun q => (q.o, topP q + q.d.length)) := by rw [← hmap.2]; exact List.mem_map.2 ⟨z, hz, rfl⟩
        obtain ⟨y, hy, hye⟩ := List.mem_map.1 h1
        simp only [Prod.mk.injEq] at hye
        rw [← hye.1]
        exact pcs_tl _ _ _ _ _ _ _ _ hC y hy
    · have h1 : (q.o, topP q + q.d.length) ∈ (cutL (unP x) m 0).map (fun q => (q.o, topP q + q.d.length)) := by rw [← hmap]; exact List.mem_map.2 ⟨q, hq, rfl⟩
      obtain ⟨y, hy, hye⟩ := List.mem_map.1 h1
      simp only [Prod.mk.injEq] at hye
      have h2 := (fits_iff y m).1 (part_fits _ _ _ _ _ _ hp y hy)
      rw [long_of (href.kin q hq).r, ← hye.2]
      exact h2.2
/-! Such pieces are what Is takes. -/
theorem Kin.eq {x q : Pk} (h : Kin x q) : q = { x with off := q.off, more := q.more, o := q.o, d := q.d } := by
  obtain ⟨v, tos, flow, sv, sb, dv, db, proto, ttl, id, df, more, frag, off, o, d⟩ := q
  obtain ⟨h1, h2, h3, h4, h5, h6, h7, h8, h9, h10, h11, h12, h13, h14⟩ := h
  simp only at h3 h4 h5 h6 h7 h8 h9 h10 h11 h12 h13 h14
  subst h3 h4 h5 h6 h7 h8 h9 h10 h11 h12 h13 h14
  rfl
theorem lastM_cons (b : Bool) (q : Pk) (r : List Pk) : ∃ c s, lastM b (q :: r) = c :: s := by
  cases r with
  | nil => exact ⟨_, _, rfl⟩
  | cons a c => exact ⟨_, _, rfl⟩
theorem part_of {x : Pk} {m : Int} (hw : Wf x) (hr : rgtP x = true) (hv : x.v = 4) : ∀ (L : List Pk) (o : List Int) (n : Nat), (∀ z ∈ L, Kin x z) → moresB x.more L → complL (x.off + n) L = true → datas L = x.d.drop n → n ≤ x.d.length →
    (∀ q r, L = q :: r → q.o = o ∧ ∀ z ∈ r, z.o = carryP x.o) → o.length ≤ x.o.length → (∀ z ∈ L, longP z ≤ m) → (0 < n ∨ 2 ≤ L.length) →
    partP (unP x) m { unP x with d := [], o := carryP x.o } { unP x with d := [], o := o } n (lastM false (L.map (shM x.off))) = true
  | [], o, n, hk, hm, hc, hd, hn, ho, hol, hf, h2 => hm.elim
  | z :: L, o, n, hk, hm, hc, hd, hn, ho, hol, hf, h2 => by
    have hv6 : x.v ≠ 6 := by omega
    have hz := hk z (by simp)
    have hzr := hz.r
    unfold rgtP at hzr
    rw [if_neg (by rw [hz.v]; exact hv6), right_iff] at hzr
    obtain ⟨hzf, hzv⟩ := hzr
    have hxr := hr
    unfold rgtP at hxr
    rw [if_neg hv6, right_iff] at hxr
    rw [complL, Bool.and_eq_true, decide_eq_true_eq] at hc
    have hdd : z.d ++ datas L = x.d.drop n := hd
    have hzo : z.o = o := (ho z L rfl).1
    have hzl : n + z.d.length ≤ x.d.length := by
      have := congrArg List.length hdd
      rw [List.length_append, List.length_drop] at this
      omega
    have hzd : z.d = (x.d.drop n).take z.d.length := by rw [← hdd, List.take_left']; rfl
    have h8 : n % 8 = 0 := by have h1 := hzf.o8; have h3 := hxr.1.o8; omega
    have hx0 := hxr.1.o0
    have hoff : z.off = x.off + n := hc.1
    have hreach := hzf.reach
    have hsh : ∀ b, ({ shM x.off z with more := b } : Pk) = plcP { unP x with d := [], o := o } n ((x.d.drop n).take z.d.length) b := fun b => by
      have e := hz.eq
      have hwr : wrap64 (z.off - x.off) = (n : Int) := by unfold wrap64; omega
      rw [← hzd]
      unfold shM
      rw [hwr]
      conv => lhs; rw [e]
      rw [← hzo]
      rfl
    have hpos : 0 < z.d.length := by
      rcases h2 with h2 | h2
      · have := hzf.f0 (by omega); omega
      · cases L with
        | nil => simp at h2
        | cons a c => have := hzf.m0 hm.1; omega
    have hkin : ∀ b, (b = true → z.d.length % 8 = 0) → fitsP (plcP { unP x with d := [], o := o } n ((x.d.drop n).take z.d.length) b) m = true := fun b hb => by
      have hl : ((x.d.drop n).take z.d.length).length = z.d.length := by rw [← hzd]
      have h1 := (pcX_kin (x := unP x) (un_wf hw) (un_right hr hv6).r hv6 (o := o) (by rw [← hzo]; exact hzv) (by rw [← hzo]; exact hz.wf.o) hol (n := n) (l := (x.d.drop n).take z.d.length) (b := b) ((hw.d.drop n).take _) (by omega) h8 (by rw [hl]; exact hzl) (fun h => by rw [hl]; exact hb h)).r
      have e : pcX (unP x) o n ((x.d.drop n).take z.d.length) b = plcP { unP x with d := [], o := o } n ((x.d.drop n).take z.d.length) b := by
        unfold pcX plcP
        rw [show (n : Int) + (unP x).off = (n : Int) from by show (n : Int) + 0 = _; omega]
      rw [e] at h1
      rw [fits_iff]
      refine ⟨h1, ?_⟩
      have h3 := hf z (by simp)
      rw [long_of hz.r] at h3
      have e1 : topP z = 20 + o.length := by unfold topP; rw [if_neg (by rw [hz.v]; exact hv6), hzo]
      have e2 : topP (plcP { unP x with d := [], o := o } n ((x.d.drop n).take z.d.length) b) = 20 + o.length := by unfold topP; exact if_neg hv6
      rw [e2]
      show ((20 + o.length + ((x.d.drop n).take z.d.length).length : Nat) : Int) ≤ m
      rw [hl, ← e1]; exact h3
    cases L with
    | nil =>
      have hml : ({ shM x.off z with more := false } : Pk) = moP false (shM x.off z) := rfl
      show partP _ _ _ _ _ [moP false (shM x.off z)] = true
      rw [← hml, hsh false, partP, partP]
      have hl : (plcP { unP x with d := [], o := o } n ((x.d.drop n).take z.d.length) false).d.length = z.d.length := by show ((x.d.drop n).take z.d.length).length = _; rw [← hzd]
      rw [hl, hkin false (by simp)]
      have hend : n + z.d.length = x.d.length := by
        have := congrArg List.length hdd
        rw [List.length_append, List.length_drop] at this
        simp only [datas, List.flatMap_nil, List.length_nil] at this
        omega
      have hend' : n + z.d.length = (unP x).d.length := hend
      simp only [List.isEmpty_nil, Bool.not_true, Bool.true_and, Bool.and_eq_true, decide_eq_true_eq]
      exact ⟨⟨by omega, rfl⟩, hend'⟩
    | cons a c =>
      obtain ⟨b', s', hbs⟩ := lastM_cons false (shM x.off a) (c.map (shM x.off))
      have hmt : z.more = true := hm.1
      have hsz : shM x.off z = plcP { unP x with d := [], o := o } n ((x.d.drop n).take z.d.length) true := by
        rw [← hsh true]
        unfold shM
        rw [← hmt]
      have ih := part_of (m := m) hw hr hv (a :: c) (carryP x.o) (n + z.d.length) (fun y hy => hk y (List.mem_cons_of_mem _ hy)) hm.2 (by
          have e : x.off + ((n + z.d.length : Nat) : Int) = z.off + (z.d.length : Int) := by omega
          rw [e]; exact hc.2) (by rw [← List.drop_drop, ← hdd, List.drop_left]) hzl (fun q r e => by
          have h4 := (ho z (a :: c) rfl).2
          rw [e] at h4
          exact ⟨h4 q (by simp), fun y hy => h4 y (List.mem_cons_of_mem _ hy)⟩) (carry_valid hw.o).2.1 (fun y hy => hf y (List.mem_cons_of_mem _ hy)) (.inl (by omega))
      show partP _ _ _ _ _ (shM x.off z :: lastM false (shM x.off a :: c.map (shM x.off))) = true
      have ih' : partP (unP x) m { unP x with d := [], o := carryP x.o } { unP x with d := [], o := carryP x.o } (n + z.d.length) (lastM false (shM x.off a :: c.map (shM x.off))) = true := ih
      rw [hbs] at ih' ⊢
      rw [hsz, partP]
      have hl : (plcP { unP x with d := [], o := o } n ((x.d.drop n).take z.d.length) true).d.length = z.d.length := by show ((x.d.drop n).take z.d.length).length = _; rw [← hzd]
      rw [hl, hkin true (fun _ => hzf.m8 hmt), ih']
      have hle : n + z.d.length ≤ (unP x).d.length := hzl
      simp only [List.isEmpty_cons, Bool.not_false, Bool.true_and, Bool.and_true, Bool.and_eq_true, decide_eq_true_eq]
      exact ⟨by omega, rfl⟩
theorem Ref2.is {x : Pk} {m : Int} {l : List Pk} (h : Ref2 x m l) (hw : Wf x) (hr : rgtP x = true) (hv : x.v = 4) (hdf : x.df = false) (hm : mtuP m 4 = true) : isR x m l = true := by
  have hv6 : x.v ≠ 6 := by omega
  rcases l with _ | ⟨q, _ | ⟨r, s⟩⟩
  · exact absurd rfl h.ref.ne
  · have hk := h.ref.kin q (by simp)
    have hq : q = x := by
      have e := hk.eq
      have h1 := h.ref.hd q [] rfl
      have h2 : q.more = x.more := h.ref.mo
      have h3 : q.d = x.d := by have := h.ref.da; simpa [datas] using this
      rw [h1.1, h1.2, h2, h3] at e
      exact e
    subst hq
    show (rgtP q && mtuP m 4 && (decide (longP q ≤ m) && dP q q)) = true
    rw [hr, hm]
    simp only [Bool.true_and, Bool.and_eq_true, decide_eq_true_eq, and_true]
    exact h.fit q (by simp)
  · show (rgtP x && mtuP m 4 && (decide (x.v = 4) && partR x m (q :: r :: s))) = true
    rw [hr, hm]
    simp only [Bool.true_and, Bool.and_eq_true, decide_eq_true_eq]
    refine ⟨hv, ?_⟩
    unfold partR
    rw [mores_last h.ref.mo]
    have hp := part_of (m := m) hw hr hv (q :: r :: s) x.o 0 h.ref.kin h.ref.mo (by have := h.ref.cm; simpa using this) (by rw [h.ref.da]; simp) (by omega) (fun a b e => ⟨(h.ref.hd a b e).1, h.tl a b e⟩) (Nat.le_refl _) h.fit (.inr (by simp))
    obtain ⟨b', s', hbs⟩ := lastM_cons false (shM x.off r) (s.map (shM x.off))
    have e1 : lastM false ((q :: r :: s).map (shM x.off)) = shM x.off q :: b' :: s' := by
      show shM x.off q :: lastM false (shM x.off r :: s.map (shM x.off)) = _
      rw [hbs]
    rw [e1] at hp ⊢
    have hid : ∀ i, fstP (unP x) i = { unP x with d := [], o := x.o } := fun i => by unfold fstP; exact if_neg hv6
    have hil : ∀ i, latP (unP x) i = { unP x with d := [], o := carryP x.o } := fun i => by
      unfold latP
      rw [hid]; rfl
    show (decide (x.more = x.more) && (uncutP (unP x) && mtuP m (unP x).v && (!(unP x).df && partP (unP x) m (latP (unP x) (shM x.off q).id) (fstP (unP x) (shM x.off q).id) 0 (shM x.off q :: b' :: s')))) = true
    rw [hid, hil, hp, (uncut_iff _).2 (un_right hr hv6), show mtuP m (unP x).v = true from by show mtuP m x.v = true; rw [hv]; exact hm, show (unP x).df = false from hdf]
    simp
theorem is_67 {x : Pk} {l : List Pk} (h : l.length ≠ 1) : isR x 67 l = false := by
  rcases l with _ | ⟨q, _ | ⟨r, s⟩⟩
  · rfl
  · simp at h
  · show (rgtP x && mtuP 67 4 && (decide (x.v = 4) && partR x 67 (q :: r :: s))) = false
    rw [show mtuP 67 4 = false from by decide]
    simp
end R
#print axioms R.Ref2.is
end Go.Proofs.YtaicckenpplceaaDoor
