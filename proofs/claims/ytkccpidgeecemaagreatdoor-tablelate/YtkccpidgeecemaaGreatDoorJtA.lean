/-
  An entry that was fed with pieces of one packet: what it holds, what it tells. Plain data.
-/
import Derived.Test.YtkccpidgeecemaaGreatDoorHdA
namespace Go.Proofs.YtkccpidgeecemaaGreatDoor
open Go.ChangeShapes Go.WideShapes Go.ChangeAt Go.RowKit Num
set_option linter.unusedVariables false
set_option maxHeartbeats 4000000
set_option maxRecDepth 100000
namespace R
structure Kin (x y : Pk) : Prop where
  v : y.v = x.v
  sv : y.sv = x.sv
  sb : y.sb = x.sb
  dv : y.dv = x.dv
  db : y.db = x.db
  proto : y.proto = x.proto
  id : y.id = x.id
  wf : Wf y
  r : rgt2 y = true
structure Frg (x y : Pk) : Prop where
  kin : Kin x y
  o0 : 0 ≤ y.off
  en : y.off + (y.d.length : Int) ≤ x.d.length
  da : ∀ i : Nat, i < y.d.length → y.d[i]? = x.d[y.off.toNat + i]?
  la : y.more = false → y.off + (y.d.length : Int) = x.d.length
structure Jn (x : Pk) (s : Es) (T : Int → Bool) (Y : Nat → Int) : Prop where
  hd : Hd s T Y
  of : ∀ n : Nat, T n = true → n < x.d.length ∧ x.d[n]? = some (Y n)
  lo : ∀ n : Int, T n = true → 0 ≤ n
  en : s.e = -1 ∨ s.e = x.d.length
theorem Jn.ok {x y : Pk} {s : Es} {T : Int → Bool} {Y : Nat → Int} (h : Jn x s T Y) (hy : Frg x y) : ¬ Other T Y y ∧ ¬ BadE s T y := by
  refine ⟨fun ⟨i, h1, h2, h3⟩ => ?_, fun hb => ?_⟩
  · have e : y.off + (i : Int) = ((y.off.toNat + i : Nat) : Int) := by have := hy.o0; omega
    rw [e] at h2
    exact h3 (by rw [hy.da i h1]; exact (h.of _ h2).2)
  · have h1 := h.en
    rcases hb with ⟨b1, b2, b3⟩ | ⟨b1, b2⟩
    · have := hy.en
      unfold endP at b3
      omega
    · have hl := hy.la b1
      unfold endP at b2
      rcases b2 with ⟨n, c1, c2⟩ | ⟨c1, c2⟩
      · have h0 := h.lo n c2
        have e : n = ((n.toNat : Nat) : Int) := by omega
        rw [e] at c2
        have := (h.of _ c2).1
        omega
      · omega
theorem Jn.put {x y : Pk} {s : Es} {T : Int → Bool} {Y : Nat → Int} (h : Jn x s T Y) (hy : Frg x y) (hq : Plc y) (ho : y.o.length ≤ 40) (hx : x.d.length ≤ 4000) (h4 : (takeS s y).1 ≠ 4) : Jn x (takeS s y).2 (TT T y) (YY Y y) := by
  have h0 := hy.o0; have h1 := hy.en
  refine ⟨take_hd h.hd hq hy.kin.wf ho (by omega) h4, fun n hn => ?_, fun n hn => ?_, ?_⟩
  · unfold TT at hn
    rw [Bool.or_eq_true] at hn
    by_cases hi : H.inS (y.off, y.off + y.d.length) n = true
    · have hi2 := H.inS_iff.1 hi
      simp only at hi2
      refine ⟨by omega, ?_⟩
      have e := hy.da (n - y.off.toNat) (by omega)
      have e2 := yy_in (Y := Y) hq (i := n - y.off.toNat) (by omega)
      rw [show y.off.toNat + (n - y.off.toNat) = n by omega] at e e2
      rw [← e, e2]
    · rcases hn with hn | hn
      · have := h.of n hn
        rw [yy_out (by simpa using hi)]
        exact this
      · exact absurd hn hi
  · unfold TT at hn
    rw [Bool.or_eq_true] at hn
    rcases hn with hn | hn
    · exact h.lo n hn
    · have hi2 := H.inS_iff.1 hn
      simp only at hi2
      omega
  · rw [(take_me h4).2]
    unfold H.putE
    split
    · exact h.en
    · rename_i hm
      exact .inr (hy.la (by simpa using hm))
theorem Jn.four {x y : Pk} {s : Es} {T : Int → Bool} {Y : Nat → Int} (h : Jn x s T Y) (hy : Frg x y) (hq : Plc y) (ho : y.o.length ≤ 40) (hx : x.d.length ≤ 4000) (hv : x.v = 4) :
    (takeS s y).1 ≠ 4 ∧ (Again s T y → (takeS s y).1 = 3) ∧ (¬ Again s T y → (takeS s y).1 = progN (takeS s y).2) := by
  have hk := h.ok hy
  have h1 := hy.en
  have hyv : y.v ≠ 6 := by rw [hy.kin.v, hv]; omega
  obtain ⟨a, b, c, d⟩ := hold_good h.hd hq hy.kin.wf ho (by omega) hk.1 hk.2 (fun e => absurd e hyv)
  refine ⟨a, c hyv, fun hn => ?_⟩
  rcases d with d | d
  · exact absurd (b d) hn
  · exact d
theorem Jn.done {x : Pk} {s : Es} {T : Int → Bool} {Y : Nat → Int} (h : Jn x s T Y) : doneB s = true ↔ (s.e ≠ -1 ∧ ∀ n : Nat, n < x.d.length → T n = true) := by
  rw [done_full h.hd]
  unfold Full
  have he := h.en
  constructor
  · rintro ⟨h1, h2⟩
    exact ⟨h1, fun n hn => h2 n (by omega) (by omega)⟩
  · rintro ⟨h1, h2⟩
    refine ⟨h1, fun n h3 h4 => ?_⟩
    have e : n = ((n.toNat : Nat) : Int) := by omega
    rw [e]; exact h2 _ (by omega)
theorem Jn.whole {x : Pk} {s : Es} {T : Int → Bool} {Y : Nat → Int} (h : Jn x s T Y) (hd : doneB s = true) : s.d.take s.e.toNat = x.d := by
  have hf := (done_full h.hd).1 hd
  have he := h.en
  have hc := h.done.1 hd
  rw [whole_byt h.hd hf]
  have e1 : s.e.toNat = x.d.length := by have := hc.1; omega
  rw [e1]
  apply List.ext_getElem?
  intro i
  by_cases hi : i < x.d.length
  · rw [List.getElem?_map, List.getElem?_range hi, (h.of i (hc.2 i hi)).2]; rfl
  · rw [List.getElem?_eq_none (by simp; omega), List.getElem?_eq_none (by omega)]
theorem Jn.six_again {x y : Pk} {s : Es} {T : Int → Bool} {Y : Nat → Int} (h : Jn x s T Y) (hy : Frg x y) (hq : Plc y) (hv : y.v = 6) (hps : s.ps y.off = (endP y, y.more)) :
    (takeS s y).1 = 3 ∧ (takeS s y).2.ps = s.ps ∧ Again s T y := by
  have hk := h.ok hy
  have hok := (putOk_iff h.hd hq).2 hk.2
  obtain ⟨b1, b2, b3, b4, b5, b6, b7, b8⟩ := beg_eq (listS s y) y
  have hps2 : (begS (listS s y) y).ps = s.ps := b5
  have hdd : (begS (listS s y) y).d = s.d := b3
  have h0 := hq.o0
  have h1 := hq.n1
  have hall : All T y := fun i hi => h.hd.iv.pt y.off (y.off + i) h0 (by omega) (by rw [hps]; unfold endP; simp only; omega)
  have hn : ¬ None' T y := fun hc => by
    have a := hall 0 (by omega)
    rw [hc 0 (by omega)] at a; simp at a
  have hlen : y.off.toNat + y.d.length ≤ s.d.length := by
    have := h.hd.iv.ps y.off
    rw [hps] at this
    unfold endP at this
    simp only at this
    omega
  have hag : agrP (begS (listS s y) y) y = true := by
    unfold agrP
    rw [decide_eq_true_eq, hdd, take_drop_iff hlen]
    intro i hi
    have ht := hall i hi
    rw [show y.off + (i : Int) = ((y.off.toNat + i : Nat) : Int) from by omega] at ht
    rw [h.hd.byt _ ht, hy.da i hi, (h.of _ ht).2]
  have hagain : Again s T y := ⟨hall, by
    cases hm : y.more with
    | true => exact .inl rfl
    | false => exact .inr (h.hd.pe y.off (by rw [hps]; unfold endP; simp only; omega) (by rw [hps]; exact hm))⟩
  have hfa := fresh_all h.hd.iv.ho hok hq
  unfold takeS
  rw [if_neg (by rw [hok]; simp), if_pos hv]
  unfold take6
  rw [if_neg (fun hc => hn (hfa.1 hc)), if_pos ⟨by rw [hps2]; exact hps, hag⟩]
  exact ⟨rfl, hps2, hagain⟩
def Whl6 (c : List Pk) (s : Es) (T : Int → Bool) : Prop := ∀ y ∈ c, None' T y ∨ s.ps y.off = (endP y, y.more)
structure Pcx (x : Pk) (c : List Pk) : Prop where
  frg : ∀ y ∈ c, Frg x y
  ap : ∀ a ∈ c, ∀ b ∈ c, a = b ∨ a.off + (a.d.length : Int) ≤ b.off ∨ b.off + (b.d.length : Int) ≤ a.off
  fr : ∀ y ∈ c, (decide (0 < y.off) || y.more) = true
theorem Jn.six {x : Pk} {c : List Pk} {s : Es} {T : Int → Bool} {Y : Nat → Int} (h : Jn x s T Y) (hc : Pcx x c) (hpl : ∀ y ∈ c, Plc y) (hw : Whl6 c s T) (hv : x.v = 6) {y : Pk} (hy : y ∈ c) :
    (takeS s y).1 ≠ 4 ∧ (Again s T y → (takeS s y).1 = 3) ∧ (¬ Again s T y → (takeS s y).1 = progN (takeS s y).2) ∧ Whl6 c (takeS s y).2 (TT T y) := by
  have hf := hc.frg y hy
  have hq := hpl y hy
  have hyv : y.v = 6 := hf.kin.v.trans hv
  have hok := (putOk_iff h.hd hq).2 (h.ok hf).2
  have hap := fun z hz => hc.ap z hz y hy
  rcases hw y hy with hn | hps
  · obtain ⟨t1, -, t3⟩ := (take_six h.hd hq hyv hok).1 hn
    have hp := prog_or (takeS s y).2
    refine ⟨by omega, fun ha => ?_, fun _ => t1, fun z hz => ?_⟩
    · have a := ha.1 0 (by have := hq.n1; omega)
      rw [hn 0 (by have := hq.n1; omega)] at a; simp at a
    · rw [t3]
      have hqz := hpl z hz
      rcases hap z hz with rfl | hd
      · right; simp
      · have hne : z.off ≠ y.off := by have := hq.n1; have := hqz.n1; omega
        rcases hw z hz with h1 | h1
        · left
          intro i hi
          unfold TT
          rw [h1 i hi, Bool.false_or, Bool.eq_false_iff]
          intro e
          have := H.inS_iff.1 e
          simp only at this
          omega
        · right
          simp only [if_neg hne]; exact h1
  · obtain ⟨t1, t2, t3⟩ := h.six_again hf hq hyv hps
    refine ⟨by omega, fun _ => t1, fun hn => absurd t3 hn, fun z hz => ?_⟩
    rw [t2]
    have hqz := hpl z hz
    rcases hap z hz with rfl | hd
    · exact .inr hps
    · rcases hw z hz with h1 | h1
      · left
        intro i hi
        unfold TT
        rw [h1 i hi, Bool.false_or, Bool.eq_false_iff]
        intro e
        have := H.inS_iff.1 e
        simp only at this
        omega
      · exact .inr h1
theorem key_of {x y z : Pk} (h : Kin x y) (k : Kin x z) : kyB y z = true := by
  unfold kyB
  rw [h.v, k.v, h.sv, k.sv, h.sb, k.sb, h.dv, k.dv, h.db, k.db, h.proto, k.proto, h.id, k.id]
  simp
structure Jx (x : Pk) (c : List Pk) (z : Pk) (s : Es) (T : Int → Bool) (Y : Nat → Int) : Prop where
  jn : Jn x s T Y
  six : x.v = 6 → Whl6 c s T
  ky : s.k = z
theorem Jx.put {x z : Pk} {c : List Pk} {s : Es} {T : Int → Bool} {Y : Nat → Int} (h : Jx x c z s T Y) (hv : x.v = 4 ∨ x.v = 6) (hx : x.d.length ≤ 4000) (hz : Kin x z) (hc : Pcx x c) {y : Pk} (hy : y ∈ c) :
    (Again s T y → (putS s y).1 = 3) ∧ (¬ Again s T y → (putS s y).1 = progN (putS s y).2) ∧ Jx x c z (putS s y).2 (TT T y) (YY Y y) ∧ Frg x y ∧ Plc y := by
  have hf := hc.frg y hy
  have hr2 := hf.kin.r
  have hq := plc_of hr2 (hc.fr y hy)
  have ho := opt_of hr2
  have how : ownB s y = true := by
    unfold ownB
    rw [h.ky, key_of hf.kin hz, hc.fr y hy, hr2]; rfl
  have htk := take_bad s y
  have key : (takeS s y).1 ≠ 4 ∧ (Again s T y → (takeS s y).1 = 3) ∧ (¬ Again s T y → (takeS s y).1 = progN (takeS s y).2) ∧ (x.v = 6 → Whl6 c (takeS s y).2 (TT T y)) := by
    rcases hv with hv | hv
    · obtain ⟨a, b, d⟩ := h.jn.four hf hq ho hx hv
      exact ⟨a, b, d, fun e => by omega⟩
    · have hpl : ∀ u ∈ c, Plc u := fun u hu => plc_of (hc.frg u hu).kin.r (hc.fr u hu)
      obtain ⟨a, b, d, e⟩ := h.jn.six hc hpl (h.six hv) hv hy
      exact ⟨a, b, d, fun _ => e⟩
  have hput : putS s y = takeS s y := by
    unfold putS
    rw [if_neg (by rw [how]; simp), if_neg (by rw [h.jn.hd.ok]; simp), if_neg key.1]
  rw [hput]
  exact ⟨key.2.1, key.2.2.1, ⟨h.jn.put hf hq ho hx key.1, key.2.2.2, htk.2.1.trans h.ky⟩, hf, hq⟩
end R
set_option linter.unusedSimpArgs false
namespace R
theorem take_f {s : Es} {p : Pk} (h : (takeS s p).1 ≠ 4) : (takeS s p).2.f = (begS s p).f ∧ (takeS s p).2.fl = (begS s p).fl := by
  have hb : (begS (listS s p) p).f = (begS s p).f ∧ (begS (listS s p) p).fl = (begS s p).fl := by
    unfold begS listS
    split <;> exact ⟨rfl, rfl⟩
  unfold takeS at h ⊢
  split at h
  · simp at h
  · rename_i h1
    rw [if_neg h1]
    split
    · rename_i hv
      rw [if_pos hv] at h
      unfold take6 at h ⊢
      split
      · exact hb
      · rename_i h2
        rw [if_neg h2] at h
        split
        · exact hb
        · rename_i h3
          rw [if_neg h3] at h
          simp at h
    · rename_i hv
      rw [if_neg hv] at h
      unfold take4 at h ⊢
      split
      · exact hb
      · split
        · exact hb
        · split <;> exact hb
structure Fed (x z : Pk) (c D : List Pk) (s : Es) (T : Int → Bool) (Y : Nat → Int) : Prop where
  jx : Jx x c z s T Y
  sub : ∀ y ∈ D, y ∈ c
  cov : ∀ n : Int, T n = true ↔ ∃ y ∈ D, y.off ≤ n ∧ n < y.off + (y.d.length : Int)
  fst : ∀ y ∈ D, y.off = 0 → s.fl = y.d.length ∧ s.f = { y with d := [] }
  nof : (∀ y ∈ D, y.off ≠ 0) → s.fl = 0
  en : s.e ≠ -1 ↔ ∃ y ∈ D, y.more = false
theorem fed_new {x z : Pk} {c : List Pk} (t : Int) (hz : Kin x z) (Y : Nat → Int) : Fed x z c [] (newS z t) (fun _ => false) Y :=
  ⟨⟨⟨hd_new z t Y, by simp, by simp, .inl rfl⟩, fun _ y _ => .inl (fun i _ => rfl), rfl⟩, by simp, by simp, by simp, fun _ => rfl, by simp [newS]⟩
theorem Fed.put {x z : Pk} {c D : List Pk} {s : Es} {T : Int → Bool} {Y : Nat → Int} (h : Fed x z c D s T Y) (hv : x.v = 4 ∨ x.v = 6) (hx : x.d.length ≤ 4000) (hz : Kin x z) (hc : Pcx x c) {y : Pk} (hy : y ∈ c) :
    ((putS s y).1 = 3 ∨ (putS s y).1 = progN (putS s y).2) ∧ Fed x z c (y :: D) (putS s y).2 (TT T y) (YY Y y) := by
  obtain ⟨h1, h2, h3, hf, hq⟩ := h.jx.put hv hx hz hc hy
  have hbad := h.jx.jn.hd.ok
  have how : ownB s y = true := by
    unfold ownB
    rw [h.jx.ky, key_of hf.kin hz, hc.fr y hy, hf.kin.r]; rfl
  have h4 : (takeS s y).1 ≠ 4 ∧ putS s y = takeS s y := by
    by_cases e : (takeS s y).1 = 4
    · exfalso
      have : (putS s y).1 = 4 := by
        unfold putS
        rw [if_neg (by rw [how]; simp), if_neg (by rw [hbad]; simp), if_pos e]
      by_cases ha : Again s T y
      · have := h1 ha; omega
      · have h5 := h2 ha
        have := prog_or (putS s y).2
        omega
    · refine ⟨e, ?_⟩
      unfold putS
      rw [if_neg (by rw [how]; simp), if_neg (by rw [hbad]; simp), if_neg e]
  have h0 := hq.o0; have hn1 := hq.n1
  refine ⟨?_, h3, fun u hu => ?_, fun n => ?_, fun u hu h5 => ?_, fun h5 => ?_, ?_⟩
  · by_cases ha : Again s T y
    · exact .inl (h1 ha)
    · exact .inr (h2 ha)
  · rcases List.mem_cons.1 hu with rfl | hu
    · exact hy
    · exact h.sub u hu
  · unfold TT
    rw [Bool.or_eq_true, h.cov, H.inS_iff]
    constructor
    · rintro (⟨u, hu, h5⟩ | h5)
      · exact ⟨u, List.mem_cons_of_mem _ hu, h5⟩
      · exact ⟨y, List.mem_cons_self .., h5⟩
    · rintro ⟨u, hu, h5⟩
      rcases List.mem_cons.1 hu with rfl | hu
      · exact .inr h5
      · exact .inl ⟨u, hu, h5⟩
  · rw [h4.2]
    obtain ⟨f1, f2⟩ := take_f h4.1
    rw [f1, f2]
    -- of two pieces at 0 there is one alone
    have one : ∀ a ∈ c, ∀ b ∈ c, a.off = 0 → b.off = 0 → a = b := fun a ha b hb ea eb => by
      have hqa := plc_of (hc.frg a ha).kin.r (hc.fr a ha)
      have hqb := plc_of (hc.frg b hb).kin.r (hc.fr b hb)
      have := hqa.n1; have := hqb.n1
      rcases hc.ap a ha b hb with e | e | e
      · exact e
      · omega
      · omega
    unfold begS
    by_cases hD : ∃ w ∈ D, w.off = 0
    · obtain ⟨w, hw, hw0⟩ := hD
      have hfl := h.fst w hw hw0
      have hqw := plc_of (hc.frg w (h.sub w hw)).kin.r (hc.fr w (h.sub w hw))
      have := hqw.n1
      rw [if_pos (.inr (by rw [hfl.1]; omega))]
      have huc : u ∈ c := by
        rcases List.mem_cons.1 hu with rfl | hu
        · exact hy
        · exact h.sub u hu
      have := one u huc w (h.sub w hw) h5 hw0
      subst this
      exact hfl
    · have hn : ∀ w ∈ D, w.off ≠ 0 := fun w hw e => hD ⟨w, hw, e⟩
      have hfl := h.nof hn
      rcases List.mem_cons.1 hu with rfl | hu
      · rw [if_neg (by rw [hfl]; omega)]
        exact ⟨rfl, rfl⟩
      · exact absurd h5 (hn u hu)
  · rw [h4.2, (take_f h4.1).2]
    have hy0 := h5 y (List.mem_cons_self ..)
    have hfl := h.nof (fun u hu => h5 u (List.mem_cons_of_mem _ hu))
    unfold begS
    rw [if_pos (.inl (by omega))]
    exact hfl
  · rw [h4.2, (take_me h4.1).2]
    have hle := h.jx.jn.en
    unfold H.putE
    constructor
    · intro hne
      by_cases hm : y.more = true
      · rw [if_pos hm] at hne
        obtain ⟨u, hu, h6⟩ := h.en.1 hne
        exact ⟨u, List.mem_cons_of_mem _ hu, h6⟩
      · exact ⟨y, List.mem_cons_self .., by simpa using hm⟩
    · rintro ⟨u, hu, h6⟩
      by_cases hm : y.more = true
      · rw [if_pos hm]
        rcases List.mem_cons.1 hu with rfl | hu
        · rw [hm] at h6; simp at h6
        · exact h.en.2 ⟨u, hu, h6⟩
      · rw [if_neg hm]; omega
theorem Fed.less {x z : Pk} {c D : List Pk} {s : Es} {T : Int → Bool} {Y : Nat → Int} (h : Fed x z c D s T Y) (hc : Pcx x c) {y : Pk} (hy : y ∈ c) (hn : y ∉ D) : doneB s = false := by
  rw [Bool.eq_false_iff]
  intro hd
  have h1 := (h.jx.jn.done.1 hd).2
  have hf := hc.frg y hy
  have hq := plc_of hf.kin.r (hc.fr y hy)
  have a1 := hq.n1; have a2 := hf.en; have a3 := hq.o0
  have h2 := h1 y.off.toNat (by omega)
  rw [show ((y.off.toNat : Nat) : Int) = y.off from by omega, h.cov] at h2
  obtain ⟨u, hu, h3, h4⟩ := h2
  rcases hc.ap u (h.sub u hu) y hy with e | e | e
  · exact hn (e ▸ hu)
  · omega
  · have hqu := plc_of (hc.frg u (h.sub u hu)).kin.r (hc.fr u (h.sub u hu))
    have := hqu.n1
    omega
theorem Fed.first {x z : Pk} {c D : List Pk} {s : Es} {T : Int → Bool} {Y : Nat → Int} (h : Fed x z c D s T Y) (hc : Pcx x c) {y : Pk} (hy : y ∈ D) (h0 : y.off = 0) : firstP s = (y, true) := by
  obtain ⟨h1, h2⟩ := h.fst y hy h0
  have hyc := h.sub y hy
  have hf := hc.frg y hyc
  have hq := plc_of hf.kin.r (hc.fr y hyc)
  have a1 := hq.n1
  unfold firstP
  rw [if_neg (by rw [h1]; omega)]
  have hd : s.d.take s.fl = y.d := by
    rw [h1]
    apply List.ext_getElem?
    intro i
    by_cases hi : i < y.d.length
    · have ht : T i = true := (h.cov i).2 ⟨y, hy, by omega, by omega⟩
      have e1 := h.jx.jn.hd.byt i ht
      have e2 := (h.jx.jn.of i ht).2
      have e3 := hf.da i hi
      rw [List.getElem?_take, if_pos hi, e1, e3, ← e2]
      congr 1
      omega
    · rw [List.getElem?_eq_none (by rw [List.length_take]; omega), List.getElem?_eq_none (by omega)]
  unfold filledP
  rw [hd, h2]
theorem Fed.nofirst {x z : Pk} {c D : List Pk} {s : Es} {T : Int → Bool} {Y : Nat → Int} (h : Fed x z c D s T Y) (hn : ∀ y ∈ D, y.off ≠ 0) : firstP s = (zeroPk, false) := by
  unfold firstP
  rw [if_pos (h.nof hn)]
theorem Fed.bad {x z : Pk} {c D : List Pk} {s : Es} {T : Int → Bool} {Y : Nat → Int} (h : Fed x z c D s T Y) (hx : x.d.length ≤ 4000) (hz : Kin x z) (hc : Pcx x c) {y b : Pk} (hy : y ∈ D) (hb : b = { y with d := b.d }) (hl : b.d.length = y.d.length) (hw : Wf b) (hr : rgt2 b = true) (hd : b.d[0]? ≠ y.d[0]?) : putS s b = (4, poisS s) := by
  have hyc := h.sub y hy
  have hf := hc.frg y hyc
  have hq := plc_of hf.kin.r (hc.fr y hyc)
  have e1 : b.off = y.off := by rw [hb]
  have e2 : b.more = y.more := by rw [hb]
  have hfr : (decide (0 < b.off) || b.more) = true := by rw [e1, e2]; exact hc.fr y hyc
  have hqb := plc_of hr hfr
  have hky : kyB b s.k = true := by
    rw [h.jx.ky]
    have : kyB b z = kyB y z := by rw [hb]; rfl
    rw [this]
    exact key_of hf.kin hz
  have how : ownB s b = true := by
    unfold ownB
    rw [hky, hfr, hr]; rfl
  have a1 := hq.n1; have a2 := hf.en; have a3 := hq.o0
  have h4 : (takeS s b).1 = 4 := by
    refine hold_bad h.jx.jn.hd hqb hw (opt_of hr) (by rw [e1, hl]; omega) (.inl ⟨0, by omega, ?_, fun e => hd ?_⟩)
    · rw [e1]
      exact (h.cov _).2 ⟨y, hy, by omega, by omega⟩
    · rw [e, hf.da 0 (by omega)]
      have ht : T ((y.off.toNat : Nat) : Int) = true := (h.cov _).2 ⟨y, hy, by omega, by omega⟩
      have := (h.jx.jn.of _ ht).2
      rw [e1, Nat.add_zero, this]
  unfold putS
  rw [if_neg (by rw [how]; simp), if_neg (by rw [h.jx.jn.hd.ok]; simp), if_pos h4]
end R
end Go.Proofs.YtkccpidgeecemaaGreatDoor
