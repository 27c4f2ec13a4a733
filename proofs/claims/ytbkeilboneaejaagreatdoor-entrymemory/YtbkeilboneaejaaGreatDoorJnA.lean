/-
  EntryJoins' book of places in memory, and what the loop keeps.
-/
import Derived.Test.YtbkeilboneaejaaGreatDoorRfA
import Derived.Test.YtbkeilboneaejaaGreatDoorHdA
import Derived.Test.YtbkeilboneaejaaGreatDoorEPut
import Derived.Test.YtbkeilboneaejaaGreatDoorPcA
import Derived.Test.YtbkeilboneaejaaGreatDoorKitA
namespace Go.Proofs.YtbkeilboneaejaaGreatDoor
open Go.ChangeShapes Go.WideShapes Go.ChangeAt Go.RowKit Num
set_option linter.unusedVariables false
set_option maxHeartbeats 4000000
set_option maxRecDepth 100000

namespace R
theorem ref_frag : ∀ (l : List Pk) (e : Int) (b : Bool), moresB b l → complL e l = true → ∀ y ∈ l, e ≤ y.off ∧ y.off + (y.d.length : Int) ≤ e + ((datas l).length : Int) ∧ y.d = ((datas l).drop (y.off - e).toNat).take y.d.length ∧ (y.more = false → b = false ∧ y.off + (y.d.length : Int) = e + ((datas l).length : Int))
  | [], e, b, hm, hc => hm.elim
  | q :: r, e, b, hm, hc => by
    rw [complL, Bool.and_eq_true, decide_eq_true_eq] at hc
    obtain ⟨h1, h2⟩ := hc
    have hd : datas (q :: r) = q.d ++ datas r := rfl
    intro y hy
    rw [hd, List.length_append]
    rcases List.mem_cons.1 hy with rfl | hy
    · refine ⟨by omega, by push_cast; omega, ?_, fun hm0 => ?_⟩
      · rw [show (y.off - e).toNat = 0 by omega, List.drop_zero, List.take_left']
        rfl
      · cases r with
        | nil =>
          have : y.more = b := hm
          exact ⟨by rw [← this, hm0], by simp [datas]; omega⟩
        | cons a c => rw [hm.1] at hm0; simp at hm0
    · cases r with
      | nil => simp at hy
      | cons a c =>
        obtain ⟨i1, i2, i3, i4⟩ := ref_frag (a :: c) _ b hm.2 h2 y hy
        generalize datas (a :: c) = D at i2 i3 i4 ⊢
        refine ⟨by omega, by push_cast; omega, ?_, fun hm0 => ?_⟩
        · rw [show (y.off - e).toNat = q.d.length + (y.off - (q.off + (q.d.length : Int))).toNat by omega, ← List.drop_drop, List.drop_left']
          · exact i3
          · rfl
        · obtain ⟨j1, j2⟩ := i4 hm0
          exact ⟨j1, by push_cast; omega⟩
/-- A piece of x. -/
structure Frg (x y : Pk) : Prop where
  kin : Kin x y
  o0 : 0 ≤ y.off
  en : y.off + (y.d.length : Int) ≤ x.d.length
  da : ∀ i : Nat, i < y.d.length → y.d[i]? = x.d[y.off.toNat + i]?
  la : y.more = false → y.off + (y.d.length : Int) = x.d.length
theorem Ref.frg {x : Pk} {l : List Pk} (h : Ref x l) (ho : x.off = 0) {y : Pk} (hy : y ∈ l) : Frg x y := by
  obtain ⟨i1, i2, i3, i4⟩ := ref_frag l x.off x.more h.mo h.cm y hy
  rw [h.da, ho] at i2 i3 i4
  rw [ho] at i1
  refine ⟨h.kin y hy, i1, by omega, fun i hi => ?_, fun hm => by have := (i4 hm).2; omega⟩
  have e := congrArg (fun l : List Int => l[i]?) i3
  simp only [List.getElem?_take, if_pos hi, List.getElem?_drop] at e
  rw [e]
  congr 1
  omega
/-- What an entry holds of x alone. -/
structure Jn (x : Pk) (s : Es) (T : Int → Bool) (Y : Nat → Int) : Prop where
  hd : Hd s T Y
  of : ∀ n : Nat, T n = true → n < x.d.length ∧ x.d[n]? = some (Y n)
  lo : ∀ n : Int, T n = true → 0 ≤ n
  en : s.e = -1 ∨ s.e = x.d.length
theorem Jn.ok {x y : Pk} {s : Es} {T : Int → Bool} {Y : Nat → Int} (h : Jn x s T Y) (hy : Frg x y) : ¬ Other T Y y ∧ ¬ BadE s T y := by
  refine ⟨fun ⟨i, h1, h2, h3⟩ => ?_, fun hb => ?_⟩
  · have e : y.off + (i : Int) = ((y.off.toNat + i : Nat) : Int) := by have := hy.o0; omega
    rw [e] at h2
    exact h3 (by rw [hy.da i h1]; exact (h.of _ h2).2)
  · have h1 := h.en
    rcases hb with ⟨b1, b2, b3⟩ | ⟨b1, b2⟩
    · have := hy.en
      unfold endP at b3
      omega
    · have hl := hy.la b1
      unfold endP at b2
      rcases b2 with ⟨n, c1, c2⟩ | ⟨c1, c2⟩
      · have h0 := h.lo n c2
        have e : n = ((n.toNat : Nat) : Int) := by omega
        rw [e] at c2
        have := (h.of _ c2).1
        omega
      · omega
theorem Jn.put {x y : Pk} {s : Es} {T : Int → Bool} {Y : Nat → Int} (h : Jn x s T Y) (hy : Frg x y) (hq : Plc y) (ho : y.o.length ≤ 40) (hx : x.d.length ≤ 3000) (h4 : (takeS s y).1 ≠ 4) : Jn x (takeS s y).2 (TT T y) (YY Y y) := by
  have h0 := hy.o0; have h1 := hy.en
  refine ⟨take_hd h.hd hq hy.kin.wf ho (by omega) h4, fun n hn => ?_, fun n hn => ?_, ?_⟩
  · unfold TT at hn
    rw [Bool.or_eq_true] at hn
    by_cases hi : H.inS (y.off, y.off + y.d.length) n = true
    · have hi2 := H.inS_iff.1 hi
      simp only at hi2
      refine ⟨by omega, ?_⟩
      have e := hy.da (n - y.off.toNat) (by omega)
      have e2 := yy_in (Y := Y) hq (i := n - y.off.toNat) (by omega)
      rw [show y.off.toNat + (n - y.off.toNat) = n by omega] at e e2
      rw [← e, e2]
    · rcases hn with hn | hn
      · have := h.of n hn
        rw [yy_out (by simpa using hi)]
        exact this
      · exact absurd hn hi
  · unfold TT at hn
    rw [Bool.or_eq_true] at hn
    rcases hn with hn | hn
    · exact h.lo n hn
    · have hi2 := H.inS_iff.1 hn
      simp only at hi2
      omega
  · rw [(take_me h4).2]
    unfold H.putE
    split
    · exact h.en
    · rename_i hm
      exact .inr (hy.la (by simpa using hm))
/-- What Put answers, of version 4. -/
theorem Jn.four {x y : Pk} {s : Es} {T : Int → Bool} {Y : Nat → Int} (h : Jn x s T Y) (hy : Frg x y) (hq : Plc y) (ho : y.o.length ≤ 40) (hx : x.d.length ≤ 3000) (hv : x.v = 4) :
    (takeS s y).1 ≠ 4 ∧ (Again s T y → (takeS s y).1 = 3) ∧ (¬ Again s T y → (takeS s y).1 = progN (takeS s y).2) := by
  have hk := h.ok hy
  have h1 := hy.en
  have hyv : y.v ≠ 6 := by rw [hy.kin.v, hv]; omega
  obtain ⟨a, b, c, d⟩ := hold_good h.hd hq hy.kin.wf ho (by omega) hk.1 hk.2 (fun e => absurd e hyv)
  refine ⟨a, c hyv, fun hn => ?_⟩
  rcases d with d | d
  · exact absurd (b d) hn
  · exact d
/-- Done, or not: all is there, and its end. -/
theorem Jn.done {x : Pk} {s : Es} {T : Int → Bool} {Y : Nat → Int} (h : Jn x s T Y) : doneB s = true ↔ (s.e ≠ -1 ∧ ∀ n : Nat, n < x.d.length → T n = true) := by
  rw [done_full h.hd]
  unfold Full
  have he := h.en
  constructor
  · rintro ⟨h1, h2⟩
    exact ⟨h1, fun n hn => h2 n (by omega) (by omega)⟩
  · rintro ⟨h1, h2⟩
    refine ⟨h1, fun n h3 h4 => ?_⟩
    have e : n = ((n.toNat : Nat) : Int) := by omega
    rw [e]; exact h2 _ (by omega)
/-- And then its bytes are x's. -/
theorem Jn.whole {x : Pk} {s : Es} {T : Int → Bool} {Y : Nat → Int} (h : Jn x s T Y) (hd : doneB s = true) : s.d.take s.e.toNat = x.d := by
  have hf := (done_full h.hd).1 hd
  have he := h.en
  have hc := h.done.1 hd
  rw [whole_byt h.hd hf]
  have e1 : s.e.toNat = x.d.length := by have := hc.1; omega
  rw [e1]
  apply List.ext_getElem?
  intro i
  by_cases hi : i < x.d.length
  · rw [List.getElem?_map, List.getElem?_range hi, (h.of i (hc.2 i hi)).2]; rfl
  · rw [List.getElem?_eq_none (by simp; omega), List.getElem?_eq_none (by omega)]
end R
#print axioms R.Jn.put
#print axioms R.Jn.whole
end Go.Proofs.YtbkeilboneaejaaGreatDoor

namespace Go.Proofs.YtbkeilboneaejaaGreatDoor
open Go.ChangeShapes Go.WideShapes Go.ChangeAt Go.RowKit Num
set_option linter.unusedVariables false
set_option maxHeartbeats 4000000
set_option maxRecDepth 100000

namespace R
theorem pw_apart : ∀ (l : List Pk), Pw l → ∀ a ∈ l, ∀ b ∈ l, a = b ∨ a.off + (a.d.length : Int) ≤ b.off ∨ b.off + (b.d.length : Int) ≤ a.off
  | [], _, a, ha, _, _ => absurd ha (by simp)
  | q :: r, h, a, ha, b, hb => by
    unfold Pw at h
    rw [List.pairwise_cons] at h
    rcases List.mem_cons.1 ha with rfl | ha'
    · rcases List.mem_cons.1 hb with rfl | hb'
      · exact .inl rfl
      · exact .inr (.inl (h.1 b hb').2)
    · rcases List.mem_cons.1 hb with rfl | hb'
      · exact .inr (.inr (h.1 a ha').2)
      · exact pw_apart r h.2 a ha' b hb'
theorem Jn.six_again {x y : Pk} {s : Es} {T : Int → Bool} {Y : Nat → Int} (h : Jn x s T Y) (hy : Frg x y) (hq : Plc y) (hv : y.v = 6) (hps : s.ps y.off = (endP y, y.more)) :
    (takeS s y).1 = 3 ∧ (takeS s y).2.ps = s.ps ∧ Again s T y := by
  have hk := h.ok hy
  have hok := (putOk_iff h.hd hq).2 hk.2
  obtain ⟨b1, b2, b3, b4, b5, b6, b7, b8⟩ := beg_eq (listS s y) y
  have hps2 : (begS (listS s y) y).ps = s.ps := b5
  have hdd : (begS (listS s y) y).d = s.d := b3
  have h0 := hq.o0
  have h1 := hq.n1
  have hall : All T y := fun i hi => h.hd.iv.pt y.off (y.off + i) h0 (by omega) (by rw [hps]; unfold endP; simp only; omega)
  have hn : ¬ None' T y := fun hc => by
    have a := hall 0 (by omega)
    rw [hc 0 (by omega)] at a; simp at a
  have hlen : y.off.toNat + y.d.length ≤ s.d.length := by
    have := h.hd.iv.ps y.off
    rw [hps] at this
    unfold endP at this
    simp only at this
    omega
  have hag : agrP (begS (listS s y) y) y = true := by
    unfold agrP
    rw [decide_eq_true_eq, hdd, take_drop_iff hlen]
    intro i hi
    have ht := hall i hi
    rw [show y.off + (i : Int) = ((y.off.toNat + i : Nat) : Int) from by omega] at ht
    rw [h.hd.byt _ ht, hy.da i hi, (h.of _ ht).2]
  have hagain : Again s T y := ⟨hall, by
    cases hm : y.more with
    | true => exact .inl rfl
    | false => exact .inr (h.hd.pe y.off (by rw [hps]; unfold endP; simp only; omega) (by rw [hps]; exact hm))⟩
  have hfa := fresh_all h.hd.iv.ho hok hq
  unfold takeS
  rw [if_neg (by rw [hok]; simp), if_pos hv]
  unfold take6
  rw [if_neg (fun hc => hn (hfa.1 hc)), if_pos ⟨by rw [hps2]; exact hps, hag⟩]
  exact ⟨rfl, hps2, hagain⟩
/-- Of each piece all is there, or nothing. -/
def Whl6 (c : List Pk) (s : Es) (T : Int → Bool) : Prop := ∀ y ∈ c, None' T y ∨ s.ps y.off = (endP y, y.more)
theorem Jn.six {x : Pk} {c : List Pk} {s : Es} {T : Int → Bool} {Y : Nat → Int} (h : Jn x s T Y) (hc : Ref x c) (hxo : x.off = 0) (hpl : ∀ y ∈ c, Plc y) (hw : Whl6 c s T) (hv : x.v = 6) {y : Pk} (hy : y ∈ c) :
    (takeS s y).1 ≠ 4 ∧ (Again s T y → (takeS s y).1 = 3) ∧ (¬ Again s T y → (takeS s y).1 = progN (takeS s y).2) ∧ Whl6 c (takeS s y).2 (TT T y) := by
  have hf := hc.frg hxo hy
  have hq := hpl y hy
  have hyv : y.v = 6 := hf.kin.v.trans hv
  have hok := (putOk_iff h.hd hq).2 (h.ok hf).2
  have hap := fun z hz => pw_apart c hc.pw z hz y hy
  rcases hw y hy with hn | hps
  · obtain ⟨t1, -, t3⟩ := (take_six h.hd hq hyv hok).1 hn
    have hp := prog_or (takeS s y).2
    refine ⟨by omega, fun ha => ?_, fun _ => t1, fun z hz => ?_⟩
    · have a := ha.1 0 (by have := hq.n1; omega)
      rw [hn 0 (by have := hq.n1; omega)] at a; simp at a
    · rw [t3]
      have hqz := hpl z hz
      rcases hap z hz with rfl | hd
      · right; simp
      · have hne : z.off ≠ y.off := by have := hq.n1; have := hqz.n1; omega
        rcases hw z hz with h1 | h1
        · left
          intro i hi
          unfold TT
          rw [h1 i hi, Bool.false_or, Bool.eq_false_iff]
          intro e
          have := H.inS_iff.1 e
          simp only at this
          omega
        · right
          simp only [if_neg hne]; exact h1
  · obtain ⟨t1, t2, t3⟩ := h.six_again hf hq hyv hps
    refine ⟨by omega, fun _ => t1, fun hn => absurd t3 hn, fun z hz => ?_⟩
    rw [t2]
    have hqz := hpl z hz
    rcases hap z hz with rfl | hd
    · exact .inr hps
    · rcases hw z hz with h1 | h1
      · left
        intro i hi
        unfold TT
        rw [h1 i hi, Bool.false_or, Bool.eq_false_iff]
        intro e
        have := H.inS_iff.1 e
        simp only at this
        omega
      · exact .inr h1
end R
#print axioms R.Jn.six
end Go.Proofs.YtbkeilboneaejaaGreatDoor

namespace Go.Proofs.YtbkeilboneaejaaGreatDoor
open Go.ChangeShapes Go.WideShapes Go.ChangeAt Go.RowKit Num
set_option linter.unusedVariables false
set_option maxHeartbeats 4000000
set_option maxRecDepth 100000

namespace R
theorem more_pos {p : Pk} (h : rgtP p = true) (hm : p.more = true) : 0 < p.d.length := by
  unfold rgtP at h
  by_cases hv : p.v = 6
  · rw [if_pos hv, S6.right_iff] at h
    have := h.mn (.inl hm); omega
  · rw [if_neg hv, right_iff] at h
    have := h.1.m0 hm; omega
theorem rgt_two {p : Pk} (h : rgtP p = true) : rgt2 p = true := by
  unfold rgtP at h
  unfold rgt2
  split at h
  · rw [h, Bool.or_true]
  · rw [h, Bool.true_or]
/-- Of two pieces or more each is a fragment. -/
theorem frag_of {x : Pk} {l : List Pk} (h : Ref x l) (h0 : x.off = 0) (h2 : 2 ≤ l.length) : ∀ y ∈ l, (decide (0 < y.off) || y.more) = true := by
  intro y hy
  have hm := h.mo
  have hp := h.pw
  have hoff := (h.frg h0 hy).o0
  cases l with
  | nil => simp at hy
  | cons q r =>
    cases r with
    | nil => simp at h2
    | cons a c =>
      unfold Pw at hp
      rw [List.pairwise_cons] at hp
      rcases List.mem_cons.1 hy with rfl | hy'
      · rw [hm.1, Bool.or_true]
      · have h3 := hp.1 y hy'
        have h4 := more_pos (h.kin q (by simp)).r h3.1
        have h5 := (h.frg h0 (y := q) (by simp)).o0
        rw [decide_eq_true (by omega), Bool.true_or]
theorem key_of {x y z : Pk} (h : Kin x y) (k : Kin x z) : kyB y z = true := by
  unfold kyB
  rw [h.v, k.v, h.sv, k.sv, h.sb, k.sb, h.dv, k.dv, h.db, k.db, h.proto, k.proto, h.id, k.id]
  simp
structure Jx (x : Pk) (c : List Pk) (z : Pk) (s : Es) (T : Int → Bool) (Y : Nat → Int) : Prop where
  jn : Jn x s T Y
  six : x.v = 6 → Whl6 c s T
  ky : s.k = z
theorem Jx.put {x z : Pk} {c m : List Pk} {s : Es} {T : Int → Bool} {Y : Nat → Int} (h : Jx x c z s T Y) (hxo : x.off = 0) (hv : x.v = 4 ∨ x.v = 6) (hx : x.d.length ≤ 3000) (hz : Kin x z) (hc : Ref x c) (hm : m = [] ∨ Ref x m) (h6 : x.v = 6 → m = []) (hfr : ∀ y ∈ c ++ m, (decide (0 < y.off) || y.more) = true) {y : Pk} (hy : y ∈ c ++ m) :
    (Again s T y → (putS s y).1 = 3) ∧ (¬ Again s T y → (putS s y).1 = progN (putS s y).2) ∧ Jx x c z (putS s y).2 (TT T y) (YY Y y) ∧ Frg x y ∧ Plc y := by
  have hf : Frg x y := by
    rcases List.mem_append.1 hy with h1 | h1
    · exact hc.frg hxo h1
    · rcases hm with rfl | hm
      · simp at h1
      · exact hm.frg hxo h1
  have hr2 := rgt_two hf.kin.r
  have hq := plc_of hr2 (hfr y hy)
  have ho := opt_of hr2
  have how : ownB s y = true := by
    unfold ownB
    rw [h.ky, key_of hf.kin hz, hfr y hy, hr2]; rfl
  have htk := take_bad s y
  have key : (takeS s y).1 ≠ 4 ∧ (Again s T y → (takeS s y).1 = 3) ∧ (¬ Again s T y → (takeS s y).1 = progN (takeS s y).2) ∧ (x.v = 6 → Whl6 c (takeS s y).2 (TT T y)) := by
    rcases hv with hv | hv
    · obtain ⟨a, b, d⟩ := h.jn.four hf hq ho hx hv
      exact ⟨a, b, d, fun e => by omega⟩
    · have hyc : y ∈ c := by
        rw [h6 hv, List.append_nil] at hy; exact hy
      have hpl : ∀ u ∈ c, Plc u := fun u hu => plc_of (rgt_two (hc.frg hxo hu).kin.r) (hfr u (List.mem_append_left _ hu))
      obtain ⟨a, b, d, e⟩ := h.jn.six hc hxo hpl (h.six hv) hv hyc
      exact ⟨a, b, d, fun _ => e⟩
  have hput : putS s y = takeS s y := by
    unfold putS
    rw [if_neg (by rw [how]; simp), if_neg (by rw [h.jn.hd.ok]; simp), if_neg key.1]
  rw [hput]
  exact ⟨key.2.1, key.2.2.1, ⟨h.jn.put hf hq ho hx key.1, key.2.2.2, htk.2.1.trans h.ky⟩, hf, hq⟩
end R
#print axioms R.Jx.put
end Go.Proofs.YtbkeilboneaejaaGreatDoor

namespace Go.Proofs.YtbkeilboneaejaaGreatDoor
open Go.ChangeShapes Go.WideShapes Go.ChangeAt Go.RowKit Num
set_option linter.unusedVariables false
set_option maxHeartbeats 4000000
set_option maxRecDepth 100000

namespace R
/-- A book filled as far as k. -/
def TK (T : Int → Bool) (o : Int) (k : Nat) : Int → Bool := fun n => T n || H.inS (o, o + k) n
theorem tk_zero (T : Int → Bool) (o : Int) : TK T o 0 = T := by
  funext n
  unfold TK
  have : H.inS (o, o + ((0 : Nat) : Int)) n = false := by
    rw [Bool.eq_false_iff]; intro e; have := H.inS_iff.1 e; simp only at this; omega
  rw [this, Bool.or_false]
theorem tk_succ (T : Int → Bool) (o : Int) (k : Nat) (n : Int) : TK T o (k + 1) n = if n = o + k then true else TK T o k n := by
  unfold TK
  by_cases he : n = o + k
  · rw [if_pos he, H.inS_iff.2 (by simp only; omega), Bool.or_true]
  · rw [if_neg he]
    congr 1
    rw [Bool.eq_iff_iff, H.inS_iff, H.inS_iff]
    simp only
    omega
theorem tk_all (T : Int → Bool) (p : Pk) : TK T p.off p.d.length = TT T p := rfl
theorem take_first {s : Es} {p : Pk} (h4 : (takeS s p).1 ≠ 4) : (takeS s p).2.f = (begS s p).f ∧ (takeS s p).2.fl = (begS s p).fl := by
  have hb : (begS (listS s p) p).f = (begS s p).f ∧ (begS (listS s p) p).fl = (begS s p).fl := by
    unfold begS
    have e1 : (listS s p).fl = s.fl := rfl
    rw [e1]
    split <;> exact ⟨rfl, rfl⟩
  unfold takeS at h4 ⊢
  split at h4
  · simp at h4
  · rename_i hok
    rw [if_neg hok]
    split
    · unfold take6
      split
      · exact hb
      · split <;> exact hb
    · unfold take4
      split
      · exact hb
      · split
        · exact hb
        · split <;> exact hb
theorem put_take {s : Es} {y : Pk} (h1 : (putS s y).1 ≠ 1) (h2 : (putS s y).1 ≠ 2) (h4 : (putS s y).1 ≠ 4) : putS s y = takeS s y ∧ (takeS s y).1 ≠ 4 := by
  unfold putS at h1 h2 h4 ⊢
  split
  · rename_i h; rw [if_pos h] at h1; simp at h1
  · rename_i h; rw [if_neg h] at h2 h4
    split
    · rename_i k; rw [if_pos k] at h2; simp at h2
    · rename_i k; rw [if_neg k] at h4
      split
      · rename_i j; rw [if_pos j] at h4; simp at h4
      · rename_i j; exact ⟨rfl, j⟩
/-- What is first told. -/
structure Fst (x : Pk) (s : Es) (T : Int → Bool) : Prop where
  yes : T 0 = true → 0 < s.fl
  is : 0 < s.fl → ∃ y, Kin x y ∧ y.off = 0 ∧ y.o = x.o ∧ s.f = { y with d := [] }
theorem fst_new (x k : Pk) (t : Int) : Fst x (newS k t) (fun _ => false) := ⟨fun h => by simp at h, fun h => by simp [newS] at h⟩
theorem Fst.take {x y : Pk} {s : Es} {T : Int → Bool} (h : Fst x s T) (hy : Frg x y) (hq : Plc y) (ho : y.off = 0 → y.o = x.o) (h4 : (takeS s y).1 ≠ 4) : Fst x (takeS s y).2 (TT T y) := by
  obtain ⟨e1, e2⟩ := take_first h4
  have h0 := hq.o0
  have h1 := hq.n1
  by_cases hc : 0 < y.off ∨ 0 < s.fl
  · have b : begS s y = s := by unfold begS; rw [if_pos hc]
    rw [b] at e1 e2
    refine ⟨fun ht => ?_, fun hf => ?_⟩
    · rw [e2]
      unfold TT at ht
      rw [Bool.or_eq_true] at ht
      rcases ht with ht | ht
      · exact h.yes ht
      · have := H.inS_iff.1 ht
        simp only at this
        rcases hc with hc | hc
        · omega
        · exact hc
    · rw [e1]; rw [e2] at hf; exact h.is hf
  · have b : begS s y = { s with f := { y with d := [] }, fl := y.d.length, hd := hdP y } := by unfold begS; rw [if_neg hc]
    have hy0 : y.off = 0 := by omega
    rw [b] at e1 e2
    refine ⟨fun _ => by rw [e2]; show 0 < y.d.length; omega, fun _ => ⟨y, hy.kin, hy0, ho hy0, by rw [e1]⟩⟩
theorem off_head {x : Pk} {l : List Pk} (h : Ref x l) (h0 : x.off = 0) {y : Pk} (hy : y ∈ l) (hy0 : y.off = 0) : y.o = x.o := by
  have hm := h.mo
  have hp := h.pw
  cases l with
  | nil => simp at hy
  | cons q r =>
    rcases List.mem_cons.1 hy with rfl | hy'
    · exact (h.hd _ _ rfl).1
    · unfold Pw at hp
      rw [List.pairwise_cons] at hp
      have h3 := hp.1 y hy'
      have h4 := more_pos (h.kin q (by simp)).r h3.1
      have h5 := (h.frg h0 (y := q) (by simp)).o0
      omega
theorem pk_ext {p q : Pk} (h1 : p.v = q.v) (h2 : p.tos = q.tos) (h3 : p.flow = q.flow) (h4 : p.sv = q.sv) (h5 : p.sb = q.sb) (h6 : p.dv = q.dv) (h7 : p.db = q.db) (h8 : p.proto = q.proto) (h9 : p.ttl = q.ttl) (ha : p.id = q.id) (hb : p.df = q.df) (hc : p.more = q.more) (hd : p.frag = q.frag) (he : p.off = q.off) (hf : p.o = q.o) (hg : p.d = q.d) : p = q := by
  cases p; cases q
  simp only at h1 h2 h3 h4 h5 h6 h7 h8 h9 ha hb hc hd he hf hg
  subst h1 h2 h3 h4 h5 h6 h7 h8 h9 ha hb hc hd he hf hg
  rfl
/-- The state of the loop. -/
structure Js (x : Pk) (c : List Pk) (z : Pk) (s : Es) (T : Int → Bool) (Y : Nat → Int) : Prop where
  jx : Jx x c z s T Y
  ft : Fst x s T
theorem flat_len {α β : Type} (f : α → List β) : ∀ l : List α, (∀ y ∈ l, f y ≠ []) → l.length ≤ (l.flatMap f).length
  | [], _ => by simp
  | y :: r, h => by
    have ih := flat_len f r (fun z hz => h z (List.mem_cons_of_mem _ hz))
    have h1 := List.length_pos_iff.2 (h y (by simp))
    rw [List.flatMap_cons, List.length_append, List.length_cons]
    omega
theorem more_len {x : Pk} {l : List Pk} {r : Int} (h : Ref x l) (hv : x.v = 4) (hdf : x.df = false) (hm : mtuP r 4 = true) : l.length ≤ (moreL r l).length := by
  refine flat_len _ l (fun y hy => ?_)
  have k := h.kin y hy
  obtain ⟨u, e, hu⟩ := recut_ref (m := r) k.wf k.r (k.v.trans hv) (k.df.trans hdf) hm
  unfold recE
  rw [e, if_pos rfl]; exact hu.ne
/-- What pieces tells (as pcs_told, and how many). -/
theorem pcs_told2 {q : Pk} {n s : Int} (hu : Unc q) (hw : Wf q) (hv : q.v = 4 ∨ q.v = 6) (hdf : q.df = false) (hn : 0 ≤ n ∧ n ≤ 1023) (hs : 0 ≤ s ∧ s ≤ 255) :
    ∃ x c m, pcsE q n s = c ++ m ∧ Ref x c ∧ (m = [] ∨ (Ref x m ∧ c.length ≤ m.length)) ∧ ((x = q ∧ c = [q]) ∨ (x = basP q 9 ∧ 2 ≤ c.length)) ∧ (q.v = 6 → m = []) := by
  have hm : mtuP (lowP q + n) q.v = true := by
    rw [mtu_iff]; unfold lowP; split <;> omega
  have hunc : (uncutP q && mtuP (lowP q + n) q.v) = true := by rw [hm, (uncut_iff q).2 hu]; rfl
  have hms : mtuP (68 + s) 4 = true := by rw [mtu_iff]; simp; omega
  unfold pcsE cutP
  rw [if_pos hunc]
  by_cases hf : fitsP q (lowP q + n) = true
  · rw [if_pos hf, if_pos rfl]
    have hself := Ref.self hw hu.r
    by_cases h4 : q.v = 4
    · rw [if_pos h4]
      exact ⟨q, [q], _, rfl, hself, .inr ⟨more_ref hself h4 hdf hms, more_len hself h4 hdf hms⟩, .inl ⟨rfl, rfl⟩, fun h => by omega⟩
    · rw [if_neg h4]
      exact ⟨q, [q], [], rfl, hself, .inl rfl, .inl ⟨rfl, rfl⟩, fun _ => rfl⟩
  · have hd : ¬ (q.df = true) := by rw [hdf]; simp
    rw [if_neg hf, if_neg hd, if_pos rfl]
    have hc := cut_ref (id := 9) hu hw (by omega) (by omega) hm (by simpa using hf)
    obtain ⟨ca, cb, cr, -, -, ce, -⟩ := cut_two (id := 9) hu hw (by omega) (by omega) hm (by simpa using hf)
    have h2 : 2 ≤ (cutL q (lowP q + n) 9).length := by rw [ce]; simp
    by_cases h4 : q.v = 4
    · rw [if_pos h4]
      have hb := bas_four (p := q) (by omega) 9
      exact ⟨basP q 9, _, _, rfl, hc, .inr ⟨more_ref hc (by rw [hb]; exact h4) (by rw [hb]; exact hdf) hms, more_len hc (by rw [hb]; exact h4) (by rw [hb]; exact hdf) hms⟩, .inr ⟨rfl, h2⟩, fun h => by omega⟩
    · rw [if_neg h4]
      exact ⟨basP q 9, _, [], rfl, hc, .inl rfl, .inr ⟨rfl, h2⟩, fun _ => rfl⟩
/-- What stands fast while the loop goes. -/
structure Jc (q x : Pk) (c m : List Pk) (z : Pk) : Prop where
  unc : Unc q
  wf : Wf q
  v : q.v = 4 ∨ q.v = 6
  xe : x = basP q 9
  oe : q.o = []
  dl : q.d.length ≤ 3000
  zk : Kin x z
  cr : Ref x c
  mr : m = [] ∨ (Ref x m ∧ c.length ≤ m.length)
  m6 : q.v = 6 → m = []
  c2 : 2 ≤ c.length
section
variable {q x z : Pk} {c m : List Pk} {s : Es} {T : Int → Bool} {Y : Nat → Int}
theorem Jc.off (h : Jc q x c m z) : x.off = 0 ∧ x.o = [] ∧ x.d = q.d ∧ x.more = false ∧ x.v = q.v := by
  rw [h.xe]; exact ⟨h.unc.off, h.oe, rfl, h.unc.more, rfl⟩
theorem Jc.mR (h : Jc q x c m z) : m = [] ∨ Ref x m := h.mr.imp id And.left
theorem Jc.frag (h : Jc q x c m z) : ∀ y ∈ c ++ m, (decide (0 < y.off) || y.more) = true := by
  intro y hy
  rcases List.mem_append.1 hy with k | k
  · exact frag_of h.cr h.off.1 h.c2 y k
  · rcases h.mr with e | ⟨hm, hl⟩
    · rw [e] at k; simp at k
    · exact frag_of hm h.off.1 (Nat.le_trans h.c2 hl) y k
theorem Jc.opt (h : Jc q x c m z) : ∀ y ∈ c ++ m, y.off = 0 → y.o = x.o := by
  intro y hy h0
  rcases List.mem_append.1 hy with k | k
  · exact off_head h.cr h.off.1 k h0
  · rcases h.mr with e | ⟨hm, hl⟩
    · rw [e] at k; simp at k
    · exact off_head hm h.off.1 k h0
theorem js_new (h : Jc q x c m z) (t : Int) (Y : Nat → Int) : Js x c z (newS z t) (fun _ => false) Y :=
  ⟨⟨⟨hd_new _ _ _, fun n hn => by simp at hn, fun n hn => by simp at hn, .inl rfl⟩, fun _ y _ => .inl (fun i hi => rfl), rfl⟩, fst_new _ _ _⟩
/-- One Put. -/
theorem Js.put (h : Js x c z s T Y) (hc : Jc q x c m z) {y : Pk} (hy : y ∈ c ++ m) {fr : Bool} (hf : fr = true ↔ ((y.more = false ∧ s.e = -1) ∨ ∃ k, k < y.d.length ∧ T (y.off + (k : Int)) = false)) :
    (putS s y).1 = (if fr = true then (if doneB (putS s y).2 = true then 6 else 5) else 3) ∧ Js x c z (putS s y).2 (TT T y) (YY Y y) ∧ ((putS s y).2.e ≠ -1 ↔ (s.e ≠ -1 ∨ y.more = false)) ∧ Frg x y ∧ Plc y := by
  obtain ⟨k1, k2, k3, k4, k5⟩ := h.jx.put hc.off.1 (by rw [hc.off.2.2.2.2]; exact hc.v) (by rw [hc.off.2.2.1]; exact hc.dl) hc.zk hc.cr hc.mR (fun e => hc.m6 (by rw [← hc.off.2.2.2.2]; exact e)) hc.frag hy
  have hag : fr = true ↔ ¬ Again s T y := by
    rw [hf]
    unfold Again All
    constructor
    · rintro (⟨a, b⟩ | ⟨k, a, b⟩) ⟨g1, g2⟩
      · rcases g2 with g2 | g2
        · rw [a] at g2; simp at g2
        · exact g2 b
      · rw [g1 k a] at b; simp at b
    · intro g
      by_cases g1 : ∀ i : Nat, i < y.d.length → T (y.off + i) = true
      · left
        by_cases g2 : y.more = true
        · exact absurd ⟨g1, .inl g2⟩ g
        · by_cases g3 : s.e = -1
          · exact ⟨by simpa using g2, g3⟩
          · exact absurd ⟨g1, .inr g3⟩ g
      · right
        simp only [Classical.not_forall] at g1
        obtain ⟨i, hi, hT⟩ := g1
        exact ⟨i, hi, by simpa using hT⟩
  have hr : (putS s y).1 = (if fr = true then (if doneB (putS s y).2 = true then 6 else 5) else 3) := by
    cases fr with
    | true => rw [if_pos rfl, k2 (hag.1 rfl)]; rfl
    | false => rw [if_neg (by simp)]; exact k1 (Classical.not_not.1 (fun e => by have := hag.2 e; simp at this))
  have hn : (putS s y).1 = 3 ∨ (putS s y).1 = 5 ∨ (putS s y).1 = 6 := by
    rw [hr]
    split
    · split <;> simp
    · simp
  obtain ⟨t1, t2⟩ := put_take (s := s) (y := y) (by omega) (by omega) (by omega)
  refine ⟨hr, ⟨k3, ?_⟩, ?_, k4, k5⟩
  · rw [t1]; exact h.ft.take k4 k5 (hc.opt y hy) t2
  · rw [t1, (take_me t2).2]
    unfold H.putE
    have h0 := k5.o0
    cases hm : y.more with
    | true => rw [if_pos rfl]; simp
    | false => rw [if_neg (by simp)]; simp; omega
theorem Js.don (h : Js x c z s T Y) : doneB s = (decide (s.e ≠ -1) && allN (fun n => T (n : Int)) x.d.length) := by
  rw [Bool.eq_iff_iff, h.jx.jn.done, Bool.and_eq_true, decide_eq_true_eq, allN_iff]
/-- What Whole tells. -/
theorem Js.whole (h : Js x c z s T Y) (hc : Jc q x c m z) (hd : doneB s = true) : wholeP s = (wholeQ q (firstP s).1, true) ∧ (wholeP s).1.d = q.d := by
  obtain ⟨x0, xo, xd, xm, xv⟩ := hc.off
  have hw := h.jx.jn.whole hd
  have hdn := h.jx.jn.done.1 hd
  have hpos : 0 < x.d.length := by
    have hcm := hc.cr.mo
    have hcd := hc.cr.da
    cases hcc : c with
    | nil => exact absurd hcc hc.cr.ne
    | cons a r =>
      rw [hcc] at hcd hcm
      have hr : r ≠ [] := by rintro rfl; have := hc.c2; rw [hcc] at this; simp at this
      obtain ⟨b, r2, rfl⟩ := List.exists_cons_of_ne_nil hr
      have h4 := more_pos (hc.cr.kin a (by rw [hcc]; simp)).r hcm.1
      rw [← hcd]
      show 0 < (a.d ++ datas (b :: r2)).length
      rw [List.length_append]; omega
  have hfl := h.ft.yes (hdn.2 0 hpos)
  obtain ⟨y, hk, hy0, hyo, hsf⟩ := h.ft.is hfl
  have hbad : ¬ (s.bad = true ∨ doneB s = false) := by
    rw [hd, h.jx.jn.hd.ok]; simp
  have hfp : (firstP s).1.ttl = y.ttl := by
    unfold firstP
    rw [if_neg (by omega)]
    show s.f.ttl = _
    rw [hsf]
  have e : wholeP s = ({ filledP s s.e.toNat with more := false, frag := if s.f.v = 6 then false else s.f.frag, id := if s.f.v = 6 then 0 else s.f.id }, true) := by
    unfold wholeP; rw [if_neg hbad]
  refine ⟨?_, by rw [e]; show s.d.take s.e.toNat = _; rw [hw, xd]⟩
  rw [e]
  unfold wholeQ filledP
  rw [hsf, hfp, hw]
  have hu := hc.unc
  have ex := hc.xe
  congr 1
  have hyv : y.v = q.v := hk.v.trans xv
  refine pk_ext ?_ ?_ ?_ ?_ ?_ ?_ ?_ ?_ ?_ ?_ ?_ ?_ ?_ ?_ ?_ ?_ <;> dsimp only
  · exact hyv
  · rw [hk.tos, ex]; rfl
  · rw [hk.flow, ex]; rfl
  · rw [hk.sv, ex]; rfl
  · rw [hk.sb, ex]; rfl
  · rw [hk.dv, ex]; rfl
  · rw [hk.db, ex]; rfl
  · rw [hk.proto, ex]; rfl
  · rw [hyv]
    split
    · rfl
    · rename_i h6
      rw [hk.id, ex]
      unfold basP
      rw [if_neg h6, if_neg h6]
  · rw [hk.df, ex]; rfl
  · exact hu.more.symm
  · rw [hyv]
    split
    · exact hu.frag.symm
    · rename_i h6
      rw [hk.frag, ex]
      unfold basP
      rw [if_neg h6, if_neg h6]
  · rw [hy0, hu.off]
  · rw [hyo, xo, hc.oe]
  · exact xd
/-- All pieces of c are in. -/
theorem Js.full (h : Js x c z s T Y) (hc : Jc q x c m z) (hall : ∀ y ∈ c, All T y ∧ (y.more = false → s.e ≠ -1)) : doneB s = true := by
  obtain ⟨x0, xo, xd, xm, xv⟩ := hc.off
  have key : ∀ (l : List Pk) (e : Int), 0 ≤ e → moresB x.more l → complL e l = true → (∀ y ∈ l, All T y ∧ (y.more = false → s.e ≠ -1)) → s.e ≠ -1 ∧ ∀ n : Int, e ≤ n → n < e + (datas l).length → T n = true := by
    intro l
    induction l with
    | nil => intro e _ hm; exact hm.elim
    | cons a r ih =>
      intro e he hm hcm hal
      rw [complL, Bool.and_eq_true, decide_eq_true_eq] at hcm
      obtain ⟨c1, c2⟩ := hcm
      have ha := hal a (by simp)
      have hT : ∀ n : Int, e ≤ n → n < e + (a.d.length : Int) → T n = true := fun n h1 h2 => by
        have := ha.1 (n - a.off).toNat (by omega)
        rwa [show a.off + ((n - a.off).toNat : Int) = n from by omega] at this
      have hd : datas (a :: r) = a.d ++ datas r := rfl
      rw [hd, List.length_append]
      cases r with
      | nil =>
        refine ⟨ha.2 (by have h2 : a.more = x.more := hm; rw [h2, xm]), fun n h1 h2 => hT n h1 ?_⟩
        simp [datas] at h2
        exact h2
      | cons b t =>
        obtain ⟨i1, i2⟩ := ih (a.off + a.d.length) (by omega) hm.2 c2 (fun y hy => hal y (List.mem_cons_of_mem _ hy))
        refine ⟨i1, fun n h1 h2 => ?_⟩
        by_cases hlt : n < e + (a.d.length : Int)
        · exact hT n h1 hlt
        · exact i2 n (by omega) (by push_cast at h2; omega)
  obtain ⟨k1, k2⟩ := key c x.off (by omega) hc.cr.mo hc.cr.cm hall
  rw [h.jx.jn.done]
  refine ⟨k1, fun n hn => k2 n (by omega) ?_⟩
  rw [hc.cr.da]; omega
theorem Js.last (h : Js x c z s T Y) (hc : Jc q x c m z) (hd : doneB s = true) : holesN s = 0 ∧ s.h = q.d.length := by
  obtain ⟨x0, xo, xd, xm, xv⟩ := hc.off
  have hdn := h.jx.jn.done.1 hd
  refine ⟨?_, ?_⟩
  · unfold holesN
    rw [h.jx.jn.hd.ok, if_neg (by simp)]
    unfold doneB at hd
    rw [Bool.and_eq_true] at hd
    rw [of_decide_eq_true hd.2]; rfl
  · rw [h.jx.jn.hd.iv.cnt, H.cnt_congr (g := H.inS (0, (x.d.length : Int))) (fun n hn => ?_), H.cnt_span _ (by simp)]
    · have := hc.dl
      simp only
      rw [← xd] at this ⊢
      omega
    · rw [Bool.eq_iff_iff, H.inS_iff]
      simp only
      constructor
      · intro hT
        have := (h.jx.jn.of n hT).1
        omega
      · rintro ⟨-, hlt⟩
        exact hdn.2 n (by omega)
theorem all_mono {y u : Pk} (h : All T y) : All (TT T u) y := fun i hi => by unfold TT; rw [h i hi, Bool.true_or]
theorem all_self {y : Pk} : All (TT T y) y := fun i hi => by
  unfold TT; rw [H.inS_iff.2 (by simp only; omega), Bool.or_true]
end
end R
#print axioms R.Js.whole
#print axioms R.Js.put
#print axioms R.Js.full
#print axioms R.Js.last
end Go.Proofs.YtbkeilboneaejaaGreatDoor

namespace Go.Proofs.YtbkeilboneaejaaGreatDoor
open Go.ChangeShapes Go.WideShapes Go.ChangeAt Go.RowKit Num
open S6 (wp_region_cls quiet_val quiet_call quiet_ld ld3 ld4 ld5 ld25 ld26 load28_run load24m_run)
set_option linter.unusedVariables false
set_option linter.unusedSimpArgs false
set_option maxHeartbeats 8000000
set_option maxRecDepth 100000

namespace R
theorem andN24 (n M : Int) (h0 : 0 ≤ M) (h1 : M ≤ 16777215) : 0 ≤ bits .and .i64 n M ∧ bits .and .i64 n M ≤ M := by
  have h : (BitVec.ofInt 64 M).toNat = M.toNat := by rw [BitVec.toNat_ofInt]; omega
  have key : (BitVec.ofInt 64 n &&& BitVec.ofInt 64 M).toNat ≤ M.toNat := by rw [BitVec.toNat_and, h]; exact Nat.and_le_right
  have e : bits .and .i64 n M = IntKind.i64.wrap ((BitVec.ofInt 64 n &&& BitVec.ofInt 64 M).toNat : Nat) := rfl
  rw [e, IntKind.wrap_i64]
  generalize (BitVec.ofInt 64 n &&& BitVec.ofInt 64 M).toNat = m at *
  omega
theorem made_get {v : Value} (hv : v.cells = #[v]) (n i : Nat) (h : i < n) : (madeCells v.cells n)[i]? = some v := by
  rw [hv]
  unfold madeCells
  rw [Array.getElem?_map, Array.getElem?_eq_getElem (by simpa using h)]
  simp [Nat.mod_one]
theorem info4b : (Tryz.prog.info? 4).map (fun i => (i.zero, i.size, i.bytes)) = some (some (.bool false), 1, 1) := by kernel_rfl
/-- The book of N places. -/
def Bkn (w : World) (g N : Nat) (B : Int → Bool) : Prop := ∃ cur, w.heap[g]? = some (.cells cur 4 (0, 0)) ∧ ∀ i : Nat, i < N → cur[i]? = some (.bool (B i))
section
variable {w w' : World} {g N : Nat} {B C : Int → Bool}
theorem Bkn.away {S : List Nat} (h : Bkn w g N B) (hw : Away S w w') (hg : g ∉ S) : Bkn w' g N B := by
  obtain ⟨cur, h1, h2⟩ := h
  exact ⟨cur, hw.keep hg h1, h2⟩
theorem Bkn.on (h : Bkn w g N B) (hw : Away [] w w') : Bkn w' g N B := h.away hw (by simp)
theorem Bkn.row (h : Bkn w g N B) : BokR w g N (fun n => B (n : Int)) := fun i hi => by
  obtain ⟨cur, h1, h2⟩ := h
  rw [cell_of_block h1]; exact h2 i hi
theorem Bkn.free (h : Bkn w g N B) (i : Nat) : w.frozen? ⟨g, i, none⟩ = false := by obtain ⟨cur, h1, -⟩ := h; exact free_of_block h1 i
theorem Bkn.lt (h : Bkn w g N B) : g < w.heap.size := by obtain ⟨cur, h1, -⟩ := h; exact lt_of_block h1
theorem Bkn.congr (h : Bkn w g N B) (hc : ∀ i : Nat, i < N → B i = C i) : Bkn w g N C := by
  obtain ⟨cur, h1, h2⟩ := h
  exact ⟨cur, h1, fun i hi => by rw [← hc i hi]; exact h2 i hi⟩
theorem arr_lt {cur : Array Value} {i : Nat} {v : Value} (h : cur[i]? = some v) : i < cur.size := by
  rcases Nat.lt_or_ge i cur.size with h4 | h4
  · exact h4
  · rw [Array.getElem?_eq_none h4] at h; simp at h
theorem Bkn.set (h : Bkn w g N B) {i : Nat} (hi : i < N) : Bkn (w.setCell ⟨g, i, none⟩ (.bool true)) g N (fun n => if n = (i : Int) then true else B n) := by
  obtain ⟨cur, h1, h2⟩ := h
  refine ⟨cur.setIfInBounds i (.bool true), block_set h1 i _, fun j hj => ?_⟩
  rw [Array.getElem?_setIfInBounds]
  by_cases hij : i = j
  · subst hij
    rw [if_pos rfl, if_pos (arr_lt (h2 i hi))]; simp
  · rw [if_neg hij, h2 j hj]; dsimp only; rw [if_neg (by omega)]
theorem Bkn.setA (h : Bkn w g N B) (i : Nat) : Away [g] w (w.setCell ⟨g, i, none⟩ (.bool true)) := (Away.refl _ _).setCell (.inl (by simp)) _
end
def bookN (n : Nat) : Obj := .cells (madeCells (Value.bool false).cells n) 4
theorem make_book (n : Nat) (N : Int) (hN : N = n) (hn : n ≤ 3000) (wx : World) :
    (Instr.makeSlice 41 (.int .i64 N) (.int .i64 N)).run Tryz.prog wx = .ok (.slice (some ⟨wx.heap.size, 0, none⟩) n n) (wx.alloc (bookN n)) := by
  subst hN
  obtain ⟨i0, hi, hz0, hz1, hz2⟩ := info_parts info4b
  have := run_make (P := Tryz.prog) wx 41 4 i0 _ Tryz.underlying41 hi hz0 .i64 .i64 n n (by omega) (by omega) (by rw [hz2]; omega) (by omega)
  rw [hz1] at this
  unfold bookN
  simpa using this
theorem book_new (w : World) (n : Nat) : Bkn (w.alloc (bookN n)) w.heap.size n (fun _ => false) := ⟨_, block_new w (bookN n), fun i hi => made_get rfl n i hi⟩
/-- The entry and the book, both newer than W. -/
structure Eb (W w : World) (g gB N : Nat) (fp : List Nat) (s : Es) (B : Int → Bool) : Prop where
  aw : Away [] W w
  ey : Ey w g s fp
  lo : ∀ z ∈ fp, W.heap.size ≤ z
  bk : Bkn w gB N B
  bl : W.heap.size ≤ gB
  bn : gB ∉ fp
section
variable {W w w' : World} {g gB N : Nat} {fp fp' : List Nat} {s s2 : Es} {B C : Int → Bool}
theorem Eb.on (h : Eb W w g gB N fp s B) (hw : Away [] w w') : Eb W w' g gB N fp s B := ⟨h.aw.trans hw, h.ey.on hw, h.lo, h.bk.on hw, h.bl, h.bn⟩
theorem Eb.congr (h : Eb W w g gB N fp s B) (hc : ∀ i : Nat, i < N → B i = C i) : Eb W w g gB N fp s C := ⟨h.aw, h.ey, h.lo, h.bk.congr hc, h.bl, h.bn⟩
theorem Eb.put (h : Eb W w g gB N fp s B) (hy : Ey w' g s2 fp') (hf : ∀ z ∈ fp', z ∈ fp ∨ w.heap.size ≤ z) (hw : Away fp w w') : Eb W w' g gB N fp' s2 B := by
  have h1 := h.aw.size
  have h2 := h.bk.lt
  refine ⟨h.aw.next hw (fun z hz => .inr (h.lo z hz)), hy, fun z hz => ?_, h.bk.away hw h.bn, h.bl, fun hz => ?_⟩
  · rcases hf z hz with h3 | h3
    · exact h.lo z h3
    · omega
  · rcases hf gB hz with h3 | h3
    · exact h.bn h3
    · omega
/-- A variable newer than all. -/
theorem Eb.other (h : Eb W w g gB N fp s B) {x : Nat} (hw : Away [x] w w') (hx : W.heap.size ≤ x) (h1 : x ∉ fp) (h2 : x ≠ gB) : Eb W w' g gB N fp s B :=
  ⟨h.aw.next hw (fun z hz => .inr (by simp at hz; subst hz; exact hx)), h.ey.away hw (fun z hz e => by simp at e; subst e; exact h1 hz), h.lo, h.bk.away hw (by simp; exact fun e => h2 e.symm), h.bl, h.bn⟩
theorem Eb.book (h : Eb W w g gB N fp s B) {i : Nat} (hi : i < N) : Eb W (w.setCell ⟨gB, i, none⟩ (.bool true)) g gB N fp s (fun n => if n = (i : Int) then true else B n) := by
  have ha := h.bk.setA i
  exact ⟨h.aw.next ha (fun z hz => .inr (by simp at hz; subst hz; exact h.bl)), h.ey.away ha (fun z hz e => by simp at e; subst e; exact h.bn hz), h.lo, h.bk.set hi, h.bl, h.bn⟩
end
/-- The loop's state. -/
structure Jl (W : World) (q x : Pk) (c m : List Pk) (z : Pk) (on g gB N k : Nat) (eb : Bool) (fp : List Nat) (s : Es) (T : Int → Bool) (Y : Nat → Int) (w : World) : Prop where
  mem : Eb W w g gB N fp s T
  js : Js x c z s T Y
  en : eb = true ↔ s.e ≠ -1
  dn : ∀ j : Nat, on + j < k → ∀ y, (c ++ m)[j]? = some y → All T y ∧ (y.more = false → s.e ≠ -1)
/-- Whether a piece says anything new, as far as k. -/
def frB (T : Int → Bool) (o : Int) (b : Bool) : Nat → Bool
  | 0 => b
  | k + 1 => frB T o b k || !T (o + k)
theorem frB_iff (T : Int → Bool) (o : Int) (b : Bool) : ∀ k, frB T o b k = true ↔ (b = true ∨ ∃ i, i < k ∧ T (o + (i : Int)) = false)
  | 0 => by simp [frB]
  | k + 1 => by
    rw [frB, Bool.or_eq_true, frB_iff T o b k]
    constructor
    · rintro ((h | ⟨i, h1, h2⟩) | h)
      · exact .inl h
      · exact .inr ⟨i, by omega, h2⟩
      · exact .inr ⟨k, by omega, by simpa using h⟩
    · rintro (h | ⟨i, h1, h2⟩)
      · exact .inl (.inl h)
      · by_cases he : i = k
        · right; rw [he] at h2; simpa using h2
        · exact .inl (.inr ⟨i, by omega, h2⟩)
theorem tk_at (T : Int → Bool) (o : Int) (k : Nat) : TK T o k (o + k) = T (o + k) := by
  unfold TK
  have : H.inS (o, o + (k : Int)) (o + k) = false := by
    rw [Bool.eq_false_iff]; intro e; have := H.inS_iff.1 e; simp only at this; omega
  rw [this, Bool.or_false]
theorem whole_ad {s : Es} {T : Int → Bool} (h : Iv s T) : Ad (wholeP s).1 := by
  unfold wholeP
  split
  · exact ⟨rfl, rfl⟩
  · exact h.fw.ad
theorem wholeQ_wf {q f : Pk} (hq : Wf q) (ht : i64ok f.ttl) : Wf (wholeQ q f) :=
  ⟨hq.v, hq.tos, hq.flow, hq.sv, hq.sl, hq.sb, hq.dv, hq.dl, hq.db, hq.proto, ht, by unfold wholeQ; dsimp only; split; exact Int.le_refl _; exact hq.id0, by unfold wholeQ; dsimp only; split; omega; exact hq.id1, hq.off, hq.o, hq.ol, hq.d, hq.dn⟩
theorem first_ttl {s : Es} {T : Int → Bool} (h : Iv s T) : i64ok (firstP s).1.ttl := by
  unfold firstP
  split
  · exact zero_wf.ttl
  · exact h.fw.ttl
end R
#print axioms R.Eb.book
end Go.Proofs.YtbkeilboneaejaaGreatDoor
