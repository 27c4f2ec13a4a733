/-
  The law's own marked.
-/
import Derived.Test.YtoifolmcdkfniaaDoorMkL
import Derived.Test.YtoifolmcdkfniaaDoorLw2D
namespace Go.Proofs.YtoifolmcdkfniaaDoor
open Go.ChangeShapes Go.WideShapes Go.ChangeAt Go.RowKit
set_option linter.unusedVariables false
set_option linter.unusedSimpArgs false
set_option maxRecDepth 100000
/-- Lists that were told, and their copies. -/
structure Kept where
  p : List Rt
  v : Value
  u : Value
structure Bag (w : World) (kv wv : Value) (T : List Kept) : Prop where
  kl : LstV w kv (T.map Kept.v)
  wl : LstV w wv (T.map Kept.u)
  own : ∀ t ∈ T, LR w t.v t.p ∧ LR w t.u t.p ∧ t.p.length ≤ 32
  apart : T.Pairwise (fun s t => Sep s.v.ownBlock.toList t.v.ownBlock.toList)
  outer : ∀ t ∈ T, Sep t.v.ownBlock.toList kv.ownBlock.toList
def mkP (j : Nat) : Rt := ⟨0, z16, -9, -100 - (j : Int)⟩
theorem mkP_ok (j : Nat) : Okr (mkP j) := ⟨rfl, by unfold Byt mkP z16; simp⟩
theorem run_mkP (j : Nat) (w : World) : (Instr.build 41 #[(1, .int .i64 (-9)), (2, .int .i64 (-100 - (j : Int)))]).run Tryd.prog w = .ok (.agg (csD (mkP j))) w := by
  obtain ⟨z, hz⟩ : ∃ z : Int, z = -100 - (j : Int) := ⟨_, rfl⟩
  unfold mkP
  rw [← hz]
  kernel_rfl
theorem LR.cell {w : World} {g n cap k : Nat} {l : List Rt} {x : Rt} (h : LR w (.slice (some ⟨g, 0, none⟩) n cap) l) (hx : l[k]? = some x) : w.cell? ⟨g, k * 19 + 18, none⟩ = some (.int .i64 x.k) := by
  obtain ⟨cur, hb, -, -, ht, hln⟩ := h.1.blk
  subst hln
  have h1 := h.1.at h.2 hx 18 _ (listD_k (h.2 x (List.mem_of_getElem? hx)))
  rw [Nat.zero_add] at h1
  exact h1
theorem LR.sl {w : World} {v : Value} {l : List Rt} (h : LR w v l) : ∃ a cap, v = .slice a l.length cap ∧ (∀ (k : Nat) (x : Rt), l[k]? = some x → ∃ g, a = some ⟨g, 0, none⟩ ∧ w.cell? ⟨g, k * 19 + 18, none⟩ = some (.int .i64 x.k)) := by
  rcases h.1.shp with ⟨rfl, rfl⟩ | ⟨g, cap, rfl⟩
  · exact ⟨none, 0, rfl, by simp⟩
  · exact ⟨_, cap, rfl, fun k x hx => ⟨g, rfl, h.cell hx⟩⟩
def Lp (T : List Kept) (j : Nat) : List Rt := (T[j]?.map Kept.p).getD []
/-- What the lists hold while they are marked. -/
def conP (T : List Kept) (i k j : Nat) : List Rt := if j < i then List.replicate (Lp T j).length (mkP j) else if j = i then fillP (mkP i) k (Lp T i) else Lp T j
theorem con_next (T : List Kept) (i j : Nat) : conP T i (Lp T i).length j = conP T (i + 1) 0 j := by
  unfold conP
  by_cases h1 : j < i
  · rw [if_pos h1, if_pos (by omega)]
  · rw [if_neg h1]
    by_cases h2 : j = i
    · subst h2; rw [if_pos rfl, if_pos (by omega), fill_all rfl]
    · rw [if_neg h2, if_neg (by omega)]
      by_cases h3 : j = i + 1
      · subst h3; rw [if_pos rfl, fill_zero]
      · rw [if_neg h3]
theorem con_len {T : List Kept} {i k j : Nat} (h : k ≤ (Lp T i).length) : (conP T i k j).length = (Lp T j).length := by
  unfold conP
  split
  · simp
  · split
    · rename_i h2; subst h2; exact fill_len h
    · rfl
/-- The lists as they stand. -/
structure Mk2 (wr : World) (kv : Value) (T : List Kept) (C : Nat → List Rt) : Prop where
  kl : LstV wr kv (T.map Kept.v)
  own : ∀ j t, T[j]? = some t → LR wr t.v (C j)
theorem Mk2.congr {wr : World} {kv : Value} {T : List Kept} {C D : Nat → List Rt} (h : Mk2 wr kv T C) (e : ∀ j, C j = D j) : Mk2 wr kv T D := ⟨h.kl, fun j t ht => by rw [← e]; exact h.own j t ht⟩
theorem apart_at {T : List Kept} (h : T.Pairwise (fun s t => Sep s.v.ownBlock.toList t.v.ownBlock.toList)) {i j : Nat} {s t : Kept} (hs : T[i]? = some s) (ht : T[j]? = some t) (hij : i ≠ j) : Sep s.v.ownBlock.toList t.v.ownBlock.toList := by
  have hi : i < T.length := (List.getElem?_eq_some_iff.1 hs).1
  have hj : j < T.length := (List.getElem?_eq_some_iff.1 ht).1
  have es := (List.getElem?_eq_some_iff.1 hs).2
  have et := (List.getElem?_eq_some_iff.1 ht).2
  rw [List.pairwise_iff_getElem] at h
  rcases Nat.lt_or_ge i j with h1 | h1
  · have := h i j hi hj h1
    rw [es, et] at this; exact this
  · have := h j i hj hi (by omega)
    rw [es, et] at this; exact this.symm
/-- One route of one of them written over. -/
theorem Mk2.put {wr w1 : World} {kv : Value} {T : List Kept} {i k g n cap : Nat} {t : Kept} (h : Mk2 wr kv T (conP T i k)) (ht : T[i]? = some t) (hv : t.v = .slice (some ⟨g, 0, none⟩) n cap) (hn : n = (Lp T i).length) (hk : k < n)
    (hap : T.Pairwise (fun s t => Sep s.v.ownBlock.toList t.v.ownBlock.toList)) (hou : ∀ t ∈ T, Sep t.v.ownBlock.toList kv.ownBlock.toList)
    (hl : LR w1 t.v ((conP T i k i).set k (mkP i))) (aw : Away [g] wr w1) : Mk2 w1 kv T (conP T i (k + 1)) := by
  have hg : t.v.ownBlock = some g := by rw [hv]; rfl
  refine ⟨h.kl.away aw (fun z hz hc => ?_), fun j s hs => ?_⟩
  · simp at hc; subst hc
    exact hou t (List.mem_of_getElem? ht) z (by simp [hg]) (by simp [hz])
  · by_cases hij : j = i
    · subst hij
      rw [ht] at hs
      simp only [Option.some.injEq] at hs
      subst hs
      have e : (conP T j k j).set k (mkP j) = conP T j (k + 1) j := by
        unfold conP
        rw [if_neg (by omega), if_pos rfl, if_neg (by omega), if_pos rfl]
        exact fill_step (by omega)
      rw [e] at hl
      exact hl
    · have h1 := (h.own j s hs).away aw (fun z hz hc => by
        simp at hc; subst hc
        exact apart_at hap hs ht hij z (by simp [hz]) (by simp [hg]))
      have e : conP T i k j = conP T i (k + 1) j := by
        unfold conP
        rw [if_neg hij, if_neg hij]
      rw [← e]; exact h1
theorem Lng.snoc {B : Nat} {w w' : World} {kv uv uv' x : Value} {T Y : List Held} {t : Held} {i : Nat} {m : List Rt} (hB : B ≤ w.heap.size) (ho : Old B w kv T) (hl : Lng B w T uv Y) (h : Now B w T uv Y t x m) (ht : T[i]? = some t) (hY : Y.length = i)
    (h1 : LstV w' uv' (Y.map Held.v ++ [x])) (ha : Away uv.ownBlock.toList w w') (hm : Moved w uv uv') : Old B w' kv T ∧ Lng B w' T uv' (Y ++ [⟨x, m⟩]) := by
  have htm := List.mem_of_getElem? ht
  have hxu : ∀ z, x.ownBlock = some z → z ∉ uv.ownBlock.toList := fun z hz hc => by
    rcases h.where_ z hz with h2 | h2
    · have := ho.old.1 t htm z h2; have := hl.new z (by simpa using hc); omega
    · exact h2.2.1 (by simpa using hc)
  refine ⟨⟨ho.kl.away ha (fun z hz hc => ?_), fun t' ht' => (ho.own t' ht').away ha (fun z hz hc => ?_), ho.apart, ho.outer, ho.old⟩, ⟨by simpa using h1, fun y hy => ?_, fun j y hj z hz => ?_, hl.new.moved hm hB, fun y hy z hz hc => ?_⟩⟩
  · have := ho.old.2 z hz; have := hl.new z (by simpa using hc); omega
  · have := ho.old.1 t' ht' z hz; have := hl.new z (by simpa using hc); omega
  · rw [List.mem_append, List.mem_singleton] at hy
    rcases hy with hy | rfl
    · exact (hl.own y hy).away ha (fun z hz hc => hl.ne y hy z hz (by simpa using hc))
    · exact h.lx.away ha hxu
  · rw [List.getElem?_append] at hj
    split at hj
    · exact hl.at_ j y hj z hz
    · rename_i hjl
      have h0 : j - Y.length = 0 := by
        rcases Nat.eq_zero_or_pos (j - Y.length) with h3 | h3
        · exact h3
        · rw [List.getElem?_eq_none (by simp; omega)] at hj; simp at hj
      rw [h0] at hj
      simp only [List.getElem?_cons_zero, Option.some.injEq] at hj
      subst hj
      have hji : j = i := by omega
      subst hji
      rcases h.where_ z hz with h2 | h2
      · exact .inl ⟨t, ht, h2⟩
      · exact .inr h2.1
  · rw [List.mem_append, List.mem_singleton] at hy
    rcases hm z hc with h2 | h2
    · rcases hy with hy | rfl
      · exact hl.ne y hy z hz h2
      · exact hxu z hz (by simp [h2])
    · rcases hy with hy | rfl
      · have := (hl.own y hy).lt z hz; omega
      · have := h.lx.lt z hz; omega
def TH (T : List Kept) (N : Nat) : List Held := T.mapIdx (fun j t => ⟨t.v, conP T N 0 j⟩)
theorem th_at {T : List Kept} {N j : Nat} {t : Kept} (h : T[j]? = some t) : (TH T N)[j]? = some ⟨t.v, conP T N 0 j⟩ := by unfold TH; rw [List.getElem?_mapIdx, h]; rfl
theorem th_of {T : List Kept} {N j : Nat} {x : Held} (h : (TH T N)[j]? = some x) : ∃ t, T[j]? = some t ∧ x = ⟨t.v, conP T N 0 j⟩ := by
  unfold TH at h
  rw [List.getElem?_mapIdx] at h
  cases ht : T[j]? with
  | none => rw [ht] at h; simp at h
  | some t => rw [ht] at h; simp at h; exact ⟨t, rfl, h.symm⟩
theorem th_map (T : List Kept) (N : Nat) : (TH T N).map Held.v = T.map Kept.v := by
  apply List.ext_getElem?
  intro j
  rw [List.getElem?_map, List.getElem?_map]
  cases ht : T[j]? with
  | none => unfold TH; rw [List.getElem?_mapIdx, ht]; rfl
  | some t => rw [th_at ht]; rfl
set_option maxHeartbeats 8000000 in
theorem marked_c (w : World) (kv wv : Value) (T : List Kept) (h : Bag w kv wv T) (hT : T.length ≤ 1000) :
    Calls Tryd.prog 14 #[kv, wv] w fun E w' => E = .returned (.bool true) ∧ Away ((T.flatMap (fun t => t.v.ownBlock.toList))) w w' := by
  obtain ⟨ka, kc, hke, -, -, hkx⟩ := h.kl.shape
  obtain ⟨ua, uc, hue, -, -, hux⟩ := h.wl.shape
  rw [List.length_map] at hke hue
  obtain ⟨N, hN⟩ : ∃ N, N = T.length := ⟨_, rfl⟩
  rw [← hN] at hke hue hT
  subst hke
  subst hue
  have HN := Lib.hid hN
  have H := Lib.hid h
  have HKX := Lib.hid hkx
  have HUX := Lib.hid hux
  clear h hN hkx hux
  go_enter Tryd.func14, Tryd.ntmps14
  go_wp2_with fail
  go_loopw [5] (fun x wr => ∃ (i : Nat), x = .int .i64 (i : Int) ∧ i ≤ N ∧ Away [] w wr) (fun x _ => N - (intOf x).toNat)
  case atStart => exact ⟨0, rfl, by omega, Away.refl _ _⟩
  case round =>
    obtain ⟨i, rfl, hi, hW⟩ := hrel
    have HW := Lib.hid hW
    clear hW
    by_cases hlt : i < N
    · obtain ⟨t, ht, htm⟩ : ∃ t, T[i]? = some t ∧ t ∈ T := by
        have hi' : i < T.length := by rw [← HN.out]; exact hlt
        exact ⟨T[i], by simp [hi'], by simp⟩
      obtain ⟨g1, rfl, z1⟩ := HKX.out i t.v (by rw [List.getElem?_map, ht]; rfl)
      obtain ⟨g2, rfl, z2⟩ := HUX.out i t.u (by rw [List.getElem?_map, ht]; rfl)
      obtain ⟨o1, o2, o3⟩ := H.out.own t htm
      obtain ⟨xa, xc, hx, -⟩ := o1.sl
      obtain ⟨ya, yc, hy, -⟩ := o2.sl
      rw [hx] at z1
      rw [hy] at z2
      have KS0 : ∀ w', Away [] w w' → Calls Tryd.prog 10 #[.slice xa t.p.length xc, .slice ya t.p.length yc] w' fun E w2 => E = .returned (.bool true) ∧ Away [] w w2 := fun w' hw' => by
        rw [hx] at o1
        rw [hy] at o2
        exact (same_yes ((o1.1.on hw').rd o1.2) ((o2.1.on hw').rd o1.2) (by omega)).mono (by rintro E w2 ⟨rfl, h2⟩; exact ⟨rfl, hw'.trans h2⟩)
      obtain ⟨xn, hxn⟩ : ∃ xn, xn = t.p.length := ⟨_, rfl⟩
      rw [← hxn] at KS0 z1 z2
      have KS := Lib.hid KS0
      have Z1 : Hid (∀ w', Away [] w w' → w'.cell? ⟨g1, i, none⟩ = some (.slice xa xn xc)) := fun w' hw' => hw'.cell (by simp) z1
      have Z2 : Hid (∀ w', Away [] w w' → w'.cell? ⟨g2, i, none⟩ = some (.slice ya xn yc)) := fun w' hw' => hw'.cell (by simp) z2
      have j2 : 0 ≤ (i : Int) := by omega
      have j3 : (i : Int) < (N : Int) := by omega
      have j4 : ((i : Int)).toNat = i := by omega
      clear o1 o2 o3 hx hy KS0 ht htm hxn z1 z2
      go_wp2_with fail
      refine wp_region_cls (C := fun w' => Away [] w w') (by kernel_rfl) (by kernel_rfl) (by exact HW.out.drew) ?_
      go_big_quiet_want; (refine quiet_val ?_ ?_ ?_; rotate_left; (intro w; go_simp; rfl); go_simp; go_big_quiet_on)
      go_big_quiet_want; (refine quiet_val ?_ ?_ ?_; rotate_left; (intro w; go_simp; rfl); go_simp; go_big_quiet_on)
      go_big_quiet_want; (refine quiet_val ?_ ?_ ?_; rotate_left; (intro w; go_simp; rfl); go_simp; go_big_quiet_on)
      go_big_quiet_want; refine quiet_ldx _ rfl (ad := ⟨g1, i, none⟩) rfl (fun w' h => ldL (Z1.out w' h)) ?_; go_simp; go_big_quiet_on
      go_big_quiet_want; (refine quiet_val ?_ ?_ ?_; rotate_left; (intro w; go_simp; rfl); go_simp; go_big_quiet_on)
      go_big_quiet_want; (refine quiet_val ?_ ?_ ?_; rotate_left; (intro w; go_simp; rfl); go_simp; go_big_quiet_on)
      go_big_quiet_want; (refine quiet_val ?_ ?_ ?_; rotate_left; (intro w; go_simp; rfl); go_simp; go_big_quiet_on)
      go_big_quiet_want; refine quiet_ldx _ rfl (ad := ⟨g2, i, none⟩) rfl (fun w' h => ldL (Z2.out w' h)) ?_; go_simp; go_big_quiet_on
      go_big_quiet_want; refine quiet_call 10 #[.slice xa xn xc, .slice ya xn yc] (.bool true) ?_ KS.out ?_
      · intro w; go_simp; done
      go_simp; go_big_quiet_on
      go_big_quiet_want; (refine quiet_val ?_ ?_ ?_; rotate_left; (intro w; go_simp; rfl); go_simp; go_big_quiet_on)
      refine wpQuiet_nil ?_
      intro V hV
      have HV := Lib.hid hV
      clear hV
      go_wp2_with fail
      go_roundw
      case rel => exact ⟨i + 1, by go_num, by omega, HV.out⟩
      case measure => simp [intOf]; omega
    · have HM0 : Hid (Mk2 wr (.slice ka N kc) T (conP T 0 0)) := by
        refine ⟨H.out.kl.on HW.out, fun j t ht => ?_⟩
        have e : conP T 0 0 j = t.p := by
          unfold conP Lp
          rw [if_neg (by omega)]
          by_cases h0 : j = 0
          · subst h0; rw [if_pos rfl, fill_zero, ht]; rfl
          · rw [if_neg h0, ht]; rfl
        rw [e]
        exact (H.out.own t (List.mem_of_getElem? ht)).1.on HW.out
      have HA0 : Hid (Away (T.flatMap (fun t => t.v.ownBlock.toList)) w wr) := HW.out.mono (by simp)
      have HRT : Hid (∀ t ∈ T, t.p.length ≤ 32) := fun t ht => (H.out.own t ht).2.2
      have HAP := Lib.hid H.out.apart
      have HOU := Lib.hid H.out.outer
      clear HW
      go_wp2_with fail
      go_loopw [6] (fun x wr => ∃ i : Nat, x = .int .i64 (i : Int) ∧ i ≤ N ∧ Mk2 wr (.slice ka N kc) T (conP T i 0) ∧ Away (T.flatMap (fun t => t.v.ownBlock.toList)) w wr) (fun x _ => N - (intOf x).toNat)
      case atStart => exact ⟨0, rfl, by omega, HM0.out, HA0.out⟩
      case round =>
        clear HM0 HA0
        obtain ⟨i, rfl, hi, hm2, haw⟩ := hrel
        have HM2 := Lib.hid hm2
        have HAW := Lib.hid haw
        clear hm2 haw
        by_cases hlt2 : i < N
        · obtain ⟨t, ht, htm⟩ : ∃ t, T[i]? = some t ∧ t ∈ T := by
            have hi' : i < T.length := by rw [← HN.out]; exact hlt2
            exact ⟨T[i], by simp [hi'], by simp⟩
          have HTI := Lib.hid ht
          have hlp : Lp T i = t.p := by unfold Lp; rw [ht]; rfl
          have hshp := HRT.out t htm
          obtain ⟨n, hn⟩ : ∃ n, n = (Lp T i).length := ⟨_, rfl⟩
          have hnb : n ≤ 32 := by rw [hn, hlp]; exact hshp
          have HNL := Lib.hid hn
          have j2 : 0 ≤ (i : Int) := by omega
          have j3 : (i : Int) < (N : Int) := by omega
          have j4 : ((i : Int)).toNat = i := by omega
          obtain ⟨va, vc, hve⟩ : ∃ va vc, t.v = .slice va n vc := by
            have h1 := HM2.out.own i t ht
            have h2 : (conP T i 0 i).length = n := by rw [con_len (by omega), hn]
            rcases h1.1.2 with ⟨h3, h4⟩ | ⟨g, cap, cur, h3, _⟩
            · exact ⟨none, 0, by rw [h3, ← h2, h4]⟩
            · exact ⟨_, _, by rw [h3, h2]⟩
          have HVE := Lib.hid hve
          have HMEM : Hid (∀ z, t.v.ownBlock = some z → z ∈ T.flatMap (fun t => t.v.ownBlock.toList)) := fun z hz => List.mem_flatMap.2 ⟨t, htm, by simp [hz]⟩
          clear ht hlp hshp hn hve
          go_wp2_with fail
          go_loopw [7] (fun x wr => ∃ k : Nat, x = .int .i64 (k : Int) ∧ k ≤ n ∧ Mk2 wr (.slice ka N kc) T (conP T i k) ∧ Away (T.flatMap (fun t => t.v.ownBlock.toList)) w wr) (fun x _ => n - (intOf x).toNat)
          case atStart => exact ⟨0, rfl, by omega, HM2.out, HAW.out⟩
          case round =>
            clear HM2 HAW
            obtain ⟨k, rfl, hk, hm2, haw⟩ := hrel
            obtain ⟨a1, c1, he1, -, -, hx1⟩ := hm2.kl.shape
            simp only [Value.slice.injEq] at he1
            obtain ⟨rfl, -, -⟩ := he1
            obtain ⟨g1, rfl, z1⟩ := hx1 i t.v (by rw [List.getElem?_map, HTI.out]; rfl)
            rw [HVE.out] at z1
            have HM2 := Lib.hid hm2
            have HAW := Lib.hid haw
            clear hm2 haw hx1
            by_cases hlk : k < n
            · obtain ⟨g, rfl⟩ : ∃ g, va = some ⟨g, 0, none⟩ := by
                have h1 := HM2.out.own i t HTI.out
                rw [HVE.out] at h1
                rcases h1.1.2 with ⟨h3, _⟩ | ⟨g, cap, cur, h3, _⟩
                · simp only [Value.slice.injEq] at h3; omega
                · simp only [Value.slice.injEq] at h3; exact ⟨g, h3.1⟩
              have h1 := HM2.out.own i t HTI.out
              rw [HVE.out] at h1
              have HL1 := Lib.hid h1
              have HRM := Lib.hid (run_mkP i)
              have l2 : 0 ≤ (k : Int) := by omega
              have l3 : (k : Int) < (n : Int) := by omega
              have l4 : ((k : Int)).toNat = k := by omega
              clear h1
              have hrm := HRM.out
              go_wp2_with (refine wpList_putR rfl _ _ rfl g n vc k rfl _ (mkP i) (mkP_ok i) rfl HL1.out hlk ?_; refine Hid.out ?_)
              refine Lib.hid ?_
              intro w1 hl1 haw1
              have HM3 := Lib.hid (HM2.out.put HTI.out HVE.out HNL.out hlk HAP.out HOU.out (by rw [HVE.out]; exact hl1) haw1)
              have HA3 := Lib.hid (HAW.out.next haw1 (fun z hz => .inl (by simp at hz; subst hz; exact HMEM.out _ (by rw [HVE.out]; rfl))))
              clear hl1 haw1 HL1 HRM hrm
              go_wp2_with fail
              go_roundw
              case rel => exact ⟨k + 1, by go_num, by omega, HM3.out, HA3.out⟩
              case measure => simp [intOf]; omega
            · obtain rfl : k = n := by omega
              have HM4 : Hid (Mk2 wr (.slice (some ⟨g1, 0, none⟩) N kc) T (conP T (i + 1) 0)) := HM2.out.congr (fun j => by rw [HNL.out]; exact con_next T i j)
              go_wp2_with fail
              go_roundw
              case rel => exact ⟨i + 1, by go_num, by omega, HM4.out, HAW.out⟩
              case measure => simp [intOf]; omega
        · obtain rfl : i = N := by omega
          have HOLD : Hid (Old w.heap.size wr (.slice ka i kc) (TH T i)) := by
            refine ⟨by rw [th_map]; exact HM2.out.kl, fun x hx => ?_, fun a b s t hs ht hab z hz hc => ?_, fun x hx z hz hc => ?_, fun x hx z hz => ?_, fun z hz => H.out.kl.lt z hz⟩
            · obtain ⟨j, hj⟩ := List.getElem?_of_mem hx
              obtain ⟨t, ht, rfl⟩ := th_of hj
              exact HM2.out.own j t ht
            · obtain ⟨s', hs', rfl⟩ := th_of hs
              obtain ⟨t', ht', rfl⟩ := th_of ht
              exact apart_at HAP.out hs' ht' hab z (by simpa using hz) (by simpa using hc)
            · obtain ⟨j, hj⟩ := List.getElem?_of_mem hx
              obtain ⟨t, ht, rfl⟩ := th_of hj
              exact HOU.out t (List.mem_of_getElem? ht) z (by simpa using hz) (by simpa using hc)
            · obtain ⟨j, hj⟩ := List.getElem?_of_mem hx
              obtain ⟨t, ht, rfl⟩ := th_of hj
              exact (H.out.own t (List.mem_of_getElem? ht)).1.lt z hz
          have HB : Hid (w.heap.size ≤ wr.heap.size) := HAW.out.size
          clear HM2 HKX HUX
          go_wp2_with fail
          go_loopw [8, 9] (fun u x wr => ∃ (j : Nat) (Y : List Held), x = .int .i64 (j : Int) ∧ j ≤ i ∧ Y.length = j ∧ Old w.heap.size wr (.slice ka i kc) (TH T i) ∧ Lng w.heap.size wr (TH T i) u Y ∧ (∀ (b : Nat) (y : Held), Y[b]? = some y → y.l = List.replicate ((Lp T b).length + 80) (mkP b)) ∧ Away (T.flatMap (fun t => t.v.ownBlock.toList)) w wr) (fun _ x _ => i - (intOf x).toNat)
          case atStart => exact ⟨0, [], rfl, by omega, rfl, HOLD.out, ⟨LstV.nil _, by simp, by simp, New.nil _, by simp⟩, by simp, HAW.out⟩
          case round =>
            clear HOLD HAW HB
            obtain ⟨j, Y, rfl, hj, hY, hold, hlng, hyl, haw⟩ := hrel
            have HOLD := Lib.hid hold
            have HLNG := Lib.hid hlng
            have HYL := Lib.hid hyl
            have HAW := Lib.hid haw
            clear hold hlng hyl haw
            by_cases hlt4 : j < i
            · obtain ⟨t, ht, htm⟩ : ∃ t, T[j]? = some t ∧ t ∈ T := by
                have hi' : j < T.length := by rw [← HN.out]; exact hlt4
                exact ⟨T[j], by simp [hi'], by simp⟩
              have HTI := Lib.hid (th_at (N := i) ht)
              have hlp : Lp T j = t.p := by unfold Lp; rw [ht]; rfl
              have hshp := HRT.out t htm
              obtain ⟨n, hn⟩ : ∃ n, n = (Lp T j).length := ⟨_, rfl⟩
              have hnb : n ≤ 32 := by rw [hn, hlp]; exact hshp
              have HNL := Lib.hid hn
              have hcon : conP T i 0 j = List.replicate n (mkP j) := by unfold conP; rw [if_pos hlt4, hn]
              rw [hcon] at HTI
              have HMEM : Hid (∀ z, t.v.ownBlock = some z → z ∈ T.flatMap (fun t => t.v.ownBlock.toList)) := fun z hz => List.mem_flatMap.2 ⟨t, htm, by simp [hz]⟩
              have hlt0 := HOLD.out.own _ (List.mem_of_getElem? HTI.out)
              obtain ⟨va, vc, hve⟩ : ∃ va vc, t.v = .slice va n vc := by
                rcases hlt0.1.2 with ⟨h3, h4⟩ | ⟨g, cap, cur, h3, _⟩
                · exact ⟨none, 0, by rw [show t.v = _ from h3]; simp at h4; rw [h4]⟩
                · exact ⟨some ⟨g, 0, none⟩, cap, by rw [show t.v = _ from h3, List.length_replicate]⟩
              have HNOW : Hid (Now w.heap.size wr (TH T i) u8 Y ⟨t.v, List.replicate n (mkP j)⟩ t.v (List.replicate n (mkP j))) := ⟨hlt0, by simp, .inl rfl⟩
              obtain ⟨a1, c1, he1, -, -, hx1⟩ := HOLD.out.kl.shape
              simp only [Value.slice.injEq] at he1
              obtain ⟨rfl, -, -⟩ := he1
              obtain ⟨g1, rfl, z1⟩ := hx1 j t.v (by rw [List.getElem?_map, HTI.out]; rfl)
              rw [hve] at z1 HNOW
              have HVE := Lib.hid hve
              have j2 : 0 ≤ (j : Int) := by omega
              have j3 : (j : Int) < (i : Int) := by omega
              have j4 : ((j : Int)).toNat = j := by omega
              clear ht hlp hshp hn hve hlt0 hx1 hcon
              go_wp2_with fail
              go_loopw [10, 11] (fun x q wr => ∃ (k : Nat), q = .int .i64 (k : Int) ∧ k ≤ 80 ∧ Old w.heap.size wr (.slice (some ⟨g1, 0, none⟩) i kc) (TH T i) ∧ Lng w.heap.size wr (TH T i) u8 Y ∧ Now w.heap.size wr (TH T i) u8 Y ⟨.slice va n vc, List.replicate n (mkP j)⟩ x (List.replicate (n + k) (mkP j)) ∧ Away (T.flatMap (fun t => t.v.ownBlock.toList)) w wr) (fun _ q _ => 80 - (intOf q).toNat)
              case atStart => exact ⟨0, rfl, by omega, HOLD.out, HLNG.out, HNOW.out, HAW.out⟩
              case round =>
                clear HOLD HLNG HAW HNOW
                obtain ⟨k, rfl, hk, hold, hlng, hnow, haw⟩ := hrel
                have HOLD := Lib.hid hold
                have HLNG := Lib.hid hlng
                have HNOW := Lib.hid hnow
                have HAW := Lib.hid haw
                clear hold hlng hnow haw
                by_cases hlk : k < 80
                · have hrm := run_mkP j
                  go_wp2_with (refine wpList_buildS rfl _ rfl (mkP j) rfl (mkP_ok j) ?_; refine Hid.out ?_)
                  refine Lib.hid ?_
                  intro gb W hgb hbx hab
                  have HBX := Lib.hid hbx
                  have AB := Lib.hid hab
                  clear hbx hab hgb hrm
                  go_wp2_with (refine wpList_appX rfl _ _ rfl _ (List.replicate (n + k) (mkP j)) rfl (by exact HNOW.out.lx.on AB.out) gb 1 rfl (mkP j) HBX.out (mkP_ok j) (by simp; omega) ?_; refine Hid.out ?_)
                  refine Lib.hid ?_
                  intro v' w2 hone
                  have hst := Now.step (B := w.heap.size) (i := j) (by have := HAW.out.size; have := AB.out.size; omega) (HOLD.out.on AB.out) (HLNG.out.on AB.out) (HNOW.out.on AB.out) (by rw [← HVE.out]; exact HTI.out) hY hone
                  have HO2 := Lib.hid hst.1
                  have HL2 := Lib.hid hst.2.1
                  have HN2 : Hid (Now w.heap.size w2 (TH T i) u8 Y ⟨.slice va n vc, List.replicate n (mkP j)⟩ v' (List.replicate (n + (k + 1)) (mkP j))) := by
                    have h9 := hst.2.2.1
                    rw [show List.replicate (n + k) (mkP j) ++ [mkP j] = List.replicate (n + (k + 1)) (mkP j) from by rw [← Nat.add_assoc, List.replicate_succ']] at h9
                    exact h9
                  have HA2 : Hid (Away (T.flatMap (fun t => t.v.ownBlock.toList)) w w2) := (HAW.out.trans (AB.out.mono (by simp))).next hst.2.2.2 (fun z hz => by
                    rcases HNOW.out.where_ z (by simpa using hz) with h8 | h8
                    · exact .inl (HMEM.out z (by rw [HVE.out]; exact h8))
                    · exact .inr h8.1)
                  clear hst hone HBX
                  go_wp2_with fail
                  go_roundw
                  case rel => exact ⟨k + 1, by go_num, by omega, HO2.out, HL2.out, HN2.out, HA2.out⟩
                  case measure => simp [intOf]; omega
                · obtain rfl : k = 80 := by omega
                  obtain ⟨xa, xc, hxe⟩ : ∃ xa xc, u10 = .slice xa (n + 80) xc := by
                    rcases HNOW.out.lx.1.2 with ⟨h3, h4⟩ | ⟨g, cap, cur, h3, _⟩
                    · simp at h4
                    · exact ⟨some ⟨g, 0, none⟩, cap, by rw [h3, List.length_replicate]⟩
                  subst hxe
                  obtain ⟨W, hW⟩ : ∃ W, W = wr.alloc (.cells #[.slice xa (n + 80) xc] 22) := ⟨_, rfl⟩
                  have AB : Hid (Away [] wr W) := by show Away _ _ _; rw [hW]; exact (Away.refl _ _).alloc _
                  have hY2 : Y.length ≤ 1000 := by omega
                  go_wp2_with (at_builtin; refine wpList_appV rfl _ _ rfl _ (Y.map Held.v) [.slice xa (n + 80) xc] rfl (by (first | rw [← hW] | skip); exact HLNG.out.ul.on AB.out) ⟨_, 0, none⟩ 1 1 rfl rfl (fun b u hu => by
                    rcases b with _ | b
                    · simp at hu; subst hu; simp [Addr.add]
                    · simp at hu) (by simp [Value.oneCell']) (by simp; omega) ?_)
                  intro v' w2 hlv haw2 hmv
                  rw [← hW] at haw2 hmv
                  have hsn := Lng.snoc (B := w.heap.size) (i := j) (by have := HAW.out.size; have := AB.out.size; omega) (HOLD.out.on AB.out) (HLNG.out.on AB.out) (HNOW.out.on AB.out) (by rw [← HVE.out]; exact HTI.out) hY hlv haw2 hmv
                  have HO2 := Lib.hid hsn.1
                  have HL2 := Lib.hid hsn.2
                  have HA2 : Hid (Away (T.flatMap (fun t => t.v.ownBlock.toList)) w w2) := (HAW.out.trans (AB.out.mono (by simp))).next haw2 (fun z hz => .inr (HLNG.out.new z (by simpa using hz)))
                  have HY3 : Hid (∀ (b : Nat) (y : Held), (Y ++ [⟨.slice xa (n + 80) xc, List.replicate (n + 80) (mkP j)⟩])[b]? = some y → y.l = List.replicate ((Lp T b).length + 80) (mkP b)) := fun b y hb => by
                    rw [List.getElem?_append] at hb
                    split at hb
                    · exact HYL.out b y hb
                    · have h0 : b - Y.length = 0 := by
                        rcases Nat.eq_zero_or_pos (b - Y.length) with h3 | h3
                        · exact h3
                        · rw [List.getElem?_eq_none (by simp; omega)] at hb; simp at hb
                      rw [h0] at hb
                      simp only [List.getElem?_cons_zero, Option.some.injEq] at hb
                      subst hb
                      have hbj : b = j := by omega
                      subst hbj
                      rw [← HNL.out]
                  clear hsn hlv haw2 hmv hW
                  go_wp2_with fail
                  go_roundw
                  case rel => exact ⟨j + 1, _, by go_num, by omega, by simp [hY], HO2.out, HL2.out, HY3.out, HA2.out⟩
                  case measure => simp [intOf]; omega
            · obtain rfl : j = i := by omega
              go_wp2_with fail
              go_loopw [12] (fun x wz => ∃ b : Nat, x = .int .i64 (b : Int) ∧ b ≤ j ∧ wz = wr) (fun x _ => j - (intOf x).toNat)
              case atStart => exact ⟨0, rfl, by omega, rfl⟩
              case round =>
                obtain ⟨b, rfl, hb, hWZ⟩ := hrel
                subst hWZ
                by_cases hlt6 : b < j
                · obtain ⟨t, ht, htm⟩ : ∃ t, T[b]? = some t ∧ t ∈ T := by
                    have hi' : b < T.length := by rw [← HN.out]; exact hlt6
                    exact ⟨T[b], by simp [hi'], by simp⟩
                  obtain ⟨y, hy, hym⟩ : ∃ y, Y[b]? = some y ∧ y ∈ Y := by
                    have hi' : b < Y.length := by omega
                    exact ⟨Y[b], by simp [hi'], by simp⟩
                  have HTI := Lib.hid (th_at (N := j) ht)
                  have hlp : Lp T b = t.p := by unfold Lp; rw [ht]; rfl
                  have hshp := HRT.out t htm
                  obtain ⟨n, hn⟩ : ∃ n, n = (Lp T b).length := ⟨_, rfl⟩
                  have hnb : n ≤ 32 := by rw [hn, hlp]; exact hshp
                  have hcon : conP T j 0 b = List.replicate n (mkP b) := by unfold conP; rw [if_pos hlt6, hn]
                  rw [hcon] at HTI
                  have l1 := HOLD.out.own _ (List.mem_of_getElem? HTI.out)
                  have l2 := HLNG.out.own y hym
                  rw [HYL.out b y hy, ← hn] at l2
                  obtain ⟨ta, tc, hte, htr⟩ := l1.sl
                  obtain ⟨ya, yc, hye, hyr⟩ := l2.sl
                  simp only [List.length_replicate] at hte hye
                  obtain ⟨a1, c1, he1, -, -, hx1⟩ := HOLD.out.kl.shape
                  simp only [Value.slice.injEq] at he1
                  obtain ⟨rfl, -, -⟩ := he1
                  obtain ⟨g1, rfl, z1⟩ := hx1 b t.v (by rw [List.getElem?_map, HTI.out]; rfl)
                  obtain ⟨a2, c2, he2, -, -, hx2⟩ := HLNG.out.ul.shape
                  rw [List.length_map, hY] at he2
                  subst he2
                  obtain ⟨g2, rfl, z2⟩ := hx2 b y.v (by rw [List.getElem?_map, hy]; rfl)
                  rw [hte] at z1
                  rw [hye] at z2
                  have HTR := Lib.hid htr
                  have HYR := Lib.hid hyr
                  have j2 : 0 ≤ (b : Int) := by omega
                  have j3 : (b : Int) < (j : Int) := by omega
                  have j4 : ((b : Int)).toNat = b := by omega
                  clear ht hlp hshp hn hcon l1 l2 hte hye hx1 hx2 htr hyr hy
                  go_wp2_with fail
                  go_loopw [13] (fun x wz => ∃ k : Nat, x = .int .i64 (k : Int) ∧ k ≤ n + 80 ∧ wz = wr) (fun x _ => n + 80 - (intOf x).toNat)
                  case atStart => exact ⟨0, rfl, by omega, rfl⟩
                  case round =>
                    obtain ⟨k, rfl, hk, hWZ⟩ := hrel
                    subst hWZ
                    by_cases hlk : k < n + 80
                    · obtain ⟨yb, rfl, y2⟩ := HYR.out k (mkP b) (by rw [List.getElem?_replicate, if_pos hlk])
                      have k2 : 0 ≤ (k : Int) := by omega
                      have k3 : (k : Int) < ((n + 80 : Nat) : Int) := by omega
                      have k5 : (k : Int) < (n : Int) + 80 := by omega
                      have k4 : ((k : Int)).toNat = k := by omega
                      simp only [mkP] at y2
                      by_cases hkn : k < n
                      · obtain ⟨tb, rfl, t2⟩ := HTR.out k (mkP b) (by rw [List.getElem?_replicate, if_pos hkn])
                        simp only [mkP] at t2
                        have k6 : (k : Int) < (n : Int) := by omega
                        go_wp2_with fail
                        go_roundw
                        case rel => exact ⟨k + 1, by go_num, by omega, by trivial⟩
                        case measure => simp [intOf]; omega
                      · have k6 : ¬ ((k : Int) < (n : Int)) := by omega
                        go_wp2_with fail
                        go_roundw
                        case rel => exact ⟨k + 1, by go_num, by omega, by trivial⟩
                        case measure => simp [intOf]; omega
                    · have k5 : ¬ ((k : Int) < (n : Int) + 80) := by omega
                      go_wp2_with fail
                      go_roundw
                      case rel => exact ⟨b + 1, by go_num, by omega, by trivial⟩
                      case measure => simp [intOf]; omega
                · go_wp2_with fail
                  go_ret
                  exact ⟨rfl, HAW.out⟩
end Go.Proofs.YtoifolmcdkfniaaDoor
