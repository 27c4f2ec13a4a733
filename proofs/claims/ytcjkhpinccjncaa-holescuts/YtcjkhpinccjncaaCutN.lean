/-
  What HolesCuts asks, as plain data; the law's own cut.
-/
import Derived.Test.YtcjkhpinccjncaaOnceN
import Derived.Test.YtcjkhpinccjncaaPcS
namespace Go.Proofs.Ytcjkhpinccjncaa
open Go.ChangeShapes Go.WideShapes Go.ChangeAt Go.RowKit
set_option linter.unusedVariables false
set_option linter.unusedSimpArgs false
set_option maxRecDepth 100000

/-- Pieces that are a cut of N offsets. -/
structure CutOk (N : Int) (L : List Pc) : Prop where
  fit : ∀ p ∈ L, Fit N p
  ok : ∀ p ∈ L, OkP p
  cover : ∀ i, 0 ≤ i → i < N → TL L i = true
  last : ∃ p ∈ L, p.m = false
  len : L.length ≤ 65535
/-- As far as it is cut. -/
structure CutTo (N at' : Int) (L : List Pc) : Prop where
  fit : ∀ p ∈ L, Fit N p
  ok : ∀ p ∈ L, OkP p
  cover : ∀ i, 0 ≤ i → i < at' → TL L i = true
  last : at' = N → 1 ≤ N → ∃ p ∈ L, p.m = false
  len : (L.length : Int) ≤ at'
  le : at' ≤ N
theorem CutTo.nil {N : Int} (h : 1 ≤ N) : CutTo N 0 [] := ⟨by simp, by simp, fun i h1 h2 => by omega, fun h1 h2 => by omega, by simp, by omega⟩
theorem CutTo.snoc {N a to : Int} {L : List Pc} (h : CutTo N a L) (ha : 0 ≤ a) (h1 : a < to) (h2 : to ≤ N) (hN : N ≤ 65535) : CutTo N to (L ++ [⟨a, to - a, decide (to < N)⟩]) := by
  have hl := h.len
  refine ⟨fun p hp => ?_, fun p hp => ?_, fun i i1 i2 => ?_, fun e1 e2 => ?_, by simp; omega, h2⟩
  · rw [List.mem_append, List.mem_singleton] at hp
    rcases hp with hp | rfl
    · exact h.fit p hp
    · refine ⟨arg_iff.2 (by simp only; omega), fun hc => ?_, fun _ => by simp only; omega, fun hc => by omega⟩
      have := of_decide_eq_false hc
      simp only
      omega
  · rw [List.mem_append, List.mem_singleton] at hp
    rcases hp with hp | rfl
    · exact h.ok p hp
    · unfold OkP I64; simp only; omega
  · rw [TL_snoc]
    rcases Int.lt_or_le i a with h3 | h3
    · rw [h.cover i i1 h3]; rfl
    · rw [show inS ((⟨a, to - a, decide (to < N)⟩ : Pc).o, (⟨a, to - a, decide (to < N)⟩ : Pc).o + (⟨a, to - a, decide (to < N)⟩ : Pc).n) i = true from by rw [inS_iff]; simp only; omega]
      simp
  · exact ⟨⟨a, to - a, decide (to < N)⟩, by simp, decide_eq_false (by omega)⟩
theorem CutTo.all {N : Int} {L : List Pc} (h : CutTo N N L) (h1 : 1 ≤ N) (h2 : N ≤ 65535) : CutOk N L := ⟨h.fit, h.ok, h.cover, h.last rfl h1, by have := h.len; omega⟩

/-- How many are there, and missing. -/
theorem cnt_holes {T : Int → Bool} {m : List Sp} {e : Int} (h : Ho T m e) : cnt T 65535 + lenP m = topOf e := by
  rw [show lenP m = cnt (fun i => decide (0 ≤ i ∧ i < topOf e) && !T i) 65535 from by rw [len_cnt _ _ h.of.right]; exact cnt_congr (fun i _ => h.of.has i)]
  rw [← cnt_or T _ 65535 (fun i hi => by rw [hi]; simp)]
  have h2 := cnt_span (0, topOf e) (by simp) 65535
  have htop : 0 ≤ topOf e ∧ topOf e ≤ 65535 := by
    have := h.en
    unfold topOf
    split <;> omega
  rw [show (max 0 (min (topOf e) ((65535 : Nat) : Int) - 0) : Int) = topOf e from by omega] at h2
  refine Eq.trans (cnt_congr (g := inS (0, topOf e)) (fun i _ => ?_)) h2
  show (T i || (decide (0 ≤ (i : Int) ∧ (i : Int) < topOf e) && !T i)) = decide (0 ≤ (i : Int) ∧ (i : Int) < topOf e)
  cases h4 : T i
  · simp
  · rw [decide_eq_true (h.there i h4)]; rfl
theorem cnt_fresh {T : Int → Bool} {m : List Sp} {e off n : Int} {more : Bool} (h : Ho T m e) (hok : putOk m e off n more = true) :
    cnt T 65535 + lenP (freshP m (off, off + n)) = cnt (fun i => T i || inS (off, off + n) i) 65535 := by
  unfold putOk at hok
  rw [Bool.and_eq_true] at hok
  have hf := fresh_ho h hok.1 hok.2
  have h1 := cnt_or T (fun i => inS (off, off + n) i && !T i) 65535 (fun i hi => by simp [hi])
  rw [show lenP (freshP m (off, off + n)) = cnt (fun i => inS (off, off + n) i && !T i) 65535 from by
    rw [len_cnt _ _ hf.right]; exact cnt_congr (fun i _ => hf.has i), ← h1]
  refine cnt_congr (fun i _ => ?_)
  cases T i <;> cases inS (off, off + n) i <;> rfl
theorem cnt_ge (f : Int → Bool) : ∀ N : Nat, 0 ≤ cnt f N
  | 0 => by unfold cnt; omega
  | N + 1 => by unfold cnt; have := cnt_ge f N; split <;> omega
theorem len_zero {m : List Sp} (h : rightP m = true) : lenP m = 0 ↔ m = [] := by
  constructor
  · intro h0
    cases m with
    | nil => rfl
    | cons x r =>
      exfalso
      have hi := right_is h x (by simp)
      have hr := len_bound r (fun s hs => right_is h s (by simp [hs]))
      have e : lenP (x :: r) = x.2 - x.1 + lenP r := by simp [lenP]
      rw [e] at h0
      unfold Is at hi
      omega
  · rintro rfl; rfl
/-- Done, of pieces of a cut. -/
theorem done_cut {M : List Pc} {m : List Sp} {e N : Int} (h : Put M m e) (hf : ∀ p ∈ M, Fit N p) (h1 : 1 ≤ N) : (e = -1 ∨ e = N) ∧ doneP m e = (decide (e ≠ -1) && (cnt (TL M) 65535 == N)) := by
  have he : e = -1 ∨ e = N := by
    rcases Int.decEq e (-1) with h2 | h2
    · obtain ⟨q, hq, h3⟩ := h.known h2
      have h4 := (hf q hq).last h3
      have h5 := (h.fit q hq).last h3
      omega
    · exact .inl h2
  refine ⟨he, ?_⟩
  unfold doneP
  rcases he with he | he
  · rw [decide_eq_false (show ¬ (e ≠ -1) by omega), Bool.false_and, Bool.false_and]
  · have h2 := cnt_holes h.ho
    have h3 : topOf e = N := by unfold topOf; rw [if_neg (by omega)]; exact he
    rw [h3] at h2
    have hd : decide (m = []) = (cnt (TL M) 65535 == N) := by
      rw [Bool.eq_iff_iff, decide_eq_true_eq, beq_iff_eq, ← len_zero h.ho.of.right]
      omega
    rw [hd]
theorem TL_fun (M : List Pc) (p : Pc) : (fun i => TL M i || inS (p.o, p.o + p.n) i) = TL (M ++ [p]) := by funext i; rw [TL_snoc]
/-- All of it came. -/
theorem cut_end {M L : List Pc} {m : List Sp} {e N : Int} (h : Put M m e) (hf : ∀ p ∈ M, Fit N p) (hL : CutOk N L) (hin : ∀ p ∈ L, p ∈ M) (h1 : 1 ≤ N) (h2 : N ≤ 65535) : e = N ∧ m = [] ∧ cnt (TL M) 65535 = N := by
  obtain ⟨he, hd⟩ := done_cut h hf h1
  obtain ⟨p, hp, hpm⟩ := hL.last
  have hen : e = N := by
    rcases he with he | he
    · have := (h.fit p (hin p hp)).more he
      rw [hpm] at this; simp at this
    · exact he
  have htop : topOf e = N := by unfold topOf; rw [if_neg (by omega)]; exact hen
  have hcov : ∀ i, 0 ≤ i → i < N → TL M i = true := fun i i1 i2 => by
    have := hL.cover i i1 i2
    simp only [TL, List.any_eq_true] at this ⊢
    obtain ⟨q, hq, h3⟩ := this
    exact ⟨q, hin q hq, h3⟩
  have hm : m = [] := by
    cases m with
    | nil => rfl
    | cons x r =>
      exfalso
      have hi := right_is h.ho.of.right x (by simp)
      unfold Is at hi
      have h3 : inB (x :: r) x.1 = true := inB_iff.2 ⟨x, by simp, by omega, by omega⟩
      rw [h.ho.of.has, htop, Bool.and_eq_true, decide_eq_true_eq] at h3
      rw [hcov x.1 h3.1.1 h3.1.2] at h3
      simp at h3
  refine ⟨hen, hm, ?_⟩
  have := cnt_holes h.ho
  rw [htop, hm] at this
  have e0 : lenP [] = 0 := rfl
  omega

set_option maxHeartbeats 8000000 in
theorem cut_l (N : Int) (ca : Option Addr) (cs : List Int) (nc ccap : Nat) (w : World) (hn : cs.length = nc) (hr : RowI w ca cs) (h1 : 1 ≤ N) (h2 : N ≤ 65535) (hlen : nc ≤ 17592186043904) :
    Calls Try.prog 17 #[.int .i64 N, .slice ca nc ccap] w fun E w' => ∃ v, E = .returned v ∧ ∃ L, LstC w' v L ∧ CutOk N L ∧ New w.heap.size v ∧ Away [] w w' := by
  have HR := hidI hr
  have HN := hidI hn
  clear hr hn
  go_enter Try.func17, Try.ntmps17
  go_wp2_with fail
  go_loopw [5, 6, 7] (fun u a i wr => ∃ (k : Nat) (at' : Int) (L : List Pc), i = .int .i64 (k : Int) ∧ a = .int .i64 at' ∧ 0 ≤ at' ∧ k = L.length ∧ CutTo N at' L ∧ LstC wr u L ∧ New w.heap.size u ∧ Away [] w wr) (fun _ a _ _ => (N - intOf a).toNat)
  case atStart => exact ⟨0, 0, [], rfl, rfl, by omega, rfl, CutTo.nil h1, LstC.nil _, New.nil _, Away.refl _ _⟩
  case round =>
    obtain ⟨k, a, L, rfl, rfl, ha, hk, hc, hl, hnw, haw⟩ := hrel
    have HC := hidI hc
    have HL := hidI hl
    have HNW := hidI hnw
    have HAW := hidI haw
    have HK := hidI hk
    have hkb : (k : Int) ≤ a := by rw [hk]; exact hc.len
    have hle := hc.le
    clear hc hl hnw haw hk
    by_cases hlt : a < N
    · by_cases hcu : k < nc ∧ k < 200
      · obtain ⟨hc1, hc2⟩ := hcu
        obtain ⟨cv, hcv⟩ : ∃ cv, cs[k]? = some cv := ⟨cs[k]'(by have := HN.out; omega), by simp⟩
        obtain ⟨cb, coff, rfl, cc, ci⟩ := (HR.out.on HAW.out).at hcv
        have KRT := hidI (rest_c cv (N - a - 1) wr ci (by omega) (by omega))
        have hri := rest_in (n := cv) (hi := N - a - 1) (by omega)
        generalize restP cv (N - a - 1) = rr at *
        obtain ⟨hr1, hr2⟩ := hri
        obtain ⟨to, hto⟩ : ∃ to, a + 1 + rr = to := ⟨_, rfl⟩
        have t1 : a < to := by omega
        have t2 : to ≤ N := by omega
        have j2 : 0 ≤ (k : Int) := by omega
        have j3 : (k : Int) < (nc : Int) := by omega
        have j4 : ((k : Int)).toNat = k := by omega
        have j5 : (k : Int) < 200 := by omega
        clear hcv ci
        go_wp2_with fail
        refine KRT.out.mono ?_
        rintro E wr ⟨rfl, rfl⟩
        obtain ⟨W, hW⟩ : ∃ W, W = wr.alloc (.cells #[.int .i64 a, .int .i64 (to - a), .bool (decide (to < N))] 32) := ⟨_, rfl⟩
        have AB : Hid (Away [] wr W) := by show Away _ _ _; rw [hW]; exact (Away.refl _ _).alloc _
        have HPO : Hid (OkP ⟨a, to - a, decide (to < N)⟩) := by unfold Hid OkP I64; simp only; omega
        have HRW : Hid (RowC W (some ⟨wr.heap.size, 0, none⟩) [⟨a, to - a, decide (to < N)⟩]) := by
          refine ⟨fun q hq => by simp at hq; subst hq; exact HPO.out, .inr ⟨wr.heap.size, 0, rfl, fun i q hq => ?_⟩⟩
          rcases i with _ | i
          · simp at hq; subst hq; rw [hW]; simp
          · simp at hq
        have HLC := hidI (HL.out.on AB.out)
        have HCS := hidI (HC.out.snoc (to := to) ha (by omega) (by omega) h2)
        have HLL : Hid (L.length ≤ 65535) := by show _ ≤ _; have := HK.out; omega
        go_wp2_with (at_builtin; refine wpList_appC rfl _ _ rfl _ L [⟨a, to - a, decide (to < N)⟩] rfl (by (first | rw [← hW] | skip); exact HLC.out) (some ⟨_, 0, none⟩) 1 1 rfl rfl (by simp) (by (first | rw [← hW] | skip); exact HRW.out) (by have := HLL.out; simp; omega) ?_)
        intro v9 w10 hown hgr hmov
        rw [← hW] at hgr hmov
        have HL9 := hidI hown
        have HN9 := hidI (HNW.out.moved hmov (HAW.out.trans AB.out).size)
        have HA9 := hidI ((HAW.out.trans AB.out).grown hgr (fun z hz => .inr (HNW.out z hz)))
        clear hown hgr hmov hW
        go_wp2_with fail
        go_roundw
        case rel => exact ⟨k + 1, to, _, by go_num, by go_num, by omega, by rw [HK.out]; simp, HCS.out, HL9.out, HN9.out, HA9.out⟩
        case measure => simp [intOf]; omega
      · have GEN : True := trivial
        by_cases hc1 : k < nc
        · have hc3 : ¬ ((k : Int) < 200) := by omega
          obtain ⟨W, hW⟩ : ∃ W, W = wr.alloc (.cells #[.int .i64 a, .int .i64 (N - a), .bool (false)] 32) := ⟨_, rfl⟩
          have AB : Hid (Away [] wr W) := by show Away _ _ _; rw [hW]; exact (Away.refl _ _).alloc _
          have HPO : Hid (OkP ⟨a, N - a, false⟩) := by unfold Hid OkP I64; simp only; omega
          have HRW : Hid (RowC W (some ⟨wr.heap.size, 0, none⟩) [⟨a, N - a, false⟩]) := by
            refine ⟨fun q hq => by simp at hq; subst hq; exact HPO.out, .inr ⟨wr.heap.size, 0, rfl, fun i q hq => ?_⟩⟩
            rcases i with _ | i
            · simp at hq; subst hq; rw [hW]; simp
            · simp at hq
          have HLC := hidI (HL.out.on AB.out)
          have HCS := hidI (HC.out.snoc (to := N) ha (by omega) (by omega) h2)
          rw [show decide (N < N) = false from by simp] at HCS
          have HLL : Hid (L.length ≤ 65535) := by show _ ≤ _; have := HK.out; omega
          go_wp2_with (at_builtin; refine wpList_appC rfl _ _ rfl _ L [⟨a, N - a, false⟩] rfl (by (first | rw [← hW] | skip); exact HLC.out) (some ⟨_, 0, none⟩) 1 1 rfl rfl (by simp) (by (first | rw [← hW] | skip); exact HRW.out) (by have := HLL.out; simp; omega) ?_)
          intro v9 w10 hown hgr hmov
          rw [← hW] at hgr hmov
          have HL9 := hidI hown
          have HN9 := hidI (HNW.out.moved hmov (HAW.out.trans AB.out).size)
          have HA9 := hidI ((HAW.out.trans AB.out).grown hgr (fun z hz => .inr (HNW.out z hz)))
          clear hown hgr hmov hW
          go_wp2_with fail
          go_roundw
          case rel => exact ⟨k + 1, N, _, by go_num, by go_num, by omega, by rw [HK.out]; simp, HCS.out, HL9.out, HN9.out, HA9.out⟩
          case measure => simp [intOf]; omega
        · have hc3 : ¬ ((k : Int) < (nc : Int)) := by omega
          obtain ⟨W, hW⟩ : ∃ W, W = wr.alloc (.cells #[.int .i64 a, .int .i64 (N - a), .bool (false)] 32) := ⟨_, rfl⟩
          have AB : Hid (Away [] wr W) := by show Away _ _ _; rw [hW]; exact (Away.refl _ _).alloc _
          have HPO : Hid (OkP ⟨a, N - a, false⟩) := by unfold Hid OkP I64; simp only; omega
          have HRW : Hid (RowC W (some ⟨wr.heap.size, 0, none⟩) [⟨a, N - a, false⟩]) := by
            refine ⟨fun q hq => by simp at hq; subst hq; exact HPO.out, .inr ⟨wr.heap.size, 0, rfl, fun i q hq => ?_⟩⟩
            rcases i with _ | i
            · simp at hq; subst hq; rw [hW]; simp
            · simp at hq
          have HLC := hidI (HL.out.on AB.out)
          have HCS := hidI (HC.out.snoc (to := N) ha (by omega) (by omega) h2)
          rw [show decide (N < N) = false from by simp] at HCS
          have HLL : Hid (L.length ≤ 65535) := by show _ ≤ _; have := HK.out; omega
          go_wp2_with (at_builtin; refine wpList_appC rfl _ _ rfl _ L [⟨a, N - a, false⟩] rfl (by (first | rw [← hW] | skip); exact HLC.out) (some ⟨_, 0, none⟩) 1 1 rfl rfl (by simp) (by (first | rw [← hW] | skip); exact HRW.out) (by have := HLL.out; simp; omega) ?_)
          intro v9 w10 hown hgr hmov
          rw [← hW] at hgr hmov
          have HL9 := hidI hown
          have HN9 := hidI (HNW.out.moved hmov (HAW.out.trans AB.out).size)
          have HA9 := hidI ((HAW.out.trans AB.out).grown hgr (fun z hz => .inr (HNW.out z hz)))
          clear hown hgr hmov hW
          go_wp2_with fail
          go_roundw
          case rel => exact ⟨k + 1, N, _, by go_num, by go_num, by omega, by rw [HK.out]; simp, HCS.out, HL9.out, HN9.out, HA9.out⟩
          case measure => simp [intOf]; omega
    · obtain rfl : a = N := by omega
      go_wp2_with fail
      go_ret
      exact ⟨_, rfl, L, HL.out, HC.out.all h1 h2, HNW.out, HAW.out⟩
end Go.Proofs.Ytcjkhpinccjncaa
