/-
  Valid, pair, head, Part, Of, Pseudo of the document.
-/
import Derived.Test.YtbfpphoiapggnabPs
namespace Go.Proofs.Ytbfpphoiapggnab
open Go.ChangeShapes Go.WideShapes Go.ChangeAt Go.RowKit Num
set_option linter.unusedVariables false
set_option maxHeartbeats 4000000
set_option maxRecDepth 100000

theorem fold_cases {n : Int} (h : 0 < n) : fold n = if n % 65535 = 0 then 65535 else n % 65535 := by
  unfold fold; rw [if_neg (by omega)]; split <;> omega
set_option maxHeartbeats 400000 in
theorem rrest_any (n : Int) (h0 : 0 ≤ n) (h1 : n ≤ 9223372036854775807) (w : World) :
    Calls Try.prog 30 #[.int .i64 n] w fun e w' => e = .returned (.int .i64 (fold n)) ∧ w' = w := by
  by_cases hz : n = 0
  · subst hz
    go_enter Try.func30, Try.ntmps30
    go_wp2
    go_ret
    exact ⟨rfl, rfl⟩
  · have hn : (n == 0) = false := by simp [hz]
    have hf := fold_cases (n := n) (by omega)
    by_cases hm : n % 65535 = 0
    · rw [if_pos hm] at hf
      have E : Hid (fold n = 65535) := hf
      have hm' : (n % 65535 == 0) = true := by rw [hm]; rfl
      clear hf hz hm
      go_enter Try.func30, Try.ntmps30
      go_wp2
      go_ret
      exact ⟨ret_int E.out.symm, rfl⟩
    · rw [if_neg hm] at hf
      have E : Hid (fold n = n % 65535) := hf
      have hm' : (n % 65535 == 0) = false := by simp [hm]
      clear hf hz hm
      go_enter Try.func30, Try.ntmps30
      go_wp2
      go_ret
      exact ⟨ret_int E.out.symm, rfl⟩
theorem ws_drop (l : List Int) (k : Nat) (h : k < l.length) : ws (k % 2 == 0) (l.drop k) = (if k % 2 = 0 then 256 * (l[k]?.getD 0) else l[k]?.getD 0) + ws ((k + 1) % 2 == 0) (l.drop (k + 1)) := by
  rw [List.drop_eq_getElem_cons h, List.getElem?_eq_getElem h]
  rcases Nat.mod_two_eq_zero_or_one k with e | e
  · rw [e, show (k + 1) % 2 = 1 from by omega]; rfl
  · rw [e, show (k + 1) % 2 = 0 from by omega]; rfl

set_option maxHeartbeats 1000000 in
theorem rpart_any (a : Option Addr) (l : List Int) (cap : Nat) (w : World) (hr : Row w a l) :
    Calls Try.prog 18 #[.slice a l.length cap] w fun e w' => e = .returned (.int .i64 (pt l)) ∧ w' = w := by
  have hlen := hr.1
  have hwl := ws_bd true l hr.2.1
  rcases hr.2.2 with rfl | ⟨b, off, rfl, hcell⟩
  · go_enter Try.func18, Try.ntmps18
    go_wp2_with fail
    refine wp_loop_rounds 1 ?_
    rw [rounds_succ]
    go_wp2_with (go_at_call 30; refine (rrest_any _ (by omega) (by omega) _).mono ?_; rintro e w' ⟨rfl, rfl⟩)
    go_ret
    exact ⟨rfl, rfl⟩
  · have HW : Hid (ws true l ≤ 65280 * (l.length : Int)) := hwl.2
    have HC : Hid (∀ i, i < l.length → w.cell? ⟨b, off + i, none⟩ = some (.int .u8 (l[i]?.getD 0))) := hcell
    clear hwl hcell
    go_enter Try.func18, Try.ntmps18
    go_wp2_with fail
    go_loop [3, 4] (fun s i => ∃ (k : Nat) (q : Int), k ≤ l.length ∧ i = .int .i64 k ∧ s = .int .i64 q ∧ 0 ≤ q ∧ q + ws (k % 2 == 0) (l.drop k) = ws true l) (fun _ i => l.length - (intOf i).toNat)
    case atStart => exact ⟨0, 0, by omega, rfl, rfl, by omega, by simp⟩
    case round =>
      obtain ⟨k, q, hk, rfl, rfl, hq, hsum⟩ := hrel
      have hd := (ws_bd (k % 2 == 0) (l.drop k) (hr.2.1.drop k)).1
      have hq2 : q ≤ 9223372036854775807 - 65536 := by have := HW.out; omega
      have HS : Hid (q + ws (k % 2 == 0) (l.drop k) = ws true l) := hsum
      clear hsum hd
      by_cases hlt : k < l.length
      · have c0 := HC.out k hlt
        have bx := hr.2.1.getD k
        have HD : Hid _ := ws_drop l k hlt
        obtain ⟨x, hx⟩ : ∃ x, x = l[k]?.getD 0 := ⟨_, rfl⟩
        rw [← hx] at c0 bx
        have HX : Hid (x = l[k]?.getD 0) := hx
        clear hx
        by_cases hp : k % 2 = 0
        · have hp' : ((k : Int) % 2 == 0) = true := by simp; omega
          go_wp2
          go_round
          case rel =>
            have e1 := HD.out
            have e2 := HS.out
            rw [if_pos hp, ← HX.out] at e1
            exact ⟨k + 1, _, by omega, by go_num, rfl, by omega, by omega⟩
          case measure => simp [intOf]; omega
        · have hp' : ((k : Int) % 2 == 0) = false := by simp; omega
          go_wp2
          go_round
          case rel =>
            have e1 := HD.out
            have e2 := HS.out
            rw [if_neg hp, ← HX.out] at e1
            exact ⟨k + 1, _, by omega, by go_num, rfl, by omega, by omega⟩
          case measure => simp [intOf]; omega
      · obtain rfl : k = l.length := by omega
        have e : q = ws true l := by have := HS.out; rw [List.drop_length] at this; simp [ws] at this; exact this
        have E : Hid (q = ws true l) := e
        clear e HS
        go_wp2_with (go_at_call 30; refine (rrest_any _ (by omega) (by omega) _).mono ?_; rintro e w' ⟨rfl, rfl⟩)
        go_ret
        exact ⟨ret_int (by rw [E.out]; rfl), rfl⟩
theorem drop_zero_iff {l : List Int} (h : l.length = 16) : l.drop 4 = z12 ↔ ∀ j, 4 ≤ j → j < 16 → l[j]?.getD 0 = 0 := by
  constructor
  · intro e j h1 h2
    have : (l.drop 4)[j - 4]?.getD 0 = 0 := by
      rw [e]
      have : j - 4 < 12 := by omega
      match j - 4, this with
      | 0, _ => rfl
      | 1, _ => rfl
      | 2, _ => rfl
      | 3, _ => rfl
      | 4, _ => rfl
      | 5, _ => rfl
      | 6, _ => rfl
      | 7, _ => rfl
      | 8, _ => rfl
      | 9, _ => rfl
      | 10, _ => rfl
      | 11, _ => rfl
    rwa [List.getElem?_drop, show 4 + (j - 4) = j by omega] at this
  · intro hj
    apply List.ext_getElem?
    intro i
    rcases Nat.lt_or_ge i 12 with hi | hi
    · have h1 := hj (4 + i) (by omega) (by omega)
      rw [List.getElem?_drop]
      rw [List.getElem?_eq_getElem (by omega), Option.getD_some] at h1
      rw [List.getElem?_eq_getElem (by omega), h1]
      match i, hi with
      | 0, _ => rfl
      | 1, _ => rfl
      | 2, _ => rfl
      | 3, _ => rfl
      | 4, _ => rfl
      | 5, _ => rfl
      | 6, _ => rfl
      | 7, _ => rfl
      | 8, _ => rfl
      | 9, _ => rfl
      | 10, _ => rfl
      | 11, _ => rfl
    · rw [List.getElem?_eq_none (by simp; omega), List.getElem?_eq_none (by simp [z12]; omega)]
theorem rvalid_c (s : Ax) (w : World) (hs : WfA s) : Calls Try.prog 29 #[.agg (csA s.v s.l)] w fun e w' => e = .returned (.bool (avalidP s.v s.l)) ∧ Away [] w w' := by
  have hn := hs.n
  obtain ⟨z, hz⟩ : ∃ z, z = avalidP s.v s.l := ⟨_, rfl⟩
  rw [← hz]
  have HZ := Lib.hid hz
  have HI := Lib.hid (drop_zero_iff hn)
  have HS := Lib.hid hs
  clear hz hs
  go_enter Try.func29, Try.ntmps29
  go_wp2_with (refine wpList_box24 rfl _ rfl s rfl ?_; refine Hid.out ?_)
  refine Lib.hid ?_
  intro g w1 hg hb haw
  have HA := Lib.hid haw; have HB := Lib.hid hb
  have cv := hb.cell
  clear hb haw
  by_cases h6 : s.v = 6
  · obtain rfl : z = true := by rw [HZ.out]; unfold avalidP; rw [if_neg (by omega)]; simp [h6]
    rw [h6] at cv
    have H6 := Lib.hid h6
    clear h6
    go_wp2_with fail
    go_ret
    exact ⟨rfl, HA.out⟩
  · have h6' : (s.v == 6) = false := by simpa using h6
    go_wp2_with fail
    go_loopw [3] (fun i wr => ∃ k : Nat, 4 ≤ k ∧ k ≤ 16 ∧ i = .int .i64 (k : Int) ∧ (∀ j, 4 ≤ j → j < k → s.l[j]?.getD 0 = 0) ∧ ∃ n, wr = w1.drewN n) (fun i _ => 16 - (intOf i).toNat)
    case atStart => exact ⟨4, by omega, by omega, rfl, fun j h1 h2 => by omega, 0, rfl⟩
    case round =>
      obtain ⟨k, hk4, hk16, rfl, hall, q, hW⟩ := hrel
      subst hW
      have HALL := Lib.hid hall
      clear hall
      by_cases hlt : k < 16
      · have c0 : w1.cell? ⟨g, 1 + k, none⟩ = _ := HB.out.byte k (by omega)
        have t1 : decide ((k : Int) < 16) = true := by simp; omega
        have t2 : 0 ≤ (k : Int) := by omega
        have t3 : (k : Int) < 16 := by omega
        have t4 : ((k : Int)).toNat = k := by omega
        have HX : Hid (s.l[k]?.getD 0 = 0 → ∀ j, 4 ≤ j → j < k + 1 → s.l[j]?.getD 0 = 0) := fun h j h1 h2 => by
          rcases Nat.lt_or_ge j k with hj | hj
          · exact HALL.out j h1 hj
          · obtain rfl : j = k := by omega
            exact h
        have HN : Hid (s.l[k]?.getD 0 ≠ 0 → z = false) := fun h => by
          rw [HZ.out]; unfold avalidP
          by_cases h4 : s.v = 4
          · rw [if_pos h4]; unfold eqL; exact decide_eq_false (fun e => h (HI.out.1 e k hk4 hlt))
          · rw [if_neg h4]; exact decide_eq_false h6
        generalize s.l[k]?.getD 0 = x at *
        by_cases hx : x = 0
        · subst hx
          go_wp2_with fail
          go_roundw
          case rel => exact ⟨k + 1, by omega, by omega, by go_num, HX.out rfl, q, rfl⟩
          case measure => simp [intOf]; omega
        · obtain rfl : z = false := HN.out hx
          have hx' : (x != 0) = true := by simpa using hx
          go_wp2_with fail
          go_ret
          exact ⟨rfl, HA.out.drewN q⟩
      · obtain rfl : k = 16 := by omega
        have HE := Lib.hid (HI.out.2 HALL.out)
        have hzz : (s.v == 4) = z := by
          rw [HZ.out]; unfold avalidP
          by_cases h4 : s.v = 4
          · rw [if_pos h4]; unfold eqL; rw [h4]; exact (decide_eq_true HE.out).symm
          · rw [if_neg h4, decide_eq_false h6]; simpa using h4
        have cv2 : (w1.drewN q).cell? ⟨g, 0, none⟩ = some (.int .i64 s.v) := cv
        have HZZ := Lib.hid hzz
        clear hzz
        go_wp2_with fail
        go_ret
        exact ⟨ret_bool HZZ.out, HA.out.drewN q⟩
theorem rpair_c (s t : Ax) (w : World) (hs : WfA s) (ht : WfA t) : Calls Try.prog 15 #[.agg (csA s.v s.l), .agg (csA t.v t.l)] w fun e w' => e = .returned (.bool (pairP s t)) ∧ Away [] w w' := by
  have K1 : Hid (∀ w, Calls Try.prog 29 #[.agg (csA s.v s.l)] w fun e w' => e = .returned (.bool (avalidP s.v s.l)) ∧ Away [] w w') := fun w => rvalid_c s w hs
  have K2 : Hid (∀ w, Calls Try.prog 29 #[.agg (csA t.v t.l)] w fun e w' => e = .returned (.bool (avalidP t.v t.l)) ∧ Away [] w w') := fun w => rvalid_c t w ht
  have HS := Lib.hid hs
  have HT := Lib.hid ht
  obtain ⟨z3, hz⟩ : ∃ z, z = decide (s.v = t.v) := ⟨_, rfl⟩
  unfold pairP
  rw [← hz]
  have HZ := Lib.hid hz
  clear hz
  generalize avalidP s.v s.l = z1 at *
  generalize avalidP t.v t.l = z2 at *
  clear hs ht
  go_enter Try.func15, Try.ntmps15
  go_wp2_with (refine wpList_box24 rfl _ rfl s rfl ?_; refine Hid.out ?_)
  refine Lib.hid ?_
  intro g1 w1 hg1 hb haw
  have HA := Lib.hid haw; have HB := Lib.hid hb
  clear hb haw
  go_wp2_with (refine wpList_box24 rfl _ rfl t rfl ?_; refine Hid.out ?_)
  refine Lib.hid ?_
  intro g2 w2 hg2 hb haw
  replace HA := Lib.hid (HA.out.on haw); replace HB := Lib.hid (HB.out.on haw); have HC := Lib.hid hb
  clear hb haw
  go_wp2_with (first | (refine wpList_loadX rfl _ rfl g1 rfl s (by exact HB.out) HS.out ?_) | (refine wpList_loadX rfl _ rfl g2 rfl t (by exact HC.out) HT.out ?_))
  refine (K1.out _).mono ?_
  rintro E w3 ⟨rfl, haw⟩
  replace HA := Lib.hid (HA.out.on haw); replace HB := Lib.hid (HB.out.on haw); replace HC := Lib.hid (HC.out.on haw)
  clear haw K1
  cases z1
  · go_wp2_with fail
    go_ret
    exact ⟨rfl, HA.out⟩
  · go_wp2_with (first | (refine wpList_loadX rfl _ rfl g1 rfl s (by exact HB.out) HS.out ?_) | (refine wpList_loadX rfl _ rfl g2 rfl t (by exact HC.out) HT.out ?_))
    refine (K2.out _).mono ?_
    rintro E w4 ⟨rfl, haw⟩
    replace HA := Lib.hid (HA.out.on haw); replace HB := Lib.hid (HB.out.on haw); replace HC := Lib.hid (HC.out.on haw)
    clear haw K2
    cases z2
    · go_wp2_with fail
      go_ret
      exact ⟨rfl, HA.out⟩
    · have c1 := HB.out.cell
      have c2 := HC.out.cell
      go_wp2_with fail
      go_ret
      exact ⟨ret_bool (by rw [HZ.out]; rfl), HA.out⟩
/-- A list of the call's own that grows, beside blocks that it keeps. -/
structure Gr (w wx : World) (K : List Nat) (v : Value) (l : List Int) : Prop where
  aw : Away [] w wx
  own : Owns wx v l
  new : New w.heap.size v
  ap : ∀ k ∈ K, v.ownBlock ≠ some k ∧ k < wx.heap.size
theorem Gr.on {w wx w' : World} {K : List Nat} {v : Value} {l : List Int} (h : Gr w wx K v l) (ha : Away [] wx w') : Gr w w' K v l :=
  ⟨h.aw.on ha, h.own.on ha, h.new, fun k hk => ⟨(h.ap k hk).1, Nat.lt_of_lt_of_le (h.ap k hk).2 ha.size⟩⟩
theorem Gr.step {w wx w' : World} {K : List Nat} {v v' : Value} {l m : List Int} (h : Gr w wx K v l) (ho : Owns w' v' m) (ha : Away v.ownBlock.toList wx w') (hm : Moved wx v v') :
    Gr w w' K v' m ∧ ∀ k ∈ K, w'.heap[k]? = wx.heap[k]? := by
  have hs := h.aw.size
  refine ⟨⟨h.aw.next ha (fun x hx => .inr (h.new x (by simpa using hx))), ho, h.new.moved hm hs, fun k hk => ⟨fun e => ?_, Nat.lt_of_lt_of_le (h.ap k hk).2 ha.size⟩⟩, fun k hk => ha.block k (h.ap k hk).2 (fun hx => (h.ap k hk).1 (by simpa using hx))⟩
  rcases hm k e with e | e
  · exact (h.ap k hk).1 e
  · have := (h.ap k hk).2; omega
theorem Gr.nil {w wx : World} (K : List Nat) (h : Away [] w wx) (hK : ∀ k ∈ K, k < wx.heap.size) : Gr w wx K (.slice none 0 0) [] := ⟨h, Owns.nil _, New.nil _, fun k hk => ⟨by simp [Value.ownBlock], hK k hk⟩⟩
/-- What a function that makes bytes tells. -/
def Made (w : World) (l : List Int) (E : Ending) (w' : World) : Prop := ∃ v, E = .returned v ∧ Owns w' v l ∧ New w.heap.size v ∧ Away [] w w'
theorem rhead_c (s t : Ax) (proto n : Int) (w : World) (hs : WfA s) (ht : WfA t) (p0 : 0 ≤ proto) (p1 : proto ≤ 255) (n0 : 0 ≤ n) (n1 : n ≤ 65535) :
    Calls Try.prog 19 #[.agg (csA s.v s.l), .agg (csA t.v t.l), .int .i64 proto, .int .i64 n] w fun E w' => Made w (psb s t proto n) E w' := by
  have HS := Lib.hid hs
  have HT := Lib.hid ht
  have hl4 : (s.l.take 4).length = 4 := by simp [hs.n]
  have hm4 : (t.l.take 4).length = 4 := by simp [ht.n]
  have hl16 := hs.n
  have hm16 := ht.n
  obtain ⟨r, hr⟩ : ∃ r, r = psb s t proto n := ⟨_, rfl⟩
  rw [← hr]
  unfold psb at hr
  have HRR := Lib.hid hr
  clear hs ht hr
  go_enter Try.func19, Try.ntmps19
  go_wp2_with (refine wpList_box24 rfl _ rfl s rfl ?_; refine Hid.out ?_)
  refine Lib.hid ?_
  intro g1 w1 hg1 hb haw
  have HA := Lib.hid haw; have HB := Lib.hid hb
  clear hb haw
  go_wp2_with (refine wpList_box24 rfl _ rfl t rfl ?_; refine Hid.out ?_)
  refine Lib.hid ?_
  intro g2 w2 hg2 hb haw
  replace HA := Lib.hid (HA.out.on haw); replace HB := Lib.hid (HB.out.on haw); have HC := Lib.hid hb
  have hl2 := hb.lt
  have hl1 := HB.out.lt
  clear hb haw
  have HG : Hid (Gr w w2 [g1, g2] (.slice none 0 0) []) := Gr.nil _ HA.out (by simp; omega)
  have cv := HB.out.cell
  clear HA
  by_cases hv : s.v = 4
  · rw [if_pos hv] at HRR
    rw [hv] at cv
    have HV := Lib.hid hv
    clear hv
    go_wp2_with (at_builtin; refine wpList_appS rfl _ _ rfl _ _ (s.l.take 4) rfl (by exact HG.out.own) _ rfl (by exact ⟨some ⟨g1, 1, none⟩, 16, by rw [hl4]; rfl, by omega, by simp, HB.out.row4 HS.out⟩) (by (try simp only [List.length_append]); (try simp only [List.length_nil]); omega) ?_; refine Hid.out ?_)
    refine Lib.hid ?_
    intro v' w' hown hawx hmv
    obtain ⟨hg', hkeep⟩ := HG.out.step hown hawx hmv
    replace HG := Lib.hid hg'
    replace HB : Hid (BoxX w' g1 s) := (hkeep g1 (by simp)).trans HB.out
    replace HC : Hid (BoxX w' g2 t) := (hkeep g2 (by simp)).trans HC.out
    clear hown hawx hmv hg' hkeep
    go_wp2_with (at_builtin; refine wpList_appS rfl _ _ rfl _ _ (t.l.take 4) rfl (by exact HG.out.own) _ rfl (by exact ⟨some ⟨g2, 1, none⟩, 16, by rw [hm4]; rfl, by omega, by simp, HC.out.row4 HT.out⟩) (by (try simp only [List.length_append]); (try simp only [List.length_nil]); omega) ?_; refine Hid.out ?_)
    refine Lib.hid ?_
    intro v' w' hown hawx hmv
    obtain ⟨hg', hkeep⟩ := HG.out.step hown hawx hmv
    replace HG := Lib.hid hg'
    replace HB : Hid (BoxX w' g1 s) := (hkeep g1 (by simp)).trans HB.out
    replace HC : Hid (BoxX w' g2 t) := (hkeep g2 (by simp)).trans HC.out
    clear hown hawx hmv hg' hkeep
    have hlit := (Away.refl [] w').alloc (.cells (([0, proto, n / 256, n % 256] : List Int).map (Value.int .u8)).toArray 5)
    have HGL := Lib.hid (HG.out.on hlit)
    have HLR := Lib.hid (Row.lit w' [0, proto, n / 256, n % 256] (by (repeat (first | exact Bytes.nil | refine Bytes.cons ?_ (by omega) (by omega)))) (by simp))
    clear hlit
    go_wp2_with (at_builtin; refine wpList_appS rfl _ _ rfl _ _ [0, proto, n / 256, n % 256] rfl (by exact HGL.out.own) _ rfl (by exact ⟨_, 4, rfl, by simp, by simp, HLR.out⟩) (by (try simp only [List.length_append]); (try simp only [List.length_cons]); (try simp only [List.length_nil]); omega) ?_; refine Hid.out ?_)
    refine Lib.hid ?_
    intro v'' w'' hown hawx hmv
    obtain ⟨hg', hkeep⟩ := HGL.out.step hown hawx hmv
    have HF := Lib.hid hg'
    clear hown hawx hmv hg' hkeep HGL HLR HG HB HC
    go_wp2_with fail
    go_ret
    rw [HRR.out]
    exact ⟨_, rfl, by simpa using HF.out.own, HF.out.new, HF.out.aw⟩
  · rw [if_neg hv] at HRR
    have hv' : (s.v == 4) = false := by simpa using hv
    go_wp2_with (at_builtin; refine wpList_appS rfl _ _ rfl _ _ s.l rfl (by exact HG.out.own) _ rfl (by exact ⟨some ⟨g1, 1, none⟩, 16, by rw [hl16]; rfl, by omega, by simp, HB.out.row HS.out⟩) (by (try simp only [List.length_append]); (try simp only [List.length_nil]); omega) ?_; refine Hid.out ?_)
    refine Lib.hid ?_
    intro v' w' hown hawx hmv
    obtain ⟨hg', hkeep⟩ := HG.out.step hown hawx hmv
    replace HG := Lib.hid hg'
    replace HB : Hid (BoxX w' g1 s) := (hkeep g1 (by simp)).trans HB.out
    replace HC : Hid (BoxX w' g2 t) := (hkeep g2 (by simp)).trans HC.out
    clear hown hawx hmv hg' hkeep
    go_wp2_with (at_builtin; refine wpList_appS rfl _ _ rfl _ _ t.l rfl (by exact HG.out.own) _ rfl (by exact ⟨some ⟨g2, 1, none⟩, 16, by rw [hm16]; rfl, by omega, by simp, HC.out.row HT.out⟩) (by (try simp only [List.length_append]); (try simp only [List.length_nil]); omega) ?_; refine Hid.out ?_)
    refine Lib.hid ?_
    intro v' w' hown hawx hmv
    obtain ⟨hg', hkeep⟩ := HG.out.step hown hawx hmv
    replace HG := Lib.hid hg'
    replace HB : Hid (BoxX w' g1 s) := (hkeep g1 (by simp)).trans HB.out
    replace HC : Hid (BoxX w' g2 t) := (hkeep g2 (by simp)).trans HC.out
    clear hown hawx hmv hg' hkeep
    have hlit := (Away.refl [] w').alloc (.cells (([0, 0, n / 256, n % 256, 0, 0, 0, proto] : List Int).map (Value.int .u8)).toArray 5)
    have HGL := Lib.hid (HG.out.on hlit)
    have HLR := Lib.hid (Row.lit w' [0, 0, n / 256, n % 256, 0, 0, 0, proto] (by (repeat (first | exact Bytes.nil | refine Bytes.cons ?_ (by omega) (by omega)))) (by simp))
    clear hlit
    go_wp2_with (at_builtin; refine wpList_appS rfl _ _ rfl _ _ [0, 0, n / 256, n % 256, 0, 0, 0, proto] rfl (by exact HGL.out.own) _ rfl (by exact ⟨_, 8, rfl, by simp, by simp, HLR.out⟩) (by (try simp only [List.length_append]); (try simp only [List.length_cons]); (try simp only [List.length_nil]); omega) ?_; refine Hid.out ?_)
    refine Lib.hid ?_
    intro v'' w'' hown hawx hmv
    obtain ⟨hg', hkeep⟩ := HGL.out.step hown hawx hmv
    have HF := Lib.hid hg'
    clear hown hawx hmv hg' hkeep HGL HLR HG HB HC
    go_wp2_with fail
    go_ret
    rw [HRR.out]
    exact ⟨_, rfl, by simpa using HF.out.own, HF.out.new, HF.out.aw⟩
theorem most_c (s : Ax) (w : World) : Calls Try.prog 17 #[.agg (csA s.v s.l)] w fun e w' => e = .returned (.int .i64 (roomP s.v)) ∧ Away [] w w' := by
  by_cases h4 : s.v = 4
  · rw [show roomP s.v = 65507 from by unfold roomP; rw [if_pos h4]]
    go_enter Try.func17, Try.ntmps17
    go_wp2_with (refine wpList_box24 rfl _ rfl s rfl ?_; refine Hid.out ?_)
    refine Lib.hid ?_
    intro g w1 hg hb haw
    have c := hb.cell
    rw [h4] at c
    have HA := Lib.hid haw
    clear hb haw
    go_wp2_with fail
    go_ret
    exact ⟨rfl, HA.out⟩
  · rw [show roomP s.v = 65527 from by unfold roomP; rw [if_neg h4]]
    go_enter Try.func17, Try.ntmps17
    go_wp2_with (refine wpList_box24 rfl _ rfl s rfl ?_; refine Hid.out ?_)
    refine Lib.hid ?_
    intro g w1 hg hb haw
    have c := hb.cell
    have b1 : (s.v == 4) = false := by simpa using h4
    generalize s.v = v at *
    have HA := Lib.hid haw
    clear hb haw
    go_wp2_with fail
    go_ret
    exact ⟨rfl, HA.out⟩
end Go.Proofs.Ytbfpphoiapggnab
