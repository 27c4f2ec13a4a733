/-
  For HolesKeeps: three lists, what they told, and two lists of it, side by side.
-/
import Derived.Test.YtcjkhpinccjncaaMark
import Derived.Test.YtcjkhpinccjncaaPcS
import Derived.Test.YtcjkhpinccjncaaRkit
namespace Go.Proofs.Ytcjkhpinccjncaa
open Go.ChangeShapes Go.WideShapes Go.ChangeAt Go.RowKit
set_option linter.unusedVariables false
set_option linter.unusedSimpArgs false

theorem pw_set {A : List (List Nat)} {i n : Nat} {S S' : List Nat} (h : A.Pairwise Sep) (hi : A[i]? = some S) (hlt : ∀ R ∈ A, ∀ x ∈ R, x < n) (hS : ∀ x ∈ S', x ∈ S ∨ n ≤ x) : (A.set i S').Pairwise Sep := by
  rw [List.pairwise_iff_getElem] at h ⊢
  have hil : i < A.length := (List.getElem?_eq_some_iff.1 hi).1
  have hie : A[i] = S := (List.getElem?_eq_some_iff.1 hi).2
  intro j k hj hk hjk
  simp only [List.length_set] at hj hk
  rw [List.getElem_set, List.getElem_set]
  by_cases h1 : i = j
  · subst h1
    rw [if_pos rfl, if_neg (by omega)]
    have h2 := h i k hil hk hjk
    rw [hie] at h2
    intro x hx hc
    rcases hS x hx with h3 | h3
    · exact h2 x h3 hc
    · have := hlt _ (List.getElem_mem hk) x hc; omega
  · rw [if_neg h1]
    by_cases h2 : i = k
    · subst h2
      rw [if_pos rfl]
      have h3 := h j i hj hil hjk
      rw [hie] at h3
      intro x hx hc
      rcases hS x hc with h4 | h4
      · exact h3 x hx h4
      · have := hlt _ (List.getElem_mem hj) x hx; omega
    · rw [if_neg h2]
      exact h j k hj hk hjk
def ob (v : Value) : List Nat := v.ownBlock.toList
def areas (ga gb gc : Nat) (va vb vc ku wu : Value) : List (List Nat) := [fpH ga va, fpH gb vb, fpH gc vc, ob ku, ob wu]
/-- Three lists, two lists of lists, and all that was told. -/
structure Ks (w0 wr : World) (ga gb gc : Nat) (va vb vc ku wu : Value) (m mb mc : List Sp) (e eb ec : Int) (K U : List Value) (P : List (Value × List Sp)) : Prop where
  ha : Hl wr ga va m e
  hb : Hl wr gb vb mb eb
  hc : Hl wr gc vc mc ec
  kl : LstV wr ku K
  wl : LstV wr wu U
  own : ∀ q ∈ P, Lst wr q.1 q.2 ∧ rightP q.2 = true
  pp : P.Pairwise (fun p q => Sep (ob p.1) (ob q.1))
  dj : (areas ga gb gc va vb vc ku wu).Pairwise Sep
  lo : ∀ S ∈ areas ga gb gc va vb vc ku wu, ∀ x ∈ S, w0.heap.size ≤ x
  hi : ∀ S ∈ areas ga gb gc va vb vc ku wu, ∀ x ∈ S, x < wr.heap.size
  pa : ∀ q ∈ P, ∀ S ∈ areas ga gb gc va vb vc ku wu, Sep (ob q.1) S
  aw : Away [] w0 wr
  pn : ∀ q ∈ P, New w0.heap.size q.1
section
variable {w0 wr w' : World} {ga gb gc : Nat} {va vb vc ku wu : Value} {m mb mc : List Sp} {e eb ec : Int} {K U : List Value} {P : List (Value × List Sp)}
theorem Ks.on (h : Ks w0 wr ga gb gc va vb vc ku wu m mb mc e eb ec K U P) (hw : Away [] wr w') : Ks w0 w' ga gb gc va vb vc ku wu m mb mc e eb ec K U P :=
  ⟨h.ha.on hw, h.hb.on hw, h.hc.on hw, h.kl.on hw, h.wl.on hw, fun q hq => ⟨(h.own q hq).1.on hw, (h.own q hq).2⟩, h.pp, h.dj, h.lo, fun S hS x hx => Nat.lt_of_lt_of_le (h.hi S hS x hx) hw.size, h.pa, h.aw.trans hw, h.pn⟩
theorem Ks.new_pp (h : Ks w0 wr ga gb gc va vb vc ku wu m mb mc e eb ec K U P) {r : Value} {f : List Sp} (hn : New wr.heap.size r) : ((r, f) :: P).Pairwise (fun p q => Sep (ob p.1) (ob q.1)) := by
  refine List.pairwise_cons.2 ⟨fun q hq x hx hc => ?_, h.pp⟩
  have h1 := hn x (by simpa [ob] using hx)
  have h2 := (h.own q hq).1.lt x (by simpa [ob] using hc)
  omega
/-- One list more was told. -/
theorem Ks.more (h : Ks w0 wr ga gb gc va vb vc ku wu m mb mc e eb ec K U P) (hw : Away [] wr w') {r : Value} {f : List Sp} (hr : Lst w' r f) (hf : rightP f = true) (hn : New wr.heap.size r) : Ks w0 w' ga gb gc va vb vc ku wu m mb mc e eb ec K U ((r, f) :: P) := by
  have h' := h.on hw
  refine ⟨h'.ha, h'.hb, h'.hc, h'.kl, h'.wl, fun q hq => ?_, h.new_pp hn, h'.dj, h'.lo, h'.hi, fun q hq S hS => ?_, h'.aw, fun q hq => ?_⟩
  · rcases List.mem_cons.1 hq with rfl | hq
    · exact ⟨hr, hf⟩
    · exact h'.own q hq
  · rcases List.mem_cons.1 hq with rfl | hq
    · intro x hx hc
      have h1 := hn x (by simpa [ob] using hx)
      have h2 := h.hi S hS x hc
      omega
    · exact h'.pa q hq S hS
  · rcases List.mem_cons.1 hq with rfl | hq
    · exact hn.mono h.aw.size
    · exact h.pn q hq
theorem Ks.nil (h : Ks w0 wr ga gb gc va vb vc ku wu m mb mc e eb ec K U P) (hw : Away [] wr w') : Ks w0 w' ga gb gc va vb vc ku wu m mb mc e eb ec K U ((.slice none 0 0, []) :: P) := h.more hw (Lst.nil _) rfl (New.nil _)
theorem fp_move {g : Nat} {v v' : Value} {w : World} (hm : Moved w v v') : ∀ x ∈ fpH g v', x ∈ fpH g v ∨ w.heap.size ≤ x := fun x hx => by
  simp only [fpH, List.mem_cons, Option.mem_toList] at hx ⊢
  rcases hx with rfl | hx
  · exact .inl (.inl rfl)
  · rcases hm x hx with h | h
    · exact .inl (.inr h)
    · exact .inr h
theorem ob_move {v v' : Value} {w : World} (hm : Moved w v v') : ∀ x ∈ ob v', x ∈ ob v ∨ w.heap.size ≤ x := fun x hx => by
  simp only [ob, Option.mem_toList] at hx ⊢
  exact hm x hx
theorem sep_at {A : List (List Nat)} (h : A.Pairwise Sep) {i j : Nat} {S R : List Nat} (hi : A[i]? = some S) (hj : A[j]? = some R) (hij : i ≠ j) : Sep S R := by
  rw [List.pairwise_iff_getElem] at h
  obtain ⟨h1, rfl⟩ := List.getElem?_eq_some_iff.1 hi
  obtain ⟨h2, rfl⟩ := List.getElem?_eq_some_iff.1 hj
  rcases Nat.lt_or_gt_of_ne hij with h3 | h3
  · exact h i j h1 h2 h3
  · exact (h j i h2 h1 h3).symm
/-- What is written in one area leaves the others. -/
theorem Ks.rest (h : Ks w0 wr ga gb gc va vb vc ku wu m mb mc e eb ec K U P) {i : Nat} {S : List Nat} (hi : (areas ga gb gc va vb vc ku wu)[i]? = some S) (hw : Away S wr w') :
    (i ≠ 0 → Hl w' ga va m e) ∧ (i ≠ 1 → Hl w' gb vb mb eb) ∧ (i ≠ 2 → Hl w' gc vc mc ec) ∧ (i ≠ 3 → LstV w' ku K) ∧ (i ≠ 4 → LstV w' wu U) ∧ (∀ q ∈ P, Lst w' q.1 q.2 ∧ rightP q.2 = true) ∧ Away [] w0 w' := by
  have hm : S ∈ areas ga gb gc va vb vc ku wu := List.mem_of_getElem? hi
  refine ⟨fun hn => h.ha.off hw (sep_at h.dj (i := 0) rfl hi (fun e => hn e.symm)), fun hn => h.hb.off hw (sep_at h.dj (i := 1) rfl hi (fun e => hn e.symm)), fun hn => h.hc.off hw (sep_at h.dj (i := 2) rfl hi (fun e => hn e.symm)),
    fun hn => h.kl.away hw (fun k hk => sep_at h.dj (i := 3) rfl hi (fun e => hn e.symm) k (by simp [ob, hk])), fun hn => h.wl.away hw (fun k hk => sep_at h.dj (i := 4) rfl hi (fun e => hn e.symm) k (by simp [ob, hk])),
    fun q hq => ⟨(h.own q hq).1.away hw (fun k hk => h.pa q hq S hm k (by simp [ob, hk])), (h.own q hq).2⟩, h.aw.next hw (fun x hx => .inr (h.lo S hm x hx))⟩
theorem mem_set {A : List (List Nat)} {i : Nat} {S' R : List Nat} (h : R ∈ A.set i S') : R ∈ A ∨ R = S' := by
  rcases List.mem_or_eq_of_mem_set h with h | h
  · exact .inl h
  · exact .inr h
/-- .. and where it has moved all lies apart still. -/
theorem Ks.area (h : Ks w0 wr ga gb gc va vb vc ku wu m mb mc e eb ec K U P) {i : Nat} {S S' : List Nat} (hi : (areas ga gb gc va vb vc ku wu)[i]? = some S) (hS : ∀ x ∈ S', x ∈ S ∨ wr.heap.size ≤ x) (hlt : ∀ x ∈ S', x < w'.heap.size) (hw : wr.heap.size ≤ w'.heap.size) :
    ((areas ga gb gc va vb vc ku wu).set i S').Pairwise Sep ∧ (∀ R ∈ (areas ga gb gc va vb vc ku wu).set i S', ∀ x ∈ R, w0.heap.size ≤ x) ∧ (∀ R ∈ (areas ga gb gc va vb vc ku wu).set i S', ∀ x ∈ R, x < w'.heap.size) ∧
    (∀ q ∈ P, ∀ R ∈ (areas ga gb gc va vb vc ku wu).set i S', Sep (ob q.1) R) := by
  have hm : S ∈ areas ga gb gc va vb vc ku wu := List.mem_of_getElem? hi
  refine ⟨pw_set h.dj hi h.hi hS, fun R hR x hx => ?_, fun R hR x hx => ?_, fun q hq R hR => ?_⟩
  · rcases mem_set hR with hR | rfl
    · exact h.lo R hR x hx
    · rcases hS x hx with h1 | h1
      · exact h.lo S hm x h1
      · have := h.aw.size; omega
  · rcases mem_set hR with hR | rfl
    · have := h.hi R hR x hx; omega
    · exact hlt x hx
  · rcases mem_set hR with hR | rfl
    · exact h.pa q hq R hR
    · intro x hx hc
      rcases hS x hc with h1 | h1
      · exact h.pa q hq S hm x hx h1
      · have := (h.own q hq).1.lt x (by simpa [ob] using hx); omega
theorem took_ob {g : Nat} {v r v' : Value} {f c : List Sp} {z : Int} {w : World} (t : Took w w' g v r v' f c z) (hg : g < w.heap.size) : ∀ x ∈ ob r, x ∉ fpH g v' := fun x hx hc => by
  simp only [ob, fpH, List.mem_cons, Option.mem_toList] at hx hc
  have h1 := t.new x hx
  rcases hc with rfl | hc
  · omega
  · exact t.apart x hx hc
/-- A Put of one of the lists. -/
theorem Ks.putA (h : Ks w0 wr ga gb gc va vb vc ku wu m mb mc e eb ec K U P) {r va' : Value} {f c : List Sp} {z : Int} (t : Took wr w' ga va r va' f c z) (hf : rightP f = true) : Ks w0 w' ga gb gc va' vb vc ku wu c mb mc z eb ec K U ((r, f) :: P) := by
  have hi : (areas ga gb gc va vb vc ku wu)[0]? = some (fpH ga va) := rfl
  have taw : Away (fpH ga va) wr w' := t.aw
  obtain ⟨r1, r2, r3, r4, r5, r6, r7⟩ := h.rest hi taw
  obtain ⟨a1, a2, a3, a4⟩ := h.area (w' := w') hi (S' := fpH ga va') (fp_move t.moved) t.hl.fp_lt taw.size
  have es : (areas ga gb gc va vb vc ku wu).set 0 (fpH ga va') = areas ga gb gc va' vb vc ku wu := rfl
  rw [es] at a1 a2 a3 a4
  refine ⟨t.hl, r2 (by omega), r3 (by omega), r4 (by omega), r5 (by omega), fun q hq => ?_, h.new_pp t.new, a1, a2, a3, fun q hq R hR => ?_, r7, fun q hq => ?_⟩
  · rcases List.mem_cons.1 hq with rfl | hq
    · exact ⟨t.fresh, hf⟩
    · exact r6 q hq
  · rcases List.mem_cons.1 hq with rfl | hq
    · intro x hx hc
      have hx' := t.new x (by simpa [ob] using hx)
      have hg := h.hi _ (List.mem_of_getElem? hi) ga (by simp [fpH])
      rw [← es] at hR
      by_cases hR2 : R = fpH ga va'
      · subst hR2; exact took_ob t hg x hx hc
      · have hR3 : R ∈ areas ga gb gc va vb vc ku wu := by
          rcases mem_set hR with h1 | h1
          · exact h1
          · exact absurd h1 hR2
        have := h.hi R hR3 x hc
        omega
    · exact a4 q hq R hR
  · rcases List.mem_cons.1 hq with rfl | hq
    · exact New.mono t.new h.aw.size
    · exact h.pn q hq
/-- A Put of one of the lists. -/
theorem Ks.putB (h : Ks w0 wr ga gb gc va vb vc ku wu m mb mc e eb ec K U P) {r vb' : Value} {f c : List Sp} {z : Int} (t : Took wr w' gb vb r vb' f c z) (hf : rightP f = true) : Ks w0 w' ga gb gc va vb' vc ku wu m c mc e z ec K U ((r, f) :: P) := by
  have hi : (areas ga gb gc va vb vc ku wu)[1]? = some (fpH gb vb) := rfl
  have taw : Away (fpH gb vb) wr w' := t.aw
  obtain ⟨r1, r2, r3, r4, r5, r6, r7⟩ := h.rest hi taw
  obtain ⟨a1, a2, a3, a4⟩ := h.area (w' := w') hi (S' := fpH gb vb') (fp_move t.moved) t.hl.fp_lt taw.size
  have es : (areas ga gb gc va vb vc ku wu).set 1 (fpH gb vb') = areas ga gb gc va vb' vc ku wu := rfl
  rw [es] at a1 a2 a3 a4
  refine ⟨r1 (by omega), t.hl, r3 (by omega), r4 (by omega), r5 (by omega), fun q hq => ?_, h.new_pp t.new, a1, a2, a3, fun q hq R hR => ?_, r7, fun q hq => ?_⟩
  · rcases List.mem_cons.1 hq with rfl | hq
    · exact ⟨t.fresh, hf⟩
    · exact r6 q hq
  · rcases List.mem_cons.1 hq with rfl | hq
    · intro x hx hc
      have hx' := t.new x (by simpa [ob] using hx)
      have hg := h.hi _ (List.mem_of_getElem? hi) gb (by simp [fpH])
      rw [← es] at hR
      by_cases hR2 : R = fpH gb vb'
      · subst hR2; exact took_ob t hg x hx hc
      · have hR3 : R ∈ areas ga gb gc va vb vc ku wu := by
          rcases mem_set hR with h1 | h1
          · exact h1
          · exact absurd h1 hR2
        have := h.hi R hR3 x hc
        omega
    · exact a4 q hq R hR
  · rcases List.mem_cons.1 hq with rfl | hq
    · exact New.mono t.new h.aw.size
    · exact h.pn q hq
/-- A Put of one of the lists. -/
theorem Ks.putC (h : Ks w0 wr ga gb gc va vb vc ku wu m mb mc e eb ec K U P) {r vc' : Value} {f c : List Sp} {z : Int} (t : Took wr w' gc vc r vc' f c z) (hf : rightP f = true) : Ks w0 w' ga gb gc va vb vc' ku wu m mb c e eb z K U ((r, f) :: P) := by
  have hi : (areas ga gb gc va vb vc ku wu)[2]? = some (fpH gc vc) := rfl
  have taw : Away (fpH gc vc) wr w' := t.aw
  obtain ⟨r1, r2, r3, r4, r5, r6, r7⟩ := h.rest hi taw
  obtain ⟨a1, a2, a3, a4⟩ := h.area (w' := w') hi (S' := fpH gc vc') (fp_move t.moved) t.hl.fp_lt taw.size
  have es : (areas ga gb gc va vb vc ku wu).set 2 (fpH gc vc') = areas ga gb gc va vb vc' ku wu := rfl
  rw [es] at a1 a2 a3 a4
  refine ⟨r1 (by omega), r2 (by omega), t.hl, r4 (by omega), r5 (by omega), fun q hq => ?_, h.new_pp t.new, a1, a2, a3, fun q hq R hR => ?_, r7, fun q hq => ?_⟩
  · rcases List.mem_cons.1 hq with rfl | hq
    · exact ⟨t.fresh, hf⟩
    · exact r6 q hq
  · rcases List.mem_cons.1 hq with rfl | hq
    · intro x hx hc
      have hx' := t.new x (by simpa [ob] using hx)
      have hg := h.hi _ (List.mem_of_getElem? hi) gc (by simp [fpH])
      rw [← es] at hR
      by_cases hR2 : R = fpH gc vc'
      · subst hR2; exact took_ob t hg x hx hc
      · have hR3 : R ∈ areas ga gb gc va vb vc ku wu := by
          rcases mem_set hR with h1 | h1
          · exact h1
          · exact absurd h1 hR2
        have := h.hi R hR3 x hc
        omega
    · exact a4 q hq R hR
  · rcases List.mem_cons.1 hq with rfl | hq
    · exact New.mono t.new h.aw.size
    · exact h.pn q hq
/-- More is kept. -/
theorem Ks.pushK (h : Ks w0 wr ga gb gc va vb vc ku wu m mb mc e eb ec K U P) {ku' : Value} {us : List Value} (hl : LstV w' ku' (K ++ us)) (hw : Away ku.ownBlock.toList wr w') (hm : Moved wr ku ku') : Ks w0 w' ga gb gc va vb vc ku' wu m mb mc e eb ec (K ++ us) U P := by
  have hi : (areas ga gb gc va vb vc ku wu)[3]? = some (ob ku) := rfl
  obtain ⟨r1, r2, r3, r4, r5, r6, r7⟩ := h.rest hi hw
  obtain ⟨a1, a2, a3, a4⟩ := h.area (w' := w') hi (S' := ob ku') (ob_move hm) (fun x hx => hl.lt x (by simpa [ob] using hx)) hw.size
  exact ⟨r1 (by omega), r2 (by omega), r3 (by omega), hl, r5 (by omega), r6, h.pp, a1, a2, a3, a4, r7, h.pn⟩
theorem Ks.pushU (h : Ks w0 wr ga gb gc va vb vc ku wu m mb mc e eb ec K U P) {wu' : Value} {us : List Value} (hl : LstV w' wu' (U ++ us)) (hw : Away wu.ownBlock.toList wr w') (hm : Moved wr wu wu') : Ks w0 w' ga gb gc va vb vc ku wu' m mb mc e eb ec K (U ++ us) P := by
  have hi : (areas ga gb gc va vb vc ku wu)[4]? = some (ob wu) := rfl
  obtain ⟨r1, r2, r3, r4, r5, r6, r7⟩ := h.rest hi hw
  obtain ⟨a1, a2, a3, a4⟩ := h.area (w' := w') hi (S' := ob wu') (ob_move hm) (fun x hx => hl.lt x (by simpa [ob] using hx)) hw.size
  exact ⟨r1 (by omega), r2 (by omega), r3 (by omega), r4 (by omega), hl, r6, h.pp, a1, a2, a3, a4, r7, h.pn⟩
end
/-- What is kept, with its copies, out of all that was told. -/
structure Tk (K U : List Value) (P : List (Value × List Sp)) (T : List Kept) : Prop where
  k : K = T.map Kept.v
  u : U = T.map Kept.u
  mu : ∀ t ∈ T, (t.u, t.p) ∈ P
  sub : ∃ L : List (Value × List Sp), L.Perm (T.map (fun t => (t.v, t.p))) ∧ L.Sublist P
theorem Tk.mono {K U : List Value} {P Q : List (Value × List Sp)} {T : List Kept} (h : Tk K U P T) (hs : P.Sublist Q) : Tk K U Q T := by
  obtain ⟨L, h1, h2⟩ := h.sub
  exact ⟨h.k, h.u, fun t ht => hs.subset (h.mu t ht), L, h1, h2.trans hs⟩
theorem Tk.bag {w0 wr : World} {ga gb gc : Nat} {va vb vc ku wu : Value} {m mb mc : List Sp} {e eb ec : Int} {K U : List Value} {P : List (Value × List Sp)} {T : List Kept} (h : Tk K U P T) (hk : Ks w0 wr ga gb gc va vb vc ku wu m mb mc e eb ec K U P) : Bag wr ku wu T := by
  obtain ⟨L, hL, hs⟩ := h.sub
  have hmv : ∀ t ∈ T, (t.v, t.p) ∈ P := fun t ht => hs.subset (hL.mem_iff.2 (List.mem_map.2 ⟨t, ht, rfl⟩))
  refine ⟨by rw [← h.k]; exact hk.kl, by rw [← h.u]; exact hk.wl, fun t ht => ⟨(hk.own _ (hmv t ht)).1, (hk.own _ (h.mu t ht)).1, (hk.own _ (hmv t ht)).2⟩, ?_, fun t ht => hk.pa _ (hmv t ht) (ob ku) (by simp [areas])⟩
  have h1 : L.Pairwise (fun p q => Sep (ob p.1) (ob q.1)) := hk.pp.sublist hs
  have h2 := (hL.pairwise_iff (R := fun p q => Sep (ob p.1) (ob q.1)) (fun h => Sep.symm h)).1 h1
  rw [List.pairwise_map] at h2
  exact h2
theorem Tk.adds {K U : List Value} {P P' M : List (Value × List Sp)} {T : List Kept} (h : Tk K U P T) (N : List Kept) (hM : M.Perm (N.map (fun t => (t.v, t.p)))) (hs : (M ++ P).Sublist P') (hu : ∀ t ∈ N, (t.u, t.p) ∈ P') :
    Tk (K ++ N.map Kept.v) (U ++ N.map Kept.u) P' (T ++ N) := by
  obtain ⟨L, h1, h2⟩ := h.sub
  have hP : P.Sublist P' := (List.sublist_append_right M P).trans hs
  refine ⟨by rw [h.k, List.map_append], by rw [h.u, List.map_append], fun t ht => ?_, M ++ L, ?_, (List.Sublist.append (List.Sublist.refl M) h2).trans hs⟩
  · rcases List.mem_append.1 ht with ht | ht
    · exact hP.subset (h.mu t ht)
    · exact hu t ht
  · rw [List.map_append]
    exact (List.perm_append_comm.trans (List.Perm.append h1 hM))
theorem Tk.nil (P : List (Value × List Sp)) : Tk [] [] P [] := ⟨rfl, rfl, by simp, [], by simp, by simp⟩
/-- What a Put tells and leaves. -/
def stF (m : List Sp) (e o n : Int) (b : Bool) : List Sp := if putOk m e o n b = true then freshP m (o, o + n) else []
def stM (m : List Sp) (e o n : Int) (b : Bool) : List Sp := if putOk m e o n b = true then putM m o n b else m
def stE (m : List Sp) (e o n : Int) (b : Bool) : Int := if putOk m e o n b = true then putE e o n b else e
def stV (m : List Sp) (e o n : Int) (b : Bool) : Int := if putOk m e o n b = true then 0 else 1
theorem st_right {m : List Sp} {e o n : Int} {b : Bool} (hm : rightP m = true) : rightP (stF m e o n b) = true := by
  unfold stF
  split
  · rename_i h
    have h1 : argOk o n = true := by unfold putOk at h; simp at h; exact h.1
    unfold argOk at h1
    simp at h1
    exact (fresh_of hm (by unfold Is; simp; omega)).1
  · rfl
section
variable {w0 wr w' : World} {ga gb gc : Nat} {va vb vc ku wu : Value} {m mb mc : List Sp} {e eb ec : Int} {K U : List Value} {P : List (Value × List Sp)} {o n ev : Int} {b : Bool} {r : Value}
theorem Ks.qA (h : Ks w0 wr ga gb gc va vb vc ku wu m mb mc e eb ec K U P) (hq : PutQ wr ga va m e o n b r ev w') : ev = stV m e o n b ∧ ∃ va', Ks w0 w' ga gb gc va' vb vc ku wu (stM m e o n b) mb mc (stE m e o n b) eb ec K U ((r, stF m e o n b) :: P) := by
  have hr := st_right (e := e) (o := o) (n := n) (b := b) h.ha.right
  unfold stV stM stE
  rcases hq with ⟨h1, h2, v', t⟩ | ⟨h1, h2, rfl, t⟩
  · rw [if_pos h1, if_pos h1, if_pos h1]
    have e1 : stF m e o n b = freshP m (o, o + n) := by unfold stF; rw [if_pos h1]
    rw [e1] at hr ⊢
    exact ⟨h2, v', h.putA t hr⟩
  · have h3 : ¬ (putOk m e o n b = true) := by rw [h1]; simp
    rw [if_neg h3, if_neg h3, if_neg h3]
    have e1 : stF m e o n b = [] := by unfold stF; rw [if_neg h3]
    rw [e1]
    exact ⟨h2, va, h.nil t⟩
theorem Ks.qB (h : Ks w0 wr ga gb gc va vb vc ku wu m mb mc e eb ec K U P) (hq : PutQ wr gb vb mb eb o n b r ev w') : ev = stV mb eb o n b ∧ ∃ vb', Ks w0 w' ga gb gc va vb' vc ku wu m (stM mb eb o n b) mc e (stE mb eb o n b) ec K U ((r, stF mb eb o n b) :: P) := by
  have hr := st_right (e := eb) (o := o) (n := n) (b := b) h.hb.right
  unfold stV stM stE
  rcases hq with ⟨h1, h2, v', t⟩ | ⟨h1, h2, rfl, t⟩
  · rw [if_pos h1, if_pos h1, if_pos h1]
    have e1 : stF mb eb o n b = freshP mb (o, o + n) := by unfold stF; rw [if_pos h1]
    rw [e1] at hr ⊢
    exact ⟨h2, v', h.putB t hr⟩
  · have h3 : ¬ (putOk mb eb o n b = true) := by rw [h1]; simp
    rw [if_neg h3, if_neg h3, if_neg h3]
    have e1 : stF mb eb o n b = [] := by unfold stF; rw [if_neg h3]
    rw [e1]
    exact ⟨h2, vb, h.nil t⟩
theorem Ks.qC (h : Ks w0 wr ga gb gc va vb vc ku wu m mb mc e eb ec K U P) (hq : PutQ wr gc vc mc ec o n b r ev w') : ev = stV mc ec o n b ∧ ∃ vc', Ks w0 w' ga gb gc va vb vc' ku wu m mb (stM mc ec o n b) e eb (stE mc ec o n b) K U ((r, stF mc ec o n b) :: P) := by
  have hr := st_right (e := ec) (o := o) (n := n) (b := b) h.hc.right
  unfold stV stM stE
  rcases hq with ⟨h1, h2, v', t⟩ | ⟨h1, h2, rfl, t⟩
  · rw [if_pos h1, if_pos h1, if_pos h1]
    have e1 : stF mc ec o n b = freshP mc (o, o + n) := by unfold stF; rw [if_pos h1]
    rw [e1] at hr ⊢
    exact ⟨h2, v', h.putC t hr⟩
  · have h3 : ¬ (putOk mc ec o n b = true) := by rw [h1]; simp
    rw [if_neg h3, if_neg h3, if_neg h3]
    have e1 : stF mc ec o n b = [] := by unfold stF; rw [if_neg h3]
    rw [e1]
    exact ⟨h2, vc, h.nil t⟩
/-- The three lists, new. -/
theorem Ks.start {w1 w2 w3 : World} (h1 : Hl w1 ga va [(0, 65535)] (-1)) (g1 : w0.heap.size ≤ ga) (n1 : New w0.heap.size va) (a1 : Away [] w0 w1)
    (h2 : Hl w2 gb vb [(0, 65535)] (-1)) (g2 : w1.heap.size ≤ gb) (n2 : New w1.heap.size vb) (a2 : Away [] w1 w2) (h3 : Hl w3 gc vc [(0, 65535)] (-1)) (g3 : w2.heap.size ≤ gc) (n3 : New w2.heap.size vc) (a3 : Away [] w2 w3) :
    Ks w0 w3 ga gb gc va vb vc (.slice none 0 0) (.slice none 0 0) [(0, 65535)] [(0, 65535)] [(0, 65535)] (-1) (-1) (-1) [] [] [] := by
  have lo : ∀ {B g : Nat} {v : Value}, B ≤ g → New B v → ∀ x ∈ fpH g v, B ≤ x := fun hg hn x hx => by
    simp only [fpH, List.mem_cons, Option.mem_toList] at hx
    rcases hx with rfl | hx
    · exact hg
    · exact hn x hx
  have l1 := lo g1 n1
  have l2 := lo g2 n2
  have l3 := lo g3 n3
  have u1 := h1.fp_lt
  have u2 := h2.fp_lt
  have u3 := h3.fp_lt
  have z1 := a1.size
  have z2 := a2.size
  have z3 := a3.size
  refine ⟨(h1.on a2).on a3, h2.on a3, h3, LstV.nil _, LstV.nil _, by simp, by simp, ?_, ?_, ?_, by simp, (a1.trans a2).trans a3, by simp⟩
  · simp only [areas, ob, Value.ownBlock, Option.toList_none, List.pairwise_cons, List.mem_cons, List.not_mem_nil, or_false, forall_eq_or_imp, forall_eq, List.Pairwise.nil, and_true, false_imp_iff, implies_true]
    refine ⟨⟨fun x hx hc => ?_, fun x hx hc => ?_, Sep.nil _, Sep.nil _⟩, ⟨fun x hx hc => ?_, Sep.nil _, Sep.nil _⟩, ⟨Sep.nil _, Sep.nil _⟩, Sep.nil _⟩
    · have := u1 x hx; have := l2 x hc; omega
    · have := u1 x hx; have := l3 x hc; omega
    · have := u2 x hx; have := l3 x hc; omega
  · intro S hS x hx
    simp only [areas, ob, Value.ownBlock, Option.toList_none, List.mem_cons, List.not_mem_nil, or_false] at hS
    rcases hS with rfl | rfl | rfl | rfl | rfl
    · exact l1 x hx
    · have := l2 x hx; omega
    · have := l3 x hx; omega
    · simp at hx
    · simp at hx
  · intro S hS x hx
    simp only [areas, ob, Value.ownBlock, Option.toList_none, List.mem_cons, List.not_mem_nil, or_false] at hS
    rcases hS with rfl | rfl | rfl | rfl | rfl
    · have := u1 x hx; omega
    · have := u2 x hx; omega
    · exact u3 x hx
    · simp at hx
    · simp at hx
/-- Behind the marking. -/
theorem Ks.marked {T : List Kept} (h : Ks w0 wr ga gb gc va vb vc ku wu m mb mc e eb ec K U P) (ht : Tk K U P T) (hw : Away (T.flatMap (fun t => t.v.ownBlock.toList)) wr w') : Hl w' ga va m e ∧ Hl w' gc vc mc ec ∧ Away [] w0 w' := by
  obtain ⟨L, hL, hs⟩ := ht.sub
  have hmv : ∀ t ∈ T, (t.v, t.p) ∈ P := fun t ht => hs.subset (hL.mem_iff.2 (List.mem_map.2 ⟨t, ht, rfl⟩))
  have hsep : ∀ S ∈ areas ga gb gc va vb vc ku wu, Sep S (T.flatMap (fun t => t.v.ownBlock.toList)) := fun S hS x hx hc => by
    obtain ⟨t, ht, h1⟩ := List.mem_flatMap.1 hc
    exact h.pa _ (hmv t ht) S hS x h1 hx
  refine ⟨h.ha.off hw (hsep _ (by simp [areas])), h.hc.off hw (hsep _ (by simp [areas])), h.aw.next hw (fun x hx => .inr ?_)⟩
  obtain ⟨t, ht, h1⟩ := List.mem_flatMap.1 hx
  exact h.pn _ (hmv t ht) x (by simpa using h1)
end
#print axioms Ks.marked
end Go.Proofs.Ytcjkhpinccjncaa
