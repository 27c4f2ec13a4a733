/-
  For RecutFew: what its loop builds.
-/
import Derived.Test.YtaicckenpplceaaDoorFwP
import Derived.Test.YtaicckenpplceaaDoorRtK
namespace Go.Proofs.YtaicckenpplceaaDoor
open Go.ChangeShapes Go.WideShapes Go.ChangeAt Go.RowKit Go.Deep Num
set_option linter.unusedVariables false
set_option maxHeartbeats 4000000
set_option maxRecDepth 100000

namespace R
/-- What is built so far. -/
structure Bld (x : Pk) (l : List Pk) (n : Nat) : Prop where
  kin : ∀ q ∈ l, Kin x q
  cm : complL x.off l = true
  da : datas l = x.d.take n
  le : n ≤ x.d.length
  hd : ∀ q r, l = q :: r → q.o = x.o ∧ ∀ z ∈ r, z.o = carryP x.o
  mt : n < x.d.length → ∀ q ∈ l, q.more = true
  mo : ¬ n < x.d.length → l ≠ [] → moresB x.more l
  n8 : n < x.d.length → n % 8 = 0
  ne : 0 < n → l ≠ []
theorem Bld.nil (x : Pk) : Bld x [] 0 := ⟨by simp, rfl, by simp [datas], by omega, fun q r e => by simp at e, by simp, fun _ h => absurd rfl h, by omega, by omega⟩
theorem mores_all : ∀ {l : List Pk}, (∀ q ∈ l, q.more = true) → l ≠ [] → moresB true l
  | [], _, h => absurd rfl h
  | [q], h, _ => h q (by simp)
  | q :: r :: s, h, _ => ⟨h q (by simp), mores_all (fun z hz => h z (List.mem_cons_of_mem _ hz)) (by simp)⟩
theorem Bld.snoc {x : Pk} {l : List Pk} {n : Nat} (h : Bld x l n) (hw : Wf x) (hr : rgtP x = true) (hv : x.v = 4) (hn : n < x.d.length) {s : Nat} (h0 : 0 < s) (hs : n + s ≤ x.d.length) (h8 : n + s < x.d.length → s % 8 = 0) {o : List Int} (ho : o = if l.length = 0 then x.o else carryP x.o) {b : Bool} (hb : b = (decide (n + s < x.d.length) || x.more)) :
    Bld x (l ++ [pcX x o n ((x.d.drop n).take s) b]) (n + s) := by
  have hv6 : x.v ≠ 6 := by omega
  have hxr := hr
  unfold rgtP at hxr
  rw [if_neg hv6, right_iff] at hxr
  have hc := carry_valid hw.o
  have hof : validP o = true ∧ Bytes o ∧ o.length ≤ x.o.length := by
    rw [ho]
    split
    · exact ⟨hxr.2, hw.o, Nat.le_refl _⟩
    · exact ⟨hc.1, hc.2.2.1, hc.2.1⟩
  have hl : ((x.d.drop n).take s).length = s := by rw [List.length_take, List.length_drop]; omega
  have hn8 := h.n8 hn
  have hk : Kin x (pcX x o n ((x.d.drop n).take s) b) := pcX_kin hw hr hv6 hof.1 hof.2.1 hof.2.2 ((hw.d.drop n).take s) (by omega) hn8 (by rw [hl]; exact hs) (fun e => by
    rw [hl]
    by_cases h1 : n + s < x.d.length
    · exact h8 h1
    · have h2 : x.more = true := by
        rw [hb] at e
        simpa [h1] using e
      have h3 := hxr.1.m8 h2
      omega)
  have hdl : (datas l).length = n := by rw [h.da, List.length_take]; omega
  refine ⟨fun q hq => ?_, compl_app l _ _ h.cm ?_, ?_, hs, fun q r e => ?_, fun h1 q hq => ?_, fun h1 _ => ?_, fun h1 => by have := h8 h1; omega, fun _ => by simp⟩
  · rcases List.mem_append.1 hq with hq | hq
    · exact h.kin q hq
    · simp at hq; subst hq; exact hk
  · rw [hdl, complL, complL, Bool.and_true, decide_eq_true_eq]
    show (n : Int) + x.off = _
    omega
  · rw [datas_app, h.da, List.take_add]
    simp [datas, pcX]
  · cases l with
    | nil =>
      simp only [List.nil_append, List.cons.injEq] at e
      obtain ⟨rfl, rfl⟩ := e
      exact ⟨by show o = x.o; rw [ho]; simp, by simp⟩
    | cons a c =>
      simp only [List.cons_append, List.cons.injEq] at e
      obtain ⟨rfl, rfl⟩ := e
      obtain ⟨h1, h2⟩ := h.hd a c rfl
      refine ⟨h1, fun z hz => ?_⟩
      rcases List.mem_append.1 hz with hz | hz
      · exact h2 z hz
      · simp at hz; subst hz; show o = _; rw [ho]; simp
  · rcases List.mem_append.1 hq with hq | hq
    · exact h.mt hn q hq
    · simp at hq; subst hq; show b = true; rw [hb]; simp [h1]
  · have hbm : b = x.more := by rw [hb]; simp [h1]
    by_cases hle : l = []
    · subst hle; exact hbm
    · exact mores_app (mores_all (h.mt hn) hle) hbm
theorem Bld.ref2 {x : Pk} {l : List Pk} {m : Int} (h : Bld x l x.d.length) (hne : l ≠ []) (hf : ∀ q ∈ l, longP q ≤ m) : Ref2 x m l := by
  refine ⟨⟨h.kin, h.mo (by omega) hne, h.cm, by rw [h.da]; simp, fun q r e => ⟨(h.hd q r e).1, ?_⟩⟩, fun q r e => (h.hd q r e).2, hf⟩
  have := h.cm
  rw [e, complL, Bool.and_eq_true, decide_eq_true_eq] at this
  exact this.1
theorem kin_long {x q : Pk} (h : Kin x q) (hv : x.v = 4) : longP q = ((20 + q.o.length + q.d.length : Nat) : Int) := by
  rw [long_of h.r]
  have e : topP q = 20 + q.o.length := by unfold topP; rw [if_neg (by rw [h.v]; omega)]
  rw [e]
theorem ref_data {x : Pk} {l : List Pk} (h : Ref x l) (hv : x.v = 4) {k : Nat} {q : Pk} (hq : l[k]? = some q) (hk : 0 < k) : q.d.length ≠ 0 := by
  have hv6 : x.v ≠ 6 := by omega
  obtain ⟨j, rfl⟩ : ∃ j, k = j + 1 := ⟨k - 1, by omega⟩
  have hlt := (List.getElem?_eq_some_iff.1 hq).1
  obtain ⟨y, hy⟩ : ∃ y, l[j]? = some y := ⟨l[j]'(by omega), List.getElem?_eq_getElem (by omega)⟩
  have frm : ∀ {z : Pk}, z ∈ l → Formed z := fun {z} hz => by
    have hk := h.kin z hz
    have hr := hk.r
    unfold rgtP at hr
    rw [if_neg (by rw [hk.v]; exact hv6), right_iff] at hr
    exact hr.1
  have h1 := (frm (List.mem_of_getElem? hy)).m0 (more_at l h.mo j y hy (by omega))
  have h2 := compl_at l _ h.cm (j + 1) q hq
  have h3 := sum_succ hy
  have h4 := compl_at l _ h.cm j y hy
  have h5 := (frm (List.mem_of_getElem? hy)).o0
  exact (frm (List.mem_of_getElem? hq)).f0 (by omega)
/-! The packet under way. -/
structure Bx (B : Nat) (w : World) (g : Nat) (p : Pk) (oo dd : Value) : Prop where
  box : BoxP w g p oo dd
  o : Owns w oo p.o
  d : Owns w dd p.d
  no : New B oo
  nd : New B dd
  ap : ∀ k, oo.ownBlock = some k → dd.ownBlock ≠ some k
  go : ∀ k, oo.ownBlock = some k → k ≠ g
  gd : ∀ k, dd.ownBlock = some k → k ≠ g
  gb : B ≤ g
  ad : Ad p
section
variable {B g : Nat} {w w' : World} {p p' : Pk} {oo dd v : Value} {l : List Int}
theorem Bx.on (h : Bx B w g p oo dd) (hw : Away [] w w') : Bx B w' g p oo dd := ⟨h.box.on hw, h.o.away hw (by simp), h.d.away hw (by simp), h.no, h.nd, h.ap, h.go, h.gd, h.gb, h.ad⟩
theorem Bx.fld (h : Bx B w g p oo dd) (i : Nat) (x : Value) (hx : (csP p oo dd).setIfInBounds i x = csP p' oo dd) (ha : Ad p') (ho : p'.o = p.o) (hd : p'.d = p.d) : Bx B (w.setCell ⟨g, i, none⟩ x) g p' oo dd :=
  ⟨h.box.put i x hx, by rw [ho]; exact h.o.away (away_put (g := g) i x) (fun k hk => by simpa using h.go k hk), by rw [hd]; exact h.d.away (away_put (g := g) i x) (fun k hk => by simpa using h.gd k hk), h.no, h.nd, h.ap, h.go, h.gd, h.gb, ha⟩
theorem Bx.setO (h : Bx B w g p oo dd) (hown : Owns w v l) (hn : ∀ k, v.ownBlock = some k → B ≤ k ∧ k ≠ g ∧ dd.ownBlock ≠ some k) : Bx B (w.setCell ⟨g, 44, none⟩ v) g { p with o := l } v dd :=
  ⟨h.box.put 44 v ((csP_set h.ad _ _).2.2.2.2.2.2.2.2.2.2.2.2.1 l v), hown.away (away_put (g := g) 44 v) (fun k hk => by simpa using (hn k hk).2.1), h.d.away (away_put (g := g) 44 v) (fun k hk => by simpa using h.gd k hk), fun k hk => (hn k hk).1, h.nd, fun k hk => (hn k hk).2.2, fun k hk => (hn k hk).2.1, h.gd, h.gb, h.ad⟩
theorem Bx.setD (h : Bx B w g p oo dd) (hown : Owns w v l) (hn : ∀ k, v.ownBlock = some k → B ≤ k ∧ k ≠ g ∧ oo.ownBlock ≠ some k) : Bx B (w.setCell ⟨g, 45, none⟩ v) g { p with d := l } oo v :=
  ⟨h.box.put 45 v ((csP_set h.ad _ _).2.2.2.2.2.2.2.2.2.2.2.2.2 l v), h.o.away (away_put (g := g) 45 v) (fun k hk => by simpa using h.go k hk), hown.away (away_put (g := g) 45 v) (fun k hk => by simpa using (hn k hk).2.1), h.no, fun k hk => (hn k hk).1, fun k hk e => (hn k e).2.2 hk, h.go, fun k hk => (hn k hk).2.1, h.gb, h.ad⟩
theorem Bx.mine (h : Bx B w g p oo dd) : Mine w B p oo dd := ⟨h.o, h.d, h.no, h.nd, h.ap⟩
end
theorem slice_h29 (a : Option Addr) (len cap k : Nat) (z : Int) (hz : z = (k : Int)) (hk : k ≤ cap) (wx : World) :
    (Instr.sliceAt 29 (.slice a len cap) none (some (.int .i64 z)) none).run Tryd.prog wx = .ok (.slice a k cap) wx := by
  subst hz
  have size3 : (sizeOf (Tryd.prog.elem 29)).run Tryd.prog wx = .ok 1 wx := by kernel_rfl
  rw [run_sliceAt_slice (h := Tryd.underlying29), run_slice_h (ht := Tryd.underlying29) (h0 := by omega) (h2 := by omega), size3]
  simp only [Result.andThen, sliced]
  have e : a.map (·.add (0 * 1)) = a := by cases a <;> simp [add_zero]
  rw [show (k : Int).toNat = k from by omega, e, ite_self, Nat.sub_zero, Nat.sub_zero]
end R
#print axioms R.Bld.snoc
end Go.Proofs.YtaicckenpplceaaDoor
