/-
  CutIs.
-/
import Derived.Test.YtbnnfbfmomafnaaDoorKit
import Derived.Test.YtbnnfbfmomafnaaDoorLp
import Derived.Test.YtbnnfbfmomafnaaDoorStp
import Derived.Deep.RegionHeld3
import Derived.Test.YtbnnfbfmomafnaaDoorSameP
import Derived.Test.YtbnnfbfmomafnaaDoorQ32
import Derived.Test.YtbnnfbfmomafnaaDoorFr
import Derived.Test.YtbnnfbfmomafnaaDoorDcS
namespace Go.Proofs.YtbnnfbfmomafnaaDoor
open Go.ChangeShapes Go.WideShapes Go.ChangeAt Go.RowKit Go.Deep Num
set_option linter.unusedVariables false
set_option maxHeartbeats 4000000
set_option maxRecDepth 100000

/-- A packet that came in. -/
theorem open_pktL {H : Type} {enc : TypeId × Value → H} {W : World} {fuel : Nat} {L : List Value} {d : DataW H} {pl : List MemPlace} (hLl : L.length = 46)
    (hf : DataW.trod enc Tryd.prog W 0 (fun _ => true) true fuel 28 L = some (d, pl)) (hw : ∀ n ∈ d.weights Tryd.prog 28, n ≤ reachBytes) :
    ∃ (p : Pk) (ov dv : Value), L = listP p ov dv ∧ Pkt W p ov dv ∧ p.o.length ≤ 140737488351232 ∧ p.d.length ≤ 140737488351232 := by
  obtain ⟨xs, n, _, hx, hlen, hxs, hfs⟩ := DataW.trod_struct Tryd.underlying28 hf
  obtain ⟨k3, k4, k25, k26, k24⟩ := sizes28
  have hx14 : xs.length = 14 := by simpa using hxs
  have f0 : DataW.trod enc Tryd.prog W 0 (fun _ => true) true n 3 ((L.drop 0).take (Tryd.prog.cellsOf 3)) = xs[0]? := hfs 0 _ rfl
  have f1 : DataW.trod enc Tryd.prog W 0 (fun _ => true) true n 3 ((L.drop 1).take (Tryd.prog.cellsOf 3)) = xs[1]? := hfs 1 _ rfl
  have f2 : DataW.trod enc Tryd.prog W 0 (fun _ => true) true n 3 ((L.drop 2).take (Tryd.prog.cellsOf 3)) = xs[2]? := hfs 2 _ rfl
  have f3 : DataW.trod enc Tryd.prog W 0 (fun _ => true) true n 24 ((L.drop 3).take (Tryd.prog.cellsOf 24)) = xs[3]? := hfs 3 _ rfl
  have f4 : DataW.trod enc Tryd.prog W 0 (fun _ => true) true n 24 ((L.drop 20).take (Tryd.prog.cellsOf 24)) = xs[4]? := hfs 4 _ rfl
  have f5 : DataW.trod enc Tryd.prog W 0 (fun _ => true) true n 3 ((L.drop 37).take (Tryd.prog.cellsOf 3)) = xs[5]? := hfs 5 _ rfl
  have f6 : DataW.trod enc Tryd.prog W 0 (fun _ => true) true n 3 ((L.drop 38).take (Tryd.prog.cellsOf 3)) = xs[6]? := hfs 6 _ rfl
  have f7 : DataW.trod enc Tryd.prog W 0 (fun _ => true) true n 25 ((L.drop 39).take (Tryd.prog.cellsOf 25)) = xs[7]? := hfs 7 _ rfl
  have f8 : DataW.trod enc Tryd.prog W 0 (fun _ => true) true n 4 ((L.drop 40).take (Tryd.prog.cellsOf 4)) = xs[8]? := hfs 8 _ rfl
  have f9 : DataW.trod enc Tryd.prog W 0 (fun _ => true) true n 4 ((L.drop 41).take (Tryd.prog.cellsOf 4)) = xs[9]? := hfs 9 _ rfl
  have f10 : DataW.trod enc Tryd.prog W 0 (fun _ => true) true n 4 ((L.drop 42).take (Tryd.prog.cellsOf 4)) = xs[10]? := hfs 10 _ rfl
  have f11 : DataW.trod enc Tryd.prog W 0 (fun _ => true) true n 3 ((L.drop 43).take (Tryd.prog.cellsOf 3)) = xs[11]? := hfs 11 _ rfl
  have f12 : DataW.trod enc Tryd.prog W 0 (fun _ => true) true n 26 ((L.drop 44).take (Tryd.prog.cellsOf 26)) = xs[12]? := hfs 12 _ rfl
  have f13 : DataW.trod enc Tryd.prog W 0 (fun _ => true) true n 26 ((L.drop 45).take (Tryd.prog.cellsOf 26)) = xs[13]? := hfs 13 _ rfl
  obtain ⟨y0, y1, y2, y3, y4, y5, y6, y7, y8, y9, y10, y11, y12, y13, rfl⟩ : ∃ y0 y1 y2 y3 y4 y5 y6 y7 y8 y9 y10 y11 y12 y13, xs = [y0, y1, y2, y3, y4, y5, y6, y7, y8, y9, y10, y11, y12, y13] := by
    match xs, hx14 with
    | [y0, y1, y2, y3, y4, y5, y6, y7, y8, y9, y10, y11, y12, y13], _ => exact ⟨y0, y1, y2, y3, y4, y5, y6, y7, y8, y9, y10, y11, y12, y13, rfl⟩
  obtain ⟨a0, e0, _, w0⟩ := DataW.trod_int Tryd.underlying3 f0
  obtain ⟨a1, e1, _, w1⟩ := DataW.trod_int Tryd.underlying3 f1
  obtain ⟨a2, e2, _, w2⟩ := DataW.trod_int Tryd.underlying3 f2
  rw [k24] at f3 f4
  obtain ⟨sv, sb, e3, s16, sby, swf⟩ := open_adr f3 (by simp; omega)
  obtain ⟨dv', db, e4, d16, dby, dwf⟩ := open_adr f4 (by simp; omega)
  obtain ⟨a5, e5, _, w5⟩ := DataW.trod_int Tryd.underlying3 f5
  obtain ⟨a6, e6, _, w6⟩ := DataW.trod_int Tryd.underlying3 f6
  obtain ⟨a7, e7, _, w7⟩ := DataW.trod_int Tryd.underlying25 f7
  obtain ⟨a8, e8, _⟩ := DataW.trod_bool Tryd.underlying4 f8
  obtain ⟨a9, e9, _⟩ := DataW.trod_bool Tryd.underlying4 f9
  obtain ⟨a10, e10, _⟩ := DataW.trod_bool Tryd.underlying4 f10
  obtain ⟨a11, e11, _, w11⟩ := DataW.trod_int Tryd.underlying3 f11
  rw [k3] at e0 e1 e2 e5 e6 e11
  rw [k25] at e7
  rw [k4] at e8 e9 e10
  rw [k26] at f12 f13
  obtain ⟨ov, e12⟩ : ∃ ov, (L.drop 44).take 1 = [ov] := by
    have : ((L.drop 44).take 1).length = 1 := by simp; omega
    exact List.length_eq_one_iff.1 this
  obtain ⟨dv, e13⟩ : ∃ ov, (L.drop 45).take 1 = [ov] := by
    have : ((L.drop 45).take 1).length = 1 := by simp; omega
    exact List.length_eq_one_iff.1 this
  rw [e12] at f12
  rw [e13] at f13
  obtain ⟨D12, P12⟩ := y12
  obtain ⟨D13, P13⟩ := y13
  simp only [Prod.mk.injEq, List.map_cons, List.map_nil] at hx
  obtain ⟨rfl, _⟩ := hx
  obtain ⟨oa, ol, ocap, rfl, og1, og2, og3, og4, _⟩ := open_cell f12 (fun k hk => hw k (by
    simp only [DataW.weights, Tryd.underlying28]
    simp [DataW.weightsEach, hk]))
  obtain ⟨da, dl, dcap, rfl, dg1, dg2, dg3, dg4, _⟩ := open_cell f13 (fun k hk => hw k (by
    simp only [DataW.weights, Tryd.underlying28]
    simp [DataW.weightsEach, hk]))
  have hw7 := wf32 w7
  refine ⟨⟨a0, a1, a2, sv, sb, dv', db, a5, a6, a7, a8, a9, a10, a11, ol, dl⟩, _, _, ?_, ⟨⟨wf64 w0, wf64 w1, wf64 w2, swf, s16, sby, dwf, d16, dby, wf64 w5, wf64 w6, hw7.1, hw7.2, wf64 w11, og3.2.1, og3.1, dg3.2.1, dg3.1⟩, ⟨oa, ocap, rfl, og1, og4, og3⟩, ⟨da, dcap, rfl, dg1, dg4, dg3⟩⟩, by show ol.length ≤ _; omega, by show dl.length ≤ _; omega⟩
  have c := cut_at L 0 1
  have cend : L.drop (0 + 1 + 1 + 1 + 17 + 17 + 1 + 1 + 1 + 1 + 1 + 1 + 1 + 1 + 1) = [] := List.drop_eq_nil_of_le (by omega)
  rw [e0, cut_at L (0 + 1) 1, e1, cut_at L (0 + 1 + 1) 1, e2, cut_at L (0 + 1 + 1 + 1) 17, e3, cut_at L (0 + 1 + 1 + 1 + 17) 17, e4, cut_at L (0 + 1 + 1 + 1 + 17 + 17) 1, e5, cut_at L (0 + 1 + 1 + 1 + 17 + 17 + 1) 1, e6, cut_at L (0 + 1 + 1 + 1 + 17 + 17 + 1 + 1) 1, e7,
    cut_at L (0 + 1 + 1 + 1 + 17 + 17 + 1 + 1 + 1) 1, e8, cut_at L (0 + 1 + 1 + 1 + 17 + 17 + 1 + 1 + 1 + 1) 1, e9, cut_at L (0 + 1 + 1 + 1 + 17 + 17 + 1 + 1 + 1 + 1 + 1) 1, e10, cut_at L (0 + 1 + 1 + 1 + 17 + 17 + 1 + 1 + 1 + 1 + 1 + 1) 1, e11,
    cut_at L (0 + 1 + 1 + 1 + 17 + 17 + 1 + 1 + 1 + 1 + 1 + 1 + 1) 1, e12, cut_at L (0 + 1 + 1 + 1 + 17 + 17 + 1 + 1 + 1 + 1 + 1 + 1 + 1 + 1) 1, e13, cend] at c
  rw [List.drop_zero] at c
  rw [c]
  show _ = listP _ _ _
  simp [listP]
/-- Packets that came in. -/
theorem open_pkts {H : Type} {enc : TypeId × Value → H} {w : World} {a : Option Addr} {len cap : Nat} {d : DataW H} {p : List MemPlace}
    (h : DataW.Trod enc Tryd.prog w 0 (fun _ => true) true 32 (.slice a len cap) d p) (hw : ∀ n ∈ d.weights Tryd.prog 32, n ≤ reachBytes) :
    ∃ xs : List X, xs.length = len ∧ len ≤ 925904528626 ∧ (∀ x ∈ xs, x.ok w ∧ x.p.o.length ≤ 140737488351232 ∧ x.p.d.length ≤ 140737488351232) ∧ (xs = [] ∨ ∃ b off, a = some ⟨b, off, none⟩ ∧ ∀ i x, xs[i]? = some x → w.rangeAt b (off + i * 46) x.cells) := by
  obtain ⟨fuel, hf⟩ := h
  have h : DataW.trod enc Tryd.prog w 0 (fun _ => true) true fuel 32 [.slice a len cap] = some (d, p) := by simpa [Value.cells] using hf
  rcases open_slice Tryd.underlying32 h with ⟨hcs, hx⟩ | ⟨x, l, c, m, n, D, Pl, hcs, hb, hl, hm, hmm, hx, hel⟩
  · simp only [List.cons.injEq, Value.slice.injEq, and_true] at hcs
    obtain ⟨rfl, rfl, rfl⟩ := hcs
    exact ⟨[], rfl, by omega, by simp, .inl rfl⟩
  · simp only [List.cons.injEq, Value.slice.injEq, and_true] at hcs
    obtain ⟨rfl, rfl, rfl⟩ := hcs
    simp only [Prod.mk.injEq] at hx
    obtain ⟨rfl, _⟩ := hx
    simp only [if_true] at hmm
    subst hmm
    rw [cells28] at hel
    have hreach : m * 152 ≤ 140737488351232 := by
      have := hw ((((List.range len).map D).length + ((List.range (m - len)).map fun j => D (len + j)).length) * Tryd.prog.bytesOf 28) (by simp [DataW.weights, Tryd.underlying32])
      rw [show Tryd.prog.bytesOf 28 = 152 from by kernel_rfl] at this
      simp only [List.length_map, List.length_range, reachBytes] at this
      omega
    by_cases h0 : len = 0
    · subst h0
      exact ⟨[], rfl, by omega, by simp, .inl rfl⟩
    obtain ⟨b, off, spot⟩ := x
    have hspot : spot = none := by
      obtain ⟨cs', h1, _⟩ := hel 0 (by omega)
      obtain ⟨_, hlen', hc⟩ := World.cells?_some h1
      have := hc 0 (by decide)
      rw [List.getElem?_eq_getElem (by omega)] at this
      simpa [Addr.add] using World.cell?_spot this
    subst hspot
    have hall : ∀ i, i < len → ∃ x : X, (x.ok w ∧ x.p.o.length ≤ 140737488351232 ∧ x.p.d.length ≤ 140737488351232) ∧ w.rangeAt b (off + i * 46) x.cells := by
      intro i hi
      obtain ⟨cs', h1, h2⟩ := hel i (by omega)
      rw [add_plain] at h1
      obtain ⟨_, hlen', hc⟩ := World.cells?_some h1
      obtain ⟨p, ov, dv, e1, e2, e3, e4⟩ := open_pktL hlen' h2 (fun k hk => hw k (by
        simp only [DataW.weights, Tryd.underlying32, List.mem_cons, List.mem_append]
        exact .inr (.inl (weightsAll_mem 28 _ (D i) (by simp; exact ⟨i, hi, rfl⟩) k hk))))
      subst e1
      refine ⟨⟨p, ov, dv⟩, ⟨e2, e3, e4⟩, fun j v hj => ?_⟩
      have hj' : j < 46 := by
        have := (List.getElem?_eq_some_iff.1 hj).1
        rw [← hlen']; exact this
      have hc' := hc j hj'
      rw [add_plain] at hc'
      rw [hc']; exact hj
    have hinh : Inhabited X := ⟨⟨zeroPk, .slice none 0 0, .slice none 0 0⟩⟩
    obtain ⟨F, hF⟩ := choose_lt (α := X) hall
    refine ⟨(List.range len).map F, by simp, by omega, ?_, .inr ⟨b, off, rfl, ?_⟩⟩
    · intro o ho
      obtain ⟨i, hi, rfl⟩ := List.mem_map.mp ho
      exact (hF i (by simpa using hi)).1
    · intro i o ho
      have hi : i < len := by
        rcases Nat.lt_or_ge i len with h | h
        · exact h
        · rw [List.getElem?_eq_none (by simpa using h)] at ho; simp at ho
      simp [hi] at ho
      subst ho
      exact (hF i hi).2
/-! A script: pieces of numbers. -/
end Go.Proofs.YtbnnfbfmomafnaaDoor

namespace Go.Proofs.YtbnnfbfmomafnaaDoor.U5
open Go.ChangeShapes Go.WideShapes Go.ChangeAt Go.RowKit Go.Deep Num
set_option linter.unusedVariables false
section
variable {P : Program} {ops : Array Oper} {Q : Exit → Act → World → Prop} {md : Region.Mode} {S : World → Prop} {t : Nat}

/-- In whatever order, and S holds behind each operation ahead of number t. -/
def wpAnyU (P : Program) (md : Region.Mode) (ops : Array Oper) (Q : Exit → Act → World → Prop) (S : World → Prop) (t : Nat) : Nat → Array Bool → Act → World → Prop
  | 0, listed, a, w => Region.ready md ops listed = [] ∧ Q .normal a w
  | fuel + 1, listed, a, w =>
    (Region.ready md ops listed = [] → Q .normal a w) ∧
    ∀ i ∈ Region.ready md ops listed, wpOp P ops Q i (fun a' w' => ((listed.setIfInBounds i true).getD t true = false → S w') ∧ wpAnyU P md ops Q S t fuel (listed.setIfInBounds i true) a' w') a w
theorem wpAny_ofU : ∀ (fuel : Nat) (listed : Array Bool) (a : Act) (w : World), wpAnyU P md ops Q S t fuel listed a w → wpAny P md ops Q fuel listed a w
  | 0, _, _, _, h => h
  | fuel + 1, _, _, _, h => ⟨h.1, fun i hi => wpOp_mono (fun a' w' h' => wpAny_ofU fuel _ a' w' h'.2) (h.2 i hi)⟩
/-- t waits for i. -/
def waits (md : Region.Mode) (ops : Array Oper) (t i : Nat) : Bool := match ops[t]? with
  | some ot => ot.after.toList.any (fun e => Region.binds md e && e.on == i)
  | none => false
theorem waits_spec {i : Nat} {ot : Oper} (h : waits md ops t i = true) (ho : ops[t]? = some ot) : ∃ e ∈ ot.after, Region.binds md e = true ∧ e.on = i := by
  unfold waits at h
  rw [ho] at h
  simp only [List.any_eq_true, Bool.and_eq_true, beq_iff_eq] at h
  obtain ⟨e, he, h1, h2⟩ := h
  exact ⟨e, by simpa using he, h1, h2⟩
theorem wpAnyU_first {i : Nat} {oi : Oper} {v : Value} (hi : ops[i]? = some oi) (hsel : ∀ (j : Nat) (o : Oper) cs b, ops[j]? = some o → o.op ≠ .select cs b)
    (hQ : ∀ c a w, Q (.panic c) (a.put oi.dst v) w → Q (.panic c) a w) (hti : i ≠ t) (hw : waits md ops t i = true) :
    ∀ (fuel : Nat) (listed : Array Bool) (a : Act) (w : World),
      (∀ j oj, ops[j]? = some oj → j ≠ i → listed.getD j true = false → (∀ e ∈ oj.after, Region.binds md e = true → e.on ≠ i) → oi.apart ops oj = true) →
      i ∈ Region.ready md ops listed → YieldsIf P ops S oi v a → listed.getD t true = false → S w →
      wpAnyU P md ops Q S t fuel (listed.setIfInBounds i true) (a.put oi.dst v) w → wpAnyU P md ops Q S t (fuel + 1) listed a w := by
  intro fuel
  induction fuel with
  | zero =>
    intro listed a w _ hr hy _ hS H
    refine ⟨fun h => (by rw [h] at hr; cases hr), fun j hj => ?_⟩
    by_cases hji : j = i
    · subst hji; exact hy.wpOp hi hS ⟨fun _ => hS, H⟩
    · have := ready_mono hj hji
      rw [H.1] at this
      cases this
  | succ fuel ih =>
    intro listed a w hfree hr hy ht hS H
    refine ⟨fun h => (by rw [h] at hr; cases hr), fun j hj => ?_⟩
    by_cases hji : j = i
    · subst hji; exact hy.wpOp hi hS ⟨fun _ => hS, H⟩
    · have h1 := H.2 j (ready_mono hj hji)
      obtain ⟨hjun, oj, hoj, hall⟩ := mem_ready.1 hj
      have hnot : ∀ e ∈ oj.after, Region.binds md e = true → e.on ≠ i := fun e he hb heq => by
        have h1 := hall e he hb
        have h0 := (mem_ready.1 hr).1
        rw [heq] at h1
        rcases Nat.lt_or_ge i listed.size with h' | h'
        · simp [h'] at h0 h1; rw [h0] at h1; cases h1
        · simp [Array.getElem?_eq_none h'] at h1
      have hjt : j ≠ t := fun h => by
        subst h
        obtain ⟨e, he, hb, heq⟩ := waits_spec hw hoj
        exact hnot e he hb heq
      have h2 := wpOp_putIf hoj (hfree j oj hoj hji hjun hnot) (fun cs b => hsel i oi cs b hi) (fun cs b => hsel j oj cs b hoj) hQ hy h1
      have hfree' : ∀ k ok, ops[k]? = some ok → k ≠ i → (listed.setIfInBounds j true).getD k true = false →
          (∀ e ∈ ok.after, Region.binds md e = true → e.on ≠ i) → oi.apart ops ok = true := fun k ok hk hki hun hno => by
        refine hfree k ok hk hki ?_ hno
        by_cases hjk : j = k
        · subst hjk; exact hjun
        · rw [getD_set_ne true hjk] at hun; exact hun
      have ht1 : (listed.setIfInBounds j true).getD t true = false := by rw [getD_set_ne true hjt]; exact ht
      have ht2 : ((listed.setIfInBounds i true).setIfInBounds j true).getD t true = false := by rw [getD_set_ne true hjt, getD_set_ne true hti]; exact ht
      refine wpOp_mono (fun a' w' h3 => ⟨fun _ => h3.2.1 ht2, ih (listed.setIfInBounds j true) a' w' hfree' (ready_mono hr (Ne.symm hji)) h3.1 ht1 (h3.2.1 ht2) ?_⟩) h2
      rw [Array.setIfInBounds_comm _ _ hji]
      exact h3.2.2
theorem wpAnyU_take {i : Nat} {oi : Oper} {v : Value} {fuel : Nat} {listed : Array Bool} {a : Act} {w : World} (hi : ops[i]? = some oi)
    (hs : Region.noSelect ops = true) (hf : Region.free md ops listed i = true) (hr : (Region.ready md ops listed).contains i = true)
    (hti : i ≠ t) (hw : waits md ops t i = true) (ht : listed.getD t true = false)
    (hQ : ∀ c a w, Q (.panic c) (a.put oi.dst v) w → Q (.panic c) a w) (hy : YieldsIf P ops S oi v a) (hS : S w)
    (h : wpAnyU P md ops Q S t fuel (listed.setIfInBounds i true) (a.put oi.dst v) w) : wpAnyU P md ops Q S t (fuel + 1) listed a w :=
  wpAnyU_first hi (Region.noSelect_spec hs) hQ hti hw fuel listed a w (Region.free_spec hi hf) (by simpa using hr) hy ht hS h
def ReadyU (P : Program) (md : Region.Mode) (ops : Array Oper) (Q : Exit → Act → World → Prop) (S : World → Prop) (t fuel : Nat) (listed : Array Bool) (a : Act) (w : World) (rs : List Nat) : Prop :=
  ∀ i ∈ rs, wpOp P ops Q i (fun a' w' => ((listed.setIfInBounds i true).getD t true = false → S w') ∧ wpAnyU P md ops Q S t fuel (listed.setIfInBounds i true) a' w') a w
theorem ReadyU.nil {fuel : Nat} {listed : Array Bool} {a : Act} {w : World} : ReadyU P md ops Q S t fuel listed a w [] := fun _ h => by cases h
theorem ReadyU.cons {fuel : Nat} {listed : Array Bool} {a : Act} {w : World} {i : Nat} {o : Oper} {rs : List Nat} (ho : ops[i]? = some o)
    (h : ∀ K' : Act → World → Prop, Shut (∀ a w, ((listed.setIfInBounds i true).getD t true = false → S w) → wpAnyU P md ops Q S t fuel (listed.setIfInBounds i true) a w → K' a w) → if Region.wanted o (yielded ops a.tmps) = true then Oper.wp P o a w K' Q else K' (a.put o.dst undef) w)
    (hs : ReadyU P md ops Q S t fuel listed a w rs) : ReadyU P md ops Q S t fuel listed a w (i :: rs) := fun j hj => by
  rcases List.mem_cons.1 hj with rfl | hj
  · exact wpOp_step ho (fun K' hK => h K' (fun a w hS hW => hK a w ⟨hS, hW⟩))
  · exact hs j hj
theorem wpAnyU_ready {rs : List Nat} {fuel : Nat} {listed : Array Bool} {a : Act} {w : World} (hr : Region.ready md ops listed = rs) (hne : rs ≠ [])
    (h : ReadyU P md ops Q S t fuel listed a w rs) : wpAnyU P md ops Q S t (fuel + 1) listed a w := ⟨fun h0 => absurd (hr ▸ h0) hne, hr ▸ h⟩
theorem wpAnyU_done {listed : Array Bool} {a : Act} {w : World} (hr : Region.ready md ops listed = []) (h : Q .normal a w) :
    ∀ fuel, wpAnyU P md ops Q S t fuel listed a w
  | 0 => ⟨hr, h⟩
  | _ + 1 => ⟨fun _ => h, by rw [hr]; simp⟩
theorem wp_region_U {id : Nat} {a : Act} {w : World} (t : Nat) (S : World → Prop) (hm : P.follows .mixedOrders = true)
    (h : wpAnyU P .any ops Q S t ops.size (Array.replicate ops.size false) a w.drew) : (Code.region id ops true).wp P Q a w :=
  wp_region_any hm (wpAny_ofU _ _ _ _ h)
end
#print axioms wp_region_U
structure Bag (W0 w : World) (v : Value) (l : List Int) : Prop where
  o : Owns w v l
  n : New W0.heap.size v
  a : Away [] W0 w
theorem Bag.app {W0 w w' : World} {v v' : Value} {l m : List Int} (h : Bag W0 w v l) (ho : Owns w' v' (l ++ m)) (hg : w.grownBy w' v.ownBlock) (hm : Moved w v v') : Bag W0 w' v' (l ++ m) :=
  ⟨ho, h.n.moved hm h.a.size, h.a.grown hg (fun k hk => .inr (h.n k hk))⟩
theorem Bag.on {W0 w w' : World} {v : Value} {l : List Int} (h : Bag W0 w v l) (hw : Away [] w w') : Bag W0 w' v l := ⟨h.o.on hw, h.n, h.a.on hw⟩
theorem bytes2 {x y : Int} (hx : 0 ≤ x ∧ x ≤ 255) (hy : 0 ≤ y ∧ y ≤ 255) : Bytes [x, y] := by
  intro b hb; simp at hb; rcases hb with rfl | rfl <;> omega
theorem _root_.Go.Proofs.YtbnnfbfmomafnaaDoor.Owns.some' {w : World} {v : Value} {l : List Int} (h : Owns w v l) (hl : l ≠ []) : ∃ g cap, v = .slice (some ⟨g, 0, none⟩) l.length cap ∧ l.length ≤ cap := by
  rcases h.2 with ⟨rfl, h3⟩ | ⟨g, cap, cur, rfl, hg, hh, hn, -⟩
  · exact absurd (by simpa using h3) hl
  · simp only [List.length_map] at hn
    exact ⟨g, cap, by simp, hn⟩
end Go.Proofs.YtbnnfbfmomafnaaDoor.U5

namespace Go.Proofs.YtbnnfbfmomafnaaDoor.U5
open Go.ChangeShapes Go.WideShapes Go.ChangeAt Go.RowKit Go.Deep Num
set_option linter.unusedVariables false
set_option maxHeartbeats 4000000
set_option maxRecDepth 100000

/-- Lent: l, with m in its spare room, in a block not below B. -/
def Lent (B : Nat) (w : World) (v : Value) (l m : List Int) : Prop := ∃ g cap, v = .slice (some ⟨g, 0, none⟩) l.length cap ∧ l.length + m.length ≤ cap ∧ Owns w (.slice (some ⟨g, 0, none⟩) (l.length + m.length) cap) (l ++ m) ∧ B ≤ g
theorem Lent.away {B : Nat} {w w' : World} {v : Value} {l m : List Int} {S : List Nat} (h : Lent B w v l m) (hw : Away S w w') (hS : ∀ x ∈ S, x < B) : Lent B w' v l m := by
  obtain ⟨g, cap, rfl, h1, h2, h3⟩ := h
  refine ⟨g, cap, rfl, h1, h2.away hw (fun k hk hx => ?_), h3⟩
  simp [Value.ownBlock] at hk
  have := hS _ hx
  omega
theorem Lent.mono {B C : Nat} {w : World} {v : Value} {l m : List Int} (h : Lent B w v l m) (hc : C ≤ B) : Lent C w v l m := by
  obtain ⟨g, cap, rfl, h1, h2, h3⟩ := h
  exact ⟨g, cap, rfl, h1, h2, by omega⟩
theorem Lent.one {B : Nat} {w : World} {v : Value} {l m : List Int} (h : Lent B w v l m) : v.oneCell' = true := by obtain ⟨_, _, rfl, _⟩ := h; rfl
theorem step_store26 {ops : Array Oper} {o : Oper} {a : Act} {w : World} {K : Act → World → Prop} {Q : Exit → Act → World → Prop} {E : Prop} (hg : o.guard = none) (s r : Nat)
    (ho : o.op = .store 26 (.tmp s) (.tmp r)) (g i : Nat) (hx : a.tmps[s]?.getD undef = .pointer (some ⟨g, i, none⟩)) (b : Option Addr) (n c : Nat) (hy : a.tmps[r]?.getD undef = .slice b n c) (u : Value) (hc : w.cell? ⟨g, i, none⟩ = some u) (hf : w.frozen? ⟨g, i, none⟩ = false)
    (hK : K (a.put o.dst undef) (w.setCell ⟨g, i, none⟩ (.slice b n c))) :
    if Region.wanted o (yielded ops a.tmps) = true then Oper.wp Tryd.prog o a w K Q else E := by
  have hw : Region.wanted o (yielded ops a.tmps) = true := by simp [Region.wanted, hg]
  rw [if_pos hw]
  obtain ⟨d, op, ty, ps, af, gd⟩ := o
  simp only at ho
  subst ho
  go_simp
  exact hK
theorem lent_c (p : Pk) (ov dv : Value) (w : World) (hp : Pkt w p ov dv) (hol : p.o.length ≤ 140737488355326) (hdl : p.d.length ≤ 140737488355326) :
    Calls Tryd.prog 25 #[.agg (csP p ov dv)] w fun E w' => ∃ ou du, E = .returned (.agg (csP p ou du)) ∧ Lent w.heap.size w' ou p.o [165, 166] ∧ Lent w.heap.size w' du p.d [167, 168] ∧ Away [] w w' := by
  have ha := hp.wf.ad
  have HAD : Hid (Ad p) := ha
  have HM1 : Hid (Bytes [165, 166]) := bytes2 (by omega) (by omega)
  have HM2 : Hid (Bytes [167, 168]) := bytes2 (by omega) (by omega)
  obtain ⟨hwf, ho, hd0⟩ := hp
  have HO : Hid (Sl w ov p.o) := ho
  have HD : Hid (Sl w dv p.d) := hd0
  obtain ⟨ao, capo, rfl, -⟩ := ho
  obtain ⟨ad, capd, rfl, -⟩ := hd0
  clear hwf ha
  go_enter Tryd.func25, Tryd.ntmps25
  go_wp2_with (first | (refine wpList_box28 rfl _ rfl p _ _ rfl ?_; refine Hid.out ?_) | (refine wpList_alloc28 rfl rfl ?_; refine Hid.out ?_))
  refine Lib.hid ?_
  intro g1 w1 hg1 hb1 haw1
  have HB := Lib.hid hb1; have HA := Lib.hid haw1
  clear hb1 haw1
  go_wp2_with (first | (refine wpList_box28 rfl _ rfl p _ _ rfl ?_; refine Hid.out ?_) | (refine wpList_alloc28 rfl rfl ?_; refine Hid.out ?_))
  refine Lib.hid ?_
  intro g2 w2 hg2 hb2 haw2
  have HB2 := Lib.hid hb2
  have hl1 := HB.out.lt
  have hs1 := HA.out.size
  replace HB := Lib.hid (HB.out.on haw2); replace HA := Lib.hid (HA.out.on haw2)
  have hl2 := hb2.lt
  have hs2 := haw2.size
  clear hb2 haw2
  have HSZ : Hid (w.heap.size ≤ w2.heap.size ∧ g1 < w2.heap.size ∧ g2 < w2.heap.size ∧ w.heap.size ≤ g1 ∧ w.heap.size ≤ g2 ∧ g1 ≠ g2) := ⟨by omega, by omega, by omega, by omega, by omega, by omega⟩
  clear hg1 hg2 hl1 hs1 hl2 hs2
  obtain ⟨B, hB⟩ : ∃ B, B = w2.heap.size := ⟨_, rfl⟩
  rw [← hB] at HSZ
  have HW : Hid (B ≤ w2.heap.size) := Nat.le_of_eq hB
  clear hB
  go_wp2_with fail
  have hS : w2.drew.cell? ⟨g1, 44, none⟩ = some (.slice ao p.o.length capo) := (HB.out.cells HAD.out).o
  refine wp_region_U 10 (fun w' => w'.cell? ⟨g1, 44, none⟩ = some (.slice ao p.o.length capo)) (by kernel_rfl) ?_
  refine wpAnyU_take (i := 0) (v := ?_) (by simp only [List.getElem?_toArray, List.getElem?_cons_zero]; rfl) (by kernel_rfl) (by kernel_rfl) (by kernel_rfl) (by decide) (by kernel_rfl) (by kernel_rfl) (by exact fun _ _ _ h => h) (Or.inl ⟨by rfl, ?_⟩) (by exact hS) ?_
  rotate_left
  · intro wq hSw
    (try dsimp only at hSw)
    go_simp
    all_goals (with_reducible rfl)
  try simp only [Act.put, List.setIfInBounds_toArray, List.set_cons_zero, List.set_cons_succ]
  refine wpAnyU_take (i := 1) (v := ?_) (by simp only [List.getElem?_toArray, List.getElem?_cons_succ, List.getElem?_cons_zero]; rfl) (by kernel_rfl) (by kernel_rfl) (by kernel_rfl) (by decide) (by kernel_rfl) (by kernel_rfl) (by exact fun _ _ _ h => h) (Or.inl ⟨by rfl, ?_⟩) (by exact hS) ?_
  rotate_left
  · intro wq hSw
    (try dsimp only at hSw)
    go_simp
    all_goals (with_reducible rfl)
  try simp only [Act.put, List.setIfInBounds_toArray, List.set_cons_zero, List.set_cons_succ]
  refine wpAnyU_take (i := 5) (v := ?_) (by simp only [List.getElem?_toArray, List.getElem?_cons_succ, List.getElem?_cons_zero]; rfl) (by kernel_rfl) (by kernel_rfl) (by kernel_rfl) (by decide) (by kernel_rfl) (by kernel_rfl) (by exact fun _ _ _ h => h) (Or.inl ⟨by rfl, ?_⟩) (by exact hS) ?_
  rotate_left
  · intro wq hSw
    (try dsimp only at hSw)
    go_simp
    all_goals (with_reducible rfl)
  try simp only [Act.put, List.setIfInBounds_toArray, List.set_cons_zero, List.set_cons_succ]
  refine wpAnyU_take (i := 6) (v := ?_) (by simp only [List.getElem?_toArray, List.getElem?_cons_succ, List.getElem?_cons_zero]; rfl) (by kernel_rfl) (by kernel_rfl) (by kernel_rfl) (by decide) (by kernel_rfl) (by kernel_rfl) (by exact fun _ _ _ h => h) (Or.inl ⟨by rfl, ?_⟩) (by exact hS) ?_
  rotate_left
  · intro wq hSw
    (try dsimp only at hSw)
    go_simp
    all_goals (with_reducible rfl)
  try simp only [Act.put, List.setIfInBounds_toArray, List.set_cons_zero, List.set_cons_succ]
  refine wpAnyU_take (i := 7) (v := ?_) (by simp only [List.getElem?_toArray, List.getElem?_cons_succ, List.getElem?_cons_zero]; rfl) (by kernel_rfl) (by kernel_rfl) (by kernel_rfl) (by decide) (by kernel_rfl) (by kernel_rfl) (by exact fun _ _ _ h => h) (Or.inl ⟨by rfl, ?_⟩) (by exact hS) ?_
  rotate_left
  · intro wq hSw
    (try dsimp only at hSw)
    go_simp
    all_goals (with_reducible rfl)
  try simp only [Act.put, List.setIfInBounds_toArray, List.set_cons_zero, List.set_cons_succ]
  have HDR : Hid (Away [] w2 w2.drew) := (Away.refl [] w2).drew
  refine wpAnyU_ready (rs := [2, 3]) (by kernel_rfl) (by simp) ?_
  refine ReadyU.cons (by simp only [List.getElem?_toArray, List.getElem?_cons_succ, List.getElem?_cons_zero]; rfl) (fun K hK => ?_) (ReadyU.cons (by simp only [List.getElem?_toArray, List.getElem?_cons_succ, List.getElem?_cons_zero]; rfl) (fun K hK => ?_) ReadyU.nil)
  · go_simp
    refine (own_any ao p.o _ capo _ rfl (by exact ((HO.out.on HA.out).on HDR.out).of.2.2.2)).mono ?_
    rintro E wa ⟨v3, rfl, ho3, hn3, haw3, hb3, hl3⟩
    have HG3 : Hid (Bag w2 wa v3 p.o) := ⟨ho3, hn3, HDR.out.on haw3⟩
    clear ho3 hn3 haw3 hb3 hl3
    have c3 := ((HB.out.on HG3.out.a).cells HAD.out).o
    go_wp2_with fail
    refine hK.out _ _ (fun _ => c3) ?_
    clear hK K
    try simp only [Act.put, List.setIfInBounds_toArray, List.set_cons_zero, List.set_cons_succ]
    refine wpAnyU_ready (rs := [3]) (by kernel_rfl) (by simp) ?_
    refine ReadyU.cons (by simp only [List.getElem?_toArray, List.getElem?_cons_succ, List.getElem?_cons_zero]; rfl) (fun K hK => ?_) ReadyU.nil
    have HG4 : Hid (Bag w2 (wa.alloc (.cells ([165, 166].map (Value.int .u8)).toArray 5)) v3 p.o) := HG3.out.on ((Away.refl [] wa).alloc _)
    have HRL : Hid (Row (wa.alloc (.cells ([165, 166].map (Value.int .u8)).toArray 5)) (some ⟨wa.heap.size, 0, none⟩) [165, 166]) := Row.lit wa _ HM1.out (by simp)
    obtain ⟨gl, hgl⟩ : ∃ gl, gl = wa.heap.size := ⟨_, rfl⟩
    obtain ⟨wb, hwb⟩ : ∃ wb, wb = wa.alloc (.cells ([165, 166].map (Value.int .u8)).toArray 5) := ⟨_, rfl⟩
    go_simp
    refine hK.out _ _ (fun _ => by exact ((HB.out.on HG4.out.a).cells HAD.out).o) ?_
    clear hK K
    try simp only [Act.put, List.setIfInBounds_toArray, List.set_cons_zero, List.set_cons_succ]
    rw [← hgl] at HRL ⊢
    rw [← hwb] at HG4 HRL
    simp only [List.map_cons, List.map_nil] at hwb
    rw [← hwb]
    clear hwb hgl HG3 c3
    refine wpAnyU_ready (rs := [4]) (by kernel_rfl) (by simp) ?_
    refine ReadyU.cons (by simp only [List.getElem?_toArray, List.getElem?_cons_succ, List.getElem?_cons_zero]; rfl) (fun K hK => ?_) ReadyU.nil
    refine step_app rfl (.tmp 5) (.tmp 6) rfl v3 p.o [165, 166] rfl (by exact HG4.out.o) ⟨gl, 0, none⟩ 2 2 rfl rfl (by exact HRL.out.src) (by omega) (fun v5 w5 r1 r2 r3 => ?_)
    have HG5 := Lib.hid (HG4.out.app r1 r2 r3)
    clear r1 r2 r3 HG4 HRL
    obtain ⟨go, capx, rfl, hc5⟩ := HG5.out.o.some' (by simp)
    have c5 := ((HB.out.on HG5.out.a).cells HAD.out).o
    refine hK.out _ _ (fun _ => c5) ?_
    clear hK K
    try simp only [Act.put, List.setIfInBounds_toArray, List.set_cons_zero, List.set_cons_succ]
    have hcl : p.o.length + 2 ≤ capx := by simpa using hc5
    have hln : (p.o ++ [165, 166]).length = p.o.length + 2 := by simp
    rw [hln] at HG5 ⊢
    clear hc5 hln
    have sl := slice_h (some ⟨go, 0, none⟩) (p.o.length + 2) capx p.o.length (p.o.length : Int) rfl (by omega)
    refine wpAnyU_take (i := 8) (v := ?_) (by simp only [List.getElem?_toArray, List.getElem?_cons_succ, List.getElem?_cons_zero]; rfl) (by kernel_rfl) (by kernel_rfl) (by kernel_rfl) (by decide) (by kernel_rfl) (by kernel_rfl) (by exact fun _ _ _ h => h) (Or.inl ⟨by rfl, ?_⟩) (by exact c5) ?_
    rotate_left
    · intro wq hSw
      (try dsimp only at hSw)
      go_simp
      all_goals (with_reducible rfl)
    try simp only [Act.put, List.setIfInBounds_toArray, List.set_cons_zero, List.set_cons_succ]
    refine wpAnyU_take (i := 9) (v := ?_) (by simp only [List.getElem?_toArray, List.getElem?_cons_succ, List.getElem?_cons_zero]; rfl) (by kernel_rfl) (by kernel_rfl) (by kernel_rfl) (by decide) (by kernel_rfl) (by kernel_rfl) (by exact fun _ _ _ h => h) (Or.inl ⟨by rfl, ?_⟩) (by exact c5) ?_
    rotate_left
    · intro wq hSw
      (try dsimp only at hSw)
      go_simp
      all_goals (with_reducible rfl)
    try simp only [Act.put, List.setIfInBounds_toArray, List.set_cons_zero, List.set_cons_succ]
    refine wpAnyU_ready (rs := [10]) (by kernel_rfl) (by simp) ?_
    refine ReadyU.cons (by simp only [List.getElem?_toArray, List.getElem?_cons_succ, List.getElem?_cons_zero]; rfl) (fun K hK => ?_) ReadyU.nil
    have hfr := (HB.out.on HG5.out.a).free 44
    have HBN : Hid (BoxP (w5.setCell ⟨g1, 44, none⟩ (.slice (some ⟨go, 0, none⟩) p.o.length capx)) g1 p (.slice (some ⟨go, 0, none⟩) p.o.length capx) (.slice ad p.d.length capd)) := (HB.out.on HG5.out.a).put 44 _ ((csP_set HAD.out _ _).2.2.2.2.2.2.2.2.2.2.2.2.1 p.o _)
    have hAW : Away [g1] w5 (w5.setCell ⟨g1, 44, none⟩ (.slice (some ⟨go, 0, none⟩) p.o.length capx)) := away_put 44 _
    have hgo : w2.heap.size ≤ go := HG5.out.n go rfl
    have HB2N : Hid (BoxP (w5.setCell ⟨g1, 44, none⟩ (.slice (some ⟨go, 0, none⟩) p.o.length capx)) g2 zeroPk (.slice none 0 0) (.slice none 0 0)) := (HB2.out.on HG5.out.a).away hAW (by simp; exact fun h => HSZ.out.2.2.2.2.2 h.symm)
    have HAN : Hid (Away [] w (w5.setCell ⟨g1, 44, none⟩ (.slice (some ⟨go, 0, none⟩) p.o.length capx))) := (HA.out.on HG5.out.a).next hAW (fun x hx => .inr (by simp at hx; rw [hx]; exact HSZ.out.2.2.2.1))
    have HLN1 : Hid (Lent B (w5.setCell ⟨g1, 44, none⟩ (.slice (some ⟨go, 0, none⟩) p.o.length capx)) (.slice (some ⟨go, 0, none⟩) p.o.length capx) p.o [165, 166]) := Lent.away (w := w5) ⟨go, capx, rfl, hcl, HG5.out.o, by have := HW.out; omega⟩ hAW (by simp; exact HSZ.out.2.1)
    have HWN : Hid (B ≤ (w5.setCell ⟨g1, 44, none⟩ (.slice (some ⟨go, 0, none⟩) p.o.length capx)).heap.size) := by have h1 := HW.out; have h2 := HG5.out.a.size; have h3 := hAW.size; exact Lib.hid (by omega)
    refine step_store26 rfl 12 11 rfl g1 44 rfl _ _ _ rfl _ c5 hfr (hK.out _ _ (by intro h; simp at h) ?_)
    clear hK K
    try simp only [Act.put]
    refine wpAnyU_done (by kernel_rfl) ?_ _
    generalize w5.setCell ⟨g1, 44, none⟩ (.slice (some ⟨go, 0, none⟩) p.o.length capx) = w3 at *
    clear HB HB2 HA HW HDR hS c5 hAW sl hfr HG5 
    have HB := HBN; have HB2 := HB2N; have HA := HAN; have HW := HWN
    clear HBN HB2N HAN HWN
    clear hcl hgo
    go_wp2_with fail
    have hS : w3.drew.cell? ⟨g1, 45, none⟩ = some (.slice ad p.d.length capd) := (HB.out.cells HAD.out).d
    refine wp_region_U 10 (fun w' => w'.cell? ⟨g1, 45, none⟩ = some (.slice ad p.d.length capd)) (by kernel_rfl) ?_
    refine wpAnyU_take (i := 0) (v := ?_) (by simp only [List.getElem?_toArray, List.getElem?_cons_zero]; rfl) (by kernel_rfl) (by kernel_rfl) (by kernel_rfl) (by decide) (by kernel_rfl) (by kernel_rfl) (by exact fun _ _ _ h => h) (Or.inl ⟨by rfl, ?_⟩) (by exact hS) ?_
    rotate_left
    · intro wq hSw
      (try dsimp only at hSw)
      go_simp
      all_goals (with_reducible rfl)
    try simp only [Act.put, List.setIfInBounds_toArray, List.set_cons_zero, List.set_cons_succ]
    refine wpAnyU_take (i := 1) (v := ?_) (by simp only [List.getElem?_toArray, List.getElem?_cons_succ, List.getElem?_cons_zero]; rfl) (by kernel_rfl) (by kernel_rfl) (by kernel_rfl) (by decide) (by kernel_rfl) (by kernel_rfl) (by exact fun _ _ _ h => h) (Or.inl ⟨by rfl, ?_⟩) (by exact hS) ?_
    rotate_left
    · intro wq hSw
      (try dsimp only at hSw)
      go_simp
      all_goals (with_reducible rfl)
    try simp only [Act.put, List.setIfInBounds_toArray, List.set_cons_zero, List.set_cons_succ]
    refine wpAnyU_take (i := 5) (v := ?_) (by simp only [List.getElem?_toArray, List.getElem?_cons_succ, List.getElem?_cons_zero]; rfl) (by kernel_rfl) (by kernel_rfl) (by kernel_rfl) (by decide) (by kernel_rfl) (by kernel_rfl) (by exact fun _ _ _ h => h) (Or.inl ⟨by rfl, ?_⟩) (by exact hS) ?_
    rotate_left
    · intro wq hSw
      (try dsimp only at hSw)
      go_simp
      all_goals (with_reducible rfl)
    try simp only [Act.put, List.setIfInBounds_toArray, List.set_cons_zero, List.set_cons_succ]
    refine wpAnyU_take (i := 6) (v := ?_) (by simp only [List.getElem?_toArray, List.getElem?_cons_succ, List.getElem?_cons_zero]; rfl) (by kernel_rfl) (by kernel_rfl) (by kernel_rfl) (by decide) (by kernel_rfl) (by kernel_rfl) (by exact fun _ _ _ h => h) (Or.inl ⟨by rfl, ?_⟩) (by exact hS) ?_
    rotate_left
    · intro wq hSw
      (try dsimp only at hSw)
      go_simp
      all_goals (with_reducible rfl)
    try simp only [Act.put, List.setIfInBounds_toArray, List.set_cons_zero, List.set_cons_succ]
    refine wpAnyU_take (i := 7) (v := ?_) (by simp only [List.getElem?_toArray, List.getElem?_cons_succ, List.getElem?_cons_zero]; rfl) (by kernel_rfl) (by kernel_rfl) (by kernel_rfl) (by decide) (by kernel_rfl) (by kernel_rfl) (by exact fun _ _ _ h => h) (Or.inl ⟨by rfl, ?_⟩) (by exact hS) ?_
    rotate_left
    · intro wq hSw
      (try dsimp only at hSw)
      go_simp
      all_goals (with_reducible rfl)
    try simp only [Act.put, List.setIfInBounds_toArray, List.set_cons_zero, List.set_cons_succ]
    have HDR : Hid (Away [] w3 w3.drew) := (Away.refl [] w3).drew
    refine wpAnyU_ready (rs := [2, 3]) (by kernel_rfl) (by simp) ?_
    refine ReadyU.cons (by simp only [List.getElem?_toArray, List.getElem?_cons_succ, List.getElem?_cons_zero]; rfl) (fun K hK => ?_) (ReadyU.cons (by simp only [List.getElem?_toArray, List.getElem?_cons_succ, List.getElem?_cons_zero]; rfl) (fun K hK => ?_) ReadyU.nil)
    · go_simp
      refine (own_any ad p.d _ capd _ rfl (by exact ((HD.out.on HA.out).on HDR.out).of.2.2.2)).mono ?_
      rintro E wa ⟨v3, rfl, ho3, hn3, haw3, hb3, hl3⟩
      have HG3 : Hid (Bag w3 wa v3 p.d) := ⟨ho3, hn3, HDR.out.on haw3⟩
      clear ho3 hn3 haw3 hb3 hl3
      have c3 := ((HB.out.on HG3.out.a).cells HAD.out).d
      go_wp2_with fail
      refine hK.out _ _ (fun _ => c3) ?_
      clear hK K
      try simp only [Act.put, List.setIfInBounds_toArray, List.set_cons_zero, List.set_cons_succ]
      refine wpAnyU_ready (rs := [3]) (by kernel_rfl) (by simp) ?_
      refine ReadyU.cons (by simp only [List.getElem?_toArray, List.getElem?_cons_succ, List.getElem?_cons_zero]; rfl) (fun K hK => ?_) ReadyU.nil
      have HG4 : Hid (Bag w3 (wa.alloc (.cells ([167, 168].map (Value.int .u8)).toArray 5)) v3 p.d) := HG3.out.on ((Away.refl [] wa).alloc _)
      have HRL : Hid (Row (wa.alloc (.cells ([167, 168].map (Value.int .u8)).toArray 5)) (some ⟨wa.heap.size, 0, none⟩) [167, 168]) := Row.lit wa _ HM2.out (by simp)
      obtain ⟨gl, hgl⟩ : ∃ gl, gl = wa.heap.size := ⟨_, rfl⟩
      obtain ⟨wb, hwb⟩ : ∃ wb, wb = wa.alloc (.cells ([167, 168].map (Value.int .u8)).toArray 5) := ⟨_, rfl⟩
      go_simp
      refine hK.out _ _ (fun _ => by exact ((HB.out.on HG4.out.a).cells HAD.out).d) ?_
      clear hK K
      try simp only [Act.put, List.setIfInBounds_toArray, List.set_cons_zero, List.set_cons_succ]
      rw [← hgl] at HRL ⊢
      rw [← hwb] at HG4 HRL
      simp only [List.map_cons, List.map_nil] at hwb
      rw [← hwb]
      clear hwb hgl HG3 c3
      refine wpAnyU_ready (rs := [4]) (by kernel_rfl) (by simp) ?_
      refine ReadyU.cons (by simp only [List.getElem?_toArray, List.getElem?_cons_succ, List.getElem?_cons_zero]; rfl) (fun K hK => ?_) ReadyU.nil
      refine step_app rfl (.tmp 15) (.tmp 16) rfl v3 p.d [167, 168] rfl (by exact HG4.out.o) ⟨gl, 0, none⟩ 2 2 rfl rfl (by exact HRL.out.src) (by omega) (fun v5 w5 r1 r2 r3 => ?_)
      have HG5 := Lib.hid (HG4.out.app r1 r2 r3)
      clear r1 r2 r3 HG4 HRL
      obtain ⟨g5, cap5, rfl, hc5⟩ := HG5.out.o.some' (by simp)
      have c5 := ((HB.out.on HG5.out.a).cells HAD.out).d
      refine hK.out _ _ (fun _ => c5) ?_
      clear hK K
      try simp only [Act.put, List.setIfInBounds_toArray, List.set_cons_zero, List.set_cons_succ]
      have hcl : p.d.length + 2 ≤ cap5 := by simpa using hc5
      have hln : (p.d ++ [167, 168]).length = p.d.length + 2 := by simp
      rw [hln] at HG5 ⊢
      clear hc5 hln
      have sl := slice_h (some ⟨g5, 0, none⟩) (p.d.length + 2) cap5 p.d.length (p.d.length : Int) rfl (by omega)
      refine wpAnyU_take (i := 8) (v := ?_) (by simp only [List.getElem?_toArray, List.getElem?_cons_succ, List.getElem?_cons_zero]; rfl) (by kernel_rfl) (by kernel_rfl) (by kernel_rfl) (by decide) (by kernel_rfl) (by kernel_rfl) (by exact fun _ _ _ h => h) (Or.inl ⟨by rfl, ?_⟩) (by exact c5) ?_
      rotate_left
      · intro wq hSw
        (try dsimp only at hSw)
        go_simp
        all_goals (with_reducible rfl)
      try simp only [Act.put, List.setIfInBounds_toArray, List.set_cons_zero, List.set_cons_succ]
      refine wpAnyU_take (i := 9) (v := ?_) (by simp only [List.getElem?_toArray, List.getElem?_cons_succ, List.getElem?_cons_zero]; rfl) (by kernel_rfl) (by kernel_rfl) (by kernel_rfl) (by decide) (by kernel_rfl) (by kernel_rfl) (by exact fun _ _ _ h => h) (Or.inl ⟨by rfl, ?_⟩) (by exact c5) ?_
      rotate_left
      · intro wq hSw
        (try dsimp only at hSw)
        go_simp
        all_goals (with_reducible rfl)
      try simp only [Act.put, List.setIfInBounds_toArray, List.set_cons_zero, List.set_cons_succ]
      refine wpAnyU_ready (rs := [10]) (by kernel_rfl) (by simp) ?_
      refine ReadyU.cons (by simp only [List.getElem?_toArray, List.getElem?_cons_succ, List.getElem?_cons_zero]; rfl) (fun K hK => ?_) ReadyU.nil
      have hfr := (HB.out.on HG5.out.a).free 45
      have HBN : Hid (BoxP (w5.setCell ⟨g1, 45, none⟩ (.slice (some ⟨g5, 0, none⟩) p.d.length cap5)) g1 p (.slice (some ⟨go, 0, none⟩) p.o.length capx) (.slice (some ⟨g5, 0, none⟩) p.d.length cap5)) := (HB.out.on HG5.out.a).put 45 _ ((csP_set HAD.out _ _).2.2.2.2.2.2.2.2.2.2.2.2.2 p.d _)
      have hAW : Away [g1] w5 (w5.setCell ⟨g1, 45, none⟩ (.slice (some ⟨g5, 0, none⟩) p.d.length cap5)) := away_put 45 _
      have hg5 : w3.heap.size ≤ g5 := HG5.out.n g5 rfl
      have HB2N : Hid (BoxP (w5.setCell ⟨g1, 45, none⟩ (.slice (some ⟨g5, 0, none⟩) p.d.length cap5)) g2 zeroPk (.slice none 0 0) (.slice none 0 0)) := (HB2.out.on HG5.out.a).away hAW (by simp; exact fun h => HSZ.out.2.2.2.2.2 h.symm)
      have HAN : Hid (Away [] w (w5.setCell ⟨g1, 45, none⟩ (.slice (some ⟨g5, 0, none⟩) p.d.length cap5))) := (HA.out.on HG5.out.a).next hAW (fun x hx => .inr (by simp at hx; rw [hx]; exact HSZ.out.2.2.2.1))
      have HLN2 : Hid (Lent B (w5.setCell ⟨g1, 45, none⟩ (.slice (some ⟨g5, 0, none⟩) p.d.length cap5)) (.slice (some ⟨g5, 0, none⟩) p.d.length cap5) p.d [167, 168]) := Lent.away (w := w5) ⟨g5, cap5, rfl, hcl, HG5.out.o, by have := HW.out; omega⟩ hAW (by simp; exact HSZ.out.2.1)
      have HLX := Lib.hid ((HLN1.out.away HG5.out.a (by simp)).away hAW (by simp; exact HSZ.out.2.1))
      have HWN : Hid (B ≤ (w5.setCell ⟨g1, 45, none⟩ (.slice (some ⟨g5, 0, none⟩) p.d.length cap5)).heap.size) := by have h1 := HW.out; have h2 := HG5.out.a.size; have h3 := hAW.size; exact Lib.hid (by omega)
      refine step_store26 rfl 22 21 rfl g1 45 rfl _ _ _ rfl _ c5 hfr (hK.out _ _ (by intro h; simp at h) ?_)
      clear hK K
      try simp only [Act.put]
      refine wpAnyU_done (by kernel_rfl) ?_ _
      generalize w5.setCell ⟨g1, 45, none⟩ (.slice (some ⟨g5, 0, none⟩) p.d.length cap5) = w4 at *
      clear HB HB2 HA HW HDR hS c5 hAW sl hfr HG5 HLN1
      have HB := HBN; have HB2 := HB2N; have HA := HAN; have HW := HWN
      clear HBN HB2N HAN HWN
      go_wp2_with (first
        | (refine wpList_load28 rfl _ rfl _ rfl p _ _ (by exact HB.out) HAD.out ?_)
        | (refine wpList_store28 rfl _ _ rfl _ rfl p _ _ rfl zeroPk (.slice none 0 0) (.slice none 0 0) (by exact HB2.out) HAD.out ⟨rfl, rfl⟩ rfl rfl ?_; refine Hid.out ?_))
      refine Lib.hid ?_
      intro w5 hb5 haw5
      have HB5 := Lib.hid hb5
      have HL1 := Lib.hid ((HLX.out.away haw5 (by simp; exact HSZ.out.2.2.1)).mono HSZ.out.1)
      have HL2 := Lib.hid ((HLN2.out.away haw5 (by simp; exact HSZ.out.2.2.1)).mono HSZ.out.1)
      have HA5 := Lib.hid (HA.out.next haw5 (fun x hx => .inr (by simp at hx; rw [hx]; exact HSZ.out.2.2.2.2.1)))
      clear hb5 haw5 HB HB2 HA HLX HLN2
      go_wp2_with fail
      refine bodyPost_ret (result28 rfl _ _ _ _ _ _ rfl HB5.out HAD.out) rfl ⟨_, _, rfl, HL1.out, HL2.out, HA5.out⟩
    · have HG2 : Hid (Away [] w3 (w3.alloc (.cells ([167, 168].map (Value.int .u8)).toArray 5)).drew) := ((Away.refl [] w3).alloc _).drew
      have HRL0 : Hid (Row (w3.alloc (.cells ([167, 168].map (Value.int .u8)).toArray 5)).drew (some ⟨w3.heap.size, 0, none⟩) [167, 168]) := (Row.lit w3 _ HM2.out (by simp)).on (Away.refl [] _).drew
      obtain ⟨gl, hgl⟩ : ∃ gl, gl = w3.heap.size := ⟨_, rfl⟩
      obtain ⟨wa, hwa⟩ : ∃ wa, wa = (w3.alloc (.cells ([167, 168].map (Value.int .u8)).toArray 5)).drew := ⟨_, rfl⟩
      go_simp
      refine hK.out _ _ (fun _ => by exact ((HB.out.on HG2.out).cells HAD.out).d) ?_
      clear hK K
      try simp only [Act.put, List.setIfInBounds_toArray, List.set_cons_zero, List.set_cons_succ]
      rw [← hgl] at HRL0
      rw [← hwa] at HG2 HRL0
      simp only [List.map_cons, List.map_nil] at hwa
      rw [← hwa]
      rw [← hgl]
      clear hwa hgl
      refine wpAnyU_ready (rs := [2]) (by kernel_rfl) (by simp) ?_
      refine ReadyU.cons (by simp only [List.getElem?_toArray, List.getElem?_cons_succ, List.getElem?_cons_zero]; rfl) (fun K hK => ?_) ReadyU.nil
      go_simp
      refine (own_any ad p.d _ capd _ rfl (by exact ((HD.out.on HA.out).on HG2.out).of.2.2.2)).mono ?_
      rintro E wb ⟨v3, rfl, ho3, hn3, haw3, hb3, hl3⟩
      have HG4 : Hid (Bag w3 wb v3 p.d) := ⟨ho3, hn3.mono HG2.out.size, HG2.out.on haw3⟩
      have HRL := Lib.hid (HRL0.out.on haw3)
      clear ho3 hn3 haw3 hb3 hl3 HRL0 HG2
      have c3 := ((HB.out.on HG4.out.a).cells HAD.out).d
      go_wp2_with fail
      refine hK.out _ _ (fun _ => c3) ?_
      clear hK K c3
      try simp only [Act.put, List.setIfInBounds_toArray, List.set_cons_zero, List.set_cons_succ]
      refine wpAnyU_ready (rs := [4]) (by kernel_rfl) (by simp) ?_
      refine ReadyU.cons (by simp only [List.getElem?_toArray, List.getElem?_cons_succ, List.getElem?_cons_zero]; rfl) (fun K hK => ?_) ReadyU.nil
      refine step_app rfl (.tmp 15) (.tmp 16) rfl v3 p.d [167, 168] rfl (by exact HG4.out.o) ⟨gl, 0, none⟩ 2 2 rfl rfl (by exact HRL.out.src) (by omega) (fun v5 w5 r1 r2 r3 => ?_)
      have HG5 := Lib.hid (HG4.out.app r1 r2 r3)
      clear r1 r2 r3 HG4 HRL
      obtain ⟨g5, cap5, rfl, hc5⟩ := HG5.out.o.some' (by simp)
      have c5 := ((HB.out.on HG5.out.a).cells HAD.out).d
      refine hK.out _ _ (fun _ => c5) ?_
      clear hK K
      try simp only [Act.put, List.setIfInBounds_toArray, List.set_cons_zero, List.set_cons_succ]
      have hcl : p.d.length + 2 ≤ cap5 := by simpa using hc5
      have hln : (p.d ++ [167, 168]).length = p.d.length + 2 := by simp
      rw [hln] at HG5 ⊢
      clear hc5 hln
      have sl := slice_h (some ⟨g5, 0, none⟩) (p.d.length + 2) cap5 p.d.length (p.d.length : Int) rfl (by omega)
      refine wpAnyU_take (i := 8) (v := ?_) (by simp only [List.getElem?_toArray, List.getElem?_cons_succ, List.getElem?_cons_zero]; rfl) (by kernel_rfl) (by kernel_rfl) (by kernel_rfl) (by decide) (by kernel_rfl) (by kernel_rfl) (by exact fun _ _ _ h => h) (Or.inl ⟨by rfl, ?_⟩) (by exact c5) ?_
      rotate_left
      · intro wq hSw
        (try dsimp only at hSw)
        go_simp
        all_goals (with_reducible rfl)
      try simp only [Act.put, List.setIfInBounds_toArray, List.set_cons_zero, List.set_cons_succ]
      refine wpAnyU_take (i := 9) (v := ?_) (by simp only [List.getElem?_toArray, List.getElem?_cons_succ, List.getElem?_cons_zero]; rfl) (by kernel_rfl) (by kernel_rfl) (by kernel_rfl) (by decide) (by kernel_rfl) (by kernel_rfl) (by exact fun _ _ _ h => h) (Or.inl ⟨by rfl, ?_⟩) (by exact c5) ?_
      rotate_left
      · intro wq hSw
        (try dsimp only at hSw)
        go_simp
        all_goals (with_reducible rfl)
      try simp only [Act.put, List.setIfInBounds_toArray, List.set_cons_zero, List.set_cons_succ]
      refine wpAnyU_ready (rs := [10]) (by kernel_rfl) (by simp) ?_
      refine ReadyU.cons (by simp only [List.getElem?_toArray, List.getElem?_cons_succ, List.getElem?_cons_zero]; rfl) (fun K hK => ?_) ReadyU.nil
      have hfr := (HB.out.on HG5.out.a).free 45
      have HBN : Hid (BoxP (w5.setCell ⟨g1, 45, none⟩ (.slice (some ⟨g5, 0, none⟩) p.d.length cap5)) g1 p (.slice (some ⟨go, 0, none⟩) p.o.length capx) (.slice (some ⟨g5, 0, none⟩) p.d.length cap5)) := (HB.out.on HG5.out.a).put 45 _ ((csP_set HAD.out _ _).2.2.2.2.2.2.2.2.2.2.2.2.2 p.d _)
      have hAW : Away [g1] w5 (w5.setCell ⟨g1, 45, none⟩ (.slice (some ⟨g5, 0, none⟩) p.d.length cap5)) := away_put 45 _
      have hg5 : w3.heap.size ≤ g5 := HG5.out.n g5 rfl
      have HB2N : Hid (BoxP (w5.setCell ⟨g1, 45, none⟩ (.slice (some ⟨g5, 0, none⟩) p.d.length cap5)) g2 zeroPk (.slice none 0 0) (.slice none 0 0)) := (HB2.out.on HG5.out.a).away hAW (by simp; exact fun h => HSZ.out.2.2.2.2.2 h.symm)
      have HAN : Hid (Away [] w (w5.setCell ⟨g1, 45, none⟩ (.slice (some ⟨g5, 0, none⟩) p.d.length cap5))) := (HA.out.on HG5.out.a).next hAW (fun x hx => .inr (by simp at hx; rw [hx]; exact HSZ.out.2.2.2.1))
      have HLN2 : Hid (Lent B (w5.setCell ⟨g1, 45, none⟩ (.slice (some ⟨g5, 0, none⟩) p.d.length cap5)) (.slice (some ⟨g5, 0, none⟩) p.d.length cap5) p.d [167, 168]) := Lent.away (w := w5) ⟨g5, cap5, rfl, hcl, HG5.out.o, by have := HW.out; omega⟩ hAW (by simp; exact HSZ.out.2.1)
      have HLX := Lib.hid ((HLN1.out.away HG5.out.a (by simp)).away hAW (by simp; exact HSZ.out.2.1))
      have HWN : Hid (B ≤ (w5.setCell ⟨g1, 45, none⟩ (.slice (some ⟨g5, 0, none⟩) p.d.length cap5)).heap.size) := by have h1 := HW.out; have h2 := HG5.out.a.size; have h3 := hAW.size; exact Lib.hid (by omega)
      refine step_store26 rfl 22 21 rfl g1 45 rfl _ _ _ rfl _ c5 hfr (hK.out _ _ (by intro h; simp at h) ?_)
      clear hK K
      try simp only [Act.put]
      refine wpAnyU_done (by kernel_rfl) ?_ _
      generalize w5.setCell ⟨g1, 45, none⟩ (.slice (some ⟨g5, 0, none⟩) p.d.length cap5) = w4 at *
      clear HB HB2 HA HW HDR hS c5 hAW sl hfr HG5 HLN1
      have HB := HBN; have HB2 := HB2N; have HA := HAN; have HW := HWN
      clear HBN HB2N HAN HWN
      go_wp2_with (first
        | (refine wpList_load28 rfl _ rfl _ rfl p _ _ (by exact HB.out) HAD.out ?_)
        | (refine wpList_store28 rfl _ _ rfl _ rfl p _ _ rfl zeroPk (.slice none 0 0) (.slice none 0 0) (by exact HB2.out) HAD.out ⟨rfl, rfl⟩ rfl rfl ?_; refine Hid.out ?_))
      refine Lib.hid ?_
      intro w5 hb5 haw5
      have HB5 := Lib.hid hb5
      have HL1 := Lib.hid ((HLX.out.away haw5 (by simp; exact HSZ.out.2.2.1)).mono HSZ.out.1)
      have HL2 := Lib.hid ((HLN2.out.away haw5 (by simp; exact HSZ.out.2.2.1)).mono HSZ.out.1)
      have HA5 := Lib.hid (HA.out.next haw5 (fun x hx => .inr (by simp at hx; rw [hx]; exact HSZ.out.2.2.2.2.1)))
      clear hb5 haw5 HB HB2 HA HLX HLN2
      go_wp2_with fail
      refine bodyPost_ret (result28 rfl _ _ _ _ _ _ rfl HB5.out HAD.out) rfl ⟨_, _, rfl, HL1.out, HL2.out, HA5.out⟩
  · have HG2 : Hid (Away [] w2 (w2.alloc (.cells ([165, 166].map (Value.int .u8)).toArray 5)).drew) := ((Away.refl [] w2).alloc _).drew
    have HRL0 : Hid (Row (w2.alloc (.cells ([165, 166].map (Value.int .u8)).toArray 5)).drew (some ⟨w2.heap.size, 0, none⟩) [165, 166]) := (Row.lit w2 _ HM1.out (by simp)).on (Away.refl [] _).drew
    obtain ⟨gl, hgl⟩ : ∃ gl, gl = w2.heap.size := ⟨_, rfl⟩
    obtain ⟨wa, hwa⟩ : ∃ wa, wa = (w2.alloc (.cells ([165, 166].map (Value.int .u8)).toArray 5)).drew := ⟨_, rfl⟩
    go_simp
    refine hK.out _ _ (fun _ => by exact ((HB.out.on HG2.out).cells HAD.out).o) ?_
    clear hK K
    try simp only [Act.put, List.setIfInBounds_toArray, List.set_cons_zero, List.set_cons_succ]
    rw [← hgl] at HRL0
    rw [← hwa] at HG2 HRL0
    simp only [List.map_cons, List.map_nil] at hwa
    rw [← hwa]
    rw [← hgl]
    clear hwa hgl
    refine wpAnyU_ready (rs := [2]) (by kernel_rfl) (by simp) ?_
    refine ReadyU.cons (by simp only [List.getElem?_toArray, List.getElem?_cons_succ, List.getElem?_cons_zero]; rfl) (fun K hK => ?_) ReadyU.nil
    go_simp
    refine (own_any ao p.o _ capo _ rfl (by exact ((HO.out.on HA.out).on HG2.out).of.2.2.2)).mono ?_
    rintro E wb ⟨v3, rfl, ho3, hn3, haw3, hb3, hl3⟩
    have HG4 : Hid (Bag w2 wb v3 p.o) := ⟨ho3, hn3.mono HG2.out.size, HG2.out.on haw3⟩
    have HRL := Lib.hid (HRL0.out.on haw3)
    clear ho3 hn3 haw3 hb3 hl3 HRL0 HG2
    have c3 := ((HB.out.on HG4.out.a).cells HAD.out).o
    go_wp2_with fail
    refine hK.out _ _ (fun _ => c3) ?_
    clear hK K c3
    try simp only [Act.put, List.setIfInBounds_toArray, List.set_cons_zero, List.set_cons_succ]
    refine wpAnyU_ready (rs := [4]) (by kernel_rfl) (by simp) ?_
    refine ReadyU.cons (by simp only [List.getElem?_toArray, List.getElem?_cons_succ, List.getElem?_cons_zero]; rfl) (fun K hK => ?_) ReadyU.nil
    refine step_app rfl (.tmp 5) (.tmp 6) rfl v3 p.o [165, 166] rfl (by exact HG4.out.o) ⟨gl, 0, none⟩ 2 2 rfl rfl (by exact HRL.out.src) (by omega) (fun v5 w5 r1 r2 r3 => ?_)
    have HG5 := Lib.hid (HG4.out.app r1 r2 r3)
    clear r1 r2 r3 HG4 HRL
    obtain ⟨go, capx, rfl, hc5⟩ := HG5.out.o.some' (by simp)
    have c5 := ((HB.out.on HG5.out.a).cells HAD.out).o
    refine hK.out _ _ (fun _ => c5) ?_
    clear hK K
    try simp only [Act.put, List.setIfInBounds_toArray, List.set_cons_zero, List.set_cons_succ]
    have hcl : p.o.length + 2 ≤ capx := by simpa using hc5
    have hln : (p.o ++ [165, 166]).length = p.o.length + 2 := by simp
    rw [hln] at HG5 ⊢
    clear hc5 hln
    have sl := slice_h (some ⟨go, 0, none⟩) (p.o.length + 2) capx p.o.length (p.o.length : Int) rfl (by omega)
    refine wpAnyU_take (i := 8) (v := ?_) (by simp only [List.getElem?_toArray, List.getElem?_cons_succ, List.getElem?_cons_zero]; rfl) (by kernel_rfl) (by kernel_rfl) (by kernel_rfl) (by decide) (by kernel_rfl) (by kernel_rfl) (by exact fun _ _ _ h => h) (Or.inl ⟨by rfl, ?_⟩) (by exact c5) ?_
    rotate_left
    · intro wq hSw
      (try dsimp only at hSw)
      go_simp
      all_goals (with_reducible rfl)
    try simp only [Act.put, List.setIfInBounds_toArray, List.set_cons_zero, List.set_cons_succ]
    refine wpAnyU_take (i := 9) (v := ?_) (by simp only [List.getElem?_toArray, List.getElem?_cons_succ, List.getElem?_cons_zero]; rfl) (by kernel_rfl) (by kernel_rfl) (by kernel_rfl) (by decide) (by kernel_rfl) (by kernel_rfl) (by exact fun _ _ _ h => h) (Or.inl ⟨by rfl, ?_⟩) (by exact c5) ?_
    rotate_left
    · intro wq hSw
      (try dsimp only at hSw)
      go_simp
      all_goals (with_reducible rfl)
    try simp only [Act.put, List.setIfInBounds_toArray, List.set_cons_zero, List.set_cons_succ]
    refine wpAnyU_ready (rs := [10]) (by kernel_rfl) (by simp) ?_
    refine ReadyU.cons (by simp only [List.getElem?_toArray, List.getElem?_cons_succ, List.getElem?_cons_zero]; rfl) (fun K hK => ?_) ReadyU.nil
    have hfr := (HB.out.on HG5.out.a).free 44
    have HBN : Hid (BoxP (w5.setCell ⟨g1, 44, none⟩ (.slice (some ⟨go, 0, none⟩) p.o.length capx)) g1 p (.slice (some ⟨go, 0, none⟩) p.o.length capx) (.slice ad p.d.length capd)) := (HB.out.on HG5.out.a).put 44 _ ((csP_set HAD.out _ _).2.2.2.2.2.2.2.2.2.2.2.2.1 p.o _)
    have hAW : Away [g1] w5 (w5.setCell ⟨g1, 44, none⟩ (.slice (some ⟨go, 0, none⟩) p.o.length capx)) := away_put 44 _
    have hgo : w2.heap.size ≤ go := HG5.out.n go rfl
    have HB2N : Hid (BoxP (w5.setCell ⟨g1, 44, none⟩ (.slice (some ⟨go, 0, none⟩) p.o.length capx)) g2 zeroPk (.slice none 0 0) (.slice none 0 0)) := (HB2.out.on HG5.out.a).away hAW (by simp; exact fun h => HSZ.out.2.2.2.2.2 h.symm)
    have HAN : Hid (Away [] w (w5.setCell ⟨g1, 44, none⟩ (.slice (some ⟨go, 0, none⟩) p.o.length capx))) := (HA.out.on HG5.out.a).next hAW (fun x hx => .inr (by simp at hx; rw [hx]; exact HSZ.out.2.2.2.1))
    have HLN1 : Hid (Lent B (w5.setCell ⟨g1, 44, none⟩ (.slice (some ⟨go, 0, none⟩) p.o.length capx)) (.slice (some ⟨go, 0, none⟩) p.o.length capx) p.o [165, 166]) := Lent.away (w := w5) ⟨go, capx, rfl, hcl, HG5.out.o, by have := HW.out; omega⟩ hAW (by simp; exact HSZ.out.2.1)
    have HWN : Hid (B ≤ (w5.setCell ⟨g1, 44, none⟩ (.slice (some ⟨go, 0, none⟩) p.o.length capx)).heap.size) := by have h1 := HW.out; have h2 := HG5.out.a.size; have h3 := hAW.size; exact Lib.hid (by omega)
    refine step_store26 rfl 12 11 rfl g1 44 rfl _ _ _ rfl _ c5 hfr (hK.out _ _ (by intro h; simp at h) ?_)
    clear hK K
    try simp only [Act.put]
    refine wpAnyU_done (by kernel_rfl) ?_ _
    generalize w5.setCell ⟨g1, 44, none⟩ (.slice (some ⟨go, 0, none⟩) p.o.length capx) = w3 at *
    clear HB HB2 HA HW HDR hS c5 hAW sl hfr HG5 
    have HB := HBN; have HB2 := HB2N; have HA := HAN; have HW := HWN
    clear HBN HB2N HAN HWN
    clear hcl hgo
    go_wp2_with fail
    have hS : w3.drew.cell? ⟨g1, 45, none⟩ = some (.slice ad p.d.length capd) := (HB.out.cells HAD.out).d
    refine wp_region_U 10 (fun w' => w'.cell? ⟨g1, 45, none⟩ = some (.slice ad p.d.length capd)) (by kernel_rfl) ?_
    refine wpAnyU_take (i := 0) (v := ?_) (by simp only [List.getElem?_toArray, List.getElem?_cons_zero]; rfl) (by kernel_rfl) (by kernel_rfl) (by kernel_rfl) (by decide) (by kernel_rfl) (by kernel_rfl) (by exact fun _ _ _ h => h) (Or.inl ⟨by rfl, ?_⟩) (by exact hS) ?_
    rotate_left
    · intro wq hSw
      (try dsimp only at hSw)
      go_simp
      all_goals (with_reducible rfl)
    try simp only [Act.put, List.setIfInBounds_toArray, List.set_cons_zero, List.set_cons_succ]
    refine wpAnyU_take (i := 1) (v := ?_) (by simp only [List.getElem?_toArray, List.getElem?_cons_succ, List.getElem?_cons_zero]; rfl) (by kernel_rfl) (by kernel_rfl) (by kernel_rfl) (by decide) (by kernel_rfl) (by kernel_rfl) (by exact fun _ _ _ h => h) (Or.inl ⟨by rfl, ?_⟩) (by exact hS) ?_
    rotate_left
    · intro wq hSw
      (try dsimp only at hSw)
      go_simp
      all_goals (with_reducible rfl)
    try simp only [Act.put, List.setIfInBounds_toArray, List.set_cons_zero, List.set_cons_succ]
    refine wpAnyU_take (i := 5) (v := ?_) (by simp only [List.getElem?_toArray, List.getElem?_cons_succ, List.getElem?_cons_zero]; rfl) (by kernel_rfl) (by kernel_rfl) (by kernel_rfl) (by decide) (by kernel_rfl) (by kernel_rfl) (by exact fun _ _ _ h => h) (Or.inl ⟨by rfl, ?_⟩) (by exact hS) ?_
    rotate_left
    · intro wq hSw
      (try dsimp only at hSw)
      go_simp
      all_goals (with_reducible rfl)
    try simp only [Act.put, List.setIfInBounds_toArray, List.set_cons_zero, List.set_cons_succ]
    refine wpAnyU_take (i := 6) (v := ?_) (by simp only [List.getElem?_toArray, List.getElem?_cons_succ, List.getElem?_cons_zero]; rfl) (by kernel_rfl) (by kernel_rfl) (by kernel_rfl) (by decide) (by kernel_rfl) (by kernel_rfl) (by exact fun _ _ _ h => h) (Or.inl ⟨by rfl, ?_⟩) (by exact hS) ?_
    rotate_left
    · intro wq hSw
      (try dsimp only at hSw)
      go_simp
      all_goals (with_reducible rfl)
    try simp only [Act.put, List.setIfInBounds_toArray, List.set_cons_zero, List.set_cons_succ]
    refine wpAnyU_take (i := 7) (v := ?_) (by simp only [List.getElem?_toArray, List.getElem?_cons_succ, List.getElem?_cons_zero]; rfl) (by kernel_rfl) (by kernel_rfl) (by kernel_rfl) (by decide) (by kernel_rfl) (by kernel_rfl) (by exact fun _ _ _ h => h) (Or.inl ⟨by rfl, ?_⟩) (by exact hS) ?_
    rotate_left
    · intro wq hSw
      (try dsimp only at hSw)
      go_simp
      all_goals (with_reducible rfl)
    try simp only [Act.put, List.setIfInBounds_toArray, List.set_cons_zero, List.set_cons_succ]
    have HDR : Hid (Away [] w3 w3.drew) := (Away.refl [] w3).drew
    refine wpAnyU_ready (rs := [2, 3]) (by kernel_rfl) (by simp) ?_
    refine ReadyU.cons (by simp only [List.getElem?_toArray, List.getElem?_cons_succ, List.getElem?_cons_zero]; rfl) (fun K hK => ?_) (ReadyU.cons (by simp only [List.getElem?_toArray, List.getElem?_cons_succ, List.getElem?_cons_zero]; rfl) (fun K hK => ?_) ReadyU.nil)
    · go_simp
      refine (own_any ad p.d _ capd _ rfl (by exact ((HD.out.on HA.out).on HDR.out).of.2.2.2)).mono ?_
      rintro E wa ⟨v3, rfl, ho3, hn3, haw3, hb3, hl3⟩
      have HG3 : Hid (Bag w3 wa v3 p.d) := ⟨ho3, hn3, HDR.out.on haw3⟩
      clear ho3 hn3 haw3 hb3 hl3
      have c3 := ((HB.out.on HG3.out.a).cells HAD.out).d
      go_wp2_with fail
      refine hK.out _ _ (fun _ => c3) ?_
      clear hK K
      try simp only [Act.put, List.setIfInBounds_toArray, List.set_cons_zero, List.set_cons_succ]
      refine wpAnyU_ready (rs := [3]) (by kernel_rfl) (by simp) ?_
      refine ReadyU.cons (by simp only [List.getElem?_toArray, List.getElem?_cons_succ, List.getElem?_cons_zero]; rfl) (fun K hK => ?_) ReadyU.nil
      have HG4 : Hid (Bag w3 (wa.alloc (.cells ([167, 168].map (Value.int .u8)).toArray 5)) v3 p.d) := HG3.out.on ((Away.refl [] wa).alloc _)
      have HRL : Hid (Row (wa.alloc (.cells ([167, 168].map (Value.int .u8)).toArray 5)) (some ⟨wa.heap.size, 0, none⟩) [167, 168]) := Row.lit wa _ HM2.out (by simp)
      obtain ⟨gl, hgl⟩ : ∃ gl, gl = wa.heap.size := ⟨_, rfl⟩
      obtain ⟨wb, hwb⟩ : ∃ wb, wb = wa.alloc (.cells ([167, 168].map (Value.int .u8)).toArray 5) := ⟨_, rfl⟩
      go_simp
      refine hK.out _ _ (fun _ => by exact ((HB.out.on HG4.out.a).cells HAD.out).d) ?_
      clear hK K
      try simp only [Act.put, List.setIfInBounds_toArray, List.set_cons_zero, List.set_cons_succ]
      rw [← hgl] at HRL ⊢
      rw [← hwb] at HG4 HRL
      simp only [List.map_cons, List.map_nil] at hwb
      rw [← hwb]
      clear hwb hgl HG3 c3
      refine wpAnyU_ready (rs := [4]) (by kernel_rfl) (by simp) ?_
      refine ReadyU.cons (by simp only [List.getElem?_toArray, List.getElem?_cons_succ, List.getElem?_cons_zero]; rfl) (fun K hK => ?_) ReadyU.nil
      refine step_app rfl (.tmp 15) (.tmp 16) rfl v3 p.d [167, 168] rfl (by exact HG4.out.o) ⟨gl, 0, none⟩ 2 2 rfl rfl (by exact HRL.out.src) (by omega) (fun v5 w5 r1 r2 r3 => ?_)
      have HG5 := Lib.hid (HG4.out.app r1 r2 r3)
      clear r1 r2 r3 HG4 HRL
      obtain ⟨g5, cap5, rfl, hc5⟩ := HG5.out.o.some' (by simp)
      have c5 := ((HB.out.on HG5.out.a).cells HAD.out).d
      refine hK.out _ _ (fun _ => c5) ?_
      clear hK K
      try simp only [Act.put, List.setIfInBounds_toArray, List.set_cons_zero, List.set_cons_succ]
      have hcl : p.d.length + 2 ≤ cap5 := by simpa using hc5
      have hln : (p.d ++ [167, 168]).length = p.d.length + 2 := by simp
      rw [hln] at HG5 ⊢
      clear hc5 hln
      have sl := slice_h (some ⟨g5, 0, none⟩) (p.d.length + 2) cap5 p.d.length (p.d.length : Int) rfl (by omega)
      refine wpAnyU_take (i := 8) (v := ?_) (by simp only [List.getElem?_toArray, List.getElem?_cons_succ, List.getElem?_cons_zero]; rfl) (by kernel_rfl) (by kernel_rfl) (by kernel_rfl) (by decide) (by kernel_rfl) (by kernel_rfl) (by exact fun _ _ _ h => h) (Or.inl ⟨by rfl, ?_⟩) (by exact c5) ?_
      rotate_left
      · intro wq hSw
        (try dsimp only at hSw)
        go_simp
        all_goals (with_reducible rfl)
      try simp only [Act.put, List.setIfInBounds_toArray, List.set_cons_zero, List.set_cons_succ]
      refine wpAnyU_take (i := 9) (v := ?_) (by simp only [List.getElem?_toArray, List.getElem?_cons_succ, List.getElem?_cons_zero]; rfl) (by kernel_rfl) (by kernel_rfl) (by kernel_rfl) (by decide) (by kernel_rfl) (by kernel_rfl) (by exact fun _ _ _ h => h) (Or.inl ⟨by rfl, ?_⟩) (by exact c5) ?_
      rotate_left
      · intro wq hSw
        (try dsimp only at hSw)
        go_simp
        all_goals (with_reducible rfl)
      try simp only [Act.put, List.setIfInBounds_toArray, List.set_cons_zero, List.set_cons_succ]
      refine wpAnyU_ready (rs := [10]) (by kernel_rfl) (by simp) ?_
      refine ReadyU.cons (by simp only [List.getElem?_toArray, List.getElem?_cons_succ, List.getElem?_cons_zero]; rfl) (fun K hK => ?_) ReadyU.nil
      have hfr := (HB.out.on HG5.out.a).free 45
      have HBN : Hid (BoxP (w5.setCell ⟨g1, 45, none⟩ (.slice (some ⟨g5, 0, none⟩) p.d.length cap5)) g1 p (.slice (some ⟨go, 0, none⟩) p.o.length capx) (.slice (some ⟨g5, 0, none⟩) p.d.length cap5)) := (HB.out.on HG5.out.a).put 45 _ ((csP_set HAD.out _ _).2.2.2.2.2.2.2.2.2.2.2.2.2 p.d _)
      have hAW : Away [g1] w5 (w5.setCell ⟨g1, 45, none⟩ (.slice (some ⟨g5, 0, none⟩) p.d.length cap5)) := away_put 45 _
      have hg5 : w3.heap.size ≤ g5 := HG5.out.n g5 rfl
      have HB2N : Hid (BoxP (w5.setCell ⟨g1, 45, none⟩ (.slice (some ⟨g5, 0, none⟩) p.d.length cap5)) g2 zeroPk (.slice none 0 0) (.slice none 0 0)) := (HB2.out.on HG5.out.a).away hAW (by simp; exact fun h => HSZ.out.2.2.2.2.2 h.symm)
      have HAN : Hid (Away [] w (w5.setCell ⟨g1, 45, none⟩ (.slice (some ⟨g5, 0, none⟩) p.d.length cap5))) := (HA.out.on HG5.out.a).next hAW (fun x hx => .inr (by simp at hx; rw [hx]; exact HSZ.out.2.2.2.1))
      have HLN2 : Hid (Lent B (w5.setCell ⟨g1, 45, none⟩ (.slice (some ⟨g5, 0, none⟩) p.d.length cap5)) (.slice (some ⟨g5, 0, none⟩) p.d.length cap5) p.d [167, 168]) := Lent.away (w := w5) ⟨g5, cap5, rfl, hcl, HG5.out.o, by have := HW.out; omega⟩ hAW (by simp; exact HSZ.out.2.1)
      have HLX := Lib.hid ((HLN1.out.away HG5.out.a (by simp)).away hAW (by simp; exact HSZ.out.2.1))
      have HWN : Hid (B ≤ (w5.setCell ⟨g1, 45, none⟩ (.slice (some ⟨g5, 0, none⟩) p.d.length cap5)).heap.size) := by have h1 := HW.out; have h2 := HG5.out.a.size; have h3 := hAW.size; exact Lib.hid (by omega)
      refine step_store26 rfl 22 21 rfl g1 45 rfl _ _ _ rfl _ c5 hfr (hK.out _ _ (by intro h; simp at h) ?_)
      clear hK K
      try simp only [Act.put]
      refine wpAnyU_done (by kernel_rfl) ?_ _
      generalize w5.setCell ⟨g1, 45, none⟩ (.slice (some ⟨g5, 0, none⟩) p.d.length cap5) = w4 at *
      clear HB HB2 HA HW HDR hS c5 hAW sl hfr HG5 HLN1
      have HB := HBN; have HB2 := HB2N; have HA := HAN; have HW := HWN
      clear HBN HB2N HAN HWN
      go_wp2_with (first
        | (refine wpList_load28 rfl _ rfl _ rfl p _ _ (by exact HB.out) HAD.out ?_)
        | (refine wpList_store28 rfl _ _ rfl _ rfl p _ _ rfl zeroPk (.slice none 0 0) (.slice none 0 0) (by exact HB2.out) HAD.out ⟨rfl, rfl⟩ rfl rfl ?_; refine Hid.out ?_))
      refine Lib.hid ?_
      intro w5 hb5 haw5
      have HB5 := Lib.hid hb5
      have HL1 := Lib.hid ((HLX.out.away haw5 (by simp; exact HSZ.out.2.2.1)).mono HSZ.out.1)
      have HL2 := Lib.hid ((HLN2.out.away haw5 (by simp; exact HSZ.out.2.2.1)).mono HSZ.out.1)
      have HA5 := Lib.hid (HA.out.next haw5 (fun x hx => .inr (by simp at hx; rw [hx]; exact HSZ.out.2.2.2.2.1)))
      clear hb5 haw5 HB HB2 HA HLX HLN2
      go_wp2_with fail
      refine bodyPost_ret (result28 rfl _ _ _ _ _ _ rfl HB5.out HAD.out) rfl ⟨_, _, rfl, HL1.out, HL2.out, HA5.out⟩
    · have HG2 : Hid (Away [] w3 (w3.alloc (.cells ([167, 168].map (Value.int .u8)).toArray 5)).drew) := ((Away.refl [] w3).alloc _).drew
      have HRL0 : Hid (Row (w3.alloc (.cells ([167, 168].map (Value.int .u8)).toArray 5)).drew (some ⟨w3.heap.size, 0, none⟩) [167, 168]) := (Row.lit w3 _ HM2.out (by simp)).on (Away.refl [] _).drew
      obtain ⟨gl, hgl⟩ : ∃ gl, gl = w3.heap.size := ⟨_, rfl⟩
      obtain ⟨wa, hwa⟩ : ∃ wa, wa = (w3.alloc (.cells ([167, 168].map (Value.int .u8)).toArray 5)).drew := ⟨_, rfl⟩
      go_simp
      refine hK.out _ _ (fun _ => by exact ((HB.out.on HG2.out).cells HAD.out).d) ?_
      clear hK K
      try simp only [Act.put, List.setIfInBounds_toArray, List.set_cons_zero, List.set_cons_succ]
      rw [← hgl] at HRL0
      rw [← hwa] at HG2 HRL0
      simp only [List.map_cons, List.map_nil] at hwa
      rw [← hwa]
      rw [← hgl]
      clear hwa hgl
      refine wpAnyU_ready (rs := [2]) (by kernel_rfl) (by simp) ?_
      refine ReadyU.cons (by simp only [List.getElem?_toArray, List.getElem?_cons_succ, List.getElem?_cons_zero]; rfl) (fun K hK => ?_) ReadyU.nil
      go_simp
      refine (own_any ad p.d _ capd _ rfl (by exact ((HD.out.on HA.out).on HG2.out).of.2.2.2)).mono ?_
      rintro E wb ⟨v3, rfl, ho3, hn3, haw3, hb3, hl3⟩
      have HG4 : Hid (Bag w3 wb v3 p.d) := ⟨ho3, hn3.mono HG2.out.size, HG2.out.on haw3⟩
      have HRL := Lib.hid (HRL0.out.on haw3)
      clear ho3 hn3 haw3 hb3 hl3 HRL0 HG2
      have c3 := ((HB.out.on HG4.out.a).cells HAD.out).d
      go_wp2_with fail
      refine hK.out _ _ (fun _ => c3) ?_
      clear hK K c3
      try simp only [Act.put, List.setIfInBounds_toArray, List.set_cons_zero, List.set_cons_succ]
      refine wpAnyU_ready (rs := [4]) (by kernel_rfl) (by simp) ?_
      refine ReadyU.cons (by simp only [List.getElem?_toArray, List.getElem?_cons_succ, List.getElem?_cons_zero]; rfl) (fun K hK => ?_) ReadyU.nil
      refine step_app rfl (.tmp 15) (.tmp 16) rfl v3 p.d [167, 168] rfl (by exact HG4.out.o) ⟨gl, 0, none⟩ 2 2 rfl rfl (by exact HRL.out.src) (by omega) (fun v5 w5 r1 r2 r3 => ?_)
      have HG5 := Lib.hid (HG4.out.app r1 r2 r3)
      clear r1 r2 r3 HG4 HRL
      obtain ⟨g5, cap5, rfl, hc5⟩ := HG5.out.o.some' (by simp)
      have c5 := ((HB.out.on HG5.out.a).cells HAD.out).d
      refine hK.out _ _ (fun _ => c5) ?_
      clear hK K
      try simp only [Act.put, List.setIfInBounds_toArray, List.set_cons_zero, List.set_cons_succ]
      have hcl : p.d.length + 2 ≤ cap5 := by simpa using hc5
      have hln : (p.d ++ [167, 168]).length = p.d.length + 2 := by simp
      rw [hln] at HG5 ⊢
      clear hc5 hln
      have sl := slice_h (some ⟨g5, 0, none⟩) (p.d.length + 2) cap5 p.d.length (p.d.length : Int) rfl (by omega)
      refine wpAnyU_take (i := 8) (v := ?_) (by simp only [List.getElem?_toArray, List.getElem?_cons_succ, List.getElem?_cons_zero]; rfl) (by kernel_rfl) (by kernel_rfl) (by kernel_rfl) (by decide) (by kernel_rfl) (by kernel_rfl) (by exact fun _ _ _ h => h) (Or.inl ⟨by rfl, ?_⟩) (by exact c5) ?_
      rotate_left
      · intro wq hSw
        (try dsimp only at hSw)
        go_simp
        all_goals (with_reducible rfl)
      try simp only [Act.put, List.setIfInBounds_toArray, List.set_cons_zero, List.set_cons_succ]
      refine wpAnyU_take (i := 9) (v := ?_) (by simp only [List.getElem?_toArray, List.getElem?_cons_succ, List.getElem?_cons_zero]; rfl) (by kernel_rfl) (by kernel_rfl) (by kernel_rfl) (by decide) (by kernel_rfl) (by kernel_rfl) (by exact fun _ _ _ h => h) (Or.inl ⟨by rfl, ?_⟩) (by exact c5) ?_
      rotate_left
      · intro wq hSw
        (try dsimp only at hSw)
        go_simp
        all_goals (with_reducible rfl)
      try simp only [Act.put, List.setIfInBounds_toArray, List.set_cons_zero, List.set_cons_succ]
      refine wpAnyU_ready (rs := [10]) (by kernel_rfl) (by simp) ?_
      refine ReadyU.cons (by simp only [List.getElem?_toArray, List.getElem?_cons_succ, List.getElem?_cons_zero]; rfl) (fun K hK => ?_) ReadyU.nil
      have hfr := (HB.out.on HG5.out.a).free 45
      have HBN : Hid (BoxP (w5.setCell ⟨g1, 45, none⟩ (.slice (some ⟨g5, 0, none⟩) p.d.length cap5)) g1 p (.slice (some ⟨go, 0, none⟩) p.o.length capx) (.slice (some ⟨g5, 0, none⟩) p.d.length cap5)) := (HB.out.on HG5.out.a).put 45 _ ((csP_set HAD.out _ _).2.2.2.2.2.2.2.2.2.2.2.2.2 p.d _)
      have hAW : Away [g1] w5 (w5.setCell ⟨g1, 45, none⟩ (.slice (some ⟨g5, 0, none⟩) p.d.length cap5)) := away_put 45 _
      have hg5 : w3.heap.size ≤ g5 := HG5.out.n g5 rfl
      have HB2N : Hid (BoxP (w5.setCell ⟨g1, 45, none⟩ (.slice (some ⟨g5, 0, none⟩) p.d.length cap5)) g2 zeroPk (.slice none 0 0) (.slice none 0 0)) := (HB2.out.on HG5.out.a).away hAW (by simp; exact fun h => HSZ.out.2.2.2.2.2 h.symm)
      have HAN : Hid (Away [] w (w5.setCell ⟨g1, 45, none⟩ (.slice (some ⟨g5, 0, none⟩) p.d.length cap5))) := (HA.out.on HG5.out.a).next hAW (fun x hx => .inr (by simp at hx; rw [hx]; exact HSZ.out.2.2.2.1))
      have HLN2 : Hid (Lent B (w5.setCell ⟨g1, 45, none⟩ (.slice (some ⟨g5, 0, none⟩) p.d.length cap5)) (.slice (some ⟨g5, 0, none⟩) p.d.length cap5) p.d [167, 168]) := Lent.away (w := w5) ⟨g5, cap5, rfl, hcl, HG5.out.o, by have := HW.out; omega⟩ hAW (by simp; exact HSZ.out.2.1)
      have HLX := Lib.hid ((HLN1.out.away HG5.out.a (by simp)).away hAW (by simp; exact HSZ.out.2.1))
      have HWN : Hid (B ≤ (w5.setCell ⟨g1, 45, none⟩ (.slice (some ⟨g5, 0, none⟩) p.d.length cap5)).heap.size) := by have h1 := HW.out; have h2 := HG5.out.a.size; have h3 := hAW.size; exact Lib.hid (by omega)
      refine step_store26 rfl 22 21 rfl g1 45 rfl _ _ _ rfl _ c5 hfr (hK.out _ _ (by intro h; simp at h) ?_)
      clear hK K
      try simp only [Act.put]
      refine wpAnyU_done (by kernel_rfl) ?_ _
      generalize w5.setCell ⟨g1, 45, none⟩ (.slice (some ⟨g5, 0, none⟩) p.d.length cap5) = w4 at *
      clear HB HB2 HA HW HDR hS c5 hAW sl hfr HG5 HLN1
      have HB := HBN; have HB2 := HB2N; have HA := HAN; have HW := HWN
      clear HBN HB2N HAN HWN
      go_wp2_with (first
        | (refine wpList_load28 rfl _ rfl _ rfl p _ _ (by exact HB.out) HAD.out ?_)
        | (refine wpList_store28 rfl _ _ rfl _ rfl p _ _ rfl zeroPk (.slice none 0 0) (.slice none 0 0) (by exact HB2.out) HAD.out ⟨rfl, rfl⟩ rfl rfl ?_; refine Hid.out ?_))
      refine Lib.hid ?_
      intro w5 hb5 haw5
      have HB5 := Lib.hid hb5
      have HL1 := Lib.hid ((HLX.out.away haw5 (by simp; exact HSZ.out.2.2.1)).mono HSZ.out.1)
      have HL2 := Lib.hid ((HLN2.out.away haw5 (by simp; exact HSZ.out.2.2.1)).mono HSZ.out.1)
      have HA5 := Lib.hid (HA.out.next haw5 (fun x hx => .inr (by simp at hx; rw [hx]; exact HSZ.out.2.2.2.2.1)))
      clear hb5 haw5 HB HB2 HA HLX HLN2
      go_wp2_with fail
      refine bodyPost_ret (result28 rfl _ _ _ _ _ _ rfl HB5.out HAD.out) rfl ⟨_, _, rfl, HL1.out, HL2.out, HA5.out⟩
#print axioms lent_c
end Go.Proofs.YtbnnfbfmomafnaaDoor.U5

namespace Go.Proofs.YtbnnfbfmomafnaaDoor.U5
open Go.ChangeShapes Go.WideShapes Go.ChangeAt Go.RowKit Go.Deep Num
set_option linter.unusedVariables false
set_option maxHeartbeats 4000000
set_option maxRecDepth 100000

theorem load28_run {w : World} {g : Nat} {p : Pk} {ov dv : Value} (hb : BoxP w g p ov dv) (ha : Ad p) : (Instr.loadAt 28 (.pointer (some ⟨g, 0, none⟩))).run Tryd.prog w = .ok (.agg (csP p ov dv)) w := by
  simp only [Instr.loadAt, Instr.sureAddr, Sem.run_bind, Sem.run_pure, Result.andThen]
  rw [run_loadVar_row w g 28 28 (csP p ov dv) (0, 0) _ hb Tryd.underlying28 rfl (by rw [csP_size ha]; exact info28)]
theorem ld26 {w : World} {ad : Addr} {a : Option Addr} {n c : Nat} (h : w.cell? ad = some (.slice a n c)) : (Instr.loadAt 26 (.pointer (some ad))).run Tryd.prog w = .ok (.slice a n c) w := by
  simp [go_sem, Instr.loadAt, Instr.sureAddr, h]
theorem yields_ld {ops : Array Oper} {S : World → Prop} {op : Oper} {a : Act} {t : TypeId} {v : Value} {ad : Addr} (hw : Region.wanted op (yielded ops a.tmps) = true) (x : Operand) (ho : op.op = .load t x) (hx : a.eval x = .pointer (some ad))
    (hS : ∀ w, S w → (Instr.loadAt t (.pointer (some ad))).run Tryd.prog w = .ok v w) : YieldsIf Tryd.prog ops S op v a :=
  .inl ⟨hw, fun w hw' => by
    unfold execOp
    simp only [ho, hx, Sem.run_bind, hS w hw', Result.andThen_ok, Sem.run_pure]⟩
theorem step_appW {ops : Array Oper} {o : Oper} {a : Act} {w : World} {K : Act → World → Prop} {Q : Exit → Act → World → Prop} {E : Prop} (hw : Region.wanted o (yielded ops a.tmps) = true) (s x : Operand)
    (hop : o.op = .call { callee := .builtin .append, args := #[s, x], argTypes := #[26, 26] }) (v : Value) (l m : List Int) (hs : a.eval s = v) (hown : Owns w v l)
    (ad : Addr) (n c : Nat) (hx : a.eval x = .slice (some ad) n c) (hn : m.length = n) (hm : ∀ j u, (m.map (Value.int .u8))[j]? = some u → w.cell? (ad.add j) = some u) (hlen : l.length + n ≤ 140737488355328)
    (hK : ∀ v' w', Owns w' v' (l ++ m) → w.grownBy w' v.ownBlock → Moved w v v' → K (a.put o.dst v') w') :
    if Region.wanted o (yielded ops a.tmps) = true then Oper.wp Tryd.prog o a w K Q else E := by
  rw [if_pos hw]
  obtain ⟨v', w', hrun, r1, r2, r3⟩ := run_appB o.type w v l m hown ad n c hn hm hlen
  unfold Oper.wp
  simp [execOp, hop, resolve, invoke, builtin, hs, hx, hrun, Result.andThen]
  exact hK v' w' r1 r2 r3
theorem Lent.parts {B : Nat} {w : World} {v : Value} {l m : List Int} (h : Lent B w v l m) (hl : Bytes l) (hm : Bytes m) (hn : l.length + m.length ≤ 140737488355328) : ∃ g cap, v = .slice (some ⟨g, 0, none⟩) l.length cap ∧ l.length + m.length ≤ cap ∧ Row w (some ⟨g, 0, none⟩) (l ++ m) ∧ Sl w v l := by
  obtain ⟨g, cap, rfl, h1, h2, h3⟩ := h
  have hb : Bytes (l ++ m) := fun x hx => by
    rcases List.mem_append.mp hx with h | h
    · exact hl x h
    · exact hm x h
  have hr := h2.row' (by simp; omega) hb
  have hr' := hr.head l.length
  rw [List.take_left] at hr'
  exact ⟨g, cap, rfl, h1, hr, ⟨_, _, rfl, by omega, by simp, hr'⟩⟩
theorem kept_c (p : Pk) (B : Nat) (ov dv ou du : Value) (w : World) (hp : Pkt w p ov dv) (hol : p.o.length ≤ 140737488355326) (hdl : p.d.length ≤ 140737488355326)
    (hL1 : Lent B w ou p.o [165, 166]) (hL2 : Lent B w du p.d [167, 168]) :
    Calls Tryd.prog 27 #[.agg (csP p ou du), .agg (csP p ov dv)] w fun E w' => E = .returned (.bool true) ∧ Away [] w w' := by
  have ha := hp.wf.ad
  have HAD : Hid (Ad p) := ha
  have HM1 : Hid (Bytes [165, 166]) := bytes2 (by omega) (by omega)
  have HM2 : Hid (Bytes [167, 168]) := bytes2 (by omega) (by omega)
  obtain ⟨hwf, ho, hd0⟩ := hp
  obtain ⟨go, cao, rfl, hco, hro, hso⟩ := hL1.parts ho.bytes.1 HM1.out (by simp; omega)
  obtain ⟨gd, cad, rfl, hcd, hrd, hsd⟩ := hL2.parts hd0.bytes.1 HM2.out (by simp; omega)
  simp only [List.length_cons, List.length_nil] at hco hcd
  have HP : Hid (Pkt w p ov dv) := ⟨hwf, ho, hd0⟩
  have HQ : Hid (Pkt w p (.slice (some ⟨go, 0, none⟩) p.o.length cao) (.slice (some ⟨gd, 0, none⟩) p.d.length cad)) := ⟨hwf, hso, hsd⟩
  have HRO := Lib.hid hro
  have HRD := Lib.hid hrd
  have HO : Hid (Sl w ov p.o) := ho
  have HD : Hid (Sl w dv p.d) := hd0
  obtain ⟨ao, capo, rfl, -⟩ := ho
  obtain ⟨ad, capd, rfl, -⟩ := hd0
  have wo : IntKind.i64.wrap ((p.o.length : Int) + 2) = (p.o.length : Int) + 2 := by rw [IntKind.wrap_i64]; omega
  have wd : IntKind.i64.wrap ((p.d.length : Int) + 2) = (p.d.length : Int) + 2 := by rw [IntKind.wrap_i64]; omega
  have slo := slice_h (some ⟨go, 0, none⟩) p.o.length cao (p.o.length + 2) ((p.o.length : Int) + 2) (by simp) (by omega)
  have sld := slice_h (some ⟨gd, 0, none⟩) p.d.length cad (p.d.length + 2) ((p.d.length : Int) + 2) (by simp) (by omega)
  clear hwf ha hL1 hL2 hro hrd hso hsd
  go_enter Tryd.func27, Tryd.ntmps27
  go_wp2_with (first | (refine wpList_box28 rfl _ rfl p _ _ rfl ?_; refine Hid.out ?_))
  refine Lib.hid ?_
  intro g1 w1 hg1 hb1 haw1
  have HB := Lib.hid hb1; have HA := Lib.hid haw1
  clear hb1 haw1
  go_wp2_with (first | (refine wpList_box28 rfl _ rfl p _ _ rfl ?_; refine Hid.out ?_))
  refine Lib.hid ?_
  intro g2 w2 hg2 hb2 haw2
  have HB2 := Lib.hid hb2
  replace HB := Lib.hid (HB.out.on haw2); replace HA := Lib.hid (HA.out.on haw2)
  clear hb2 haw2 hg1 hg2
  have co2 := (HB2.out.cells HAD.out).o
  have cd2 := (HB2.out.cells HAD.out).d
  go_wp2_with fail
  clear co2 cd2
  have hS0 : (fun w' => BoxP w' g1 p (.slice (some ⟨go, 0, none⟩) p.o.length cao) (.slice (some ⟨gd, 0, none⟩) p.d.length cad) ∧ BoxP w' g2 p (.slice ao p.o.length capo) (.slice ad p.d.length capd)) w2 := ⟨HB.out, HB2.out⟩
  refine wp_region_held_drew (S := (fun w' => BoxP w' g1 p (.slice (some ⟨go, 0, none⟩) p.o.length cao) (.slice (some ⟨gd, 0, none⟩) p.d.length cad) ∧ BoxP w' g2 p (.slice ao p.o.length capo) (.slice ad p.d.length capd))) (by kernel_rfl) hS0 (fun hHeld => ?_)
  refine wpAnyH_take (i := 0) (by simp only [List.getElem?_toArray, List.getElem?_cons_zero]; rfl) (by kernel_rfl) (by kernel_rfl) (by kernel_rfl) (by exact fun _ _ _ h => h) (yields_ld (ad := ⟨g1, 0, none⟩) (by rfl) _ rfl rfl (fun w' h => load28_run h.1 HAD.out)) (by assumption) ?_
  try simp only [Act.put, List.setIfInBounds_toArray, List.set_cons_zero, List.set_cons_succ]
  refine wpAnyH_take (i := 1) (by simp only [List.getElem?_toArray, List.getElem?_cons_succ, List.getElem?_cons_zero]; rfl) (by kernel_rfl) (by kernel_rfl) (by kernel_rfl) (by exact fun _ _ _ h => h) (yields_ld (ad := ⟨g2, 0, none⟩) (by rfl) _ rfl rfl (fun w' h => load28_run h.2 HAD.out)) (by assumption) ?_
  try simp only [Act.put, List.setIfInBounds_toArray, List.set_cons_zero, List.set_cons_succ]
  refine wpAnyH_ready (rs := [2]) (by kernel_rfl) (by simp) ?_
  refine AllReadyH.cons (by simp only [List.getElem?_toArray, List.getElem?_cons_succ, List.getElem?_cons_zero]; rfl) (fun K hK => ?_) AllReadyH.nil
  go_simp
  have HDR : Hid (Away [] w2 w2.drew) := (Away.refl [] w2).drew
  replace HB := Lib.hid (HB.out.on HDR.out)
  replace HB2 := Lib.hid (HB2.out.on HDR.out)
  replace HA := Lib.hid (HA.out.on HDR.out)
  clear HDR hS0
  refine (sameP_yes p p _ _ _ _ _ (HQ.out.on HA.out) (HP.out.on HA.out) rfl).mono ?_
  rintro E w3 ⟨rfl, haw⟩
  replace HB := Lib.hid (HB.out.on haw)
  replace HB2 := Lib.hid (HB2.out.on haw)
  replace HA := Lib.hid (HA.out.on haw)
  clear haw
  replace HRO := Lib.hid (HRO.out.on HA.out)
  replace HRD := Lib.hid (HRD.out.on HA.out)
  go_wp2_with fail
  refine hK.out _ _ ⟨HB.out, HB2.out⟩ (fun hHeld => ?_)
  clear hK K
  try simp only [Act.put, List.setIfInBounds_toArray, List.set_cons_zero, List.set_cons_succ]
  refine wpAnyH_take (i := 3) (v := ?_) (by simp only [List.getElem?_toArray, List.getElem?_cons_succ, List.getElem?_cons_zero]; rfl) (by kernel_rfl) (by kernel_rfl) (by kernel_rfl) (by exact fun _ _ _ h => h) (Or.inl ⟨by rfl, ?_⟩) (by assumption) ?_
  rotate_left
  · intro wq hSw
    (try dsimp only at hSw)
    go_simp
    all_goals (with_reducible rfl)
  try simp only [Act.put, List.setIfInBounds_toArray, List.set_cons_zero, List.set_cons_succ]
  refine wpAnyH_take (i := 4) (v := ?_) (by simp only [List.getElem?_toArray, List.getElem?_cons_succ, List.getElem?_cons_zero]; rfl) (by kernel_rfl) (by kernel_rfl) (by kernel_rfl) (by exact fun _ _ _ h => h) (Or.inl ⟨by rfl, ?_⟩) (by assumption) ?_
  rotate_left
  · intro wq hSw
    (try dsimp only at hSw)
    go_simp
    all_goals (with_reducible rfl)
  try simp only [Act.put, List.setIfInBounds_toArray, List.set_cons_zero, List.set_cons_succ]
  refine wpAnyH_take (i := 5) (by simp only [List.getElem?_toArray, List.getElem?_cons_succ, List.getElem?_cons_zero]; rfl) (by kernel_rfl) (by kernel_rfl) (by kernel_rfl) (by exact fun _ _ _ h => h) (yields_ld (ad := ⟨g1, 44, none⟩) (by rfl) _ rfl rfl (fun w' h => ld26 (h.1.cells HAD.out).o)) (by assumption) ?_
  try simp only [Act.put, List.setIfInBounds_toArray, List.set_cons_zero, List.set_cons_succ]
  refine wpAnyH_take (i := 6) (v := ?_) (by simp only [List.getElem?_toArray, List.getElem?_cons_succ, List.getElem?_cons_zero]; rfl) (by kernel_rfl) (by kernel_rfl) (by kernel_rfl) (by exact fun _ _ _ h => h) (Or.inl ⟨by rfl, ?_⟩) (by assumption) ?_
  rotate_left
  · intro wq hSw
    (try dsimp only at hSw)
    go_simp
    all_goals (with_reducible rfl)
  try simp only [Act.put, List.setIfInBounds_toArray, List.set_cons_zero, List.set_cons_succ]
  refine wpAnyH_take (i := 7) (v := ?_) (by simp only [List.getElem?_toArray, List.getElem?_cons_succ, List.getElem?_cons_zero]; rfl) (by kernel_rfl) (by kernel_rfl) (by kernel_rfl) (by exact fun _ _ _ h => h) (Or.inl ⟨by rfl, ?_⟩) (by assumption) ?_
  rotate_left
  · intro wq hSw
    (try dsimp only at hSw)
    go_simp
    all_goals (with_reducible rfl)
  try simp only [Act.put, List.setIfInBounds_toArray, List.set_cons_zero, List.set_cons_succ]
  refine wpAnyH_take (i := 8) (v := ?_) (by simp only [List.getElem?_toArray, List.getElem?_cons_succ, List.getElem?_cons_zero]; rfl) (by kernel_rfl) (by kernel_rfl) (by kernel_rfl) (by exact fun _ _ _ h => h) (Or.inl ⟨by rfl, ?_⟩) (by assumption) ?_
  rotate_left
  · intro wq hSw
    (try dsimp only at hSw)
    go_simp
    all_goals (with_reducible rfl)
  try simp only [Act.put, List.setIfInBounds_toArray, List.set_cons_zero, List.set_cons_succ]
  refine wpAnyH_take (i := 9) (v := ?_) (by simp only [List.getElem?_toArray, List.getElem?_cons_succ, List.getElem?_cons_zero]; rfl) (by kernel_rfl) (by kernel_rfl) (by kernel_rfl) (by exact fun _ _ _ h => h) (Or.inl ⟨by rfl, ?_⟩) (by assumption) ?_
  rotate_left
  · intro wq hSw
    (try dsimp only at hSw)
    go_simp
    all_goals (with_reducible rfl)
  try simp only [Act.put, List.setIfInBounds_toArray, List.set_cons_zero, List.set_cons_succ]
  refine wpAnyH_take (i := 10) (by simp only [List.getElem?_toArray, List.getElem?_cons_succ, List.getElem?_cons_zero]; rfl) (by kernel_rfl) (by kernel_rfl) (by kernel_rfl) (by exact fun _ _ _ h => h) (yields_ld (ad := ⟨g2, 44, none⟩) (by rfl) _ rfl rfl (fun w' h => ld26 (h.2.cells HAD.out).o)) (by assumption) ?_
  try simp only [Act.put, List.setIfInBounds_toArray, List.set_cons_zero, List.set_cons_succ]
  refine wpAnyH_ready (rs := [11, 12]) (by kernel_rfl) (by simp) ?_
  refine AllReadyH.cons (by simp only [List.getElem?_toArray, List.getElem?_cons_succ, List.getElem?_cons_zero]; rfl) (fun K hK => ?_) (AllReadyH.cons (by simp only [List.getElem?_toArray, List.getElem?_cons_succ, List.getElem?_cons_zero]; rfl) (fun K hK => ?_) AllReadyH.nil)
  · go_simp
    refine (own_any ao p.o _ capo _ rfl (by exact (HO.out.on HA.out).of.2.2.2)).mono ?_
    rintro E wa ⟨v3, rfl, ho3, hn3, haw3, hb3, hl3⟩
    have HG3 : Hid (Bag w3 wa v3 p.o) := ⟨ho3, hn3, haw3⟩
    clear ho3 hn3 haw3 hb3 hl3
    go_wp2_with fail
    refine hK.out _ _ ⟨HB.out.on HG3.out.a, HB2.out.on HG3.out.a⟩ (fun hHeld => ?_)
    clear hK K
    try simp only [Act.put, List.setIfInBounds_toArray, List.set_cons_zero, List.set_cons_succ]
    refine wpAnyH_ready (rs := [12]) (by kernel_rfl) (by simp) ?_
    refine AllReadyH.cons (by simp only [List.getElem?_toArray, List.getElem?_cons_succ, List.getElem?_cons_zero]; rfl) (fun K hK => ?_) AllReadyH.nil
    have HG4 : Hid (Bag w3 (wa.alloc (.cells ([165, 166].map (Value.int .u8)).toArray 5)) v3 p.o) := HG3.out.on ((Away.refl [] wa).alloc _)
    have HRL : Hid (Row (wa.alloc (.cells ([165, 166].map (Value.int .u8)).toArray 5)) (some ⟨wa.heap.size, 0, none⟩) [165, 166]) := Row.lit wa _ HM1.out (by simp)
    obtain ⟨gl, hgl⟩ : ∃ gl, gl = wa.heap.size := ⟨_, rfl⟩
    obtain ⟨wb, hwb⟩ : ∃ wb, wb = wa.alloc (.cells ([165, 166].map (Value.int .u8)).toArray 5) := ⟨_, rfl⟩
    go_simp
    refine hK.out _ _ ⟨HB.out.on HG4.out.a, HB2.out.on HG4.out.a⟩ (fun hHeld => ?_)
    clear hK K
    try simp only [Act.put, List.setIfInBounds_toArray, List.set_cons_zero, List.set_cons_succ]
    rw [← hgl] at HRL ⊢
    rw [← hwb] at HG4 HRL
    simp only [List.map_cons, List.map_nil] at hwb
    rw [← hwb]
    clear hwb hgl HG3
    refine wpAnyH_ready (rs := [13]) (by kernel_rfl) (by simp) ?_
    refine AllReadyH.cons (by simp only [List.getElem?_toArray, List.getElem?_cons_succ, List.getElem?_cons_zero]; rfl) (fun K hK => ?_) AllReadyH.nil
    refine step_appW rfl (.tmp 24) (.tmp 25) rfl v3 p.o [165, 166] rfl (by exact HG4.out.o) ⟨gl, 0, none⟩ 2 2 rfl rfl (by exact HRL.out.src) (by omega) (fun v5 wy r1 r2 r3 => ?_)
    have HG5 := Lib.hid (HG4.out.app r1 r2 r3)
    clear r1 r2 r3 HG4 HRL
    obtain ⟨g5, cap5, rfl, hc5⟩ := HG5.out.o.some' (by simp)
    refine hK.out _ _ ⟨HB.out.on HG5.out.a, HB2.out.on HG5.out.a⟩ (fun hHeld => ?_)
    clear hK K
    try simp only [Act.put, List.setIfInBounds_toArray, List.set_cons_zero, List.set_cons_succ]
    have hln : (p.o ++ [165, 166]).length = p.o.length + 2 := by simp
    rw [hln] at HG5 ⊢
    clear hln hc5
    refine wpAnyH_ready (rs := [14]) (by kernel_rfl) (by simp) ?_
    refine AllReadyH.cons (by simp only [List.getElem?_toArray, List.getElem?_cons_succ, List.getElem?_cons_zero]; rfl) (fun K hK => ?_) AllReadyH.nil
    have HRV : Hid (Row wy (some ⟨g5, 0, none⟩) (p.o ++ [165, 166])) := HG5.out.o.row' (by simp; omega) HRO.out.2.1
    replace HRO := Lib.hid (HRO.out.on HG5.out.a)
    replace HB := Lib.hid (HB.out.on HG5.out.a)
    replace HB2 := Lib.hid (HB2.out.on HG5.out.a)
    replace HA := Lib.hid (HA.out.on HG5.out.a)
    replace HRD := Lib.hid (HRD.out.on HG5.out.a)
    clear HG5
    go_simp
    refine (same_yes (some ⟨go, 0, none⟩) (some ⟨g5, 0, none⟩) (p.o ++ [165, 166]) (p.o ++ [165, 166]) (p.o.length + 2) (p.o.length + 2) cao cap5 _ (by simp) (by simp) (by simp) (by simp) (by exact HRO.out) (by exact HRV.out) rfl).mono ?_
    rintro E w4 ⟨rfl, rfl⟩
    go_wp2_with fail
    refine hK.out _ _ ⟨HB.out, HB2.out⟩ (fun hHeld => ?_)
    clear hK K
    try simp only [Act.put, List.setIfInBounds_toArray, List.set_cons_zero, List.set_cons_succ]
    clear HRV
    refine wpAnyH_take (i := 15) (v := ?_) (by simp only [List.getElem?_toArray, List.getElem?_cons_succ, List.getElem?_cons_zero]; rfl) (by kernel_rfl) (by kernel_rfl) (by kernel_rfl) (by exact fun _ _ _ h => h) (Or.inl ⟨by rfl, ?_⟩) (by assumption) ?_
    rotate_left
    · intro wq hSw
      (try dsimp only at hSw)
      go_simp
      all_goals (with_reducible rfl)
    try simp only [Act.put, List.setIfInBounds_toArray, List.set_cons_zero, List.set_cons_succ]
    refine wpAnyH_take (i := 16) (v := ?_) (by simp only [List.getElem?_toArray, List.getElem?_cons_succ, List.getElem?_cons_zero]; rfl) (by kernel_rfl) (by kernel_rfl) (by kernel_rfl) (by exact fun _ _ _ h => h) (Or.inl ⟨by rfl, ?_⟩) (by assumption) ?_
    rotate_left
    · intro wq hSw
      (try dsimp only at hSw)
      go_simp
      all_goals (with_reducible rfl)
    try simp only [Act.put, List.setIfInBounds_toArray, List.set_cons_zero, List.set_cons_succ]
    refine wpAnyH_take (i := 17) (v := ?_) (by simp only [List.getElem?_toArray, List.getElem?_cons_succ, List.getElem?_cons_zero]; rfl) (by kernel_rfl) (by kernel_rfl) (by kernel_rfl) (by exact fun _ _ _ h => h) (Or.inl ⟨by rfl, ?_⟩) (by assumption) ?_
    rotate_left
    · intro wq hSw
      (try dsimp only at hSw)
      go_simp
      all_goals (with_reducible rfl)
    try simp only [Act.put, List.setIfInBounds_toArray, List.set_cons_zero, List.set_cons_succ]
    refine wpAnyH_take (i := 18) (by simp only [List.getElem?_toArray, List.getElem?_cons_succ, List.getElem?_cons_zero]; rfl) (by kernel_rfl) (by kernel_rfl) (by kernel_rfl) (by exact fun _ _ _ h => h) (yields_ld (ad := ⟨g1, 45, none⟩) (by rfl) _ rfl rfl (fun w' h => ld26 (h.1.cells HAD.out).d)) (by assumption) ?_
    try simp only [Act.put, List.setIfInBounds_toArray, List.set_cons_zero, List.set_cons_succ]
    refine wpAnyH_take (i := 19) (v := ?_) (by simp only [List.getElem?_toArray, List.getElem?_cons_succ, List.getElem?_cons_zero]; rfl) (by kernel_rfl) (by kernel_rfl) (by kernel_rfl) (by exact fun _ _ _ h => h) (Or.inl ⟨by rfl, ?_⟩) (by assumption) ?_
    rotate_left
    · intro wq hSw
      (try dsimp only at hSw)
      go_simp
      all_goals (with_reducible rfl)
    try simp only [Act.put, List.setIfInBounds_toArray, List.set_cons_zero, List.set_cons_succ]
    refine wpAnyH_take (i := 20) (v := ?_) (by simp only [List.getElem?_toArray, List.getElem?_cons_succ, List.getElem?_cons_zero]; rfl) (by kernel_rfl) (by kernel_rfl) (by kernel_rfl) (by exact fun _ _ _ h => h) (Or.inl ⟨by rfl, ?_⟩) (by assumption) ?_
    rotate_left
    · intro wq hSw
      (try dsimp only at hSw)
      go_simp
      all_goals (with_reducible rfl)
    try simp only [Act.put, List.setIfInBounds_toArray, List.set_cons_zero, List.set_cons_succ]
    refine wpAnyH_take (i := 21) (v := ?_) (by simp only [List.getElem?_toArray, List.getElem?_cons_succ, List.getElem?_cons_zero]; rfl) (by kernel_rfl) (by kernel_rfl) (by kernel_rfl) (by exact fun _ _ _ h => h) (Or.inl ⟨by rfl, ?_⟩) (by assumption) ?_
    rotate_left
    · intro wq hSw
      (try dsimp only at hSw)
      go_simp
      all_goals (with_reducible rfl)
    try simp only [Act.put, List.setIfInBounds_toArray, List.set_cons_zero, List.set_cons_succ]
    refine wpAnyH_take (i := 22) (v := ?_) (by simp only [List.getElem?_toArray, List.getElem?_cons_succ, List.getElem?_cons_zero]; rfl) (by kernel_rfl) (by kernel_rfl) (by kernel_rfl) (by exact fun _ _ _ h => h) (Or.inl ⟨by rfl, ?_⟩) (by assumption) ?_
    rotate_left
    · intro wq hSw
      (try dsimp only at hSw)
      go_simp
      all_goals (with_reducible rfl)
    try simp only [Act.put, List.setIfInBounds_toArray, List.set_cons_zero, List.set_cons_succ]
    refine wpAnyH_take (i := 23) (by simp only [List.getElem?_toArray, List.getElem?_cons_succ, List.getElem?_cons_zero]; rfl) (by kernel_rfl) (by kernel_rfl) (by kernel_rfl) (by exact fun _ _ _ h => h) (yields_ld (ad := ⟨g2, 45, none⟩) (by rfl) _ rfl rfl (fun w' h => ld26 (h.2.cells HAD.out).d)) (by assumption) ?_
    try simp only [Act.put, List.setIfInBounds_toArray, List.set_cons_zero, List.set_cons_succ]
    refine wpAnyH_ready (rs := [24, 25]) (by kernel_rfl) (by simp) ?_
    refine AllReadyH.cons (by simp only [List.getElem?_toArray, List.getElem?_cons_succ, List.getElem?_cons_zero]; rfl) (fun K hK => ?_) (AllReadyH.cons (by simp only [List.getElem?_toArray, List.getElem?_cons_succ, List.getElem?_cons_zero]; rfl) (fun K hK => ?_) AllReadyH.nil)
    · go_simp
      refine (own_any ad p.d _ capd _ rfl (by exact (HD.out.on HA.out).of.2.2.2)).mono ?_
      rintro E wa ⟨v3, rfl, ho3, hn3, haw3, hb3, hl3⟩
      have HG3 : Hid (Bag w4 wa v3 p.d) := ⟨ho3, hn3, haw3⟩
      clear ho3 hn3 haw3 hb3 hl3
      go_wp2_with fail
      refine hK.out _ _ ⟨HB.out.on HG3.out.a, HB2.out.on HG3.out.a⟩ (fun hHeld => ?_)
      clear hK K
      try simp only [Act.put, List.setIfInBounds_toArray, List.set_cons_zero, List.set_cons_succ]
      refine wpAnyH_ready (rs := [25]) (by kernel_rfl) (by simp) ?_
      refine AllReadyH.cons (by simp only [List.getElem?_toArray, List.getElem?_cons_succ, List.getElem?_cons_zero]; rfl) (fun K hK => ?_) AllReadyH.nil
      have HG4 : Hid (Bag w4 (wa.alloc (.cells ([167, 168].map (Value.int .u8)).toArray 5)) v3 p.d) := HG3.out.on ((Away.refl [] wa).alloc _)
      have HRL : Hid (Row (wa.alloc (.cells ([167, 168].map (Value.int .u8)).toArray 5)) (some ⟨wa.heap.size, 0, none⟩) [167, 168]) := Row.lit wa _ HM2.out (by simp)
      obtain ⟨gl, hgl⟩ : ∃ gl, gl = wa.heap.size := ⟨_, rfl⟩
      obtain ⟨wb, hwb⟩ : ∃ wb, wb = wa.alloc (.cells ([167, 168].map (Value.int .u8)).toArray 5) := ⟨_, rfl⟩
      go_simp
      refine hK.out _ _ ⟨HB.out.on HG4.out.a, HB2.out.on HG4.out.a⟩ (fun hHeld => ?_)
      clear hK K
      try simp only [Act.put, List.setIfInBounds_toArray, List.set_cons_zero, List.set_cons_succ]
      rw [← hgl] at HRL ⊢
      rw [← hwb] at HG4 HRL
      simp only [List.map_cons, List.map_nil] at hwb
      rw [← hwb]
      clear hwb hgl HG3
      refine wpAnyH_ready (rs := [26]) (by kernel_rfl) (by simp) ?_
      refine AllReadyH.cons (by simp only [List.getElem?_toArray, List.getElem?_cons_succ, List.getElem?_cons_zero]; rfl) (fun K hK => ?_) AllReadyH.nil
      refine step_appW rfl (.tmp 37) (.tmp 38) rfl v3 p.d [167, 168] rfl (by exact HG4.out.o) ⟨gl, 0, none⟩ 2 2 rfl rfl (by exact HRL.out.src) (by omega) (fun v5 wy r1 r2 r3 => ?_)
      have HG5 := Lib.hid (HG4.out.app r1 r2 r3)
      clear r1 r2 r3 HG4 HRL
      obtain ⟨g5, cap5, rfl, hc5⟩ := HG5.out.o.some' (by simp)
      refine hK.out _ _ ⟨HB.out.on HG5.out.a, HB2.out.on HG5.out.a⟩ (fun hHeld => ?_)
      clear hK K
      try simp only [Act.put, List.setIfInBounds_toArray, List.set_cons_zero, List.set_cons_succ]
      have hln : (p.d ++ [167, 168]).length = p.d.length + 2 := by simp
      rw [hln] at HG5 ⊢
      clear hln hc5
      refine wpAnyH_ready (rs := [27]) (by kernel_rfl) (by simp) ?_
      refine AllReadyH.cons (by simp only [List.getElem?_toArray, List.getElem?_cons_succ, List.getElem?_cons_zero]; rfl) (fun K hK => ?_) AllReadyH.nil
      have HRV : Hid (Row wy (some ⟨g5, 0, none⟩) (p.d ++ [167, 168])) := HG5.out.o.row' (by simp; omega) HRD.out.2.1
      replace HRD := Lib.hid (HRD.out.on HG5.out.a)
      replace HB := Lib.hid (HB.out.on HG5.out.a)
      replace HB2 := Lib.hid (HB2.out.on HG5.out.a)
      replace HA := Lib.hid (HA.out.on HG5.out.a)

      clear HG5
      go_simp
      refine (same_yes (some ⟨gd, 0, none⟩) (some ⟨g5, 0, none⟩) (p.d ++ [167, 168]) (p.d ++ [167, 168]) (p.d.length + 2) (p.d.length + 2) cad cap5 _ (by simp) (by simp) (by simp) (by simp) (by exact HRD.out) (by exact HRV.out) rfl).mono ?_
      rintro E w5 ⟨rfl, rfl⟩
      go_wp2_with fail
      refine hK.out _ _ ⟨HB.out, HB2.out⟩ (fun hHeld => ?_)
      clear hK K
      try simp only [Act.put, List.setIfInBounds_toArray, List.set_cons_zero, List.set_cons_succ]
      clear HRV
      refine wpAnyH_take (i := 28) (v := ?_) (by simp only [List.getElem?_toArray, List.getElem?_cons_succ, List.getElem?_cons_zero]; rfl) (by kernel_rfl) (by kernel_rfl) (by kernel_rfl) (by exact fun _ _ _ h => h) (Or.inl ⟨by rfl, ?_⟩) (by assumption) ?_
      rotate_left
      · intro wq hSw
        (try dsimp only at hSw)
        go_simp
        all_goals (with_reducible rfl)
      try simp only [Act.put, List.setIfInBounds_toArray, List.set_cons_zero, List.set_cons_succ]
      refine wpAnyH_take (i := 29) (v := ?_) (by simp only [List.getElem?_toArray, List.getElem?_cons_succ, List.getElem?_cons_zero]; rfl) (by kernel_rfl) (by kernel_rfl) (by kernel_rfl) (by exact fun _ _ _ h => h) (Or.inl ⟨by rfl, ?_⟩) (by assumption) ?_
      rotate_left
      · intro wq hSw
        (try dsimp only at hSw)
        go_simp
        all_goals (with_reducible rfl)
      try simp only [Act.put, List.setIfInBounds_toArray, List.set_cons_zero, List.set_cons_succ]
      refine wpAnyH_done (by kernel_rfl) ?_ _
      go_wp2_with fail
      go_ret
      exact ⟨rfl, HA.out⟩
    · have HG2 : Hid (Away [] w4 (w4.alloc (.cells ([167, 168].map (Value.int .u8)).toArray 5))) := (Away.refl [] w4).alloc _
      have HRL0 : Hid (Row (w4.alloc (.cells ([167, 168].map (Value.int .u8)).toArray 5)) (some ⟨w4.heap.size, 0, none⟩) [167, 168]) := Row.lit w4 _ HM2.out (by simp)
      obtain ⟨gl, hgl⟩ : ∃ gl, gl = w4.heap.size := ⟨_, rfl⟩
      obtain ⟨wa, hwa⟩ : ∃ wa, wa = w4.alloc (.cells ([167, 168].map (Value.int .u8)).toArray 5) := ⟨_, rfl⟩
      go_simp
      refine hK.out _ _ ⟨HB.out.on HG2.out, HB2.out.on HG2.out⟩ (fun hHeld => ?_)
      clear hK K
      try simp only [Act.put, List.setIfInBounds_toArray, List.set_cons_zero, List.set_cons_succ]
      rw [← hgl] at HRL0
      rw [← hwa] at HG2 HRL0
      simp only [List.map_cons, List.map_nil] at hwa
      rw [← hwa]
      rw [← hgl]
      clear hwa hgl
      refine wpAnyH_ready (rs := [24]) (by kernel_rfl) (by simp) ?_
      refine AllReadyH.cons (by simp only [List.getElem?_toArray, List.getElem?_cons_succ, List.getElem?_cons_zero]; rfl) (fun K hK => ?_) AllReadyH.nil
      go_simp
      refine (own_any ad p.d _ capd _ rfl (by exact ((HD.out.on HA.out).on HG2.out).of.2.2.2)).mono ?_
      rintro E wb ⟨v3, rfl, ho3, hn3, haw3, hb3, hl3⟩
      have HG4 : Hid (Bag w4 wb v3 p.d) := ⟨ho3, hn3.mono HG2.out.size, HG2.out.on haw3⟩
      have HRL := Lib.hid (HRL0.out.on haw3)
      clear ho3 hn3 haw3 hb3 hl3 HRL0 HG2
      go_wp2_with fail
      refine hK.out _ _ ⟨HB.out.on HG4.out.a, HB2.out.on HG4.out.a⟩ (fun hHeld => ?_)
      clear hK K
      try simp only [Act.put, List.setIfInBounds_toArray, List.set_cons_zero, List.set_cons_succ]
      refine wpAnyH_ready (rs := [26]) (by kernel_rfl) (by simp) ?_
      refine AllReadyH.cons (by simp only [List.getElem?_toArray, List.getElem?_cons_succ, List.getElem?_cons_zero]; rfl) (fun K hK => ?_) AllReadyH.nil
      refine step_appW rfl (.tmp 37) (.tmp 38) rfl v3 p.d [167, 168] rfl (by exact HG4.out.o) ⟨gl, 0, none⟩ 2 2 rfl rfl (by exact HRL.out.src) (by omega) (fun v5 wy r1 r2 r3 => ?_)
      have HG5 := Lib.hid (HG4.out.app r1 r2 r3)
      clear r1 r2 r3 HG4 HRL
      obtain ⟨g5, cap5, rfl, hc5⟩ := HG5.out.o.some' (by simp)
      refine hK.out _ _ ⟨HB.out.on HG5.out.a, HB2.out.on HG5.out.a⟩ (fun hHeld => ?_)
      clear hK K
      try simp only [Act.put, List.setIfInBounds_toArray, List.set_cons_zero, List.set_cons_succ]
      have hln : (p.d ++ [167, 168]).length = p.d.length + 2 := by simp
      rw [hln] at HG5 ⊢
      clear hln hc5
      refine wpAnyH_ready (rs := [27]) (by kernel_rfl) (by simp) ?_
      refine AllReadyH.cons (by simp only [List.getElem?_toArray, List.getElem?_cons_succ, List.getElem?_cons_zero]; rfl) (fun K hK => ?_) AllReadyH.nil
      have HRV : Hid (Row wy (some ⟨g5, 0, none⟩) (p.d ++ [167, 168])) := HG5.out.o.row' (by simp; omega) HRD.out.2.1
      replace HRD := Lib.hid (HRD.out.on HG5.out.a)
      replace HB := Lib.hid (HB.out.on HG5.out.a)
      replace HB2 := Lib.hid (HB2.out.on HG5.out.a)
      replace HA := Lib.hid (HA.out.on HG5.out.a)

      clear HG5
      go_simp
      refine (same_yes (some ⟨gd, 0, none⟩) (some ⟨g5, 0, none⟩) (p.d ++ [167, 168]) (p.d ++ [167, 168]) (p.d.length + 2) (p.d.length + 2) cad cap5 _ (by simp) (by simp) (by simp) (by simp) (by exact HRD.out) (by exact HRV.out) rfl).mono ?_
      rintro E w5 ⟨rfl, rfl⟩
      go_wp2_with fail
      refine hK.out _ _ ⟨HB.out, HB2.out⟩ (fun hHeld => ?_)
      clear hK K
      try simp only [Act.put, List.setIfInBounds_toArray, List.set_cons_zero, List.set_cons_succ]
      clear HRV
      refine wpAnyH_take (i := 28) (v := ?_) (by simp only [List.getElem?_toArray, List.getElem?_cons_succ, List.getElem?_cons_zero]; rfl) (by kernel_rfl) (by kernel_rfl) (by kernel_rfl) (by exact fun _ _ _ h => h) (Or.inl ⟨by rfl, ?_⟩) (by assumption) ?_
      rotate_left
      · intro wq hSw
        (try dsimp only at hSw)
        go_simp
        all_goals (with_reducible rfl)
      try simp only [Act.put, List.setIfInBounds_toArray, List.set_cons_zero, List.set_cons_succ]
      refine wpAnyH_take (i := 29) (v := ?_) (by simp only [List.getElem?_toArray, List.getElem?_cons_succ, List.getElem?_cons_zero]; rfl) (by kernel_rfl) (by kernel_rfl) (by kernel_rfl) (by exact fun _ _ _ h => h) (Or.inl ⟨by rfl, ?_⟩) (by assumption) ?_
      rotate_left
      · intro wq hSw
        (try dsimp only at hSw)
        go_simp
        all_goals (with_reducible rfl)
      try simp only [Act.put, List.setIfInBounds_toArray, List.set_cons_zero, List.set_cons_succ]
      refine wpAnyH_done (by kernel_rfl) ?_ _
      go_wp2_with fail
      go_ret
      exact ⟨rfl, HA.out⟩
  · have HG2 : Hid (Away [] w3 (w3.alloc (.cells ([165, 166].map (Value.int .u8)).toArray 5))) := (Away.refl [] w3).alloc _
    have HRL0 : Hid (Row (w3.alloc (.cells ([165, 166].map (Value.int .u8)).toArray 5)) (some ⟨w3.heap.size, 0, none⟩) [165, 166]) := Row.lit w3 _ HM1.out (by simp)
    obtain ⟨gl, hgl⟩ : ∃ gl, gl = w3.heap.size := ⟨_, rfl⟩
    obtain ⟨wa, hwa⟩ : ∃ wa, wa = w3.alloc (.cells ([165, 166].map (Value.int .u8)).toArray 5) := ⟨_, rfl⟩
    go_simp
    refine hK.out _ _ ⟨HB.out.on HG2.out, HB2.out.on HG2.out⟩ (fun hHeld => ?_)
    clear hK K
    try simp only [Act.put, List.setIfInBounds_toArray, List.set_cons_zero, List.set_cons_succ]
    rw [← hgl] at HRL0
    rw [← hwa] at HG2 HRL0
    simp only [List.map_cons, List.map_nil] at hwa
    rw [← hwa]
    rw [← hgl]
    clear hwa hgl
    refine wpAnyH_ready (rs := [11]) (by kernel_rfl) (by simp) ?_
    refine AllReadyH.cons (by simp only [List.getElem?_toArray, List.getElem?_cons_succ, List.getElem?_cons_zero]; rfl) (fun K hK => ?_) AllReadyH.nil
    go_simp
    refine (own_any ao p.o _ capo _ rfl (by exact ((HO.out.on HA.out).on HG2.out).of.2.2.2)).mono ?_
    rintro E wb ⟨v3, rfl, ho3, hn3, haw3, hb3, hl3⟩
    have HG4 : Hid (Bag w3 wb v3 p.o) := ⟨ho3, hn3.mono HG2.out.size, HG2.out.on haw3⟩
    have HRL := Lib.hid (HRL0.out.on haw3)
    clear ho3 hn3 haw3 hb3 hl3 HRL0 HG2
    go_wp2_with fail
    refine hK.out _ _ ⟨HB.out.on HG4.out.a, HB2.out.on HG4.out.a⟩ (fun hHeld => ?_)
    clear hK K
    try simp only [Act.put, List.setIfInBounds_toArray, List.set_cons_zero, List.set_cons_succ]
    refine wpAnyH_ready (rs := [13]) (by kernel_rfl) (by simp) ?_
    refine AllReadyH.cons (by simp only [List.getElem?_toArray, List.getElem?_cons_succ, List.getElem?_cons_zero]; rfl) (fun K hK => ?_) AllReadyH.nil
    refine step_appW rfl (.tmp 24) (.tmp 25) rfl v3 p.o [165, 166] rfl (by exact HG4.out.o) ⟨gl, 0, none⟩ 2 2 rfl rfl (by exact HRL.out.src) (by omega) (fun v5 wy r1 r2 r3 => ?_)
    have HG5 := Lib.hid (HG4.out.app r1 r2 r3)
    clear r1 r2 r3 HG4 HRL
    obtain ⟨g5, cap5, rfl, hc5⟩ := HG5.out.o.some' (by simp)
    refine hK.out _ _ ⟨HB.out.on HG5.out.a, HB2.out.on HG5.out.a⟩ (fun hHeld => ?_)
    clear hK K
    try simp only [Act.put, List.setIfInBounds_toArray, List.set_cons_zero, List.set_cons_succ]
    have hln : (p.o ++ [165, 166]).length = p.o.length + 2 := by simp
    rw [hln] at HG5 ⊢
    clear hln hc5
    refine wpAnyH_ready (rs := [14]) (by kernel_rfl) (by simp) ?_
    refine AllReadyH.cons (by simp only [List.getElem?_toArray, List.getElem?_cons_succ, List.getElem?_cons_zero]; rfl) (fun K hK => ?_) AllReadyH.nil
    have HRV : Hid (Row wy (some ⟨g5, 0, none⟩) (p.o ++ [165, 166])) := HG5.out.o.row' (by simp; omega) HRO.out.2.1
    replace HRO := Lib.hid (HRO.out.on HG5.out.a)
    replace HB := Lib.hid (HB.out.on HG5.out.a)
    replace HB2 := Lib.hid (HB2.out.on HG5.out.a)
    replace HA := Lib.hid (HA.out.on HG5.out.a)
    replace HRD := Lib.hid (HRD.out.on HG5.out.a)
    clear HG5
    go_simp
    refine (same_yes (some ⟨go, 0, none⟩) (some ⟨g5, 0, none⟩) (p.o ++ [165, 166]) (p.o ++ [165, 166]) (p.o.length + 2) (p.o.length + 2) cao cap5 _ (by simp) (by simp) (by simp) (by simp) (by exact HRO.out) (by exact HRV.out) rfl).mono ?_
    rintro E w4 ⟨rfl, rfl⟩
    go_wp2_with fail
    refine hK.out _ _ ⟨HB.out, HB2.out⟩ (fun hHeld => ?_)
    clear hK K
    try simp only [Act.put, List.setIfInBounds_toArray, List.set_cons_zero, List.set_cons_succ]
    clear HRV
    refine wpAnyH_take (i := 15) (v := ?_) (by simp only [List.getElem?_toArray, List.getElem?_cons_succ, List.getElem?_cons_zero]; rfl) (by kernel_rfl) (by kernel_rfl) (by kernel_rfl) (by exact fun _ _ _ h => h) (Or.inl ⟨by rfl, ?_⟩) (by assumption) ?_
    rotate_left
    · intro wq hSw
      (try dsimp only at hSw)
      go_simp
      all_goals (with_reducible rfl)
    try simp only [Act.put, List.setIfInBounds_toArray, List.set_cons_zero, List.set_cons_succ]
    refine wpAnyH_take (i := 16) (v := ?_) (by simp only [List.getElem?_toArray, List.getElem?_cons_succ, List.getElem?_cons_zero]; rfl) (by kernel_rfl) (by kernel_rfl) (by kernel_rfl) (by exact fun _ _ _ h => h) (Or.inl ⟨by rfl, ?_⟩) (by assumption) ?_
    rotate_left
    · intro wq hSw
      (try dsimp only at hSw)
      go_simp
      all_goals (with_reducible rfl)
    try simp only [Act.put, List.setIfInBounds_toArray, List.set_cons_zero, List.set_cons_succ]
    refine wpAnyH_take (i := 17) (v := ?_) (by simp only [List.getElem?_toArray, List.getElem?_cons_succ, List.getElem?_cons_zero]; rfl) (by kernel_rfl) (by kernel_rfl) (by kernel_rfl) (by exact fun _ _ _ h => h) (Or.inl ⟨by rfl, ?_⟩) (by assumption) ?_
    rotate_left
    · intro wq hSw
      (try dsimp only at hSw)
      go_simp
      all_goals (with_reducible rfl)
    try simp only [Act.put, List.setIfInBounds_toArray, List.set_cons_zero, List.set_cons_succ]
    refine wpAnyH_take (i := 18) (by simp only [List.getElem?_toArray, List.getElem?_cons_succ, List.getElem?_cons_zero]; rfl) (by kernel_rfl) (by kernel_rfl) (by kernel_rfl) (by exact fun _ _ _ h => h) (yields_ld (ad := ⟨g1, 45, none⟩) (by rfl) _ rfl rfl (fun w' h => ld26 (h.1.cells HAD.out).d)) (by assumption) ?_
    try simp only [Act.put, List.setIfInBounds_toArray, List.set_cons_zero, List.set_cons_succ]
    refine wpAnyH_take (i := 19) (v := ?_) (by simp only [List.getElem?_toArray, List.getElem?_cons_succ, List.getElem?_cons_zero]; rfl) (by kernel_rfl) (by kernel_rfl) (by kernel_rfl) (by exact fun _ _ _ h => h) (Or.inl ⟨by rfl, ?_⟩) (by assumption) ?_
    rotate_left
    · intro wq hSw
      (try dsimp only at hSw)
      go_simp
      all_goals (with_reducible rfl)
    try simp only [Act.put, List.setIfInBounds_toArray, List.set_cons_zero, List.set_cons_succ]
    refine wpAnyH_take (i := 20) (v := ?_) (by simp only [List.getElem?_toArray, List.getElem?_cons_succ, List.getElem?_cons_zero]; rfl) (by kernel_rfl) (by kernel_rfl) (by kernel_rfl) (by exact fun _ _ _ h => h) (Or.inl ⟨by rfl, ?_⟩) (by assumption) ?_
    rotate_left
    · intro wq hSw
      (try dsimp only at hSw)
      go_simp
      all_goals (with_reducible rfl)
    try simp only [Act.put, List.setIfInBounds_toArray, List.set_cons_zero, List.set_cons_succ]
    refine wpAnyH_take (i := 21) (v := ?_) (by simp only [List.getElem?_toArray, List.getElem?_cons_succ, List.getElem?_cons_zero]; rfl) (by kernel_rfl) (by kernel_rfl) (by kernel_rfl) (by exact fun _ _ _ h => h) (Or.inl ⟨by rfl, ?_⟩) (by assumption) ?_
    rotate_left
    · intro wq hSw
      (try dsimp only at hSw)
      go_simp
      all_goals (with_reducible rfl)
    try simp only [Act.put, List.setIfInBounds_toArray, List.set_cons_zero, List.set_cons_succ]
    refine wpAnyH_take (i := 22) (v := ?_) (by simp only [List.getElem?_toArray, List.getElem?_cons_succ, List.getElem?_cons_zero]; rfl) (by kernel_rfl) (by kernel_rfl) (by kernel_rfl) (by exact fun _ _ _ h => h) (Or.inl ⟨by rfl, ?_⟩) (by assumption) ?_
    rotate_left
    · intro wq hSw
      (try dsimp only at hSw)
      go_simp
      all_goals (with_reducible rfl)
    try simp only [Act.put, List.setIfInBounds_toArray, List.set_cons_zero, List.set_cons_succ]
    refine wpAnyH_take (i := 23) (by simp only [List.getElem?_toArray, List.getElem?_cons_succ, List.getElem?_cons_zero]; rfl) (by kernel_rfl) (by kernel_rfl) (by kernel_rfl) (by exact fun _ _ _ h => h) (yields_ld (ad := ⟨g2, 45, none⟩) (by rfl) _ rfl rfl (fun w' h => ld26 (h.2.cells HAD.out).d)) (by assumption) ?_
    try simp only [Act.put, List.setIfInBounds_toArray, List.set_cons_zero, List.set_cons_succ]
    refine wpAnyH_ready (rs := [24, 25]) (by kernel_rfl) (by simp) ?_
    refine AllReadyH.cons (by simp only [List.getElem?_toArray, List.getElem?_cons_succ, List.getElem?_cons_zero]; rfl) (fun K hK => ?_) (AllReadyH.cons (by simp only [List.getElem?_toArray, List.getElem?_cons_succ, List.getElem?_cons_zero]; rfl) (fun K hK => ?_) AllReadyH.nil)
    · go_simp
      refine (own_any ad p.d _ capd _ rfl (by exact (HD.out.on HA.out).of.2.2.2)).mono ?_
      rintro E wa ⟨v3, rfl, ho3, hn3, haw3, hb3, hl3⟩
      have HG3 : Hid (Bag w4 wa v3 p.d) := ⟨ho3, hn3, haw3⟩
      clear ho3 hn3 haw3 hb3 hl3
      go_wp2_with fail
      refine hK.out _ _ ⟨HB.out.on HG3.out.a, HB2.out.on HG3.out.a⟩ (fun hHeld => ?_)
      clear hK K
      try simp only [Act.put, List.setIfInBounds_toArray, List.set_cons_zero, List.set_cons_succ]
      refine wpAnyH_ready (rs := [25]) (by kernel_rfl) (by simp) ?_
      refine AllReadyH.cons (by simp only [List.getElem?_toArray, List.getElem?_cons_succ, List.getElem?_cons_zero]; rfl) (fun K hK => ?_) AllReadyH.nil
      have HG4 : Hid (Bag w4 (wa.alloc (.cells ([167, 168].map (Value.int .u8)).toArray 5)) v3 p.d) := HG3.out.on ((Away.refl [] wa).alloc _)
      have HRL : Hid (Row (wa.alloc (.cells ([167, 168].map (Value.int .u8)).toArray 5)) (some ⟨wa.heap.size, 0, none⟩) [167, 168]) := Row.lit wa _ HM2.out (by simp)
      obtain ⟨gl, hgl⟩ : ∃ gl, gl = wa.heap.size := ⟨_, rfl⟩
      obtain ⟨wb, hwb⟩ : ∃ wb, wb = wa.alloc (.cells ([167, 168].map (Value.int .u8)).toArray 5) := ⟨_, rfl⟩
      go_simp
      refine hK.out _ _ ⟨HB.out.on HG4.out.a, HB2.out.on HG4.out.a⟩ (fun hHeld => ?_)
      clear hK K
      try simp only [Act.put, List.setIfInBounds_toArray, List.set_cons_zero, List.set_cons_succ]
      rw [← hgl] at HRL ⊢
      rw [← hwb] at HG4 HRL
      simp only [List.map_cons, List.map_nil] at hwb
      rw [← hwb]
      clear hwb hgl HG3
      refine wpAnyH_ready (rs := [26]) (by kernel_rfl) (by simp) ?_
      refine AllReadyH.cons (by simp only [List.getElem?_toArray, List.getElem?_cons_succ, List.getElem?_cons_zero]; rfl) (fun K hK => ?_) AllReadyH.nil
      refine step_appW rfl (.tmp 37) (.tmp 38) rfl v3 p.d [167, 168] rfl (by exact HG4.out.o) ⟨gl, 0, none⟩ 2 2 rfl rfl (by exact HRL.out.src) (by omega) (fun v5 wy r1 r2 r3 => ?_)
      have HG5 := Lib.hid (HG4.out.app r1 r2 r3)
      clear r1 r2 r3 HG4 HRL
      obtain ⟨g5, cap5, rfl, hc5⟩ := HG5.out.o.some' (by simp)
      refine hK.out _ _ ⟨HB.out.on HG5.out.a, HB2.out.on HG5.out.a⟩ (fun hHeld => ?_)
      clear hK K
      try simp only [Act.put, List.setIfInBounds_toArray, List.set_cons_zero, List.set_cons_succ]
      have hln : (p.d ++ [167, 168]).length = p.d.length + 2 := by simp
      rw [hln] at HG5 ⊢
      clear hln hc5
      refine wpAnyH_ready (rs := [27]) (by kernel_rfl) (by simp) ?_
      refine AllReadyH.cons (by simp only [List.getElem?_toArray, List.getElem?_cons_succ, List.getElem?_cons_zero]; rfl) (fun K hK => ?_) AllReadyH.nil
      have HRV : Hid (Row wy (some ⟨g5, 0, none⟩) (p.d ++ [167, 168])) := HG5.out.o.row' (by simp; omega) HRD.out.2.1
      replace HRD := Lib.hid (HRD.out.on HG5.out.a)
      replace HB := Lib.hid (HB.out.on HG5.out.a)
      replace HB2 := Lib.hid (HB2.out.on HG5.out.a)
      replace HA := Lib.hid (HA.out.on HG5.out.a)

      clear HG5
      go_simp
      refine (same_yes (some ⟨gd, 0, none⟩) (some ⟨g5, 0, none⟩) (p.d ++ [167, 168]) (p.d ++ [167, 168]) (p.d.length + 2) (p.d.length + 2) cad cap5 _ (by simp) (by simp) (by simp) (by simp) (by exact HRD.out) (by exact HRV.out) rfl).mono ?_
      rintro E w5 ⟨rfl, rfl⟩
      go_wp2_with fail
      refine hK.out _ _ ⟨HB.out, HB2.out⟩ (fun hHeld => ?_)
      clear hK K
      try simp only [Act.put, List.setIfInBounds_toArray, List.set_cons_zero, List.set_cons_succ]
      clear HRV
      refine wpAnyH_take (i := 28) (v := ?_) (by simp only [List.getElem?_toArray, List.getElem?_cons_succ, List.getElem?_cons_zero]; rfl) (by kernel_rfl) (by kernel_rfl) (by kernel_rfl) (by exact fun _ _ _ h => h) (Or.inl ⟨by rfl, ?_⟩) (by assumption) ?_
      rotate_left
      · intro wq hSw
        (try dsimp only at hSw)
        go_simp
        all_goals (with_reducible rfl)
      try simp only [Act.put, List.setIfInBounds_toArray, List.set_cons_zero, List.set_cons_succ]
      refine wpAnyH_take (i := 29) (v := ?_) (by simp only [List.getElem?_toArray, List.getElem?_cons_succ, List.getElem?_cons_zero]; rfl) (by kernel_rfl) (by kernel_rfl) (by kernel_rfl) (by exact fun _ _ _ h => h) (Or.inl ⟨by rfl, ?_⟩) (by assumption) ?_
      rotate_left
      · intro wq hSw
        (try dsimp only at hSw)
        go_simp
        all_goals (with_reducible rfl)
      try simp only [Act.put, List.setIfInBounds_toArray, List.set_cons_zero, List.set_cons_succ]
      refine wpAnyH_done (by kernel_rfl) ?_ _
      go_wp2_with fail
      go_ret
      exact ⟨rfl, HA.out⟩
    · have HG2 : Hid (Away [] w4 (w4.alloc (.cells ([167, 168].map (Value.int .u8)).toArray 5))) := (Away.refl [] w4).alloc _
      have HRL0 : Hid (Row (w4.alloc (.cells ([167, 168].map (Value.int .u8)).toArray 5)) (some ⟨w4.heap.size, 0, none⟩) [167, 168]) := Row.lit w4 _ HM2.out (by simp)
      obtain ⟨gl, hgl⟩ : ∃ gl, gl = w4.heap.size := ⟨_, rfl⟩
      obtain ⟨wa, hwa⟩ : ∃ wa, wa = w4.alloc (.cells ([167, 168].map (Value.int .u8)).toArray 5) := ⟨_, rfl⟩
      go_simp
      refine hK.out _ _ ⟨HB.out.on HG2.out, HB2.out.on HG2.out⟩ (fun hHeld => ?_)
      clear hK K
      try simp only [Act.put, List.setIfInBounds_toArray, List.set_cons_zero, List.set_cons_succ]
      rw [← hgl] at HRL0
      rw [← hwa] at HG2 HRL0
      simp only [List.map_cons, List.map_nil] at hwa
      rw [← hwa]
      rw [← hgl]
      clear hwa hgl
      refine wpAnyH_ready (rs := [24]) (by kernel_rfl) (by simp) ?_
      refine AllReadyH.cons (by simp only [List.getElem?_toArray, List.getElem?_cons_succ, List.getElem?_cons_zero]; rfl) (fun K hK => ?_) AllReadyH.nil
      go_simp
      refine (own_any ad p.d _ capd _ rfl (by exact ((HD.out.on HA.out).on HG2.out).of.2.2.2)).mono ?_
      rintro E wb ⟨v3, rfl, ho3, hn3, haw3, hb3, hl3⟩
      have HG4 : Hid (Bag w4 wb v3 p.d) := ⟨ho3, hn3.mono HG2.out.size, HG2.out.on haw3⟩
      have HRL := Lib.hid (HRL0.out.on haw3)
      clear ho3 hn3 haw3 hb3 hl3 HRL0 HG2
      go_wp2_with fail
      refine hK.out _ _ ⟨HB.out.on HG4.out.a, HB2.out.on HG4.out.a⟩ (fun hHeld => ?_)
      clear hK K
      try simp only [Act.put, List.setIfInBounds_toArray, List.set_cons_zero, List.set_cons_succ]
      refine wpAnyH_ready (rs := [26]) (by kernel_rfl) (by simp) ?_
      refine AllReadyH.cons (by simp only [List.getElem?_toArray, List.getElem?_cons_succ, List.getElem?_cons_zero]; rfl) (fun K hK => ?_) AllReadyH.nil
      refine step_appW rfl (.tmp 37) (.tmp 38) rfl v3 p.d [167, 168] rfl (by exact HG4.out.o) ⟨gl, 0, none⟩ 2 2 rfl rfl (by exact HRL.out.src) (by omega) (fun v5 wy r1 r2 r3 => ?_)
      have HG5 := Lib.hid (HG4.out.app r1 r2 r3)
      clear r1 r2 r3 HG4 HRL
      obtain ⟨g5, cap5, rfl, hc5⟩ := HG5.out.o.some' (by simp)
      refine hK.out _ _ ⟨HB.out.on HG5.out.a, HB2.out.on HG5.out.a⟩ (fun hHeld => ?_)
      clear hK K
      try simp only [Act.put, List.setIfInBounds_toArray, List.set_cons_zero, List.set_cons_succ]
      have hln : (p.d ++ [167, 168]).length = p.d.length + 2 := by simp
      rw [hln] at HG5 ⊢
      clear hln hc5
      refine wpAnyH_ready (rs := [27]) (by kernel_rfl) (by simp) ?_
      refine AllReadyH.cons (by simp only [List.getElem?_toArray, List.getElem?_cons_succ, List.getElem?_cons_zero]; rfl) (fun K hK => ?_) AllReadyH.nil
      have HRV : Hid (Row wy (some ⟨g5, 0, none⟩) (p.d ++ [167, 168])) := HG5.out.o.row' (by simp; omega) HRD.out.2.1
      replace HRD := Lib.hid (HRD.out.on HG5.out.a)
      replace HB := Lib.hid (HB.out.on HG5.out.a)
      replace HB2 := Lib.hid (HB2.out.on HG5.out.a)
      replace HA := Lib.hid (HA.out.on HG5.out.a)

      clear HG5
      go_simp
      refine (same_yes (some ⟨gd, 0, none⟩) (some ⟨g5, 0, none⟩) (p.d ++ [167, 168]) (p.d ++ [167, 168]) (p.d.length + 2) (p.d.length + 2) cad cap5 _ (by simp) (by simp) (by simp) (by simp) (by exact HRD.out) (by exact HRV.out) rfl).mono ?_
      rintro E w5 ⟨rfl, rfl⟩
      go_wp2_with fail
      refine hK.out _ _ ⟨HB.out, HB2.out⟩ (fun hHeld => ?_)
      clear hK K
      try simp only [Act.put, List.setIfInBounds_toArray, List.set_cons_zero, List.set_cons_succ]
      clear HRV
      refine wpAnyH_take (i := 28) (v := ?_) (by simp only [List.getElem?_toArray, List.getElem?_cons_succ, List.getElem?_cons_zero]; rfl) (by kernel_rfl) (by kernel_rfl) (by kernel_rfl) (by exact fun _ _ _ h => h) (Or.inl ⟨by rfl, ?_⟩) (by assumption) ?_
      rotate_left
      · intro wq hSw
        (try dsimp only at hSw)
        go_simp
        all_goals (with_reducible rfl)
      try simp only [Act.put, List.setIfInBounds_toArray, List.set_cons_zero, List.set_cons_succ]
      refine wpAnyH_take (i := 29) (v := ?_) (by simp only [List.getElem?_toArray, List.getElem?_cons_succ, List.getElem?_cons_zero]; rfl) (by kernel_rfl) (by kernel_rfl) (by kernel_rfl) (by exact fun _ _ _ h => h) (Or.inl ⟨by rfl, ?_⟩) (by assumption) ?_
      rotate_left
      · intro wq hSw
        (try dsimp only at hSw)
        go_simp
        all_goals (with_reducible rfl)
      try simp only [Act.put, List.setIfInBounds_toArray, List.set_cons_zero, List.set_cons_succ]
      refine wpAnyH_done (by kernel_rfl) ?_ _
      go_wp2_with fail
      go_ret
      exact ⟨rfl, HA.out⟩
#print axioms kept_c
end Go.Proofs.YtbnnfbfmomafnaaDoor.U5

namespace Go.Proofs.YtbnnfbfmomafnaaDoor
open Go.ChangeShapes Go.WideShapes Go.ChangeAt Go.RowKit Num
open S6 (wp_region_cls quiet_val quiet_call quiet_ld)
set_option linter.unusedVariables false
set_option linter.unusedSimpArgs false
set_option maxHeartbeats 8000000
set_option maxRecDepth 100000

theorem lent_off {B : Nat} {w w' : World} {v : Value} {l m : List Int} {S : List Nat} (h : U5.Lent B w v l m) (hw : Away S w w') (hS : ∀ k, v.ownBlock = some k → k ∉ S) : U5.Lent B w' v l m := by
  obtain ⟨g, cap, rfl, h1, h2, h3⟩ := h
  exact ⟨g, cap, rfl, h1, h2.away hw (fun k hk => hS k (by simpa [Value.ownBlock] using hk)), h3⟩
theorem lent_lt {B : Nat} {w : World} {v : Value} {l m : List Int} (h : U5.Lent B w v l m) : ∀ k, v.ownBlock = some k → k < w.heap.size ∧ B ≤ k := fun k hk => by
  obtain ⟨g, cap, rfl, h1, h2, h3⟩ := h
  simp [Value.ownBlock] at hk
  subst hk
  exact ⟨h2.lt g (by simp [Value.ownBlock]), h3⟩
theorem lent_pkt {B : Nat} {w : World} {p : Pk} {ou du : Value} (hw : Wf p) (ho : p.o.length ≤ 140737488355326) (hd : p.d.length ≤ 140737488355326) (h1 : U5.Lent B w ou p.o [165, 166]) (h2 : U5.Lent B w du p.d [167, 168]) : Pkt w p ou du := by
  refine ⟨hw, ?_, ?_⟩
  · obtain ⟨_, _, _, _, _, h⟩ := h1.parts hw.o (U5.bytes2 (by omega) (by omega)) (by simp; omega); exact h
  · obtain ⟨_, _, _, _, _, h⟩ := h2.parts hw.d (U5.bytes2 (by omega) (by omega)) (by simp; omega); exact h
/-- Packets lent, in a list of their own. -/
structure LL (w : World) (B : Nat) (v : Value) (ps : List Pk) (ys : List X) : Prop where
  lst : LstP w v ys
  new : New B v
  ps : ys.map X.p = ps
  each : ∀ y ∈ ys, U5.Lent B w y.o y.p.o [165, 166] ∧ U5.Lent B w y.d y.p.d [167, 168]
  far : ∀ y ∈ ys, ∀ k, y.o.ownBlock = some k ∨ y.d.ownBlock = some k → v.ownBlock ≠ some k
theorem LL.on {w w' : World} {B : Nat} {v : Value} {ps : List Pk} {ys : List X} (h : LL w B v ps ys) (hw : Away [] w w') : LL w' B v ps ys :=
  ⟨h.lst.on hw, h.new, h.ps, fun y hy => ⟨lent_off (h.each y hy).1 hw (by simp), lent_off (h.each y hy).2 hw (by simp)⟩, h.far⟩
theorem LL.keep {w w' : World} {B : Nat} {v v' : Value} {ps : List Pk} {ys : List X} (h : LL w B v ps ys) (hgr : w.grownBy w' v.ownBlock) (hmv : Moved w v v') : ∀ y ∈ ys, (U5.Lent B w' y.o y.p.o [165, 166] ∧ U5.Lent B w' y.d y.p.d [167, 168]) ∧ ∀ k, y.o.ownBlock = some k ∨ y.d.ownBlock = some k → v'.ownBlock ≠ some k := fun y hy => by
  have haw : Away v.ownBlock.toList w w' := (Away.refl _ w).grown hgr (fun k hk => .inl (by simp [hk]))
  have hf := h.far y hy
  refine ⟨⟨lent_off (h.each y hy).1 haw (fun k hk hc => hf k (.inl hk) (by simpa using hc)), lent_off (h.each y hy).2 haw (fun k hk hc => hf k (.inr hk) (by simpa using hc))⟩, fun k hk e => ?_⟩
  rcases hmv k e with h1 | h1
  · exact hf k hk h1
  · rcases hk with hk | hk
    · have := (lent_lt (h.each y hy).1 k hk).1; omega
    · have := (lent_lt (h.each y hy).2 k hk).1; omega
def p99 : Pk := { zeroPk with v := 99 }
theorem p99_wf : Wf p99 := by
  have := zero_wf
  exact ⟨⟨by decide, by decide⟩, this.tos, this.flow, this.sv, this.sl, this.sb, this.dv, this.dl, this.db, this.proto, this.ttl, this.id0, this.id1, this.off, this.o, this.ol, this.d, this.dn⟩
theorem p99_pkt (w : World) : Pkt w p99 (.slice none 0 0) (.slice none 0 0) := ⟨p99_wf, Sl.nil w, Sl.nil w⟩
theorem run_p99 (w : World) : (Instr.build 28 #[(0, .int .i64 99)]).run Tryd.prog w = .ok (.agg (csP p99 (.slice none 0 0) (.slice none 0 0))) w := by kernel_rfl
def LentLOut (w : World) (xs : List X) (E : Ending) (w' : World) : Prop :=
  ∃ v ys, E = .returned v ∧ LstP w' v (ys ++ [⟨p99, .slice none 0 0, .slice none 0 0⟩]) ∧ New w.heap.size v ∧ ys.map X.p = xs.map X.p ∧ (∀ y ∈ ys, U5.Lent w.heap.size w' y.o y.p.o [165, 166] ∧ U5.Lent w.heap.size w' y.d y.p.d [167, 168]) ∧ Away [] w w'
theorem lentL_c (a : Option Addr) (xs : List X) (N cap : Nat) (w : World) (hlen : xs.length = N) (hN : N ≤ 925904528630) (hx : Pks w a xs) (hb : ∀ x ∈ xs, x.p.o.length ≤ 140737488351232 ∧ x.p.d.length ≤ 140737488351232) :
    Calls Tryd.prog 28 #[.slice a N cap] w (LentLOut w xs) := by
  have HX := Lib.hid hx
  have HL := Lib.hid hlen
  have HBD := Lib.hid hb
  clear hx hlen hb
  go_enter Tryd.func28, Tryd.ntmps28
  go_wp2_with fail
  go_loopw [3, 4] (fun v iv wr => ∃ (i : Nat) (ys : List X), iv = .int .i64 (i : Int) ∧ i ≤ N ∧ ys.length = i ∧ LL wr w.heap.size v ((xs.take i).map X.p) ys ∧ Away [] w wr) (fun _ iv _ => N - (intOf iv).toNat)
  case atStart => exact ⟨0, [], rfl, by omega, rfl, ⟨LstP.nil _, New.nil _, rfl, by simp, by simp⟩, Away.refl _ _⟩
  case round =>
    obtain ⟨i, ys, rfl, hi, hyl, hll, haw⟩ := hrel
    have HLL := Lib.hid hll
    have HA := Lib.hid haw
    clear hll haw
    by_cases hiN : i < N
    · have j0 : 0 ≤ (i : Int) := by omega
      have j1 : (i : Int) < (N : Int) := by omega
      have j2 : ((i : Int)).toNat = i := by omega
      have j3 : decide (i < N) = true := by simp; omega
      obtain ⟨x, hxi, hxm⟩ := get_of (show i < xs.length by rw [HL.out]; exact hiN)
      obtain ⟨b1, o1, ha1, r1, k1⟩ := HX.out.at hxi
      subst ha1
      have hbx := HBD.out x hxm
      have HTK : Hid ((xs.take (i + 1)).map X.p = (xs.take i).map X.p ++ [x.p]) := by show _ = _; rw [List.take_add_one, hxi, List.map_append]; rfl
      obtain ⟨q, xo, xd⟩ := x
      have HQW : Hid (Wf q) := k1.wf
      have HQA : Hid (Ad q) := k1.wf.ad
      have HR0 := Lib.hid (range_away HA.out (by simp) r1)
      change Hid (wr.rangeAt b1 (o1 + i * 46) (listP q xo xd)) at HR0
      have KL := Lib.hid (U5.lent_c q xo xd wr (Pkt.on k1 HA.out) (by simp only at hbx; omega) (by simp only at hbx; omega))
      clear hxi hxm r1 k1 hbx hiN
      go_wp2_with (first
        | (refine wpList_load28m rfl _ rfl b1 (o1 + i * 46) rfl q xo xd (by exact HR0.out) HQA.out ?_)
        | (go_at_call 25; refine KL.out.mono ?_; refine Hid.out ?_))
      refine Lib.hid ?_
      first
        | rintro E y1 ou du rfl hl1 hl2 haw
        | rintro E y1 ⟨ou, du, rfl, hl1, hl2, haw⟩
      have HN1 : Hid (U5.Lent wr.heap.size y1 ou q.o [165, 166] ∧ U5.Lent wr.heap.size y1 du q.d [167, 168]) := ⟨hl1, hl2⟩
      have HVL : Hid (∀ k, u3.ownBlock = some k → k < wr.heap.size) := fun k hk => HLL.out.lst.lt k hk
      have HSW : Hid (w.heap.size ≤ wr.heap.size) := HA.out.size
      have H1O := Lib.hid hl1.one
      have H2O := Lib.hid hl2.one
      replace HLL := Lib.hid (HLL.out.on haw)
      replace HA := Lib.hid (HA.out.trans haw)
      clear hl1 hl2 haw KL HR0
      go_wp2_with (refine wpList_build28 rfl _ rfl q ou du rfl HQA.out ?_; refine Hid.out ?_)
      refine Lib.hid ?_
      intro gq y2 hgq hbq haw
      have HBQ := Lib.hid hbq
      replace HLL := Lib.hid (HLL.out.on haw)
      replace HA := Lib.hid (HA.out.trans haw)
      replace HN1 : Hid (U5.Lent wr.heap.size y2 ou q.o [165, 166] ∧ U5.Lent wr.heap.size y2 du q.d [167, 168]) := ⟨lent_off HN1.out.1 haw (by simp), lent_off HN1.out.2 haw (by simp)⟩
      clear hbq haw hgq
      go_wp2_with (refine wpList_appP rfl _ _ rfl _ ys rfl (by exact HLL.out.lst) gq 1 rfl q ou du HBQ.out HQA.out H1O.out H2O.out (by omega) ?_; refine Hid.out ?_)
      refine Lib.hid ?_
      intro v' y3 hl3 hgr hmv
      have hkp := HLL.out.keep hgr hmv
      have haw3 : Away u3.ownBlock.toList y2 y3 := (Away.refl _ y2).grown hgr (fun k hk => .inl (by simp [hk]))
      have HA3 : Hid (Away [] w y3) := HA.out.grown hgr (fun k hk => .inr (HLL.out.new k hk))
      have hn1 : U5.Lent wr.heap.size y3 ou q.o [165, 166] := lent_off HN1.out.1 haw3 (fun k hk hc => by have h1 := (lent_lt HN1.out.1 k hk).2; have h2 := HVL.out k (by simpa using hc); omega)
      have hn2 : U5.Lent wr.heap.size y3 du q.d [167, 168] := lent_off HN1.out.2 haw3 (fun k hk hc => by have h1 := (lent_lt HN1.out.2 k hk).2; have h2 := HVL.out k (by simpa using hc); omega)
      have HL3 : Hid (LL y3 w.heap.size v' ((xs.take (i + 1)).map X.p) (ys ++ [⟨q, ou, du⟩])) := by
        refine ⟨hl3, HLL.out.new.moved hmv HA.out.size, by rw [HTK.out, List.map_append, HLL.out.ps]; rfl, fun y hy => ?_, fun y hy k hk e => ?_⟩
        · rw [List.mem_append, List.mem_singleton] at hy
          rcases hy with hy | rfl
          · exact (hkp y hy).1
          · exact ⟨hn1.mono HSW.out, hn2.mono HSW.out⟩
        · rw [List.mem_append, List.mem_singleton] at hy
          rcases hy with hy | rfl
          · exact (hkp y hy).2 k hk e
          · have hlt : wr.heap.size ≤ k ∧ k < y2.heap.size := by
              rcases hk with hk | hk
              · exact ⟨(lent_lt HN1.out.1 k hk).2, (lent_lt HN1.out.1 k hk).1⟩
              · exact ⟨(lent_lt HN1.out.2 k hk).2, (lent_lt HN1.out.2 k hk).1⟩
            rcases hmv k e with h1 | h1
            · have := HVL.out k h1; omega
            · omega
      clear hl3 hgr hmv hkp haw3 hn1 hn2 HLL HA HBQ HN1
      go_wp2_with fail
      go_roundw
      case rel => exact ⟨i + 1, ys ++ [⟨q, ou, du⟩], by go_num, by omega, by simp [hyl], HL3.out, HA3.out⟩
      case measure => simp [intOf]; omega
    · have j3 : decide (i < N) = false := by simp; omega
      obtain rfl : i = N := by omega
      have HPS : Hid (ys.map X.p = xs.map X.p) := by show _ = _; rw [HLL.out.ps, ← HL.out, List.take_length]
      have hrp := fun w => run_p99 w
      go_wp2_with (refine wpList_build28 rfl _ rfl p99 (.slice none 0 0) (.slice none 0 0) rfl p99_wf.ad ?_; refine Hid.out ?_)
      refine Lib.hid ?_
      intro gq y2 hgq hbq haw
      have HBQ := Lib.hid hbq
      replace HLL := Lib.hid (HLL.out.on haw)
      replace HA := Lib.hid (HA.out.trans haw)
      clear hbq haw hgq hrp
      go_wp2_with (refine wpList_appP rfl _ _ rfl _ ys rfl (by exact HLL.out.lst) gq 1 rfl p99 (.slice none 0 0) (.slice none 0 0) HBQ.out p99_wf.ad rfl rfl (by omega) ?_; refine Hid.out ?_)
      refine Lib.hid ?_
      intro v' y3 hl3 hgr hmv
      have hkp := HLL.out.keep hgr hmv
      have HA3 : Hid (Away [] w y3) := HA.out.grown hgr (fun k hk => .inr (HLL.out.new k hk))
      have HNW := Lib.hid (HLL.out.new.moved hmv HA.out.size)
      have HO : Hid (LentLOut w xs (.returned v') y3) := ⟨v', ys, rfl, hl3, HNW.out, HPS.out, fun y hy => (hkp y hy).1, HA3.out⟩
      clear hl3 hgr hmv hkp
      go_wp2_with fail
      go_ret
      exact HO.out
theorem keptL_c (a b : Option Addr) (xs ys : List X) (N cap cap' : Nat) (B : Nat) (w : World) (hlen : xs.length = N) (hN : N ≤ 925904528630) (hx : Pks w a xs) (hb : ∀ x ∈ xs, x.p.o.length ≤ 140737488351232 ∧ x.p.d.length ≤ 140737488351232)
    (hy : Pks w b (ys ++ [⟨p99, .slice none 0 0, .slice none 0 0⟩])) (hps : ys.map X.p = xs.map X.p) (hle : ∀ y ∈ ys, U5.Lent B w y.o y.p.o [165, 166] ∧ U5.Lent B w y.d y.p.d [167, 168]) :
    Calls Tryd.prog 30 #[.slice b (N + 1) cap', .slice a N cap] w fun E w' => E = .returned (.bool true) ∧ Away [] w w' := by
  have HX := Lib.hid hx
  have HY := Lib.hid hy
  have HL := Lib.hid hlen
  have HBD := Lib.hid hb
  have HPS := Lib.hid hps
  have HLE := Lib.hid hle
  have HYL : Hid (ys.length = N) := by show _ = _; have := congrArg List.length hps; rw [List.length_map, List.length_map] at this; omega
  clear hx hlen hb hy hps hle
  go_enter Tryd.func30, Tryd.ntmps30
  go_wp2_with fail
  go_loopw [5] (fun iv wr => ∃ i : Nat, iv = .int .i64 (i : Int) ∧ i ≤ N ∧ Away [] w wr) (fun iv _ => N - (intOf iv).toNat)
  case atStart => exact ⟨0, rfl, Nat.zero_le _, Away.refl _ _⟩
  case round =>
    obtain ⟨k, rfl, hk, haw⟩ := hrel
    have HA := Lib.hid haw
    clear haw
    by_cases hkn : k < N
    · have j1 : decide (k < N) = true := by simp; omega
      have j0 : (k : Int) < (N : Int) := by omega
      obtain ⟨x, hxk, hxm⟩ := get_of (show k < xs.length by rw [HL.out]; exact hkn)
      obtain ⟨y, hyk, hym⟩ := get_of (show k < ys.length by rw [HYL.out]; exact hkn)
      have hpe : y.p = x.p := by
        have h1 := congrArg (fun l => l[k]?) HPS.out
        simp only [List.getElem?_map, hxk, hyk, Option.map_some, Option.some.injEq] at h1
        exact h1
      obtain ⟨b1, o1, ha1, r1, k1⟩ := HX.out.at hxk
      obtain ⟨b2, o2, ha2, r2, k2⟩ := HY.out.at (i := k) (x := y) (by rw [List.getElem?_append_left (by rw [HYL.out]; exact hkn)]; exact hyk)
      subst ha1; subst ha2
      have hlt := HLE.out y hym
      have hbx := HBD.out x hxm
      obtain ⟨p, xo, xd⟩ := x
      obtain ⟨q, yo, yd⟩ := y
      simp only at hpe hlt hbx
      subst hpe
      have HAD : Hid (Ad q) := k1.wf.ad
      have R1 : Hid (∀ w', Away [] w w' → w'.rangeAt b1 (o1 + k * 46) (listP q xo xd)) := fun w' h => range_away h (by simp) r1
      have R2 : Hid (∀ w', Away [] w w' → w'.rangeAt b2 (o2 + k * 46) (listP q yo yd)) := fun w' h => range_away h (by simp) r2
      have KS : Hid (∀ w', Away [] w w' → Calls Tryd.prog 27 #[.agg (csP q yo yd), .agg (csP q xo xd)] w' fun E w2 => E = .returned (.bool true) ∧ Away [] w w2) := fun w' h => (U5.kept_c q B xo xd yo yd w' (Pkt.on k1 h) (by omega) (by omega) (lent_off hlt.1 h (by simp)) (lent_off hlt.2 h (by simp))).mono (by rintro E w2 ⟨rfl, h2⟩; exact ⟨rfl, h.trans h2⟩)
      clear r1 r2 k1 k2 hxk hyk hxm hym hkn hlt hbx
      go_wp2_with fail
      refine wp_region_cls (C := fun w' => Away [] w w') (by kernel_rfl) (by kernel_rfl) (by exact HA.out.drew) ?_
      repeat (first
        | go_big_quiet_skip
        | (go_big_quiet_want
           first
             | (refine quiet_call 27 #[.agg (csP q yo yd), .agg (csP q xo xd)] (.bool true) ?_ KS.out ?_; (focus (intro w; go_simp; done)); go_simp; go_big_quiet_on)
             | (refine quiet_ix32 _ _ rfl b1 o1 N cap k _ rfl rfl rfl (by omega) ?_; go_simp; go_big_quiet_on)
             | (refine quiet_ix32 _ _ rfl b2 o2 (N + 1) cap' k _ rfl rfl rfl (by omega) ?_; go_simp; go_big_quiet_on)
             | (refine quiet_ld _ rfl (ad := ⟨b1, o1 + k * 46, none⟩) rfl (fun w' h => load28m_run (R1.out w' h) HAD.out) ?_; go_simp; go_big_quiet_on)
             | (refine quiet_ld _ rfl (ad := ⟨b2, o2 + k * 46, none⟩) rfl (fun w' h => load28m_run (R2.out w' h) HAD.out) ?_; go_simp; go_big_quiet_on)
             | (go_big_quiet_op; go_big_quiet_on)
             | (refine quiet_val ?_ ?_ ?_
                rotate_left
                · intro w; go_simp; rfl
                go_simp; go_big_quiet_on)))
      refine wpQuiet_nil ?_
      intro V hV
      have HV := Lib.hid hV
      clear hV
      go_wp2_with fail
      go_roundw
      case rel => exact ⟨k + 1, by go_num, by omega, HV.out⟩
      case measure => simp [intOf]; omega
    · have j1 : decide (k < N) = false := by simp; omega
      obtain rfl : k = N := by omega
      obtain ⟨b2, o2, ha2, r2, k2⟩ := HY.out.at (i := k) (x := ⟨p99, .slice none 0 0, .slice none 0 0⟩) (by rw [List.getElem?_append_right (by rw [HYL.out]; exact Nat.le_refl _), HYL.out, Nat.sub_self]; rfl)
      subst ha2
      have c99 : wr.cell? ⟨b2, o2 + k * 46, none⟩ = some (.int .i64 99) := by
        have h1 := HA.out.cell (by simp) (r2 0 (.int .i64 99) rfl)
        simpa using h1
      have g0 : 0 ≤ (k : Int) := by omega
      have g1 : (k : Int) < (k : Int) + 1 := by omega
      have g2 : ((k : Int)).toNat = k := by omega
      have g3 : (k : Int) < ((k + 1 : Nat) : Int) := by omega
      clear r2 k2
      go_wp2_with fail
      go_ret
      exact ⟨rfl, HA.out⟩
end Go.Proofs.YtbnnfbfmomafnaaDoor

namespace Go.Proofs.YtbnnfbfmomafnaaDoor
open Go.ChangeShapes Go.WideShapes Go.ChangeAt Go.RowKit Go.Deep Num S6
set_option linter.unusedVariables false
set_option maxHeartbeats 40000000
set_option maxRecDepth 100000

theorem sizeK32 (wx : World) : (sizeOf (Tryd.prog.elem 32)).run Tryd.prog wx = .ok 46 wx := by kernel_rfl
theorem slice_h32 (a : Option Addr) (len cap m : Nat) (hi : Int) (hhi : hi = m) (hm : m ≤ cap) (wx : World) :
    (Instr.sliceAt 32 (.slice a len cap) none (some (.int .i64 hi)) none).run Tryd.prog wx = .ok (.slice a m cap) wx := by
  subst hhi
  rw [run_sliceAt_slice (h := under32), run_slice_h (ht := under32) (h0 := by omega) (h2 := by omega), sizeK32]
  simp only [Result.andThen, sliced]
  rw [show (m : Int).toNat = m from by omega]
  simp [Addr.add]
theorem pks_take {w : World} {a : Option Addr} {ys : List X} {x : X} (h : Pks w a (ys ++ [x])) : Pks w a ys := by
  obtain ⟨h1, h2, h3⟩ := h
  refine ⟨by rw [List.length_append] at h1; omega, fun y hy => h2 y (by simp [hy]), ?_⟩
  rcases h3 with h3 | ⟨b, off, rfl, hc⟩
  · simp at h3
  · exact .inr ⟨b, off, rfl, fun i y hy => hc i y (by rw [List.getElem?_append_left (lt_of_get hy)]; exact hy)⟩
namespace cutIs
theorem walk (p : Pk) (ov dv : Value) (m : Int) (a : Option Addr) (xs : List X) (N cap : Nat) (w : World) (hg : Glob w) (hp : Pkt w p ov dv) (hol : p.o.length ≤ 140737488351232) (hdl : p.d.length ≤ 140737488351232) (hlen : xs.length = N) (hN : N ≤ 925904528626) (hx : Pks w a xs) (hb : ∀ x ∈ xs, x.p.o.length ≤ 140737488351232 ∧ x.p.d.length ≤ 140737488351232) :
    Calls Tryd.prog 8 #[.agg (csP p ov dv), .int .i64 m, .slice a N cap] w fun E w' => E = .returned (.bool true) ∧ Below w.heap.size w w' := by
  have HAD := Lib.hid hp.wf.ad
  have HW := Lib.hid hp.wf
  have HP := Lib.hid hp; have HG := Lib.hid hg
  have HOL := Lib.hid hol
  have HDL := Lib.hid hdl
  have HX := Lib.hid hx
  have HL := Lib.hid hlen
  have HBD := Lib.hid hb
  have KA := Lib.hid (fun w hg => alive_c w hg)
  have KL : Hid (∀ w', Away [] w w' → Calls Tryd.prog 25 #[.agg (csP p ov dv)] w' fun E w'' => ∃ ou du, E = .returned (.agg (csP p ou du)) ∧ U5.Lent w'.heap.size w'' ou p.o [165, 166] ∧ U5.Lent w'.heap.size w'' du p.d [167, 168] ∧ Away [] w' w'') := fun w' h => U5.lent_c p ov dv w' (hp.on h) (by omega) (by omega)
  have KLL : Hid (∀ w', Away [] w w' → Calls Tryd.prog 28 #[.slice a N cap] w' (LentLOut w' xs)) := fun w' h => lentL_c a xs N cap w' hlen (by omega) (hx.on h) hb
  have KR : Hid (∀ w', Away [] w w' → Calls Tryd.prog 29 #[.agg (csP p ov dv), .int .i64 m, .slice a N cap] w' fun E w'' => E = .returned (.bool (isP p m (xs.map X.p))) ∧ Away [] w' w'') := fun w' h => by
    have := ris_c p ov dv m a xs N cap w' hlen (hp.on h) (hx.on h)
    rwa [isD_eq hp.wf] at this
  obtain ⟨z, hz⟩ : ∃ z, z = isP p m (xs.map X.p) := ⟨_, rfl⟩
  rw [← hz] at KR
  have HZ := Lib.hid hz
  clear hp hg hol hdl hx hlen hb hz
  go_enter Tryd.func8, Tryd.ntmps8
  go_wp2_with (refine wpList_box28 rfl _ rfl p _ _ rfl ?_; refine Hid.out ?_)
  refine Lib.hid ?_
  intro g3 w1 hg3 hb3 haw
  have HA := Lib.hid haw
  have HB3 := Lib.hid hb3
  clear hb3 haw hg3
  go_wp2_with (go_at_call 9; refine (KA.out _ (HG.out.on HA.out)).mono ?_; refine Hid.out ?_)
  refine Lib.hid ?_
  rintro E w2 ⟨rfl, haw⟩
  replace HA := Lib.hid (HA.out.trans haw)
  replace HB3 := Lib.hid (HB3.out.on haw)
  clear haw KA
  go_wp2_with (first
    | (refine wpList_load28 rfl _ rfl g3 rfl p _ _ (by exact HB3.out) HAD.out ?_)
    | (go_at_call 25; refine (KL.out _ HA.out).mono ?_; refine Hid.out ?_))
  refine Lib.hid ?_
  rintro E w3 ⟨ou, du, rfl, hl1, hl2, haw⟩
  have HL1 := Lib.hid hl1
  have HL2 := Lib.hid hl2
  replace HA := Lib.hid (HA.out.trans haw)
  replace HB3 := Lib.hid (HB3.out.on haw)
  have H1O := Lib.hid hl1.one
  have H2O := Lib.hid hl2.one
  clear hl1 hl2 haw KL
  go_wp2_with (refine wpList_new28 rfl rfl rfl _ _ rfl p _ _ (fun _ => rfl) (fun _ => rfl) HAD.out H1O.out H2O.out ?_; refine Hid.out ?_)
  refine Lib.hid ?_
  intro g7 w4 hg7 hb7 haw
  have HB7 := Lib.hid hb7
  replace HA := Lib.hid (HA.out.trans haw)
  replace HB3 := Lib.hid (HB3.out.on haw)
  replace HL1 := Lib.hid (HL1.out.away haw (by simp))
  replace HL2 := Lib.hid (HL2.out.away haw (by simp))
  clear hb7 haw hg7
  go_wp2_with (go_at_call 28; refine (KLL.out _ HA.out).mono ?_; refine Hid.out ?_)
  refine Lib.hid ?_
  rintro E w5 ⟨v5, ys, rfl, hlst, hnew, hps, hle, haw⟩
  have HLE := Lib.hid hle
  have HPS := Lib.hid hps
  have hyl : ys.length = N := by have := congrArg List.length hps; rw [List.length_map, List.length_map, HL.out] at this; exact this
  replace HA := Lib.hid (HA.out.trans haw)
  replace HB3 := Lib.hid (HB3.out.on haw)
  replace HB7 := Lib.hid (HB7.out.on haw)
  replace HL1 := Lib.hid (HL1.out.away haw (by simp))
  replace HL2 := Lib.hid (HL2.out.away haw (by simp))
  have hyw : ∀ y ∈ ys, Wf y.p ∧ y.p.o.length ≤ 140737488351232 ∧ y.p.d.length ≤ 140737488351232 := fun y hy => by
    have h1 : y.p ∈ xs.map X.p := by rw [← HPS.out]; exact List.mem_map.2 ⟨y, hy, rfl⟩
    obtain ⟨x, hxm, e⟩ := List.mem_map.1 h1
    rw [← e]
    exact ⟨(HX.out.2.1 x hxm).wf, (HBD.out x hxm).1, (HBD.out x hxm).2⟩
  obtain ⟨b, cb, hv, hcb, -, hpk, -⟩ := hlst.pks (by rw [List.length_append, hyl]; simp; omega) (fun y hy => by
    rw [List.mem_append, List.mem_singleton] at hy
    rcases hy with hy | rfl
    · obtain ⟨h1, h2, h3⟩ := hyw y hy
      exact lent_pkt h1 (by omega) (by omega) (hle y hy).1 (hle y hy).2
    · exact p99_pkt _)
  rw [List.length_append, hyl] at hv hcb
  simp only [List.length_cons, List.length_nil, Nat.zero_add] at hv hcb
  subst hv
  have HPK := Lib.hid hpk
  have HPL : Hid (Pkt w5 p ou du) := lent_pkt HW.out (by have := HOL.out; omega) (by have := HDL.out; omega) HL1.out HL2.out
  have KI := Lib.hid (fun w' (h : Away [] w5 w') => is_c p ou du m b ys N cb w' hyl (HPL.out.on h) ((pks_take HPK.out).on h) (HG.out.on (HA.out.trans h)))
  rw [HPS.out, ← HZ.out] at KI
  have hsl := fun wx => slice_h32 b (N + 1) cb N (N : Int) rfl (by omega) wx
  clear hlst hnew hps hle haw hyw hpk KLL
  go_wp2_with fail
  have HCC : Hid (Away [] w5 w5.drew) := (Away.refl [] w5).drew
  have KI2 : Hid (∀ w', Away [] w5 w' → Calls Tryd.prog 14 #[.agg (csP p ou du), .int .i64 m, .slice b N cb] w' fun E w2 => E = .returned (.bool z) ∧ Away [] w5 w2) := fun w' h => (KI.out w' h).mono (by rintro E w9 ⟨rfl, h2⟩; exact ⟨rfl, h.trans h2⟩)
  refine wp_region_cls (C := fun w' => Away [] w5 w') (by kernel_rfl) (by kernel_rfl) (by exact HCC.out) ?_
  repeat (first
    | go_big_quiet_skip
    | (go_big_quiet_want
       first
         | (refine quiet_call 14 #[.agg (csP p ou du), .int .i64 m, .slice b N cb] (.bool z) ?_ KI2.out ?_; (focus (intro w; go_simp; done)); go_simp; go_big_quiet_on)
         | (refine quiet_ld _ rfl (ad := ⟨g7, 0, none⟩) rfl (fun w' h => load28_run (HB7.out.on h) HAD.out) ?_; go_simp; go_big_quiet_on)
         | (go_big_quiet_op; go_big_quiet_on)
         | (refine quiet_val ?_ ?_ ?_
            rotate_left
            · intro w; go_simp; rfl
            go_simp; go_big_quiet_on)))
  refine wpQuiet_nil ?_
  intro w6 hV
  have HV := Lib.hid hV
  replace HA := Lib.hid (HA.out.trans hV)
  replace HB3 := Lib.hid (HB3.out.on hV)
  replace HB7 := Lib.hid (HB7.out.on hV)
  replace HL1 := Lib.hid (HL1.out.away hV (by simp))
  replace HL2 := Lib.hid (HL2.out.away hV (by simp))
  replace HPK := Lib.hid (HPK.out.on hV)
  replace HLE : Hid (∀ y ∈ ys, U5.Lent w4.heap.size w6 y.o y.p.o [165, 166] ∧ U5.Lent w4.heap.size w6 y.d y.p.d [167, 168]) := fun y hy => ⟨lent_off (HLE.out y hy).1 hV (by simp), lent_off (HLE.out y hy).2 hV (by simp)⟩
  clear hV KI KI2 hsl HPL HCC
  go_wp2_with (first
    | (refine wpList_load28 rfl _ rfl g3 rfl p _ _ (by exact HB3.out) HAD.out ?_)
    | (go_at_call 29; refine (KR.out _ HA.out).mono ?_; refine Hid.out ?_))
  refine Lib.hid ?_
  first
    | rintro E w7 rfl haw
    | rintro E w7 ⟨rfl, haw⟩
  replace HA := Lib.hid (HA.out.trans haw)
  replace HB3 := Lib.hid (HB3.out.on haw)
  replace HB7 := Lib.hid (HB7.out.on haw)
  replace HL1 := Lib.hid (HL1.out.away haw (by simp))
  replace HL2 := Lib.hid (HL2.out.away haw (by simp))
  replace HPK := Lib.hid (HPK.out.on haw)
  replace HLE : Hid (∀ y ∈ ys, U5.Lent w4.heap.size w7 y.o y.p.o [165, 166] ∧ U5.Lent w4.heap.size w7 y.d y.p.d [167, 168]) := fun y hy => ⟨lent_off (HLE.out y hy).1 haw (by simp), lent_off (HLE.out y hy).2 haw (by simp)⟩
  have KK := Lib.hid (U5.kept_c p w2.heap.size ov dv ou du w7 (HP.out.on HA.out) (by have := HOL.out; omega) (by have := HDL.out; omega) HL1.out HL2.out)
  have hee : (z == z) = true := by simp
  clear haw KR
  go_wp2_with (first
    | (refine wpList_load28 rfl _ rfl g7 rfl p _ _ (by exact HB7.out) HAD.out ?_)
    | (refine wpList_load28 rfl _ rfl g3 rfl p _ _ (by exact HB3.out) HAD.out ?_)
    | (go_at_call 27; refine KK.out.mono ?_; refine Hid.out ?_))
  refine Lib.hid ?_
  first
    | rintro E w8 rfl haw
    | rintro E w8 ⟨rfl, haw⟩
  replace HA := Lib.hid (HA.out.trans haw)
  replace HPK := Lib.hid (HPK.out.on haw)
  replace HLE : Hid (∀ y ∈ ys, U5.Lent w4.heap.size w8 y.o y.p.o [165, 166] ∧ U5.Lent w4.heap.size w8 y.d y.p.d [167, 168]) := fun y hy => ⟨lent_off (HLE.out y hy).1 haw (by simp), lent_off (HLE.out y hy).2 haw (by simp)⟩
  have KKL := Lib.hid (keptL_c a b xs ys N cap cb w4.heap.size w8 HL.out (by omega) (HX.out.on HA.out) HBD.out HPK.out HPS.out HLE.out)
  clear haw KK
  go_wp2_with (go_at_call 30; refine KKL.out.mono ?_; refine Hid.out ?_)
  refine Lib.hid ?_
  first
    | rintro E w9 rfl haw
    | rintro E w9 ⟨rfl, haw⟩
  replace HA := Lib.hid (HA.out.trans haw)
  clear haw KKL
  go_wp2_with fail
  go_ret
  exact ⟨rfl, HA.out.to_below⟩
end cutIs
namespace cutIs
theorem contract (H : Type) (enc : TypeId × Value → H) (W : World) (base : Nat) (args : Array Value) (ds gs : List (DataW H)) (before : List MemPlace)
    (hval0 : ∀ (j : Nat) t v, Tryd.f8.params[j]? = some t → args[j]? = some v → Value.okWide Tryd.prog W .any base t v)
    (hW : DataW.Whole enc Tryd.prog Tryd.f8.params.toList Rows.cutIsSpec.vars false W args.toList ds gs before)
    (hsz0 : (DataW.weightsEach Tryd.prog (Tryd.f8.params.toList ++ Rows.cutIsSpec.plain.varTypes Tryd.prog) (ds ++ gs)).all (· ≤ reachBytes) = true)
    (hL : laidMetH Tryd.prog Rows.cutIsRow.laid W) :
    Calls Tryd.prog 8 args W fun e W' => ∃ v, e = .returned v ∧ Rows.cutIsSpec.post enc Tryd.prog Tryd.f8 false true false false W args v W' := by
  have hval := hval0
  have hsz := hsz0
  have hW' := hW
  obtain ⟨p, q, hA0, hV, rfl, hfz, hnd⟩ := hW
  have hA : DataW.TrodAll enc Tryd.prog W 0 (fun _ => true) true Tryd.f8.params.toList args.toList ds p := hA0
  rw [Tryd.params8] at hA hval hsz
  obtain ⟨v0, vs0, d0, ds0, p0, q0, hargs, rfl, rfl, h0, r0⟩ := trodAll_cons hA
  obtain ⟨v1, vs1, d1, ds1, p1, q1, rfl, rfl, rfl, h1, r1⟩ := trodAll_cons r0
  obtain ⟨v2, vs2, d2, ds2, p2, q2, rfl, rfl, rfl, h2, r2⟩ := trodAll_cons r1
  obtain ⟨rfl, rfl, rfl⟩ := trodAll_nil r2
  obtain rfl : args = #[v0, v1, v2] := by cases args; simp_all
  obtain ⟨rfl, rfl⟩ := trodVars_none hV
  have k0 := h0
  have lt0 : ∀ x ∈ p0, x.block < W.heap.size := by obtain ⟨m, hm⟩ := k0; exact DataW.trod_lt m _ _ _ hm
  have z0 : ∀ m ∈ d0.weights Tryd.prog 28, m ≤ reachBytes := fun m hm => by
    have := List.all_eq_true.1 hsz m (DataW.weights_mem_each (j := 0) (t := 28) rfl rfl m hm)
    simpa using this
  obtain ⟨x0, ov0, dv0, rfl, w0, ol0, dl0⟩ := open_pkt (hval 0 28 v0 rfl rfl) h0 z0
  obtain ⟨a1, rfl, rfl, rfl, w1⟩ := open_int Tryd.underlying3 (hval 1 3 v1 rfl rfl) h1
  have k2 := h2
  have lt2 : ∀ x ∈ p2, x.block < W.heap.size := by obtain ⟨m, hm⟩ := k2; exact DataW.trod_lt m _ _ _ hm
  have z2 : ∀ m ∈ d2.weights Tryd.prog 32, m ≤ reachBytes := fun m hm => by
    have := List.all_eq_true.1 hsz m (DataW.weights_mem_each (j := 2) (t := 32) rfl rfl m hm)
    simpa using this
  obtain ⟨a2, len2, cap2, rfl⟩ := okWide_slice Tryd.underlying32 (hval 2 32 v2 rfl rfl)
  obtain ⟨xs2, hl2, hb2, he2, hr2⟩ := open_pkts h2 z2
  clear hA0 hval0
  refine (walk x0 ov0 dv0 a1 a2 xs2 len2 cap2 W (glob_of hL) w0 ol0 dl0 hl2 hb2 ⟨by rw [hl2]; omega, fun x hx => (he2 x hx).1, hr2⟩ (fun x hx => (he2 x hx).2)).mono fun e W' ⟨he, bel⟩ => ?_
  subst he
  exact ⟨_, rfl, _, _, _, [], _, [], hW', trodAll_mk1 (shut_bool Tryd.underlying4 _), (trodAll_cons_mk (Below.trod laidOut (by kernel_rfl) (of_decide_eq_true (by kernel_rfl)) k0 bel lt0) (trodAll_cons_mk (shut_int Tryd.underlying3 w1) (trodAll_cons_mk (Below.trod laidOut (by kernel_rfl) (of_decide_eq_true (by kernel_rfl)) k2 bel lt2) trodAll_mk0))), rfl, bel.frame _, fun h => by cases h⟩
theorem laid_met (os : Os) : laidMet Tryd.prog Rows.cutIsRow.laid ((laidWorld Tryd.prog os).forCall (fun _ _ => 0) ⟨#[], #[.agg (csP zeroPk (.slice none 0 0) (.slice none 0 0)), .int .i64 0, .slice none 0 0], []⟩).memory :=
  laidMet_of_run' 8 (by kernel_rfl) (by kernel_rfl)
theorem reads (os : Os) {H : Type} (enc : TypeId × Value → H) : ∃ places, DataW.whole enc Tryd.prog ((laidWorld Tryd.prog os).forCall (fun _ _ => 0) ⟨#[], #[.agg (csP zeroPk (.slice none 0 0) (.slice none 0 0)), .int .i64 0, .slice none 0 0], []⟩).memory Tryd.f8.params.toList Rows.cutIsSpec.vars false #[.agg (csP zeroPk (.slice none 0 0) (.slice none 0 0)), .int .i64 0, .slice none 0 0].toList 8 = some ([.agg [.lit (.int .i64 0), .lit (.int .i64 0), .lit (.int .i64 0), .agg [.lit (.int .i64 0), .agg [.lit (.int .u8 0), .lit (.int .u8 0), .lit (.int .u8 0), .lit (.int .u8 0), .lit (.int .u8 0), .lit (.int .u8 0), .lit (.int .u8 0), .lit (.int .u8 0), .lit (.int .u8 0), .lit (.int .u8 0), .lit (.int .u8 0), .lit (.int .u8 0), .lit (.int .u8 0), .lit (.int .u8 0), .lit (.int .u8 0), .lit (.int .u8 0)]], .agg [.lit (.int .i64 0), .agg [.lit (.int .u8 0), .lit (.int .u8 0), .lit (.int .u8 0), .lit (.int .u8 0), .lit (.int .u8 0), .lit (.int .u8 0), .lit (.int .u8 0), .lit (.int .u8 0), .lit (.int .u8 0), .lit (.int .u8 0), .lit (.int .u8 0), .lit (.int .u8 0), .lit (.int .u8 0), .lit (.int .u8 0), .lit (.int .u8 0), .lit (.int .u8 0)]], .lit (.int .i64 0), .lit (.int .i64 0), .lit (.int .u32 0), .lit (.bool false), .lit (.bool false), .lit (.bool false), .lit (.int .i64 0), .nil, .nil], .lit (.int .i64 0), .nil], [], places) :=
  ⟨[], by kernel_rfl⟩
theorem lifted (os : Os) (started : os.Started) (H : Type) (enc : TypeId × Value → H) (F : Stop.Interp) :
    ReturnsInHanded {} Tryd.checked os 8 .any ((OpenSpec.ofChange Rows.cutIsSpec).preRow enc Tryd.prog Tryd.f8 Rows.cutIsRow.domain false Rows.cutIsRow.laid) (((OpenSpec.ofChange Rows.cutIsSpec).at F).post enc Tryd.prog Tryd.f8 false true false false) := by
  obtain ⟨places, hx⟩ := reads os enc
  refine returnsInHanded_of_row (C := Tryd.checked) (s := OpenSpec.ofChange Rows.cutIsSpec) ownKn started (by kernel_rfl) Tryd.func8
    (witness_row_at (enc := enc) (C := Tryd.checked) false (laidWorld Tryd.prog os) #[.agg (csP zeroPk (.slice none 0 0) (.slice none 0 0)), .int .i64 0, .slice none 0 0] rfl (by kernel_rfl) (by kernel_rfl) (by kernel_rfl)
      (OpenSpec.preRow_of_cond 8 hx (by kernel_rfl) (fun k hk => by cases hk) (by kernel_rfl) (laid_met os))) ?_
  intro W base args ds gs before hval hW _ hcond hsz hL hS _
  exact contract H enc W base args ds gs before hval hW hsz hL
theorem said : Rows.CutIsSaid :=
  OpenClaim.holds_of_cond 8 Tryd.f8 rfl rfl rfl rfl rfl rfl rfl ⟨rfl, rfl, rfl, rfl, rfl⟩ rfl rfl rfl rfl rfl (by kernel_rfl) Tryd.func8 (by kernel_rfl)
    (of_decide_eq_true (by kernel_rfl)) (by unfold Func.isWrapper; first | (rw [if_pos (by decide +kernel)]; kernel_rfl) | (rw [if_neg (by decide +kernel)]; exact ⟨rfl, rfl⟩))
    (fun os started H enc _ F => by rw [OpenClaim.pre_eq_preRow]; exact lifted os started H enc F)
theorem plain (f : FuncId) (fn : Func) (hf : Tryd.pinned.checked.prog.funcNamed "mosaic/mosaiclaw10.CutIs" = some f) (hfn : Tryd.pinned.checked.prog.funcs[f]? = some fn) :
    false = Tryd.pinned.checked.prog.looks [] ∧ ∀ (j : Nat) t, fn.params[j]? = some t → Tryd.pinned.checked.prog.wantsStandIn t = false := by
  obtain rfl : f = 8 := Option.some.inj ((show Tryd.prog.funcNamed "mosaic/mosaiclaw10.CutIs" = some 8 by kernel_rfl).symm.trans hf) |>.symm
  obtain rfl : fn = Tryd.f8 := (Option.some.inj (Tryd.func8.symm.trans hfn)).symm
  refine ⟨by kernel_rfl, fun j t ht => ?_⟩
  rw [Tryd.params8] at ht
  have hm := Array.mem_of_getElem? ht
  simp only [List.mem_toArray, List.mem_cons, List.not_mem_nil, or_false] at hm
  have h28 : Tryd.prog.wantsStandIn 28 = false := by kernel_rfl
  have h26 : Tryd.prog.wantsStandIn 26 = false := by kernel_rfl
  have h3 : Tryd.prog.wantsStandIn 3 = false := by kernel_rfl
  have h25 : Tryd.prog.wantsStandIn 32 = false := by kernel_rfl
  rcases hm with rfl | rfl | rfl
  all_goals first | exact h28 | exact h26 | exact h3 | exact h25
theorem card : Rows.CutIsCardSaid :=
  Claim7.holds_tied_plain_at .later [] _ _ _ _ said (fun _ h => by cases h) (by kernel_rfl) (fun _ h => by cases h) cutIs_row_tie rfl ⟨rfl, rfl⟩ (by kernel_rfl) rfl plain (by kernel_rfl)
end cutIs
theorem cutIs_holds : Rows.CutIsCardSaid := cutIs.card
#print axioms cutIs_holds
end Go.Proofs.YtbnnfbfmomafnaaDoor
