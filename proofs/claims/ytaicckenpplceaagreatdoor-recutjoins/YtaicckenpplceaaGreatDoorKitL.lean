/-
  Packets that came in.
-/
import Derived.Test.YtaicckenpplceaaGreatDoorKit
import Derived.Test.YtaicckenpplceaaGreatDoorLp
namespace Go.Proofs.YtaicckenpplceaaGreatDoor
open Go.ChangeShapes Go.WideShapes Go.ChangeAt Go.RowKit Go.Deep Num
set_option linter.unusedVariables false
set_option maxHeartbeats 4000000
set_option maxRecDepth 100000

/-- A packet that came in. -/
theorem open_pktL {H : Type} {enc : TypeId × Value → H} {W : World} {fuel : Nat} {L : List Value} {d : DataW H} {pl : List MemPlace} (hLl : L.length = 46)
    (hf : DataW.trod enc Tryz.prog W 0 (fun _ => true) true fuel 29 L = some (d, pl)) (hw : ∀ n ∈ d.weights Tryz.prog 29, n ≤ reachBytes) :
    ∃ (p : Pk) (ov dv : Value), L = listP p ov dv ∧ Pkt W p ov dv ∧ p.o.length ≤ 140737488351232 ∧ p.d.length ≤ 140737488351232 := by
  obtain ⟨xs, n, _, hx, hlen, hxs, hfs⟩ := DataW.trod_struct Tryz.underlying29 hf
  obtain ⟨k3, k4, k25, k26, k24⟩ := sizes28
  have hx14 : xs.length = 14 := by simpa using hxs
  have f0 : DataW.trod enc Tryz.prog W 0 (fun _ => true) true n 3 ((L.drop 0).take (Tryz.prog.cellsOf 3)) = xs[0]? := hfs 0 _ rfl
  have f1 : DataW.trod enc Tryz.prog W 0 (fun _ => true) true n 3 ((L.drop 1).take (Tryz.prog.cellsOf 3)) = xs[1]? := hfs 1 _ rfl
  have f2 : DataW.trod enc Tryz.prog W 0 (fun _ => true) true n 3 ((L.drop 2).take (Tryz.prog.cellsOf 3)) = xs[2]? := hfs 2 _ rfl
  have f3 : DataW.trod enc Tryz.prog W 0 (fun _ => true) true n 25 ((L.drop 3).take (Tryz.prog.cellsOf 25)) = xs[3]? := hfs 3 _ rfl
  have f4 : DataW.trod enc Tryz.prog W 0 (fun _ => true) true n 25 ((L.drop 20).take (Tryz.prog.cellsOf 25)) = xs[4]? := hfs 4 _ rfl
  have f5 : DataW.trod enc Tryz.prog W 0 (fun _ => true) true n 3 ((L.drop 37).take (Tryz.prog.cellsOf 3)) = xs[5]? := hfs 5 _ rfl
  have f6 : DataW.trod enc Tryz.prog W 0 (fun _ => true) true n 3 ((L.drop 38).take (Tryz.prog.cellsOf 3)) = xs[6]? := hfs 6 _ rfl
  have f7 : DataW.trod enc Tryz.prog W 0 (fun _ => true) true n 26 ((L.drop 39).take (Tryz.prog.cellsOf 26)) = xs[7]? := hfs 7 _ rfl
  have f8 : DataW.trod enc Tryz.prog W 0 (fun _ => true) true n 4 ((L.drop 40).take (Tryz.prog.cellsOf 4)) = xs[8]? := hfs 8 _ rfl
  have f9 : DataW.trod enc Tryz.prog W 0 (fun _ => true) true n 4 ((L.drop 41).take (Tryz.prog.cellsOf 4)) = xs[9]? := hfs 9 _ rfl
  have f10 : DataW.trod enc Tryz.prog W 0 (fun _ => true) true n 4 ((L.drop 42).take (Tryz.prog.cellsOf 4)) = xs[10]? := hfs 10 _ rfl
  have f11 : DataW.trod enc Tryz.prog W 0 (fun _ => true) true n 3 ((L.drop 43).take (Tryz.prog.cellsOf 3)) = xs[11]? := hfs 11 _ rfl
  have f12 : DataW.trod enc Tryz.prog W 0 (fun _ => true) true n 27 ((L.drop 44).take (Tryz.prog.cellsOf 27)) = xs[12]? := hfs 12 _ rfl
  have f13 : DataW.trod enc Tryz.prog W 0 (fun _ => true) true n 27 ((L.drop 45).take (Tryz.prog.cellsOf 27)) = xs[13]? := hfs 13 _ rfl
  obtain ⟨y0, y1, y2, y3, y4, y5, y6, y7, y8, y9, y10, y11, y12, y13, rfl⟩ : ∃ y0 y1 y2 y3 y4 y5 y6 y7 y8 y9 y10 y11 y12 y13, xs = [y0, y1, y2, y3, y4, y5, y6, y7, y8, y9, y10, y11, y12, y13] := by
    match xs, hx14 with
    | [y0, y1, y2, y3, y4, y5, y6, y7, y8, y9, y10, y11, y12, y13], _ => exact ⟨y0, y1, y2, y3, y4, y5, y6, y7, y8, y9, y10, y11, y12, y13, rfl⟩
  obtain ⟨a0, e0, _, w0⟩ := DataW.trod_int Tryz.underlying3 f0
  obtain ⟨a1, e1, _, w1⟩ := DataW.trod_int Tryz.underlying3 f1
  obtain ⟨a2, e2, _, w2⟩ := DataW.trod_int Tryz.underlying3 f2
  rw [k24] at f3 f4
  obtain ⟨sv, sb, e3, s16, sby, swf⟩ := open_adr f3 (by simp; omega)
  obtain ⟨dv', db, e4, d16, dby, dwf⟩ := open_adr f4 (by simp; omega)
  obtain ⟨a5, e5, _, w5⟩ := DataW.trod_int Tryz.underlying3 f5
  obtain ⟨a6, e6, _, w6⟩ := DataW.trod_int Tryz.underlying3 f6
  obtain ⟨a7, e7, _, w7⟩ := DataW.trod_int Tryz.underlying26 f7
  obtain ⟨a8, e8, _⟩ := DataW.trod_bool Tryz.underlying4 f8
  obtain ⟨a9, e9, _⟩ := DataW.trod_bool Tryz.underlying4 f9
  obtain ⟨a10, e10, _⟩ := DataW.trod_bool Tryz.underlying4 f10
  obtain ⟨a11, e11, _, w11⟩ := DataW.trod_int Tryz.underlying3 f11
  rw [k3] at e0 e1 e2 e5 e6 e11
  rw [k25] at e7
  rw [k4] at e8 e9 e10
  rw [k26] at f12 f13
  obtain ⟨ov, e12⟩ : ∃ ov, (L.drop 44).take 1 = [ov] := by
    have : ((L.drop 44).take 1).length = 1 := by simp; omega
    exact List.length_eq_one_iff.1 this
  obtain ⟨dv, e13⟩ : ∃ ov, (L.drop 45).take 1 = [ov] := by
    have : ((L.drop 45).take 1).length = 1 := by simp; omega
    exact List.length_eq_one_iff.1 this
  rw [e12] at f12
  rw [e13] at f13
  obtain ⟨D12, P12⟩ := y12
  obtain ⟨D13, P13⟩ := y13
  simp only [Prod.mk.injEq, List.map_cons, List.map_nil] at hx
  obtain ⟨rfl, _⟩ := hx
  obtain ⟨oa, ol, ocap, rfl, og1, og2, og3, og4, _⟩ := open_cell f12 (fun k hk => hw k (by
    simp only [DataW.weights, Tryz.underlying29]
    simp [DataW.weightsEach, hk]))
  obtain ⟨da, dl, dcap, rfl, dg1, dg2, dg3, dg4, _⟩ := open_cell f13 (fun k hk => hw k (by
    simp only [DataW.weights, Tryz.underlying29]
    simp [DataW.weightsEach, hk]))
  have hw7 := wf32 w7
  refine ⟨⟨a0, a1, a2, sv, sb, dv', db, a5, a6, a7, a8, a9, a10, a11, ol, dl⟩, _, _, ?_, ⟨⟨wf64 w0, wf64 w1, wf64 w2, swf, s16, sby, dwf, d16, dby, wf64 w5, wf64 w6, hw7.1, hw7.2, wf64 w11, og3.2.1, og3.1, dg3.2.1, dg3.1⟩, ⟨oa, ocap, rfl, og1, og4, og3⟩, ⟨da, dcap, rfl, dg1, dg4, dg3⟩⟩, by show ol.length ≤ _; omega, by show dl.length ≤ _; omega⟩
  have c := cut_at L 0 1
  have cend : L.drop (0 + 1 + 1 + 1 + 17 + 17 + 1 + 1 + 1 + 1 + 1 + 1 + 1 + 1 + 1) = [] := List.drop_eq_nil_of_le (by omega)
  rw [e0, cut_at L (0 + 1) 1, e1, cut_at L (0 + 1 + 1) 1, e2, cut_at L (0 + 1 + 1 + 1) 17, e3, cut_at L (0 + 1 + 1 + 1 + 17) 17, e4, cut_at L (0 + 1 + 1 + 1 + 17 + 17) 1, e5, cut_at L (0 + 1 + 1 + 1 + 17 + 17 + 1) 1, e6, cut_at L (0 + 1 + 1 + 1 + 17 + 17 + 1 + 1) 1, e7,
    cut_at L (0 + 1 + 1 + 1 + 17 + 17 + 1 + 1 + 1) 1, e8, cut_at L (0 + 1 + 1 + 1 + 17 + 17 + 1 + 1 + 1 + 1) 1, e9, cut_at L (0 + 1 + 1 + 1 + 17 + 17 + 1 + 1 + 1 + 1 + 1) 1, e10, cut_at L (0 + 1 + 1 + 1 + 17 + 17 + 1 + 1 + 1 + 1 + 1 + 1) 1, e11,
    cut_at L (0 + 1 + 1 + 1 + 17 + 17 + 1 + 1 + 1 + 1 + 1 + 1 + 1) 1, e12, cut_at L (0 + 1 + 1 + 1 + 17 + 17 + 1 + 1 + 1 + 1 + 1 + 1 + 1 + 1) 1, e13, cend] at c
  rw [List.drop_zero] at c
  rw [c]
  show _ = listP _ _ _
  simp [listP]
/-- Packets that came in. -/
theorem open_pkts {H : Type} {enc : TypeId × Value → H} {w : World} {a : Option Addr} {len cap : Nat} {d : DataW H} {p : List MemPlace}
    (h : DataW.Trod enc Tryz.prog w 0 (fun _ => true) true 22 (.slice a len cap) d p) (hw : ∀ n ∈ d.weights Tryz.prog 22, n ≤ reachBytes) :
    ∃ xs : List X, xs.length = len ∧ len ≤ 925904528626 ∧ (∀ x ∈ xs, x.ok w ∧ x.p.o.length ≤ 140737488351232 ∧ x.p.d.length ≤ 140737488351232) ∧ (xs = [] ∨ ∃ b off, a = some ⟨b, off, none⟩ ∧ ∀ i x, xs[i]? = some x → w.rangeAt b (off + i * 46) x.cells) := by
  obtain ⟨fuel, hf⟩ := h
  have h : DataW.trod enc Tryz.prog w 0 (fun _ => true) true fuel 22 [.slice a len cap] = some (d, p) := by simpa [Value.cells] using hf
  rcases open_slice Tryz.underlying22 h with ⟨hcs, hx⟩ | ⟨x, l, c, m, n, D, Pl, hcs, hb, hl, hm, hmm, hx, hel⟩
  · simp only [List.cons.injEq, Value.slice.injEq, and_true] at hcs
    obtain ⟨rfl, rfl, rfl⟩ := hcs
    exact ⟨[], rfl, by omega, by simp, .inl rfl⟩
  · simp only [List.cons.injEq, Value.slice.injEq, and_true] at hcs
    obtain ⟨rfl, rfl, rfl⟩ := hcs
    simp only [Prod.mk.injEq] at hx
    obtain ⟨rfl, _⟩ := hx
    simp only [if_true] at hmm
    subst hmm
    rw [cells28] at hel
    have hreach : m * 152 ≤ 140737488351232 := by
      have := hw ((((List.range len).map D).length + ((List.range (m - len)).map fun j => D (len + j)).length) * Tryz.prog.bytesOf 29) (by simp [DataW.weights, Tryz.underlying22])
      rw [show Tryz.prog.bytesOf 29 = 152 from by kernel_rfl] at this
      simp only [List.length_map, List.length_range, reachBytes] at this
      omega
    by_cases h0 : len = 0
    · subst h0
      exact ⟨[], rfl, by omega, by simp, .inl rfl⟩
    obtain ⟨b, off, spot⟩ := x
    have hspot : spot = none := by
      obtain ⟨cs', h1, _⟩ := hel 0 (by omega)
      obtain ⟨_, hlen', hc⟩ := World.cells?_some h1
      have := hc 0 (by decide)
      rw [List.getElem?_eq_getElem (by omega)] at this
      simpa [Addr.add] using World.cell?_spot this
    subst hspot
    have hall : ∀ i, i < len → ∃ x : X, (x.ok w ∧ x.p.o.length ≤ 140737488351232 ∧ x.p.d.length ≤ 140737488351232) ∧ w.rangeAt b (off + i * 46) x.cells := by
      intro i hi
      obtain ⟨cs', h1, h2⟩ := hel i (by omega)
      rw [add_plain] at h1
      obtain ⟨_, hlen', hc⟩ := World.cells?_some h1
      obtain ⟨p, ov, dv, e1, e2, e3, e4⟩ := open_pktL hlen' h2 (fun k hk => hw k (by
        simp only [DataW.weights, Tryz.underlying22, List.mem_cons, List.mem_append]
        exact .inr (.inl (weightsAll_mem 29 _ (D i) (by simp; exact ⟨i, hi, rfl⟩) k hk))))
      subst e1
      refine ⟨⟨p, ov, dv⟩, ⟨e2, e3, e4⟩, fun j v hj => ?_⟩
      have hj' : j < 46 := by
        have := (List.getElem?_eq_some_iff.1 hj).1
        rw [← hlen']; exact this
      have hc' := hc j hj'
      rw [add_plain] at hc'
      rw [hc']; exact hj
    have hinh : Inhabited X := ⟨⟨zeroPk, .slice none 0 0, .slice none 0 0⟩⟩
    obtain ⟨F, hF⟩ := choose_lt (α := X) hall
    refine ⟨(List.range len).map F, by simp, by omega, ?_, .inr ⟨b, off, rfl, ?_⟩⟩
    · intro o ho
      obtain ⟨i, hi, rfl⟩ := List.mem_map.mp ho
      exact (hF i (by simpa using hi)).1
    · intro i o ho
      have hi : i < len := by
        rcases Nat.lt_or_ge i len with h | h
        · exact h
        · rw [List.getElem?_eq_none (by simpa using h)] at ho; simp at ho
      simp [hi] at ho
      subst ho
      exact (hF i hi).2
/-! A script: pieces of numbers. -/
end Go.Proofs.YtaicckenpplceaaGreatDoor
