/-
  over, busy, note, forget.
-/
import Derived.Test.YtepbgigoekpdeaaSrc
import Derived.Laws.EntriesVeiled
namespace Go.Proofs.Ytepbgigoekpdeaa
open Go.ChangeShapes Go.WideShapes Go.ChangeAt Go.RowKit
set_option linter.unusedVariables false

set_option maxHeartbeats 2000000 in
theorem over_c {w : World} {g c : Nat} {v : Value} {sp li : Int} {G : List Int} {bs : List Sp} (now : Int) (h : Src w g c v sp li G bs) (hn : 0 ≤ now) (hn' : now ≤ 1099511627776) :
    Calls Try.prog 24 #[.pointer (some ⟨g, 0, none⟩), .int .i64 now] w fun E w' => ∃ m : Nat, E = .returned (.int .i64 m) ∧ CutN li now bs m ∧ Away [] w w' := by
  obtain ⟨a, cap, hv, hcap, hnone, hrow, -⟩ := h.slice
  have hlen := hrow.1
  have H : Hid (Src w g c v sp li G bs) := h
  have HR : Hid (Row w a bs) := hrow
  have HV : Hid (v = .slice a bs.length cap) := hv
  have k4 := h.cs.c4
  rw [hv] at k4
  have hg := lt_of_block h.cs.blk
  have hg1 : ¬ (g = w.heap.size) := by omega
  have hg2 : ¬ (g = w.heap.size + 1) := by omega
  have hmf : ∀ (fn : Fn) (first cap : Array Value) (w : World), (Instr.makeFunc fn first cap).run Try.prog w = .ok (.func fn first cap) w := fun _ _ _ _ => rfl
  clear h hrow hv
  go_enter Try.func24, Try.ntmps24
  go_wp2_with fail
  refine (search_c (g := g) (c := c) (p := w.heap.size + 1) (q := w.heap.size) (sp := sp) (li := li) (n := G.length) (la := lastP G) (v := v) (a := a) (cap := cap) (bs := bs) now (H.out.cs.on (((Away.refl _ _).alloc _).alloc _)) HV.out (HR.out.on (((Away.refl _ _).alloc _).alloc _)) ?hp ?hq hn hn' (fun x hx => ⟨(H.out.inv.le x hx).1, by have := (H.out.inv.le x hx).2.1; have := H.out.good.last; omega⟩) H.out.inv.up).mono ?_
  case hp => simp
  case hq => simp
  rintro E w2 ⟨m, z, rfl, hc, rfl⟩
  go_wp2_with fail
  go_ret
  exact ⟨m, rfl, hc, (((Away.refl _ _).alloc _).alloc _).drewN z⟩

set_option maxHeartbeats 2000000 in
theorem busy_c {w : World} {g c : Nat} {v : Value} {sp li : Int} {G : List Int} {bs : List Sp} (now : Int) (h : Src w g c v sp li G bs) (hn : lastP G ≤ now) (hn' : now ≤ 1099511627776) :
    Calls Try.prog 20 #[.pointer (some ⟨g, 0, none⟩), .int .i64 now] w fun E w' => E = .returned (.int .i64 (cnt li now G)) ∧ Away [] w w' := by
  obtain ⟨a, cap, hv, hcap, hnone, hrow, -⟩ := h.slice
  have hlen := hrow.1
  have hsm := h.small
  have hla := h.good.last
  have H : Hid (Src w g c v sp li G bs) := h
  have HV : Hid (v = .slice a bs.length cap) := hv
  clear h hrow hv
  obtain ⟨r, hr⟩ : ∃ r : Int, r = (cnt li now G : Int) := ⟨_, rfl⟩
  rw [← hr]
  have HQ : Hid (r = (cnt li now G : Int)) := hr
  clear hr
  go_enter Try.func20, Try.ntmps20
  go_wp2_with fail
  refine (over_c now H.out (by omega) hn').mono ?_
  rintro E w2 ⟨m, rfl, hc, haw⟩
  have h2 := H.out.on haw
  have k4 := h2.cs.c4
  have k2 := h2.cs.c2
  rw [HV.out] at k4
  have HC : Hid (CutN li now bs m) := hc
  have hml := hc.1
  by_cases he : m = bs.length
  · subst he
    have : r = 0 := by rw [HQ.out, busy_none H.out.good H.out.inv hn hc]; rfl
    subst this
    clear h2 hc
    go_wp2_with fail
    go_ret
    exact ⟨rfl, haw⟩
  · obtain ⟨x, hx, hxm⟩ := get_of (show m < bs.length by omega)
    have hr2 : r = G.length - x.2 := by rw [HQ.out, busy_some H.out.good H.out.inv hn hc hx]
    have hx2 := h2.inv.le x hxm
    obtain ⟨a', cap', hv', -, -, hrow2, -⟩ := h2.slice
    rw [HV.out] at hv'
    simp only [Value.slice.injEq] at hv'
    obtain ⟨rfl, -, rfl⟩ := hv'
    obtain ⟨b, off, rfl, d1, d2, -⟩ := hrow2.at hx
    have t1 : ¬ ((m : Int) = (bs.length : Int)) := by omega
    have t2 : 0 ≤ (m : Int) := by omega
    have t3 : (m : Int) < (bs.length : Int) := by omega
    have t4 : ((m : Int)).toNat = m := by omega
    obtain ⟨x1, x2⟩ := x
    simp only at d1 d2 hr2 hx2
    clear h2 hc hx hrow2 hxm d1
    have HR2 : Hid (r = G.length - x2) := hr2
    clear hr2
    go_wp2_with fail
    go_quiet (fail)
    go_wp2_with fail
    go_ret
    exact ⟨by rw [HR2.out]; first | rfl | simp, haw.drewN _⟩
end Go.Proofs.Ytepbgigoekpdeaa
