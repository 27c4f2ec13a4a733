/-
  A source in memory; its small functions.
-/
import Derived.Test.YtepbgigoekpdeaaBase
import Derived.Laws.EntriesVeiled
namespace Go.Proofs.Ytepbgigoekpdeaa
open Go.ChangeShapes Go.WideShapes Go.ChangeAt Go.RowKit
set_option linter.unusedVariables false

/-- A source at block g, its clock's rule bound to the cell c. -/
structure Cells (w : World) (g c : Nat) (sp li n la : Int) (v : Value) : Prop where
  blk : w.heap[g]? = some (.cells #[.int .i64 sp, .int .i64 li, .int .i64 n, .int .i64 la, v, .func (.func 19) #[] #[.pointer (some ⟨c, 0, none⟩)]] 58 (0, 0))
  box : w.heap[c]? = some (.cells #[.pointer (some ⟨g, 0, none⟩)] 23 (0, 0))
  gc : g ≠ c
  own : ∀ k, v.ownBlock = some k → k ≠ g ∧ k ≠ c
theorem Cells.away {S : List Nat} {w w' : World} {g c : Nat} {sp li n la : Int} {v : Value} (h : Cells w g c sp li n la v) (hw : Away S w w') (hg : g ∉ S) (hc : c ∉ S) : Cells w' g c sp li n la v :=
  ⟨hw.keep hg h.blk, hw.keep hc h.box, h.gc, h.own⟩
theorem Cells.on {w w' : World} {g c : Nat} {sp li n la : Int} {v : Value} (h : Cells w g c sp li n la v) (hw : Away [] w w') : Cells w' g c sp li n la v := h.away hw (by simp) (by simp)
theorem Cells.c0 {w : World} {g c : Nat} {sp li n la : Int} {v : Value} (h : Cells w g c sp li n la v) : w.cell? ⟨g, 0, none⟩ = some (.int .i64 sp) := by rw [cell_of_block h.blk]; rfl
theorem Cells.c1 {w : World} {g c : Nat} {sp li n la : Int} {v : Value} (h : Cells w g c sp li n la v) : w.cell? ⟨g, 1, none⟩ = some (.int .i64 li) := by rw [cell_of_block h.blk]; rfl
theorem Cells.c2 {w : World} {g c : Nat} {sp li n la : Int} {v : Value} (h : Cells w g c sp li n la v) : w.cell? ⟨g, 2, none⟩ = some (.int .i64 n) := by rw [cell_of_block h.blk]; rfl
theorem Cells.c3 {w : World} {g c : Nat} {sp li n la : Int} {v : Value} (h : Cells w g c sp li n la v) : w.cell? ⟨g, 3, none⟩ = some (.int .i64 la) := by rw [cell_of_block h.blk]; rfl
theorem Cells.c4 {w : World} {g c : Nat} {sp li n la : Int} {v : Value} (h : Cells w g c sp li n la v) : w.cell? ⟨g, 4, none⟩ = some v := by rw [cell_of_block h.blk]; rfl
theorem Cells.c5 {w : World} {g c : Nat} {sp li n la : Int} {v : Value} (h : Cells w g c sp li n la v) : w.cell? ⟨g, 5, none⟩ = some (.func (.func 19) #[] #[.pointer (some ⟨c, 0, none⟩)]) := by rw [cell_of_block h.blk]; rfl
theorem Cells.b0 {w : World} {g c : Nat} {sp li n la : Int} {v : Value} (h : Cells w g c sp li n la v) : w.cell? ⟨c, 0, none⟩ = some (.pointer (some ⟨g, 0, none⟩)) := by rw [cell_of_block h.box]; rfl
theorem Cells.free {w : World} {g c : Nat} {sp li n la : Int} {v : Value} (h : Cells w g c sp li n la v) (i : Nat) : w.frozen? ⟨g, i, none⟩ = false := free_of_block h.blk i

/-- A source: what it gave when. -/
structure Src (w : World) (g c : Nat) (v : Value) (sp li : Int) (G : List Int) (bs : List Sp) : Prop where
  cs : Cells w g c sp li G.length (lastP G) v
  lst : Lst w v bs
  inv : Inv li G bs
  good : Good sp li G
  small : G.length ≤ 35184372088832
theorem Src.away {S : List Nat} {w w' : World} {g c : Nat} {v : Value} {sp li : Int} {G : List Int} {bs : List Sp} (h : Src w g c v sp li G bs) (hw : Away S w w') (hg : g ∉ S) (hc : c ∉ S) (hv : ∀ k, v.ownBlock = some k → k ∉ S) : Src w' g c v sp li G bs :=
  ⟨h.cs.away hw hg hc, h.lst.away hw hv, h.inv, h.good, h.small⟩
theorem Src.on {w w' : World} {g c : Nat} {v : Value} {sp li : Int} {G : List Int} {bs : List Sp} (h : Src w g c v sp li G bs) (hw : Away [] w w') : Src w' g c v sp li G bs := h.away hw (by simp) (by simp) (by simp)
theorem Inv.ok {sp li : Int} {G : List Int} {bs : List Sp} (h : Inv li G bs) (hg : Good sp li G) (hs : G.length ≤ 70368744177664) : ∀ x ∈ bs, OkS x := fun x hx => by
  have h1 := h.le x hx
  have h2 := hg.last
  unfold OkS I64
  omega
theorem Src.slice {w : World} {g c : Nat} {v : Value} {sp li : Int} {G : List Int} {bs : List Sp} (h : Src w g c v sp li G bs) :
    ∃ a cap, v = .slice a bs.length cap ∧ bs.length ≤ cap ∧ (a = none → cap = 0) ∧ Row w a bs ∧ (∀ p, a = some p → v.ownBlock = some p.block ∧ p.off = 0 ∧ p.spot = none) :=
  h.lst.row (by have := h.inv.len h.good; omega) (h.inv.ok h.good (by have := h.small; omega))

/-! The clock's rule. -/
set_option maxHeartbeats 1000000 in
theorem may_c {w : World} {g c : Nat} {sp li n la : Int} {v : Value} (now : Int) (h : Cells w g c sp li n la v) :
    Calls Try.prog 19 #[.int .i64 now, .pointer (some ⟨c, 0, none⟩)] w fun E w' => E = .returned (.bool (decide (la ≤ now ∧ now ≤ 1099511627776))) ∧ w' = w := by
  have k1 := h.b0
  have k2 := h.c3
  clear h
  by_cases h1 : la ≤ now
  · by_cases h2 : now ≤ 1099511627776
    · have HZ : Hid (decide (la ≤ now ∧ now ≤ 1099511627776) = true) := by show _ = _; simp; omega
      generalize decide (la ≤ now ∧ now ≤ 1099511627776) = z at *
      go_enter Try.func19, Try.ntmps19
      go_wp2
      go_ret
      exact ⟨by rw [HZ.out]; rfl, rfl⟩
    · have HZ : Hid (decide (la ≤ now ∧ now ≤ 1099511627776) = false) := by show _ = _; simp; omega
      generalize decide (la ≤ now ∧ now ≤ 1099511627776) = z at *
      go_enter Try.func19, Try.ntmps19
      go_wp2
      go_ret
      exact ⟨by rw [HZ.out]; rfl, rfl⟩
  · have HZ : Hid (decide (la ≤ now ∧ now ≤ 1099511627776) = false) := by show _ = _; simp; omega
    generalize decide (la ≤ now ∧ now ≤ 1099511627776) = z at *
    go_enter Try.func19, Try.ntmps19
    go_wp2
    go_ret
    exact ⟨by rw [HZ.out]; rfl, rfl⟩

/-! Is batch k busy? -/
set_option maxHeartbeats 2000000 in
theorem pred_c {w : World} {g c p q : Nat} {sp li n la : Int} {v : Value} {a : Option Addr} {cap : Nat} {bs : List Sp} (now : Int) (k : Nat) (x : Sp) (h : Cells w g c sp li n la v) (hv : v = .slice a bs.length cap) (hr : Row w a bs) (hx : bs[k]? = some x)
    (hp : w.cell? ⟨p, 0, none⟩ = some (.int .i64 now)) (hq : w.cell? ⟨q, 0, none⟩ = some (.pointer (some ⟨g, 0, none⟩)))
    (hn : 0 ≤ now) (hn' : now ≤ 1099511627776) (hb : 0 ≤ x.1) (hb' : x.1 ≤ 1099511627776) :
    Calls Try.prog 26 #[.int .i64 k, .pointer (some ⟨p, 0, none⟩), .pointer (some ⟨q, 0, none⟩)] w fun E w' => E = .returned (.bool (decide (now - x.1 < li))) ∧ ∃ n, w' = w.drewN n := by
  subst hv
  have k1 := h.c1
  have k4 := h.c4
  have hlen := hr.1
  have hk := get_lt hx
  obtain ⟨b, off, rfl, d1, d2, -⟩ := hr.at hx
  clear h hr hx d2
  obtain ⟨x1, x2⟩ := x
  simp only at d1 hb hb' ⊢
  have t2 : 0 ≤ (k : Int) := by omega
  have t3 : (k : Int) < (bs.length : Int) := by omega
  have t4 : ((k : Int)).toNat = k := by omega
  go_enter Try.func26, Try.ntmps26
  go_wp2_with fail
  go_quiet (fail)
  go_wp2_with fail
  go_ret
  exact ⟨by first | rfl | simp, _, rfl⟩

/-! What over's closure tells of each batch. -/
set_option maxHeartbeats 2000000 in
theorem search_c {w : World} {g c p q : Nat} {sp li n la : Int} {v : Value} {a : Option Addr} {cap : Nat} {bs : List Sp} (now : Int) (h : Cells w g c sp li n la v) (hv : v = .slice a bs.length cap) (hr : Row w a bs)
    (hp : w.cell? ⟨p, 0, none⟩ = some (.int .i64 now)) (hq : w.cell? ⟨q, 0, none⟩ = some (.pointer (some ⟨g, 0, none⟩)))
    (hn : 0 ≤ now) (hn' : now ≤ 1099511627776) (hb : ∀ x ∈ bs, 0 ≤ x.1 ∧ x.1 ≤ 1099511627776) (hup : bs.Pairwise (fun a b => a.1 < b.1)) :
    Calls Try.prog 25 #[.int .i64 bs.length, .func (.func 26) #[] #[.pointer (some ⟨p, 0, none⟩), .pointer (some ⟨q, 0, none⟩)]] w fun E w' => ∃ (m z : Nat), E = .returned (.int .i64 m) ∧ CutN li now bs m ∧ w' = w.drewN z := by
  have hlen := hr.1
  have HP : Hid (∀ (z k : Nat) (x : Sp), bs[k]? = some x → Calls Try.prog 26 #[.int .i64 k, .pointer (some ⟨p, 0, none⟩), .pointer (some ⟨q, 0, none⟩)] (w.drewN z) fun E w' => E = .returned (.bool (decide (now - x.1 < li))) ∧ ∃ n, w' = (w.drewN z).drewN n) :=
    fun z k x hx => pred_c now k x (h.on ((Away.refl _ _).drewN z)) hv (hr.drewN z) hx hp hq hn hn' (hb x (List.mem_of_getElem? hx)).1 (hb x (List.mem_of_getElem? hx)).2
  have HU : Hid (bs.Pairwise (fun a b => a.1 < b.1)) := hup
  clear h hr hp hq hb hup hv
  go_enter Try.func25, Try.ntmps25
  go_wp2_with fail
  go_loopw [5, 6] (fun i j wr => ∃ k m z : Nat, i = .int .i64 k ∧ j = .int .i64 m ∧ k ≤ m ∧ m ≤ bs.length ∧ (∀ t x, t < k → bs[t]? = some x → li ≤ now - x.1) ∧ (∀ t x, m ≤ t → bs[t]? = some x → now - x.1 < li) ∧ wr = w.drewN z) (fun i j _ => (intOf j).toNat - (intOf i).toNat)
  case atStart => exact ⟨0, bs.length, 0, rfl, rfl, by omega, by omega, by simp, fun t x ht hx => by have := get_lt hx; omega, rfl⟩
  case round =>
    obtain ⟨k, m, z, rfl, rfl, hk, hm, h1, h2, rfl⟩ := hrel
    have H1 : Hid (∀ t x, t < k → bs[t]? = some x → li ≤ now - x.1) := h1
    have H2 : Hid (∀ t x, m ≤ t → bs[t]? = some x → now - x.1 < li) := h2
    clear h1 h2
    by_cases hlt : k < m
    · obtain ⟨t, ht, ht1, ht2⟩ : ∃ t : Nat, ((k : Int) + m) / 2 = t ∧ k ≤ t ∧ t < m := ⟨(k + m) / 2, by omega, by omega, by omega⟩
      obtain ⟨x, hx, -⟩ := get_of (show t < bs.length by omega)
      have HC := HP.out z t x hx
      have HX : Hid (bs[t]? = some x) := hx
      have HT : Hid (((k : Int) + m) / 2 = t) := ht
      clear hx ht
      by_cases hb : now - x.1 < li
      · rw [decide_eq_true hb] at HC
        have HB : Hid (now - x.1 < li) := hb
        clear hb
        go_wp2_with fail
        rw [HT.out]
        refine HC.mono ?_
        rintro E w2 ⟨rfl, z2, rfl⟩
        go_wp2_with fail
        go_roundw
        case rel => exact ⟨k, t, z + z2, rfl, rfl, by omega, by omega, H1.out, fun s y hs hy => by
          rcases Nat.lt_or_ge t s with h | h
          · have := up_get HU.out HX.out hy h; have := HB.out; omega
          · obtain rfl : s = t := by omega
            have h3 := HX.out; rw [hy] at h3; simp at h3; subst h3; exact HB.out, by first | rfl | (simp [World.drewN]; try omega)⟩
        case measure => simp [intOf]; omega
      · rw [decide_eq_false hb] at HC
        have HB : Hid (¬ (now - x.1 < li)) := hb
        clear hb
        go_wp2_with fail
        rw [HT.out]
        refine HC.mono ?_
        rintro E w2 ⟨rfl, z2, rfl⟩
        go_wp2_with fail
        go_roundw
        case rel => exact ⟨t + 1, m, z + z2, by go_num, rfl, by omega, by omega, fun s y hs hy => by
          rcases Nat.lt_or_ge s t with h | h
          · have := up_get HU.out hy HX.out h; have := HB.out; omega
          · obtain rfl : s = t := by omega
            have h3 := HX.out; rw [hy] at h3; simp at h3; subst h3; have := HB.out; omega, H2.out, by first | rfl | (simp [World.drewN]; try omega)⟩
        case measure => simp [intOf]; omega
    · go_wp2_with fail
      go_ret
      obtain rfl : k = m := by omega
      exact ⟨k, z, rfl, ⟨hm, H1.out, H2.out⟩, rfl⟩
end Go.Proofs.Ytepbgigoekpdeaa
