/-
  near: some ints; which ones does not matter.
-/
import Derived.Test.YtckiiidigajhpaaRkit
import Derived.Deep.RegionLaw
namespace Go.Proofs.Ytckiiidigajhpaa
open Go.ChangeShapes Go.WideShapes Go.ChangeAt Go.RowKit
set_option linter.unusedVariables false
set_option maxRecDepth 100000

/-- Ints that can be read. -/
def Ints (w : World) (a : Option Addr) (l : List Int) : Prop :=
  l.length ≤ 100000 ∧ (∀ x ∈ l, I64 x) ∧ (l = [] ∨ ∃ b off, a = some ⟨b, off, none⟩ ∧ ∀ i x, l[i]? = some x → w.cell? ⟨b, off + i, none⟩ = some (.int .i64 x))
theorem Ints.on {w w' : World} {a : Option Addr} {l : List Int} (h : Ints w a l) (hw : Away [] w w') : Ints w' a l := by
  obtain ⟨h1, h2, h3⟩ := h
  refine ⟨h1, h2, ?_⟩
  rcases h3 with h3 | ⟨b, off, rfl, hc⟩
  · exact .inl h3
  · exact .inr ⟨b, off, rfl, fun i x hx => hw.cell (by simp) (hc i x hx)⟩
def LstI (w : World) (v : Value) (l : List Int) : Prop := w.ownsRow 0 3 1 v l.length (l.map (Value.int .i64))
theorem LstI.on {w w' : World} {v : Value} {l : List Int} (h : LstI w v l) (hw : Away [] w w') : LstI w' v l := by
  obtain ⟨h1, h2⟩ := h
  refine ⟨h1, ?_⟩
  rcases h2 with h2 | ⟨g, cap, cur, rfl, hg, hh, r⟩
  · exact .inl h2
  · exact .inr ⟨g, cap, cur, rfl, hg, hw.keep (by simp) hh, r⟩
theorem LstI.ints {w : World} {v : Value} {l : List Int} (h : LstI w v l) (hl : l.length ≤ 100000) (hok : ∀ x ∈ l, I64 x) : ∃ a cap, v = .slice a l.length cap ∧ Ints w a l := by
  have h0 := h
  rcases h.2 with ⟨rfl, h2⟩ | ⟨g, cap, cur, rfl, hg, hh, hn, hc, hs, ht⟩
  · have : l = [] := by simpa using h2
    subst this
    exact ⟨none, 0, rfl, by simp, by simp, .inl rfl⟩
  · refine ⟨some ⟨g, 0, none⟩, cap, by simp, hl, hok, .inr ⟨g, 0, rfl, fun i x hx => ?_⟩⟩
    have hi : i < l.length := by
      rcases Nat.lt_or_ge i l.length with h' | h'
      · exact h'
      · rw [List.getElem?_eq_none h'] at hx; simp at hx
    rw [Nat.zero_add, World.ownsRow.cellAt h0 i (by omega), List.getElem?_map, hx]; rfl
theorem info3 : (Try.prog.info? 3).map (fun i => (i.zero, i.size, i.bytes)) = some (some (.int .i64 0), 1, 8) := by kernel_rfl
theorem run_app4 (ty : TypeId) (w : World) (v : Value) (l : List Int) (hown : LstI w v l) (ad : Addr) (c : Nat) (m : List Int) (n : Nat) (hn : m.length = n) (hm : ∀ j u, (m.map (Value.int .i64))[j]? = some u → w.cell? (ad.add j) = some u) (hk : l.length + n ≤ 100000) :
    ∃ v' w', (Builtin.append_ #[40, 40] ty #[v, .slice (some ad) n c]).run Try.prog w = .ok v' w' ∧ LstI w' v' (l ++ m) ∧ w.grownBy w' v.ownBlock ∧ Moved w v v' := by
  subst hn
  obtain ⟨i0, hi, hz0, hz1, hz2⟩ := info_parts info3
  obtain ⟨v', w', h1, h2, h3, h4⟩ := run_appN 40 ty 3 i0 _ 8 1 Try.underlying40 hi hz0 hz1 hz2 rfl (by decide) w v l.length (l.map (Value.int .i64)) hown ad m.length c (m.map (Value.int .i64)) (by simp) hm (by simp [Value.oneCell']) (by unfold maxLen; omega) (by omega)
  exact ⟨v', w', h1, by unfold LstI; rw [List.length_append, List.map_append]; exact h2, h3, h4⟩
theorem step_app4 {ops : Array Oper} {o : Oper} {a : Act} {w : World} {K : Act → World → Prop} {Q : Exit → Act → World → Prop} {E : Prop} (hg : o.guard = none) (s x : Operand)
    (hop : o.op = .call { callee := .builtin .append, args := #[s, x], argTypes := #[40, 40] }) (v : Value) (l m : List Int) (hs : a.eval s = v) (hown : LstI w v l)
    (ad : Addr) (n c : Nat) (hx : a.eval x = .slice (some ad) n c) (hn : m.length = n) (hm : ∀ j u, (m.map (Value.int .i64))[j]? = some u → w.cell? (ad.add j) = some u) (hlen : l.length + n ≤ 100000)
    (hK : ∀ v' w', LstI w' v' (l ++ m) → w.grownBy w' v.ownBlock → Moved w v v' → K (a.put o.dst v') w') :
    if Region.wanted o (yielded ops a.tmps) = true then Oper.wp Try.prog o a w K Q else E := by
  have hw : Region.wanted o (yielded ops a.tmps) = true := by simp [Region.wanted, hg]
  rw [if_pos hw]
  obtain ⟨v', w', hrun, r1, r2, r3⟩ := run_app4 o.type w v l hown ad c m n hn hm hlen
  unfold Oper.wp
  simp [execOp, hop, resolve, invoke, builtin, hs, hx, hrun, Result.andThen]
  exact hK v' w' r1 r2 r3
theorem lit_ints (w : World) (m : List Int) (n : Nat) (hn : n = w.heap.size) : ∀ j u, (m.map (Value.int .i64))[j]? = some u → (w.alloc (.cells (m.map (Value.int .i64)).toArray 3)).cell? ((⟨n, 0, none⟩ : Addr).add j) = some u := by
  intro j u hj
  rw [add_plain, Nat.zero_add, World.cell?_alloc_at (hn := hn)]
  simpa using hj
set_option maxHeartbeats 8000000 in
theorem near_c (a : Option Addr) (l : List Sp) (s : Sp) (n0 : Int) (n cap : Nat) (w : World) (hn : l.length = n) (hr : Row w a l) (hi : ∀ x ∈ l, Is x) (hs : 0 ≤ s.1 ∧ s.1 ≤ 65535 ∧ 0 ≤ s.2 ∧ s.2 ≤ 65535) (hn0 : I64 n0) :
    Calls Try.prog 21 #[.slice a n cap, valS s, .int .i64 n0] w fun E w' => ∃ a' c' n' m, E = .returned (.slice a' n' c') ∧ m.length = n' ∧ Ints w' a' m ∧ Away [] w w' := by
  subst hn
  have hlen := hr.1
  have HR : Hid (Row w a l) := hr
  have HI : Hid (∀ x ∈ l, Is x) := hi
  have HN0 : Hid (I64 n0) := hn0
  clear hr hi hn0
  obtain ⟨s1, s2⟩ := s
  simp only [valS] at hs ⊢
  obtain ⟨hs1, hs2, hs3, hs4⟩ := hs
  have HL0 : Hid (LstI ((w.alloc (.cells #[.int .i64 s1, .int .i64 s2] 29)).alloc (.cells #[.int .i64 n0, .int .i64 s1, .int .i64 (s1 - 1), .int .i64 s2, .int .i64 (s2 - 1)] 3)) (.slice (some ⟨(w.alloc (.cells #[.int .i64 s1, .int .i64 s2] 29)).heap.size, 0, none⟩) 5 5) [n0, s1, s1 - 1, s2, s2 - 1]) :=
    World.ownsRow_lit (w.alloc (.cells #[.int .i64 s1, .int .i64 s2] 29)) #[.int .i64 n0, .int .i64 s1, .int .i64 (s1 - 1), .int .i64 s2, .int .i64 (s2 - 1)] 5 (Nat.zero_le _) (by unfold maxLen; omega) rfl
  have HI0 : Hid (∀ x ∈ [n0, s1, s1 - 1, s2, s2 - 1], I64 x) := by
    intro x hx
    have h0 := HN0.out
    simp only [List.mem_cons, List.not_mem_nil, or_false] at hx
    rcases hx with rfl | rfl | rfl | rfl | rfl
    · exact h0
    all_goals (unfold I64; omega)
  go_enter Try.func21, Try.ntmps21
  go_wp2_with fail
  go_loopw [7, 8] (fun v i wr => ∃ (k : Nat) (m : List Int), k ≤ 200 ∧ k ≤ l.length ∧ i = .int .i64 (k : Int) ∧ LstI wr v m ∧ New w.heap.size v ∧ Away [] w wr ∧ (∀ x ∈ m, I64 x) ∧ m.length ≤ 5 + 4 * k) (fun _ i _ => 200 - (intOf i).toNat)
  case atStart => exact ⟨0, [n0, s1, s1 - 1, s2, s2 - 1], by omega, by omega, rfl, by simpa using HL0.out, fun q hq => by simp [Value.ownBlock] at hq; omega, ((Away.refl [] w).alloc _).alloc _, HI0.out, by simp⟩
  case round =>
    obtain ⟨k, m, hk2, hk, rfl, hm, hnew, haw, hmi, hml⟩ := hrel
    have HM := hidI hm
    have HMI := hidI hmi
    have HAW := hidI haw
    have HNW := hidI hnew
    have hsz := haw.size
    clear hm hmi haw hnew HL0 HI0
    by_cases hlt : k < l.length
    · by_cases h200 : k < 200
      · obtain ⟨x, hx, hxm⟩ := get_of hlt
        obtain ⟨b, off, hbo, c1, c2, -⟩ := (HR.out.on HAW.out).at hx
        have hxi := HI.out x hxm
        subst hbo
        clear hx hxm
        obtain ⟨x1, x2⟩ := x
        unfold Is at hxi
        simp only at c1 c2 hxi
        obtain ⟨i1, i2, i3⟩ := hxi
        have t2 : 0 ≤ (k : Int) := by omega
        have t3 : (k : Int) < (l.length : Int) := by omega
        have t4 : ((k : Int)).toNat = k := by omega
        have HV1 : Hid (IntKind.i64.wrap (x1 - 1) = x1 - 1) := by show _ = _; rw [IntKind.wrap_i64]; omega
        have HV2 : Hid (IntKind.i64.wrap (x2 - 1) = x2 - 1) := by show _ = _; rw [IntKind.wrap_i64]; omega
        go_wp2_with fail
        go_region_law ((refine step_app4 rfl (.tmp 31) (.tmp 54) rfl u7 m [x1, IntKind.i64.wrap (x1 - 1), x2, IntKind.i64.wrap (x2 - 1)] (by simp [Act.eval]) (by exact HM.out.on (((Away.refl [] _).alloc _).drew)) ⟨wr.heap.size, 0, none⟩ 4 4 (by simp [Act.eval]) rfl (by exact lit_ints _ [x1, IntKind.i64.wrap (x1 - 1), x2, IntKind.i64.wrap (x2 - 1)] _ rfl) (by omega) ?_; intro v' w2 hown2 hgr hmov))
        all_goals
          have HN2 := hidI (HNW.out.moved hmov (by simp; omega))
          have HA2 : Hid (Away [] w w2) := ((HAW.out.alloc _).drew).step hgr HNW.out
          have HI2 : Hid (∀ y ∈ m ++ [x1, IntKind.i64.wrap (x1 - 1), x2, IntKind.i64.wrap (x2 - 1)], I64 y) := by
            intro y hy
            rcases List.mem_append.1 hy with hy | hy
            · exact HMI.out y hy
            · simp only [List.mem_cons, List.not_mem_nil, or_false] at hy
              have e1 := HV1.out
              have e2 := HV2.out
              unfold I64
              rcases hy with rfl | rfl | rfl | rfl <;> omega
          have HL2 := hidI hown2
          have HB2 : Hid ((m ++ [x1, IntKind.i64.wrap (x1 - 1), x2, IntKind.i64.wrap (x2 - 1)]).length ≤ 5 + 4 * (k + 1)) := by show _ ≤ _; simp; omega
          clear hgr hmov hown2
          generalize m ++ [x1, IntKind.i64.wrap (x1 - 1), x2, IntKind.i64.wrap (x2 - 1)] = m2 at *
          go_wp2_with fail
          go_roundw
          case rel => exact ⟨k + 1, m2, by omega, by omega, by go_num, HL2.out, HN2.out, HA2.out, HI2.out, HB2.out⟩
          case measure => simp [intOf]; omega
      · go_wp2_with fail
        go_ret
        obtain ⟨a', c', hv, hin⟩ := HM.out.ints (by omega) HMI.out
        exact ⟨a', c', m.length, m, by rw [← hv]; rfl, rfl, hin, HAW.out⟩
    · go_wp2_with fail
      go_ret
      obtain ⟨a', c', hv, hin⟩ := HM.out.ints (by omega) HMI.out
      exact ⟨a', c', m.length, m, by rw [← hv]; rfl, rfl, hin, HAW.out⟩
#print axioms near_c
end Go.Proofs.Ytckiiidigajhpaa
