/-
  Numbers in memory; the document's is, in, put, ends.
-/
import Derived.Test.YtckiiidigajhpaaFn2
import Derived.Test.YtckiiidigajhpaaAskN
namespace Go.Proofs.Ytckiiidigajhpaa
open Go.ChangeShapes Go.WideShapes Go.ChangeAt Go.RowKit
set_option linter.unusedVariables false
set_option maxRecDepth 100000

/-- Numbers that can be read. -/
def NumR (w : World) (a : Option Addr) (l : List Int) : Prop :=
  l.length ≤ 100000 ∧ (∀ x ∈ l, I64 x) ∧ (l = [] ∨ ∃ b off, a = some ⟨b, off, none⟩ ∧ ∀ i x, l[i]? = some x → w.cell? ⟨b, off + i, none⟩ = some (.int .i64 x))
theorem NumR.away {S : List Nat} {w w' : World} {a : Option Addr} {l : List Int} (h : NumR w a l) (hw : Away S w w') (ha : ∀ p, a = some p → p.block ∉ S) : NumR w' a l := by
  obtain ⟨h1, h2, h3⟩ := h
  refine ⟨h1, h2, ?_⟩
  rcases h3 with h3 | ⟨b, off, rfl, hc⟩
  · exact .inl h3
  · exact .inr ⟨b, off, rfl, fun i x hx => hw.cell (ha _ rfl) (hc i x hx)⟩
theorem NumR.on {w w' : World} {a : Option Addr} {l : List Int} (h : NumR w a l) (hw : Away [] w w') : NumR w' a l := h.away hw (by simp)
theorem NumR.at {w : World} {a : Option Addr} {l : List Int} (h : NumR w a l) {k : Nat} {x : Int} (hk : l[k]? = some x) : ∃ b off, a = some ⟨b, off, none⟩ ∧ w.cell? ⟨b, off + k, none⟩ = some (.int .i64 x) ∧ I64 x := by
  rcases h.2.2 with h0 | ⟨b, off, rfl, hc⟩
  · rw [h0] at hk; simp at hk
  · exact ⟨b, off, rfl, hc k x hk, h.2.1 x (List.mem_of_getElem? hk)⟩
theorem NumR.tail {w : World} {a : Option Addr} {l : List Int} (h : NumR w a l) (k cap : Nat) (hcap : l.length ≤ cap) (hk : k ≤ l.length) : NumR w (if cap = k then a else a.map (·.add k)) (l.drop k) := by
  obtain ⟨h1, h2, h3⟩ := h
  refine ⟨by simp; omega, fun x hx => h2 x (List.mem_of_mem_drop hx), ?_⟩
  by_cases he : l.drop k = []
  · exact .inl he
  · right
    have hne : k < l.length := by
      rcases Nat.lt_or_ge k l.length with h | h
      · exact h
      · exact absurd (List.drop_eq_nil_of_le h) he
    rcases h3 with rfl | ⟨b, off, rfl, hc⟩
    · simp at hne
    · refine ⟨b, off + k, by rw [if_neg (by omega)]; simp [add_plain], fun i x hx => ?_⟩
      rw [List.getElem?_drop] at hx
      have := hc (k + i) x hx
      rw [show off + k + i = off + (k + i) from by omega]
      exact this
def NumL (w : World) (v : Value) (l : List Int) : Prop := w.ownsRow 0 3 1 v l.length (l.map (Value.int .i64))
theorem NumL.away {S : List Nat} {w w' : World} {v : Value} {l : List Int} (h : NumL w v l) (hw : Away S w w') (ha : ∀ k, v.ownBlock = some k → k ∉ S) : NumL w' v l := by
  obtain ⟨h1, h2⟩ := h
  refine ⟨h1, ?_⟩
  rcases h2 with h2 | ⟨g, cap, cur, rfl, hg, hh, r⟩
  · exact .inl h2
  · exact .inr ⟨g, cap, cur, rfl, hg, hw.keep (ha g rfl) hh, r⟩
theorem NumL.on {w w' : World} {v : Value} {l : List Int} (h : NumL w v l) (hw : Away [] w w') : NumL w' v l := h.away hw (by simp)
theorem NumL.nil (w : World) : NumL w (.slice none 0 0) [] := World.ownsRow_nil _ _ _ _
theorem NumL.lt {w : World} {v : Value} {l : List Int} (h : NumL w v l) : ∀ k, v.ownBlock = some k → k < w.heap.size := fun k hk => (World.ownsRow.lt h k hk).2
theorem getI_lt {l : List Int} {i : Nat} {x : Int} (h : l[i]? = some x) : i < l.length := by
  rcases Nat.lt_or_ge i l.length with h' | h'
  · exact h'
  · rw [List.getElem?_eq_none h'] at h; simp at h
theorem getI_of {l : List Int} {i : Nat} (h : i < l.length) : ∃ x, l[i]? = some x ∧ x ∈ l := ⟨l[i], by simp [h], by simp⟩
theorem takeI_snoc {l : List Int} {k : Nat} {x : Int} (h : l[k]? = some x) : l.take (k + 1) = l.take k ++ [x] := by
  have hk := getI_lt h
  rw [List.take_succ_eq_append_getElem hk]
  rw [List.getElem?_eq_getElem hk] at h
  simp at h; rw [h]
theorem NumL.row {w : World} {v : Value} {l : List Int} (h : NumL w v l) (hl : l.length ≤ 100000) (hok : ∀ x ∈ l, I64 x) :
    ∃ a cap, v = .slice a l.length cap ∧ l.length ≤ cap ∧ (a = none → cap = 0) ∧ NumR w a l ∧ (∀ p, a = some p → v.ownBlock = some p.block) := by
  have h0 := h
  rcases h.2 with ⟨rfl, h2⟩ | ⟨g, cap, cur, rfl, hg, hh, hn, hc, hs, ht⟩
  · have : l = [] := by simpa using h2
    subst this
    exact ⟨none, 0, rfl, Nat.le_refl _, fun _ => rfl, ⟨by simp, by simp, .inl rfl⟩, by simp⟩
  · refine ⟨some ⟨g, 0, none⟩, cap, rfl, hn, by simp, ⟨hl, hok, .inr ⟨g, 0, rfl, fun i x hx => ?_⟩⟩, by simp [Value.ownBlock]⟩
    have hi := getI_lt hx
    rw [Nat.zero_add, World.ownsRow.cellAt h0 i (by omega), List.getElem?_map, hx]; rfl
theorem info3i : (Try.prog.info? 3).map (fun i => (i.zero, i.size, i.bytes)) = some (some (.int .i64 0), 1, 8) := by kernel_rfl
theorem run_appI (ty : TypeId) (w : World) (v : Value) (l : List Int) (hown : NumL w v l) (ad : Addr) (c : Nat) (m : List Int) (n : Nat) (hn : m.length = n) (hm : ∀ j u, (m.map (Value.int .i64))[j]? = some u → w.cell? (ad.add j) = some u) (hk : l.length + n ≤ 1000000) :
    ∃ v' w', (Builtin.append_ #[40, 40] ty #[v, .slice (some ad) n c]).run Try.prog w = .ok v' w' ∧ NumL w' v' (l ++ m) ∧ w.grownBy w' v.ownBlock ∧ Moved w v v' := by
  subst hn
  obtain ⟨i0, hi, hz0, hz1, hz2⟩ := info_parts info3i
  obtain ⟨v', w', h1, h2, h3, h4⟩ := run_appN 40 ty 3 i0 _ 8 1 Try.underlying40 hi hz0 hz1 hz2 rfl (by decide) w v l.length (l.map (Value.int .i64)) hown ad m.length c (m.map (Value.int .i64)) (by simp) hm (by simp [Value.oneCell']) (by unfold maxLen; omega) (by omega)
  exact ⟨v', w', h1, by unfold NumL; rw [List.length_append, List.map_append]; exact h2, h3, h4⟩
/-- One more number. -/
theorem wpList_appI1 {w : World} {ops : Array Oper} {rest : List Oper} {o : Oper} {a : Act} {Q : Exit → Act → World → Prop} (hgd : o.guard = none) (s t : Operand)
    (ho : o.op = .call { callee := .builtin .append, args := #[s, t], argTypes := #[40, 40] }) (v : Value) (l : List Int) (hs : a.eval s = v) (hown : NumL w v l)
    (ad : Addr) (c : Nat) (ht : a.eval t = .slice (some ad) 1 c) (x : Int) (hx : w.cell? ad = some (.int .i64 x)) (hk : l.length < 1000000)
    (h : ∀ v' w', NumL w' v' (l ++ [x]) → w.grownBy w' v.ownBlock → Moved w v v' → wpList Try.prog ops Q rest (a.put o.dst v') w') : wpList Try.prog ops Q (o :: rest) a w := by
  obtain ⟨v', w', hrun, r1, r2, r3⟩ := run_appI o.type w v l hown ad c [x] 1 rfl (fun j u hj => by
    match j, hj with
    | 0, hj => simp at hj; subst hj; rw [add_zero]; exact hx
    | j + 1, hj => simp at hj) (by omega)
  refine wpList_plain hgd fun _ hK => ?_
  unfold Oper.wp
  simp [execOp, ho, resolve, invoke, builtin, hs, ht, hrun, Result.andThen]
  exact hK _ _ (h v' w' r1 r2 r3)
/-- Numbers appended, from a row that can be read. -/
theorem wpList_appIL {w : World} {ops : Array Oper} {rest : List Oper} {o : Oper} {a : Act} {Q : Exit → Act → World → Prop} (hgd : o.guard = none) (s t : Operand)
    (ho : o.op = .call { callee := .builtin .append, args := #[s, t], argTypes := #[40, 40] }) (v : Value) (l m : List Int) (hs : a.eval s = v) (hown : NumL w v l)
    (ad : Option Addr) (n c : Nat) (ht : a.eval t = .slice ad n c) (hn : m.length = n) (hnil : ad = none → c = 0) (hr : NumR w ad m) (hk : l.length + n ≤ 1000000)
    (h : ∀ v' w', NumL w' v' (l ++ m) → w.grownBy w' v.ownBlock → Moved w v v' → wpList Try.prog ops Q rest (a.put o.dst v') w') : wpList Try.prog ops Q (o :: rest) a w := by
  subst hn
  obtain ⟨i0, hi, hz0, hz1, hz2⟩ := info_parts info3i
  rcases ad with _ | ad
  · obtain rfl : m = [] := by rcases hr.2.2 with h | ⟨_, _, h, _⟩ <;> simp_all
    obtain rfl := hnil rfl
    exact wpList_append_own_none hgd s t 40 ho 0 3 i0 1 Try.underlying40 hi v _ _ hs hown ht (h v w (by simpa using hown) ⟨rfl, rfl, rfl, Nat.le_refl _, fun _ _ _ => rfl⟩ (Moved.refl _ _))
  · obtain ⟨v', w', hrun, r1, r2, r3⟩ := run_appI o.type w v l hown ad c m m.length rfl (fun j u hj => by
        rw [List.getElem?_map] at hj
        obtain ⟨x, hx, rfl⟩ := Option.map_eq_some_iff.1 hj
        obtain ⟨b, off, hb, c1, _⟩ := hr.at hx
        simp at hb; subst hb
        rw [add_plain]; exact c1) hk
    refine wpList_plain hgd fun _ hK => ?_
    unfold Oper.wp
    simp [execOp, ho, resolve, invoke, builtin, hs, ht, hrun, Result.andThen]
    exact hK _ _ (h v' w' r1 r2 r3)
theorem size3i (wx : World) : (sizeOf (Try.prog.elem 40)).run Try.prog wx = .ok 1 wx := by kernel_rfl
theorem under40 : Try.prog.underlying 40 = some (.slice (Try.prog.elem 40)) := by kernel_rfl
theorem sliceI_l (a A : Option Addr) (len cap k : Nat) (lo : Int) (hA : A = if cap = k then a else a.map (·.add k)) (hlo : lo = k) (hm : k ≤ len) (wx : World) :
    (Instr.sliceAt 40 (.slice a len cap) (some (.int .i64 lo)) none none).run Try.prog wx = .ok (.slice A (len - k) (cap - k)) wx := by
  subst hlo; subst hA
  rw [run_sliceAt_slice (h := under40), run_slice_l (ht := under40) (h0 := by omega) (h1 := by omega), size3i]
  simp only [Result.andThen, sliced, Nat.mul_one]
  rw [show (k : Int).toNat = k from by omega]
set_option maxHeartbeats 1000000 in
theorem ris_c (x : Sp) (w : World) : Calls Try.prog 38 #[valS x] w fun E w' => E = .returned (.bool (isB x)) ∧ Away [] w w' := by
  obtain ⟨f, t⟩ := x
  simp only [valS]
  by_cases h1 : 0 ≤ f
  · by_cases h2 : f < t
    · by_cases h3 : t ≤ 65535
      · have hR : Hid (isB (f, t) = true) := by show _ = _; rw [isB_iff]; exact ⟨h1, h2, h3⟩
        generalize isB (f, t) = R at *
        go_enter Try.func38, Try.ntmps38
        go_wp2
        go_ret
        exact ⟨by rw [hR.out]; first | rfl | simp, (Away.refl _ _).alloc _⟩
      · have hR : Hid (isB (f, t) = false) := by show _ = _; rw [Bool.eq_false_iff, ne_eq, isB_iff]; unfold Is; simp only; omega
        generalize isB (f, t) = R at *
        go_enter Try.func38, Try.ntmps38
        go_wp2
        go_ret
        exact ⟨by rw [hR.out]; first | rfl | simp, (Away.refl _ _).alloc _⟩
    · have hR : Hid (isB (f, t) = false) := by show _ = _; rw [Bool.eq_false_iff, ne_eq, isB_iff]; unfold Is; simp only; omega
      generalize isB (f, t) = R at *
      go_enter Try.func38, Try.ntmps38
      go_wp2
      go_ret
      exact ⟨by rw [hR.out]; first | rfl | simp, (Away.refl _ _).alloc _⟩
  · have hR : Hid (isB (f, t) = false) := by show _ = _; rw [Bool.eq_false_iff, ne_eq, isB_iff]; unfold Is; simp only; omega
    generalize isB (f, t) = R at *
    go_enter Try.func38, Try.ntmps38
    go_wp2
    go_ret
    exact ⟨by rw [hR.out]; first | rfl | simp, (Away.refl _ _).alloc _⟩

set_option maxHeartbeats 1000000 in
theorem rin_c (a : Option Addr) (l : List Sp) (n cap : Nat) (m : Int) (w : World) (hn : l.length = n) (hr : Row w a l) :
    Calls Try.prog 45 #[.slice a n cap, .int .i64 m] w fun E w' => E = .returned (.bool (inB l m)) ∧ w' = w := by
  subst hn
  have hlen := hr.1
  obtain ⟨z, hz⟩ : ∃ z, z = inB l m := ⟨_, rfl⟩
  rw [← hz]
  have HZ : Hid (z = inB l m) := hz
  clear hz
  go_enter Try.func45, Try.ntmps45
  go_wp2_with fail
  go_loopw [5] (fun i wr => ∃ (k : Nat), k ≤ l.length ∧ i = .int .i64 k ∧ wr = w ∧ inB l m = inB (l.drop k) m) (fun i _ => l.length - (intOf i).toNat)
  case atStart => exact ⟨0, by omega, rfl, rfl, rfl⟩
  case round =>
    obtain ⟨k, hk, rfl, rfl, hq⟩ := hrel
    have HQ : Hid (inB l m = inB (l.drop k) m) := hq
    clear hq
    by_cases hlt : k < l.length
    · obtain ⟨x, hx, _⟩ := get_of hlt
      obtain ⟨b, off, rfl, c1, c2, -⟩ := hr.at hx
      have HA : Hid (inB (l.drop k) m = (inS x m || inB (l.drop (k + 1)) m)) := by show _ = _; rw [drop_at hx]; rfl
      clear hx
      obtain ⟨x1, x2⟩ := x
      simp only at c1 c2
      by_cases h1 : x1 ≤ m
      · by_cases h2 : m < x2
        · have HS : Hid (inS (x1, x2) m = true) := by show _ = _; rw [inS_iff]; exact ⟨h1, h2⟩
          go_wp2_with fail
          go_ret
          exact ⟨by rw [HZ.out, HQ.out, HA.out, HS.out]; rfl, rfl⟩
        · have HS : Hid (inS (x1, x2) m = false) := by show _ = _; rw [Bool.eq_false_iff, ne_eq, inS_iff]; simp only; omega
          go_wp2_with fail
          go_roundw
          case rel => exact ⟨k + 1, by omega, by go_num, by trivial, by rw [HQ.out, HA.out, HS.out]; rfl⟩
          case measure => simp [intOf]; omega
      · have HS : Hid (inS (x1, x2) m = false) := by show _ = _; rw [Bool.eq_false_iff, ne_eq, inS_iff]; simp only; omega
        go_wp2_with fail
        go_roundw
        case rel => exact ⟨k + 1, by omega, by go_num, by trivial, by rw [HQ.out, HA.out, HS.out]; rfl⟩
        case measure => simp [intOf]; omega
    · go_wp2_with fail
      go_ret
      exact ⟨by rw [HZ.out, HQ.out, List.drop_eq_nil_of_le (by omega)]; rfl, rfl⟩


def MkI (w w' : World) (v : Value) (l : List Int) : Prop := NumL w' v l ∧ New w.heap.size v ∧ Away [] w w'
set_option maxHeartbeats 4000000 in
theorem rput_c (a : Option Addr) (l : List Int) (n : Int) (len cap : Nat) (w : World) (hn : l.length = len) (hcap : len ≤ cap) (hnil : a = none → cap = 0) (hr : NumR w a l) :
    Calls Try.prog 56 #[.slice a len cap, .int .i64 n] w fun E w' => ∃ v, E = .returned v ∧ MkI w w' v (putI n l) := by
  subst hn
  have hlen := hr.1
  have HR : Hid (NumR w a l) := hr
  have HN : Hid (a = none → cap = 0) := hnil
  clear hr hnil
  go_enter Try.func56, Try.ntmps56
  go_wp2_with fail
  go_loopw [5, 6] (fun v i wr => ∃ k : Nat, k ≤ l.length ∧ i = .int .i64 k ∧ (∀ x ∈ l.take k, x < n) ∧ MkI w wr v (l.take k)) (fun _ i _ => l.length - (intOf i).toNat)
  case atStart => exact ⟨0, by omega, rfl, by simp, NumL.nil _, New.nil _, Away.refl _ _⟩
  case round =>
    obtain ⟨k, hk, rfl, hall, hl, hnew, haw⟩ := hrel
    have hsw := haw.size
    have HALL : Hid (∀ x ∈ l.take k, x < n) := hall
    have HL : Hid (NumL wr u5 (l.take k)) := hl
    have HNW : Hid (New w.heap.size u5) := hnew
    have HAW : Hid (Away [] w wr) := haw
    have HKL : Hid ((l.take k).length = k) := by show _ = _; simp; omega
    clear hall hl hnew haw
    by_cases hlt : k < l.length
    · obtain ⟨x, hx, _⟩ := getI_of hlt
      obtain ⟨b, off, rfl, c1, -⟩ := (HR.out.on HAW.out).at hx
      have HX : Hid (l[k]? = some x) := hx
      clear hx
      by_cases hxn : x < n
      · have HT : Hid (l.take (k + 1) = l.take k ++ [x]) := takeI_snoc HX.out
        generalize l.take k = m at *
        go_wp2_with (at_builtin; refine wpList_appI1 rfl _ _ rfl _ m rfl (by exact HL.out.on ((Away.refl [] _).alloc _)) ⟨_, 0, none⟩ 1 rfl x (by rw [World.cell?_alloc_at (hn := rfl)]; rfl) (by rw [HKL.out]; omega) ?_)
        intro v' w2 hown2 hgr hmov
        go_wp2_with fail
        go_roundw
        case rel => exact ⟨k + 1, by omega, by go_num, by rw [HT.out]; intro y hy; rcases List.mem_append.1 hy with h | h; exact HALL.out y h; simp at h; omega, by rw [HT.out]; exact ⟨hown2, HNW.out.moved hmov (by simp; omega), (HAW.out.alloc _).step hgr HNW.out⟩⟩
        case measure => simp [intOf]; omega
      · by_cases hxe : x = n
        · have HC : Hid (∀ W, Away [] w W → W.cell? ⟨b, off + k, none⟩ = some (.int .i64 x)) := fun W h => by
            obtain ⟨b2, o2, e, c, -⟩ := (HR.out.on h).at HX.out
            simp only [Option.some.injEq, Addr.mk.injEq] at e
            obtain ⟨rfl, rfl, -⟩ := e
            exact c
          have HP : Hid (putI n l = l.take k ++ n :: l.drop (k + 1)) := by
            show _ = _
            rw [putI_at (k := k) (by omega) HALL.out (fun y hy => by rw [HX.out] at hy; simp at hy; omega), if_pos (by rw [HX.out, hxe])]
          obtain ⟨A, hA⟩ : ∃ A, A = if cap = (k + 1) then (some ⟨b, off, none⟩) else ((some ⟨b, off, none⟩) : Option Addr).map (·.add (k + 1)) := ⟨_, rfl⟩
          have hs2 := sliceI_l (some ⟨b, off, none⟩) A l.length cap (k + 1) (((k + 1) : Nat) : Int) hA rfl (by omega)
          have HRT : Hid (∀ W, Away [] w W → NumR W A (l.drop (k + 1))) := fun W h => by rw [hA]; exact (HR.out.on h).tail (k + 1) cap hcap (by omega)
          have HNA : Hid (A = none → cap - (k + 1) = 0) := fun h => by
            rw [hA] at h
            split at h
            · omega
            · have h2 : ((some ⟨b, off, none⟩) : Option Addr) = none := Option.map_eq_none_iff.1 h
              have := HN.out h2
              omega
          have HDL : Hid ((l.drop (k + 1)).length = l.length - (k + 1)) := by show _ = _; simp
          clear hA
          rw [show ((k + 1 : Nat) : Int) = (k : Int) + 1 from by omega] at hs2
          subst hxe
          clear hxn
          generalize l.drop (k + 1) = dd at *
          generalize l.take k = m at *
          go_wp2_with (at_builtin; refine wpList_appI1 rfl _ _ rfl _ m rfl (by exact HL.out.on ((Away.refl [] _).alloc _)) ⟨_, 0, none⟩ 1 rfl x (by rw [World.cell?_alloc_at (hn := rfl)]; rfl) (by rw [HKL.out]; omega) ?_)
          intro v2 w2 hown2 hgr2 hmov2
          have HM2 : Hid (MkI w w2 v2 (m ++ [x])) := ⟨hown2, HNW.out.moved hmov2 (by simp; omega), (HAW.out.alloc _).step hgr2 HNW.out⟩
          have hs22 := HM2.out.2.2.size
          clear hown2 hgr2 hmov2
          have c1 : w2.cell? ⟨b, off + k, none⟩ = some (.int .i64 x) := HC.out _ HM2.out.2.2
          go_wp2_with (at_builtin; refine wpList_appIL rfl _ _ rfl _ (m ++ [x]) dd rfl (by exact HM2.out.1) A (l.length - (k + 1)) (cap - (k + 1)) rfl HDL.out HNA.out (by exact HRT.out _ HM2.out.2.2) (by rw [List.length_append, HKL.out]; simp; omega) ?_)
          intro v3 w3 hown3 hgr3 hmov3
          go_wp2_with fail
          go_ret
          exact ⟨_, rfl, by rw [HP.out]; exact hown3, HM2.out.2.1.moved hmov3 (by omega), HM2.out.2.2.step hgr3 HM2.out.2.1⟩
        · have HC : Hid (∀ W, Away [] w W → W.cell? ⟨b, off + k, none⟩ = some (.int .i64 x)) := fun W h => by
            obtain ⟨b2, o2, e, c, -⟩ := (HR.out.on h).at HX.out
            simp only [Option.some.injEq, Addr.mk.injEq] at e
            obtain ⟨rfl, rfl, -⟩ := e
            exact c
          have HP : Hid (putI n l = l.take k ++ n :: l.drop k) := by
            show _ = _
            rw [putI_at (k := k) (by omega) HALL.out (fun y hy => by rw [HX.out] at hy; simp at hy; omega), if_neg (by rw [HX.out]; simp; omega)]
          obtain ⟨A, hA⟩ : ∃ A, A = if cap = k then (some ⟨b, off, none⟩) else ((some ⟨b, off, none⟩) : Option Addr).map (·.add k) := ⟨_, rfl⟩
          have hs2 := sliceI_l (some ⟨b, off, none⟩) A l.length cap k ((k : Nat) : Int) hA rfl (by omega)
          have HRT : Hid (∀ W, Away [] w W → NumR W A (l.drop k)) := fun W h => by rw [hA]; exact (HR.out.on h).tail k cap hcap (by omega)
          have HNA : Hid (A = none → cap - k = 0) := fun h => by
            rw [hA] at h
            split at h
            · omega
            · have h2 : ((some ⟨b, off, none⟩) : Option Addr) = none := Option.map_eq_none_iff.1 h
              have := HN.out h2
              omega
          have HDL : Hid ((l.drop k).length = l.length - k) := by show _ = _; simp
          clear hA
          generalize l.drop k = dd at *
          generalize l.take k = m at *
          go_wp2_with (at_builtin; refine wpList_appI1 rfl _ _ rfl _ m rfl (by exact HL.out.on ((Away.refl [] _).alloc _)) ⟨_, 0, none⟩ 1 rfl n (by rw [World.cell?_alloc_at (hn := rfl)]; rfl) (by rw [HKL.out]; omega) ?_)
          intro v2 w2 hown2 hgr2 hmov2
          have HM2 : Hid (MkI w w2 v2 (m ++ [n])) := ⟨hown2, HNW.out.moved hmov2 (by simp; omega), (HAW.out.alloc _).step hgr2 HNW.out⟩
          have hs22 := HM2.out.2.2.size
          clear hown2 hgr2 hmov2
          have c1 : w2.cell? ⟨b, off + k, none⟩ = some (.int .i64 x) := HC.out _ HM2.out.2.2
          go_wp2_with (at_builtin; refine wpList_appIL rfl _ _ rfl _ (m ++ [n]) dd rfl (by exact HM2.out.1) A (l.length - k) (cap - k) rfl HDL.out HNA.out (by exact HRT.out _ HM2.out.2.2) (by rw [List.length_append, HKL.out]; simp; omega) ?_)
          intro v3 w3 hown3 hgr3 hmov3
          go_wp2_with fail
          go_ret
          exact ⟨_, rfl, by rw [HP.out]; exact hown3, HM2.out.2.1.moved hmov3 (by omega), HM2.out.2.2.step hgr3 HM2.out.2.1⟩
    · have _hd : True := trivial
      have HP : Hid (putI n l = l.take k ++ n :: l.drop k) := by
        show _ = _
        rw [putI_at (k := k) (by omega) HALL.out (fun y hy => by rw [List.getElem?_eq_none (by omega)] at hy; simp at hy), if_neg (by rw [List.getElem?_eq_none (by omega)]; simp)]
      obtain ⟨A, hA⟩ : ∃ A, A = if cap = k then a else (a : Option Addr).map (·.add k) := ⟨_, rfl⟩
      have hs2 := sliceI_l a A l.length cap k ((k : Nat) : Int) hA rfl (by omega)
      have HRT : Hid (∀ W, Away [] w W → NumR W A (l.drop k)) := fun W h => by rw [hA]; exact (HR.out.on h).tail k cap hcap (by omega)
      have HNA : Hid (A = none → cap - k = 0) := fun h => by
        rw [hA] at h
        split at h
        · omega
        · have h2 : (a : Option Addr) = none := Option.map_eq_none_iff.1 h
          have := HN.out h2
          omega
      have HDL : Hid ((l.drop k).length = l.length - k) := by show _ = _; simp
      clear hA
      generalize l.drop k = dd at *
      generalize l.take k = m at *
      go_wp2_with (at_builtin; refine wpList_appI1 rfl _ _ rfl _ m rfl (by exact HL.out.on ((Away.refl [] _).alloc _)) ⟨_, 0, none⟩ 1 rfl n (by rw [World.cell?_alloc_at (hn := rfl)]; rfl) (by rw [HKL.out]; omega) ?_)
      intro v2 w2 hown2 hgr2 hmov2
      have HM2 : Hid (MkI w w2 v2 (m ++ [n])) := ⟨hown2, HNW.out.moved hmov2 (by simp; omega), (HAW.out.alloc _).step hgr2 HNW.out⟩
      have hs22 := HM2.out.2.2.size
      clear hown2 hgr2 hmov2
      go_wp2_with (at_builtin; refine wpList_appIL rfl _ _ rfl _ (m ++ [n]) dd rfl (by exact HM2.out.1) A (l.length - k) (cap - k) rfl HDL.out HNA.out (by exact HRT.out _ HM2.out.2.2) (by rw [List.length_append, HKL.out]; simp; omega) ?_)
      intro v3 w3 hown3 hgr3 hmov3
      go_wp2_with fail
      go_ret
      exact ⟨_, rfl, by rw [HP.out]; exact hown3, HM2.out.2.1.moved hmov3 (by omega), HM2.out.2.2.step hgr3 HM2.out.2.1⟩

set_option maxHeartbeats 4000000 in
theorem rends_c (a : Option Addr) (l : List Sp) (n cap : Nat) (w : World) (hn : l.length = n) (hr : Row w a l) (hi : ∀ s ∈ l, Is s) :
    Calls Try.prog 44 #[.slice a n cap] w fun E w' => ∃ v, E = .returned v ∧ MkI w w' v (endsP l) := by
  subst hn
  have hlen := hr.1
  have HR : Hid (Row w a l) := hr
  have HI : Hid (∀ s ∈ l, Is s) := hi
  clear hr hi
  go_enter Try.func44, Try.ntmps44
  go_wp2_with fail
  go_loopw [3, 4] (fun v i wr => ∃ k : Nat, k ≤ l.length ∧ i = .int .i64 k ∧ MkI w wr v (endsP (l.take k))) (fun _ i _ => l.length - (intOf i).toNat)
  case atStart => exact ⟨0, by omega, rfl, NumL.nil _, New.nil _, Away.refl _ _⟩
  case round =>
    obtain ⟨k, hk, rfl, hl, hnew, haw⟩ := hrel
    have hsw := haw.size
    have HAW : Hid (Away [] w wr) := haw
    by_cases hlt : k < l.length
    · obtain ⟨x, hx, hxm⟩ := get_of hlt
      have HT : Hid (endsP (l.take (k + 1)) = putI x.2 (putI x.1 (endsP (l.take k)))) := by show _ = _; rw [take_snoc hx, ends_snoc]
      have HE1 : Hid ((endsP (l.take k)).length ≤ 65536) := ends_take HI.out k
      have hin := ends_in (l := l.take k) (fun s hs => HI.out s (List.mem_of_mem_take hs))
      have hxi := HI.out x hxm
      obtain ⟨va, vc, hv, hv1, hv2, hv3, -⟩ := hl.row (by have := HE1.out; omega) (fun y hy => by have := hin y hy; exact ⟨by omega, by omega⟩)
      have HPB : Hid (∀ y ∈ putI x.1 (endsP (l.take k)), I64 y) := fun y hy => by
        rcases putI_mem.1 hy with rfl | hy
        · exact ⟨by omega, by omega⟩
        · have := hin y hy; exact ⟨by omega, by omega⟩
      have HPL : Hid ((putI x.1 (endsP (l.take k))).length ≤ 65537) := by have := putI_len (n := x.1) (l := endsP (l.take k)); have := HE1.out; show _ ≤ _; omega
      have HXX : Hid (l[k]? = some x) := hx
      obtain ⟨b, off, rfl, c1, c2, -⟩ := (HR.out.on HAW.out).at hx
      have HC : Hid (∀ W, Away [] w W → W.cell? ⟨b, off + k * 2 + 1, none⟩ = some (.int .i64 x.2)) := fun W h => by
        obtain ⟨b2, o2, e, -, c, -⟩ := (HR.out.on h).at HXX.out
        simp only [Option.some.injEq, Addr.mk.injEq] at e
        obtain ⟨rfl, rfl, -⟩ := e
        exact c
      have HV3 : Hid (NumR wr va (endsP (l.take k))) := hv3
      have HV2 : Hid (va = none → vc = 0) := hv2
      subst hv
      clear hin hxi hx hxm hl hv2 hv3 c2 haw
      have HHV : Hid ((endsP (l.take k)).length ≤ vc) := hv1
      clear hv1
      generalize endsP (l.take k) = ee at *
      obtain ⟨x1, x2⟩ := x
      simp only at c1
      go_wp2_with fail
      refine (rput_c va ee x1 _ vc _ rfl HHV.out HV2.out (by exact HV3.out)).mono ?_
      rintro E w2 ⟨v2, rfl, hl2, hnew2, haw2⟩
      obtain ⟨va2, vc2, hv, hv1, hv2, hv3, -⟩ := hl2.row (by have := HPL.out; omega) HPB.out
      have HV32 : Hid (NumR w2 va2 (putI x1 ee)) := hv3
      have HV22 : Hid (va2 = none → vc2 = 0) := hv2
      have HHV2 : Hid ((putI x1 ee).length ≤ vc2) := hv1
      have HAW2 : Hid (Away [] w w2) := HAW.out.trans haw2
      have c2 : w2.cell? ⟨b, off + k * 2 + 1, none⟩ = some (.int .i64 x2) := HC.out _ HAW2.out
      subst hv
      clear hv1 hv2 hv3 hl2 hnew2 haw2
      generalize putI x1 ee = e2 at *
      go_wp2_with fail
      refine (rput_c va2 e2 x2 _ vc2 _ rfl HHV2.out HV22.out (by exact HV32.out)).mono ?_
      rintro E w3 ⟨v3, rfl, hl3, hnew3, haw3⟩
      have hs3 := HAW2.out.size
      go_wp2_with fail
      go_roundw
      case rel => exact ⟨k + 1, by omega, by go_num, by rw [HT.out]; exact ⟨hl3, hnew3.mono (by omega), HAW2.out.trans haw3⟩⟩
      case measure => simp [intOf]; omega
    · go_wp2_with fail
      go_ret
      refine ⟨_, rfl, ?_, hnew, haw⟩
      rw [List.take_of_length_le (by omega)] at hl; exact hl
#print axioms rends_c
end Go.Proofs.Ytckiiidigajhpaa
