/-
  For RecutKeeps: the law's own marked.
-/
import Derived.Test.YtaicckenpplceaaDoorHelp
import Derived.Test.YtaicckenpplceaaDoorQt6
import Derived.Test.YtaicckenpplceaaDoorLp
namespace Go.Proofs.YtaicckenpplceaaDoor
open Go.ChangeShapes Go.WideShapes Go.ChangeAt Go.RowKit Num
open S6 (wp_region_cls quiet_val quiet_call quiet_ld)
set_option linter.unusedVariables false
set_option linter.unusedSimpArgs false
set_option maxRecDepth 100000
namespace Mk
theorem cells_row {w : World} {a : Option Addr} {l : List Int} (h : Row w a l) {k : Nat} (hk : k < l.length) : ∃ b off, a = some ⟨b, off, none⟩ ∧ w.cell? ⟨b, off + k, none⟩ = some (.int .u8 (l[k]?.getD 0)) := by
  rcases h.2.2 with h0 | ⟨b, off, rfl, hc⟩
  · rw [h0] at hk; simp at hk
  · exact ⟨b, off, rfl, hc k hk⟩
theorem hidI {p : Prop} (h : p) : Hid p := h
def Sep (S T : List Nat) : Prop := ∀ x ∈ S, x ∉ T
theorem Sep.symm {S T : List Nat} (h : Sep S T) : Sep T S := fun x hx hc => h x hc hx
theorem drewN_drewN (w : World) (a b : Nat) : (w.drewN a).drewN b = w.drewN (a + b) := by simp [World.drewN, Nat.add_assoc]
/-- Worlds that drew. -/
def DrewC (w W : World) : Prop := ∃ q, W = w.drewN q
theorem DrewC.call {w : World} {f : FuncId} {args : Array Value} {v : Value} (h : ∀ q, Calls Tryd.prog f args (w.drewN q) fun E w' => E = .returned v ∧ ∃ n, w' = (w.drewN q).drewN n) : ∀ W, DrewC w W → Calls Tryd.prog f args W fun e w' => e = .returned v ∧ DrewC w w' := by
  rintro W ⟨q, rfl⟩
  refine (h q).mono ?_
  rintro E w' ⟨rfl, n, rfl⟩
  exact ⟨rfl, q + n, drewN_drewN _ _ _⟩
theorem DrewC.cell {w W : World} (h : DrewC w W) {ad : Addr} {v : Value} (hc : w.cell? ad = some v) : W.cell? ad = some v := by obtain ⟨q, rfl⟩ := h; exact hc
theorem Owns.two {w : World} {v : Value} {l : List Int} (h : Owns w v l) : (v = .slice none 0 0 ∧ l.length = 0) ∨ ∃ g c, v = .slice (some ⟨g, 0, none⟩) l.length c := by
  rcases h.2 with ⟨h3, h4⟩ | ⟨g, c, cur, h3, _⟩
  · exact .inl ⟨h3, by simpa using h4⟩
  · exact .inr ⟨g, c, by rw [h3, List.length_map]⟩
theorem Owns.blk {w : World} {g n cap : Nat} {l : List Int} (h : Owns w (.slice (some ⟨g, 0, none⟩) n cap) l) : ∃ cur : List Value, (w.heap[g]? = some (.cells cur.toArray 5 (0, 0)) ∧ cur.length = cap) ∧ cap ≤ maxLen ∧ n ≤ cap ∧ cur.take n = l.map (Value.int .u8) ∧ l.length = n := by
  rcases h.2 with ⟨h2, _⟩ | ⟨g', cap', cur, he, hg, hh, hn, hc, hs, ht⟩
  · simp at h2
  · simp only [Value.slice.injEq, Option.some.injEq, Addr.mk.injEq, List.length_map] at he
    obtain ⟨⟨rfl, -, -⟩, rfl, rfl⟩ := he
    exact ⟨cur.toList, ⟨by simpa using hh, by simpa using hs⟩, hc, by simpa using hn, by simpa using ht, rfl⟩
theorem owns_of {w : World} {g n cap : Nat} {l : List Int} {cur : List Value} (h : w.heap[g]? = some (.cells cur.toArray 5 (0, 0)) ∧ cur.length = cap) (hc : cap ≤ maxLen) (hn : l.length = n) (hnc : n ≤ cap) (ht : cur.take n = l.map (Value.int .u8)) : Owns w (.slice (some ⟨g, 0, none⟩) n cap) l := by
  subst hn
  exact ⟨by simp, .inr ⟨g, cap, cur.toArray, by simp, Nat.zero_le _, h.1, by simpa using hnc, hc, by simpa using h.2, by simpa using ht⟩⟩
/-- A shorter slice of a list of the program's own. -/
theorem Owns.head {w : World} {g n cap k : Nat} {l : List Int} (h : Owns w (.slice (some ⟨g, 0, none⟩) n cap) l) (hk : k ≤ n) : Owns w (.slice (some ⟨g, 0, none⟩) k cap) (l.take k) := by
  obtain ⟨cur, hb, hcm, hnc, ht, hln⟩ := Owns.blk h
  refine owns_of hb hcm (by simp; omega) (by omega) ?_
  rw [List.map_take, ← ht, List.take_take, Nat.min_eq_left hk]
/-- One more byte: in place, or in new memory with all else as it was. -/
def OneMore (w : World) (v : Value) (l : List Int) (x : Int) (v' : Value) (w' : World) : Prop :=
  Owns w' v' (l ++ [x]) ∧ ((∃ g cap, v = .slice (some ⟨g, 0, none⟩) l.length cap ∧ v' = .slice (some ⟨g, 0, none⟩) (l.length + 1) cap ∧ Away [g] w w') ∨ (New w.heap.size v' ∧ Away [] w w'))
theorem run_appX (ty : TypeId) (w : World) (v : Value) (l : List Int) (hown : Owns w v l) (ad : Addr) (c : Nat) (x : Int) (hx : w.cell? ad = some (.int .u8 x)) (hk : l.length < 140737488355328) :
    ∃ v' w', (Builtin.append_ #[26, 26] ty #[v, .slice (some ad) 1 c]).run Tryd.prog w = .ok v' w' ∧ OneMore w v l x v' w' := by
  obtain ⟨i0, hi, hz0, hz1, hz2⟩ := info_parts info5
  have hm : ∀ j u, [Value.int .u8 x][j]? = some u → w.cell? (ad.add j) = some u := fun j u hj => by
    match j, hj with
    | 0, hj => simp at hj; subst hj; simpa [Addr.add] using hx
    | j + 1, hj => simp at hj
  have h1 : ∀ u ∈ [Value.int .u8 x], u.oneCell' = true := by simp [Value.oneCell']
  have fin : ∀ {B : Nat} {v' : Value} {w' : World}, w'.ownsRow B 5 1 v' (l.length + 1) (l.map (Value.int .u8) ++ [Value.int .u8 x]) → Owns w' v' (l ++ [x]) := by
    intro B v' w' h
    obtain ⟨h1, h2⟩ := h
    unfold Owns OwnsG
    rw [List.map_append, List.length_append, List.length_map]
    refine ⟨h1, ?_⟩
    rcases h2 with h2 | ⟨g, cap, cur, rfl, hg, r⟩
    · exact .inl h2
    · exact .inr ⟨g, cap, cur, rfl, by omega, r⟩
  have hO : w.ownsRow 0 5 1 v l.length (l.map (Value.int .u8)) := by have := hown; unfold Owns OwnsG at this; rwa [List.length_map] at this
  rcases Owns.two hown with ⟨rfl, h0⟩ | ⟨g, cap, rfl⟩
  · obtain rfl : l = [] := List.eq_nil_of_length_eq_zero h0
    obtain ⟨v', w', hrun, r1, r2, _⟩ := run_append_own (P := Tryd.prog) w w.heap.size 26 ty 5 i0 _ 1 1 Tryd.underlying26 hi hz0 hz1 hz2 rfl (by decide) (.slice none 0 0) 0 [] (World.ownsRow_nil _ _ _ _) ad 1 c [Value.int .u8 x] rfl hm h1 (by unfold maxLen; omega) (by omega) (Nat.le_refl _)
    refine ⟨v', w', hrun, fin (by simpa using r1), .inr ⟨fun k hk => (World.ownsRow.lt r1 k hk).1, (Away.refl _ _).grown r2 (by simp [Value.ownBlock])⟩⟩
  · by_cases hroom : l.length + 1 ≤ cap
    · obtain ⟨w', hrun, r1, r2⟩ := run_append_fits (P := Tryd.prog) w 0 26 ty 5 i0 1 Tryd.underlying26 hi hz1 g l.length cap (l.map (Value.int .u8)) hO ad 1 c [Value.int .u8 x] rfl hm h1 hroom
      exact ⟨_, w', hrun, fin r1, .inl ⟨g, cap, rfl, rfl, (Away.refl _ _).grown r2 (fun k hk => .inl (by simp [Value.ownBlock] at hk; simp [hk]))⟩⟩
    · obtain ⟨v', w', hrun, r1, r2⟩ := run_append_arg_grows (P := Tryd.prog) w 26 ty 5 i0 _ 1 1 Tryd.underlying26 hi hz0 hz1 hz2 rfl (by decide) ⟨g, 0, none⟩ l.length cap (l.map (Value.int .u8)) (by simp) (fun j u hu => by
          have hj : j < (l.map (Value.int .u8)).length := by
            rcases Nat.lt_or_ge j (l.map (Value.int .u8)).length with h | h
            · exact h
            · rw [List.getElem?_eq_none h] at hu; simp at hu
          rw [add_plain, Nat.zero_add, World.ownsRow.cellAt hO j (by simpa using hj)]; exact hu) ad 1 c [Value.int .u8 x] rfl hm (by omega) (by unfold maxLen; omega) (by omega)
      exact ⟨v', w', hrun, fin r1, .inr ⟨fun k hk => (World.ownsRow.lt r1 k hk).1, (Away.refl _ _).grown r2 (by simp)⟩⟩
/-- As a step of a walk. -/
theorem wpList_appX {w : World} {ops : Array Oper} {rest : List Oper} {o : Oper} {a : Act} {Q : Exit → Act → World → Prop} (hgd : o.guard = none) (s t : Operand)
    (ho : o.op = .call { callee := .builtin .append, args := #[s, t], argTypes := #[26, 26] }) (v : Value) (l : List Int) (hs : a.eval s = v) (hown : Owns w v l)
    (ad : Addr) (c : Nat) (ht : a.eval t = .slice (some ad) 1 c) (x : Int) (hx : w.cell? ad = some (.int .u8 x)) (hk : l.length < 140737488355328)
    (h : ∀ v' w', OneMore w v l x v' w' → wpList Tryd.prog ops Q rest (a.put o.dst v') w') : wpList Tryd.prog ops Q (o :: rest) a w := by
  obtain ⟨v', w', hrun, r1⟩ := run_appX o.type w v l hown ad c x hx hk
  refine wpList_plain hgd fun _ hK => ?_
  unfold Oper.wp
  simp [execOp, ho, resolve, invoke, builtin, hs, ht, hrun, Result.andThen]
  exact hK _ _ (h v' w' r1)

/-- A list of slices of the program's own. -/
def LstV (w : World) (v : Value) (xs : List Value) : Prop := w.ownsRow 0 26 1 v xs.length xs
theorem LstV.away {S : List Nat} {w w' : World} {v : Value} {xs : List Value} (h : LstV w v xs) (hw : Away S w w') (ha : ∀ k, v.ownBlock = some k → k ∉ S) : LstV w' v xs := by
  obtain ⟨h1, h2⟩ := h
  refine ⟨h1, ?_⟩
  rcases h2 with h2 | ⟨g, cap, cur, rfl, hg, hh, r⟩
  · exact .inl h2
  · exact .inr ⟨g, cap, cur, rfl, hg, hw.keep (ha g rfl) hh, r⟩
theorem LstV.on {w w' : World} {v : Value} {xs : List Value} (h : LstV w v xs) (hw : Away [] w w') : LstV w' v xs := h.away hw (by simp)
theorem LstV.nil (w : World) : LstV w (.slice none 0 0) [] := World.ownsRow_nil _ _ _ _
theorem LstV.lt {w : World} {v : Value} {xs : List Value} (h : LstV w v xs) : ∀ k, v.ownBlock = some k → k < w.heap.size := fun k hk => (World.ownsRow.lt h k hk).2
theorem LstV.shape {w : World} {v : Value} {xs : List Value} (h : LstV w v xs) : ∃ a cap, v = .slice a xs.length cap ∧ (a = none → cap = 0) ∧ (∀ p, a = some p → p.off = 0 ∧ p.spot = none ∧ v.ownBlock = some p.block) ∧
    ∀ i u, xs[i]? = some u → ∃ g, a = some ⟨g, 0, none⟩ ∧ w.cell? ⟨g, i, none⟩ = some u := by
  have h0 := h
  rcases h.2 with ⟨rfl, h2⟩ | ⟨g, cap, cur, rfl, hg, hh, hn, hc, hs, ht⟩
  · obtain rfl : xs = [] := by simpa using h2
    exact ⟨none, 0, rfl, fun _ => rfl, by simp, by simp⟩
  · refine ⟨some ⟨g, 0, none⟩, cap, rfl, by simp, by simp [Value.ownBlock], fun i u hu => ⟨g, rfl, ?_⟩⟩
    have hi : i < xs.length := by
      rcases Nat.lt_or_ge i xs.length with h' | h'
      · exact h'
      · rw [List.getElem?_eq_none h'] at hu; simp at hu
    rw [World.ownsRow.cellAt h0 i (by omega)]
    exact hu
theorem info25v : (Tryd.prog.info? 26).map (fun i => (i.zero, i.size, i.bytes)) = some (some (.slice none 0 0), 1, 24) := by kernel_rfl
/-- Slices appended, as a step of a walk. -/
theorem wpList_appV {w : World} {ops : Array Oper} {rest : List Oper} {o : Oper} {a : Act} {Q : Exit → Act → World → Prop} (hgd : o.guard = none) (s t : Operand)
    (ho : o.op = .call { callee := .builtin .append, args := #[s, t], argTypes := #[50, 50] }) (v : Value) (xs us : List Value) (hs : a.eval s = v) (hown : LstV w v xs)
    (ad : Addr) (n c : Nat) (ht : a.eval t = .slice (some ad) n c) (hn : us.length = n) (hu : ∀ j u, us[j]? = some u → w.cell? (ad.add j) = some u) (h1 : ∀ u ∈ us, u.oneCell' = true) (hk : xs.length + n ≤ 1000000000)
    (h : ∀ v' w', LstV w' v' (xs ++ us) → Away v.ownBlock.toList w w' → Moved w v v' → wpList Tryd.prog ops Q rest (a.put o.dst v') w') : wpList Tryd.prog ops Q (o :: rest) a w := by
  subst hn
  obtain ⟨i0, hi, hz0, hz1, hz2⟩ := info_parts info25v
  obtain ⟨v', w', hrun, r1, r2, r3⟩ := run_appN 50 o.type 26 i0 _ 24 1 Tryd.underlying50 hi hz0 hz1 hz2 rfl (by decide) w v xs.length xs hown ad us.length c us (by simp) hu h1 (by unfold maxLen; omega) (by omega)
  refine wpList_plain hgd fun _ hK => ?_
  unfold Oper.wp
  simp [execOp, ho, resolve, invoke, builtin, hs, ht, hrun, Result.andThen]
  refine hK _ _ (h v' w' ?_ ((Away.refl _ _).grown r2 (fun k hk => .inl (by simp [hk]))) r3)
  unfold LstV
  rw [List.length_append]
  exact r1
/-- Written full as far as k. -/
def fillP (x : Int) (k : Nat) (l : List Int) : List Int := List.replicate k x ++ l.drop k
theorem fill_zero (x : Int) (l : List Int) : fillP x 0 l = l := by simp [fillP]
theorem fill_len {x : Int} {k : Nat} {l : List Int} (h : k ≤ l.length) : (fillP x k l).length = l.length := by simp [fillP]; omega
theorem fill_step {x : Int} {k : Nat} {l : List Int} (h : k < l.length) : (fillP x k l).set k x = fillP x (k + 1) l := by
  unfold fillP
  rw [List.set_append_right _ _ (by simp), List.length_replicate, Nat.sub_self, List.drop_eq_getElem_cons h, List.set_cons_zero, List.replicate_succ', List.append_assoc]
  rfl
theorem fill_all {x : Int} {l : List Int} {n : Nat} (h : l.length = n) : fillP x n l = List.replicate n x := by
  unfold fillP; rw [List.drop_of_length_le (by omega), List.append_nil]

/-- A list told; what it holds now. -/
structure Held where
  v : Value
  l : List Int
/-- Lists of slices in old memory (below B), what each of them holds, in blocks of their own. -/
structure Old (B : Nat) (w : World) (kv : Value) (T : List Held) : Prop where
  kl : LstV w kv (T.map Held.v)
  own : ∀ t ∈ T, Owns w t.v t.l
  apart : ∀ (i j : Nat) (s t : Held), T[i]? = some s → T[j]? = some t → i ≠ j → ∀ z, s.v.ownBlock = some z → t.v.ownBlock ≠ some z
  outer : ∀ t ∈ T, ∀ z, t.v.ownBlock = some z → kv.ownBlock ≠ some z
  old : (∀ t ∈ T, ∀ z, t.v.ownBlock = some z → z < B) ∧ ∀ z, kv.ownBlock = some z → z < B
/-- The lengthened ones so far: each in its old block, or in a new one. -/
structure Lng (B : Nat) (w : World) (T : List Held) (uv : Value) (Y : List Held) : Prop where
  ul : LstV w uv (Y.map Held.v)
  own : ∀ y ∈ Y, Owns w y.v y.l
  at_ : ∀ (j : Nat) (y : Held), Y[j]? = some y → ∀ z, y.v.ownBlock = some z → (∃ t, T[j]? = some t ∧ t.v.ownBlock = some z) ∨ B ≤ z
  new : New B uv
  ne : ∀ y ∈ Y, ∀ z, y.v.ownBlock = some z → uv.ownBlock ≠ some z
/-- One that is being lengthened: the i-th. -/
structure Now (B : Nat) (w : World) (T : List Held) (uv : Value) (Y : List Held) (t : Held) (x : Value) (m : List Int) : Prop where
  lx : Owns w x m
  pre : t.l = m.take t.l.length
  px : x = t.v ∨ (∃ g c, t.v = .slice (some ⟨g, 0, none⟩) t.l.length c ∧ x = .slice (some ⟨g, 0, none⟩) m.length c) ∨ (∀ z, x.ownBlock = some z → B ≤ z ∧ uv.ownBlock ≠ some z ∧ ∀ y ∈ Y, y.v.ownBlock ≠ some z)
theorem Old.on {B : Nat} {w w' : World} {kv : Value} {T : List Held} (h : Old B w kv T) (hw : Away [] w w') : Old B w' kv T := ⟨h.kl.on hw, fun t ht => (h.own t ht).on hw, h.apart, h.outer, h.old⟩
theorem Lng.on {B : Nat} {w w' : World} {T Y : List Held} {uv : Value} (h : Lng B w T uv Y) (hw : Away [] w w') : Lng B w' T uv Y := ⟨h.ul.on hw, fun y hy => (h.own y hy).on hw, h.at_, h.new, h.ne⟩
theorem Now.on {B : Nat} {w w' : World} {T Y : List Held} {uv x : Value} {t : Held} {m : List Int} (h : Now B w T uv Y t x m) (hw : Away [] w w') : Now B w' T uv Y t x m := ⟨h.lx.on hw, h.pre, h.px⟩
/-- Where the one at hand lies. -/
theorem Now.where_ {B : Nat} {w : World} {T Y : List Held} {uv x : Value} {t : Held} {m : List Int} (h : Now B w T uv Y t x m) : ∀ z, x.ownBlock = some z → t.v.ownBlock = some z ∨ (B ≤ z ∧ uv.ownBlock ≠ some z ∧ ∀ y ∈ Y, y.v.ownBlock ≠ some z) := fun z hz => by
  rcases h.px with rfl | ⟨g, c, h1, h2⟩ | h1
  · exact .inl hz
  · left; rw [h2] at hz; rw [h1]; exact hz
  · exact .inr (h1 z hz)
theorem Now.step {B : Nat} {w w' : World} {kv uv x v' : Value} {T Y : List Held} {t : Held} {i : Nat} {m : List Int} {s : Int} (hB : B ≤ w.heap.size) (ho : Old B w kv T) (hl : Lng B w T uv Y) (h : Now B w T uv Y t x m) (ht : T[i]? = some t) (hY : Y.length = i)
    (hm : OneMore w x m s v' w') : Old B w' kv T ∧ Lng B w' T uv Y ∧ Now B w' T uv Y t v' (m ++ [s]) ∧ Away (x.ownBlock.toList) w w' := by
  have htm := List.mem_of_getElem? ht
  have hle : t.l.length ≤ m.length := by
    have := congrArg List.length h.pre
    rw [List.length_take] at this
    omega
  have hpre : t.l = (m ++ [s]).take t.l.length := by rw [List.take_append_of_le_length hle]; exact h.pre
  rcases hm.2 with ⟨g, cap, hx, hv', ha⟩ | ⟨hn, ha⟩
  · have hxg : x.ownBlock = some g := by rw [hx]; rfl
    have haw : Away x.ownBlock.toList w w' := by rw [hxg]; exact ha
    have hw := h.where_ g hxg
    have hkg : ∀ z, kv.ownBlock = some z → z ∉ [g] := fun z hz hc => by
      simp at hc; subst hc
      rcases hw with h1 | h1
      · exact ho.outer t htm z h1 hz
      · have := ho.old.2 z hz; omega
    have hug : ∀ z, uv.ownBlock = some z → z ∉ [g] := fun z hz hc => by
      simp at hc; subst hc
      rcases hw with h1 | h1
      · have := ho.old.1 t htm z h1; have := hl.new z hz; omega
      · exact h1.2.1 hz
    have hyg : ∀ y ∈ Y, ∀ z, y.v.ownBlock = some z → z ∉ [g] := fun y hy z hz hc => by
      simp at hc; subst hc
      obtain ⟨j, hj⟩ := List.getElem?_of_mem hy
      have hjl : j < Y.length := (List.getElem?_eq_some_iff.1 hj).1
      rcases hw with h1 | h1
      · rcases hl.at_ j y hj z hz with ⟨t', ht', h2⟩ | h2
        · exact ho.apart j i t' t ht' ht (by omega) z h2 h1
        · have := ho.old.1 t htm z h1; omega
      · exact h1.2.2 y hy hz
    refine ⟨⟨ho.kl.away ha hkg, fun t' ht' => ?_, ho.apart, ho.outer, ho.old⟩, ⟨hl.ul.away ha hug, fun y hy => (hl.own y hy).away ha (hyg y hy), hl.at_, hl.new, hl.ne⟩, ⟨hm.1, hpre, ?_⟩, haw⟩
    · by_cases hg : t'.v.ownBlock = some g
      · obtain ⟨j, hj⟩ := List.getElem?_of_mem ht'
        have hji : j = i := by
          rcases Nat.decEq j i with h1 | h1
          · exfalso
            rcases hw with h2 | h2
            · exact ho.apart j i t' t hj ht h1 g hg h2
            · have := ho.old.1 t' ht' g hg; omega
          · exact h1
        subst hji
        rw [ht] at hj
        simp only [Option.some.injEq] at hj
        subst hj
        have h1 := ho.own t htm
        obtain ⟨c', he⟩ : ∃ c', t.v = .slice (some ⟨g, 0, none⟩) t.l.length c' := by
          rcases Owns.two h1 with ⟨h3, _⟩ | ⟨g', c', h3⟩
          · rw [h3] at hg; simp [Value.ownBlock] at hg
          · rw [h3] at hg; simp [Value.ownBlock] at hg; subst hg; exact ⟨c', h3⟩
        have hcap : c' = cap := by
          rcases h.px with h2 | ⟨g2, c2, h2, h3⟩ | h2
          · rw [h2, he] at hx; simp only [Value.slice.injEq] at hx; exact hx.2.2
          · rw [he] at h2; rw [hx] at h3
            simp only [Value.slice.injEq] at h2 h3
            rw [h2.2.2, h3.2.2]
          · have := (h2 g hxg).1; have := ho.old.1 t htm g hg; omega
        subst hcap
        rw [he] at h1 ⊢
        have h5 := hm.1
        rw [hv'] at h5
        have h6 := Owns.head h5 (k := t.l.length) (by omega)
        rw [← hpre] at h6
        exact h6
      · exact (ho.own t' ht').away ha (fun z hz hc => by simp at hc; subst hc; exact hg hz)
    · rcases h.px with h2 | ⟨g2, c2, h2, h3⟩ | h2
      · right; left
        refine ⟨g, cap, ?_, by rw [hv', List.length_append]; rfl⟩
        rw [← h2, hx]
        have h4 := (ho.own t htm)
        rw [← h2, hx] at h4
        obtain ⟨_, _, _, _, _, h7⟩ := Owns.blk h4
        rw [h7]
      · right; left
        rw [hx] at h3
        simp only [Value.slice.injEq, Option.some.injEq, Addr.mk.injEq] at h3
        obtain ⟨⟨rfl, -, -⟩, -, rfl⟩ := h3
        exact ⟨_, _, h2, by rw [hv', List.length_append]; rfl⟩
      · right; right
        intro z hz
        rw [hv'] at hz
        exact h2 z (by rw [hx]; exact hz)
  · refine ⟨ho.on ha, hl.on ha, ⟨hm.1, hpre, .inr (.inr (fun z hz => ?_))⟩, ha.mono (by simp)⟩
    have h1 := hn z hz
    refine ⟨by omega, fun hc => by have := hl.ul.lt z hc; omega, fun y hy hc => by have := (hl.own y hy).lt z hc; omega⟩
theorem quiet_cv {o : Oper} {a : Act} {C : World → Prop} {K : Act → Prop} (x : Operand) (ho : o.op = .convert 26 9 x) (sa : Option Addr) (n c : Nat) (s : ByteArray) (hx : a.eval x = .slice sa n c) (hC : ∀ w, C w → (convert 26 9 (.slice sa n c)).run Tryd.prog w = .ok (.string s) w) (hk : K (a.put o.dst (.string s))) : o.quiet Tryd.prog a C K := by
  refine ⟨_, fun w hw => ?_, hk⟩
  unfold Oper.quietAt execOp
  simp only [ho, hx, Sem.run_bind, hC w hw, Result.andThen_ok]
  exact ⟨rfl, rfl⟩
theorem ld25v {w : World} {ad : Addr} {a : Option Addr} {n c : Nat} (h : w.cell? ad = some (.slice a n c)) : (Instr.loadAt 26 (.pointer (some ad))).run Tryd.prog w = .ok (.slice a n c) w := by
  simp [go_sem, Instr.loadAt, Instr.sureAddr, h]
/-- Lists that were told, and their copies. -/
structure Kept where
  p : List Int
  v : Value
  u : Value
structure Bag (w : World) (kv wv : Value) (T : List Kept) : Prop where
  kl : LstV w kv (T.map Kept.v)
  wl : LstV w wv (T.map Kept.u)
  own : ∀ t ∈ T, Owns w t.v t.p ∧ Owns w t.u t.p ∧ Bytes t.p ∧ t.p.length ≤ 140737488355000
  apart : T.Pairwise (fun s t => Sep s.v.ownBlock.toList t.v.ownBlock.toList)
  outer : ∀ t ∈ T, Sep t.v.ownBlock.toList kv.ownBlock.toList
def mkP (j : Nat) : Int := 1 + ((j % 250 : Nat) : Int)
def Lp (T : List Kept) (j : Nat) : List Int := (T[j]?.map Kept.p).getD []
/-- What the lists hold while they are marked. -/
def conP (T : List Kept) (i k j : Nat) : List Int := if j < i then List.replicate (Lp T j).length (mkP j) else if j = i then fillP (mkP i) k (Lp T i) else Lp T j
theorem con_next (T : List Kept) (i j : Nat) : conP T i (Lp T i).length j = conP T (i + 1) 0 j := by
  unfold conP
  by_cases h1 : j < i
  · rw [if_pos h1, if_pos (by omega)]
  · rw [if_neg h1]
    by_cases h2 : j = i
    · subst h2; rw [if_pos rfl, if_pos (by omega), fill_all rfl]
    · rw [if_neg h2, if_neg (by omega)]
      by_cases h3 : j = i + 1
      · subst h3; rw [if_pos rfl, fill_zero]
      · rw [if_neg h3]
theorem con_len {T : List Kept} {i k j : Nat} (h : k ≤ (Lp T i).length) : (conP T i k j).length = (Lp T j).length := by
  unfold conP
  split
  · simp
  · split
    · rename_i h2; subst h2; exact fill_len h
    · rfl
/-- The lists as they stand. -/
structure Mk2 (wr : World) (kv : Value) (T : List Kept) (C : Nat → List Int) : Prop where
  kl : LstV wr kv (T.map Kept.v)
  own : ∀ j t, T[j]? = some t → Owns wr t.v (C j)
theorem Mk2.congr {wr : World} {kv : Value} {T : List Kept} {C D : Nat → List Int} (h : Mk2 wr kv T C) (e : ∀ j, C j = D j) : Mk2 wr kv T D := ⟨h.kl, fun j t ht => by rw [← e]; exact h.own j t ht⟩
theorem apart_at {T : List Kept} (h : T.Pairwise (fun s t => Sep s.v.ownBlock.toList t.v.ownBlock.toList)) {i j : Nat} {s t : Kept} (hs : T[i]? = some s) (ht : T[j]? = some t) (hij : i ≠ j) : Sep s.v.ownBlock.toList t.v.ownBlock.toList := by
  have hi : i < T.length := (List.getElem?_eq_some_iff.1 hs).1
  have hj : j < T.length := (List.getElem?_eq_some_iff.1 ht).1
  have es := (List.getElem?_eq_some_iff.1 hs).2
  have et := (List.getElem?_eq_some_iff.1 ht).2
  rw [List.pairwise_iff_getElem] at h
  rcases Nat.lt_or_ge i j with h1 | h1
  · have := h i j hi hj h1
    rw [es, et] at this; exact this
  · have := h j i hj hi (by omega)
    rw [es, et] at this; exact this.symm
/-- One span of one of them written over. -/
theorem Mk2.put {wr : World} {kv : Value} {T : List Kept} {i k g n cap : Nat} {t : Kept} (h : Mk2 wr kv T (conP T i k)) (ht : T[i]? = some t) (hv : t.v = .slice (some ⟨g, 0, none⟩) n cap) (hn : n = (Lp T i).length) (hk : k < n)
    (hap : T.Pairwise (fun s t => Sep s.v.ownBlock.toList t.v.ownBlock.toList)) (hou : ∀ t ∈ T, Sep t.v.ownBlock.toList kv.ownBlock.toList) :
    Mk2 (wr.setCell ⟨g, k, none⟩ (.int .u8 (1 + ((i % 250 : Nat) : Int)))) kv T (conP T i (k + 1)) := by
  have hg : t.v.ownBlock = some g := by rw [hv]; rfl
  have aw : Away [g] wr (wr.setCell ⟨g, k, none⟩ (.int .u8 (1 + ((i % 250 : Nat) : Int)))) := (Away.refl [g] wr).setCell (.inl (by simp)) _
  refine ⟨h.kl.away aw (fun z hz hc => ?_), fun j s hs => ?_⟩
  · simp at hc; subst hc
    exact hou t (List.mem_of_getElem? ht) z (by simp [hg]) (by simp [hz])
  · by_cases hij : j = i
    · subst hij
      rw [ht] at hs
      simp only [Option.some.injEq] at hs
      subst hs
      have h1 := h.own j t ht
      rw [hv] at h1 ⊢
      have h2 := h1.set (by rw [con_len (by omega), hn]) k (mkP j)
      have e : (conP T j k j).set k (mkP j) = conP T j (k + 1) j := by
        unfold conP
        rw [if_neg (by omega), if_pos rfl, if_neg (by omega), if_pos rfl]
        exact fill_step (by omega)
      rw [e] at h2
      exact h2
    · have h1 := (h.own j s hs).away aw (fun z hz hc => by
        simp at hc; subst hc
        exact apart_at hap hs ht hij z (by simp [hz]) (by simp [hg]))
      have e : conP T i k j = conP T i (k + 1) j := by
        unfold conP
        rw [if_neg hij, if_neg hij]
      rw [← e]; exact h1
theorem Lng.snoc {B : Nat} {w w' : World} {kv uv uv' x : Value} {T Y : List Held} {t : Held} {i : Nat} {m : List Int} (hB : B ≤ w.heap.size) (ho : Old B w kv T) (hl : Lng B w T uv Y) (h : Now B w T uv Y t x m) (ht : T[i]? = some t) (hY : Y.length = i)
    (h1 : LstV w' uv' (Y.map Held.v ++ [x])) (ha : Away uv.ownBlock.toList w w') (hm : Moved w uv uv') : Old B w' kv T ∧ Lng B w' T uv' (Y ++ [⟨x, m⟩]) := by
  have htm := List.mem_of_getElem? ht
  have hxu : ∀ z, x.ownBlock = some z → z ∉ uv.ownBlock.toList := fun z hz hc => by
    rcases h.where_ z hz with h2 | h2
    · have := ho.old.1 t htm z h2; have := hl.new z (by simpa using hc); omega
    · exact h2.2.1 (by simpa using hc)
  refine ⟨⟨ho.kl.away ha (fun z hz hc => ?_), fun t' ht' => (ho.own t' ht').away ha (fun z hz hc => ?_), ho.apart, ho.outer, ho.old⟩, ⟨by simpa using h1, fun y hy => ?_, fun j y hj z hz => ?_, hl.new.moved hm hB, fun y hy z hz hc => ?_⟩⟩
  · have := ho.old.2 z hz; have := hl.new z (by simpa using hc); omega
  · have := ho.old.1 t' ht' z hz; have := hl.new z (by simpa using hc); omega
  · rw [List.mem_append, List.mem_singleton] at hy
    rcases hy with hy | rfl
    · exact (hl.own y hy).away ha (fun z hz hc => hl.ne y hy z hz (by simpa using hc))
    · exact h.lx.away ha hxu
  · rw [List.getElem?_append] at hj
    split at hj
    · exact hl.at_ j y hj z hz
    · rename_i hjl
      have h0 : j - Y.length = 0 := by
        rcases Nat.eq_zero_or_pos (j - Y.length) with h3 | h3
        · exact h3
        · rw [List.getElem?_eq_none (by simp; omega)] at hj; simp at hj
      rw [h0] at hj
      simp only [List.getElem?_cons_zero, Option.some.injEq] at hj
      subst hj
      have hji : j = i := by omega
      subst hji
      rcases h.where_ z hz with h2 | h2
      · exact .inl ⟨t, ht, h2⟩
      · exact .inr h2.1
  · rw [List.mem_append, List.mem_singleton] at hy
    rcases hm z hc with h2 | h2
    · rcases hy with hy | rfl
      · exact hl.ne y hy z hz h2
      · exact hxu z hz (by simp [h2])
    · rcases hy with hy | rfl
      · have := (hl.own y hy).lt z hz; omega
      · have := h.lx.lt z hz; omega
def TH (T : List Kept) (N : Nat) : List Held := T.mapIdx (fun j t => ⟨t.v, conP T N 0 j⟩)
theorem th_at {T : List Kept} {N j : Nat} {t : Kept} (h : T[j]? = some t) : (TH T N)[j]? = some ⟨t.v, conP T N 0 j⟩ := by unfold TH; rw [List.getElem?_mapIdx, h]; rfl
theorem th_of {T : List Kept} {N j : Nat} {x : Held} (h : (TH T N)[j]? = some x) : ∃ t, T[j]? = some t ∧ x = ⟨t.v, conP T N 0 j⟩ := by
  unfold TH at h
  rw [List.getElem?_mapIdx] at h
  cases ht : T[j]? with
  | none => rw [ht] at h; simp at h
  | some t => rw [ht] at h; simp at h; exact ⟨t, rfl, h.symm⟩
theorem th_map (T : List Kept) (N : Nat) : (TH T N).map Held.v = T.map Kept.v := by
  apply List.ext_getElem?
  intro j
  rw [List.getElem?_map, List.getElem?_map]
  cases ht : T[j]? with
  | none => unfold TH; rw [List.getElem?_mapIdx, ht]; rfl
  | some t => rw [th_at ht]; rfl
set_option maxHeartbeats 8000000 in
theorem marked_c (w : World) (kv wv : Value) (T : List Kept) (h : Bag w kv wv T) (hT : T.length ≤ 60000) :
    Calls Tryd.prog 23 #[kv, wv] w fun E w' => E = .returned (.bool true) ∧ Away ((T.flatMap (fun t => t.v.ownBlock.toList))) w w' := by
  obtain ⟨ka, kc, hke, -, -, hkx⟩ := h.kl.shape
  obtain ⟨ua, uc, hue, -, -, hux⟩ := h.wl.shape
  rw [List.length_map] at hke hue
  obtain ⟨N, hN⟩ : ∃ N, N = T.length := ⟨_, rfl⟩
  rw [← hN] at hke hue hT
  subst hke
  subst hue
  have HN := hidI hN
  have H := hidI h
  have HKX := hidI hkx
  have HUX := hidI hux
  clear h hN hkx hux
  go_enter Tryd.func23, Tryd.ntmps23
  go_wp2_with fail
  go_loopw [5] (fun x wr => ∃ (i q : Nat), x = .int .i64 (i : Int) ∧ i ≤ N ∧ wr = w.drewN q) (fun x _ => N - (intOf x).toNat)
  case atStart => exact ⟨0, 0, rfl, by omega, rfl⟩
  case round =>
    obtain ⟨i, q, rfl, hi, hW⟩ := hrel
    have HW := hidI hW
    clear hW
    by_cases hlt : i < N
    · obtain ⟨t, ht, htm⟩ : ∃ t, T[i]? = some t ∧ t ∈ T := by
        have hi' : i < T.length := by rw [← HN.out]; exact hlt
        exact ⟨T[i], by simp [hi'], by simp⟩
      obtain ⟨g1, rfl, z1⟩ := HKX.out i t.v (by rw [List.getElem?_map, ht]; rfl)
      obtain ⟨g2, rfl, z2⟩ := HUX.out i t.u (by rw [List.getElem?_map, ht]; rfl)
      obtain ⟨o1, o2, o3⟩ := H.out.own t htm
      obtain ⟨o3, hsh⟩ := o3
      obtain ⟨xa, xc, hx, -, hxz, r1, -⟩ := o1.row (by omega) o3
      obtain ⟨ya, yc, hy, -, hyz, r2, -⟩ := o2.row (by omega) o3
      rw [hx] at z1
      rw [hy] at z2
      have s1 : ∀ w', DrewC wr w' → (convert 26 9 (.slice xa t.p.length xc)).run Tryd.prog w' = .ok (.string (bstr t.p)) w' := fun w' h9 => by
        obtain ⟨q', rfl⟩ := h9
        rw [HW.out, drewN_drewN]
        exact conv_any _ xa t.p xc (r1.drewN _) hxz
      have s2 : ∀ w', DrewC wr w' → (convert 26 9 (.slice ya t.p.length yc)).run Tryd.prog w' = .ok (.string (bstr t.p)) w' := fun w' h9 => by
        obtain ⟨q', rfl⟩ := h9
        rw [HW.out, drewN_drewN]
        exact conv_any _ ya t.p yc (r2.drewN _) hyz
      obtain ⟨xn, hxn⟩ : ∃ xn, xn = t.p.length := ⟨_, rfl⟩
      obtain ⟨st, hst⟩ : ∃ st, st = bstr t.p := ⟨_, rfl⟩
      rw [← hxn, ← hst] at s1 s2
      rw [← hxn] at z1 z2
      have z1 : wr.cell? ⟨g1, i, none⟩ = some (.slice xa xn xc) := by rw [HW.out]; exact z1
      have z2 : wr.cell? ⟨g2, i, none⟩ = some (.slice ya xn yc) := by rw [HW.out]; exact z2
      have j2 : 0 ≤ (i : Int) := by omega
      have j3 : (i : Int) < (N : Int) := by omega
      have j4 : ((i : Int)).toNat = i := by omega
      have S1 := hidI s1
      have S2 := hidI s2
      clear o1 o2 o3 r1 r2 hx hy ht htm hsh hxn hst s1 s2 hxz hyz
      go_wp2_with fail
      refine wp_region_cls (C := DrewC wr) (by kernel_rfl) (by kernel_rfl) ⟨1, rfl⟩ ?_
      go_big_quiet_want; (refine quiet_val ?_ ?_ ?_; rotate_left; (intro w; go_simp; rfl); go_simp; go_big_quiet_on)
      go_big_quiet_want; (refine quiet_val ?_ ?_ ?_; rotate_left; (intro w; go_simp; rfl); go_simp; go_big_quiet_on)
      go_big_quiet_want; (refine quiet_val ?_ ?_ ?_; rotate_left; (intro w; go_simp; rfl); go_simp; go_big_quiet_on)
      go_big_quiet_want; refine quiet_ld _ rfl (ad := ⟨g1, i, none⟩) rfl (fun w' h => ld25v (h.cell z1)) ?_; go_simp; go_big_quiet_on
      go_big_quiet_want; refine quiet_cv _ rfl xa xn xc st rfl (fun w' h => S1.out w' h) ?_; go_simp; go_big_quiet_on
      go_big_quiet_want; (refine quiet_val ?_ ?_ ?_; rotate_left; (intro w; go_simp; rfl); go_simp; go_big_quiet_on)
      go_big_quiet_want; (refine quiet_val ?_ ?_ ?_; rotate_left; (intro w; go_simp; rfl); go_simp; go_big_quiet_on)
      go_big_quiet_want; (refine quiet_val ?_ ?_ ?_; rotate_left; (intro w; go_simp; rfl); go_simp; go_big_quiet_on)
      go_big_quiet_want; refine quiet_ld _ rfl (ad := ⟨g2, i, none⟩) rfl (fun w' h => ld25v (h.cell z2)) ?_; go_simp; go_big_quiet_on
      go_big_quiet_want; refine quiet_cv _ rfl ya xn yc st rfl (fun w' h => S2.out w' h) ?_; go_simp; go_big_quiet_on
      go_big_quiet_want; (refine quiet_val ?_ ?_ ?_; rotate_left; (intro w; go_simp; rfl); go_simp; go_big_quiet_on)
      refine wpQuiet_nil ?_
      intro V hV
      obtain ⟨qV, rfl⟩ := hV
      go_wp2_with fail
      go_roundw
      case rel => exact ⟨i + 1, q + qV, by go_num, by omega, by rw [HW.out]; exact drewN_drewN _ _ _⟩
      case measure => simp [intOf]; omega
    · have HM0 : Hid (Mk2 wr (.slice ka N kc) T (conP T 0 0)) := by
        rw [HW.out]
        refine ⟨H.out.kl.on ((Away.refl _ _).drewN q), fun j t ht => ?_⟩
        have e : conP T 0 0 j = t.p := by
          unfold conP Lp
          rw [if_neg (by omega)]
          by_cases h0 : j = 0
          · subst h0; rw [if_pos rfl, fill_zero, ht]; rfl
          · rw [if_neg h0, ht]; rfl
        rw [e]
        exact (H.out.own t (List.mem_of_getElem? ht)).1.on ((Away.refl _ _).drewN q)
      have HA0 : Hid (Away (T.flatMap (fun t => t.v.ownBlock.toList)) w wr) := by rw [HW.out]; exact (Away.refl _ _).drewN q
      have HRT : Hid (∀ t ∈ T, t.p.length ≤ 140737488355000) := fun t ht => (H.out.own t ht).2.2.2
      have HAP := hidI H.out.apart
      have HOU := hidI H.out.outer
      clear HW
      go_wp2_with fail
      go_loopw [6] (fun x wr => ∃ i : Nat, x = .int .i64 (i : Int) ∧ i ≤ N ∧ Mk2 wr (.slice ka N kc) T (conP T i 0) ∧ Away (T.flatMap (fun t => t.v.ownBlock.toList)) w wr) (fun x _ => N - (intOf x).toNat)
      case atStart => exact ⟨0, rfl, by omega, HM0.out, HA0.out⟩
      case round =>
        clear HM0 HA0
        obtain ⟨i, rfl, hi, hm2, haw⟩ := hrel
        have HM2 := hidI hm2
        have HAW := hidI haw
        clear hm2 haw
        by_cases hlt2 : i < N
        · obtain ⟨t, ht, htm⟩ : ∃ t, T[i]? = some t ∧ t ∈ T := by
            have hi' : i < T.length := by rw [← HN.out]; exact hlt2
            exact ⟨T[i], by simp [hi'], by simp⟩
          have HTI := hidI ht
          have hlp : Lp T i = t.p := by unfold Lp; rw [ht]; rfl
          have hshp := HRT.out t htm
          obtain ⟨n, hn⟩ : ∃ n, n = (Lp T i).length := ⟨_, rfl⟩
          have hnb : n ≤ 140737488355000 := by rw [hn, hlp]; exact hshp
          have HNL := hidI hn
          have j2 : 0 ≤ (i : Int) := by omega
          have j3 : (i : Int) < (N : Int) := by omega
          have j4 : ((i : Int)).toNat = i := by omega
          obtain ⟨va, vc, hve⟩ : ∃ va vc, t.v = .slice va n vc := by
            have h1 := HM2.out.own i t ht
            have h2 : (conP T i 0 i).length = n := by rw [con_len (by omega), hn]
            rcases Owns.two h1 with ⟨h3, h4⟩ | ⟨g, cap, h3⟩
            · exact ⟨none, 0, by rw [h3, ← h2, h4]⟩
            · exact ⟨_, _, by rw [h3, h2]⟩
          have HVE := hidI hve
          have HMEM : Hid (∀ z, t.v.ownBlock = some z → z ∈ T.flatMap (fun t => t.v.ownBlock.toList)) := fun z hz => List.mem_flatMap.2 ⟨t, htm, by simp [hz]⟩
          clear ht hlp hshp hn hve
          go_wp2_with fail
          go_loopw [7] (fun x wr => ∃ k : Nat, x = .int .i64 (k : Int) ∧ k ≤ n ∧ Mk2 wr (.slice ka N kc) T (conP T i k) ∧ Away (T.flatMap (fun t => t.v.ownBlock.toList)) w wr) (fun x _ => n - (intOf x).toNat)
          case atStart => exact ⟨0, rfl, by omega, HM2.out, HAW.out⟩
          case round =>
            clear HM2 HAW
            obtain ⟨k, rfl, hk, hm2, haw⟩ := hrel
            obtain ⟨a1, c1, he1, -, -, hx1⟩ := hm2.kl.shape
            simp only [Value.slice.injEq] at he1
            obtain ⟨rfl, -, -⟩ := he1
            obtain ⟨g1, rfl, z1⟩ := hx1 i t.v (by rw [List.getElem?_map, HTI.out]; rfl)
            rw [HVE.out] at z1
            have HM2 := hidI hm2
            have HAW := hidI haw
            clear hm2 haw hx1
            by_cases hlk : k < n
            · obtain ⟨g, rfl⟩ : ∃ g, va = some ⟨g, 0, none⟩ := by
                have h1 := HM2.out.own i t HTI.out
                rw [HVE.out] at h1
                rcases Owns.two h1 with ⟨h3, _⟩ | ⟨g, cap, h3⟩
                · simp only [Value.slice.injEq] at h3; omega
                · simp only [Value.slice.injEq] at h3; exact ⟨g, h3.1⟩
              have h1 := HM2.out.own i t HTI.out
              rw [HVE.out] at h1
              obtain ⟨s0, f0⟩ := h1.cells k (by rw [con_len (by have := HNL.out; omega)]; have := HNL.out; omega)
              obtain ⟨r, hr⟩ : ∃ r, r = i % 250 := ⟨_, rfl⟩
              have m3 : ((i : Nat) : Int) % 250 = (r : Int) := by rw [hr]; rfl
              have m2 : Int.tmod ((i : Nat) : Int) 250 = (r : Int) := by rw [Int.tmod_eq_emod_of_nonneg (by omega)]; exact m3
              have m4 : r < 250 := by rw [hr]; exact Nat.mod_lt _ (by omega)
              have m1 : IntKind.u8.wrap (1 + (r : Int)) = 1 + (r : Int) := by simp [IntKind.wrap, IntKind.bits, IntKind.signed]; omega
              have HM3 := hidI (HM2.out.put HTI.out HVE.out HNL.out hlk HAP.out HOU.out)
              rw [← hr] at HM3
              have HR := hidI hr
              clear hr
              have HA3 := hidI (HAW.out.setCell (p := ⟨g, k, none⟩) (.inl (HMEM.out g (by rw [HVE.out]; rfl))) (.int .u8 (1 + (r : Int))))
              generalize (conP T i k i)[k]?.getD 0 = y0 at s0
              have l2 : 0 ≤ (k : Int) := by omega
              have l3 : (k : Int) < (n : Int) := by omega
              have l4 : ((k : Int)).toNat = k := by omega
              clear h1
              go_wp2_with fail
              go_roundw
              case rel => exact ⟨k + 1, by go_num, by omega, HM3.out, HA3.out⟩
              case measure => simp [intOf]; omega
            · obtain rfl : k = n := by omega
              have HM4 : Hid (Mk2 wr (.slice (some ⟨g1, 0, none⟩) N kc) T (conP T (i + 1) 0)) := HM2.out.congr (fun j => by rw [HNL.out]; exact con_next T i j)
              go_wp2_with fail
              go_roundw
              case rel => exact ⟨i + 1, by go_num, by omega, HM4.out, HAW.out⟩
              case measure => simp [intOf]; omega
        · obtain rfl : i = N := by omega
          have HOLD : Hid (Old w.heap.size wr (.slice ka i kc) (TH T i)) := by
            refine ⟨by rw [th_map]; exact HM2.out.kl, fun x hx => ?_, fun a b s t hs ht hab z hz hc => ?_, fun x hx z hz hc => ?_, fun x hx z hz => ?_, fun z hz => H.out.kl.lt z hz⟩
            · obtain ⟨j, hj⟩ := List.getElem?_of_mem hx
              obtain ⟨t, ht, rfl⟩ := th_of hj
              exact HM2.out.own j t ht
            · obtain ⟨s', hs', rfl⟩ := th_of hs
              obtain ⟨t', ht', rfl⟩ := th_of ht
              exact apart_at HAP.out hs' ht' hab z (by simpa using hz) (by simpa using hc)
            · obtain ⟨j, hj⟩ := List.getElem?_of_mem hx
              obtain ⟨t, ht, rfl⟩ := th_of hj
              exact HOU.out t (List.mem_of_getElem? ht) z (by simpa using hz) (by simpa using hc)
            · obtain ⟨j, hj⟩ := List.getElem?_of_mem hx
              obtain ⟨t, ht, rfl⟩ := th_of hj
              exact (H.out.own t (List.mem_of_getElem? ht)).1.lt z hz
          have HB : Hid (w.heap.size ≤ wr.heap.size) := HAW.out.size
          clear HM2 HKX HUX
          go_wp2_with fail
          go_loopw [8, 9] (fun u x wr => ∃ (j : Nat) (Y : List Held), x = .int .i64 (j : Int) ∧ j ≤ i ∧ Y.length = j ∧ Old w.heap.size wr (.slice ka i kc) (TH T i) ∧ Lng w.heap.size wr (TH T i) u Y ∧ (∀ (b : Nat) (y : Held), Y[b]? = some y → y.l = List.replicate ((Lp T b).length + 80) (mkP b)) ∧ Away (T.flatMap (fun t => t.v.ownBlock.toList)) w wr) (fun _ x _ => i - (intOf x).toNat)
          case atStart => exact ⟨0, [], rfl, by omega, rfl, HOLD.out, ⟨LstV.nil _, by simp, by simp, New.nil _, by simp⟩, by simp, HAW.out⟩
          case round =>
            clear HOLD HAW HB
            obtain ⟨j, Y, rfl, hj, hY, hold, hlng, hyl, haw⟩ := hrel
            have HOLD := hidI hold
            have HLNG := hidI hlng
            have HYL := hidI hyl
            have HAW := hidI haw
            clear hold hlng hyl haw
            by_cases hlt4 : j < i
            · obtain ⟨t, ht, htm⟩ : ∃ t, T[j]? = some t ∧ t ∈ T := by
                have hi' : j < T.length := by rw [← HN.out]; exact hlt4
                exact ⟨T[j], by simp [hi'], by simp⟩
              have HTI := hidI (th_at (N := i) ht)
              have hlp : Lp T j = t.p := by unfold Lp; rw [ht]; rfl
              have hshp := HRT.out t htm
              obtain ⟨n, hn⟩ : ∃ n, n = (Lp T j).length := ⟨_, rfl⟩
              have hnb : n ≤ 140737488355000 := by rw [hn, hlp]; exact hshp
              have HNL := hidI hn
              have hcon : conP T i 0 j = List.replicate n (mkP j) := by unfold conP; rw [if_pos hlt4, hn]
              rw [hcon] at HTI
              have HMEM : Hid (∀ z, t.v.ownBlock = some z → z ∈ T.flatMap (fun t => t.v.ownBlock.toList)) := fun z hz => List.mem_flatMap.2 ⟨t, htm, by simp [hz]⟩
              have hlt0 := HOLD.out.own _ (List.mem_of_getElem? HTI.out)
              obtain ⟨va, vc, hve⟩ : ∃ va vc, t.v = .slice va n vc := by
                rcases Owns.two hlt0 with ⟨h3, h4⟩ | ⟨g, cap, h3⟩
                · exact ⟨none, 0, by rw [show t.v = _ from h3]; simp at h4; rw [h4]⟩
                · exact ⟨some ⟨g, 0, none⟩, cap, by rw [show t.v = _ from h3, List.length_replicate]⟩
              have HNOW : Hid (Now w.heap.size wr (TH T i) u8 Y ⟨t.v, List.replicate n (mkP j)⟩ t.v (List.replicate n (mkP j))) := ⟨hlt0, by simp, .inl rfl⟩
              obtain ⟨a1, c1, he1, -, -, hx1⟩ := HOLD.out.kl.shape
              simp only [Value.slice.injEq] at he1
              obtain ⟨rfl, -, -⟩ := he1
              obtain ⟨g1, rfl, z1⟩ := hx1 j t.v (by rw [List.getElem?_map, HTI.out]; rfl)
              rw [hve] at z1 HNOW
              have HVE := hidI hve
              have j2 : 0 ≤ (j : Int) := by omega
              have j3 : (j : Int) < (i : Int) := by omega
              have j4 : ((j : Int)).toNat = j := by omega
              clear ht hlp hshp hn hve hlt0 hx1 hcon
              go_wp2_with fail
              go_loopw [10, 11] (fun x q wr => ∃ (k : Nat), q = .int .i64 (k : Int) ∧ k ≤ 80 ∧ Old w.heap.size wr (.slice (some ⟨g1, 0, none⟩) i kc) (TH T i) ∧ Lng w.heap.size wr (TH T i) u8 Y ∧ Now w.heap.size wr (TH T i) u8 Y ⟨.slice va n vc, List.replicate n (mkP j)⟩ x (List.replicate (n + k) (mkP j)) ∧ Away (T.flatMap (fun t => t.v.ownBlock.toList)) w wr) (fun _ q _ => 80 - (intOf q).toNat)
              case atStart => exact ⟨0, rfl, by omega, HOLD.out, HLNG.out, HNOW.out, HAW.out⟩
              case round =>
                clear HOLD HLNG HAW HNOW
                obtain ⟨k, rfl, hk, hold, hlng, hnow, haw⟩ := hrel
                have HOLD := hidI hold
                have HLNG := hidI hlng
                have HNOW := hidI hnow
                have HAW := hidI haw
                clear hold hlng hnow haw
                by_cases hlk : k < 80
                · obtain ⟨r, hr⟩ : ∃ r, r = j % 250 := ⟨_, rfl⟩
                  have m3 : ((j : Nat) : Int) % 250 = (r : Int) := by rw [hr]; rfl
                  have m2 : Int.tmod ((j : Nat) : Int) 250 = (r : Int) := by rw [Int.tmod_eq_emod_of_nonneg (by omega)]; exact m3
                  have m4 : r < 250 := by rw [hr]; exact Nat.mod_lt _ (by omega)
                  have m1 : IntKind.u8.wrap (1 + (r : Int)) = 1 + (r : Int) := by simp [IntKind.wrap, IntKind.bits, IntKind.signed]; omega
                  obtain ⟨W, hW⟩ : ∃ W, W = wr.alloc (.cells #[.int .u8 (1 + (r : Int))] 5) := ⟨_, rfl⟩
                  have AB : Hid (Away [] wr W) := by show Away _ _ _; rw [hW]; exact (Away.refl _ _).alloc _
                  have HR := hidI hr
                  clear hr
                  go_wp2_with (at_builtin; refine wpList_appX rfl _ _ rfl _ (List.replicate (n + k) (mkP j)) rfl (by (first | rw [← hW] | skip); exact HNOW.out.lx.on AB.out) ⟨_, 0, none⟩ 1 rfl (mkP j) (by simp [mkP, HR.out]) (by simp; omega) ?_)
                  intro v' w2 hone
                  rw [← hW] at hone
                  have hst := Now.step (B := w.heap.size) (i := j) (by have := HAW.out.size; have := AB.out.size; omega) (HOLD.out.on AB.out) (HLNG.out.on AB.out) (HNOW.out.on AB.out) (by rw [← HVE.out]; exact HTI.out) hY hone
                  have HO2 := hidI hst.1
                  have HL2 := hidI hst.2.1
                  have HN2 : Hid (Now w.heap.size w2 (TH T i) u8 Y ⟨.slice va n vc, List.replicate n (mkP j)⟩ v' (List.replicate (n + (k + 1)) (mkP j))) := by
                    have h9 := hst.2.2.1
                    rw [show List.replicate (n + k) (mkP j) ++ [mkP j] = List.replicate (n + (k + 1)) (mkP j) from by rw [← Nat.add_assoc, List.replicate_succ']] at h9
                    exact h9
                  have HA2 : Hid (Away (T.flatMap (fun t => t.v.ownBlock.toList)) w w2) := (HAW.out.trans (AB.out.mono (by simp))).next hst.2.2.2 (fun z hz => by
                    rcases HNOW.out.where_ z (by simpa using hz) with h8 | h8
                    · exact .inl (HMEM.out z (by rw [HVE.out]; exact h8))
                    · exact .inr h8.1)
                  clear hst hone hW
                  go_wp2_with fail
                  go_roundw
                  case rel => exact ⟨k + 1, by go_num, by omega, HO2.out, HL2.out, HN2.out, HA2.out⟩
                  case measure => simp [intOf]; omega
                · obtain rfl : k = 80 := by omega
                  obtain ⟨xa, xc, hxe⟩ : ∃ xa xc, u10 = .slice xa (n + 80) xc := by
                    rcases Owns.two HNOW.out.lx with ⟨h3, h4⟩ | ⟨g, cap, h3⟩
                    · simp at h4
                    · exact ⟨some ⟨g, 0, none⟩, cap, by rw [h3, List.length_replicate]⟩
                  subst hxe
                  obtain ⟨W, hW⟩ : ∃ W, W = wr.alloc (.cells #[.slice xa (n + 80) xc] 26) := ⟨_, rfl⟩
                  have AB : Hid (Away [] wr W) := by show Away _ _ _; rw [hW]; exact (Away.refl _ _).alloc _
                  have hY2 : Y.length ≤ 100000 := by omega
                  go_wp2_with (at_builtin; refine wpList_appV rfl _ _ rfl _ (Y.map Held.v) [.slice xa (n + 80) xc] rfl (by (first | rw [← hW] | skip); exact HLNG.out.ul.on AB.out) ⟨_, 0, none⟩ 1 1 rfl rfl (fun b u hu => by
                    rcases b with _ | b
                    · simp at hu; subst hu; simp [Addr.add]
                    · simp at hu) (by simp [Value.oneCell']) (by simp; omega) ?_)
                  intro v' w2 hlv haw2 hmv
                  rw [← hW] at haw2 hmv
                  have hsn := Lng.snoc (B := w.heap.size) (i := j) (by have := HAW.out.size; have := AB.out.size; omega) (HOLD.out.on AB.out) (HLNG.out.on AB.out) (HNOW.out.on AB.out) (by rw [← HVE.out]; exact HTI.out) hY hlv haw2 hmv
                  have HO2 := hidI hsn.1
                  have HL2 := hidI hsn.2
                  have HA2 : Hid (Away (T.flatMap (fun t => t.v.ownBlock.toList)) w w2) := (HAW.out.trans (AB.out.mono (by simp))).next haw2 (fun z hz => .inr (HLNG.out.new z (by simpa using hz)))
                  have HY3 : Hid (∀ (b : Nat) (y : Held), (Y ++ [⟨.slice xa (n + 80) xc, List.replicate (n + 80) (mkP j)⟩])[b]? = some y → y.l = List.replicate ((Lp T b).length + 80) (mkP b)) := fun b y hb => by
                    rw [List.getElem?_append] at hb
                    split at hb
                    · exact HYL.out b y hb
                    · have h0 : b - Y.length = 0 := by
                        rcases Nat.eq_zero_or_pos (b - Y.length) with h3 | h3
                        · exact h3
                        · rw [List.getElem?_eq_none (by simp; omega)] at hb; simp at hb
                      rw [h0] at hb
                      simp only [List.getElem?_cons_zero, Option.some.injEq] at hb
                      subst hb
                      have hbj : b = j := by omega
                      subst hbj
                      rw [← HNL.out]
                  clear hsn hlv haw2 hmv hW
                  go_wp2_with fail
                  go_roundw
                  case rel => exact ⟨j + 1, _, by go_num, by omega, by simp [hY], HO2.out, HL2.out, HY3.out, HA2.out⟩
                  case measure => simp [intOf]; omega
            · obtain rfl : j = i := by omega
              go_wp2_with fail
              go_loopw [12] (fun x wz => ∃ b : Nat, x = .int .i64 (b : Int) ∧ b ≤ j ∧ wz = wr) (fun x _ => j - (intOf x).toNat)
              case atStart => exact ⟨0, rfl, by omega, rfl⟩
              case round =>
                obtain ⟨b, rfl, hb, hWZ⟩ := hrel
                subst hWZ
                by_cases hlt6 : b < j
                · obtain ⟨t, ht, htm⟩ : ∃ t, T[b]? = some t ∧ t ∈ T := by
                    have hi' : b < T.length := by rw [← HN.out]; exact hlt6
                    exact ⟨T[b], by simp [hi'], by simp⟩
                  obtain ⟨y, hy, hym⟩ : ∃ y, Y[b]? = some y ∧ y ∈ Y := by
                    have hi' : b < Y.length := by omega
                    exact ⟨Y[b], by simp [hi'], by simp⟩
                  have HTI := hidI (th_at (N := j) ht)
                  have hlp : Lp T b = t.p := by unfold Lp; rw [ht]; rfl
                  have hshp := HRT.out t htm
                  obtain ⟨n, hn⟩ : ∃ n, n = (Lp T b).length := ⟨_, rfl⟩
                  have hnb : n ≤ 140737488355000 := by rw [hn, hlp]; exact hshp
                  have hcon : conP T j 0 b = List.replicate n (mkP b) := by unfold conP; rw [if_pos hlt6, hn]
                  rw [hcon] at HTI
                  have hokr : ∀ q, Bytes (List.replicate q (mkP b)) := fun q s hs => by
                    rw [List.eq_of_mem_replicate hs]; unfold mkP; omega
                  have l1 := HOLD.out.own _ (List.mem_of_getElem? HTI.out)
                  have l2 := HLNG.out.own y hym
                  rw [HYL.out b y hy, ← hn] at l2
                  obtain ⟨ta, tc, hte, -, -, htr, -⟩ := l1.row (by simp; omega) (hokr n)
                  obtain ⟨ya, yc, hye, -, -, hyr, -⟩ := l2.row (by simp; omega) (hokr (n + 80))
                  simp only [List.length_replicate] at hte hye
                  obtain ⟨a1, c1, he1, -, -, hx1⟩ := HOLD.out.kl.shape
                  simp only [Value.slice.injEq] at he1
                  obtain ⟨rfl, -, -⟩ := he1
                  obtain ⟨g1, rfl, z1⟩ := hx1 b t.v (by rw [List.getElem?_map, HTI.out]; rfl)
                  obtain ⟨a2, c2, he2, -, -, hx2⟩ := HLNG.out.ul.shape
                  rw [List.length_map, hY] at he2
                  subst he2
                  obtain ⟨g2, rfl, z2⟩ := hx2 b y.v (by rw [List.getElem?_map, hy]; rfl)
                  rw [hte] at z1
                  rw [hye] at z2
                  have HTR := hidI htr
                  have HYR := hidI hyr
                  have j2 : 0 ≤ (b : Int) := by omega
                  have j3 : (b : Int) < (j : Int) := by omega
                  have j4 : ((b : Int)).toNat = b := by omega
                  clear ht hlp hshp hn hcon l1 l2 hte hye hx1 hx2 htr hyr hokr hy
                  go_wp2_with fail
                  go_loopw [13] (fun x wz => ∃ k : Nat, x = .int .i64 (k : Int) ∧ k ≤ n + 80 ∧ wz = wr) (fun x _ => n + 80 - (intOf x).toNat)
                  case atStart => exact ⟨0, rfl, by omega, rfl⟩
                  case round =>
                    obtain ⟨k, rfl, hk, hWZ⟩ := hrel
                    subst hWZ
                    by_cases hlk : k < n + 80
                    · obtain ⟨yb, yoff, rfl, y2⟩ := cells_row HYR.out (k := k) (by simp; omega)
                      rw [List.getElem?_replicate, if_pos hlk, Option.getD_some] at y2
                      have k2 : 0 ≤ (k : Int) := by omega
                      have k3 : (k : Int) < ((n + 80 : Nat) : Int) := by omega
                      have k5 : (k : Int) < (n : Int) + 80 := by omega
                      have k4 : ((k : Int)).toNat = k := by omega
                      obtain ⟨r, hr⟩ : ∃ r, r = b % 250 := ⟨_, rfl⟩
                      have m3 : ((b : Nat) : Int) % 250 = (r : Int) := by rw [hr]; rfl
                      have m2 : Int.tmod ((b : Nat) : Int) 250 = (r : Int) := by rw [Int.tmod_eq_emod_of_nonneg (by omega)]; exact m3
                      have m4 : r < 250 := by rw [hr]; exact Nat.mod_lt _ (by omega)
                      have m1 : IntKind.u8.wrap (1 + (r : Int)) = 1 + (r : Int) := by simp [IntKind.wrap, IntKind.bits, IntKind.signed]; omega
                      simp only [mkP] at y2
                      rw [← hr] at y2
                      by_cases hkn : k < n
                      · obtain ⟨tb, toff, rfl, t2⟩ := cells_row HTR.out (k := k) (by simp; omega)
                        rw [List.getElem?_replicate, if_pos hkn, Option.getD_some] at t2
                        simp only [mkP] at t2
                        rw [← hr] at t2
                        have HR := hidI hr
                        clear hr
                        have k6 : (k : Int) < (n : Int) := by omega
                        go_wp2_with fail
                        go_roundw
                        case rel => exact ⟨k + 1, by go_num, by omega, by trivial⟩
                        case measure => simp [intOf]; omega
                      · have k6 : ¬ ((k : Int) < (n : Int)) := by omega
                        have HR := hidI hr
                        clear hr
                        go_wp2_with fail
                        go_roundw
                        case rel => exact ⟨k + 1, by go_num, by omega, by trivial⟩
                        case measure => simp [intOf]; omega
                    · have k5 : ¬ ((k : Int) < (n : Int) + 80) := by omega
                      go_wp2_with fail
                      go_roundw
                      case rel => exact ⟨b + 1, by go_num, by omega, by trivial⟩
                      case measure => simp [intOf]; omega
                · go_wp2_with fail
                  go_ret
                  exact ⟨rfl, HAW.out⟩
end Mk
end Go.Proofs.YtaicckenpplceaaDoor
