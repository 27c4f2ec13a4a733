/-
  'writes', by its contract.
-/
import Derived.Test.YtaiomhhndckccaaMWrite2
import Derived.Test.YtaiomhhndckccaaGot
namespace Go.Proofs.Ytaiomhhndckccaa
open Go.ChangeShapes Go.WideShapes Go.ChangeAt Go.RowKit Go.Deep
set_option linter.unusedVariables false

/-- Both writers behind a call: they tell the same, and lie apart. -/
def Both (w w' : World) (g : Nat) (v v' : Value) (h : Nat) (u u' : Value) (lim : Int) (l : List Int) (e : Int) : Prop :=
  Wr w' g v' lim l e ∧ Mw w' h u' lim l e ∧ Moved w v v' ∧ Moved w u u' ∧ (∀ k ∈ fp g v', k ∉ fp h u') ∧ Away (fp g v ++ fp h u) w w'
theorem fp_lt {w : World} {g : Nat} {v : Value} (hg : g < w.heap.size) (hv : ∀ k, v.ownBlock = some k → k < w.heap.size) : ∀ k ∈ fp g v, k < w.heap.size := by
  intro k hk
  simp only [fp, List.mem_cons, Option.mem_toList] at hk
  rcases hk with rfl | hk
  · exact hg
  · exact hv k hk
theorem fp_split {w : World} {g : Nat} {v v' : Value} (hm : Moved w v v') : ∀ k ∈ fp g v', k ∈ fp g v ∨ w.heap.size ≤ k := by
  intro k hk
  simp only [fp, List.mem_cons, Option.mem_toList] at hk
  rcases hk with rfl | hk
  · exact .inl (fp_self _ _)
  · rcases hm k hk with h | h
    · exact .inl (fp_own h)
    · exact .inr h
theorem both_mk {wB wA wS : World} {g h : Nat} {v v1 u u1 : Value} {lim : Int} {l0 m0 l : List Int} {e0 f0 e : Int} (h0 : Wr wB g v lim l0 e0) (k0 : Mw wB h u lim m0 f0) (hd : ∀ k ∈ fp g v, k ∉ fp h u) (h1 : Wr wA g v1 lim l e) (m1 : Moved wB v v1) (a1 : Away (fp g v) wB wA)
    (h2 : Mw wS h u1 lim l e) (m2 : Moved wA u u1) (a2 : Away (fp h u) wA wS) : Both wB wS g v v1 h u u1 lim l e := by
  have l1 := fp_lt h0.lt.1 h0.lt.2
  have l2 := fp_lt k0.lt.1 k0.lt.2
  have l3 := fp_lt h1.lt.1 h1.lt.2
  have s1 := a1.size
  have n1 : ∀ k ∈ fp g v1, k ∉ fp h u := by
    intro k hk hk2
    rcases fp_split m1 k hk with h | h
    · exact hd k h hk2
    · have := l2 k hk2; omega
  refine ⟨h1.away a2 (n1 g (fp_self _ _)) (fun k hk => n1 k (fp_own hk)), h2, m1, fun k hk => ?_, ?_, ?_⟩
  · rcases m2 k hk with h | h
    · exact .inl h
    · right; omega
  · intro k hk hk2
    rcases fp_split m2 k hk2 with h | h
    · exact n1 k hk h
    · have := l3 k hk; omega
  · exact (a1.mono (fun x hx => List.mem_append_left _ hx)).next a2 (fun x hx => .inl (List.mem_append_right _ hx))
theorem both_refl {w w' : World} {g h : Nat} {v u : Value} {lim : Int} {l : List Int} {e : Int} (h1 : Wr w' g v lim l e) (h2 : Mw w' h u lim l e) (hd : ∀ k ∈ fp g v, k ∉ fp h u) (ha : Away [] w w') : Both w w' g v v h u u lim l e :=
  ⟨h1, h2, Moved.refl _ _, Moved.refl _ _, hd, ha.mono (by simp)⟩
/-- What 'writes' did. -/
def WritesQ (w : World) (g : Nat) (v : Value) (h : Nat) (u : Value) (lim : Int) (E : Ending) (w' : World) : Prop :=
  E = .returned (.bool true) ∧ ∃ v' u' l e, Both w w' g v v' h u u' lim l e
theorem app_row {w : World} {v : Value} {l : List Int} {n : Nat} (h : Owns w v (l ++ [165, 166])) (hl : l.length = n) (hb : Bytes l) (hn : n ≤ 140737488351232) :
    ∃ g cap, v = .slice (some ⟨g, 0, none⟩) (n + 2) cap ∧ n + 2 ≤ cap ∧ Row w (some ⟨g, 0, none⟩) (l ++ [165, 166]) ∧ Row w (some ⟨g, 0, none⟩) l ∧ v.ownBlock = some g := by
  obtain ⟨a, cap, rfl, hcap, hnone, hrow, hblk, hoff⟩ := h.row (by simp; omega) (hb.app (by unfold Bytes; decide))
  have hll : (l ++ [165, 166]).length = n + 2 := by simp [hl]
  rw [hll] at hcap
  rcases a with _ | ⟨g, off, sp⟩
  · have := hnone rfl; omega
  · obtain ⟨h1, h2⟩ := hoff _ rfl
    simp only at h1 h2
    subst h1; subst h2
    refine ⟨g, cap, by rw [hll], hcap, hrow, ?_, rfl⟩
    have := hrow.head l.length
    rwa [List.take_left] at this

set_option maxRecDepth 100000 in
set_option maxHeartbeats 2000000 in
theorem writes_any (B : Nat) (w : World) (g : Nat) (v : Value) (h : Nat) (u : Value) (lim : Int) (l : List Int) (e : Int) (o : OpD) (hW : Wr w g v lim l e) (hM : Mw w h u lim l e) (hd : ∀ k ∈ fp g v, k ∉ fp h u) (ho : o.ok w) (hold : o.old B) (hB : ∀ k ∈ fp g v ++ fp h u, B ≤ k) :
    Calls Try.prog 34 #[.pointer (some ⟨g, 0, none⟩), .pointer (some ⟨h, 0, none⟩), .agg #[.int .i64 o.kd, .int .i64 o.who, .int .i64 o.n, .int .u32 o.v, .slice o.ba o.b.length o.bc]] w fun E w' => WritesQ w g v h u lim E w' := by
  have hA : Away [] w (w.alloc (box55 o)) := (Away.refl [] w).alloc _
  have hW0 := hW.away hA (by simp) (by simp)
  have hM0 := hM.away hA (by simp) (by simp)
  have ho0 := ho.away (S := []) hA
  have hl1 := fp_lt hW.lt.1 hW.lt.2
  have hl2 := fp_lt hM.lt.1 hM.lt.2
  obtain ⟨_, _, hn64, hv32, hrow, hnone, hlb, hbc⟩ := ho0
  obtain ⟨kd, who, n, x, ba, bc, b⟩ := o
  have hold' : b = [] ∨ ∀ y, ba = some y → y.block < B := hold
  have hxn : w.heap.size ∉ fp g v ++ fp h u := by
    intro hm
    rcases List.mem_append.mp hm with hm | hm
    · have := hl1 _ hm; omega
    · have := hl2 _ hm; omega
  simp only at hn64 hv32 hrow hnone hlb hbc ⊢
  unfold box55 at hA hW0 hM0 hrow
  simp only at hA hW0 hM0 hrow
  have hn0 := hn64.1
  have hn1 := hn64.2
  have hx0 := hv32.1
  have hx1 := hv32.2
  have x0 : (w.alloc (.cells #[.int .i64 kd, .int .i64 who, .int .i64 n, .int .u32 x, .slice ba b.length bc] 55)).cell? ⟨w.heap.size, 0, none⟩ = some (.int .i64 kd) := by rw [World.cell?_alloc_at (hn := rfl)]; rfl
  have x2 : (w.alloc (.cells #[.int .i64 kd, .int .i64 who, .int .i64 n, .int .u32 x, .slice ba b.length bc] 55)).cell? ⟨w.heap.size, 2, none⟩ = some (.int .i64 n) := by rw [World.cell?_alloc_at (hn := rfl)]; rfl
  have x3 : (w.alloc (.cells #[.int .i64 kd, .int .i64 who, .int .i64 n, .int .u32 x, .slice ba b.length bc] 55)).cell? ⟨w.heap.size, 3, none⟩ = some (.int .u32 x) := by rw [World.cell?_alloc_at (hn := rfl)]; rfl
  have x4 : (w.alloc (.cells #[.int .i64 kd, .int .i64 who, .int .i64 n, .int .u32 x, .slice ba b.length bc] 55)).cell? ⟨w.heap.size, 4, none⟩ = some (.slice ba b.length bc) := by rw [World.cell?_alloc_at (hn := rfl)]; rfl
  have hbb := hrow.2.1
  clear hW hM ho hold hn64 hv32
  go_enter Try.func34, Try.ntmps34
  go_wp2_with fail
  refine (own_any ba b _ bc _ rfl (by exact hrow)).mono ?_
  rintro E w2 ⟨v2, rfl, hown2, hnew2, haw2, _, hl2'⟩
  go_wp2_with (at_builtin; refine wpList_app rfl _ _ rfl _ b [165, 166] rfl (by exact hown2.away ((Away.refl [] _).alloc _) (by simp)) ⟨w2.heap.size, 0, none⟩ 2 2 rfl rfl (lit_cells _ [165, 166] _ rfl) (by omega) ?_)
  intro vb wB hownb hgrb hmovb
  have hawB := (haw2.alloc (.cells #[.int .u8 165, .int .u8 166] 5)).grown hgrb (fun k hk => .inr (hnew2 k hk))
  have hnewb := hnew2.moved hmovb (by have := haw2.size; simp at this ⊢; omega)
  obtain ⟨gb, capb, rfl, hcapb, rowb, rowbb, hblkb⟩ := app_row hownb rfl hbb (by omega)
  have hgb : w.heap.size + 1 ≤ gb := by simpa using hnewb gb rfl
  have hgbn : gb ∉ fp g v ++ fp h u := by
    intro hm
    rcases List.mem_append.mp hm with hm | hm
    · have := hl1 _ hm; omega
    · have := hl2 _ hm; omega
  have aB : Away [] w wB := hA.next hawB (by simp)
  have WB := hW0.away hawB (by simp) (by simp)
  have MB := hM0.away hawB (by simp) (by simp)
  have y0 := hawB.cell (by simp) x0
  have y2 := hawB.cell (by simp) x2
  have y3 := hawB.cell (by simp) x3
  have y4 := hawB.cell (by simp) x4
  have rowB := hrow.away hawB (by simp)
  have hszB := aB.size
  have hszB2 : w.heap.size + 1 ≤ wB.heap.size := by have := hawB.size; simpa using this
  have s1 := slice_h (some ⟨gb, 0, none⟩) (b.length + 2) capb b.length (b.length : Int) rfl (by omega)
  have HRB : Hid (∀ S W, (∀ k ∈ S, k ∈ fp g v ++ fp h u) → Away S wB W → Row W ba b) := by
    intro S W hS hWa
    rcases hold' with h0 | h0
    · rw [h0]; exact Row.nil _ _
    · exact rowB.away hWa (fun y hy hm => by have h1 := h0 y hy; have h2 := hB _ (hS _ hm); omega)
  have hgx1 : w.heap.size ∉ fp g v := fun hm => hxn (List.mem_append_left _ hm)
  have hgx2 : w.heap.size ∉ fp h u := fun hm => hxn (List.mem_append_right _ hm)
  have hgb1 : gb ∉ fp g v := fun hm => hgbn (List.mem_append_left _ hm)
  clear hgrb hmovb hown2 hnew2 haw2 x0 x2 x3 x4 hrow hW0 hM0 hawB hA
  by_cases h1 : kd = 1
  · subst h1
    · have K1 := w8_any wB g v lim l e (x % 256) WB (by omega) (by omega)
      have K2 : Hid (∀ W : World, Mw W h u lim l e → Calls Try.prog 46 #[.pointer (some ⟨h, 0, none⟩), .int .u64 (x % 256), .int .i64 1] W fun E w' => MWrote W h u lim (wrAll l e lim [x % 256]) (wrErr l e lim 1) E w') := fun W hW => mnum1_any W h u lim l e (x % 256) hW (by omega) (by omega)
      obtain ⟨l', hl'⟩ : ∃ l', l' = wrAll l e lim [x % 256] := ⟨_, rfl⟩
      obtain ⟨e', he'⟩ : ∃ e', e' = wrErr l e lim 1 := ⟨_, rfl⟩
      rw [← hl', ← he'] at K1 K2
      clear hl' he'
      go_wp2_with fail
      refine K1.mono ?_
      rintro E w3 ⟨rfl, v1, W3, m3, a3⟩
      have M3 := MB.away a3 (fun hm => hd h hm (fp_self _ _)) (fun k hk hm => hd k hm (fp_own hk))
      have z0 := a3.cell hgx1 y0
      have z2 := a3.cell hgx1 y2
      have z3 := a3.cell hgx1 y3
      have z4 := a3.cell hgx1 y4
      clear K1
      go_wp2_with fail
      refine (K2.out _ (by exact M3)).mono ?_
      rintro E wS ⟨rfl, u1, M4, m4, a4⟩
      have bth := both_mk WB MB hd W3 m3 a3 M4 m4 a4
      clear W3 m3 a3 M3 M4 m4 a4 K2 z0 z2 z3 z4
      obtain ⟨WS, MS, mv, mu, dS, aS⟩ := bth
      have zx4 := aS.cell hxn y4
      have rowS := rowb.away aS (fun y hy => by simp at hy; subst hy; exact hgbn)
      have ownS := hownb.away aS (fun k hk => by simp [Value.ownBlock] at hk; subst hk; exact hgbn)
      have rowO := HRB.out _ _ (fun k hk => hk) aS
      have aSw : Away (fp g v ++ fp h u) w wS := (aB.mono (T := fp g v ++ fp h u) (by simp)).next aS (fun k hk => .inl hk)
      have hszS := aS.size
      have mvw : Moved w v v1 := fun k hk => by rcases mv k hk with h | h; exact .inl h; right; omega
      have muw : Moved w u u1 := fun k hk => by rcases mu k hk with h | h; exact .inl h; right; omega
      have HL : Hid ((b ++ [165, 166]).length = b.length + 2) := by show _ = _; simp
      have hgbw : w.heap.size ≤ gb := by omega
      have hgbv : gb ∉ fp g v1 := fun hm => by
        rcases fp_split mv gb hm with h | h
        · exact hgb1 h
        · have := hownb.lt gb rfl; omega
      have hgbu : gb ∉ fp h u1 := fun hm => by
        rcases fp_split mu gb hm with h | h
        · exact hgbn (List.mem_append_right _ h)
        · have := hownb.lt gb rfl; omega
      clear y0 y2 y3 y4 WB MB rowB s1 aS mv mu
      go_wp2_with fail
      refine (own_any ba b _ bc _ rfl (by exact rowO)).mono ?_
      rintro E w5 ⟨v5, rfl, hown5, hnew5, haw5, _, hl5⟩
      go_wp2_with (at_builtin; refine wpList_app rfl _ _ rfl _ b [165, 166] rfl (by exact hown5.away ((Away.refl [] _).alloc _) (by simp)) ⟨w5.heap.size, 0, none⟩ 2 2 rfl rfl (lit_cells _ [165, 166] _ rfl) (by omega) ?_)
      intro v6 w6 hown6 hgr6 hmov6
      have haw6 := (haw5.alloc (.cells #[.int .u8 165, .int .u8 166] 5)).grown hgr6 (fun k hk => .inr (hnew5 k hk))
      obtain ⟨g6, cap6, rfl, hcap6, row6, _, _⟩ := app_row hown6 rfl hbb (by omega)
      have rowS6 := rowS.away haw6 (by simp)
      have ownS6 := ownS.away haw6 (by simp)
      have WS6 := WS.away haw6 (by simp) (by simp)
      have MS6 := MS.away haw6 (by simp) (by simp)
      have aS6 := aSw.next haw6 (by simp)
      clear hgr6 hmov6 hown5 hnew5 haw5 hown6 haw6 WS MS rowS ownS rowO aSw
      go_wp2_with fail
      refine (same_yes _ _ (b ++ [165, 166]) (b ++ [165, 166]) _ _ _ _ _ HL.out HL.out (by simp) (by simp) (by exact rowS6) (by exact row6) rfl).mono ?_
      rintro E w7 ⟨rfl, hw7⟩
      have hw7 := hw7.symm
      subst hw7
      clear row6 rowS6
      have hst : ∃ M : List Int, M.length = b.length + 2 ∧ Owns w6 (.slice (some ⟨gb, 0, none⟩) (b.length + 2) capb) M ∧ Wr w6 g v1 lim l' e' ∧ Mw w6 h u1 lim l' e' ∧ Away (fp g v ++ fp h u) w w6 := ⟨_, HL.out, ownS6, WS6, MS6, aS6⟩
      clear ownS6 WS6 MS6 aS6
      go_wp2_with fail
      go_loopw [13] (fun i wr => ∃ (k : Nat), k ≤ b.length + 2 ∧ i = .int .i64 k ∧ ∃ M : List Int, M.length = b.length + 2 ∧ Owns wr (.slice (some ⟨gb, 0, none⟩) (b.length + 2) capb) M ∧ Wr wr g v1 lim l' e' ∧ Mw wr h u1 lim l' e' ∧ Away (fp g v ++ fp h u) w wr) (fun i _ => b.length + 2 - (intOf i).toNat)
      case atStart => exact ⟨0, by omega, rfl, hst⟩
      case round =>
        obtain ⟨k, hk, rfl, M, hM, oM, W9, M9, a9⟩ := hrel
        have HM : Hid (M.length = b.length + 2) := hM
        clear hM
        by_cases hlt : k < b.length + 2
        · obtain ⟨c0, f0⟩ := oM.cells k (by rw [HM.out]; exact hlt)
          have hA9 : Away [gb] wr (wr.setCell ⟨gb, k, none⟩ (.int .u8 238)) := (Away.refl _ wr).setCell (.inl (by simp)) _
          have W10 := W9.away hA9 (fun hm => by simp at hm; exact hgbv (by rw [← hm]; exact fp_self _ _)) (fun j hj hm => by simp at hm; exact hgbv (by rw [← hm]; exact fp_own hj))
          have M10 := M9.away hA9 (fun hm => by simp at hm; exact hgbu (by rw [← hm]; exact fp_self _ _)) (fun j hj hm => by simp at hm; exact hgbu (by rw [← hm]; exact fp_own hj))
          have a10 := a9.next hA9 (by simpa using .inr hgbw)
          have o10 := oM.set HM.out k 238
          clear oM W9 M9 a9 hA9
          have hlt1 : (k : Int) < (b.length : Int) + 2 := by omega
          go_wp2_with fail
          go_roundw
          case rel => exact ⟨k + 1, by omega, by go_num, _, by simpa using HM.out, o10, W10, M10, a10⟩
          case measure => simp [intOf]; omega
        · have hlt1 : ¬ ((k : Int) < (b.length : Int) + 2) := by omega
          obtain ⟨ma, mcap, hmu, _⟩ := M9.slice
          have q1 : wr.cell? ⟨h, 1, none⟩ = some (.slice ma l'.length mcap) := by rw [cell_of_block M9.1, hmu]; rfl
          have q2 : wr.cell? ⟨h, 2, none⟩ = some (.int .i64 e') := by rw [cell_of_block M9.1]; rfl
          clear oM hmu
          go_wp2_with fail
          go_quiet (first
            | (go_at_call 19; exact Calls.quiet_of_same (wlen_any _ g v1 lim l' e' (by exact W9)))
            | (go_at_call 26; exact Calls.quiet_of_same (werr_any _ g v1 lim l' e' (by exact W9))))
          go_wp2_with fail
          go_ret
          exact ⟨rfl, v1, u1, l', e', W9.drewN _, M9.drewN _, mvw, muw, dS, a9.drewN _⟩
  have b1 : (kd == 1) = false := by simp [h1]
  by_cases h2 : kd = 2
  · subst h2
    · have K1 := w16_any wB g v lim l e (x % 65536) WB (by omega) (by omega)
      have K2 : Hid (∀ W : World, Mw W h u lim l e → Calls Try.prog 46 #[.pointer (some ⟨h, 0, none⟩), .int .u64 (x % 65536), .int .i64 2] W fun E w' => MWrote W h u lim (wrAll l e lim [x % 65536 / 256, x % 65536 % 256]) (wrErr l e lim 2) E w') := fun W hW => mnum2_any W h u lim l e (x % 65536) hW (by omega) (by omega)
      obtain ⟨l', hl'⟩ : ∃ l', l' = wrAll l e lim [x % 65536 / 256, x % 65536 % 256] := ⟨_, rfl⟩
      obtain ⟨e', he'⟩ : ∃ e', e' = wrErr l e lim 2 := ⟨_, rfl⟩
      rw [← hl', ← he'] at K1 K2
      clear hl' he'
      go_wp2_with fail
      refine K1.mono ?_
      rintro E w3 ⟨rfl, v1, W3, m3, a3⟩
      have M3 := MB.away a3 (fun hm => hd h hm (fp_self _ _)) (fun k hk hm => hd k hm (fp_own hk))
      have z0 := a3.cell hgx1 y0
      have z2 := a3.cell hgx1 y2
      have z3 := a3.cell hgx1 y3
      have z4 := a3.cell hgx1 y4
      clear K1
      go_wp2_with fail
      refine (K2.out _ (by exact M3)).mono ?_
      rintro E wS ⟨rfl, u1, M4, m4, a4⟩
      have bth := both_mk WB MB hd W3 m3 a3 M4 m4 a4
      clear W3 m3 a3 M3 M4 m4 a4 K2 z0 z2 z3 z4
      obtain ⟨WS, MS, mv, mu, dS, aS⟩ := bth
      have zx4 := aS.cell hxn y4
      have rowS := rowb.away aS (fun y hy => by simp at hy; subst hy; exact hgbn)
      have ownS := hownb.away aS (fun k hk => by simp [Value.ownBlock] at hk; subst hk; exact hgbn)
      have rowO := HRB.out _ _ (fun k hk => hk) aS
      have aSw : Away (fp g v ++ fp h u) w wS := (aB.mono (T := fp g v ++ fp h u) (by simp)).next aS (fun k hk => .inl hk)
      have hszS := aS.size
      have mvw : Moved w v v1 := fun k hk => by rcases mv k hk with h | h; exact .inl h; right; omega
      have muw : Moved w u u1 := fun k hk => by rcases mu k hk with h | h; exact .inl h; right; omega
      have HL : Hid ((b ++ [165, 166]).length = b.length + 2) := by show _ = _; simp
      have hgbw : w.heap.size ≤ gb := by omega
      have hgbv : gb ∉ fp g v1 := fun hm => by
        rcases fp_split mv gb hm with h | h
        · exact hgb1 h
        · have := hownb.lt gb rfl; omega
      have hgbu : gb ∉ fp h u1 := fun hm => by
        rcases fp_split mu gb hm with h | h
        · exact hgbn (List.mem_append_right _ h)
        · have := hownb.lt gb rfl; omega
      clear y0 y2 y3 y4 WB MB rowB s1 aS mv mu
      go_wp2_with fail
      refine (own_any ba b _ bc _ rfl (by exact rowO)).mono ?_
      rintro E w5 ⟨v5, rfl, hown5, hnew5, haw5, _, hl5⟩
      go_wp2_with (at_builtin; refine wpList_app rfl _ _ rfl _ b [165, 166] rfl (by exact hown5.away ((Away.refl [] _).alloc _) (by simp)) ⟨w5.heap.size, 0, none⟩ 2 2 rfl rfl (lit_cells _ [165, 166] _ rfl) (by omega) ?_)
      intro v6 w6 hown6 hgr6 hmov6
      have haw6 := (haw5.alloc (.cells #[.int .u8 165, .int .u8 166] 5)).grown hgr6 (fun k hk => .inr (hnew5 k hk))
      obtain ⟨g6, cap6, rfl, hcap6, row6, _, _⟩ := app_row hown6 rfl hbb (by omega)
      have rowS6 := rowS.away haw6 (by simp)
      have ownS6 := ownS.away haw6 (by simp)
      have WS6 := WS.away haw6 (by simp) (by simp)
      have MS6 := MS.away haw6 (by simp) (by simp)
      have aS6 := aSw.next haw6 (by simp)
      clear hgr6 hmov6 hown5 hnew5 haw5 hown6 haw6 WS MS rowS ownS rowO aSw
      go_wp2_with fail
      refine (same_yes _ _ (b ++ [165, 166]) (b ++ [165, 166]) _ _ _ _ _ HL.out HL.out (by simp) (by simp) (by exact rowS6) (by exact row6) rfl).mono ?_
      rintro E w7 ⟨rfl, hw7⟩
      have hw7 := hw7.symm
      subst hw7
      clear row6 rowS6
      have hst : ∃ M : List Int, M.length = b.length + 2 ∧ Owns w6 (.slice (some ⟨gb, 0, none⟩) (b.length + 2) capb) M ∧ Wr w6 g v1 lim l' e' ∧ Mw w6 h u1 lim l' e' ∧ Away (fp g v ++ fp h u) w w6 := ⟨_, HL.out, ownS6, WS6, MS6, aS6⟩
      clear ownS6 WS6 MS6 aS6
      go_wp2_with fail
      go_loopw [13] (fun i wr => ∃ (k : Nat), k ≤ b.length + 2 ∧ i = .int .i64 k ∧ ∃ M : List Int, M.length = b.length + 2 ∧ Owns wr (.slice (some ⟨gb, 0, none⟩) (b.length + 2) capb) M ∧ Wr wr g v1 lim l' e' ∧ Mw wr h u1 lim l' e' ∧ Away (fp g v ++ fp h u) w wr) (fun i _ => b.length + 2 - (intOf i).toNat)
      case atStart => exact ⟨0, by omega, rfl, hst⟩
      case round =>
        obtain ⟨k, hk, rfl, M, hM, oM, W9, M9, a9⟩ := hrel
        have HM : Hid (M.length = b.length + 2) := hM
        clear hM
        by_cases hlt : k < b.length + 2
        · obtain ⟨c0, f0⟩ := oM.cells k (by rw [HM.out]; exact hlt)
          have hA9 : Away [gb] wr (wr.setCell ⟨gb, k, none⟩ (.int .u8 238)) := (Away.refl _ wr).setCell (.inl (by simp)) _
          have W10 := W9.away hA9 (fun hm => by simp at hm; exact hgbv (by rw [← hm]; exact fp_self _ _)) (fun j hj hm => by simp at hm; exact hgbv (by rw [← hm]; exact fp_own hj))
          have M10 := M9.away hA9 (fun hm => by simp at hm; exact hgbu (by rw [← hm]; exact fp_self _ _)) (fun j hj hm => by simp at hm; exact hgbu (by rw [← hm]; exact fp_own hj))
          have a10 := a9.next hA9 (by simpa using .inr hgbw)
          have o10 := oM.set HM.out k 238
          clear oM W9 M9 a9 hA9
          have hlt1 : (k : Int) < (b.length : Int) + 2 := by omega
          go_wp2_with fail
          go_roundw
          case rel => exact ⟨k + 1, by omega, by go_num, _, by simpa using HM.out, o10, W10, M10, a10⟩
          case measure => simp [intOf]; omega
        · have hlt1 : ¬ ((k : Int) < (b.length : Int) + 2) := by omega
          obtain ⟨ma, mcap, hmu, _⟩ := M9.slice
          have q1 : wr.cell? ⟨h, 1, none⟩ = some (.slice ma l'.length mcap) := by rw [cell_of_block M9.1, hmu]; rfl
          have q2 : wr.cell? ⟨h, 2, none⟩ = some (.int .i64 e') := by rw [cell_of_block M9.1]; rfl
          clear oM hmu
          go_wp2_with fail
          go_quiet (first
            | (go_at_call 19; exact Calls.quiet_of_same (wlen_any _ g v1 lim l' e' (by exact W9)))
            | (go_at_call 26; exact Calls.quiet_of_same (werr_any _ g v1 lim l' e' (by exact W9))))
          go_wp2_with fail
          go_ret
          exact ⟨rfl, v1, u1, l', e', W9.drewN _, M9.drewN _, mvw, muw, dS, a9.drewN _⟩
  have b2 : (kd == 2) = false := by simp [h2]
  by_cases h3 : kd = 3
  · subst h3
    · have K1 := w32_any wB g v lim l e x WB (by omega) (by omega)
      have K2 : Hid (∀ W : World, Mw W h u lim l e → Calls Try.prog 46 #[.pointer (some ⟨h, 0, none⟩), .int .u64 x, .int .i64 4] W fun E w' => MWrote W h u lim (wrAll l e lim [x / 16777216, x / 65536 % 256, x / 256 % 256, x % 256]) (wrErr l e lim 4) E w') := fun W hW => mnum4_any W h u lim l e x hW (by omega) (by omega)
      obtain ⟨l', hl'⟩ : ∃ l', l' = wrAll l e lim [x / 16777216, x / 65536 % 256, x / 256 % 256, x % 256] := ⟨_, rfl⟩
      obtain ⟨e', he'⟩ : ∃ e', e' = wrErr l e lim 4 := ⟨_, rfl⟩
      rw [← hl', ← he'] at K1 K2
      clear hl' he'
      go_wp2_with fail
      refine K1.mono ?_
      rintro E w3 ⟨rfl, v1, W3, m3, a3⟩
      have M3 := MB.away a3 (fun hm => hd h hm (fp_self _ _)) (fun k hk hm => hd k hm (fp_own hk))
      have z0 := a3.cell hgx1 y0
      have z2 := a3.cell hgx1 y2
      have z3 := a3.cell hgx1 y3
      have z4 := a3.cell hgx1 y4
      clear K1
      go_wp2_with fail
      refine (K2.out _ (by exact M3)).mono ?_
      rintro E wS ⟨rfl, u1, M4, m4, a4⟩
      have bth := both_mk WB MB hd W3 m3 a3 M4 m4 a4
      clear W3 m3 a3 M3 M4 m4 a4 K2 z0 z2 z3 z4
      obtain ⟨WS, MS, mv, mu, dS, aS⟩ := bth
      have zx4 := aS.cell hxn y4
      have rowS := rowb.away aS (fun y hy => by simp at hy; subst hy; exact hgbn)
      have ownS := hownb.away aS (fun k hk => by simp [Value.ownBlock] at hk; subst hk; exact hgbn)
      have rowO := HRB.out _ _ (fun k hk => hk) aS
      have aSw : Away (fp g v ++ fp h u) w wS := (aB.mono (T := fp g v ++ fp h u) (by simp)).next aS (fun k hk => .inl hk)
      have hszS := aS.size
      have mvw : Moved w v v1 := fun k hk => by rcases mv k hk with h | h; exact .inl h; right; omega
      have muw : Moved w u u1 := fun k hk => by rcases mu k hk with h | h; exact .inl h; right; omega
      have HL : Hid ((b ++ [165, 166]).length = b.length + 2) := by show _ = _; simp
      have hgbw : w.heap.size ≤ gb := by omega
      have hgbv : gb ∉ fp g v1 := fun hm => by
        rcases fp_split mv gb hm with h | h
        · exact hgb1 h
        · have := hownb.lt gb rfl; omega
      have hgbu : gb ∉ fp h u1 := fun hm => by
        rcases fp_split mu gb hm with h | h
        · exact hgbn (List.mem_append_right _ h)
        · have := hownb.lt gb rfl; omega
      clear y0 y2 y3 y4 WB MB rowB s1 aS mv mu
      go_wp2_with fail
      refine (own_any ba b _ bc _ rfl (by exact rowO)).mono ?_
      rintro E w5 ⟨v5, rfl, hown5, hnew5, haw5, _, hl5⟩
      go_wp2_with (at_builtin; refine wpList_app rfl _ _ rfl _ b [165, 166] rfl (by exact hown5.away ((Away.refl [] _).alloc _) (by simp)) ⟨w5.heap.size, 0, none⟩ 2 2 rfl rfl (lit_cells _ [165, 166] _ rfl) (by omega) ?_)
      intro v6 w6 hown6 hgr6 hmov6
      have haw6 := (haw5.alloc (.cells #[.int .u8 165, .int .u8 166] 5)).grown hgr6 (fun k hk => .inr (hnew5 k hk))
      obtain ⟨g6, cap6, rfl, hcap6, row6, _, _⟩ := app_row hown6 rfl hbb (by omega)
      have rowS6 := rowS.away haw6 (by simp)
      have ownS6 := ownS.away haw6 (by simp)
      have WS6 := WS.away haw6 (by simp) (by simp)
      have MS6 := MS.away haw6 (by simp) (by simp)
      have aS6 := aSw.next haw6 (by simp)
      clear hgr6 hmov6 hown5 hnew5 haw5 hown6 haw6 WS MS rowS ownS rowO aSw
      go_wp2_with fail
      refine (same_yes _ _ (b ++ [165, 166]) (b ++ [165, 166]) _ _ _ _ _ HL.out HL.out (by simp) (by simp) (by exact rowS6) (by exact row6) rfl).mono ?_
      rintro E w7 ⟨rfl, hw7⟩
      have hw7 := hw7.symm
      subst hw7
      clear row6 rowS6
      have hst : ∃ M : List Int, M.length = b.length + 2 ∧ Owns w6 (.slice (some ⟨gb, 0, none⟩) (b.length + 2) capb) M ∧ Wr w6 g v1 lim l' e' ∧ Mw w6 h u1 lim l' e' ∧ Away (fp g v ++ fp h u) w w6 := ⟨_, HL.out, ownS6, WS6, MS6, aS6⟩
      clear ownS6 WS6 MS6 aS6
      go_wp2_with fail
      go_loopw [13] (fun i wr => ∃ (k : Nat), k ≤ b.length + 2 ∧ i = .int .i64 k ∧ ∃ M : List Int, M.length = b.length + 2 ∧ Owns wr (.slice (some ⟨gb, 0, none⟩) (b.length + 2) capb) M ∧ Wr wr g v1 lim l' e' ∧ Mw wr h u1 lim l' e' ∧ Away (fp g v ++ fp h u) w wr) (fun i _ => b.length + 2 - (intOf i).toNat)
      case atStart => exact ⟨0, by omega, rfl, hst⟩
      case round =>
        obtain ⟨k, hk, rfl, M, hM, oM, W9, M9, a9⟩ := hrel
        have HM : Hid (M.length = b.length + 2) := hM
        clear hM
        by_cases hlt : k < b.length + 2
        · obtain ⟨c0, f0⟩ := oM.cells k (by rw [HM.out]; exact hlt)
          have hA9 : Away [gb] wr (wr.setCell ⟨gb, k, none⟩ (.int .u8 238)) := (Away.refl _ wr).setCell (.inl (by simp)) _
          have W10 := W9.away hA9 (fun hm => by simp at hm; exact hgbv (by rw [← hm]; exact fp_self _ _)) (fun j hj hm => by simp at hm; exact hgbv (by rw [← hm]; exact fp_own hj))
          have M10 := M9.away hA9 (fun hm => by simp at hm; exact hgbu (by rw [← hm]; exact fp_self _ _)) (fun j hj hm => by simp at hm; exact hgbu (by rw [← hm]; exact fp_own hj))
          have a10 := a9.next hA9 (by simpa using .inr hgbw)
          have o10 := oM.set HM.out k 238
          clear oM W9 M9 a9 hA9
          have hlt1 : (k : Int) < (b.length : Int) + 2 := by omega
          go_wp2_with fail
          go_roundw
          case rel => exact ⟨k + 1, by omega, by go_num, _, by simpa using HM.out, o10, W10, M10, a10⟩
          case measure => simp [intOf]; omega
        · have hlt1 : ¬ ((k : Int) < (b.length : Int) + 2) := by omega
          obtain ⟨ma, mcap, hmu, _⟩ := M9.slice
          have q1 : wr.cell? ⟨h, 1, none⟩ = some (.slice ma l'.length mcap) := by rw [cell_of_block M9.1, hmu]; rfl
          have q2 : wr.cell? ⟨h, 2, none⟩ = some (.int .i64 e') := by rw [cell_of_block M9.1]; rfl
          clear oM hmu
          go_wp2_with fail
          go_quiet (first
            | (go_at_call 19; exact Calls.quiet_of_same (wlen_any _ g v1 lim l' e' (by exact W9)))
            | (go_at_call 26; exact Calls.quiet_of_same (werr_any _ g v1 lim l' e' (by exact W9))))
          go_wp2_with fail
          go_ret
          exact ⟨rfl, v1, u1, l', e', W9.drewN _, M9.drewN _, mvw, muw, dS, a9.drewN _⟩
  have b3 : (kd == 3) = false := by simp [h3]
  by_cases h4 : kd = 4
  · subst h4
    · have K1 := wbytes_any wB g v lim l e (some ⟨gb, 0, none⟩) b b.length capb WB rfl (by simp) rowbb
      have K2 : Hid (∀ W : World, Mw W h u lim l e → Row W ba b → Calls Try.prog 47 #[.pointer (some ⟨h, 0, none⟩), .slice ba b.length bc] W fun E w' => MWrote W h u lim (wrAll l e lim b) (wrErr l e lim b.length) E w') := fun W hW hR => mwbytes_any W h u lim l e ba b _ bc hW rfl hnone hR
      obtain ⟨l', hl'⟩ : ∃ l', l' = wrAll l e lim b := ⟨_, rfl⟩
      obtain ⟨e', he'⟩ : ∃ e', e' = wrErr l e lim b.length := ⟨_, rfl⟩
      rw [← hl', ← he'] at K1 K2
      clear hl' he'
      go_wp2_with fail
      refine K1.mono ?_
      rintro E w3 ⟨rfl, v1, W3, m3, a3⟩
      have M3 := MB.away a3 (fun hm => hd h hm (fp_self _ _)) (fun k hk hm => hd k hm (fp_own hk))
      have z0 := a3.cell hgx1 y0
      have z2 := a3.cell hgx1 y2
      have z3 := a3.cell hgx1 y3
      have z4 := a3.cell hgx1 y4
      clear K1
      go_wp2_with fail
      refine (K2.out _ (by exact M3) (by exact HRB.out _ _ (fun k hk => List.mem_append_left _ hk) a3)).mono ?_
      rintro E wS ⟨rfl, u1, M4, m4, a4⟩
      have bth := both_mk WB MB hd W3 m3 a3 M4 m4 a4
      clear W3 m3 a3 M3 M4 m4 a4 K2 z0 z2 z3 z4
      obtain ⟨WS, MS, mv, mu, dS, aS⟩ := bth
      have zx4 := aS.cell hxn y4
      have rowS := rowb.away aS (fun y hy => by simp at hy; subst hy; exact hgbn)
      have ownS := hownb.away aS (fun k hk => by simp [Value.ownBlock] at hk; subst hk; exact hgbn)
      have rowO := HRB.out _ _ (fun k hk => hk) aS
      have aSw : Away (fp g v ++ fp h u) w wS := (aB.mono (T := fp g v ++ fp h u) (by simp)).next aS (fun k hk => .inl hk)
      have hszS := aS.size
      have mvw : Moved w v v1 := fun k hk => by rcases mv k hk with h | h; exact .inl h; right; omega
      have muw : Moved w u u1 := fun k hk => by rcases mu k hk with h | h; exact .inl h; right; omega
      have HL : Hid ((b ++ [165, 166]).length = b.length + 2) := by show _ = _; simp
      have hgbw : w.heap.size ≤ gb := by omega
      have hgbv : gb ∉ fp g v1 := fun hm => by
        rcases fp_split mv gb hm with h | h
        · exact hgb1 h
        · have := hownb.lt gb rfl; omega
      have hgbu : gb ∉ fp h u1 := fun hm => by
        rcases fp_split mu gb hm with h | h
        · exact hgbn (List.mem_append_right _ h)
        · have := hownb.lt gb rfl; omega
      clear y0 y2 y3 y4 WB MB rowB s1 aS mv mu
      go_wp2_with fail
      refine (own_any ba b _ bc _ rfl (by exact rowO)).mono ?_
      rintro E w5 ⟨v5, rfl, hown5, hnew5, haw5, _, hl5⟩
      go_wp2_with (at_builtin; refine wpList_app rfl _ _ rfl _ b [165, 166] rfl (by exact hown5.away ((Away.refl [] _).alloc _) (by simp)) ⟨w5.heap.size, 0, none⟩ 2 2 rfl rfl (lit_cells _ [165, 166] _ rfl) (by omega) ?_)
      intro v6 w6 hown6 hgr6 hmov6
      have haw6 := (haw5.alloc (.cells #[.int .u8 165, .int .u8 166] 5)).grown hgr6 (fun k hk => .inr (hnew5 k hk))
      obtain ⟨g6, cap6, rfl, hcap6, row6, _, _⟩ := app_row hown6 rfl hbb (by omega)
      have rowS6 := rowS.away haw6 (by simp)
      have ownS6 := ownS.away haw6 (by simp)
      have WS6 := WS.away haw6 (by simp) (by simp)
      have MS6 := MS.away haw6 (by simp) (by simp)
      have aS6 := aSw.next haw6 (by simp)
      clear hgr6 hmov6 hown5 hnew5 haw5 hown6 haw6 WS MS rowS ownS rowO aSw
      go_wp2_with fail
      refine (same_yes _ _ (b ++ [165, 166]) (b ++ [165, 166]) _ _ _ _ _ HL.out HL.out (by simp) (by simp) (by exact rowS6) (by exact row6) rfl).mono ?_
      rintro E w7 ⟨rfl, hw7⟩
      have hw7 := hw7.symm
      subst hw7
      clear row6 rowS6
      have hst : ∃ M : List Int, M.length = b.length + 2 ∧ Owns w6 (.slice (some ⟨gb, 0, none⟩) (b.length + 2) capb) M ∧ Wr w6 g v1 lim l' e' ∧ Mw w6 h u1 lim l' e' ∧ Away (fp g v ++ fp h u) w w6 := ⟨_, HL.out, ownS6, WS6, MS6, aS6⟩
      clear ownS6 WS6 MS6 aS6
      go_wp2_with fail
      go_loopw [13] (fun i wr => ∃ (k : Nat), k ≤ b.length + 2 ∧ i = .int .i64 k ∧ ∃ M : List Int, M.length = b.length + 2 ∧ Owns wr (.slice (some ⟨gb, 0, none⟩) (b.length + 2) capb) M ∧ Wr wr g v1 lim l' e' ∧ Mw wr h u1 lim l' e' ∧ Away (fp g v ++ fp h u) w wr) (fun i _ => b.length + 2 - (intOf i).toNat)
      case atStart => exact ⟨0, by omega, rfl, hst⟩
      case round =>
        obtain ⟨k, hk, rfl, M, hM, oM, W9, M9, a9⟩ := hrel
        have HM : Hid (M.length = b.length + 2) := hM
        clear hM
        by_cases hlt : k < b.length + 2
        · obtain ⟨c0, f0⟩ := oM.cells k (by rw [HM.out]; exact hlt)
          have hA9 : Away [gb] wr (wr.setCell ⟨gb, k, none⟩ (.int .u8 238)) := (Away.refl _ wr).setCell (.inl (by simp)) _
          have W10 := W9.away hA9 (fun hm => by simp at hm; exact hgbv (by rw [← hm]; exact fp_self _ _)) (fun j hj hm => by simp at hm; exact hgbv (by rw [← hm]; exact fp_own hj))
          have M10 := M9.away hA9 (fun hm => by simp at hm; exact hgbu (by rw [← hm]; exact fp_self _ _)) (fun j hj hm => by simp at hm; exact hgbu (by rw [← hm]; exact fp_own hj))
          have a10 := a9.next hA9 (by simpa using .inr hgbw)
          have o10 := oM.set HM.out k 238
          clear oM W9 M9 a9 hA9
          have hlt1 : (k : Int) < (b.length : Int) + 2 := by omega
          go_wp2_with fail
          go_roundw
          case rel => exact ⟨k + 1, by omega, by go_num, _, by simpa using HM.out, o10, W10, M10, a10⟩
          case measure => simp [intOf]; omega
        · have hlt1 : ¬ ((k : Int) < (b.length : Int) + 2) := by omega
          obtain ⟨ma, mcap, hmu, _⟩ := M9.slice
          have q1 : wr.cell? ⟨h, 1, none⟩ = some (.slice ma l'.length mcap) := by rw [cell_of_block M9.1, hmu]; rfl
          have q2 : wr.cell? ⟨h, 2, none⟩ = some (.int .i64 e') := by rw [cell_of_block M9.1]; rfl
          clear oM hmu
          go_wp2_with fail
          go_quiet (first
            | (go_at_call 19; exact Calls.quiet_of_same (wlen_any _ g v1 lim l' e' (by exact W9)))
            | (go_at_call 26; exact Calls.quiet_of_same (werr_any _ g v1 lim l' e' (by exact W9))))
          go_wp2_with fail
          go_ret
          exact ⟨rfl, v1, u1, l', e', W9.drewN _, M9.drewN _, mvw, muw, dS, a9.drewN _⟩
  have b4 : (kd == 4) = false := by simp [h4]
  by_cases h6 : kd = 6
  · subst h6
    · have K1 := put16_any wB g v lim l e n (x % 65536) WB (by omega) (by omega) hn0 hn1
      have K2 : Hid (∀ W : World, Mw W h u lim l e → Calls Try.prog 48 #[.pointer (some ⟨h, 0, none⟩), .int .i64 n, .int .u16 (x % 65536)] W fun E w' => MWrote W h u lim (putAll l e n (x % 65536)) (putErr l e n) E w') := fun W hW => mput16_any W h u lim l e n (x % 65536) hW (by omega) (by omega) hn0 hn1
      obtain ⟨l', hl'⟩ : ∃ l', l' = putAll l e n (x % 65536) := ⟨_, rfl⟩
      obtain ⟨e', he'⟩ : ∃ e', e' = putErr l e n := ⟨_, rfl⟩
      rw [← hl', ← he'] at K1 K2
      clear hl' he'
      go_wp2_with fail
      refine K1.mono ?_
      rintro E w3 ⟨rfl, v1, W3, m3, a3⟩
      have M3 := MB.away a3 (fun hm => hd h hm (fp_self _ _)) (fun k hk hm => hd k hm (fp_own hk))
      have z0 := a3.cell hgx1 y0
      have z2 := a3.cell hgx1 y2
      have z3 := a3.cell hgx1 y3
      have z4 := a3.cell hgx1 y4
      clear K1
      go_wp2_with fail
      refine (K2.out _ (by exact M3)).mono ?_
      rintro E wS ⟨rfl, u1, M4, m4, a4⟩
      have bth := both_mk WB MB hd W3 m3 a3 M4 m4 a4
      clear W3 m3 a3 M3 M4 m4 a4 K2 z0 z2 z3 z4
      obtain ⟨WS, MS, mv, mu, dS, aS⟩ := bth
      have zx4 := aS.cell hxn y4
      have rowS := rowb.away aS (fun y hy => by simp at hy; subst hy; exact hgbn)
      have ownS := hownb.away aS (fun k hk => by simp [Value.ownBlock] at hk; subst hk; exact hgbn)
      have rowO := HRB.out _ _ (fun k hk => hk) aS
      have aSw : Away (fp g v ++ fp h u) w wS := (aB.mono (T := fp g v ++ fp h u) (by simp)).next aS (fun k hk => .inl hk)
      have hszS := aS.size
      have mvw : Moved w v v1 := fun k hk => by rcases mv k hk with h | h; exact .inl h; right; omega
      have muw : Moved w u u1 := fun k hk => by rcases mu k hk with h | h; exact .inl h; right; omega
      have HL : Hid ((b ++ [165, 166]).length = b.length + 2) := by show _ = _; simp
      have hgbw : w.heap.size ≤ gb := by omega
      have hgbv : gb ∉ fp g v1 := fun hm => by
        rcases fp_split mv gb hm with h | h
        · exact hgb1 h
        · have := hownb.lt gb rfl; omega
      have hgbu : gb ∉ fp h u1 := fun hm => by
        rcases fp_split mu gb hm with h | h
        · exact hgbn (List.mem_append_right _ h)
        · have := hownb.lt gb rfl; omega
      clear y0 y2 y3 y4 WB MB rowB s1 aS mv mu
      go_wp2_with fail
      refine (own_any ba b _ bc _ rfl (by exact rowO)).mono ?_
      rintro E w5 ⟨v5, rfl, hown5, hnew5, haw5, _, hl5⟩
      go_wp2_with (at_builtin; refine wpList_app rfl _ _ rfl _ b [165, 166] rfl (by exact hown5.away ((Away.refl [] _).alloc _) (by simp)) ⟨w5.heap.size, 0, none⟩ 2 2 rfl rfl (lit_cells _ [165, 166] _ rfl) (by omega) ?_)
      intro v6 w6 hown6 hgr6 hmov6
      have haw6 := (haw5.alloc (.cells #[.int .u8 165, .int .u8 166] 5)).grown hgr6 (fun k hk => .inr (hnew5 k hk))
      obtain ⟨g6, cap6, rfl, hcap6, row6, _, _⟩ := app_row hown6 rfl hbb (by omega)
      have rowS6 := rowS.away haw6 (by simp)
      have ownS6 := ownS.away haw6 (by simp)
      have WS6 := WS.away haw6 (by simp) (by simp)
      have MS6 := MS.away haw6 (by simp) (by simp)
      have aS6 := aSw.next haw6 (by simp)
      clear hgr6 hmov6 hown5 hnew5 haw5 hown6 haw6 WS MS rowS ownS rowO aSw
      go_wp2_with fail
      refine (same_yes _ _ (b ++ [165, 166]) (b ++ [165, 166]) _ _ _ _ _ HL.out HL.out (by simp) (by simp) (by exact rowS6) (by exact row6) rfl).mono ?_
      rintro E w7 ⟨rfl, hw7⟩
      have hw7 := hw7.symm
      subst hw7
      clear row6 rowS6
      have hst : ∃ M : List Int, M.length = b.length + 2 ∧ Owns w6 (.slice (some ⟨gb, 0, none⟩) (b.length + 2) capb) M ∧ Wr w6 g v1 lim l' e' ∧ Mw w6 h u1 lim l' e' ∧ Away (fp g v ++ fp h u) w w6 := ⟨_, HL.out, ownS6, WS6, MS6, aS6⟩
      clear ownS6 WS6 MS6 aS6
      go_wp2_with fail
      go_loopw [13] (fun i wr => ∃ (k : Nat), k ≤ b.length + 2 ∧ i = .int .i64 k ∧ ∃ M : List Int, M.length = b.length + 2 ∧ Owns wr (.slice (some ⟨gb, 0, none⟩) (b.length + 2) capb) M ∧ Wr wr g v1 lim l' e' ∧ Mw wr h u1 lim l' e' ∧ Away (fp g v ++ fp h u) w wr) (fun i _ => b.length + 2 - (intOf i).toNat)
      case atStart => exact ⟨0, by omega, rfl, hst⟩
      case round =>
        obtain ⟨k, hk, rfl, M, hM, oM, W9, M9, a9⟩ := hrel
        have HM : Hid (M.length = b.length + 2) := hM
        clear hM
        by_cases hlt : k < b.length + 2
        · obtain ⟨c0, f0⟩ := oM.cells k (by rw [HM.out]; exact hlt)
          have hA9 : Away [gb] wr (wr.setCell ⟨gb, k, none⟩ (.int .u8 238)) := (Away.refl _ wr).setCell (.inl (by simp)) _
          have W10 := W9.away hA9 (fun hm => by simp at hm; exact hgbv (by rw [← hm]; exact fp_self _ _)) (fun j hj hm => by simp at hm; exact hgbv (by rw [← hm]; exact fp_own hj))
          have M10 := M9.away hA9 (fun hm => by simp at hm; exact hgbu (by rw [← hm]; exact fp_self _ _)) (fun j hj hm => by simp at hm; exact hgbu (by rw [← hm]; exact fp_own hj))
          have a10 := a9.next hA9 (by simpa using .inr hgbw)
          have o10 := oM.set HM.out k 238
          clear oM W9 M9 a9 hA9
          have hlt1 : (k : Int) < (b.length : Int) + 2 := by omega
          go_wp2_with fail
          go_roundw
          case rel => exact ⟨k + 1, by omega, by go_num, _, by simpa using HM.out, o10, W10, M10, a10⟩
          case measure => simp [intOf]; omega
        · have hlt1 : ¬ ((k : Int) < (b.length : Int) + 2) := by omega
          obtain ⟨ma, mcap, hmu, _⟩ := M9.slice
          have q1 : wr.cell? ⟨h, 1, none⟩ = some (.slice ma l'.length mcap) := by rw [cell_of_block M9.1, hmu]; rfl
          have q2 : wr.cell? ⟨h, 2, none⟩ = some (.int .i64 e') := by rw [cell_of_block M9.1]; rfl
          clear oM hmu
          go_wp2_with fail
          go_quiet (first
            | (go_at_call 19; exact Calls.quiet_of_same (wlen_any _ g v1 lim l' e' (by exact W9)))
            | (go_at_call 26; exact Calls.quiet_of_same (werr_any _ g v1 lim l' e' (by exact W9))))
          go_wp2_with fail
          go_ret
          exact ⟨rfl, v1, u1, l', e', W9.drewN _, M9.drewN _, mvw, muw, dS, a9.drewN _⟩
  have b6 : (kd == 6) = false := by simp [h6]
  by_cases h5 : kd = 5
  · subst h5
    · have hwb : Bytes (wrOut l e) := by
        unfold wrOut; split
        · exact WB.2.2.2.1
        · exact Bytes.nil
      have hwl : (wrOut l e).length ≤ 140737488355328 := by
        have := WB.len
        unfold wrOut; split
        · omega
        · simp
      go_wp2_with fail
      refine (out_any _ g v lim l e (by exact WB)).mono ?_
      rintro E w3 ⟨v3, rfl, hown3, hnew3, a3⟩
      obtain ⟨a3', cap3, rfl, hcap3, hnone3, row3, _⟩ := hown3.row hwl hwb
      have M3 := MB.away a3 (by simp) (by simp)
      go_wp2_with fail
      refine (mwout_any _ h u lim l e (by exact M3)).mono ?_
      rintro E wS ⟨v4, rfl, hown4, hnew4, a4⟩
      obtain ⟨a4', cap4, rfl, hcap4, hnone4, row4, _⟩ := hown4.row hwl hwb
      have row3' := row3.away a4 (by simp)
      have a34 := a3.next a4 (by simp)
      obtain ⟨l', hl'⟩ : ∃ l', l' = l := ⟨_, rfl⟩
      obtain ⟨e', he'⟩ : ∃ e', e' = e := ⟨_, rfl⟩
      obtain ⟨v1, hv1⟩ : ∃ v1, v1 = v := ⟨_, rfl⟩
      obtain ⟨u1, hu1⟩ : ∃ u1, u1 = u := ⟨_, rfl⟩
      have bth : Both wB wS g v v1 h u u1 lim l' e' := by
        rw [hl', he', hv1, hu1]
        exact both_refl (WB.away a34 (by simp) (by simp)) (MB.away a34 (by simp) (by simp)) hd a34
      clear hown3 hnew3 a3 M3 hown4 hnew4 a4 row3 a34 hl' he' hv1 hu1
      go_wp2_with fail
      refine (same_yes _ _ (wrOut l e) (wrOut l e) _ _ _ _ _ rfl rfl hnone3 hnone4 (by exact row3') (by exact row4) rfl).mono ?_
      rintro E w44 ⟨rfl, hw44⟩
      have hw44 := hw44.symm
      subst hw44
      clear row3' row4 hwb hwl
      obtain ⟨WS, MS, mv, mu, dS, aS⟩ := bth
      have zx4 := aS.cell hxn y4
      have rowS := rowb.away aS (fun y hy => by simp at hy; subst hy; exact hgbn)
      have ownS := hownb.away aS (fun k hk => by simp [Value.ownBlock] at hk; subst hk; exact hgbn)
      have rowO := HRB.out _ _ (fun k hk => hk) aS
      have aSw : Away (fp g v ++ fp h u) w wS := (aB.mono (T := fp g v ++ fp h u) (by simp)).next aS (fun k hk => .inl hk)
      have hszS := aS.size
      have mvw : Moved w v v1 := fun k hk => by rcases mv k hk with h | h; exact .inl h; right; omega
      have muw : Moved w u u1 := fun k hk => by rcases mu k hk with h | h; exact .inl h; right; omega
      have HL : Hid ((b ++ [165, 166]).length = b.length + 2) := by show _ = _; simp
      have hgbw : w.heap.size ≤ gb := by omega
      have hgbv : gb ∉ fp g v1 := fun hm => by
        rcases fp_split mv gb hm with h | h
        · exact hgb1 h
        · have := hownb.lt gb rfl; omega
      have hgbu : gb ∉ fp h u1 := fun hm => by
        rcases fp_split mu gb hm with h | h
        · exact hgbn (List.mem_append_right _ h)
        · have := hownb.lt gb rfl; omega
      clear y0 y2 y3 y4 WB MB rowB s1 aS mv mu
      go_wp2_with fail
      refine (own_any ba b _ bc _ rfl (by exact rowO)).mono ?_
      rintro E w5 ⟨v5, rfl, hown5, hnew5, haw5, _, hl5⟩
      go_wp2_with (at_builtin; refine wpList_app rfl _ _ rfl _ b [165, 166] rfl (by exact hown5.away ((Away.refl [] _).alloc _) (by simp)) ⟨w5.heap.size, 0, none⟩ 2 2 rfl rfl (lit_cells _ [165, 166] _ rfl) (by omega) ?_)
      intro v6 w6 hown6 hgr6 hmov6
      have haw6 := (haw5.alloc (.cells #[.int .u8 165, .int .u8 166] 5)).grown hgr6 (fun k hk => .inr (hnew5 k hk))
      obtain ⟨g6, cap6, rfl, hcap6, row6, _, _⟩ := app_row hown6 rfl hbb (by omega)
      have rowS6 := rowS.away haw6 (by simp)
      have ownS6 := ownS.away haw6 (by simp)
      have WS6 := WS.away haw6 (by simp) (by simp)
      have MS6 := MS.away haw6 (by simp) (by simp)
      have aS6 := aSw.next haw6 (by simp)
      clear hgr6 hmov6 hown5 hnew5 haw5 hown6 haw6 WS MS rowS ownS rowO aSw
      go_wp2_with fail
      refine (same_yes _ _ (b ++ [165, 166]) (b ++ [165, 166]) _ _ _ _ _ HL.out HL.out (by simp) (by simp) (by exact rowS6) (by exact row6) rfl).mono ?_
      rintro E w7 ⟨rfl, hw7⟩
      have hw7 := hw7.symm
      subst hw7
      clear row6 rowS6
      have hst : ∃ M : List Int, M.length = b.length + 2 ∧ Owns w6 (.slice (some ⟨gb, 0, none⟩) (b.length + 2) capb) M ∧ Wr w6 g v1 lim l' e' ∧ Mw w6 h u1 lim l' e' ∧ Away (fp g v ++ fp h u) w w6 := ⟨_, HL.out, ownS6, WS6, MS6, aS6⟩
      clear ownS6 WS6 MS6 aS6
      go_wp2_with fail
      go_loopw [13] (fun i wr => ∃ (k : Nat), k ≤ b.length + 2 ∧ i = .int .i64 k ∧ ∃ M : List Int, M.length = b.length + 2 ∧ Owns wr (.slice (some ⟨gb, 0, none⟩) (b.length + 2) capb) M ∧ Wr wr g v1 lim l' e' ∧ Mw wr h u1 lim l' e' ∧ Away (fp g v ++ fp h u) w wr) (fun i _ => b.length + 2 - (intOf i).toNat)
      case atStart => exact ⟨0, by omega, rfl, hst⟩
      case round =>
        obtain ⟨k, hk, rfl, M, hM, oM, W9, M9, a9⟩ := hrel
        have HM : Hid (M.length = b.length + 2) := hM
        clear hM
        by_cases hlt : k < b.length + 2
        · obtain ⟨c0, f0⟩ := oM.cells k (by rw [HM.out]; exact hlt)
          have hA9 : Away [gb] wr (wr.setCell ⟨gb, k, none⟩ (.int .u8 238)) := (Away.refl _ wr).setCell (.inl (by simp)) _
          have W10 := W9.away hA9 (fun hm => by simp at hm; exact hgbv (by rw [← hm]; exact fp_self _ _)) (fun j hj hm => by simp at hm; exact hgbv (by rw [← hm]; exact fp_own hj))
          have M10 := M9.away hA9 (fun hm => by simp at hm; exact hgbu (by rw [← hm]; exact fp_self _ _)) (fun j hj hm => by simp at hm; exact hgbu (by rw [← hm]; exact fp_own hj))
          have a10 := a9.next hA9 (by simpa using .inr hgbw)
          have o10 := oM.set HM.out k 238
          clear oM W9 M9 a9 hA9
          have hlt1 : (k : Int) < (b.length : Int) + 2 := by omega
          go_wp2_with fail
          go_roundw
          case rel => exact ⟨k + 1, by omega, by go_num, _, by simpa using HM.out, o10, W10, M10, a10⟩
          case measure => simp [intOf]; omega
        · have hlt1 : ¬ ((k : Int) < (b.length : Int) + 2) := by omega
          obtain ⟨ma, mcap, hmu, _⟩ := M9.slice
          have q1 : wr.cell? ⟨h, 1, none⟩ = some (.slice ma l'.length mcap) := by rw [cell_of_block M9.1, hmu]; rfl
          have q2 : wr.cell? ⟨h, 2, none⟩ = some (.int .i64 e') := by rw [cell_of_block M9.1]; rfl
          clear oM hmu
          go_wp2_with fail
          go_quiet (first
            | (go_at_call 19; exact Calls.quiet_of_same (wlen_any _ g v1 lim l' e' (by exact W9)))
            | (go_at_call 26; exact Calls.quiet_of_same (werr_any _ g v1 lim l' e' (by exact W9))))
          go_wp2_with fail
          go_ret
          exact ⟨rfl, v1, u1, l', e', W9.drewN _, M9.drewN _, mvw, muw, dS, a9.drewN _⟩
  have b5 : (kd == 5) = false := by simp [h5]
  · · obtain ⟨wS, hwS⟩ : ∃ wS, wS = wB := ⟨_, rfl⟩
      obtain ⟨l', hl'⟩ : ∃ l', l' = l := ⟨_, rfl⟩
      obtain ⟨e', he'⟩ : ∃ e', e' = e := ⟨_, rfl⟩
      obtain ⟨v1, hv1⟩ : ∃ v1, v1 = v := ⟨_, rfl⟩
      obtain ⟨u1, hu1⟩ : ∃ u1, u1 = u := ⟨_, rfl⟩
      have bth : Both wB wS g v v1 h u u1 lim l' e' := by
        rw [hl', he', hv1, hu1, hwS]
        exact both_refl WB MB hd (Away.refl _ _)
      clear hl' he' hv1 hu1
      go_wp2_with fail
      obtain ⟨WS, MS, mv, mu, dS, aS⟩ := bth
      subst hwS
      have zx4 := aS.cell hxn y4
      have rowS := rowb.away aS (fun y hy => by simp at hy; subst hy; exact hgbn)
      have ownS := hownb.away aS (fun k hk => by simp [Value.ownBlock] at hk; subst hk; exact hgbn)
      have rowO := HRB.out _ _ (fun k hk => hk) aS
      have aSw : Away (fp g v ++ fp h u) w wS := (aB.mono (T := fp g v ++ fp h u) (by simp)).next aS (fun k hk => .inl hk)
      have hszS := aS.size
      have mvw : Moved w v v1 := fun k hk => by rcases mv k hk with h | h; exact .inl h; right; omega
      have muw : Moved w u u1 := fun k hk => by rcases mu k hk with h | h; exact .inl h; right; omega
      have HL : Hid ((b ++ [165, 166]).length = b.length + 2) := by show _ = _; simp
      have hgbw : w.heap.size ≤ gb := by omega
      have hgbv : gb ∉ fp g v1 := fun hm => by
        rcases fp_split mv gb hm with h | h
        · exact hgb1 h
        · have := hownb.lt gb rfl; omega
      have hgbu : gb ∉ fp h u1 := fun hm => by
        rcases fp_split mu gb hm with h | h
        · exact hgbn (List.mem_append_right _ h)
        · have := hownb.lt gb rfl; omega
      clear y0 y2 y3 y4 WB MB rowB s1 aS mv mu
      refine (own_any ba b _ bc _ rfl (by exact rowO)).mono ?_
      rintro E w5 ⟨v5, rfl, hown5, hnew5, haw5, _, hl5⟩
      go_wp2_with (at_builtin; refine wpList_app rfl _ _ rfl _ b [165, 166] rfl (by exact hown5.away ((Away.refl [] _).alloc _) (by simp)) ⟨w5.heap.size, 0, none⟩ 2 2 rfl rfl (lit_cells _ [165, 166] _ rfl) (by omega) ?_)
      intro v6 w6 hown6 hgr6 hmov6
      have haw6 := (haw5.alloc (.cells #[.int .u8 165, .int .u8 166] 5)).grown hgr6 (fun k hk => .inr (hnew5 k hk))
      obtain ⟨g6, cap6, rfl, hcap6, row6, _, _⟩ := app_row hown6 rfl hbb (by omega)
      have rowS6 := rowS.away haw6 (by simp)
      have ownS6 := ownS.away haw6 (by simp)
      have WS6 := WS.away haw6 (by simp) (by simp)
      have MS6 := MS.away haw6 (by simp) (by simp)
      have aS6 := aSw.next haw6 (by simp)
      clear hgr6 hmov6 hown5 hnew5 haw5 hown6 haw6 WS MS rowS ownS rowO aSw
      go_wp2_with fail
      refine (same_yes _ _ (b ++ [165, 166]) (b ++ [165, 166]) _ _ _ _ _ HL.out HL.out (by simp) (by simp) (by exact rowS6) (by exact row6) rfl).mono ?_
      rintro E w7 ⟨rfl, hw7⟩
      have hw7 := hw7.symm
      subst hw7
      clear row6 rowS6
      have hst : ∃ M : List Int, M.length = b.length + 2 ∧ Owns w6 (.slice (some ⟨gb, 0, none⟩) (b.length + 2) capb) M ∧ Wr w6 g v1 lim l' e' ∧ Mw w6 h u1 lim l' e' ∧ Away (fp g v ++ fp h u) w w6 := ⟨_, HL.out, ownS6, WS6, MS6, aS6⟩
      clear ownS6 WS6 MS6 aS6
      go_wp2_with fail
      go_loopw [13] (fun i wr => ∃ (k : Nat), k ≤ b.length + 2 ∧ i = .int .i64 k ∧ ∃ M : List Int, M.length = b.length + 2 ∧ Owns wr (.slice (some ⟨gb, 0, none⟩) (b.length + 2) capb) M ∧ Wr wr g v1 lim l' e' ∧ Mw wr h u1 lim l' e' ∧ Away (fp g v ++ fp h u) w wr) (fun i _ => b.length + 2 - (intOf i).toNat)
      case atStart => exact ⟨0, by omega, rfl, hst⟩
      case round =>
        obtain ⟨k, hk, rfl, M, hM, oM, W9, M9, a9⟩ := hrel
        have HM : Hid (M.length = b.length + 2) := hM
        clear hM
        by_cases hlt : k < b.length + 2
        · obtain ⟨c0, f0⟩ := oM.cells k (by rw [HM.out]; exact hlt)
          have hA9 : Away [gb] wr (wr.setCell ⟨gb, k, none⟩ (.int .u8 238)) := (Away.refl _ wr).setCell (.inl (by simp)) _
          have W10 := W9.away hA9 (fun hm => by simp at hm; exact hgbv (by rw [← hm]; exact fp_self _ _)) (fun j hj hm => by simp at hm; exact hgbv (by rw [← hm]; exact fp_own hj))
          have M10 := M9.away hA9 (fun hm => by simp at hm; exact hgbu (by rw [← hm]; exact fp_self _ _)) (fun j hj hm => by simp at hm; exact hgbu (by rw [← hm]; exact fp_own hj))
          have a10 := a9.next hA9 (by simpa using .inr hgbw)
          have o10 := oM.set HM.out k 238
          clear oM W9 M9 a9 hA9
          have hlt1 : (k : Int) < (b.length : Int) + 2 := by omega
          go_wp2_with fail
          go_roundw
          case rel => exact ⟨k + 1, by omega, by go_num, _, by simpa using HM.out, o10, W10, M10, a10⟩
          case measure => simp [intOf]; omega
        · have hlt1 : ¬ ((k : Int) < (b.length : Int) + 2) := by omega
          obtain ⟨ma, mcap, hmu, _⟩ := M9.slice
          have q1 : wr.cell? ⟨h, 1, none⟩ = some (.slice ma l'.length mcap) := by rw [cell_of_block M9.1, hmu]; rfl
          have q2 : wr.cell? ⟨h, 2, none⟩ = some (.int .i64 e') := by rw [cell_of_block M9.1]; rfl
          clear oM hmu
          go_wp2_with fail
          go_quiet (first
            | (go_at_call 19; exact Calls.quiet_of_same (wlen_any _ g v1 lim l' e' (by exact W9)))
            | (go_at_call 26; exact Calls.quiet_of_same (werr_any _ g v1 lim l' e' (by exact W9))))
          go_wp2_with fail
          go_ret
          exact ⟨rfl, v1, u1, l', e', W9.drewN _, M9.drewN _, mvw, muw, dS, a9.drewN _⟩
#print axioms writes_any
end Go.Proofs.Ytaiomhhndckccaa
