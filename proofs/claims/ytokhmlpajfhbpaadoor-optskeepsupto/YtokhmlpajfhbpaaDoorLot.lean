/-
  What OptsKeeps keeps: lists, their copies, who lies where; put.
-/
import Derived.Test.YtokhmlpajfhbpaaDoorEnded
namespace Go.Proofs.YtokhmlpajfhbpaaDoor
open Go.ChangeShapes Go.WideShapes Go.ChangeAt Go.RowKit Go.Deep
set_option linter.unusedVariables false
set_option maxRecDepth 100000

theorem info22 : (Tryd.prog.info? 22).map (fun i => (i.zero, i.size, i.bytes)) = some (some (.slice none 0 0), 1, 24) := by kernel_rfl
theorem wpList_app41 {w : World} {ops : Array Oper} {rest : List Oper} {o : Oper} {a : Act} {Q : Exit → Act → World → Prop} (hw : Region.wanted o (yielded ops a.tmps) = true) (s x : Operand)
    (ho : o.op = .call { callee := .builtin .append, args := #[s, x], argTypes := #[41, 41] }) (v : Value) (xs : List Value) (hs : a.eval s = v) (hown : OwnsG 22 w v xs)
    (ad : Addr) (c : Nat) (hx : a.eval x = .slice (some ad) 1 c) (u : Value) (hu : w.cell? ad = some u) (h1 : u.oneCell' = true) (hlen : xs.length ≤ 1000000000)
    (h : ∀ v' w', OwnsG 22 w' v' (xs ++ [u]) → Away v.ownBlock.toList w w' → Moved w v v' → wpList Tryd.prog ops Q rest (a.put o.dst v') w') : wpList Tryd.prog ops Q (o :: rest) a w := by
  obtain ⟨i0, hi, hz0, hz1, hz2⟩ := info_parts info22
  obtain ⟨v', w', hrun, r1, r2, r3⟩ := run_app 41 o.type 22 i0 _ 24 Tryd.underlying41 hi hz0 hz1 hz2 rfl w v xs hown ad 1 c [u] rfl (fun j y hj => by
    match j, hj with
    | 0, hj => simp at hj; subst hj; simpa [Addr.add] using hu
    | j + 1, hj => simp at hj) (by simpa using h1) (by unfold maxLen; omega) (by omega)
  refine wpList_step fun K hK => ?_
  rw [if_pos hw]
  unfold Oper.wp
  simp [execOp, ho, resolve, invoke, builtin, hs, hx, hrun, Result.andThen]
  exact hK _ _ (h v' w' r1 ((Away.refl _ _).grown r2 (fun k hk => .inl (by simp [hk]))) r3)

/-- A list that was told, its copy, what they hold. -/
structure Tr where
  p : List Int
  v : Value
  u : Value
def InLot (g : Nat) (kv wv : Value) (T : List Tr) (k : Nat) : Prop := k = g ∨ kv.ownBlock = some k ∨ wv.ownBlock = some k ∨ ∃ t ∈ T, t.v.ownBlock = some k ∨ t.u.ownBlock = some k
structure Lot (w : World) (B g : Nat) (kv wv : Value) (T : List Tr) : Prop where
  blk : w.heap[g]? = some (.cells #[kv] 43 (0, 0))
  kl : OwnsG 22 w kv (T.map Tr.v)
  wl : OwnsG 22 w wv (T.map Tr.u)
  own : ∀ t ∈ T, Owns w t.v t.p ∧ Owns w t.u t.p ∧ Bytes t.p ∧ t.p.length ≤ 1048576
  new : ∀ k, InLot g kv wv T k → B ≤ k
  vg : ∀ t ∈ T, ∀ k, t.v.ownBlock = some k → k ≠ g ∧ kv.ownBlock ≠ some k ∧ wv.ownBlock ≠ some k ∧ ∀ s ∈ T, s.u.ownBlock ≠ some k
  vv : T.Pairwise (fun s t => ∀ k, s.v.ownBlock = some k → t.v.ownBlock ≠ some k)
  kg : kv.ownBlock ≠ some g
  wg : wv.ownBlock ≠ some g ∧ ∀ k, kv.ownBlock = some k → wv.ownBlock ≠ some k
  ug : ∀ t ∈ T, ∀ k, t.u.ownBlock = some k → k ≠ g ∧ kv.ownBlock ≠ some k ∧ wv.ownBlock ≠ some k
theorem Lot.lt {w : World} {B g : Nat} {kv wv : Value} {T : List Tr} (h : Lot w B g kv wv T) {k : Nat} (hk : InLot g kv wv T k) : k < w.heap.size := by
  rcases hk with rfl | hk | hk | ⟨t, ht, hk | hk⟩
  · exact lt_of_block h.blk
  · exact h.kl.lt k hk
  · exact h.wl.lt k hk
  · exact (h.own t ht).1.lt k hk
  · exact (h.own t ht).2.1.lt k hk
theorem Lot.away {S : List Nat} {w w' : World} {B g : Nat} {kv wv : Value} {T : List Tr} (h : Lot w B g kv wv T) (hw : Away S w w') (hS : ∀ k, InLot g kv wv T k → k ∉ S) : Lot w' B g kv wv T :=
  ⟨hw.keep (hS _ (.inl rfl)) h.blk, h.kl.away hw (fun k hk => hS k (.inr (.inl hk))), h.wl.away hw (fun k hk => hS k (.inr (.inr (.inl hk)))),
    fun t ht => ⟨(h.own t ht).1.away hw (fun k hk => hS k (.inr (.inr (.inr ⟨t, ht, .inl hk⟩)))), (h.own t ht).2.1.away hw (fun k hk => hS k (.inr (.inr (.inr ⟨t, ht, .inr hk⟩)))), (h.own t ht).2.2⟩,
    h.new, h.vg, h.vv, h.kg, h.wg, h.ug⟩
theorem Lot.on {w w' : World} {B g : Nat} {kv wv : Value} {T : List Tr} (h : Lot w B g kv wv T) (hw : Away [] w w') : Lot w' B g kv wv T := h.away hw (by simp)

/-- What put did. -/
def PutOut (w : World) (B g : Nat) (kv wv : Value) (T : List Tr) (v : Value) (p : List Int) (E : Ending) (w' : World) : Prop :=
  ∃ kv' wv' u, E = .returned wv' ∧ Lot w' B g kv' wv' (T ++ [⟨p, v, u⟩]) ∧ Away (g :: (kv.ownBlock.toList ++ wv.ownBlock.toList)) w w' ∧
    ∀ k, InLot g kv' wv' (T ++ [⟨p, v, u⟩]) k → InLot g kv wv T k ∨ v.ownBlock = some k ∨ w.heap.size ≤ k
set_option maxHeartbeats 4000000 in
theorem put_c (w : World) (B g : Nat) (kv wv : Value) (T : List Tr) (a : Option Addr) (p : List Int) (n c : Nat) (hn : p.length = n) (h : Lot w B g kv wv T) (hB : B ≤ w.heap.size) (hT : T.length ≤ 900000000) (ho : Owns w (.slice a n c) p) (hnone : a = none → c = 0) (hpb : Bytes p) (hps : p.length ≤ 1048576) (hnew : New B (.slice a n c))
    (hfar : ∀ k, (Value.slice a n c).ownBlock = some k → ¬ InLot g kv wv T k) :
    Calls Tryd.prog 19 #[.pointer (some ⟨g, 0, none⟩), .slice a n c, wv] w fun E w' => PutOut w B g kv wv T (.slice a n c) p E w' := by
  subst hn
  have HL : Hid (Lot w B g kv wv T) := h
  have HO : Hid (Owns w (.slice a p.length c) p) := ho
  have HN : Hid (New B (.slice a p.length c)) := hnew
  have HF : Hid (∀ k, (Value.slice a p.length c).ownBlock = some k → ¬ InLot g kv wv T k) := hfar
  have c0 : w.cell? ⟨g, 0, none⟩ = some kv := by rw [cell_of_block h.blk]; rfl
  have hglt := lt_of_block h.blk
  obtain ⟨ka, kn, kc, hkv⟩ : ∃ ka kn kc, kv = .slice ka kn kc := by
    rcases h.kl.2 with ⟨e, _⟩ | ⟨_, _, _, e, _⟩
    · exact ⟨_, _, _, e⟩
    · exact ⟨_, _, _, e⟩
  subst hkv
  have hmv : (T.map Tr.v).length ≤ 900000000 := by simpa using hT
  have hmu : (T.map Tr.u).length ≤ 900000000 := by simpa using hT
  clear h ho hnew hfar
  go_enter Tryd.func19, Tryd.ntmps19
  go_wp2_with (at_builtin; refine wpList_app41 rfl _ _ rfl _ (T.map Tr.v) rfl (by exact HL.out.kl.away ((Away.refl [] _).alloc _) (by simp)) ⟨_, 0, none⟩ 1 rfl (.slice a p.length c) (by rw [World.cell?_alloc_at (hn := rfl)]; rfl) rfl (by omega) ?_)
  intro kv2 w2 hk2 haw2 hmov2
  have hawA : Away [] w (w.alloc (.cells #[.slice a p.length c] 22)) := (Away.refl [] w).alloc _
  have hszA : (w.alloc (.cells #[.slice a p.length c] 22)).heap.size = w.heap.size + 1 := by simp
  generalize w.alloc (.cells #[.slice a p.length c] 22) = wA at *
  have hgk : g ∉ (Value.slice ka kn kc).ownBlock.toList := fun hm => HL.out.kg (by simpa using hm)
  have hblk2 := haw2.keep hgk (hawA.keep (by simp) HL.out.blk)
  have f2 := free_of_block hblk2 0
  have c2 : w2.cell? ⟨g, 0, none⟩ = some (.slice ka kn kc) := by rw [cell_of_block hblk2]; rfl
  obtain ⟨qa, qn, qc, hq⟩ : ∃ ka kn kc, kv2 = .slice ka kn kc := by
    rcases hk2.2 with ⟨e, _⟩ | ⟨_, _, _, e, _⟩
    · exact ⟨_, _, _, e⟩
    · exact ⟨_, _, _, e⟩
  subst hq
  have HK2 : Hid (OwnsG 22 w2 (.slice qa qn qc) (T.map Tr.v ++ [.slice a p.length c])) := hk2
  have HA2 : Hid (Away (Value.slice ka kn kc).ownBlock.toList wA w2) := haw2
  have HM2 : Hid (Moved wA (.slice ka kn kc) (.slice qa qn qc)) := hmov2
  have HB2 : Hid (w2.heap[g]? = some (.cells #[.slice ka kn kc] 43 (0, 0))) := hblk2
  clear hk2 haw2 hmov2 hblk2
  have hpA : p.length ≤ 140737488355328 := by omega
  have HP : Hid (∀ wx, Away (g :: (Value.slice ka kn kc).ownBlock.toList) w wx → Row wx a p) := by
    intro wx hwx
    refine Owns.row' (HO.out.away hwx (fun k hk hm => HF.out k hk ?_)) hpA hpb
    rcases List.mem_cons.1 hm with rfl | hm
    · exact .inl rfl
    · exact .inr (.inl (by simpa using hm))
  have hA12 : Away (g :: (Value.slice ka kn kc).ownBlock.toList) w w2 := (hawA.mono (by simp)).next HA2.out (fun x hx => .inl (List.mem_cons_of_mem _ hx))
  have hA13 : Away (g :: (Value.slice ka kn kc).ownBlock.toList) w (w2.setCell ⟨g, 0, none⟩ (.slice qa qn qc)) := hA12.setCell (.inl (by simp)) _
  have hA23 : Away [g] w2 (w2.setCell ⟨g, 0, none⟩ (.slice qa qn qc)) := (Away.refl [g] w2).setCell (.inl (by simp)) _
  have hb3 : (w2.setCell ⟨g, 0, none⟩ (.slice qa qn qc)).heap[g]? = some (.cells #[.slice qa qn qc] 43 (0, 0)) := by rw [block_set HB2.out]; rfl
  have hs23 : (w2.setCell ⟨g, 0, none⟩ (.slice qa qn qc)).heap.size = w2.heap.size := by simp
  go_wp2_with (at_builtin; refine wpList_appA rfl _ _ rfl (.slice none 0 0) [] p rfl (Owns.nil _) a _ _ rfl rfl hnone (by exact HP.out _ hA13) (by simp; omega) ?_)
  intro u w4 hu4 haw4 hmov4
  generalize w2.setCell ⟨g, 0, none⟩ (.slice qa qn qc) = w3 at *
  have hu4 : Owns w4 u p := by simpa using hu4
  have haw4 : Away [] w3 w4 := haw4
  have hun : New w3.heap.size u := fun j hj => by
    rcases hmov4 j hj with h | h
    · simp [Value.ownBlock] at h
    · exact h
  obtain ⟨ua, uc, rfl, _⟩ := hu4.row hpA hpb
  have HU4 : Hid (Owns w4 (.slice ua p.length uc) p) := hu4
  have HUN : Hid (New w3.heap.size (.slice ua p.length uc)) := hun
  have hA14 := hA13.next haw4 (by simp)
  have hW : ∀ k, wv.ownBlock = some k → k ∉ g :: (Value.slice ka kn kc).ownBlock.toList := fun k hk hm => by
    rcases List.mem_cons.1 hm with rfl | hm
    · exact HL.out.wg.1 hk
    · exact HL.out.wg.2 k (by simpa using hm) hk
  have HWL : Hid (OwnsG 22 w4 wv (T.map Tr.u)) := HL.out.wl.away hA14 hW
  obtain ⟨wa, wn, wc, hwv⟩ : ∃ ka kn kc, wv = .slice ka kn kc := by
    rcases HL.out.wl.2 with ⟨e, _⟩ | ⟨_, _, _, e, _⟩
    · exact ⟨_, _, _, e⟩
    · exact ⟨_, _, _, e⟩
  subst hwv
  clear hu4 hun hmov4 hW c0 c2 f2
  go_wp2_with (at_builtin; refine wpList_app41 rfl _ _ rfl _ (T.map Tr.u) rfl (by exact HWL.out.away ((Away.refl [] _).alloc _) (by simp)) ⟨_, 0, none⟩ 1 rfl (.slice ua p.length uc) (by rw [World.cell?_alloc_at (hn := rfl)]; rfl) rfl (by omega) ?_)
  intro wv2 w6 hw6 haw6 hmov6
  have hawE : Away [] w4 (w4.alloc (.cells #[.slice ua p.length uc] 22)) := (Away.refl [] w4).alloc _
  have hszE : (w4.alloc (.cells #[.slice ua p.length uc] 22)).heap.size = w4.heap.size + 1 := by simp
  generalize w4.alloc (.cells #[.slice ua p.length uc] 22) = w5 at *
  have hA46 : Away (Value.slice wa wn wc).ownBlock.toList w4 w6 := (hawE.mono (by simp)).next haw6 (fun x hx => .inl hx)
  have hA36 : Away (Value.slice wa wn wc).ownBlock.toList w3 w6 := (haw4.mono (by simp)).next hA46 (fun x hx => .inl hx)
  go_wp2
  go_ret
  have L := HL.out
  have sA := hawA.size
  have s2 := HA2.out.size
  have s4 := haw4.size
  have hw_lt : ∀ k, (Value.slice wa wn wc).ownBlock = some k → k < w.heap.size := L.wl.lt
  have hk_lt : ∀ k, (Value.slice ka kn kc).ownBlock = some k → k < w.heap.size := L.kl.lt
  have hq_cases : ∀ k, (Value.slice qa qn qc).ownBlock = some k → (Value.slice ka kn kc).ownBlock = some k ∨ (w.heap.size + 1 ≤ k ∧ k < w2.heap.size) := fun k hk => by
    rcases HM2.out k hk with h | h
    · exact .inl h
    · exact .inr ⟨by omega, HK2.out.lt k hk⟩
  have hw_cases : ∀ k, wv2.ownBlock = some k → (Value.slice wa wn wc).ownBlock = some k ∨ w4.heap.size + 1 ≤ k := fun k hk => by
    rcases hmov6 k hk with h | h
    · exact .inl h
    · exact .inr (by omega)
  have hu_rng : ∀ k, (Value.slice ua p.length uc).ownBlock = some k → w3.heap.size ≤ k ∧ k < w4.heap.size := fun k hk => ⟨HUN.out k hk, HU4.out.lt k hk⟩
  have hv_lt : ∀ k, (Value.slice a p.length c).ownBlock = some k → k < w.heap.size := HO.out.lt
  have hT_v : ∀ t ∈ T, ∀ k, t.v.ownBlock = some k → k < w.heap.size := fun t ht k hk => (L.own t ht).1.lt k hk
  have hT_u : ∀ t ∈ T, ∀ k, t.u.ownBlock = some k → k < w.heap.size := fun t ht k hk => (L.own t ht).2.1.lt k hk
  have hAll : Away (g :: ((Value.slice ka kn kc).ownBlock.toList ++ (Value.slice wa wn wc).ownBlock.toList)) w w6 :=
    (hA14.mono (fun x hx => by rcases List.mem_cons.1 hx with rfl | hx; exact List.mem_cons_self; exact List.mem_cons_of_mem _ (List.mem_append_left _ hx))).next hA46 (fun x hx => .inl (List.mem_cons_of_mem _ (List.mem_append_right _ hx)))
  have mem3 : ∀ k, k ∈ g :: ((Value.slice ka kn kc).ownBlock.toList ++ (Value.slice wa wn wc).ownBlock.toList) → k = g ∨ (Value.slice ka kn kc).ownBlock = some k ∨ (Value.slice wa wn wc).ownBlock = some k := fun k hk => by
    simpa using hk
  have inl' : ∀ k, InLot g (.slice qa qn qc) wv2 (T ++ [⟨p, .slice a p.length c, .slice ua p.length uc⟩]) k → InLot g (.slice ka kn kc) (.slice wa wn wc) T k ∨ (Value.slice a p.length c).ownBlock = some k ∨ w.heap.size ≤ k := by
    rintro k (rfl | hk | hk | ⟨t, ht, hk⟩)
    · exact .inl (.inl rfl)
    · rcases hq_cases k hk with h | h
      · exact .inl (.inr (.inl h))
      · exact .inr (.inr (by omega))
    · rcases hw_cases k hk with h | h
      · exact .inl (.inr (.inr (.inl h)))
      · exact .inr (.inr (by omega))
    · rcases List.mem_append.1 ht with ht | ht
      · exact .inl (.inr (.inr (.inr ⟨t, ht, hk⟩)))
      · simp only [List.mem_singleton] at ht
        subst ht
        rcases hk with hk | hk
        · exact .inr (.inl hk)
        · have := hu_rng k hk
          exact .inr (.inr (by omega))
  refine ⟨.slice qa qn qc, wv2, .slice ua p.length uc, rfl, ⟨?_, ?_, ?_, ?_, ?_, ?_, ?_, ?_, ?_, ?_⟩, hAll, inl'⟩
  · exact hA36.keep (fun hm => L.wg.1 (by simpa using hm)) hb3
  · rw [List.map_append]
    have h3 := HK2.out.away hA23 (fun k hk hm => by
      simp only [List.mem_singleton] at hm
      subst hm
      rcases hq_cases _ hk with h | h
      · exact L.kg h
      · omega)
    exact h3.away hA36 (fun k hk hm => by
      have hm : (Value.slice wa wn wc).ownBlock = some k := by simpa using hm
      rcases hq_cases k hk with h | h
      · exact L.wg.2 k h hm
      · have := hw_lt k hm; omega)
  · rw [List.map_append]; exact hw6
  · intro t ht
    rcases List.mem_append.1 ht with ht | ht
    · obtain ⟨o1, o2, o3⟩ := L.own t ht
      refine ⟨o1.away hAll (fun k hk hm => ?_), o2.away hAll (fun k hk hm => ?_), o3⟩
      · obtain ⟨v1, v2, v3, _⟩ := L.vg t ht k hk
        rcases mem3 k hm with h | h | h
        · exact v1 h
        · exact v2 h
        · exact v3 h
      · obtain ⟨v1, v2, v3⟩ := L.ug t ht k hk
        rcases mem3 k hm with h | h | h
        · exact v1 h
        · exact v2 h
        · exact v3 h
    · simp only [List.mem_singleton] at ht
      subst ht
      refine ⟨HO.out.away hAll (fun k hk hm => HF.out k hk ?_), HU4.out.away hA46 (fun k hk hm => ?_), hpb, hps⟩
      · rcases mem3 k hm with h | h | h
        · exact .inl h
        · exact .inr (.inl h)
        · exact .inr (.inr (.inl h))
      · have h1 := hu_rng k hk
        have h2 := hw_lt k (by simpa using hm)
        omega
  · intro k hk
    rcases inl' k hk with h | h | h
    · exact L.new k h
    · exact HN.out k h
    · omega
  · intro t ht k hk
    rcases List.mem_append.1 ht with ht | ht
    · obtain ⟨v1, v2, v3, v4⟩ := L.vg t ht k hk
      have h1 := hT_v t ht k hk
      refine ⟨v1, fun h => ?_, fun h => ?_, fun s hs h => ?_⟩
      · rcases hq_cases k h with h | h
        · exact v2 h
        · omega
      · rcases hw_cases k h with h | h
        · exact v3 h
        · omega
      · rcases List.mem_append.1 hs with hs | hs
        · exact v4 s hs h
        · simp only [List.mem_singleton] at hs
          subst hs
          have := hu_rng k h; omega
    · simp only [List.mem_singleton] at ht
      subst ht
      have h1 := hv_lt k hk
      have h2 := HF.out k hk
      refine ⟨fun h => h2 (.inl h), fun h => ?_, fun h => ?_, fun s hs h => ?_⟩
      · rcases hq_cases k h with h | h
        · exact h2 (.inr (.inl h))
        · omega
      · rcases hw_cases k h with h | h
        · exact h2 (.inr (.inr (.inl h)))
        · omega
      · rcases List.mem_append.1 hs with hs | hs
        · exact h2 (.inr (.inr (.inr ⟨s, hs, .inr h⟩)))
        · simp only [List.mem_singleton] at hs
          subst hs
          have := hu_rng k h; omega
  · rw [List.pairwise_append]
    refine ⟨L.vv, by simp, fun s hs t ht k hk h => ?_⟩
    simp only [List.mem_singleton] at ht
    subst ht
    exact HF.out k h (.inr (.inr (.inr ⟨s, hs, .inl hk⟩)))
  · intro h
    rcases hq_cases _ h with h | h
    · exact L.kg h
    · omega
  · refine ⟨fun h => ?_, fun k hk h => ?_⟩
    · rcases hw_cases _ h with h | h
      · exact L.wg.1 h
      · omega
    · rcases hw_cases k h with h | h
      · rcases hq_cases k hk with h' | h'
        · exact L.wg.2 k h' h
        · have := hw_lt k h; omega
      · rcases hq_cases k hk with h' | h'
        · have := hk_lt k h'; omega
        · omega
  · intro t ht k hk
    rcases List.mem_append.1 ht with ht | ht
    · obtain ⟨v1, v2, v3⟩ := L.ug t ht k hk
      have h1 := hT_u t ht k hk
      refine ⟨v1, fun h => ?_, fun h => ?_⟩
      · rcases hq_cases k h with h | h
        · exact v2 h
        · omega
      · rcases hw_cases k h with h | h
        · exact v3 h
        · omega
    · simp only [List.mem_singleton] at ht
      subst ht
      have h1 := hu_rng k hk
      refine ⟨by omega, fun h => ?_, fun h => ?_⟩
      · rcases hq_cases k h with h | h
        · have := hk_lt k h; omega
        · omega
      · rcases hw_cases k h with h | h
        · have := hw_lt k h; omega
        · omega
#print axioms put_c
end Go.Proofs.YtokhmlpajfhbpaaDoor
