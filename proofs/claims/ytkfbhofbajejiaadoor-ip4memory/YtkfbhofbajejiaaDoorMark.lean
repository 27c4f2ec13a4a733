/-
  'marked', by its contract.
-/
import Derived.Test.YtkfbhofbajejiaaDoorPh
namespace Go.Proofs.YtkfbhofbajejiaaDoor
open Go.ChangeShapes Go.WideShapes Go.ChangeAt Go.RowKit Go.Deep Num
set_option linter.unusedVariables false

set_option maxRecDepth 100000 in
set_option maxHeartbeats 1000000 in
theorem marked_any (w : World) (va : Value) (P : Lot) (h : LotAt w va P) :
    Calls Tryd.prog 20 #[va] w fun E w' => ∃ vl l, E = .returned vl ∧ Still w' vl l ∧ New w.heap.size vl ∧ Away (bl P) w w' ∧ ∀ t ∈ l, (∀ k, t.b.ownBlock = some k → k ∈ bl P) ∧ (∀ k, t.g.ownBlock = some k → k ∈ bl P ∨ w.heap.size ≤ k) := by
  have hlen := h.few
  obtain ⟨aa, na, ca, hva, hna⟩ : ∃ a n c, va = .slice a n c ∧ n = P.length := by
    rcases h.own.2 with ⟨rfl, h0⟩ | ⟨g, cap, cur, rfl, _⟩
    · exact ⟨_, _, _, rfl, by simpa using h0.symm⟩
    · exact ⟨_, _, _, rfl, by simp⟩
  subst hva
  subst hna
  have H : Hid (LotAt w (.slice aa P.length ca) P) := h
  have hst : Mk1 P w w (.slice none 0 0) 0 := by
    refine ⟨Away.refl _ _, fun j p hp => ?_, World.ownsRow_nil _ _ _ _, New.nil _⟩
    exact ⟨p.2, rfl, (h.con j p hp).1, fun hlt => by omega, fun _ t ht => by omega⟩
  clear h
  go_enter Tryd.func20, Tryd.ntmps20
  go_wp2_with fail
  go_loopw [3, 4] (fun l i wr => ∃ k : Nat, k ≤ P.length ∧ i = .int .i64 k ∧ Mk1 P w wr l k) (fun _ i _ => P.length - (intOf i).toNat)
  case atStart => exact ⟨0, by omega, rfl, hst⟩
  case round =>
    obtain ⟨k, hk, rfl, aw, con, own, new⟩ := hrel
    by_cases hlt : k < P.length
    · obtain ⟨p, hp⟩ : ∃ p, P[k]? = some p := ⟨_, List.getElem?_eq_getElem hlt⟩
      obtain ⟨m, hm1, hm2, _, _⟩ := con k p hp
      have hpl := (H.out.con k p hp).2.2
      have hca : ∃ ga, aa = some ⟨ga, 0, none⟩ ∧ wr.cell? ⟨ga, k, none⟩ = some p.1 := by
        rcases H.out.own.2 with ⟨h0, _⟩ | ⟨g, cap, cur, h0, _⟩
        · simp only [Value.slice.injEq] at h0; omega
        · simp only [Value.slice.injEq] at h0
          obtain ⟨rfl, _, rfl⟩ := h0
          have ho := H.out.own.away aw (fun j hj => H.out.far j hj)
          refine ⟨g, rfl, ?_⟩
          rw [(OwnsG.cells ho k (by simpa using hlt)).1, List.getElem?_map, hp]
          rfl
      obtain ⟨ga, rfl, hcell⟩ := hca
      obtain ⟨pa, pc, hpv, hpc⟩ : ∃ a c, p.1 = .slice a p.2.length c ∧ (0 < p.2.length → ∃ gb, a = some ⟨gb, 0, none⟩) := by
        rcases hm2.2 with ⟨h1, h2⟩ | ⟨g, cap, cur, h1, _⟩
        · refine ⟨none, 0, ?_, fun h => ?_⟩
          · rw [h1]; simp at h2; rw [← hm1, h2]; rfl
          · simp at h2; rw [← hm1, h2] at h; simp at h
        · exact ⟨some ⟨g, 0, none⟩, cap, by rw [h1, List.length_map, hm1], fun _ => ⟨g, rfl⟩⟩
      have HP : Hid (P[k]? = some p) := hp
      have hmk := mrk_bd k
      have hmkE : Hid (mrk k = 1 + (k : Int) % 250) := rfl
      have hk0 : (0 : Int) ≤ (k : Int) := by omega
      have hk1 : (k : Int) < (P.length : Int) := by omega
      have HPV : Hid (p.1 = .slice pa p.2.length pc) := hpv
      rw [hpv] at hcell
      generalize hnb : p.2.length = nb at *
      have HNB : Hid (p.2.length = nb) := hnb
      clear hnb hp hpv hm2 hm1
      have hsz := aw.size
      have hnewl := new
      have hbw : ∀ (j : Nat) (p : Value × List Int), P[j]? = some p → ∀ b, p.1.ownBlock = some b → b < w.heap.size := fun j p hp b hb => (H.out.con j p hp).1.lt b hb
      have HBW : Hid (∀ (j : Nat) (p : Value × List Int), P[j]? = some p → ∀ b, p.1.ownBlock = some b → b < w.heap.size) := hbw
      clear hbw
      go_wp2_with fail
      have hz : (1 : Int) + (k : Int) % 250 = mrk k := rfl
      rw [hz]
      have HZ : Hid ((1 : Int) + (k : Int) % 250 = mrk k) := hz
      clear hz
      have blk0 := block_new wr (.cells #[.slice pa nb pc, .slice none 0 0, .int .u8 (mrk k)] 67)
      have hA0 : Away [] wr (wr.alloc (.cells #[.slice pa nb pc, .slice none 0 0, .int .u8 (mrk k)] 67)) := (Away.refl [] wr).alloc _
      have hin : Away (bl P) w (wr.alloc (.cells #[.slice pa nb pc, .slice none 0 0, .int .u8 (mrk k)] 67)) ∧ Con P (wr.alloc (.cells #[.slice pa nb pc, .slice none 0 0, .int .u8 (mrk k)] 67)) k 0 ∧ OwnsT (wr.alloc (.cells #[.slice pa nb pc, .slice none 0 0, .int .u8 (mrk k)] 67)) u3 (tks P k) := ⟨aw.next hA0 (by simp), con.away hA0 (by simp), own.away hA0 (by simp)⟩
      generalize hW0 : wr.alloc (.cells #[.slice pa nb pc, .slice none 0 0, .int .u8 (mrk k)] 67) = W0 at *
      clear hW0 hA0
      generalize hX : wr.heap.size = X at *
      have hXw : w.heap.size ≤ X := hsz
      generalize hzz : mrk k = z at *
      have HZZ : Hid (mrk k = z) := hzz
      clear hX hzz aw con own
      go_loopw [6] (fun i wq => ∃ q : Nat, q ≤ nb ∧ i = .int .i64 q ∧ wq.heap[X]? = some (.cells #[.slice pa nb pc, .slice none 0 0, .int .u8 z] 67 (0, 0)) ∧ Away (bl P) w wq ∧ Con P wq k q ∧ OwnsT wq u3 (tks P k)) (fun i _ => nb - (intOf i).toNat)
      case atStart => exact ⟨0, by omega, rfl, blk0, hin⟩
      case round =>
        obtain ⟨q, hq, rfl, blk, aw, con, own⟩ := hrel
        have x0 : wr.cell? ⟨X, 0, none⟩ = some (.slice pa nb pc) := by rw [cell_of_block blk]; rfl
        have x1 : wr.cell? ⟨X, 1, none⟩ = some (.slice none 0 0) := by rw [cell_of_block blk]; rfl
        have x2 : wr.cell? ⟨X, 2, none⟩ = some (.int .u8 z) := by rw [cell_of_block blk]; rfl
        have HBK : Hid (wr.heap[X]? = some (.cells #[.slice pa nb pc, .slice none 0 0, .int .u8 z] 67 (0, 0))) := blk
        clear blk
        by_cases hql : q < nb
        · obtain ⟨gb, rfl⟩ := hpc (by omega)
          obtain ⟨m, hm1, hm2, _, _⟩ := con k p HP.out
          rw [HPV.out] at hm2
          obtain ⟨c0, f0⟩ := hm2.cells q (by rw [hm1, HNB.out]; exact hql)
          have hgb : gb ∈ bl P := bl_mem HP.out (by rw [HPV.out]; rfl)
          have hgbw : gb < w.heap.size := HBW.out k p HP.out gb (by rw [HPV.out]; rfl)
          have hA : Away [gb] wr (wr.setCell ⟨gb, q, none⟩ (.int .u8 z)) := (Away.refl _ wr).setCell (.inl (by simp)) _
          have con2 := con.step (q := q) H.out.ap HP.out HPV.out
          rw [HZZ.out] at con2
          have own2 := own.away hA (fun b hb => by have := hnewl b hb; simp; omega)
          have blk2 := hA.keep (g := X) (by simp; omega) HBK.out
          have aw2 := aw.setCell (p := ⟨gb, q, none⟩) (.inl hgb) (.int .u8 z)
          clear con own aw hm1 hm2 hA
          have hq1 : (q : Int) < (nb : Int) := by omega
          go_wp2_with fail
          go_roundw
          case rel => exact ⟨q + 1, by omega, by go_num, blk2, aw2, con2, own2⟩
          case measure => simp [intOf]; omega
        · have hq1 : ¬ ((q : Int) < (nb : Int)) := by omega
          have con2 := con.next HP.out (by rw [HNB.out]; omega)
          have hone : (Value.slice pa nb pc).oneCell' = true := rfl
          clear con
          have hklen : (tks P k).length ≤ 1000 := by simp [tks]; omega
          go_wp2_with (at_builtin; refine wpList_appT rfl _ _ rfl _ (tks P k) ⟨.slice pa nb pc, .slice none 0 0, z⟩ rfl (by exact own.away ((Away.refl [] _).alloc _) (by simp)) ⟨wr.heap.size, 0, none⟩ rfl (box_cells wr ⟨.slice pa nb pc, .slice none 0 0, z⟩ _ rfl) ⟨rfl, rfl⟩ hklen ?_)
          intro v' w2 hown2 hwent
          have hgr := hwent.grown
          have aw2 := (aw.alloc (.cells #[.slice pa nb pc, .slice none 0 0, .int .u8 z] 67)).grown hgr (fun j hj => .inr (hnewl j hj))
          have new2 := hnewl.moved hwent.moved (by have := aw.size; simp; omega)
          have hA2 : Away u3.ownBlock.toList wr w2 := ((Away.refl _ wr).alloc _).grown hgr (fun j hj => .inl (by simp [hj]))
          have con3 := con2.away hA2 (fun j p' hp' b hb hm => by have h1 := HBW.out j p' hp' b hb; have h2 := hnewl b (by simpa using hm); omega)
          have own3 : OwnsT w2 v' (tks P (k + 1)) := by
            rw [tks_succ P k p HP.out, HPV.out, HZZ.out]; exact hown2
          clear hwent hgr hA2 hown2 con2 own
          go_wp2_with fail
          go_roundw
          case rel => exact ⟨k + 1, by omega, by go_num, ⟨aw2, con3, own3, new2⟩⟩
          case measure => simp [intOf]; omega
    · obtain rfl : k = P.length := by omega
      have hsm : ∀ (j : Nat) (p : Value × List Int), P[j]? = some p → p.2.length ≤ 65535 := fun j p hp => (H.out.con j p hp).2.2
      have hbw : ∀ (j : Nat) (p : Value × List Int), P[j]? = some p → ∀ b, p.1.ownBlock = some b → b < w.heap.size := fun j p hp b hb => (H.out.con j p hp).1.lt b hb
      have hph := Ph.start aw con own new hsm
      obtain ⟨al, cl, hu3, hne⟩ := own.shape
      rw [show (tks P P.length).length = P.length from by simp [tks]] at hu3
      subst hu3
      have HSM : Hid (∀ (j : Nat) (p : Value × List Int), P[j]? = some p → p.2.length ≤ 65535) := hsm
      have HBW : Hid (∀ (j : Nat) (p : Value × List Int), P[j]? = some p → ∀ b, p.1.ownBlock = some b → b < w.heap.size) := hbw
      have HNE : Hid (0 < P.length → ∃ gl, al = some ⟨gl, 0, none⟩) := fun h => hne (by intro e; have := congrArg List.length e; rw [show (tks P P.length).length = P.length from by simp [tks]] at this; simp only [List.length_nil] at this; omega)
      clear hsm hbw aw con own hne hlt hk
      go_wp2_with fail
      go_loopw [7] (fun i wr => ∃ (k : Nat) (l : List Tk), k ≤ P.length ∧ i = .int .i64 k ∧ Ph P w wr (.slice al P.length cl) l k none) (fun i _ => P.length - (intOf i).toNat)
      case atStart => exact ⟨0, _, by omega, rfl, hph⟩
      case round =>
        obtain ⟨k, l, hk, rfl, ph⟩ := hrel
        by_cases hlt : k < P.length
        · obtain ⟨gl, rfl⟩ := HNE.out (by omega)
          obtain ⟨t, ht⟩ : ∃ t, l[k]? = some t := ⟨_, List.getElem?_eq_getElem (by have := ph.len; omega)⟩
          obtain ⟨p, hp, htb, htm, hall, _, _, _, hcur⟩ := ph.itm k t ht
          obtain ⟨htg, m, hm1, hm2, hm3⟩ := hcur rfl
          obtain ⟨c0, c1, c2, f0⟩ := ph.own.cells k t ht
          have f1 := f0 (k * 3 + 1)
          have hgl : w.heap.size ≤ gl := ph.new gl rfl
          obtain ⟨ba, bn, bc, hbv⟩ : ∃ a n c, t.b = .slice a n c := by
            rcases hm1.2 with ⟨h, _⟩ | ⟨g, cap, cur, h, _⟩
            · exact ⟨_, _, _, h⟩
            · exact ⟨_, _, _, h⟩
          have hA : Away [gl] wr (wr.setCell ⟨gl, k * 3 + 1, none⟩ t.b) := (Away.refl _ wr).setCell (.inl (by simp)) _
          have hbn : ∀ b, t.b.ownBlock = some b → b ∉ [gl] := fun b hb => by
            have := HBW.out k p hp b (by rw [← htb]; exact hb)
            simp; omega
          have ph2 : Ph P w (wr.setCell ⟨gl, k * 3 + 1, none⟩ t.b) (.slice (some ⟨gl, 0, none⟩) P.length cl) (l.set k { t with g := t.b }) k (some 0) := by
            refine ph.put (S := [gl]) H.out.ap HBW.out ht hp htb htm rfl rfl hA (ph.aw.setCell (.inr hgl) _) (fun x hx => .inr (by simp at hx; rw [hx]; rfl)) ?_ (ph.own.store ht t.b) (hall.away hA hbn) ?_ (fun b hb => .inr (.inl hb)) ?_
            · intro b hb; rw [htg] at hb; simp [Value.ownBlock] at hb
            · intro b hb; simpa using hm1.lt b hb
            · exact ⟨⟨m, hm1.away hA hbn, by simpa using hm2, hm3⟩, fun b hb => .inl hb⟩
          clear hm1 hm2 hm3 hall hA hcur f0 ph
          rw [hbv] at c0 ph2
          have hk0 : (0 : Int) ≤ (k : Int) := by omega
          have hk1 : (k : Int) < (P.length : Int) := by omega
          have c1' : wr.cell? ⟨gl, k * 3 + 1, none⟩ = some (.slice none 0 0) := by rw [c1, htg]
          clear c1 htg
          have HT : Hid (l[k]? = some t ∧ P[k]? = some p ∧ t.b = p.1) := ⟨ht, hp, htb⟩
          clear ht hp htb htm hbv
          go_wp2_with fail
          go_loopw [8] (fun i wr => ∃ (q : Nat) (l : List Tk), q ≤ 80 ∧ i = .int .i64 q ∧ Ph P w wr (.slice (some ⟨gl, 0, none⟩) P.length cl) l k (some q)) (fun i _ => 80 - (intOf i).toNat)
          case atStart => exact ⟨0, _, by omega, rfl, ph2⟩
          case round =>
            obtain ⟨q, l, hq, rfl, ph⟩ := hrel
            by_cases hql : q < 80
            · obtain ⟨t, ht⟩ : ∃ t, l[k]? = some t := ⟨_, List.getElem?_eq_getElem (by have := ph.len; omega)⟩
              obtain ⟨p, hp, htb, htm, hall, hglt, _, _, hcur⟩ := ph.itm k t ht
              obtain ⟨⟨m, hm1, hm2, hm3⟩, hlies⟩ := hcur rfl
              obtain ⟨c0, c1, c2, f0⟩ := ph.own.cells k t ht
              have f1 := f0 (k * 3 + 1)
              have hsz := ph.aw.size
              have hgll : gl < wr.heap.size := block_lt_of_cell c0
              have hpl := HSM.out k p hp
              rw [htm] at c2
              have hmk := mrk_bd k
              have hml : m.length ≤ 65700 := by omega
              have hgn : gl ∉ t.g.ownBlock.toList := fun hm => by
                rcases hlies gl (by simpa using hm) with h1 | ⟨_, h1⟩
                · have := HBW.out k p hp gl (by rw [← htb]; exact h1); omega
                · exact h1 rfl
              have HPH : Hid (Ph P w wr (.slice (some ⟨gl, 0, none⟩) P.length cl) l k (some q)) := ph
              have HTT : Hid (l[k]? = some t ∧ P[k]? = some p ∧ t.b = p.1 ∧ t.m = mrk k ∧ AllAt wr t.b (mrk k) ∧ Lies w (.slice (some ⟨gl, 0, none⟩) P.length cl) t) := ⟨ht, hp, htb, htm, hall, hlies⟩
              have HM3 : Hid (m.length = p.2.length + q ∧ ∀ i, i < m.length → m[i]? = some (mrk k)) := ⟨hm2, hm3⟩
              clear ht hp htb htm hall hlies hm2 hm3 f0 hcur ph
              obtain ⟨tb, tg, tm⟩ := t
              simp only at c0 c1 c2 hm1 hgn hglt
              generalize hzz : mrk k = z at *
              have HZZ : Hid (mrk k = z) := hzz
              clear hzz
              have hk0 : (0 : Int) ≤ (k : Int) := by omega
              have hk1 : (k : Int) < (P.length : Int) := by omega
              go_wp2_with fail
              go_region_law ((refine step_appW rfl (.tmp 66) (.tmp 72) rfl tg m [z] (by simp [Act.eval]) (by exact hm1.away (((Away.refl [] _).alloc _).drew) (by simp)) ⟨wr.heap.size, 0, none⟩ 1 1 (by simp [Act.eval]) rfl (by exact lit_cells _ [z] _ rfl) (by omega) ?_; intro g' w2 hown2 hwent; have haw2 : Away tg.ownBlock.toList wr w2 := (((Away.refl _ wr).alloc _).drew).grown hwent.grown (fun k hk => .inl (by simp [hk])); have z0 := haw2.cell hgn c0; have z1 := haw2.cell hgn c1; have z2 := haw2.cell hgn c2; have hT2 := HPH.out.own.away haw2 (fun b hb => by simp [Value.ownBlock] at hb; subst hb; exact hgn); have g1 := (hT2.cells k _ HTT.out.1).2.2.2 (k * 3 + 1); obtain ⟨ga, gn, gc, rfl⟩ := hown2.shape))
              all_goals
                have hA3 : Away [gl] w2 (w2.setCell ⟨gl, k * 3 + 1, none⟩ (.slice ga gn gc)) := (Away.refl _ w2).setCell (.inl (by simp)) _
                obtain ⟨ht, hp, htb, htm, hall, hlies⟩ := HTT.out
                have hm2 := HM3.out.1
                have hm3 := HM3.out.2
                have hphw := HPH.out.aw
                have hs2 := haw2.size
                have hgb : ∀ b, (Value.slice ga gn gc).ownBlock = some b → b ∉ [gl] := fun b hb hm => by
                  simp at hm
                  subst hm
                  rcases hwent.moved b hb with h1 | h1
                  · exact hgn (by simp [h1])
                  · simp at h1; omega
                have own3 := hown2.away hA3 hgb
                have hbl : ∀ x ∈ tg.ownBlock.toList, x ∈ bl P ∨ w.heap.size ≤ x := fun x hx => by
                  rcases hlies x (by simpa using hx) with h1 | ⟨h1, _⟩
                  · exact .inl (bl_mem hp (by rw [← htb]; exact h1))
                  · exact .inr h1
                have ph3 : Ph P w (w2.setCell ⟨gl, k * 3 + 1, none⟩ (.slice ga gn gc)) (.slice (some ⟨gl, 0, none⟩) P.length cl) (l.set k ⟨tb, .slice ga gn gc, tm⟩) k (some (q + 1)) := by
                  refine HPH.out.put (S := tg.ownBlock.toList ++ [gl]) (p := p) (t := ⟨tb, tg, tm⟩) H.out.ap HBW.out ht hp htb (by rw [HZZ.out]; exact htm) rfl rfl ((haw2.mono (by simp; intro x hx; exact .inl hx)).next hA3 (by simp)) ((hphw.next haw2 hbl).next hA3 (by simpa using .inr hgl)) ?_ hlies (hT2.store ht _) ?_ ?_ ?_ ?_
                  · intro x hx
                    rcases List.mem_append.mp hx with h1 | h1
                    · exact .inl (by simpa using h1)
                    · exact .inr (by simp at h1; rw [h1]; rfl)
                  · rw [HZZ.out]
                    refine (all_after (m := m) hall (((Away.refl [] wr).alloc _).drew) hwent hown2 hm3 ?_).away hA3 ?_
                    · intro n hn
                      obtain ⟨a', c', hn⟩ := hn
                      obtain ⟨m', k1, k2, _⟩ : ∃ m' : List Int, m'.length = p.2.length ∧ p.1 = .slice a' n c' ∧ True := ⟨p.2, rfl, by rw [← htb, hn], trivial⟩
                      have := (H.out.con k p hp).1
                      rw [k2] at this
                      have hn' : n = p.2.length := by
                        rcases this.2 with ⟨h2, h3⟩ | ⟨g', cap', cur, h2, _⟩
                        · simp only [Value.slice.injEq] at h2; simp at h3; rw [h3]; simpa using h2.2.1
                        · simp only [Value.slice.injEq, List.length_map] at h2; exact h2.2.1
                      omega
                    · intro b hb
                      have := HBW.out k p hp b (by rw [← htb]; exact hb)
                      simp; omega
                  · intro b hb; simpa using own3.lt b hb
                  · intro b hb
                    rcases hwent.moved b hb with h1 | h1
                    · exact .inl h1
                    · right; right; simp at h1; omega
                  · refine ⟨⟨m ++ [z], own3, by simp; omega, fun i hi => ?_⟩, fun b hb => ?_⟩
                    · rw [HZZ.out]
                      by_cases him : i < m.length
                      · rw [List.getElem?_append_left him]; exact hm3 i him
                      · have : i = m.length := by simp at hi; omega
                        subst this
                        simp
                    · rcases hwent.moved b hb with h1 | h1
                      · exact hlies b h1
                      · right
                        simp at h1
                        exact ⟨by omega, fun h2 => by simp [Value.ownBlock] at h2; omega⟩
                clear hwent haw2 hT2 hown2 own3 hA3 hphw
                go_wp2_with fail
                go_roundw
                case rel => exact ⟨q + 1, _, by omega, by go_num, ph3⟩
                case measure => simp [intOf]; omega
            · have ph3 := ph.next (fun j p hp => by have := HSM.out j p hp; omega)
              go_wp2_with fail
              go_roundw
              case rel => exact ⟨k + 1, l, by omega, by go_num, ph3⟩
              case measure => simp [intOf]; omega
        · obtain rfl : k = P.length := by omega
          obtain ⟨r1, r2⟩ := ph.fin hlen
          have r3 := ph.aw
          have r4 := ph.new
          go_wp2_with fail
          go_ret
          exact ⟨_, l, rfl, r1, r4, r3, r2⟩
#print axioms marked_any
end Go.Proofs.YtkfbhofbajejiaaDoor
