/-
  RecutKeeps: steps.
-/
import Derived.Test.YtaicckenpplceaaDoorRk
import Derived.Test.YtaicckenpplceaaDoorDe
namespace Go.Proofs.YtaicckenpplceaaDoor
open Go.ChangeShapes Go.WideShapes Go.ChangeAt Go.RowKit Num
set_option maxRecDepth 100000
set_option maxHeartbeats 4000000
set_option linter.unusedVariables false
set_option linter.unusedSimpArgs false
theorem fold_set2 : ∀ (l : List Value) (k : Nat) (a z b : List Value), k + l.length = z.length → (l.zipIdx k).foldl (fun (cs : Array Value) (x : Value × Nat) => cs.setIfInBounds (a.length + x.2) x.1) (a ++ z ++ b).toArray = (a ++ (z.take k ++ l) ++ b).toArray
  | [], k, a, z, b, h => by simp at h; simp [h]
  | c :: l, k, a, z, b, h => by
    simp only [List.length_cons] at h
    rw [List.zipIdx_cons, List.foldl_cons]
    have e : (a ++ z ++ b).toArray.setIfInBounds (a.length + k) c = (a ++ z.set k c ++ b).toArray := by
      rw [List.setIfInBounds_toArray, List.append_assoc, List.set_append_right _ _ (by omega), Nat.add_sub_cancel_left, List.set_append_left _ _ (by omega), List.append_assoc]
    rw [e, fold_set2 l (k + 1) a (z.set k c) b (by rw [List.length_set]; omega)]
    have e2 : (z.set k c).take (k + 1) = z.take k ++ [c] := by
      rw [List.take_succ_eq_append_getElem (by rw [List.length_set]; omega), List.getElem_set_self, List.take_set_of_le (Nat.le_refl _)]
    rw [e2]; simp
theorem fill28_2 (p q : Pk) (ov dv ou du : Value) (ha : Ad p) (hb : Ad q) (z : Array Value) (hz : z.size = 92) : Instr.fill (fun i => some (i * 46, 46)) z [(0, .agg (csP p ov dv)), (1, .agg (csP q ou du))] = some ((listP p ov dv ++ listP q ou du).toArray) := by
  have hs := csP_size ha ov dv
  have hs2 := csP_size hb ou du
  have hc : ∀ (p : Pk) (ov dv : Value), (Value.agg (csP p ov dv)).cells = csP p ov dv := fun _ _ _ => rfl
  obtain ⟨l⟩ := z
  have hl : l.length = 92 := by simpa using hz
  have f1 := fold_set2 (listP p ov dv) 0 [] (l.take 46) (l.drop 46) (by rw [listP_len ha, List.length_take]; omega)
  simp only [List.nil_append, List.take_zero, List.take_append_drop, List.length_nil, Nat.zero_add] at f1
  have f2 := fold_set2 (listP q ou du) 0 (listP p ov dv) (l.drop 46) [] (by rw [listP_len hb, List.length_drop]; omega)
  simp only [List.append_nil, List.take_zero, List.nil_append, listP_len ha] at f2
  unfold Instr.fill
  rw [hc]
  simp only [hs, hz]
  rw [if_neg (by decide)]
  unfold Instr.fill
  rw [hc]
  have e1 : (csP p ov dv).zipIdx.foldl (fun (cs : Array Value) (x : Value × Nat) => cs.setIfInBounds (0 * 46 + x.2) x.1) l.toArray = (listP p ov dv ++ l.drop 46).toArray := by
    unfold csP
    rw [← Array.foldl_toList, Array.toList_zipIdx]
    simpa using f1
  rw [e1]
  have h92 : (listP p ov dv ++ l.drop 46).toArray.size = 92 := by simp [listP_len ha]; omega
  simp only [hs2, h92]
  rw [if_neg (by decide)]
  unfold Instr.fill
  unfold csP
  rw [← Array.foldl_toList, Array.toList_zipIdx]
  simpa using f2
theorem run_build28_2 (w : World) (p q : Pk) (ov dv ou du : Value) (ha : Ad p) (hb : Ad q) : (Instr.buildSlice 32 2 #[(0, .agg (csP p ov dv)), (1, .agg (csP q ou du))]).run Tryd.prog w = .ok (.slice (some ⟨w.heap.size, 0, none⟩) 2 2) (w.alloc (.cells (listP p ov dv ++ listP q ou du).toArray 28)) := by
  have hu : Tryd.prog.underlying 32 = some (.slice 28) := Tryd.underlying32
  unfold Instr.buildSlice
  simp only [Sem.run_bind, run_underlying hu, Result.andThen_ok, size28]
  rw [if_neg (by decide), if_neg (by decide)]
  simp only [Sem.run_bind, Result.andThen_ok, zeros28, Sem.run_pure]
  rw [fill28_2 p q ov dv ou du ha hb _ (by simp)]
  simp only [newRow, Sem.run_bind, run_newObj_alloc, Sem.run_pure, Result.andThen_ok]
namespace R
theorem wp_build28_2 {o : Oper} {a : Act} {w : World} {K : Act → World → Prop} {Q : Exit → Act → World → Prop} (x y : Operand) (ho : o.op = .buildSlice 32 2 #[(0, x), (1, y)]) (p q : Pk) (ov dv ou du : Value) (hx : a.eval x = .agg (csP p ov dv)) (hy : a.eval y = .agg (csP q ou du)) (hp : Pkt w p ov dv) (hq : Pkt w q ou du)
    (h : ∀ w1, Pks w1 (some ⟨w.heap.size, 0, none⟩) [⟨p, ov, dv⟩, ⟨q, ou, du⟩] → Away [] w w1 → K (a.put o.dst (.slice (some ⟨w.heap.size, 0, none⟩) 2 2)) w1) : Oper.wp Tryd.prog o a w K Q := by
  unfold Oper.wp execOp
  simp only [ho, List.map_toArray, List.map_cons, List.map_nil, hx, hy, run_build28_2 w p q ov dv ou du hp.wf.ad hq.wf.ad, Sem.run_bind, Result.andThen_ok, Sem.run_pure]
  have haw := (Away.refl [] w).alloc (.cells (listP p ov dv ++ listP q ou du).toArray 28)
  refine h _ ⟨by simp, fun z hz => ?_, .inr ⟨w.heap.size, 0, rfl, fun i z hz j u hu => ?_⟩⟩ haw
  · simp only [List.mem_cons, List.not_mem_nil, or_false] at hz
    rcases hz with rfl | rfl
    · exact hp.on haw
    · exact hq.on haw
  · have hl := listP_len hp.wf.ad ov dv
    rw [cell_of_block (block_new w _), List.getElem?_toArray]
    rcases i with _ | _ | i
    · simp at hz; subst hz
      have hj : j < 46 := by have := lt_of_get hu; rw [X.cells, hl] at this; exact this
      rw [show 0 + 0 * 46 + j = j from by omega, List.getElem?_append_left (by omega)]; exact hu
    · simp at hz; subst hz
      rw [show 0 + (0 + 1) * 46 + j = 46 + j from by omega, List.getElem?_append_right (by omega), hl, Nat.add_sub_cancel_left]; exact hu
    · simp at hz
theorem wp_appQ {o : Oper} {a : Act} {w : World} {K : Act → World → Prop} {Q : Exit → Act → World → Prop} (s t : Operand)
    (ho : o.op = .call { callee := .builtin .append, args := #[s, t], argTypes := #[32, 32] }) (v : Value) (xs ys : List X) (hs : a.eval s = v) (hown : LstP w v xs) (ad : Addr) (n c : Nat) (ht : a.eval t = .slice (some ad) n c) (hn : ys.length = n) (hb : Pks w (some ad) ys) (hk : xs.length + n ≤ 500000000000)
    (h : ∀ v' w', LstP w' v' (xs ++ ys) → w.grownBy w' v.ownBlock → Moved w v v' → K (a.put o.dst v') w') : Oper.wp Tryd.prog o a w K Q := by
  obtain ⟨v', w', hrun, r1, r2, r3⟩ := run_appQ o.type w v xs ys hown ad n c hn hb hk
  unfold Oper.wp
  simp [execOp, ho, resolve, invoke, builtin, hs, ht, hrun, Result.andThen]
  exact h v' w' r1 r2 r3
theorem listP_od {p : Pk} (h : Ad p) (ov dv : Value) : (csP p ov dv)[44]? = some ov ∧ (csP p ov dv)[45]? = some dv := by
  obtain ⟨v, tos, flow, sv, sb, dv', db, proto, ttl, id, df, more, frag, off, o, d⟩ := p
  obtain ⟨h1, h2⟩ := h
  simp only at h1 h2
  obtain ⟨b0, b1, b2, b3, b4, b5, b6, b7, b8, b9, b10, b11, b12, b13, b14, b15, rfl⟩ := list16 h1
  obtain ⟨c0, c1, c2, c3, c4, c5, c6, c7, c8, c9, c10, c11, c12, c13, c14, c15, rfl⟩ := list16 h2
  exact ⟨rfl, rfl⟩
end R
end Go.Proofs.YtaicckenpplceaaDoor
