/-
  'swapped', by its contract.
-/
import Derived.Test.YtbjnhjdbnliofaaOwn
import Derived.Deep.RegionLaw
namespace Go.Proofs.Ytbjnhjdbnliofaa
open Go.ChangeShapes Go.WideShapes Go.ChangeAt Go.RowKit Num
set_option linter.unusedVariables false

/-- The bytes of each word in turned order. -/
def swp : List Int → List Int
  | [] => []
  | [x] => [0, x]
  | x :: y :: r => y :: x :: swp r
theorem ws_swp : ∀ l : List Int, ws true (swp l) = ws false l
  | [] => rfl
  | [x] => by simp [swp, ws]
  | x :: y :: r => by simp only [swp, ws, ws_swp r]; omega
theorem swp_len : ∀ l : List Int, (swp l).length ≤ l.length + 1
  | [] => by simp [swp]
  | [x] => by simp [swp]
  | x :: y :: r => by have := swp_len r; simp only [swp, List.length_cons]; omega
theorem swp_bytes : ∀ l : List Int, Bytes l → Bytes (swp l)
  | [], h => h
  | [x], h => (h.tail.cons h.head.1 h.head.2).cons (by omega) (by omega)
  | x :: y :: r, h => ((swp_bytes r h.tail.tail).cons h.head.1 h.head.2).cons h.tail.head.1 h.tail.head.2
theorem pt_swp {l : List Int} (h : Bytes l) : pt (swp l) = swap (pt l) := by
  have e : pt (swp l) = fold (ws false l) := by unfold pt; rw [ws_swp]
  rw [e]
  have b := pt_bd h
  have m : pt l % 65535 = _ := fold_mod
  have z : pt l = 0 ↔ _ := fold_zero
  have b1 := (ws_bd false l h).1
  have b2 := fold_bd b1
  have m2 : fold (ws false l) % 65535 = _ := fold_mod
  have z2 : fold (ws false l) = 0 ↔ _ := fold_zero
  have t := ws_turn l
  have zz := ws_zero l h
  have s1 := swap_bd b.1 b.2
  have s2 := swap_mod b.1 b.2
  have s3 := swap_zero b.1 b.2
  exact fold_uniq b2.1 b2.2 s1.1 s1.2 (by omega) (by omega)

/-- An append of bytes to a slice of the call's own, in a region that draws its order. -/
theorem step_app {ops : Array Oper} {o : Oper} {a : Act} {w : World} {K : Act → World → Prop} {Q : Exit → Act → World → Prop} {E : Prop} (hg : o.guard = none) (s x : Operand)
    (hop : o.op = .call { callee := .builtin .append, args := #[s, x], argTypes := #[26, 26] }) (B : Nat) (v : Value) (l m : List Int) (hs : a.eval s = v) (hown : Owns B w v l)
    (ad : Addr) (n c : Nat) (hx : a.eval x = .slice (some ad) n c) (hn : m.length = n) (hm : ∀ j u, (m.map (Value.int .u8))[j]? = some u → w.cell? (ad.add j) = some u) (hlen : l.length + n ≤ 140737488355328) (hB : B ≤ w.heap.size)
    (hK : ∀ v' w', Owns B w' v' (l ++ m) → w.grownBy w' v.ownBlock → K (a.put o.dst v') w') :
    if Region.wanted o (yielded ops a.tmps) = true then Oper.wp Try.prog o a w K Q else E := by
  have hw : Region.wanted o (yielded ops a.tmps) = true := by simp [Region.wanted, hg]
  rw [if_pos hw]
  obtain ⟨i0, hi, hz0, hz1, hz2⟩ := info_parts info5
  obtain ⟨v', w', hrun, r1, r2, _⟩ := run_append_own (P := Try.prog) w B 26 o.type 5 i0 (.int .u8 0) 1 1 Try.underlying26 hi hz0 hz1 hz2 rfl (by decide) v l.length (l.map (Value.int .u8)) hown ad n c (m.map (Value.int .u8)) (by simp [hn]) hm (oneCell_bytes m) (by unfold maxLen; omega) (by omega) hB
  unfold Oper.wp
  simp [execOp, hop, resolve, invoke, builtin, hs, hx, hrun, Result.andThen]
  refine hK v' w' ?_ r2
  unfold Owns
  rw [List.length_append, List.map_append, hn]
  exact r1

set_option maxHeartbeats 1000000 in
theorem swapped_any (a : Option Addr) (l : List Int) (cap : Nat) (w : World) (hcap : l.length ≤ cap) (hlen : l.length + 4 ≤ 140737488355328) (hr : Row w a l) :
    Calls Try.prog 16 #[.slice a l.length cap] w fun e w' => ∃ v, e = .returned v ∧ Owns w.heap.size w' v (swp l) ∧ Below w.heap.size w w' := by
  rcases hr.2.2 with rfl | ⟨b, off, rfl, hcell⟩
  · go_enter Try.func16, Try.ntmps16
    go_wp2_with fail
    refine wp_loop_rounds 1 ?_
    rw [rounds_succ]
    go_wp2
    go_ret
    exact ⟨_, rfl, World.ownsRow_nil _ _ _ _, Below.refl _ _⟩
  · go_enter Try.func16, Try.ntmps16
    go_wp2_with fail
    go_loopw [3, 4] (fun v i wr => ∃ (k : Nat) (done : List Int), k ≤ l.length + 1 ∧ i = .int .i64 k ∧ done ++ swp (l.drop k) = swp l ∧ Owns w.heap.size wr v done ∧ Below w.heap.size w wr)
      (fun _ i _ => l.length + 2 - (intOf i).toNat)
    case atStart => exact ⟨0, [], by omega, rfl, rfl, World.ownsRow_nil _ _ _ _, Below.refl _ _⟩
    case round =>
      obtain ⟨k, done, hk, rfl, hd, hown, hbel⟩ := hrel
      have hdl : done.length ≤ l.length + 1 := by
        have h1 := swp_len l
        rw [← hd, List.length_append] at h1
        omega
      have HD : Hid (done ++ swp (l.drop k) = swp l) := hd
      have hsz := hbel.size
      clear hd
      by_cases hlt : k < l.length
      · have c0 : wr.cell? ⟨b, off + k, none⟩ = some (.int .u8 (l[k]?.getD 0)) := by
          have := hcell k hlt
          rw [hbel.cell (p := ⟨b, off + k, none⟩) (by exact lt_of_cell this)]; exact this
        have bx := hr.2.1.getD k
        obtain ⟨x, hx⟩ : ∃ x, x = l[k]?.getD 0 := ⟨_, rfl⟩
        rw [← hx] at c0 bx
        by_cases hlt2 : k + 1 < l.length
        · have c1 : wr.cell? ⟨b, off + (k + 1), none⟩ = some (.int .u8 (l[k + 1]?.getD 0)) := by
            have := hcell (k + 1) hlt2
            rw [hbel.cell (p := ⟨b, off + (k + 1), none⟩) (by exact lt_of_cell this)]; exact this
          have by' := hr.2.1.getD (k + 1)
          obtain ⟨y, hy⟩ : ∃ y, y = l[k + 1]?.getD 0 := ⟨_, rfl⟩
          rw [← hy] at c1 by'
          have HX : Hid (x = l[k]?.getD 0 ∧ y = l[k + 1]?.getD 0) := ⟨hx, hy⟩
          clear hx hy
          have q1 : IntKind.i64.wrap ((k : Int) + 1) = (k : Int) + 1 := IntWalk.i64_in _ ⟨by omega, by omega⟩
          have q2 : (0 : Int) ≤ (k : Int) + 1 := by omega
          have q3 : (k : Int) + 1 < (l.length : Int) := by omega
          have q4 : ((k : Int) + 1).toNat = k + 1 := by omega
          have q5 : (k : Int) < (l.length : Int) := by omega
          go_wp2_with fail
          go_region_law (refine step_app rfl (.tmp 16) (.tmp 26) rfl w.heap.size u3 done [y, x] (by simp [Act.eval]) (by exact hown.alloc _) ⟨wr.heap.size, 0, none⟩ 2 2 (by simp [Act.eval]) rfl (by exact lit_cells _ [y, x] _ rfl) (by omega) (by simp; omega) ?_; intro v' w2 hown2 hgr)
          all_goals
            have hbel2 : Below w.heap.size w w2 := Owns.grown (w := (wr.alloc (Obj.cells #[Value.int IntKind.u8 y, Value.int IntKind.u8 x] 5)).drew) (hown.alloc _) (hbel.alloc hsz _).drew hgr (by simp; omega) (Nat.le_refl _)
            clear hgr
            go_wp2_with fail
            go_roundw
            case rel =>
              refine ⟨k + 2, done ++ [y, x], by omega, by go_num, ?_, hown2, hbel2⟩
              have e : l.drop k = x :: y :: l.drop (k + 2) := by
                rw [List.drop_eq_getElem_cons hlt, List.drop_eq_getElem_cons hlt2, HX.out.1, HX.out.2, List.getElem?_eq_getElem hlt, List.getElem?_eq_getElem hlt2]; rfl
              have := HD.out
              rw [e] at this
              simpa [swp] using this
            case measure => simp [intOf]; omega
        · have HX : Hid (x = l[k]?.getD 0) := hx
          clear hx
          go_wp2_with (at_builtin; refine wpList_app rfl _ _ rfl w.heap.size _ done [0, x] rfl (hown.alloc _) ⟨wr.heap.size, 0, none⟩ 2 2 rfl rfl (lit_cells _ [0, x] _ rfl) (by omega) (by simp; omega) ?_)
          intro v' w2 hown2 hgr
          have hbel2 : Below w.heap.size w w2 := (hown.alloc _).grown (hbel.alloc hsz _) hgr (by simp; omega) (Nat.le_refl _)
          clear hgr
          go_wp2_with fail
          go_roundw
          case rel =>
            refine ⟨k + 2, done ++ [0, x], by omega, by go_num, ?_, hown2, hbel2⟩
            have e : l.drop k = [x] := by
              rw [List.drop_eq_getElem_cons hlt, List.drop_eq_nil_of_le (by omega), HX.out, List.getElem?_eq_getElem hlt]; rfl
            have := HD.out
            rw [e] at this
            rw [List.drop_eq_nil_of_le (by omega)]
            simpa [swp] using this
          case measure => simp [intOf]; omega
      · go_wp2_with fail
        go_ret
        refine ⟨_, rfl, ?_, hbel⟩
        have := HD.out
        rw [List.drop_eq_nil_of_le (by omega)] at this
        simp only [swp, List.append_nil] at this
        rw [← this]
        exact hown
#print axioms swapped_any
end Go.Proofs.Ytbjnhjdbnliofaa
