/-
  The document's pieces, groups.
-/
import Derived.Test.YtclfhajapohogaaDoorRTxt1
import Derived.Test.YtclfhajapohogaaDoorOwn
namespace Go.Proofs.YtclfhajapohogaaDoor
open Go.ChangeShapes Go.WideShapes Go.ChangeAt Go.RowKit
set_option linter.unusedVariables false
set_option maxHeartbeats 4000000
set_option maxRecDepth 100000

def rs (ts : List (List UInt8)) : List Value := ts.map (fun t => Value.string ⟨t.toArray⟩)
theorem rs_snoc (ts : List (List UInt8)) (t : List UInt8) : rs (ts ++ [t]) = rs ts ++ [.string ⟨t.toArray⟩] := by simp [rs]
theorem slc_eq (l : List UInt8) (a b : Nat) (x y : Int) (hx : x = a) (hy : y = b) (hab : a ≤ b) (hb : b ≤ l.length) (wx : World) : (Instr.sliceAt 9 (.string ⟨l.toArray⟩) (some (.int .i64 x)) (some (.int .i64 y)) none).run Tryd.prog wx = .ok (.string ⟨((l.drop a).take (b - a)).toArray⟩) wx := by
  subst hx; subst hy
  rw [run_sliceAt_string (h := Tryd.underlying9), run_slice_string wx 9 _ .i64 .i64 _ _ Tryd.underlying9 (by omega) (by omega) (by rw [bsize]; omega), Int.toNat_natCast, Int.toNat_natCast, ByteArray.extract_mk]
theorem slc_h (l : List UInt8) (b : Nat) (y : Int) (hy : y = b) (hb : b ≤ l.length) (wx : World) : (Instr.sliceAt 9 (.string ⟨l.toArray⟩) none (some (.int .i64 y)) none).run Tryd.prog wx = .ok (.string ⟨(l.take b).toArray⟩) wx := by
  subst hy
  rw [run_sliceAt_string (h := Tryd.underlying9), run_slice_string_h (ht := Tryd.underlying9) (h0 := by omega) (h2 := by rw [bsize]; omega), Int.toNat_natCast, ByteArray.extract_mk]
  simp
theorem slc_l (l : List UInt8) (a : Nat) (x : Int) (hx : x = a) (ha : a ≤ l.length) (wx : World) : (Instr.sliceAt 9 (.string ⟨l.toArray⟩) (some (.int .i64 x)) none none).run Tryd.prog wx = .ok (.string ⟨(l.drop a).toArray⟩) wx := by
  subst hx
  rw [run_sliceAt_string (h := Tryd.underlying9), run_slice_string_l (ht := Tryd.underlying9) (h0 := by omega) (h1 := by rw [bsize]; omega), Int.toNat_natCast, ByteArray.extract_mk, bsize, List.take_of_length_le (by simp)]
/-- An append of one element that was just laid. -/
theorem wpList_app1b {w : World} {ops : Array Oper} {rest : List Oper} {o : Oper} {a : Act} {Q : Exit → Act → World → Prop} (hgd : o.guard = none) (s x : Operand) (t : TypeId)
    (ho : o.op = .call { callee := .builtin .append, args := #[s, x], argTypes := #[t, t] }) (B : Nat) (e : TypeId) (z : Value) (bytes : Nat) (ht : Tryd.prog.underlying t = some (.slice e)) (hi : (Tryd.prog.info? e).map (fun i => (i.zero, i.size, i.bytes)) = some (some z, 1, bytes)) (hzs : z.cells.size = 1)
    (v : Value) (n : Nat) (xs : List Value) (hs : a.eval s = v) (hown : w.ownsRow B e 1 v n xs) (u : Value) (hx : a.eval x = .slice (some ⟨w.heap.size, 0, none⟩) 1 1) (h1 : u.oneCell' = true) (hlen : n ≤ 4000000) (hb : bytes ≤ 16) (hB : B ≤ w.heap.size)
    (h : ∀ v' w', w'.ownsRow B e 1 v' (n + 1) (xs ++ [u]) → Below B w w' → wpList Tryd.prog ops Q rest (a.put o.dst v') w') : wpList Tryd.prog ops Q (o :: rest) a (w.alloc (.cells #[u] e)) := by
  obtain ⟨i0, hi0, hz0, hz1, hz2⟩ := info_parts hi
  have hbel : Below w.heap.size w (w.alloc (.cells #[u] e)) := (Below.refl _ _).alloc (Nat.le_refl _) _
  refine wpList_append_own (P := Tryd.prog) _ hgd s x t ho B e i0 z 1 bytes ht hi0 hz0 hz1 hz2 hzs (by decide) v n xs hs (own_below hown hbel) ⟨w.heap.size, 0, none⟩ 1 1 [u] hx rfl ?_ (by intro y hy; simp at hy; rw [hy]; exact h1) (by unfold maxLen; omega) ?_ (by simp; omega) ?_
  · intro j y hj
    have hj0 : j = 0 := by
      rcases j with _ | j
      · rfl
      · simp at hj
    subst hj0
    simp at hj
    subst hj
    rw [add_plain, Nat.zero_add, World.cell?_alloc_at (hn := rfl)]
    rfl
  · have : (n + 1) * bytes ≤ 4000001 * 16 := Nat.mul_le_mul (by omega) hb
    omega
  · intro v' w' h2 h3 _
    refine h v' w' h2 ?_
    exact ((Below.refl B w).alloc hB _).grown h3 (by simp; omega) (fun k hk => (World.ownsRow.lt (own_below hown hbel) k hk).1)
/-- What pieces tells. -/
def PcPost (ps : List (List UInt8)) (w : World) (e : Ending) (w' : World) : Prop := Below w.heap.size w w' ∧ ∃ v, e = .returned v ∧ w'.ownsRow w.heap.size 9 1 v ps.length (rs ps)
theorem take_grow (l : List UInt8) (f k : Nat) (x : UInt8) (hf : f ≤ k) (hx : l[k]? = some x) : (l.drop f).take (k + 1 - f) = (l.drop f).take (k - f) ++ [x] := by
  have hk : k < l.length := (List.getElem?_eq_some_iff.1 hx).1
  rw [show k + 1 - f = (k - f) + 1 from by omega]
  rw [List.take_succ_eq_append_getElem (by simp; omega)]
  congr 1
  rw [List.getElem_drop]
  have := (List.getElem?_eq_some_iff.1 hx).2
  congr 1
  rw [← this]
  congr 1
  omega
theorem rpieces_c (l : List UInt8) (c : UInt8) (hl : l.length ≤ 1048576) (w : World) :
    Calls Tryd.prog 57 #[.string ⟨l.toArray⟩, .int .u8 (c.toNat : Int)] w fun e w' => PcPost (pieces c l) w e w' := by
  have hsz := bsize l
  go_enter Tryd.func57, Tryd.ntmps57
  go_wp2_with fail
  go_loopw [5, 6, 7] (fun v fv iv wr => ∃ (k f : Nat) (out : List (List UInt8)), k ≤ l.length + 1 ∧ iv = .int .i64 (k : Int) ∧ fv = .int .i64 (f : Int) ∧ f ≤ k ∧ out.length ≤ k ∧ wr.ownsRow w.heap.size 9 1 v out.length (rs out) ∧ Below w.heap.size w wr ∧ (k ≤ l.length → pieces c l = out ++ pcons ((l.drop f).take (k - f)) (pieces c (l.drop k))) ∧ (k = l.length + 1 → pieces c l = out)) (fun _ _ iv _ => l.length + 1 - (intOf iv).toNat)
  case atStart => exact ⟨0, 0, [], by omega, rfl, rfl, by omega, by simp, World.ownsRow_nil _ _ _ _, Below.refl _ _, fun _ => by simp [pcons_nil (pieces_ne _ _)], fun h => by omega⟩
  case round =>
    obtain ⟨k, f, out, hk, rfl, rfl, hf, hol, hown, hbel, hp1, hp2⟩ := hrel
    have hsb := hbel.size
    by_cases hle : k ≤ l.length
    · have hp := hp1 hle
      have HP : Hid (pieces c l = out ++ pcons ((l.drop f).take (k - f)) (pieces c (l.drop k))) := hp
      have hsl := slc_eq l f k (f : Int) (k : Int) rfl rfl hf hle
      have t0 : decide ((k : Int) ≤ (l.length : Int)) = true := by simp; omega
      clear hp hp1 hp2
      by_cases heq : k = l.length
      · have hE : Hid (pieces c l = out ++ [(l.drop f).take (k - f)]) := by
          show _ = _
          have e0 : l.drop k = [] := List.drop_eq_nil_of_le (by omega)
          rw [HP.out, e0]
          simp [pieces, pcons]
        subst heq
        generalize (l.drop f).take (l.length - f) = cur at *
        go_wp2_with (at_builtin; refine wpList_app1b rfl _ _ 74 rfl w.heap.size 9 _ 16 Tryd.underlying74 info9 rfl _ out.length (rs out) rfl hown (.string ⟨cur.toArray⟩) rfl rfl (by omega) (by omega) hsb ?_)
        intro v' w' hown' hbel'
        have hown2 : w'.ownsRow w.heap.size 9 1 v' (out ++ [cur]).length (rs (out ++ [cur])) := by rw [rs_snoc, List.length_append]; exact hown'
        have hbel2 := hbel.trans hbel'
        clear hown hown' hbel hbel'
        go_wp2_with fail
        go_roundw
        case rel => exact ⟨l.length + 1, l.length + 1, out ++ [cur], by omega, by go_num, by go_num, by omega, by simp; omega, hown2, hbel2, fun h => by omega, fun _ => hE.out⟩
        case measure => simp [intOf]
      · have hlt : k < l.length := by omega
        obtain ⟨x, hx⟩ : ∃ x, l[k]? = some x := ⟨l[k], List.getElem?_eq_getElem hlt⟩
        have hix := idx_eq l k x (k : Int) rfl hx
        have hdrop : l.drop k = x :: l.drop (k + 1) := by
          rw [List.drop_eq_getElem_cons hlt, (List.getElem?_eq_some_iff.1 hx).2]
        have t1 : ¬ ((k : Int) = (l.length : Int)) := by omega
        by_cases hc : x = c
        · subst hc
          have hE : Hid (pieces x l = (out ++ [(l.drop f).take (k - f)]) ++ pcons ((l.drop (k + 1)).take (k + 1 - (k + 1))) (pieces x (l.drop (k + 1)))) := by
            show _ = _
            rw [HP.out, hdrop, pieces_hit, pcons_hit]
            simp [pcons_nil (pieces_ne _ _)]
          generalize (l.drop f).take (k - f) = cur at *
          generalize x.toNat = xn at *
          clear hdrop hx heq
          go_wp2_with (at_builtin; refine wpList_app1b rfl _ _ 74 rfl w.heap.size 9 _ 16 Tryd.underlying74 info9 rfl _ out.length (rs out) rfl hown (.string ⟨cur.toArray⟩) rfl rfl (by omega) (by omega) hsb ?_)
          intro v' w' hown' hbel'
          have hown2 : w'.ownsRow w.heap.size 9 1 v' (out ++ [cur]).length (rs (out ++ [cur])) := by rw [rs_snoc, List.length_append]; exact hown'
          have hbel2 := hbel.trans hbel'
          clear hown hown' hbel hbel'
          go_wp2_with fail
          go_roundw
          case rel => exact ⟨k + 1, k + 1, out ++ [cur], by omega, by go_num, by go_num, by omega, by simp; omega, hown2, hbel2, fun _ => hE.out, fun h => by omega⟩
          case measure => simp [intOf]; omega
        · have hne : ¬ ((x.toNat : Int) = (c.toNat : Int)) := fun e => hc (UInt8.toNat_inj.1 (by omega))
          have hE : Hid (pieces c l = out ++ pcons ((l.drop f).take (k + 1 - f)) (pieces c (l.drop (k + 1)))) := by
            show _ = _
            rw [HP.out, hdrop, pieces_miss _ hc, pcons_pcons, take_grow l f k x hf hx]
          generalize x.toNat = xn at *
          generalize c.toNat = cn at *
          have hne1 : ((xn : Int) == (cn : Int)) = false := by simpa using hne
          have t2 : ((k : Int) == (l.length : Int)) = false := by simpa using t1
          clear hdrop hx heq
          go_wp2_with fail
          go_roundw
          case rel => exact ⟨k + 1, f, out, by omega, by go_num, rfl, by omega, by omega, hown, hbel, fun _ => hE.out, fun h => by omega⟩
          case measure => simp [intOf]; omega
    · obtain rfl : k = l.length + 1 := by omega
      have hp := hp2 rfl
      have t0 : decide ((l.length : Int) + 1 ≤ (l.length : Int)) = false := by simp; omega
      obtain ⟨va, vc, rfl, _, _⟩ := own_shape hown
      have HF : Hid (PcPost (pieces c l) w (.returned (.slice va out.length vc)) wr) := ⟨hbel, _, rfl, by rw [hp]; exact hown⟩
      clear hp hp1 hp2 hown hbel
      go_wp2_with fail
      go_ret
      exact HF.out
#print axioms rpieces_c
end Go.Proofs.YtclfhajapohogaaDoor
