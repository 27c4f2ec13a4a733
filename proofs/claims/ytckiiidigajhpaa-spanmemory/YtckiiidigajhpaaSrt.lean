/-
  The library's sort, at spans, by their From; make and copy of spans.
-/
import Derived.Test.YtckiiidigajhpaaFn5
import Derived.Test.YtckiiidigajhpaaShelf
import Derived.Laws.CopyRow
import Derived.Laws.MakeOwn
namespace Go.Proofs.Ytckiiidigajhpaa
open Go.ChangeShapes Go.WideShapes Go.ChangeAt Go.RowKit Go.Shelf
set_option linter.unusedVariables false

def cmpP (x y : Int) : Int := if x < y then -1 else if y < x then 1 else 0
set_option maxHeartbeats 1000000 in
theorem isNaN_c (x : Int) (w : World) : Calls Try.prog 43 #[.int .i64 x] w fun e w' => e = .returned (.bool false) ∧ w' = w := by
  go_enter Try.func43, Try.ntmps43
  go_wp2
  go_ret
  exact ⟨rfl, rfl⟩
set_option maxHeartbeats 2000000 in
theorem compare_c (x y : Int) (w : World) : Calls Try.prog 35 #[.int .i64 x, .int .i64 y] w fun e w' => e = .returned (.int .i64 (cmpP x y)) ∧ w' = w := by
  rcases Int.lt_trichotomy x y with h | h | h
  · have HC : Hid (cmpP x y = -1) := by show _ = _; unfold cmpP; rw [if_pos h]
    generalize cmpP x y = r at *
    go_enter Try.func35, Try.ntmps35
    go_wp2_with (go_at_call 43; refine (isNaN_c _ _).mono ?_; rintro e w' ⟨rfl, rfl⟩)
    go_ret
    exact ⟨by rw [HC.out]; rfl, rfl⟩
  · subst h
    have HC : Hid (cmpP x x = 0) := by show _ = _; unfold cmpP; rw [if_neg (by omega), if_neg (by omega)]
    generalize cmpP x x = r at *
    go_enter Try.func35, Try.ntmps35
    go_wp2_with (go_at_call 43; refine (isNaN_c _ _).mono ?_; rintro e w' ⟨rfl, rfl⟩)
    go_ret
    exact ⟨by rw [HC.out]; rfl, rfl⟩
  · have HC : Hid (cmpP x y = 1) := by show _ = _; unfold cmpP; rw [if_neg (by omega), if_pos h]
    generalize cmpP x y = r at *
    go_enter Try.func35, Try.ntmps35
    go_wp2_with (go_at_call 43; refine (isNaN_c _ _).mono ?_; rintro e w' ⟨rfl, rfl⟩)
    go_ret
    exact ⟨by rw [HC.out]; rfl, rfl⟩
def cfS (x y : Sp) : Int := cmpP x.1 y.1
theorem lt_cf (x y : Sp) : ltOf cfS x y = decide (x.1 < y.1) := by
  unfold ltOf cfS cmpP
  by_cases h1 : x.1 < y.1
  · simp [h1]
  · by_cases h2 : y.1 < x.1 <;> simp [h1, h2]
theorem swo_cf : Sort.SWO (ltOf cfS) where
  irrefl x := by rw [lt_cf]; simp
  trans x y z h1 h2 := by rw [lt_cf] at *; simp at *; omega
  ntrans x y z h1 h2 := by rw [lt_cf] at *; simp at *; omega
set_option maxHeartbeats 1000000 in
theorem closure_c (x y : Sp) (W : World) : Calls Try.prog 34 #[valS x, valS y] W fun e w' => e = .returned (.int .i64 (cfS x y)) ∧ ∃ q os', w' = Sort.grow (W.drewN q) os' := by
  obtain ⟨x1, x2⟩ := x
  obtain ⟨y1, y2⟩ := y
  simp only [valS, cfS]
  have hcon := fun W' => compare_c x1 y1 W'
  generalize cmpP x1 y1 = r at hcon ⊢
  go_enter Try.func34, Try.ntmps34
  go_wp2_with (go_at_call 35; refine (hcon _).mono ?_; rintro e w' ⟨rfl, rfl⟩)
  go_ret
  exact ⟨rfl, 0, _, by rw [Sort.alloc_eq_grow, Sort.alloc_eq_grow, Sort.grow_grow]; rfl⟩
theorem cmpLays_c (blk off size : Nat) (w : World) : CmpLays Try.prog 34 #[] encS 2 cfS blk off size w := fun _ _ _ _ x y => closure_c x y _
theorem flatK_get (l : List Sp) (t : Nat) (h : t < l.length * 2) : (Sort.flatK encS 2 l.toArray)[t]! = ((l.flatMap encS)[t]?).getD default := by
  rw [Sort.get_flatK _ _ _ _ (by simpa using h)]
  obtain ⟨x, hx, _⟩ := get_of (show t / 2 < l.length by omega)
  obtain ⟨f1, f2⟩ := flat_get l (t / 2) x hx
  have e : l.toArray[t / 2]! = x := by simp [Array.getElem!_eq_getD, Array.getD_eq_getD_getElem?, hx]
  rw [e]
  rcases Nat.mod_two_eq_zero_or_one t with h0 | h0
  · have e2 : t / 2 * 2 = t := by omega
    rw [e2] at f1; rw [f1, h0]; rfl
  · have e2 : t / 2 * 2 + 1 = t := by omega
    rw [e2] at f2; rw [f2, h0]; rfl
/-- A row that may be written. -/
structure RowF (w : World) (g : Nat) (l : List Sp) : Prop where
  row : Row w (some ⟨g, 0, none⟩) l
  free : ∀ i, w.frozen? ⟨g, i, none⟩ = false
  lt : g < w.heap.size
theorem RowF.holds {w : World} {g : Nat} {l : List Sp} (h : RowF w g l) : Sort.HoldsK encS 2 w g 0 l.toArray := by
  intro j hj
  have hj' : j < l.length * 2 := by simpa using hj
  refine ⟨?_, h.free _⟩
  show _ = some ((Sort.flatK encS 2 l.toArray)[j]!)
  rw [flatK_get l j hj']
  obtain ⟨x, hx, _⟩ := get_of (show j / 2 < l.length by omega)
  obtain ⟨f1, f2⟩ := flat_get l (j / 2) x hx
  obtain ⟨b, off, hb, c1, c2, -⟩ := h.row.at hx
  simp only [Option.some.injEq, Addr.mk.injEq] at hb
  obtain ⟨rfl, rfl, -⟩ := hb
  rcases Nat.mod_two_eq_zero_or_one j with h0 | h0
  · have e2 : j / 2 * 2 = j := by omega
    rw [e2] at f1 c1; rw [f1, c1]; rfl
  · have e2 : j / 2 * 2 + 1 = j := by omega
    rw [Nat.add_assoc, e2] at c2
    rw [e2] at f2; rw [f2, c2]; rfl
theorem holds_row {w : World} {g : Nat} {l : List Sp} (h : Sort.HoldsK encS 2 w g 0 l.toArray) (hl : l.length ≤ 8796093022208) (hok : ∀ x ∈ l, OkS x) : Row w (some ⟨g, 0, none⟩) l := by
  refine ⟨hl, hok, .inr ⟨g, 0, rfl, fun i x hx => ?_⟩⟩
  have hi := get_lt hx
  obtain ⟨f1, f2⟩ := flat_get l i x hx
  have k1 := (h (i * 2) (by simp; omega)).1
  have k2 := (h (i * 2 + 1) (by simp; omega)).1
  simp only [id] at k1 k2
  rw [flatK_get l _ (by omega), f1] at k1
  rw [flatK_get l _ (by omega), f2] at k2
  rw [Nat.add_assoc]
  exact ⟨k1, k2⟩
theorem away_sort {w : World} {g n : Nat} (l' : List Sp) (os : Array Obj) (hg : g < w.heap.size) : Away [g] w (sortWorldK encS 2 w g 0 n l'.toArray os) := by
  have hs : (Sort.putRowK encS 2 (Sort.ahead w n) g 0 l'.toArray).heap.size = w.heap.size := by simp [Sort.putRowK]
  refine ⟨rfl, rfl, rfl, by unfold sortWorldK Sort.grow; simp [hs], fun k hk hn => ?_⟩
  unfold sortWorldK Sort.grow
  simp only
  rw [Array.getElem?_append_left (by rw [hs]; exact hk)]
  unfold Sort.putRowK Sort.putRow Sort.mapBlock
  simp only [Array.getElem?_modify]
  rw [if_neg (by simp at hn; omega)]
  rfl
set_option maxHeartbeats 1000000 in
theorem sort_c (g n cap : Nat) (l : List Sp) (w : World) (hn : l.length = n) (h : RowF w g l) :
    Calls Try.prog 33 #[.slice (some ⟨g, 0, none⟩) n cap, .func (.func 34) #[] #[]] w fun E w' =>
      ∃ l', E = .returned (.tuple #[]) ∧ l'.Perm l ∧ SortedF l' ∧ Row w' (some ⟨g, 0, none⟩) l' ∧ Away [g] w w' := by
  subst hn
  have hlen := h.row.1
  have eg : ∀ args w, (callFunc 34 args).run Try.prog w = .ok (.enter 34 args) w := enters_of Try.func34 (by kernel_rfl) rfl
  have hcon := AnyQ.slices_SortFunc Try.sortSpan 2 (fun w => by kernel_rfl) (fun w => by kernel_rfl) encS (fun _ => rfl) (fun x v hv => by simp [encS] at hv; rcases hv with rfl | rfl <;> rfl) cfS swo_cf 34 #[] g 0 cap l.toArray w eg (cmpLays_c g 0 _ w) h.holds h.lt (by simp; omega)
  change Calls Try.prog 33 _ _ _ at hcon
  simp only [List.size_toArray] at hcon
  refine hcon.mono ?_
  rintro E w' ⟨rfl, d', q, os, hp, hs, rfl⟩
  obtain ⟨hsz, -, hpm⟩ := hp
  have hsz' : d'.size = l.length := by simpa using hsz
  have hperm : d'.toList.Perm l := by
    have e1 : (d'.extract 0 l.length).toList = d'.toList := by rw [← hsz']; simp
    have e2 : (l.toArray.extract 0 l.length).toList = l := by simp
    have := hpm
    rw [e1, e2] at this
    exact this
  have hsort : SortedF d'.toList := by
    unfold SortedF
    rw [List.pairwise_iff_getElem]
    intro i j hi hj hij
    have hj' : j < d'.size := by simpa using hj
    have hi' : i < d'.size := by simpa using hi
    have := hs i j (Nat.zero_le _) hij (by omega)
    rw [lt_cf, getElem!_pos d' j hj', getElem!_pos d' i hi'] at this
    simp at this
    simpa using this
  refine ⟨d'.toList, rfl, hperm, hsort, holds_row ?_ (by rw [hperm.length_eq]; exact hlen) (fun x hx => h.row.2.1 x (hperm.mem_iff.1 hx)), ?_⟩
  · have h0 : Sort.HoldsK encS 2 (Sort.ahead w q) g 0 l.toArray := h.holds
    have h1 := Sort.holdsK_putRowK encS 2 (Sort.ahead w q) g 0 l.toArray d' h0 (by simpa using hsz')
    have h2 := Sort.holdsK_grow encS 2 (Sort.putRowK encS 2 (Sort.ahead w q) g 0 d') os g 0 d' (by simp [Sort.putRowK]; exact h.lt) h1
    show Sort.HoldsK encS 2 (Sort.grow (Sort.putRowK encS 2 (Sort.ahead w q) g 0 d') os) g 0 d'.toList.toArray
    simpa using h2
  · have := away_sort (w := w) (g := g) (n := q) d'.toList os h.lt
    simpa using this
/-! make and copy. -/
def zs : Value := .agg #[.int .i64 0, .int .i64 0]
def madeO (c : Nat) : Obj := .cells (madeCells zs.cells (c * 2)) 29
theorem make_s (n c : Nat) (N C : Int) (hN : N = n) (hC : C = c) (hnc : n ≤ c) (hc : c ≤ 8796093022208) (wx : World) :
    (Instr.makeSlice 22 (.int .i64 N) (.int .i64 C)).run Try.prog wx = .ok (.slice (some ⟨wx.heap.size, 0, none⟩) n c) (wx.alloc (madeO c)) := by
  subst hN; subst hC
  obtain ⟨i0, hi, hz0, hz1, hz2⟩ := info_parts info29
  have := run_make (P := Try.prog) wx 22 29 i0 zs Try.underlying22 hi hz0 .i64 .i64 n c (by omega) (by omega) (by rw [hz2]; omega) (by omega)
  rw [hz1] at this
  unfold madeO
  simpa using this
/-- A block that was made for spans. -/
structure Buf (w : World) (g c : Nat) : Prop where
  cells : ∃ cur, w.heap[g]? = some (.cells cur 29 (0, 0)) ∧ cur.size = c * 2
  cap : c ≤ 8796093022208
theorem Buf.made (w : World) (c : Nat) (hc : c ≤ 8796093022208) : Buf (w.alloc (madeO c)) w.heap.size c :=
  ⟨⟨_, block_new _ _, size_madeCells _ _⟩, hc⟩
theorem Lst.of_block {w : World} {g n c : Nat} {l : List Sp} {cur : Array Value} (h : w.heap[g]? = some (.cells cur 29 (0, 0))) (hs : cur.size = c * 2) (hc : c ≤ 8796093022208) (hn : l.length = n) (hnc : n ≤ c) (ht : cur.toList.take (n * 2) = l.flatMap encS) :
    Lst w (.slice (some ⟨g, 0, none⟩) n c) l := by
  subst hn
  exact ⟨flat_two l, .inr ⟨g, c, cur, rfl, Nat.zero_le _, h, hnc, by unfold maxLen; omega, hs, ht⟩⟩
theorem run_copy2 (w : World) (ty : TypeId) (g n c : Nat) (ad : Option Addr) (sc : Nat) (m : List Sp) (hm : m.length = n) (hb : Buf w g c) (hnc : n ≤ c) (hnil : ad = none → sc = 0) (hr : Row w ad m) :
    ∃ w', (Builtin.copy_ #[22, 22] ty #[.slice (some ⟨g, 0, none⟩) n c, .slice ad n sc]).run Try.prog w = .ok (goInt n) w' ∧ Lst w' (.slice (some ⟨g, 0, none⟩) n c) m ∧ Away [g] w w' := by
  obtain ⟨⟨cur, hg, hs⟩, hc⟩ := hb
  obtain ⟨i0, hi, hz0, hz1, hz2⟩ := info_parts info29
  subst hm
  rcases ad with _ | ad
  · obtain rfl : m = [] := by rcases hr.2.2 with h | ⟨_, _, h, _⟩ <;> simp_all
    obtain rfl := hnil rfl
    exact ⟨w, run_copy_nil (P := Try.prog) w 22 22 ty 29 ⟨g, 0, none⟩ 0 c Try.underlying22 (by rw [hi]; rfl), Lst.of_block hg hs hc rfl hnc (by simp), Away.refl _ _⟩
  · have hsrc : ∀ j u, (m.flatMap encS)[j]? = some u → w.cell? (ad.add j) = some u := fun j u hj => by
      have hlt : j < m.length * 2 := by
        rw [← flat_two]
        rcases Nat.lt_or_ge j (m.flatMap encS).length with h' | h'
        · exact h'
        · rw [List.getElem?_eq_none h'] at hj; simp at hj
      obtain ⟨x, hx, _⟩ := get_of (show j / 2 < m.length by omega)
      obtain ⟨b, off, hb, c1, c2, _⟩ := hr.at hx
      obtain ⟨f1, f2⟩ := flat_get m (j / 2) x hx
      simp at hb; subst hb
      rw [add_plain]
      rcases Nat.mod_two_eq_zero_or_one j with h0 | h0
      · have e : j / 2 * 2 = j := by omega
        rw [e] at c1 f1; rw [c1, ← hj, f1]
      · have e : j / 2 * 2 + 1 = j := by omega
        rw [e] at f2
        rw [show off + j = off + j / 2 * 2 + 1 from by omega, c2, ← hj, f2]
    have hl := run_loadCells_list (P := Try.prog) w ad (m.flatMap encS) hsrc
    have hfit : m.length * 2 ≤ cur.size := by omega
    have hst := run_storeCells_at Try.prog g 0 29 (m.flatMap encS) 0 cur w hg (by rw [flat_two]; omega) (flat_one m)
    have hlen : (m.flatMap encS).length = m.length * 2 := flat_two m
    generalize hcs : m.flatMap encS = cs at *
    refine ⟨w.setRow g (cur.toList.take (0 + 0) ++ cs ++ cur.toList.drop (0 + 0 + cs.length)).toArray, ?_, ?_, ?_⟩
    · rw [hlen] at hl
      simp [Builtin.copy_, run_underlying Try.underlying22, Builtin.lenOf, Builtin.firstCells, sizeOf, typeInfo, hi, hz1, hl, hst]
    · refine Lst.of_block (setRow_heap w g cur _ 29 _ hg) ?_ hc rfl hnc ?_
      · simp; omega
      · rw [hcs]
        simp only [Nat.add_zero, List.take_zero, List.nil_append, Nat.zero_add]
        rw [← hlen]
        simp
    · exact ⟨rfl, rfl, rfl, by simp [World.setRow], fun k hk hn => setRow_other w g k _ (by simp at hn; omega)⟩
/-- As a step of a walk. -/
theorem wpList_copy2 {w : World} {ops : Array Oper} {rest : List Oper} {o : Oper} {a : Act} {Q : Exit → Act → World → Prop} (hgd : o.guard = none) (d s : Operand)
    (ho : o.op = .call { callee := .builtin .copy, args := #[d, s], argTypes := #[22, 22] }) (g n c : Nat) (hd : a.eval d = .slice (some ⟨g, 0, none⟩) n c)
    (ad : Option Addr) (sc : Nat) (hs : a.eval s = .slice ad n sc) (m : List Sp) (hm : m.length = n) (hb : Buf w g c) (hnc : n ≤ c) (hnil : ad = none → sc = 0) (hr : Row w ad m)
    (h : ∀ w', Lst w' (.slice (some ⟨g, 0, none⟩) n c) m → Away [g] w w' → wpList Try.prog ops Q rest (a.put o.dst (goInt n)) w') : wpList Try.prog ops Q (o :: rest) a w := by
  obtain ⟨w', hrun, r1, r2⟩ := run_copy2 w o.type g n c ad sc m hm hb hnc hnil hr
  refine wpList_plain hgd fun _ hK => ?_
  unfold Oper.wp
  simp [execOp, ho, resolve, invoke, builtin, hd, hs, hrun, Result.andThen]
  exact hK _ _ (h w' r1 r2)
#print axioms wpList_copy2
end Go.Proofs.Ytckiiidigajhpaa
