/-
  The lists lengthened.
-/
import Derived.Test.YtokhmlpajfhbpaaDoorMark
namespace Go.Proofs.YtokhmlpajfhbpaaDoor
open Go.ChangeShapes Go.WideShapes Go.ChangeAt Go.RowKit Go.Deep
set_option linter.unusedVariables false
set_option maxRecDepth 100000

def full (m : Nat) (t : Tr) : List Int := List.replicate t.p.length (mrk m)
def long (m : Nat) (t : Tr) : List Int := List.replicate (t.p.length + 80) (mrk m)
/-- Of each list i have been lengthened; X: what came of them. w2: the world as it began. -/
structure LgS (w2 : World) (T : List Tr) (i : Nat) (lv : Value) (X : List Value) (wr : World) : Prop where
  away : Away (VS T) w2 wr
  len : X.length = i
  lst : OwnsG 22 wr lv X
  new : New w2.heap.size lv
  own : ∀ (m : Nat) t, T[m]? = some t → i ≤ m → Owns wr t.v (full m t)
  row : ∀ (m : Nat) t, T[m]? = some t → ∀ a n c, t.v = .slice a n c → Row wr a (full m t)
  lng : ∀ (m : Nat) t x, T[m]? = some t → X[m]? = some x → Owns wr x (long m t) ∧ ∀ k, x.ownBlock = some k → (t.v.ownBlock = some k ∨ w2.heap.size ≤ k) ∧ lv.ownBlock ≠ some k
/-- The i-th is being lengthened. -/
structure LgI (t : Tr) (i j : Nat) (wr0 : World) (xv : Value) (ws : World) : Prop where
  own : Owns ws xv (List.replicate (t.p.length + j) (mrk i))
  blk : ∀ k, xv.ownBlock = some k → t.v.ownBlock = some k ∨ wr0.heap.size ≤ k
  away : Away t.v.ownBlock.toList wr0 ws
  row : ∀ a n c, t.v = .slice a n c → Row ws a (full i t)
theorem full_bytes (m : Nat) (t : Tr) : Bytes (full m t) := mks_bytes _ _
theorem LgS.start {w : World} {B g : Nat} {kv wv : Value} {T : List Tr} (L : Lot w B g kv wv T) {w2 : World} (h : MkI w T T.length 0 w2) : LgS w2 T 0 (.slice none 0 0) [] w2 := by
  have ho : ∀ (m : Nat) t, T[m]? = some t → Owns w2 t.v (full m t) := fun m t ht => by
    have h1 := h.own m t ht
    have hm : m < T.length := (List.getElem?_eq_some_iff.1 ht).1
    unfold part at h1
    rw [if_pos hm] at h1
    exact h1
  refine ⟨Away.refl _ _, rfl, OwnsG.nil _ _, New.nil _, fun m t ht _ => ho m t ht, fun m t ht a n c e => ?_, fun m t x _ hx => by simp at hx⟩
  have h1 := ho m t ht
  rw [e] at h1
  have h3 := (L.own t (List.mem_of_getElem? ht)).2.2.2
  exact h1.row' (by simp [full]; omega) (full_bytes _ _)
theorem LgI.start {w2 wr : World} {T : List Tr} {i : Nat} {lv : Value} {X : List Value} {t : Tr} (h : LgS w2 T i lv X wr) (ht : T[i]? = some t) : LgI t i 0 wr t.v wr :=
  ⟨h.own i t ht (Nat.le_refl _), fun k hk => .inl hk, Away.refl _ _, h.row i t ht⟩
theorem LgI.alloc {t : Tr} {i j : Nat} {wr0 : World} {xv : Value} {ws : World} (h : LgI t i j wr0 xv ws) (o : Obj) : LgI t i j wr0 xv (ws.alloc o) :=
  ⟨h.own.away ((Away.refl [] _).alloc _) (by simp), h.blk, h.away.alloc _, fun a n c e => (h.row a n c e).away ((Away.refl [] _).alloc _) (by simp)⟩
theorem LgI.step {t : Tr} {i j : Nat} {wr0 : World} {xv xv' : Value} {ws ws' : World} (h : LgI t i j wr0 xv ws) (ht : t.p.length ≤ 1048576) (htv : ∃ l, Owns wr0 t.v l ∧ l.length = t.p.length) (ho : Owns ws' xv' (List.replicate (t.p.length + j) (mrk i) ++ [mrk i])) (hj : j < 80)
    (hd : (xv'.ownBlock = xv.ownBlock ∧ Away xv.ownBlock.toList ws ws') ∨ (New ws.heap.size xv' ∧ Away [] ws ws')) : LgI t i (j + 1) wr0 xv' ws' := by
  have ho' : Owns ws' xv' (List.replicate (t.p.length + (j + 1)) (mrk i)) := by
    rw [show t.p.length + (j + 1) = t.p.length + j + 1 from by omega, List.replicate_succ']
    exact ho
  have hsz := h.away.size
  rcases hd with ⟨he, haw⟩ | ⟨hn, haw⟩
  · refine ⟨ho', fun k hk => h.blk k (by rw [← he]; exact hk), h.away.next haw (fun x hx => ?_), fun a n c e => ?_⟩
    · rcases h.blk x (by simpa using hx) with h1 | h1
      · exact .inl (by simp [h1])
      · exact .inr h1
    · by_cases hp : t.p.length = 0
      · have : full i t = [] := by unfold full; rw [hp]; rfl
        rw [this]; exact Row.nil _ _
      · obtain ⟨l, hl, hll⟩ := htv
        obtain ⟨a', c', e', _, hcell⟩ := owns_slice hl
        obtain ⟨b, hb, _⟩ := hcell 0 (by omega)
        rw [e] at e'
        simp only [Value.slice.injEq] at e'
        have ha : a = some ⟨b, 0, none⟩ := by rw [e'.1, hb]
        subst ha
        by_cases hx : xv.ownBlock = some b
        · have hx' : xv'.ownBlock = some b := by rw [he]; exact hx
          have hbb : Bytes (List.replicate (t.p.length + (j + 1)) (mrk i)) := mks_bytes _ _
          obtain ⟨xa, xc, exv, _, _, hr, _, hof⟩ := ho'.row (by simp; omega) hbb
          rw [exv] at hx'
          cases xa with
          | none => simp [Value.ownBlock] at hx'
          | some y =>
            simp only [Value.ownBlock, Option.some.injEq] at hx'
            obtain ⟨yb, yo, ys⟩ := y
            have h1 := hof _ rfl
            simp only at hx' h1
            obtain ⟨h1, h2⟩ := h1
            subst hx'; subst h1; subst h2
            have h3 := hr.head t.p.length
            rw [List.take_replicate, Nat.min_eq_left (by omega)] at h3
            exact h3
        · exact (h.row _ n c e).away haw (fun y hy hm => by
            simp only [Option.some.injEq] at hy
            subst hy
            exact hx (by simpa using hm))
  · refine ⟨ho', fun k hk => .inr (by have := hn k hk; omega), h.away.next haw (by simp), fun a n c e => (h.row a n c e).away haw (by simp)⟩
theorem LgS.push {w0 w2 wr ws ws' : World} {B g : Nat} {kv wv : Value} {T : List Tr} (L : Lot w0 B g kv wv T) (hw02 : w0.heap.size ≤ w2.heap.size) {i : Nat} {lv lv' xv : Value} {X : List Value} {t : Tr} (h : LgS w2 T i lv X wr) (ht : T[i]? = some t) (hi : LgI t i 80 wr xv ws)
    (ho : OwnsG 22 ws' lv' (X ++ [xv])) (haw : Away lv.ownBlock.toList ws ws') (hmv : ∀ k, lv'.ownBlock = some k → lv.ownBlock = some k ∨ ws.heap.size ≤ k) : LgS w2 T (i + 1) lv' (X ++ [xv]) ws' := by
  have s1 := h.away.size
  have s2 := hi.away.size
  have s3 := haw.size
  have tlt : ∀ (m : Nat) s, T[m]? = some s → ∀ k, s.v.ownBlock = some k → k < w2.heap.size := fun m s hs k hk => by
    have := (L.own s (List.mem_of_getElem? hs)).1.lt k hk
    omega
  have lvlt : ∀ k, lv.ownBlock = some k → k < wr.heap.size := h.lst.lt
  have both : Away (t.v.ownBlock.toList ++ lv.ownBlock.toList) wr ws' := (hi.away.mono (fun x hx => List.mem_append_left _ hx)).next haw (fun x hx => .inl (List.mem_append_right _ hx))
  have mem2 : ∀ k, k ∈ t.v.ownBlock.toList ++ lv.ownBlock.toList → t.v.ownBlock = some k ∨ lv.ownBlock = some k := fun k hk => by simpa using hk
  refine ⟨h.away.next both (fun x hx => ?_), by simp [h.len], ho, fun k hk => ?_, fun m s hs hm => ?_, fun m s hs a n c e => ?_, fun m s x hs hx => ?_⟩
  · rcases mem2 x hx with h1 | h1
    · exact .inl (mem_VS.2 ⟨t, List.mem_of_getElem? ht, h1⟩)
    · exact .inr (h.new x h1)
  · rcases hmv k hk with h1 | h1
    · exact h.new k h1
    · omega
  · refine (h.own m s hs (by omega)).away both (fun k hk hm2 => ?_)
    rcases mem2 k hm2 with h1 | h1
    · exact L.vvIdx hs ht (by omega) hk h1
    · have := tlt m s hs k hk
      have := h.new k h1
      omega
  · by_cases hmi : m = i
    · subst hmi
      rw [ht] at hs
      obtain rfl := Option.some.inj hs
      refine (hi.row a n c e).away haw (fun y hy hm2 => ?_)
      have h1 : t.v.ownBlock = some y.block := by rw [e, hy]; rfl
      have h2 : lv.ownBlock = some y.block := by simpa using hm2
      have := tlt m t ht _ h1
      have := h.new _ h2
      omega
    · refine (h.row m s hs a n c e).away both (fun y hy hm2 => ?_)
      have h1 : s.v.ownBlock = some y.block := by rw [e, hy]; rfl
      rcases mem2 _ hm2 with h2 | h2
      · exact L.vvIdx hs ht hmi h1 h2
      · have := tlt m s hs _ h1
        have := h.new _ h2
        omega
  · rcases Nat.lt_or_ge m i with hlt | hge
    · rw [List.getElem?_append_left (by rw [h.len]; exact hlt)] at hx
      obtain ⟨o1, o2⟩ := h.lng m s x hs hx
      refine ⟨o1.away both (fun k hk hm2 => ?_), fun k hk => ⟨(o2 k hk).1, fun e => ?_⟩⟩
      · obtain ⟨h1, h2⟩ := o2 k hk
        rcases mem2 k hm2 with h3 | h3
        · rcases h1 with h1 | h1
          · exact L.vvIdx hs ht (by omega) h1 h3
          · have := tlt i t ht k h3; omega
        · exact h2 h3
      · rcases hmv k e with h3 | h3
        · exact (o2 k hk).2 h3
        · have := o1.lt k hk; omega
    · have hmi : m = i := by
        have h1 : m < (X ++ [xv]).length := (List.getElem?_eq_some_iff.1 hx).1
        rw [List.length_append, h.len] at h1
        simp at h1; omega
      subst hmi
      rw [ht] at hs
      obtain rfl := Option.some.inj hs
      have hx2 : x = xv := by
        rw [List.getElem?_append_right (by rw [h.len]; omega), h.len] at hx
        simpa using hx.symm
      subst hx2
      have hsep : ∀ k, x.ownBlock = some k → lv.ownBlock ≠ some k := fun k hk e => by
        rcases hi.blk k hk with h1 | h1
        · have := tlt m t ht k h1
          have := h.new k e
          omega
        · have := lvlt k e; omega
      refine ⟨hi.own.away haw (fun k hk hm2 => hsep k hk (by simpa using hm2)), fun k hk => ⟨?_, fun e => ?_⟩⟩
      · rcases hi.blk k hk with h1 | h1
        · exact .inl h1
        · exact .inr (by omega)
      · rcases hmv k e with h3 | h3
        · exact hsep k hk h3
        · have := hi.own.lt k hk; omega
#print axioms LgS.push
end Go.Proofs.YtokhmlpajfhbpaaDoor
