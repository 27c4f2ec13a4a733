/-
  The second half of 'marked': what holds while others are laid behind each.
-/
import Derived.Test.YtkfbhofbajejiaaDoorMark1
namespace Go.Proofs.YtkfbhofbajejiaaDoor
open Go.ChangeShapes Go.WideShapes Go.ChangeAt Go.RowKit Go.Deep Num
set_option linter.unusedVariables false

def Lies (w : World) (vl : Value) (t : Tk) : Prop := ∀ b, t.g.ownBlock = some b → t.b.ownBlock = some b ∨ (w.heap.size ≤ b ∧ vl.ownBlock ≠ some b)
def Done (w wr : World) (vl : Value) (t : Tk) (j : Nat) : Prop := AllAt wr t.g (mrk j) ∧ Lies w vl t
def Todo (wr : World) (t : Tk) (j : Nat) (p : Value × List Int) : Prop := t.g = .slice none 0 0 ∧ ∃ m : List Int, Owns wr t.b m ∧ m.length = p.2.length ∧ ∀ i, i < m.length → m[i]? = some (mrk j)
def Doing (w wr : World) (vl : Value) (t : Tk) (j : Nat) (p : Value × List Int) (q : Nat) : Prop := (∃ m : List Int, Owns wr t.g m ∧ m.length = p.2.length + q ∧ ∀ i, i < m.length → m[i]? = some (mrk j)) ∧ Lies w vl t
def Mid' (w wr : World) (vl : Value) (t : Tk) (j : Nat) (p : Value × List Int) : Option Nat → Prop
  | none => Todo wr t j p
  | some q => Doing w wr vl t j p q
structure Ph (P : Lot) (w wr : World) (vl : Value) (l : List Tk) (k : Nat) (mid : Option Nat) : Prop where
  aw : Away (bl P) w wr
  own : OwnsT wr vl l
  new : New w.heap.size vl
  len : l.length = P.length
  itm : ∀ (j : Nat) (t : Tk), l[j]? = some t → ∃ p : Value × List Int, P[j]? = some p ∧ t.b = p.1 ∧ t.m = mrk j ∧ AllAt wr t.b (mrk j) ∧ (∀ b, t.g.ownBlock = some b → b < wr.heap.size) ∧ (j < k → Done w wr vl t j) ∧ (k < j → Todo wr t j p) ∧ (j = k → Mid' w wr vl t j p mid)
  apg : ∀ (i j : Nat) (s t : Tk), i ≠ j → l[i]? = some s → l[j]? = some t → ∀ b, s.g.ownBlock = some b → t.g.ownBlock ≠ some b
theorem Ph.put {P : Lot} {w wr w3 : World} {vl : Value} {l : List Tk} {k : Nat} {mid mid' : Option Nat} {t t' : Tk} {p : Value × List Int} {S : List Nat} (h : Ph P w wr vl l k mid) (hap : Apart P) (hlt : ∀ (j : Nat) (p : Value × List Int), P[j]? = some p → ∀ b, p.1.ownBlock = some b → b < w.heap.size)
    (ht : l[k]? = some t) (hp : P[k]? = some p) (htb : t.b = p.1) (htm : t.m = mrk k) (hb : t'.b = t.b) (hm : t'.m = t.m) (ha : Away S wr w3) (haw : Away (bl P) w w3) (hS : ∀ x ∈ S, t.g.ownBlock = some x ∨ vl.ownBlock = some x) (hl : Lies w vl t) (hown : OwnsT w3 vl (l.set k t')) (hall : AllAt w3 t.b (mrk k))
    (hlt' : ∀ b, t'.g.ownBlock = some b → b < w3.heap.size) (hg' : ∀ b, t'.g.ownBlock = some b → t.g.ownBlock = some b ∨ t.b.ownBlock = some b ∨ wr.heap.size ≤ b) (hcur : Mid' w w3 vl t' k p mid') : Ph P w w3 vl (l.set k t') k mid' := by
  have hkl : k < l.length := by
    rcases Nat.lt_or_ge k l.length with h | h
    · exact h
    · rw [List.getElem?_eq_none h] at ht; simp at ht
  have hsz := ha.size
  have hszw := h.aw.size
  -- an other's blocks are none of S
  have nb : ∀ (j : Nat) (s : Tk) (r : Value × List Int), j ≠ k → l[j]? = some s → P[j]? = some r → s.b = r.1 → ∀ b, s.b.ownBlock = some b → b ∉ S := by
    intro j s r hj hs hr hsb b hbb hbS
    rw [hsb] at hbb
    have h1 := hlt j r hr b hbb
    rcases hS b hbS with h2 | h2
    · rcases hl b h2 with h3 | ⟨h3, _⟩
      · rw [htb] at h3
        exact hap.ne j k r p hj hr hp b hbb h3
      · omega
    · have := h.new b h2; omega
  have ng : ∀ (j : Nat) (s : Tk) (r : Value × List Int), j ≠ k → l[j]? = some s → P[j]? = some r → s.b = r.1 → Lies w vl s → ∀ b, s.g.ownBlock = some b → b ∉ S := by
    intro j s r hj hs hr hsb hls b hbb hbS
    rcases hls b hbb with h3 | ⟨h3, h4⟩
    · exact nb j s r hj hs hr hsb b h3 hbS
    · rcases hS b hbS with h2 | h2
      · exact h.apg j k s t hj hs ht b hbb h2
      · exact h4 h2
  refine ⟨haw, hown, h.new, by simpa using h.len, ?_, ?_⟩
  · intro j s hs
    by_cases hj : j = k
    · subst hj
      rw [List.getElem?_set_self hkl] at hs
      obtain rfl : t' = s := by simpa using hs
      exact ⟨p, hp, by rw [hb, htb], by rw [hm, htm], by rw [hb]; exact hall, hlt', fun hh => by omega, fun hh => by omega, fun _ => hcur⟩
    · rw [List.getElem?_set_ne (by omega)] at hs
      obtain ⟨r, i1, i2, i3, i4, i5, i6, i7, i8⟩ := h.itm j s hs
      refine ⟨r, i1, i2, i3, i4.away ha (nb j s r hj hs i1 i2), fun b hbb => Nat.lt_of_lt_of_le (i5 b hbb) hsz, fun hh => ?_, fun hh => ?_, fun hh => absurd hh hj⟩
      · obtain ⟨q1, q2⟩ := i6 hh
        exact ⟨q1.away ha (ng j s r hj hs i1 i2 q2), q2⟩
      · obtain ⟨q1, m, q2, q3⟩ := i7 hh
        exact ⟨q1, m, q2.away ha (nb j s r hj hs i1 i2), q3⟩
  · -- lies of the others
    have key : ∀ (j : Nat) (s : Tk), j ≠ k → l[j]? = some s → ∀ b, t'.g.ownBlock = some b → s.g.ownBlock ≠ some b := by
      intro j s hj hs b hbb hsb
      obtain ⟨r, i1, i2, i3, i4, i5, i6, i7, i8⟩ := h.itm j s hs
      rcases hg' b hbb with h1 | h1 | h1
      · exact h.apg k j t s (fun e => hj e.symm) ht hs b h1 hsb
      · have hls : Lies w vl s := by
          rcases Nat.lt_or_ge j k with h2 | h2
          · exact (i6 h2).2
          · have := (i7 (by omega)).1
            intro c hc; rw [this] at hc; simp [Value.ownBlock] at hc
        rcases hls b hsb with h3 | ⟨h3, _⟩
        · rw [htb] at h1
          rw [i2] at h3
          exact hap.ne j k r p hj i1 hp b h3 h1
        · rw [htb] at h1
          have := hlt k p hp b h1
          omega
      · have := i5 b hsb; omega
    intro i j s u hij hs hu b hbb
    by_cases hi : i = k
    · subst hi
      rw [List.getElem?_set_self hkl] at hs
      obtain rfl : t' = s := by simpa using hs
      rw [List.getElem?_set_ne (by omega)] at hu
      exact key j u (fun e => hij e.symm) hu b hbb
    · rw [List.getElem?_set_ne (by omega)] at hs
      by_cases hj : j = k
      · subst hj
        rw [List.getElem?_set_self hkl] at hu
        obtain rfl : t' = u := by simpa using hu
        intro hc
        exact key i s hi hs b hc hbb
      · rw [List.getElem?_set_ne (by omega)] at hu
        exact h.apg i j s u hij hs hu b hbb
theorem all_of_owns {w : World} {v : Value} {m : List Int} {z : Int} (h : Owns w v m) (hl : m.length ≤ 66000) (hz : ∀ i, i < m.length → m[i]? = some z) : AllAt w v z := by
  rcases h.2 with ⟨rfl, h0⟩ | ⟨g, cap, cur, rfl, _⟩
  · exact ⟨none, 0, 0, rfl, by omega, .inl rfl⟩
  · refine ⟨some ⟨g, 0, none⟩, m.length, cap, by simp, hl, .inr ⟨g, rfl, fun i hi => ?_⟩⟩
    rw [(Owns.cells h i hi).1, hz i hi]; rfl
theorem Ph.next {P : Lot} {w wr : World} {vl : Value} {l : List Tk} {k q : Nat} (h : Ph P w wr vl l k (some q)) (hsm : ∀ (j : Nat) (p : Value × List Int), P[j]? = some p → p.2.length + q ≤ 66000) : Ph P w wr vl l (k + 1) none := by
  refine ⟨h.aw, h.own, h.new, h.len, ?_, h.apg⟩
  intro j s hs
  obtain ⟨r, i1, i2, i3, i4, i5, i6, i7, i8⟩ := h.itm j s hs
  refine ⟨r, i1, i2, i3, i4, i5, fun hh => ?_, fun hh => i7 (by omega), fun hh => i7 (by omega)⟩
  by_cases hj : j = k
  · obtain ⟨⟨m, q1, q2, q3⟩, q4⟩ := i8 hj
    exact ⟨all_of_owns q1 (by have := hsm j r i1; omega) q3, q4⟩
  · exact i6 (by omega)
theorem Ph.fin {P : Lot} {w wr : World} {vl : Value} {l : List Tk} (h : Ph P w wr vl l P.length none) (hf : P.length ≤ 60) : Still wr vl l ∧ ∀ t ∈ l, (∀ k, t.b.ownBlock = some k → k ∈ bl P) ∧ (∀ k, t.g.ownBlock = some k → k ∈ bl P ∨ w.heap.size ≤ k) := by
  have key : ∀ t ∈ l, ∃ (j : Nat) (p : Value × List Int), P[j]? = some p ∧ t.b = p.1 ∧ t.m = mrk j ∧ AllAt wr t.b (mrk j) ∧ Done w wr vl t j := by
    intro t ht
    obtain ⟨j, hj, rfl⟩ := List.mem_iff_getElem.mp ht
    obtain ⟨r, i1, i2, i3, i4, i5, i6, i7, i8⟩ := h.itm j _ (List.getElem?_eq_getElem hj)
    exact ⟨j, r, i1, i2, i3, i4, i6 (by have := h.len; omega)⟩
  refine ⟨⟨h.own, by have := h.len; omega, fun t ht => ?_⟩, fun t ht => ?_⟩
  · obtain ⟨j, p, k1, k2, k3, k4, k5⟩ := key t ht
    rw [k3]; exact ⟨k4, k5.1⟩
  · obtain ⟨j, p, k1, k2, k3, k4, k5⟩ := key t ht
    have hb : ∀ k, t.b.ownBlock = some k → k ∈ bl P := fun k hk => bl_mem k1 (by rw [← k2]; exact hk)
    refine ⟨hb, fun k hk => ?_⟩
    rcases k5.2 k hk with h1 | ⟨h1, _⟩
    · exact .inl (hb k h1)
    · exact .inr h1
theorem OwnsT.store {w : World} {g n c k : Nat} {l : List Tk} {t : Tk} (h : OwnsT w (.slice (some ⟨g, 0, none⟩) n c) l) (ht : l[k]? = some t) (x : Value) : OwnsT (w.setCell ⟨g, k * 3 + 1, none⟩ x) (.slice (some ⟨g, 0, none⟩) n c) (l.set k { t with g := x }) := by
  have hn : n = l.length := by
    rcases h.2 with ⟨h2, _⟩ | ⟨g', cap', cur, h2, _⟩
    · simp at h2
    · simp only [Value.slice.injEq] at h2; exact h2.2.1
  subst hn
  have := (World.ownsRow.stored h (k * 3 + 1) x).1
  unfold OwnsT
  rw [List.length_set, ← flatT_set l k t x ht]
  exact this
theorem Ph.start {P : Lot} {w wr : World} {vl : Value} (aw : Away (bl P) w wr) (con : Con P wr P.length 0) (own : OwnsT wr vl (tks P P.length)) (new : New w.heap.size vl) (hs : ∀ (j : Nat) (p : Value × List Int), P[j]? = some p → p.2.length ≤ 65535) : Ph P w wr vl (tks P P.length) 0 none := by
  have hg : ∀ (j : Nat) (t : Tk), (tks P P.length)[j]? = some t → ∃ p : Value × List Int, P[j]? = some p ∧ t = ⟨p.1, .slice none 0 0, mrk j⟩ := by
    intro j t ht
    have hj : j < P.length := by
      rcases Nat.lt_or_ge j P.length with h | h
      · exact h
      · rw [List.getElem?_eq_none (by simpa [tks] using h)] at ht; simp at ht
    refine ⟨P[j], List.getElem?_eq_getElem hj, ?_⟩
    simp [tks, hj, List.getD] at ht
    exact ht.symm
  refine ⟨aw, own, new, by simp [tks], fun j t ht => ?_, fun i j s t hij hs' ht b hb => ?_⟩
  · obtain ⟨p, hp, rfl⟩ := hg j t ht
    obtain ⟨m, m1, m2, m3, _⟩ := con j p hp
    have hj : j < P.length := by
      rcases Nat.lt_or_ge j P.length with h | h
      · exact h
      · rw [List.getElem?_eq_none h] at hp; simp at hp
    have hm := m3 hj
    have hl := hs j p hp
    have todo : Todo wr ⟨p.1, .slice none 0 0, mrk j⟩ j p := ⟨rfl, m, m2, m1, hm⟩
    exact ⟨p, hp, rfl, rfl, all_of_owns m2 (by omega) hm, fun b hb => by simp [Value.ownBlock] at hb, fun hh => by omega, fun _ => todo, fun _ => todo⟩
  · obtain ⟨p, hp, rfl⟩ := hg i s hs'
    simp [Value.ownBlock] at hb
theorem run_appW (ty : TypeId) (w : World) (v : Value) (l m : List Int) (hown : Owns w v l) (ad : Addr) (n c : Nat) (hn : m.length = n) (hm : ∀ j u, (m.map (Value.int .u8))[j]? = some u → w.cell? (ad.add j) = some u) (hlen : l.length + n ≤ 140737488355328) :
    ∃ v' w', (Builtin.append_ #[26, 26] ty #[v, .slice (some ad) n c]).run Tryd.prog w = .ok v' w' ∧ Owns w' v' (l ++ m) ∧ Went w w' v v' := by
  obtain ⟨i0, hi, hz0, hz1, hz2⟩ := info_parts info5
  have hown' : w.ownsRow 0 5 1 v l.length (l.map (Value.int .u8)) := by
    have := hown
    unfold Owns OwnsG at this
    rwa [List.length_map] at this
  obtain ⟨v', w', h1, h2, h3⟩ := run_appNW 26 ty 5 i0 (.int .u8 0) 1 1 Tryd.underlying26 hi hz0 hz1 hz2 rfl (by decide) w v l.length (l.map (Value.int .u8)) hown' ad n c (m.map (Value.int .u8)) (by simp [hn]) hm (oneCell_bytes m) (by unfold maxLen; omega) (by omega)
  refine ⟨v', w', h1, ?_, h3⟩
  unfold Owns OwnsG
  rw [List.map_append, List.length_append, List.length_map, List.length_map, hn]
  exact h2
theorem step_appW {ops : Array Oper} {o : Oper} {a : Act} {w : World} {K : Act → World → Prop} {Q : Exit → Act → World → Prop} {E : Prop} (hg : o.guard = none) (s x : Operand)
    (hop : o.op = .call { callee := .builtin .append, args := #[s, x], argTypes := #[26, 26] }) (v : Value) (l m : List Int) (hs : a.eval s = v) (hown : Owns w v l)
    (ad : Addr) (n c : Nat) (hx : a.eval x = .slice (some ad) n c) (hn : m.length = n) (hm : ∀ j u, (m.map (Value.int .u8))[j]? = some u → w.cell? (ad.add j) = some u) (hlen : l.length + n ≤ 140737488355328)
    (hK : ∀ v' w', Owns w' v' (l ++ m) → Went w w' v v' → K (a.put o.dst v') w') :
    if Region.wanted o (yielded ops a.tmps) = true then Oper.wp Tryd.prog o a w K Q else E := by
  have hw : Region.wanted o (yielded ops a.tmps) = true := by simp [Region.wanted, hg]
  rw [if_pos hw]
  obtain ⟨v', w', hrun, r1, r2⟩ := run_appW o.type w v l m hown ad n c hn hm hlen
  unfold Oper.wp
  simp [execOp, hop, resolve, invoke, builtin, hs, hx, hrun, Result.andThen]
  exact hK v' w' r1 r2
/-- The bytes that were told keep their mark while one is laid behind them. -/
theorem all_after {wr w1 w2 : World} {b g g' : Value} {m : List Int} {z : Int} (h : AllAt wr b z) (h1 : Away [] wr w1) (hg : Went w1 w2 g g') (hown : Owns w2 g' (m ++ [z])) (hz : ∀ i, i < m.length → m[i]? = some z) (hl : ∀ n, (∃ a c, b = .slice a n c) → n ≤ m.length) : AllAt w2 b z := by
  have h' := h.away h1 (by simp)
  rcases hg with ⟨h2, h3⟩ | ⟨_, h3⟩
  · by_cases hs : ∃ k, b.ownBlock = some k ∧ g'.ownBlock = some k
    · obtain ⟨k, hk1, hk2⟩ := hs
      obtain ⟨a, n, c, rfl, hn, hc⟩ := h'
      refine ⟨a, n, c, rfl, hn, ?_⟩
      rcases hc with hc | ⟨bb, rfl, hc⟩
      · exact .inl hc
      · right
        refine ⟨bb, rfl, fun i hi => ?_⟩
        obtain rfl : bb = k := by simpa [Value.ownBlock] using hk1
        rcases hown.2 with ⟨rfl, _⟩ | ⟨gg, cap, cur, rfl, _⟩
        · simp [Value.ownBlock] at hk2
        · obtain rfl : gg = bb := by simpa [Value.ownBlock] using hk2
          have hi' : i < m.length := by have := hl n ⟨_, _, rfl⟩; omega
          rw [(Owns.cells hown i (by simp; omega)).1, List.getElem?_append_left hi', hz i hi']; rfl
    · have hA : Away g.ownBlock.toList w1 w2 := (Away.refl _ w1).grown h3 (fun k hk => .inl (by simp [hk]))
      refine h'.away hA (fun k hk hm => hs ⟨k, hk, ?_⟩)
      rw [h2]; simpa using hm
  · exact h'.away ((Away.refl [] w1).grown h3 (by simp)) (by simp)
end Go.Proofs.YtkfbhofbajejiaaDoor
