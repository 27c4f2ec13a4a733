/-
  What the tail of Ip6Memory carries: the lists, the lengths.
-/
import Derived.Test.YtbmppdihceaacaaLotsI
import Derived.Test.YtbmppdihceaacaaAlive
namespace Go.Proofs.Ytbmppdihceaacaa
open Go.ChangeShapes Go.WideShapes Go.ChangeAt Go.RowKit Go.Deep Num
set_option linter.unusedVariables false
/-- Where lists lie: one behind the other. -/
def Lev : List (Value × List Int) → Nat → Prop
  | [], _ => True
  | p :: r, n => ∃ a m, n ≤ a ∧ (∀ k, p.1.ownBlock = some k → a ≤ k ∧ k < m) ∧ a ≤ m ∧ Lev r m
theorem Lev.ge : ∀ {P : List (Value × List Int)} {n : Nat}, Lev P n → ∀ (j : Nat) (p : Value × List Int) (k : Nat), P[j]? = some p → p.1.ownBlock = some k → n ≤ k
  | [], _, _, j, p, k, hp, _ => by simp at hp
  | x :: r, n, ⟨a, m, h1, h2, h3, h4⟩, 0, p, k, hp, hk => by
    simp at hp; subst hp
    have := h2 k hk; omega
  | x :: r, n, ⟨a, m, h1, h2, h3, h4⟩, j + 1, p, k, hp, hk => by
    have := Lev.ge h4 j p k (by simpa using hp) hk; omega
theorem Lev.lt : ∀ {P : List (Value × List Int)} {n : Nat}, Lev P n → ∀ (i j : Nat) (p q : Value × List Int) (b c : Nat), i < j → P[i]? = some p → P[j]? = some q → p.1.ownBlock = some b → q.1.ownBlock = some c → b < c
  | [], _, _, i, j, p, q, b, c, _, hp, _, _, _ => by simp at hp
  | x :: r, n, ⟨a, m, h1, h2, h3, h4⟩, 0, j + 1, p, q, b, c, hij, hp, hq, hb, hc => by
    simp at hp; subst hp
    have h5 := h2 b hb
    have h6 := Lev.ge h4 j q c (by simpa using hq) hc
    omega
  | x :: r, n, ⟨a, m, h1, h2, h3, h4⟩, i + 1, j + 1, p, q, b, c, hij, hp, hq, hb, hc => Lev.lt h4 i j p q b c (by omega) (by simpa using hp) (by simpa using hq) hb hc
  | x :: r, n, _, i, 0, p, q, b, c, hij, _, _, _, _ => by omega
theorem Lev.apart {P : List (Value × List Int)} {n : Nat} (h : Lev P n) (i j : Nat) (p q : Value × List Int) (b : Nat) (hij : i ≠ j) (hp : P[i]? = some p) (hq : P[j]? = some q) (hb : p.1.ownBlock = some b) : q.1.ownBlock ≠ some b := fun hc => by
  rcases Nat.lt_or_gt_of_ne hij with h1 | h1
  · have := h.lt i j p q b b h1 hp hq hb hc; omega
  · have := h.lt j i q p b b h1 hq hp hc hb; omega
def OwnsAll (w : World) (g : Nat) : List (Value × List Int) → Prop
  | [] => True
  | p :: r => (Owns w p.1 p.2 ∧ p.1.ownBlock ≠ some g) ∧ OwnsAll w g r
theorem OwnsAll.get {w : World} {g : Nat} : ∀ {P : List (Value × List Int)}, OwnsAll w g P → ∀ (j : Nat) (p : Value × List Int), P[j]? = some p → Owns w p.1 p.2 ∧ p.1.ownBlock ≠ some g
  | [], _, j, p, hp => by simp at hp
  | x :: r, h, 0, p, hp => by simp at hp; subst hp; exact h.1
  | x :: r, h, j + 1, p, hp => OwnsAll.get h.2 j p (by simpa using hp)
/-- The blocks of lists. -/
def blks (P : List (Value × List Int)) : List Nat := P.filterMap (·.1.ownBlock)
theorem blks_mem {P : List (Value × List Int)} {j k : Nat} {p : Value × List Int} (hp : P[j]? = some p) (hk : p.1.ownBlock = some k) : k ∈ blks P :=
  List.mem_filterMap.2 ⟨p, List.mem_of_getElem? hp, hk⟩
/-- All that lies in the lists, or was made since N. -/
def Far (N : Nat) (P : List (Value × List Int)) : Prop := ∀ (j : Nat) (p : Value × List Int) (k : Nat), P[j]? = some p → p.1.ownBlock = some k → N ≤ k
theorem Far.set {N i : Nat} {P : List (Value × List Int)} {v : Value} {l : List Int} (h : Far N P) (hv : ∀ k, v.ownBlock = some k → N ≤ k) : Far N (P.set i (v, l)) := fun j p k hp hk => by
  rcases set_cases hp with ⟨rfl, rfl, _⟩ | ⟨_, hp⟩
  · exact hv k hk
  · exact h j p k hp hk
theorem Lots.slc {w : World} {gv j : Nat} {v : Value} {l : List Int} {P : List (Value × List Int)} (h : Lots w gv P) (hp : P[j]? = some (v, l)) : ∃ a c, v = .slice a l.length c ∧ (l ≠ [] → ∃ g, a = some ⟨g, 0, none⟩) := by
  have ho := (h.own j _ hp).1
  by_cases hl : l = []
  · obtain ⟨a, c, hv, _⟩ := ho.slc; exact ⟨a, c, hv, fun e => absurd hl e⟩
  · obtain ⟨g, c, hv, _⟩ := ho.block hl; exact ⟨_, c, hv, fun _ => ⟨g, rfl⟩⟩
structure St (W wr : World) (gk : Nat) (P : List (Value × List Int)) (lv : Value) (ll : List Int) : Prop where
  aw : Away [] W wr
  lots : Lots wr gk P
  far : Far W.heap.size P
  gB : W.heap.size ≤ gk
  own : OwnsI wr lv ll
  new : ∀ k, lv.ownBlock = some k → W.heap.size ≤ k ∧ k ≠ gk ∧ (∀ (j : Nat) (p : Value × List Int), P[j]? = some p → p.1.ownBlock ≠ some k)
theorem St.mark {W wr : World} {gk b n c i : Nat} {P : List (Value × List Int)} {lv : Value} {ll l : List Int} (h : St W wr gk P lv ll) (hp : P[i]? = some (.slice (some ⟨b, 0, none⟩) n c, l)) (hn : l.length = n) (k : Nat) (u : Int) :
    St W (wr.setCell ⟨b, k, none⟩ (.int .u8 u)) gk (P.set i (.slice (some ⟨b, 0, none⟩) n c, l.set k u)) lv ll := by
  have hb : (Value.slice (some ⟨b, 0, none⟩) n c).ownBlock = some b := rfl
  refine ⟨h.aw.setCell (.inr (h.far i _ b hp hb)) _, h.lots.mark hp hn k u, h.far.set (fun k hk => h.far i _ k hp hk), h.gB, h.own.away (away_put k _) (fun z hz => by simp; intro e; exact (h.new z hz).2.2 i _ hp (by rw [e]; exact hb)), fun z hz => ⟨(h.new z hz).1, (h.new z hz).2.1, fun j p hj => ?_⟩⟩
  rcases set_cases hj with ⟨rfl, rfl, _⟩ | ⟨_, hj⟩
  · exact (h.new z hz).2.2 i (.slice (some ⟨b, 0, none⟩) n c, l) hp
  · exact (h.new z hz).2.2 j p hj
theorem St.long {W wr w' : World} {gk : Nat} {P : List (Value × List Int)} {lv lv' : Value} {ll ll' : List Int} {o : Obj} (h : St W wr gk P lv ll) (r1 : OwnsI w' lv' ll') (r2 : (wr.alloc o).grownBy w' lv.ownBlock) (r3 : Moved (wr.alloc o) lv lv') : St W w' gk P lv' ll' := by
  have hA := (Away.refl [] wr).alloc o
  have hg := lt_of_block h.lots.blk
  have hsz := h.aw.size
  refine ⟨(h.aw.alloc o).grown r2 (fun k hk => .inr (h.new k hk).1), (h.lots.on hA).long r2 (fun e => (h.new gk e).2.1 rfl) (fun j p hp b hb e => (h.new b e).2.2 j p hp hb), h.far, h.gB, r1, fun k hk => ?_⟩
  rcases r3 k hk with e | e
  · exact h.new k e
  · have e' : wr.heap.size + 1 ≤ k := by simpa using e
    refine ⟨by omega, by omega, fun j p hp hb => ?_⟩
    have := (h.lots.own j p hp).1.lt k hb
    omega
theorem St.grow {W wr w' : World} {gk i : Nat} {P : List (Value × List Int)} {lv v v' : Value} {ll l l' : List Int} {o : Obj} (h : St W wr gk P lv ll) (hp : P[i]? = some (v, l)) (r1 : Owns w' v' l') (r2 : (wr.alloc o).grownBy w' v.ownBlock) (r3 : Moved (wr.alloc o) v v') :
    St W (w'.setCell ⟨gk, i, none⟩ v') gk (P.set i (v', l')) lv ll := by
  have hA := (Away.refl [] wr).alloc o
  have hg := lt_of_block h.lots.blk
  have hsz := h.aw.size
  have hw1 : Away v.ownBlock.toList (wr.alloc o) w' := (Away.refl _ _).grown r2 (fun k hk => .inl (by simp [hk]))
  refine ⟨((h.aw.alloc o).grown r2 (fun k hk => .inr (h.far i _ k hp hk))).setCell (.inr h.gB) _, (h.lots.on hA).grow hp r1 r2 r3, h.far.set (fun k hk => ?_), h.gB,
    ((h.own.on hA).away hw1 (fun z hz hm => (h.new z hz).2.2 i _ hp (by simpa using hm))).away (away_put i _) (fun z hz => by simp; exact (h.new z hz).2.1), fun z hz => ⟨(h.new z hz).1, (h.new z hz).2.1, fun j p hj hb => ?_⟩⟩
  · rcases r3 k hk with e | e
    · exact h.far i _ k hp e
    · have e' : wr.heap.size + 1 ≤ k := by simpa using e
      omega
  · rcases set_cases hj with ⟨rfl, rfl, _⟩ | ⟨_, hj⟩
    · rcases r3 z hb with e | e
      · exact (h.new z hz).2.2 i _ hp e
      · have e' : wr.heap.size + 1 ≤ z := by simpa using e
        have := h.own.lt z hz
        omega
    · exact (h.new z hz).2.2 j p hj hb
theorem OwnsI.block {w : World} {v : Value} {l : List Int} (h : OwnsI w v l) (hl : l ≠ []) : ∃ g c, v = .slice (some ⟨g, 0, none⟩) l.length c := by
  obtain ⟨h1, h2⟩ := h
  rcases h2 with ⟨rfl, h3⟩ | ⟨g, cap, cur, rfl, _⟩
  · exact absurd (by simpa using h3) hl
  · exact ⟨g, cap, by simp⟩
theorem OwnsI.cell {w : World} {g n c : Nat} {l : List Int} (h : OwnsI w (.slice (some ⟨g, 0, none⟩) n c) l) (i : Nat) (hi : i < l.length) : w.cell? ⟨g, i, none⟩ = some (.int .i64 (l[i]?.getD 0)) := by
  have := (OwnsG.cells h i (by simpa using hi)).1
  rw [this]; simp [hi]
theorem perm_apart {P Q : List (Value × List Int)} {n : Nat} (h : Lev Q n) (f : Nat → Nat) (hf : ∀ (j : Nat) (p : Value × List Int), P[j]? = some p → Q[f j]? = some p) (hi : ∀ i j, i < P.length → j < P.length → i ≠ j → f i ≠ f j) :
    ∀ (i j : Nat) (p q : Value × List Int) (b : Nat), i ≠ j → P[i]? = some p → P[j]? = some q → p.1.ownBlock = some b → q.1.ownBlock ≠ some b := fun i j p q b hij hp hq hb => by
  have l1 : i < P.length := (List.getElem?_eq_some_iff.1 hp).1
  have l2 : j < P.length := (List.getElem?_eq_some_iff.1 hq).1
  exact h.apart (f i) (f j) p q b (hi i j l1 l2 hij) (hf i p hp) (hf j q hq) hb
#print axioms St.grow
end Go.Proofs.Ytbmppdihceaacaa
