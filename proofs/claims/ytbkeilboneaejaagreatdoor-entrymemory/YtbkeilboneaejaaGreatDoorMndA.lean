/-
  mended, with its version and its data.
-/
import Derived.Test.YtbkeilboneaejaaGreatDoorCutF
import Derived.Deep.CutBlock
import Derived.Deep.DeepCutAuto
namespace Go.Proofs.YtbkeilboneaejaaGreatDoor
open Go.ChangeShapes Go.WideShapes Go.ChangeAt Go.RowKit Num
set_option linter.unusedVariables false
set_option maxHeartbeats 4000000
set_option maxRecDepth 100000

theorem and255 (n : Int) : 0 ≤ bits .and .i64 n 255 ∧ bits .and .i64 n 255 ≤ 255 := by
  have h : (BitVec.ofInt 64 255).toNat = 255 := by decide
  have key : (BitVec.ofInt 64 n &&& BitVec.ofInt 64 255).toNat ≤ 255 := by rw [BitVec.toNat_and, h]; exact Nat.and_le_right
  have e : bits .and .i64 n 255 = IntKind.i64.wrap ((BitVec.ofInt 64 n &&& BitVec.ofInt 64 255).toNat : Nat) := rfl
  rw [e, IntKind.wrap_i64]
  generalize (BitVec.ofInt 64 n &&& BitVec.ofInt 64 255).toNat = m at *
  omega
theorem andid (n : Int) (h0 : 0 ≤ n) (h1 : n ≤ 4294967295) : 0 ≤ bits .and .u32 n 65535 ∧ bits .and .u32 n 65535 ≤ 65535 := by
  rw [u32_and _ _ h0 (by omega) (by omega) (by omega)]
  have : n.toNat &&& (65535 : Int).toNat ≤ 65535 := Nat.and_le_right
  omega
theorem andF (n : Int) : 0 ≤ bits .and .i64 n 1048575 ∧ bits .and .i64 n 1048575 ≤ 1048575 := by
  have h : (BitVec.ofInt 64 1048575).toNat = 1048575 := by decide
  have key : (BitVec.ofInt 64 n &&& BitVec.ofInt 64 1048575).toNat ≤ 1048575 := by rw [BitVec.toNat_and, h]; exact Nat.and_le_right
  have e : bits .and .i64 n 1048575 = IntKind.i64.wrap ((BitVec.ofInt 64 n &&& BitVec.ofInt 64 1048575).toNat : Nat) := rfl
  rw [e, IntKind.wrap_i64]
  generalize (BitVec.ofInt 64 n &&& BitVec.ofInt 64 1048575).toNat = m at *
  omega
theorem csP_sb {p : Pk} (ov dv : Value) (i : Nat) (hi : i < p.sb.length) (x : Int) : (csP p ov dv).setIfInBounds (4 + i) (.int .u8 x) = csP { p with sb := p.sb.set i x } ov dv := by
  apply Array.ext'
  rw [Array.toList_setIfInBounds]
  show (listP p ov dv).set (4 + i) (.int .u8 x) = listP { p with sb := p.sb.set i x } ov dv
  unfold listP cellsA
  simp only [List.cons_append]
  rw [show 4 + i = i + 1 + 1 + 1 + 1 from by omega, List.set_cons_succ, List.set_cons_succ, List.set_cons_succ, List.set_cons_succ, List.set_append_left _ _ (by simpa using hi), List.map_set]
theorem csP_db {p : Pk} (ha : p.sb.length = 16) (ov dv : Value) (i : Nat) (hi : i < p.db.length) (x : Int) : (csP p ov dv).setIfInBounds (21 + i) (.int .u8 x) = csP { p with db := p.db.set i x } ov dv := by
  apply Array.ext'
  rw [Array.toList_setIfInBounds]
  show (listP p ov dv).set (21 + i) (.int .u8 x) = listP { p with db := p.db.set i x } ov dv
  unfold listP cellsA
  simp only [List.cons_append]
  rw [show 21 + i = i + 1 + 16 + 1 + 1 + 1 + 1 from by omega, List.set_cons_succ, List.set_cons_succ, List.set_cons_succ, List.set_cons_succ, List.set_append_right _ _ (by simp [ha]), show i + 1 + 16 - (List.map (Value.int .u8) p.sb).length = i + 1 from by simp [ha], List.set_cons_succ, List.set_append_left _ _ (by simpa using hi), List.map_set]
/-- The first k bytes of l, and noughts. -/
def stB (l : List Int) (k : Nat) : List Int := l.take k ++ z16.drop k
theorem stB_len {l : List Int} (h : l.length = 16) (k : Nat) : (stB l k).length = 16 := by
  simp [stB, z16, h]; omega
theorem stB_set {l : List Int} (h : l.length = 16) {k : Nat} (hk : k < 16) {x : Int} (hx : l[k]? = some x) : (stB l k).set k x = stB l (k + 1) := by
  unfold stB
  rw [List.set_append_right _ _ (by simp; omega), show k - (l.take k).length = 0 from by simp; omega]
  have : z16.drop k = 0 :: z16.drop (k + 1) := (show ∀ k, k < 16 → z16.drop k = 0 :: z16.drop (k + 1) by decide) k hk
  rw [this, List.set_cons_zero]
  have hlt : k < l.length := by omega
  rw [List.take_succ_eq_append_getElem hlt]
  have : l[k] = x := by rw [List.getElem?_eq_getElem hlt] at hx; simpa using hx
  rw [this, List.append_assoc]; rfl

/-- mended at work: the packet that came, the answer's place, and the packet that is being made. -/
structure MS (w0 w : World) (g1 g2 g3 : Nat) (p q : Pk) (ov dv ou : Value) : Prop where
  b1 : BoxP w g1 p ov dv
  b2 : BoxP w g2 zeroPk (.slice none 0 0) (.slice none 0 0)
  b3 : BoxP w g3 q ou (.slice none 0 0)
  aw : Away [] w0 w
  ad : Ad q
  n2 : w0.heap.size ≤ g2
  n3 : w0.heap.size ≤ g3
  e1 : g1 ≠ g2
  e2 : g1 ≠ g3
  e3 : g2 ≠ g3
  oo : Owns w ou q.o
  no : New w0.heap.size ou
  o1 : ∀ k, ou.ownBlock = some k → k ≠ g1 ∧ k ≠ g2 ∧ k ≠ g3
theorem MS.put {w0 w : World} {g1 g2 g3 : Nat} {p q q' : Pk} {ov dv ou : Value} (h : MS w0 w g1 g2 g3 p q ov dv ou) (i : Nat) (x : Value) (hx : (csP q ou (.slice none 0 0)).setIfInBounds i x = csP q' ou (.slice none 0 0)) (hq : Ad q') (ho : q'.o = q.o) :
    MS w0 (w.setCell ⟨g3, i, none⟩ x) g1 g2 g3 p q' ov dv ou :=
  ⟨h.b1.away (away_put i x) (by simp; exact h.e2), h.b2.away (away_put i x) (by simp; exact h.e3), h.b3.put i x hx, h.aw.setCell (.inr h.n3) _, hq, h.n2, h.n3, h.e1, h.e2, h.e3, by rw [ho]; exact h.oo.away (away_put (g := g3) i x) (fun k hk => by simpa using (h.o1 k hk).2.2), h.no, h.o1⟩
theorem MS.on {w0 w w' : World} {g1 g2 g3 : Nat} {p q : Pk} {ov dv ou : Value} (h : MS w0 w g1 g2 g3 p q ov dv ou) (hw : Away [] w w') : MS w0 w' g1 g2 g3 p q ov dv ou :=
  ⟨h.b1.on hw, h.b2.on hw, h.b3.on hw, h.aw.next hw (by simp), h.ad, h.n2, h.n3, h.e1, h.e2, h.e3, h.oo.away hw (by simp), h.no, h.o1⟩
theorem MS.cells1 {w0 w : World} {g1 g2 g3 : Nat} {p q : Pk} {ov dv ou : Value} (h : MS w0 w g1 g2 g3 p q ov dv ou) (ha : Ad p) : Cells w g1 p ov dv := h.b1.cells ha
theorem MS.sby {w0 w : World} {g1 g2 g3 : Nat} {p q : Pk} {ov dv ou : Value} (h : MS w0 w g1 g2 g3 p q ov dv ou) (ha : Ad p) (k : Nat) (hk : k < 4) (hs : q.sb = stB p.sb k) :
    ∃ x, w.cell? ⟨g1, 4 + k, none⟩ = some (.int .u8 x) ∧ w.cell? ⟨g3, 4 + k, none⟩ = some (.int .u8 0) ∧ w.frozen? ⟨g3, 4 + k, none⟩ = false ∧ MS w0 (w.setCell ⟨g3, 4 + k, none⟩ (.int .u8 x)) g1 g2 g3 p { q with sb := stB p.sb (k + 1) } ov dv ou := by
  have hlt : k < p.sb.length := by rw [ha.1]; omega
  have hx : p.sb[k]? = some p.sb[k] := List.getElem?_eq_getElem hlt
  have hz : q.sb[k]? = some 0 := by
    rw [hs]; unfold stB
    rw [List.getElem?_append_right (by simp; omega), show k - (p.sb.take k).length = 0 from by simp; omega]
    exact (show ∀ k, k < 16 → (z16.drop k)[0]? = some 0 by decide) k (by omega)
  refine ⟨p.sb[k], range_cell h.b1.srow k _ hx, range_cell h.b3.srow k _ hz, h.b3.free _, h.put _ _ ?_ ⟨stB_len ha.1 _, h.ad.2⟩ rfl⟩
  rw [csP_sb _ _ k (by rw [h.ad.1]; omega), hs, stB_set ha.1 (by omega) hx]
theorem MS.dby {w0 w : World} {g1 g2 g3 : Nat} {p q : Pk} {ov dv ou : Value} (h : MS w0 w g1 g2 g3 p q ov dv ou) (ha : Ad p) (k : Nat) (hk : k < 4) (hs : q.db = stB p.db k) :
    ∃ x, w.cell? ⟨g1, 21 + k, none⟩ = some (.int .u8 x) ∧ w.cell? ⟨g3, 21 + k, none⟩ = some (.int .u8 0) ∧ w.frozen? ⟨g3, 21 + k, none⟩ = false ∧ MS w0 (w.setCell ⟨g3, 21 + k, none⟩ (.int .u8 x)) g1 g2 g3 p { q with db := stB p.db (k + 1) } ov dv ou := by
  have hlt : k < p.db.length := by rw [ha.2]; omega
  have hx : p.db[k]? = some p.db[k] := List.getElem?_eq_getElem hlt
  have hz : q.db[k]? = some 0 := by
    rw [hs]; unfold stB
    rw [List.getElem?_append_right (by simp; omega), show k - (p.db.take k).length = 0 from by simp; omega]
    exact (show ∀ k, k < 16 → (z16.drop k)[0]? = some 0 by decide) k (by omega)
  refine ⟨p.db[k], range_cell (h.b1.drow ha) k _ hx, range_cell (h.b3.drow h.ad) k _ hz, h.b3.free _, h.put _ _ ?_ ⟨h.ad.1, stB_len ha.2 _⟩ rfl⟩
  rw [csP_db h.ad.1 _ _ k (by rw [h.ad.2]; omega), hs, stB_set ha.2 (by omega) hx]

theorem MS.seto {w0 w : World} {g1 g2 g3 : Nat} {p q : Pk} {ov dv ou v : Value} {l : List Int} (h : MS w0 w g1 g2 g3 p q ov dv ou) (hown : Owns w v l) (hnew : ∀ k, v.ownBlock = some k → k ≠ g1 ∧ k ≠ g2 ∧ k ≠ g3 ∧ w0.heap.size ≤ k) :
    MS w0 (w.setCell ⟨g3, 44, none⟩ v) g1 g2 g3 p { q with o := l } ov dv v :=
  ⟨h.b1.away (away_put _ _) (by simp; exact h.e2), h.b2.away (away_put _ _) (by simp; exact h.e3), h.b3.put 44 v ((csP_set h.ad _ _).2.2.2.2.2.2.2.2.2.2.2.2.1 l v), h.aw.setCell (.inr h.n3) _, h.ad, h.n2, h.n3, h.e1, h.e2, h.e3, hown.away (away_put (g := g3) 44 v) (fun k hk => by simpa using (hnew k hk).2.2.1), fun k hk => (hnew k hk).2.2.2, fun k hk => ⟨(hnew k hk).1, (hnew k hk).2.1, (hnew k hk).2.2.1⟩⟩
theorem away_cells : ∀ (vs : List Value) (w : World) (g o : Nat), Away [g] w (w.setCells g o vs)
  | [], w, g, o => Away.refl _ _
  | v :: r, w, g, o => (away_put o v).trans (away_cells r _ g (o + 1))
theorem BoxP.sbs {g : Nat} {ov dv : Value} : ∀ (r : List Int) (k : Nat) (w : World) (q : Pk), k + r.length = 16 → Ad q → BoxP w g q ov dv → BoxP (w.setCells g (4 + k) (r.map (Value.int .u8))) g { q with sb := q.sb.take k ++ r } ov dv
  | [], k, w, q, hk, ha, h => by
    simp at hk; subst hk
    have : q.sb.take 16 ++ [] = q.sb := by rw [List.append_nil, List.take_of_length_le (by rw [ha.1]; omega)]
    rw [this]; exact h
  | x :: r, k, w, q, hk, ha, h => by
    simp only [List.length_cons] at hk
    have h1 := h.put (4 + k) (.int .u8 x) (csP_sb ov dv k (by rw [ha.1]; omega) x)
    have h2 := BoxP.sbs r (k + 1) _ { q with sb := q.sb.set k x } (by omega) ⟨by simp [ha.1], ha.2⟩ h1
    have e : ({ q with sb := q.sb.set k x } : Pk).sb.take (k + 1) ++ r = q.sb.take k ++ (x :: r) := by
      show (q.sb.set k x).take (k + 1) ++ r = _
      rw [List.take_succ_eq_append_getElem (by rw [List.length_set, ha.1]; omega), List.getElem_set_self, List.take_set_of_le (Nat.le_refl _), List.append_assoc]; rfl
    rw [e] at h2
    exact h2
theorem BoxP.dbs {g : Nat} {ov dv : Value} : ∀ (r : List Int) (k : Nat) (w : World) (q : Pk), k + r.length = 16 → Ad q → BoxP w g q ov dv → BoxP (w.setCells g (21 + k) (r.map (Value.int .u8))) g { q with db := q.db.take k ++ r } ov dv
  | [], k, w, q, hk, ha, h => by
    simp at hk; subst hk
    have : q.db.take 16 ++ [] = q.db := by rw [List.append_nil, List.take_of_length_le (by rw [ha.2]; omega)]
    rw [this]; exact h
  | x :: r, k, w, q, hk, ha, h => by
    simp only [List.length_cons] at hk
    have h1 := h.put (21 + k) (.int .u8 x) (csP_db ha.1 ov dv k (by rw [ha.2]; omega) x)
    have h2 := BoxP.dbs r (k + 1) _ { q with db := q.db.set k x } (by omega) ⟨ha.1, by simp [ha.2]⟩ h1
    have e : ({ q with db := q.db.set k x } : Pk).db.take (k + 1) ++ r = q.db.take k ++ (x :: r) := by
      show (q.db.set k x).take (k + 1) ++ r = _
      rw [List.take_succ_eq_append_getElem (by rw [List.length_set, ha.2]; omega), List.getElem_set_self, List.take_set_of_le (Nat.le_refl _), List.append_assoc]; rfl
    rw [e] at h2
    exact h2
theorem MS.sball {w0 w : World} {g1 g2 g3 : Nat} {p q : Pk} {ov dv ou : Value} (h : MS w0 w g1 g2 g3 p q ov dv ou) (l : List Int) (hl : l.length = 16) :
    MS w0 (w.setCells g3 4 (l.map (Value.int .u8))) g1 g2 g3 p { q with sb := l } ov dv ou := by
  have hA := away_cells (l.map (Value.int .u8)) w g3 4
  exact ⟨h.b1.away hA (by simp; exact h.e2), h.b2.away hA (by simp; exact h.e3), by simpa using BoxP.sbs l 0 w q (by omega) h.ad h.b3, h.aw.next hA (fun x hx => .inr (by simp at hx; have := h.n3; omega)), ⟨hl, h.ad.2⟩, h.n2, h.n3, h.e1, h.e2, h.e3, h.oo.away hA (fun k hk => by simpa using (h.o1 k hk).2.2), h.no, h.o1⟩
theorem MS.dball {w0 w : World} {g1 g2 g3 : Nat} {p q : Pk} {ov dv ou : Value} (h : MS w0 w g1 g2 g3 p q ov dv ou) (l : List Int) (hl : l.length = 16) :
    MS w0 (w.setCells g3 21 (l.map (Value.int .u8))) g1 g2 g3 p { q with db := l } ov dv ou := by
  have hA := away_cells (l.map (Value.int .u8)) w g3 21
  exact ⟨h.b1.away hA (by simp; exact h.e2), h.b2.away hA (by simp; exact h.e3), by simpa using BoxP.dbs l 0 w q (by omega) h.ad h.b3, h.aw.next hA (fun x hx => .inr (by simp at hx; have := h.n3; omega)), ⟨h.ad.1, hl⟩, h.n2, h.n3, h.e1, h.e2, h.e3, h.oo.away hA (fun k hk => by simpa using (h.o1 k hk).2.2), h.no, h.o1⟩
theorem BoxP.there {w : World} {g : Nat} {p : Pk} {ov dv : Value} (h : BoxP w g p ov dv) (ha : Ad p) (o : Nat) (ho : o + 16 ≤ 46) : w.there g o 16 := fun j hj => by
  refine ⟨?_, h.free _⟩
  rw [cell_of_block h]
  rw [Array.getElem?_eq_getElem (by rw [csP_size ha]; omega)]; rfl
theorem BoxP.sb22 {w : World} {g : Nat} {p : Pk} {ov dv : Value} (h : BoxP w g p ov dv) : w.rangeAt g 4 (p.sb.map (Value.int .u8)) := fun j v hj => by
  have := h.srow (j + 1) v (by simpa [cellsA] using hj)
  rw [← this]; congr 2; omega
theorem BoxP.db22 {w : World} {g : Nat} {p : Pk} {ov dv : Value} (h : BoxP w g p ov dv) (ha : Ad p) : w.rangeAt g 21 (p.db.map (Value.int .u8)) := fun j v hj => by
  have := h.drow ha (j + 1) v (by simpa [cellsA] using hj)
  rw [← this]; congr 2; omega
theorem info22s : (Tryz.prog.info? 22).map (·.size) = some 16 := by kernel_rfl
/-- A packet that wants its data alone. -/
def Half (q : Pk) (M : Int) : Prop := 0 ≤ M ∧ M ≤ 65535 ∧ (q.v = 4 ∨ q.v = 6) ∧ ∀ l : List Int, Bytes l → (l.length : Int) ≤ M → Unc { q with sv := q.v, dv := q.v, d := l } ∧ Wf { q with sv := q.v, dv := q.v, d := l }
theorem half6 {p : Pk} (hp : Wf p) {T F R L : Int} (hT : 0 ≤ T ∧ T ≤ 255) (hF : 0 ≤ F ∧ F ≤ 1048575) (hR : 0 ≤ R ∧ R ≤ 255) (hR' : R ≠ 44) (hL : 0 ≤ L ∧ L ≤ 255) : Half ⟨6, T, F, 0, p.sb, 0, p.db, R, L, 0, false, false, false, 0, [], []⟩ 65535 := by
  refine ⟨by omega, by omega, .inr rfl, fun l hl hn => ⟨⟨?_, rfl, rfl, rfl⟩, ?_⟩⟩
  · refine (if_pos rfl).trans ((S6.right_iff _).2 ?_)
    exact ⟨rfl, rfl, rfl, hF.1, by show F < 1048576; omega, hT.1, hT.2, hL.1, hL.2, hR.1, hR.2, hR', rfl, rfl, by simp, by simp, by simp, fun h => by simp at h, fun h => by rcases h with h | h <;> simp at h, by show (0 : Int) + l.length ≤ 65535; omega, fun _ => ⟨rfl, rfl, rfl⟩, by show 40 - 40 + l.length ≤ 65535; omega⟩
  · exact ⟨by simp [i64ok], by show i64ok T; simp only [i64ok]; omega, by show i64ok F; simp only [i64ok]; omega, by simp [i64ok], hp.sl, hp.sb, by simp [i64ok], hp.dl, hp.db, by show i64ok R; simp only [i64ok]; omega, by show i64ok L; simp only [i64ok]; omega, by simp, by simp, by simp [i64ok], Bytes.nil, by simp, hl, by show l.length ≤ _; omega⟩
theorem half4 {p : Pk} (hp : Wf p) {T R L I : Int} (hT : 0 ≤ T ∧ T ≤ 255) (hR : 0 ≤ R ∧ R ≤ 255) (hL : 0 ≤ L ∧ L ≤ 255) (hI : 0 ≤ I ∧ I ≤ 65535) (df : Bool) (o : List Int) (ho : Bytes o) (hv : validP o = true) : Half ⟨4, T, 0, 0, stB p.sb 4, 0, stB p.db 4, R, L, I, df, false, false, 0, o, []⟩ (65515 - o.length) := by
  have h40 := valid_len hv
  have hz : Bytes (z16.drop 4) := by unfold Bytes z16; decide
  have e1 : (stB p.sb 4).drop 4 = z12 := by unfold stB; rw [List.drop_append_of_le_length (by simp [hp.sl]), List.drop_eq_nil_of_le (by simp; omega), List.nil_append]; rfl
  have e2 : (stB p.db 4).drop 4 = z12 := by unfold stB; rw [List.drop_append_of_le_length (by simp [hp.dl]), List.drop_eq_nil_of_le (by simp; omega), List.nil_append]; rfl
  refine ⟨by omega, by omega, .inl rfl, fun l hl hn => ⟨⟨?_, rfl, rfl, rfl⟩, ?_⟩⟩
  · refine (if_neg (by simp)).trans ((right_iff _).2 ⟨?_, hv⟩)
    exact ⟨rfl, rfl, rfl, hI.2, hT.1, hT.2, hL.1, hL.2, hR.1, hR.2, rfl, e1, rfl, e2, by simp, by simp, by simp, fun h => by simp at h, fun h => by simp at h, fun h => by simp at h, by show (0 : Int) + l.length ≤ 65535; omega, by show 20 + o.length + l.length ≤ 65535; omega⟩
  · exact ⟨by simp [i64ok], by show i64ok T; simp only [i64ok]; omega, by simp [i64ok], by simp [i64ok], stB_len hp.sl 4, (hp.sb.take 4).app hz, by simp [i64ok], stB_len hp.dl 4, (hp.db.take 4).app hz, by show i64ok R; simp only [i64ok]; omega, by show i64ok L; simp only [i64ok]; omega, hI.1, by show I ≤ _; omega, by simp [i64ok], ho, by show o.length ≤ _; omega, hl, by show l.length ≤ _; omega⟩
/-- What mended tells. -/
def MendOut (w : World) (E : Ending) (w' : World) : Prop := ∃ q ov dv, E = .returned (.agg (csP q ov dv)) ∧ Unc q ∧ Wf q ∧ (q.v = 4 ∨ q.v = 6) ∧ Mine w' w.heap.size q ov dv ∧ Away [] w w'
theorem Half.le {q : Pk} {M N : Int} (h : Half q M) (h0 : 0 ≤ N) (h1 : N ≤ M) : Half q N := ⟨h0, Int.le_trans h1 h.2.1, h.2.2.1, fun l hl hn => h.2.2.2 l hl (Int.le_trans hn h1)⟩
/-- What stage 14's mended tells. -/
def MendE (w : World) (E : Ending) (w' : World) : Prop := ∃ q ov dv, E = .returned (.agg (csP q ov dv)) ∧ Unc q ∧ Wf q ∧ (q.v = 4 ∨ q.v = 6) ∧ (q.o = [] ∧ q.df = false ∧ q.d.length ≤ 3000) ∧ Mine w' w.heap.size q ov dv ∧ Away [] w w'
#print axioms half4
end Go.Proofs.YtbkeilboneaejaaGreatDoor

namespace Go.Proofs.YtbkeilboneaejaaGreatDoor
open Go.ChangeShapes Go.WideShapes Go.ChangeAt Go.RowKit Num
set_option linter.unusedVariables false
set_option maxHeartbeats 4000000
set_option maxRecDepth 100000

theorem mended_c (p : Pk) (ov dv : Value) (w : World) (hp : Pkt w p ov dv) :
    Calls Tryz.prog 7 #[.agg (csP p ov dv)] w fun E w' => MendE w E w' := by
  have HAD := Lib.hid hp.wf.ad
  have HW := Lib.hid hp.wf
  have HP := Lib.hid hp
  have hol := hp.wf.ol
  have hdl := hp.wf.dn
  obtain ⟨T, hT⟩ : ∃ T, bits .and .i64 p.tos 255 = T := ⟨_, rfl⟩
  obtain ⟨R, hR⟩ : ∃ T, bits .and .i64 p.proto 255 = T := ⟨_, rfl⟩
  obtain ⟨L, hL⟩ : ∃ T, bits .and .i64 p.ttl 255 = T := ⟨_, rfl⟩
  obtain ⟨I, hI⟩ : ∃ T, bits .and .u32 p.id 65535 = T := ⟨_, rfl⟩
  obtain ⟨F, hF⟩ : ∃ T, bits .and .i64 p.flow 1048575 = T := ⟨_, rfl⟩
  obtain ⟨V, hV⟩ : ∃ T, bits .and .i64 p.v 1 = T := ⟨_, rfl⟩
  have BT := and255 p.tos; have BR := and255 p.proto; have BL := and255 p.ttl; have BI := andid p.id hp.wf.id0 hp.wf.id1; have BF := andF p.flow
  rw [hT] at BT; rw [hR] at BR; rw [hL] at BL; rw [hI] at BI; rw [hF] at BF
  obtain ⟨-, ⟨o1, o2, rfl, -⟩, ⟨o3, o4, rfl, -⟩⟩ := hp
  go_enter Tryz.func7, Tryz.ntmps7
  go_wp2_with (refine wpList_box28 rfl _ rfl p _ _ rfl ?_; refine Hid.out ?_)
  refine Lib.hid ?_
  intro g1 w1 hg1 hb1 haw1
  have HB1 := Lib.hid hb1; have HA1 := Lib.hid haw1
  have hl1 := hb1.lt
  clear hb1 haw1
  go_wp2_with (refine wpList_alloc28 rfl rfl ?_; refine Hid.out ?_)
  refine Lib.hid ?_
  intro g2 w2 hg2 hb2 haw2
  have HB2 := Lib.hid hb2
  have HB12 := Lib.hid (HB1.out.on haw2)
  have HA2 := Lib.hid (HA1.out.next haw2 (by simp))
  have hl2 := hb2.lt
  have hs1 := HA1.out.size; have hs2 := haw2.size
  clear hb2 haw2 HB1 HA1
  have cc := HB12.out.cells HAD.out
  have c1 := cc.tos; have c2 := cc.proto; have c3 := cc.ttl; have c4 := cc.id
  clear cc
  go_wp2_with (first | (refine wpList_alloc28 rfl rfl ?_; refine Hid.out ?_))
  refine Lib.hid ?_
  intro g3 w3 hg3 hb3 haw3
  have HB3 := Lib.hid hb3
  have hl3 := hb3.lt
  have hs3 := haw3.size
  have HB13 := Lib.hid (HB12.out.on haw3)
  have HB23 := Lib.hid (HB2.out.on haw3)
  have HA3 := Lib.hid (HA2.out.next haw3 (by simp))
  clear hb3 haw3 HB12 HB2 HA2 c1 c2 c3 c4
  go_wp2_with (first | (refine wpList_store28 rfl _ _ rfl _ rfl ⟨4, T, 0, 0, z16, 0, z16, R, L, I, false, false, false, 0, [], []⟩ (.slice none 0 0) (.slice none 0 0) rfl zeroPk (.slice none 0 0) (.slice none 0 0) (by exact HB3.out) ⟨rfl, rfl⟩ ⟨rfl, rfl⟩ rfl rfl ?_; refine Hid.out ?_))
  refine Lib.hid ?_
  intro w4 hb4 haw4
  have HM : Hid (MS w w4 g1 g2 g3 p ⟨4, T, 0, 0, z16, 0, z16, R, L, I, false, false, false, 0, [], []⟩ (.slice o1 p.o.length o2) (.slice o3 p.d.length o4) (.slice none 0 0)) :=
    ⟨HB13.out.away haw4 (by simp; omega), HB23.out.away haw4 (by simp; omega), hb4, HA3.out.next haw4 (fun x hx => .inr (by simp at hx; omega)), ⟨rfl, rfl⟩, by omega, by omega, by omega, by omega, by omega, Owns.nil _, New.nil _, by simp [Value.ownBlock]⟩
  clear hb4 haw4 HB13 HB23 HA3 HB3 hg1 hg2 hg3 hl1 hl2 hl3 hs1 hs2 hs3
  have cv := (HM.out.b1.cells HAD.out).v
  have HV := Lib.hid hV
  obtain ⟨b27, hb27⟩ : ∃ b, b = decide (V = 0 ∧ p.v ≠ 4) := ⟨_, rfl⟩
  go_upto_region 2 with fail
  go_cut [27] (fun v wc => v = .bool b27 ∧ wc = w4)
  case first =>
    by_cases h1 : V = 0
    · subst h1
      by_cases h2 : p.v = 4
      · have hbb : b27 = false := by rw [hb27]; simp [h2]
        clear hb27
        subst hbb
        rw [h2] at cv hV
        go_wp2_with fail
        go_meet
        exact ⟨rfl, rfl⟩
      · have hbb : b27 = true := by rw [hb27]; simp [h2]
        clear hb27
        subst hbb
        have hbv : decide (p.v = 4) = false := by simp [h2]
        go_wp2_with fail
        go_meet
        exact ⟨by simp [h2], rfl⟩
    · have hbb : b27 = false := by rw [hb27]; simp [h1]
      clear hb27
      subst hbb
      have hbv : decide (V = 0) = false := by simp [h1]
      go_wp2_with fail
      go_meet
      exact ⟨rfl, rfl⟩
  case rest =>
  obtain ⟨rfl, rfl⟩ := hcut
  clear hb27
  go_upto_if 27 with fail
  go_cut [] (fun wc => ∃ q ou, Half q 3000 ∧ q.d = [] ∧ (q.o = [] ∧ q.df = false) ∧ MS w wc g1 g2 g3 p q (.slice o1 p.o.length o2) (.slice o3 p.d.length o4) ou)
  case first =>
    cases b27
    rotate_left
    · have cc := HM.out.b1.cells HAD.out
      have c1 := cc.tos; have c2 := cc.proto; have c3 := cc.ttl; have c4 := cc.flow
      clear cc
      go_wp2_with (refine wpList_store28 rfl _ _ rfl g3 rfl ⟨6, T, F, 0, z16, 0, z16, R, L, 0, false, false, false, 0, [], []⟩ (.slice none 0 0) (.slice none 0 0) rfl ⟨4, T, 0, 0, z16, 0, z16, R, L, I, false, false, false, 0, [], []⟩ (.slice none 0 0) (.slice none 0 0) (by exact HM.out.b3) ⟨rfl, rfl⟩ ⟨rfl, rfl⟩ rfl rfl ?_; refine Hid.out ?_)
      refine Lib.hid ?_
      intro w5 hb5 haw5
      have HM5 : Hid (MS w w5 g1 g2 g3 p ⟨6, T, F, 0, z16, 0, z16, R, L, 0, false, false, false, 0, [], []⟩ (.slice o1 p.o.length o2) (.slice o3 p.d.length o4) (.slice none 0 0)) :=
        ⟨HM.out.b1.away haw5 (by simp; exact HM.out.e2), HM.out.b2.away haw5 (by simp; exact HM.out.e3), hb5, HM.out.aw.next haw5 (fun x hx => .inr (by simp at hx; have := HM.out.n3; omega)), ⟨rfl, rfl⟩, HM.out.n2, HM.out.n3, HM.out.e1, HM.out.e2, HM.out.e3, Owns.nil _, New.nil _, by simp [Value.ownBlock]⟩
      clear hb5 haw5 HM c1 c2 c3 c4 cv
      have s37 := (HM5.out.b3.cells HM5.out.ad).proto
      have t37 := HM5.out.b3.free 37
      go_upto_if 43 with fail
      go_cut [] (fun wc => ∃ R', R' ≠ 44 ∧ 0 ≤ R' ∧ R' ≤ 255 ∧ MS w wc g1 g2 g3 p ⟨6, T, F, 0, z16, 0, z16, R', L, 0, false, false, false, 0, [], []⟩ (.slice o1 p.o.length o2) (.slice o3 p.d.length o4) (.slice none 0 0))
      case first =>
        by_cases h44 : R = 44
        · subst h44
          have HM6 := Lib.hid (HM5.out.put 37 (.int .i64 45) ((csP_set HM5.out.ad _ _).2.2.2.2.2.1 45) ⟨rfl, rfl⟩ rfl)
          go_wp2_with fail
          go_meet
          exact ⟨45, by omega, by omega, by omega, HM6.out⟩
        · have hb44 : decide (R = 44) = false := by simp [h44]
          go_wp2_with fail
          go_meet
          exact ⟨R, h44, BR.1, BR.2, HM5.out⟩
      case rest =>
      obtain ⟨R', h44, r0, r1, hm6⟩ := hcut
      have HM6 := Lib.hid hm6
      clear hm6 HM5 s37 t37
      have hls : (p.sb.map (Value.int .u8)).length = 16 := by rw [List.length_map]; exact HAD.out.1
      have hld : (p.db.map (Value.int .u8)).length = 16 := by rw [List.length_map]; exact HAD.out.2
      have HLS := Lib.hid hls; have HLD := Lib.hid hld
      clear hls hld
      have HONE : Hid (∀ l : List Int, ((l.map (Value.int .u8)).toArray).all (·.oneCell') = true) := fun l => all_oneCell_toArray (fun v hv => by obtain ⟨n, _, rfl⟩ := List.mem_map.1 hv; rfl)
      go_wp2_with (first
        | (refine wpList_load_mid rfl 22 _ rfl g1 4 rfl (p.sb.map (Value.int .u8)) _ HM6.out.b1.sb22 Tryz.underlying22 rfl (by rw [HLS.out]; exact info22s) ?_)
        | (refine wpList_store_mid rfl 22 _ _ rfl g3 4 (p.sb.map (Value.int .u8)).toArray rfl rfl (by rw [List.size_toArray, HLS.out]; exact HM6.out.b3.there HM6.out.ad 4 (by omega)) (by rw [List.size_toArray, HLS.out]; exact info22s) (HONE.out _) ?_; refine Hid.out ?_))
      refine Lib.hid ?_
      have HM7 := Lib.hid (HM6.out.sball p.sb HAD.out.1)
      generalize wc.setCells g3 4 (p.sb.map (Value.int .u8)) = w7 at *
      clear HM6
      go_wp2_with (first
        | (refine wpList_load_mid rfl 22 _ rfl g1 21 rfl (p.db.map (Value.int .u8)) _ (HM7.out.b1.db22 HAD.out) Tryz.underlying22 rfl (by rw [HLD.out]; exact info22s) ?_)
        | (refine wpList_store_mid rfl 22 _ _ rfl g3 21 (p.db.map (Value.int .u8)).toArray rfl rfl (by rw [List.size_toArray, HLD.out]; exact HM7.out.b3.there HM7.out.ad 21 (by omega)) (by rw [List.size_toArray, HLD.out]; exact info22s) (HONE.out _) ?_; refine Hid.out ?_))
      refine Lib.hid ?_
      have HM8 := Lib.hid (HM7.out.dball p.db HAD.out.2)
      generalize w7.setCells g3 21 (p.db.map (Value.int .u8)) = w8 at *
      clear HM7
      go_wp2_with fail
      go_meet
      exact ⟨_, _, (half6 HW.out BT BF ⟨r0, r1⟩ h44 BL).le (by omega) (by omega), rfl, ⟨rfl, rfl⟩, HM8.out⟩
    · clear cv
      go_wp2_with fail
      go_loopw [4] (fun i wr => ∃ k : Nat, k ≤ 4 ∧ i = .int .i64 k ∧ MS w wr g1 g2 g3 p ⟨4, T, 0, 0, stB p.sb k, 0, stB p.db k, R, L, I, false, false, false, 0, [], []⟩ (.slice o1 p.o.length o2) (.slice o3 p.d.length o4) (.slice none 0 0)) (fun i _ => 4 - (intOf i).toNat)
      case atStart => exact ⟨0, by omega, rfl, HM.out⟩
      case round =>
        obtain ⟨k, hk, rfl, hm⟩ := hrel
        have HM := Lib.hid hm
        clear hm
        obtain rfl | rfl | rfl | rfl | rfl : k = 0 ∨ k = 1 ∨ k = 2 ∨ k = 3 ∨ k = 4 := by omega
        · obtain ⟨x, a1, a2, a3, hm'⟩ := HM.out.sby HAD.out 0 (by omega) rfl
          simp only [Nat.reduceAdd] at a1 a2 a3 hm'
          have HM' := Lib.hid hm'
          clear hm' HM
          go_upto_region 12 with fail
          clear a1 a2 a3
          generalize wr.setCell ⟨g3, 4, none⟩ (.int .u8 x) = wy at *
          obtain ⟨y, a1, a2, a3, hm'⟩ := HM'.out.dby HAD.out 0 (by omega) rfl
          simp only [Nat.reduceAdd] at a1 a2 a3 hm'
          have HM := Lib.hid hm'
          clear hm' HM'
          go_wp2_with fail
          go_roundw
          case rel => exact ⟨1, by omega, by rfl, HM.out⟩
          case measure => simp [intOf]
        · obtain ⟨x, a1, a2, a3, hm'⟩ := HM.out.sby HAD.out 1 (by omega) rfl
          simp only [Nat.reduceAdd] at a1 a2 a3 hm'
          have HM' := Lib.hid hm'
          clear hm' HM
          go_upto_region 12 with fail
          clear a1 a2 a3
          generalize wr.setCell ⟨g3, 5, none⟩ (.int .u8 x) = wy at *
          obtain ⟨y, a1, a2, a3, hm'⟩ := HM'.out.dby HAD.out 1 (by omega) rfl
          simp only [Nat.reduceAdd] at a1 a2 a3 hm'
          have HM := Lib.hid hm'
          clear hm' HM'
          go_wp2_with fail
          go_roundw
          case rel => exact ⟨2, by omega, by rfl, HM.out⟩
          case measure => simp [intOf]
        · obtain ⟨x, a1, a2, a3, hm'⟩ := HM.out.sby HAD.out 2 (by omega) rfl
          simp only [Nat.reduceAdd] at a1 a2 a3 hm'
          have HM' := Lib.hid hm'
          clear hm' HM
          go_upto_region 12 with fail
          clear a1 a2 a3
          generalize wr.setCell ⟨g3, 6, none⟩ (.int .u8 x) = wy at *
          obtain ⟨y, a1, a2, a3, hm'⟩ := HM'.out.dby HAD.out 2 (by omega) rfl
          simp only [Nat.reduceAdd] at a1 a2 a3 hm'
          have HM := Lib.hid hm'
          clear hm' HM'
          go_wp2_with fail
          go_roundw
          case rel => exact ⟨3, by omega, by rfl, HM.out⟩
          case measure => simp [intOf]
        · obtain ⟨x, a1, a2, a3, hm'⟩ := HM.out.sby HAD.out 3 (by omega) rfl
          simp only [Nat.reduceAdd] at a1 a2 a3 hm'
          have HM' := Lib.hid hm'
          clear hm' HM
          go_upto_region 12 with fail
          clear a1 a2 a3
          generalize wr.setCell ⟨g3, 7, none⟩ (.int .u8 x) = wy at *
          obtain ⟨y, a1, a2, a3, hm'⟩ := HM'.out.dby HAD.out 3 (by omega) rfl
          simp only [Nat.reduceAdd] at a1 a2 a3 hm'
          have HM := Lib.hid hm'
          clear hm' HM'
          go_wp2_with fail
          go_roundw
          case rel => exact ⟨4, by omega, by rfl, HM.out⟩
          case measure => simp [intOf]
        · go_wp2_with fail
          go_meet
          exact ⟨_, _, (half4 HW.out BT BR BL BI false [] Bytes.nil (by unfold validP; rw [parseP_nil]; rfl)).le (by omega) (by simp), rfl, ⟨rfl, rfl⟩, HM.out⟩
  case rest =>
    obtain ⟨q, ou, hhalf, hqd, hqo, hm⟩ := hcut
    obtain ⟨M, hMM⟩ : ∃ M : Int, M = 3000 := ⟨_, rfl⟩
    rw [← hMM] at hhalf
    have HQO := Lib.hid hqo
    clear hqo
    have HM := Lib.hid hm
    have HH := Lib.hid hhalf
    have hM := hhalf.1; have hM2 := hhalf.2.1
    clear hm hhalf
    have cs := HM.out.b3.cells HM.out.ad
    have s0 := cs.v; have s3 := cs.sv; have s20 := cs.dv'
    have t3 := HM.out.b3.free 3
    have t20 := HM.out.b3.free 20
    have HM2 := Lib.hid ((HM.out.put 3 (.int .i64 q.v) ((csP_set HM.out.ad _ _).2.2.2.1 q.v) (by exact HM.out.ad) rfl).put 20 (.int .i64 q.v) ((csP_set (by exact HM.out.ad) _ _).2.2.2.2.1 q.v) (by exact HM.out.ad) rfl)
    clear cs
    go_upto_region 15 with fail
    clear s0 s3 s20 t3 t20 HM
    generalize (wc.setCell ⟨g3, 3, none⟩ (.int .i64 q.v)).setCell ⟨g3, 20, none⟩ (.int .i64 q.v) = w5 at *
    have c45 := (HM2.out.b1.cells HAD.out).d
    obtain ⟨N, hN⟩ : ∃ N : Nat, N = if M < (p.d.length : Int) then M.toNat else p.d.length := ⟨_, rfl⟩
    have hN1 : N ≤ p.d.length ∧ (N : Int) ≤ M := by rw [hN]; split <;> omega
    go_upto_if 89 with fail
    go_cut [5] (fun v wx => v = .int .i64 (N : Int) ∧ wx = w5)
    case first =>
      by_cases h1 : M < (p.d.length : Int)
      · rw [if_pos h1] at hN
        have hN3 : (N : Int) = M := by omega
        subst hMM
        go_wp2_with fail
        go_meet
        exact ⟨by rw [hN3], rfl⟩
      · rw [if_neg h1] at hN
        subst hN
        subst hMM
        go_wp2_with fail
        go_meet
        exact ⟨rfl, rfl⟩
    case rest =>
    obtain ⟨rfl, rfl⟩ := hcut
    clear hN
    have hdd := HP.out.d.of
    have hsl := slice_h o3 p.d.length o4 N (N : Int) rfl (by omega)
    go_wp2_with fail
    refine (own_any o3 (p.d.take N) N o4 _ (by simp; omega) (by exact (hdd.2.2.2.away HM2.out.aw (by simp)).head _)).mono ?_
    rintro E w7 ⟨v7, rfl, hown7, hnew7, haw7, hby7, hln7⟩
    have hs6 := HM2.out.aw.size
    have hlt6 := HM2.out.oo.lt
    have hb1l := HM2.out.b1.lt; have hb2l := HM2.out.b2.lt; have hb3l := HM2.out.b3.lt
    have HV7 : Hid (∀ k, v7.ownBlock = some k → k ≠ g1 ∧ k ≠ g2 ∧ k ≠ g3 ∧ ou.ownBlock ≠ some k) := fun k hk => by
      have h1 := hnew7 k hk
      refine ⟨by omega, by omega, by omega, fun e => ?_⟩
      have := hlt6 k e
      omega
    have HN7 : Hid (New w.heap.size v7) := hnew7.mono hs6
    have HO7 := Lib.hid hown7
    have HM7 := Lib.hid (HM2.out.on haw7)
    have HB7 := Lib.hid hby7
    clear HM2 c45 haw7 hown7 hlt6 hnew7 hsl hdd hby7 hs6 hb1l hb2l hb3l
    obtain ⟨x1, x2, x3, rfl⟩ := HO7.out.shp
    have s45 := (HM7.out.b3.cells HM7.out.ad).d
    have t45 := HM7.out.b3.free 45
    have hA8 := away_put (w := w7) (g := g3) 45 (.slice x1 x2 x3)
    have HBQ := Lib.hid (HM7.out.b3.put 45 (.slice x1 x2 x3) ((csP_set HM7.out.ad _ _).2.2.2.2.2.2.2.2.2.2.2.2.2 (p.d.take N) (.slice x1 x2 x3)))
    have HB2 := Lib.hid (HM7.out.b2.away hA8 (by simp; exact HM7.out.e3))
    have HA8 := Lib.hid (HM7.out.aw.next hA8 (fun x hx => .inr (by simp at hx; have := HM7.out.n3; omega)))
    have HOU := Lib.hid (HM7.out.oo.away hA8 (fun k hk => by simpa using (HM7.out.o1 k hk).2.2))
    have HOD := Lib.hid (HO7.out.away hA8 (fun k hk => by simpa using (HV7.out k hk).2.2.1))
    have HX := Lib.hid (show New w.heap.size ou ∧ w.heap.size ≤ g2 ∧ (∀ k, ou.ownBlock = some k → k ≠ g2) ∧ Ad q from ⟨HM7.out.no, HM7.out.n2, fun k hk => (HM7.out.o1 k hk).2.1, HM7.out.ad⟩)
    clear hA8 HM7 HO7
    go_upto_region 19 with fail
    clear s45 t45
    generalize w7.setCell ⟨g3, 45, none⟩ (.slice x1 x2 x3) = w8 at *
    obtain ⟨hu, hwf⟩ := HH.out.2.2.2 (p.d.take N) (HW.out.d.take N) (by simp; omega)
    obtain ⟨Q, hQ⟩ : ∃ Q : Pk, Q = { q with sv := q.v, dv := q.v, d := p.d.take N } := ⟨_, rfl⟩
    have HQ := Lib.hid (show Unc Q ∧ Wf Q ∧ (Q.v = 4 ∨ Q.v = 6) ∧ (Q.o = q.o ∧ Q.d = p.d.take N) ∧ (Q.o = [] ∧ Q.df = false ∧ Q.d.length ≤ 3000) from ⟨by rw [hQ]; exact hu, by rw [hQ]; exact hwf, by rw [hQ]; exact HH.out.2.2.1, ⟨by rw [hQ], by rw [hQ]⟩, by rw [hQ]; exact ⟨HQO.out.1, HQO.out.2, by have := hN1.2; show (p.d.take N).length ≤ 3000; rw [List.length_take]; omega⟩⟩)
    replace HBQ : Hid (BoxP w8 g3 Q ou (.slice x1 x2 x3)) := by show BoxP _ _ _ _ _; rw [hQ]; exact HBQ.out
    have HQA := Lib.hid HQ.out.2.1.ad
    have HOU1 := Lib.hid HOU.out.one
    clear hQ hu hwf HH
    go_wp2_with (first
      | (refine wpList_load28 rfl _ rfl g3 rfl Q _ _ (by exact HBQ.out) HQA.out ?_)
      | (refine wpList_store28 rfl _ _ rfl g2 rfl Q ou (.slice x1 x2 x3) rfl zeroPk (.slice none 0 0) (.slice none 0 0) (by exact HB2.out) HQA.out ⟨rfl, rfl⟩ HOU1.out rfl ?_; refine Hid.out ?_))
    refine Lib.hid ?_
    intro w9 hb9 haw9
    have hx := HX.out
    have HB9 := Lib.hid hb9
    have HA9 : Hid (Away [] w w9) := HA8.out.next haw9 (fun x hx' => .inr (by simp at hx'; omega))
    have HMI : Hid (Mine w9 w.heap.size Q ou (.slice x1 x2 x3)) := ⟨by rw [HQ.out.2.2.2.1.1]; exact HOU.out.away haw9 (fun k hk => by simpa using hx.2.2.1 k hk), by rw [HQ.out.2.2.2.1.2]; exact HOD.out.away haw9 (fun k hk => by simpa using (HV7.out k hk).2.1), hx.1, HN7.out, fun k hk e => (HV7.out k e).2.2.2 hk⟩
    clear hb9 haw9
    go_wp2_with fail
    exact bodyPost_ret (result28 rfl _ _ _ _ _ _ rfl HB9.out HQA.out) rfl ⟨Q, _, _, rfl, HQ.out.1, HQ.out.2.1, HQ.out.2.2.1, HQ.out.2.2.2.2, HMI.out, HA9.out⟩
#print axioms mended_c
end Go.Proofs.YtbkeilboneaejaaGreatDoor

namespace Go.Proofs.YtbkeilboneaejaaGreatDoor
open Go.ChangeShapes Go.WideShapes Go.ChangeAt Go.RowKit Num
set_option linter.unusedVariables false
set_option maxHeartbeats 4000000
set_option maxRecDepth 100000
/-- What mended tells, with its version and its data. -/
def MendD (p : Pk) (w : World) (E : Ending) (w' : World) : Prop := ∃ q ov dv, E = .returned (.agg (csP q ov dv)) ∧ Unc q ∧ Wf q ∧ (q.v = 4 ∨ q.v = 6) ∧ (q.o = [] ∧ q.df = false ∧ q.d.length ≤ 3000) ∧ ((p.v = 4 → q.v = 4) ∧ (p.d.length ≤ 3000 → q.d.length = p.d.length)) ∧ Mine w' w.heap.size q ov dv ∧ Away [] w w'
set_option maxHeartbeats 8000000 in
theorem mended_d (p : Pk) (ov dv : Value) (w : World) (hp : Pkt w p ov dv) :
    Calls Tryz.prog 7 #[.agg (csP p ov dv)] w fun E w' => MendD p w E w' := by
  have HAD := Lib.hid hp.wf.ad
  have HW := Lib.hid hp.wf
  have HP := Lib.hid hp
  have hol := hp.wf.ol
  have hdl := hp.wf.dn
  obtain ⟨T, hT⟩ : ∃ T, bits .and .i64 p.tos 255 = T := ⟨_, rfl⟩
  obtain ⟨R, hR⟩ : ∃ T, bits .and .i64 p.proto 255 = T := ⟨_, rfl⟩
  obtain ⟨L, hL⟩ : ∃ T, bits .and .i64 p.ttl 255 = T := ⟨_, rfl⟩
  obtain ⟨I, hI⟩ : ∃ T, bits .and .u32 p.id 65535 = T := ⟨_, rfl⟩
  obtain ⟨F, hF⟩ : ∃ T, bits .and .i64 p.flow 1048575 = T := ⟨_, rfl⟩
  obtain ⟨V, hV⟩ : ∃ T, bits .and .i64 p.v 1 = T := ⟨_, rfl⟩
  have BT := and255 p.tos; have BR := and255 p.proto; have BL := and255 p.ttl; have BI := andid p.id hp.wf.id0 hp.wf.id1; have BF := andF p.flow
  rw [hT] at BT; rw [hR] at BR; rw [hL] at BL; rw [hI] at BI; rw [hF] at BF
  obtain ⟨-, ⟨o1, o2, rfl, -⟩, ⟨o3, o4, rfl, -⟩⟩ := hp
  go_enter Tryz.func7, Tryz.ntmps7
  go_wp2_with (refine wpList_box28 rfl _ rfl p _ _ rfl ?_; refine Hid.out ?_)
  refine Lib.hid ?_
  intro g1 w1 hg1 hb1 haw1
  have HB1 := Lib.hid hb1; have HA1 := Lib.hid haw1
  have hl1 := hb1.lt
  clear hb1 haw1
  go_wp2_with (refine wpList_alloc28 rfl rfl ?_; refine Hid.out ?_)
  refine Lib.hid ?_
  intro g2 w2 hg2 hb2 haw2
  have HB2 := Lib.hid hb2
  have HB12 := Lib.hid (HB1.out.on haw2)
  have HA2 := Lib.hid (HA1.out.next haw2 (by simp))
  have hl2 := hb2.lt
  have hs1 := HA1.out.size; have hs2 := haw2.size
  clear hb2 haw2 HB1 HA1
  have cc := HB12.out.cells HAD.out
  have c1 := cc.tos; have c2 := cc.proto; have c3 := cc.ttl; have c4 := cc.id
  clear cc
  go_wp2_with (first | (refine wpList_alloc28 rfl rfl ?_; refine Hid.out ?_))
  refine Lib.hid ?_
  intro g3 w3 hg3 hb3 haw3
  have HB3 := Lib.hid hb3
  have hl3 := hb3.lt
  have hs3 := haw3.size
  have HB13 := Lib.hid (HB12.out.on haw3)
  have HB23 := Lib.hid (HB2.out.on haw3)
  have HA3 := Lib.hid (HA2.out.next haw3 (by simp))
  clear hb3 haw3 HB12 HB2 HA2 c1 c2 c3 c4
  go_wp2_with (first | (refine wpList_store28 rfl _ _ rfl _ rfl ⟨4, T, 0, 0, z16, 0, z16, R, L, I, false, false, false, 0, [], []⟩ (.slice none 0 0) (.slice none 0 0) rfl zeroPk (.slice none 0 0) (.slice none 0 0) (by exact HB3.out) ⟨rfl, rfl⟩ ⟨rfl, rfl⟩ rfl rfl ?_; refine Hid.out ?_))
  refine Lib.hid ?_
  intro w4 hb4 haw4
  have HM : Hid (MS w w4 g1 g2 g3 p ⟨4, T, 0, 0, z16, 0, z16, R, L, I, false, false, false, 0, [], []⟩ (.slice o1 p.o.length o2) (.slice o3 p.d.length o4) (.slice none 0 0)) :=
    ⟨HB13.out.away haw4 (by simp; omega), HB23.out.away haw4 (by simp; omega), hb4, HA3.out.next haw4 (fun x hx => .inr (by simp at hx; omega)), ⟨rfl, rfl⟩, by omega, by omega, by omega, by omega, by omega, Owns.nil _, New.nil _, by simp [Value.ownBlock]⟩
  clear hb4 haw4 HB13 HB23 HA3 HB3 hg1 hg2 hg3 hl1 hl2 hl3 hs1 hs2 hs3
  have cv := (HM.out.b1.cells HAD.out).v
  have HV := Lib.hid hV
  obtain ⟨b27, hb27⟩ : ∃ b, b = decide (V = 0 ∧ p.v ≠ 4) := ⟨_, rfl⟩
  go_upto_region 2 with fail
  go_cut [27] (fun v wc => v = .bool b27 ∧ wc = w4)
  case first =>
    by_cases h1 : V = 0
    · subst h1
      by_cases h2 : p.v = 4
      · have hbb : b27 = false := by rw [hb27]; simp [h2]
        clear hb27
        subst hbb
        rw [h2] at cv hV
        go_wp2_with fail
        go_meet
        exact ⟨rfl, rfl⟩
      · have hbb : b27 = true := by rw [hb27]; simp [h2]
        clear hb27
        subst hbb
        have hbv : decide (p.v = 4) = false := by simp [h2]
        go_wp2_with fail
        go_meet
        exact ⟨by simp [h2], rfl⟩
    · have hbb : b27 = false := by rw [hb27]; simp [h1]
      clear hb27
      subst hbb
      have hbv : decide (V = 0) = false := by simp [h1]
      go_wp2_with fail
      go_meet
      exact ⟨rfl, rfl⟩
  case rest =>
  obtain ⟨rfl, rfl⟩ := hcut
  have HV4 : Hid (b27 = true → p.v ≠ 4) := fun h => by rw [hb27] at h; simp at h; exact h.2
  clear hb27
  go_upto_if 27 with fail
  go_cut [] (fun wc => ∃ q ou, Half q 3000 ∧ q.d = [] ∧ (q.o = [] ∧ q.df = false ∧ (p.v = 4 → q.v = 4)) ∧ MS w wc g1 g2 g3 p q (.slice o1 p.o.length o2) (.slice o3 p.d.length o4) ou)
  case first =>
    cases b27
    rotate_left
    · have cc := HM.out.b1.cells HAD.out
      have c1 := cc.tos; have c2 := cc.proto; have c3 := cc.ttl; have c4 := cc.flow
      clear cc
      go_wp2_with (refine wpList_store28 rfl _ _ rfl g3 rfl ⟨6, T, F, 0, z16, 0, z16, R, L, 0, false, false, false, 0, [], []⟩ (.slice none 0 0) (.slice none 0 0) rfl ⟨4, T, 0, 0, z16, 0, z16, R, L, I, false, false, false, 0, [], []⟩ (.slice none 0 0) (.slice none 0 0) (by exact HM.out.b3) ⟨rfl, rfl⟩ ⟨rfl, rfl⟩ rfl rfl ?_; refine Hid.out ?_)
      refine Lib.hid ?_
      intro w5 hb5 haw5
      have HM5 : Hid (MS w w5 g1 g2 g3 p ⟨6, T, F, 0, z16, 0, z16, R, L, 0, false, false, false, 0, [], []⟩ (.slice o1 p.o.length o2) (.slice o3 p.d.length o4) (.slice none 0 0)) :=
        ⟨HM.out.b1.away haw5 (by simp; exact HM.out.e2), HM.out.b2.away haw5 (by simp; exact HM.out.e3), hb5, HM.out.aw.next haw5 (fun x hx => .inr (by simp at hx; have := HM.out.n3; omega)), ⟨rfl, rfl⟩, HM.out.n2, HM.out.n3, HM.out.e1, HM.out.e2, HM.out.e3, Owns.nil _, New.nil _, by simp [Value.ownBlock]⟩
      clear hb5 haw5 HM c1 c2 c3 c4 cv
      have s37 := (HM5.out.b3.cells HM5.out.ad).proto
      have t37 := HM5.out.b3.free 37
      go_upto_if 43 with fail
      go_cut [] (fun wc => ∃ R', R' ≠ 44 ∧ 0 ≤ R' ∧ R' ≤ 255 ∧ MS w wc g1 g2 g3 p ⟨6, T, F, 0, z16, 0, z16, R', L, 0, false, false, false, 0, [], []⟩ (.slice o1 p.o.length o2) (.slice o3 p.d.length o4) (.slice none 0 0))
      case first =>
        by_cases h44 : R = 44
        · subst h44
          have HM6 := Lib.hid (HM5.out.put 37 (.int .i64 45) ((csP_set HM5.out.ad _ _).2.2.2.2.2.1 45) ⟨rfl, rfl⟩ rfl)
          go_wp2_with fail
          go_meet
          exact ⟨45, by omega, by omega, by omega, HM6.out⟩
        · have hb44 : decide (R = 44) = false := by simp [h44]
          go_wp2_with fail
          go_meet
          exact ⟨R, h44, BR.1, BR.2, HM5.out⟩
      case rest =>
      obtain ⟨R', h44, r0, r1, hm6⟩ := hcut
      have HM6 := Lib.hid hm6
      clear hm6 HM5 s37 t37
      have hls : (p.sb.map (Value.int .u8)).length = 16 := by rw [List.length_map]; exact HAD.out.1
      have hld : (p.db.map (Value.int .u8)).length = 16 := by rw [List.length_map]; exact HAD.out.2
      have HLS := Lib.hid hls; have HLD := Lib.hid hld
      clear hls hld
      have HONE : Hid (∀ l : List Int, ((l.map (Value.int .u8)).toArray).all (·.oneCell') = true) := fun l => all_oneCell_toArray (fun v hv => by obtain ⟨n, _, rfl⟩ := List.mem_map.1 hv; rfl)
      go_wp2_with (first
        | (refine wpList_load_mid rfl 22 _ rfl g1 4 rfl (p.sb.map (Value.int .u8)) _ HM6.out.b1.sb22 Tryz.underlying22 rfl (by rw [HLS.out]; exact info22s) ?_)
        | (refine wpList_store_mid rfl 22 _ _ rfl g3 4 (p.sb.map (Value.int .u8)).toArray rfl rfl (by rw [List.size_toArray, HLS.out]; exact HM6.out.b3.there HM6.out.ad 4 (by omega)) (by rw [List.size_toArray, HLS.out]; exact info22s) (HONE.out _) ?_; refine Hid.out ?_))
      refine Lib.hid ?_
      have HM7 := Lib.hid (HM6.out.sball p.sb HAD.out.1)
      generalize wc.setCells g3 4 (p.sb.map (Value.int .u8)) = w7 at *
      clear HM6
      go_wp2_with (first
        | (refine wpList_load_mid rfl 22 _ rfl g1 21 rfl (p.db.map (Value.int .u8)) _ (HM7.out.b1.db22 HAD.out) Tryz.underlying22 rfl (by rw [HLD.out]; exact info22s) ?_)
        | (refine wpList_store_mid rfl 22 _ _ rfl g3 21 (p.db.map (Value.int .u8)).toArray rfl rfl (by rw [List.size_toArray, HLD.out]; exact HM7.out.b3.there HM7.out.ad 21 (by omega)) (by rw [List.size_toArray, HLD.out]; exact info22s) (HONE.out _) ?_; refine Hid.out ?_))
      refine Lib.hid ?_
      have HM8 := Lib.hid (HM7.out.dball p.db HAD.out.2)
      generalize w7.setCells g3 21 (p.db.map (Value.int .u8)) = w8 at *
      clear HM7
      go_wp2_with fail
      go_meet
      exact ⟨_, _, (half6 HW.out BT BF ⟨r0, r1⟩ h44 BL).le (by omega) (by omega), rfl, ⟨rfl, rfl, fun h => absurd h (HV4.out (by first | rfl | trivial))⟩, HM8.out⟩
    · clear cv
      go_wp2_with fail
      go_loopw [4] (fun i wr => ∃ k : Nat, k ≤ 4 ∧ i = .int .i64 k ∧ MS w wr g1 g2 g3 p ⟨4, T, 0, 0, stB p.sb k, 0, stB p.db k, R, L, I, false, false, false, 0, [], []⟩ (.slice o1 p.o.length o2) (.slice o3 p.d.length o4) (.slice none 0 0)) (fun i _ => 4 - (intOf i).toNat)
      case atStart => exact ⟨0, by omega, rfl, HM.out⟩
      case round =>
        obtain ⟨k, hk, rfl, hm⟩ := hrel
        have HM := Lib.hid hm
        clear hm
        obtain rfl | rfl | rfl | rfl | rfl : k = 0 ∨ k = 1 ∨ k = 2 ∨ k = 3 ∨ k = 4 := by omega
        · obtain ⟨x, a1, a2, a3, hm'⟩ := HM.out.sby HAD.out 0 (by omega) rfl
          simp only [Nat.reduceAdd] at a1 a2 a3 hm'
          have HM' := Lib.hid hm'
          clear hm' HM
          go_upto_region 12 with fail
          clear a1 a2 a3
          generalize wr.setCell ⟨g3, 4, none⟩ (.int .u8 x) = wy at *
          obtain ⟨y, a1, a2, a3, hm'⟩ := HM'.out.dby HAD.out 0 (by omega) rfl
          simp only [Nat.reduceAdd] at a1 a2 a3 hm'
          have HM := Lib.hid hm'
          clear hm' HM'
          go_wp2_with fail
          go_roundw
          case rel => exact ⟨1, by omega, by rfl, HM.out⟩
          case measure => simp [intOf]
        · obtain ⟨x, a1, a2, a3, hm'⟩ := HM.out.sby HAD.out 1 (by omega) rfl
          simp only [Nat.reduceAdd] at a1 a2 a3 hm'
          have HM' := Lib.hid hm'
          clear hm' HM
          go_upto_region 12 with fail
          clear a1 a2 a3
          generalize wr.setCell ⟨g3, 5, none⟩ (.int .u8 x) = wy at *
          obtain ⟨y, a1, a2, a3, hm'⟩ := HM'.out.dby HAD.out 1 (by omega) rfl
          simp only [Nat.reduceAdd] at a1 a2 a3 hm'
          have HM := Lib.hid hm'
          clear hm' HM'
          go_wp2_with fail
          go_roundw
          case rel => exact ⟨2, by omega, by rfl, HM.out⟩
          case measure => simp [intOf]
        · obtain ⟨x, a1, a2, a3, hm'⟩ := HM.out.sby HAD.out 2 (by omega) rfl
          simp only [Nat.reduceAdd] at a1 a2 a3 hm'
          have HM' := Lib.hid hm'
          clear hm' HM
          go_upto_region 12 with fail
          clear a1 a2 a3
          generalize wr.setCell ⟨g3, 6, none⟩ (.int .u8 x) = wy at *
          obtain ⟨y, a1, a2, a3, hm'⟩ := HM'.out.dby HAD.out 2 (by omega) rfl
          simp only [Nat.reduceAdd] at a1 a2 a3 hm'
          have HM := Lib.hid hm'
          clear hm' HM'
          go_wp2_with fail
          go_roundw
          case rel => exact ⟨3, by omega, by rfl, HM.out⟩
          case measure => simp [intOf]
        · obtain ⟨x, a1, a2, a3, hm'⟩ := HM.out.sby HAD.out 3 (by omega) rfl
          simp only [Nat.reduceAdd] at a1 a2 a3 hm'
          have HM' := Lib.hid hm'
          clear hm' HM
          go_upto_region 12 with fail
          clear a1 a2 a3
          generalize wr.setCell ⟨g3, 7, none⟩ (.int .u8 x) = wy at *
          obtain ⟨y, a1, a2, a3, hm'⟩ := HM'.out.dby HAD.out 3 (by omega) rfl
          simp only [Nat.reduceAdd] at a1 a2 a3 hm'
          have HM := Lib.hid hm'
          clear hm' HM'
          go_wp2_with fail
          go_roundw
          case rel => exact ⟨4, by omega, by rfl, HM.out⟩
          case measure => simp [intOf]
        · go_wp2_with fail
          go_meet
          exact ⟨_, _, (half4 HW.out BT BR BL BI false [] Bytes.nil (by unfold validP; rw [parseP_nil]; rfl)).le (by omega) (by simp), rfl, ⟨rfl, rfl, fun _ => rfl⟩, HM.out⟩
  case rest =>
    obtain ⟨q, ou, hhalf, hqd, hqo, hm⟩ := hcut
    obtain ⟨M, hMM⟩ : ∃ M : Int, M = 3000 := ⟨_, rfl⟩
    rw [← hMM] at hhalf
    have HQO := Lib.hid hqo
    clear hqo
    have HM := Lib.hid hm
    have HH := Lib.hid hhalf
    have hM := hhalf.1; have hM2 := hhalf.2.1
    clear hm hhalf
    have cs := HM.out.b3.cells HM.out.ad
    have s0 := cs.v; have s3 := cs.sv; have s20 := cs.dv'
    have t3 := HM.out.b3.free 3
    have t20 := HM.out.b3.free 20
    have HM2 := Lib.hid ((HM.out.put 3 (.int .i64 q.v) ((csP_set HM.out.ad _ _).2.2.2.1 q.v) (by exact HM.out.ad) rfl).put 20 (.int .i64 q.v) ((csP_set (by exact HM.out.ad) _ _).2.2.2.2.1 q.v) (by exact HM.out.ad) rfl)
    clear cs
    go_upto_region 15 with fail
    clear s0 s3 s20 t3 t20 HM
    generalize (wc.setCell ⟨g3, 3, none⟩ (.int .i64 q.v)).setCell ⟨g3, 20, none⟩ (.int .i64 q.v) = w5 at *
    have c45 := (HM2.out.b1.cells HAD.out).d
    obtain ⟨N, hN⟩ : ∃ N : Nat, N = if M < (p.d.length : Int) then M.toNat else p.d.length := ⟨_, rfl⟩
    have hN1 : N ≤ p.d.length ∧ (N : Int) ≤ M := by rw [hN]; split <;> omega
    have HN3 : Hid (p.d.length ≤ 3000 → N = p.d.length) := fun h => by rw [hN, if_neg (by omega)]
    go_upto_if 89 with fail
    go_cut [5] (fun v wx => v = .int .i64 (N : Int) ∧ wx = w5)
    case first =>
      by_cases h1 : M < (p.d.length : Int)
      · rw [if_pos h1] at hN
        have hN3 : (N : Int) = M := by omega
        subst hMM
        go_wp2_with fail
        go_meet
        exact ⟨by rw [hN3], rfl⟩
      · rw [if_neg h1] at hN
        subst hN
        subst hMM
        go_wp2_with fail
        go_meet
        exact ⟨rfl, rfl⟩
    case rest =>
    obtain ⟨rfl, rfl⟩ := hcut
    clear hN
    have hdd := HP.out.d.of
    have hsl := slice_h o3 p.d.length o4 N (N : Int) rfl (by omega)
    go_wp2_with fail
    refine (own_any o3 (p.d.take N) N o4 _ (by simp; omega) (by exact (hdd.2.2.2.away HM2.out.aw (by simp)).head _)).mono ?_
    rintro E w7 ⟨v7, rfl, hown7, hnew7, haw7, hby7, hln7⟩
    have hs6 := HM2.out.aw.size
    have hlt6 := HM2.out.oo.lt
    have hb1l := HM2.out.b1.lt; have hb2l := HM2.out.b2.lt; have hb3l := HM2.out.b3.lt
    have HV7 : Hid (∀ k, v7.ownBlock = some k → k ≠ g1 ∧ k ≠ g2 ∧ k ≠ g3 ∧ ou.ownBlock ≠ some k) := fun k hk => by
      have h1 := hnew7 k hk
      refine ⟨by omega, by omega, by omega, fun e => ?_⟩
      have := hlt6 k e
      omega
    have HN7 : Hid (New w.heap.size v7) := hnew7.mono hs6
    have HO7 := Lib.hid hown7
    have HM7 := Lib.hid (HM2.out.on haw7)
    have HB7 := Lib.hid hby7
    clear HM2 c45 haw7 hown7 hlt6 hnew7 hsl hdd hby7 hs6 hb1l hb2l hb3l
    obtain ⟨x1, x2, x3, rfl⟩ := HO7.out.shp
    have s45 := (HM7.out.b3.cells HM7.out.ad).d
    have t45 := HM7.out.b3.free 45
    have hA8 := away_put (w := w7) (g := g3) 45 (.slice x1 x2 x3)
    have HBQ := Lib.hid (HM7.out.b3.put 45 (.slice x1 x2 x3) ((csP_set HM7.out.ad _ _).2.2.2.2.2.2.2.2.2.2.2.2.2 (p.d.take N) (.slice x1 x2 x3)))
    have HB2 := Lib.hid (HM7.out.b2.away hA8 (by simp; exact HM7.out.e3))
    have HA8 := Lib.hid (HM7.out.aw.next hA8 (fun x hx => .inr (by simp at hx; have := HM7.out.n3; omega)))
    have HOU := Lib.hid (HM7.out.oo.away hA8 (fun k hk => by simpa using (HM7.out.o1 k hk).2.2))
    have HOD := Lib.hid (HO7.out.away hA8 (fun k hk => by simpa using (HV7.out k hk).2.2.1))
    have HX := Lib.hid (show New w.heap.size ou ∧ w.heap.size ≤ g2 ∧ (∀ k, ou.ownBlock = some k → k ≠ g2) ∧ Ad q from ⟨HM7.out.no, HM7.out.n2, fun k hk => (HM7.out.o1 k hk).2.1, HM7.out.ad⟩)
    clear hA8 HM7 HO7
    go_upto_region 19 with fail
    clear s45 t45
    generalize w7.setCell ⟨g3, 45, none⟩ (.slice x1 x2 x3) = w8 at *
    obtain ⟨hu, hwf⟩ := HH.out.2.2.2 (p.d.take N) (HW.out.d.take N) (by simp; omega)
    obtain ⟨Q, hQ⟩ : ∃ Q : Pk, Q = { q with sv := q.v, dv := q.v, d := p.d.take N } := ⟨_, rfl⟩
    have HQ := Lib.hid (show Unc Q ∧ Wf Q ∧ (Q.v = 4 ∨ Q.v = 6) ∧ (Q.o = q.o ∧ Q.d = p.d.take N) ∧ (Q.o = [] ∧ Q.df = false ∧ Q.d.length ≤ 3000) ∧ ((p.v = 4 → Q.v = 4) ∧ (p.d.length ≤ 3000 → Q.d.length = p.d.length)) from ⟨by rw [hQ]; exact hu, by rw [hQ]; exact hwf, by rw [hQ]; exact HH.out.2.2.1, ⟨by rw [hQ], by rw [hQ]⟩, by rw [hQ]; exact ⟨HQO.out.1, HQO.out.2.1, by have := hN1.2; show (p.d.take N).length ≤ 3000; rw [List.length_take]; omega⟩, by rw [hQ]; exact ⟨HQO.out.2.2, fun h => by show (p.d.take N).length = _; rw [List.length_take, HN3.out h]; simp⟩⟩)
    replace HBQ : Hid (BoxP w8 g3 Q ou (.slice x1 x2 x3)) := by show BoxP _ _ _ _ _; rw [hQ]; exact HBQ.out
    have HQA := Lib.hid HQ.out.2.1.ad
    have HOU1 := Lib.hid HOU.out.one
    clear hQ hu hwf HH
    go_wp2_with (first
      | (refine wpList_load28 rfl _ rfl g3 rfl Q _ _ (by exact HBQ.out) HQA.out ?_)
      | (refine wpList_store28 rfl _ _ rfl g2 rfl Q ou (.slice x1 x2 x3) rfl zeroPk (.slice none 0 0) (.slice none 0 0) (by exact HB2.out) HQA.out ⟨rfl, rfl⟩ HOU1.out rfl ?_; refine Hid.out ?_))
    refine Lib.hid ?_
    intro w9 hb9 haw9
    have hx := HX.out
    have HB9 := Lib.hid hb9
    have HA9 : Hid (Away [] w w9) := HA8.out.next haw9 (fun x hx' => .inr (by simp at hx'; omega))
    have HMI : Hid (Mine w9 w.heap.size Q ou (.slice x1 x2 x3)) := ⟨by rw [HQ.out.2.2.2.1.1]; exact HOU.out.away haw9 (fun k hk => by simpa using hx.2.2.1 k hk), by rw [HQ.out.2.2.2.1.2]; exact HOD.out.away haw9 (fun k hk => by simpa using (HV7.out k hk).2.1), hx.1, HN7.out, fun k hk e => (HV7.out k e).2.2.2 hk⟩
    clear hb9 haw9
    go_wp2_with fail
    exact bodyPost_ret (result28 rfl _ _ _ _ _ _ rfl HB9.out HQA.out) rfl ⟨Q, _, _, rfl, HQ.out.1, HQ.out.2.1, HQ.out.2.2.1, HQ.out.2.2.2.2.1, HQ.out.2.2.2.2.2, HMI.out, HA9.out⟩
#print axioms mended_d
end Go.Proofs.YtbkeilboneaejaaGreatDoor
