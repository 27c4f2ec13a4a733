/-
  mended of the laws.
-/
import Derived.Test.YtbkeilboneaejaaGreatDoorCutF
namespace Go.Proofs.YtbkeilboneaejaaGreatDoor
open Go.ChangeShapes Go.WideShapes Go.ChangeAt Go.RowKit Num
set_option linter.unusedVariables false
set_option maxHeartbeats 4000000
set_option maxRecDepth 100000

theorem and255 (n : Int) : 0 ≤ bits .and .i64 n 255 ∧ bits .and .i64 n 255 ≤ 255 := by
  have h : (BitVec.ofInt 64 255).toNat = 255 := by decide
  have key : (BitVec.ofInt 64 n &&& BitVec.ofInt 64 255).toNat ≤ 255 := by rw [BitVec.toNat_and, h]; exact Nat.and_le_right
  have e : bits .and .i64 n 255 = IntKind.i64.wrap ((BitVec.ofInt 64 n &&& BitVec.ofInt 64 255).toNat : Nat) := rfl
  rw [e, IntKind.wrap_i64]
  generalize (BitVec.ofInt 64 n &&& BitVec.ofInt 64 255).toNat = m at *
  omega
theorem andid (n : Int) (h0 : 0 ≤ n) (h1 : n ≤ 4294967295) : 0 ≤ bits .and .u32 n 65535 ∧ bits .and .u32 n 65535 ≤ 65535 := by
  rw [u32_and _ _ h0 (by omega) (by omega) (by omega)]
  have : n.toNat &&& (65535 : Int).toNat ≤ 65535 := Nat.and_le_right
  omega
theorem andF (n : Int) : 0 ≤ bits .and .i64 n 1048575 ∧ bits .and .i64 n 1048575 ≤ 1048575 := by
  have h : (BitVec.ofInt 64 1048575).toNat = 1048575 := by decide
  have key : (BitVec.ofInt 64 n &&& BitVec.ofInt 64 1048575).toNat ≤ 1048575 := by rw [BitVec.toNat_and, h]; exact Nat.and_le_right
  have e : bits .and .i64 n 1048575 = IntKind.i64.wrap ((BitVec.ofInt 64 n &&& BitVec.ofInt 64 1048575).toNat : Nat) := rfl
  rw [e, IntKind.wrap_i64]
  generalize (BitVec.ofInt 64 n &&& BitVec.ofInt 64 1048575).toNat = m at *
  omega
theorem csP_sb {p : Pk} (ov dv : Value) (i : Nat) (hi : i < p.sb.length) (x : Int) : (csP p ov dv).setIfInBounds (4 + i) (.int .u8 x) = csP { p with sb := p.sb.set i x } ov dv := by
  apply Array.ext'
  rw [Array.toList_setIfInBounds]
  show (listP p ov dv).set (4 + i) (.int .u8 x) = listP { p with sb := p.sb.set i x } ov dv
  unfold listP cellsA
  simp only [List.cons_append]
  rw [show 4 + i = i + 1 + 1 + 1 + 1 from by omega, List.set_cons_succ, List.set_cons_succ, List.set_cons_succ, List.set_cons_succ, List.set_append_left _ _ (by simpa using hi), List.map_set]
theorem csP_db {p : Pk} (ha : p.sb.length = 16) (ov dv : Value) (i : Nat) (hi : i < p.db.length) (x : Int) : (csP p ov dv).setIfInBounds (21 + i) (.int .u8 x) = csP { p with db := p.db.set i x } ov dv := by
  apply Array.ext'
  rw [Array.toList_setIfInBounds]
  show (listP p ov dv).set (21 + i) (.int .u8 x) = listP { p with db := p.db.set i x } ov dv
  unfold listP cellsA
  simp only [List.cons_append]
  rw [show 21 + i = i + 1 + 16 + 1 + 1 + 1 + 1 from by omega, List.set_cons_succ, List.set_cons_succ, List.set_cons_succ, List.set_cons_succ, List.set_append_right _ _ (by simp [ha]), show i + 1 + 16 - (List.map (Value.int .u8) p.sb).length = i + 1 from by simp [ha], List.set_cons_succ, List.set_append_left _ _ (by simpa using hi), List.map_set]
/-- The first k bytes of l, and noughts. -/
def stB (l : List Int) (k : Nat) : List Int := l.take k ++ z16.drop k
theorem stB_len {l : List Int} (h : l.length = 16) (k : Nat) : (stB l k).length = 16 := by
  simp [stB, z16, h]; omega
theorem stB_set {l : List Int} (h : l.length = 16) {k : Nat} (hk : k < 16) {x : Int} (hx : l[k]? = some x) : (stB l k).set k x = stB l (k + 1) := by
  unfold stB
  rw [List.set_append_right _ _ (by simp; omega), show k - (l.take k).length = 0 from by simp; omega]
  have : z16.drop k = 0 :: z16.drop (k + 1) := (show ∀ k, k < 16 → z16.drop k = 0 :: z16.drop (k + 1) by decide) k hk
  rw [this, List.set_cons_zero]
  have hlt : k < l.length := by omega
  rw [List.take_succ_eq_append_getElem hlt]
  have : l[k] = x := by rw [List.getElem?_eq_getElem hlt] at hx; simpa using hx
  rw [this, List.append_assoc]; rfl

/-- mended at work: the packet that came, the answer's place, and the packet that is being made. -/
structure MS (w0 w : World) (g1 g2 g3 : Nat) (p q : Pk) (ov dv ou : Value) : Prop where
  b1 : BoxP w g1 p ov dv
  b2 : BoxP w g2 zeroPk (.slice none 0 0) (.slice none 0 0)
  b3 : BoxP w g3 q ou (.slice none 0 0)
  aw : Away [] w0 w
  ad : Ad q
  n2 : w0.heap.size ≤ g2
  n3 : w0.heap.size ≤ g3
  e1 : g1 ≠ g2
  e2 : g1 ≠ g3
  e3 : g2 ≠ g3
  oo : Owns w ou q.o
  no : New w0.heap.size ou
  o1 : ∀ k, ou.ownBlock = some k → k ≠ g1 ∧ k ≠ g2 ∧ k ≠ g3
theorem MS.put {w0 w : World} {g1 g2 g3 : Nat} {p q q' : Pk} {ov dv ou : Value} (h : MS w0 w g1 g2 g3 p q ov dv ou) (i : Nat) (x : Value) (hx : (csP q ou (.slice none 0 0)).setIfInBounds i x = csP q' ou (.slice none 0 0)) (hq : Ad q') (ho : q'.o = q.o) :
    MS w0 (w.setCell ⟨g3, i, none⟩ x) g1 g2 g3 p q' ov dv ou :=
  ⟨h.b1.away (away_put i x) (by simp; exact h.e2), h.b2.away (away_put i x) (by simp; exact h.e3), h.b3.put i x hx, h.aw.setCell (.inr h.n3) _, hq, h.n2, h.n3, h.e1, h.e2, h.e3, by rw [ho]; exact h.oo.away (away_put (g := g3) i x) (fun k hk => by simpa using (h.o1 k hk).2.2), h.no, h.o1⟩
theorem MS.on {w0 w w' : World} {g1 g2 g3 : Nat} {p q : Pk} {ov dv ou : Value} (h : MS w0 w g1 g2 g3 p q ov dv ou) (hw : Away [] w w') : MS w0 w' g1 g2 g3 p q ov dv ou :=
  ⟨h.b1.on hw, h.b2.on hw, h.b3.on hw, h.aw.next hw (by simp), h.ad, h.n2, h.n3, h.e1, h.e2, h.e3, h.oo.away hw (by simp), h.no, h.o1⟩
theorem MS.cells1 {w0 w : World} {g1 g2 g3 : Nat} {p q : Pk} {ov dv ou : Value} (h : MS w0 w g1 g2 g3 p q ov dv ou) (ha : Ad p) : Cells w g1 p ov dv := h.b1.cells ha
theorem MS.sby {w0 w : World} {g1 g2 g3 : Nat} {p q : Pk} {ov dv ou : Value} (h : MS w0 w g1 g2 g3 p q ov dv ou) (ha : Ad p) (k : Nat) (hk : k < 4) (hs : q.sb = stB p.sb k) :
    ∃ x, w.cell? ⟨g1, 4 + k, none⟩ = some (.int .u8 x) ∧ w.cell? ⟨g3, 4 + k, none⟩ = some (.int .u8 0) ∧ w.frozen? ⟨g3, 4 + k, none⟩ = false ∧ MS w0 (w.setCell ⟨g3, 4 + k, none⟩ (.int .u8 x)) g1 g2 g3 p { q with sb := stB p.sb (k + 1) } ov dv ou := by
  have hlt : k < p.sb.length := by rw [ha.1]; omega
  have hx : p.sb[k]? = some p.sb[k] := List.getElem?_eq_getElem hlt
  have hz : q.sb[k]? = some 0 := by
    rw [hs]; unfold stB
    rw [List.getElem?_append_right (by simp; omega), show k - (p.sb.take k).length = 0 from by simp; omega]
    exact (show ∀ k, k < 16 → (z16.drop k)[0]? = some 0 by decide) k (by omega)
  refine ⟨p.sb[k], range_cell h.b1.srow k _ hx, range_cell h.b3.srow k _ hz, h.b3.free _, h.put _ _ ?_ ⟨stB_len ha.1 _, h.ad.2⟩ rfl⟩
  rw [csP_sb _ _ k (by rw [h.ad.1]; omega), hs, stB_set ha.1 (by omega) hx]
theorem MS.dby {w0 w : World} {g1 g2 g3 : Nat} {p q : Pk} {ov dv ou : Value} (h : MS w0 w g1 g2 g3 p q ov dv ou) (ha : Ad p) (k : Nat) (hk : k < 4) (hs : q.db = stB p.db k) :
    ∃ x, w.cell? ⟨g1, 21 + k, none⟩ = some (.int .u8 x) ∧ w.cell? ⟨g3, 21 + k, none⟩ = some (.int .u8 0) ∧ w.frozen? ⟨g3, 21 + k, none⟩ = false ∧ MS w0 (w.setCell ⟨g3, 21 + k, none⟩ (.int .u8 x)) g1 g2 g3 p { q with db := stB p.db (k + 1) } ov dv ou := by
  have hlt : k < p.db.length := by rw [ha.2]; omega
  have hx : p.db[k]? = some p.db[k] := List.getElem?_eq_getElem hlt
  have hz : q.db[k]? = some 0 := by
    rw [hs]; unfold stB
    rw [List.getElem?_append_right (by simp; omega), show k - (p.db.take k).length = 0 from by simp; omega]
    exact (show ∀ k, k < 16 → (z16.drop k)[0]? = some 0 by decide) k (by omega)
  refine ⟨p.db[k], range_cell (h.b1.drow ha) k _ hx, range_cell (h.b3.drow h.ad) k _ hz, h.b3.free _, h.put _ _ ?_ ⟨h.ad.1, stB_len ha.2 _⟩ rfl⟩
  rw [csP_db h.ad.1 _ _ k (by rw [h.ad.2]; omega), hs, stB_set ha.2 (by omega) hx]

theorem MS.seto {w0 w : World} {g1 g2 g3 : Nat} {p q : Pk} {ov dv ou v : Value} {l : List Int} (h : MS w0 w g1 g2 g3 p q ov dv ou) (hown : Owns w v l) (hnew : ∀ k, v.ownBlock = some k → k ≠ g1 ∧ k ≠ g2 ∧ k ≠ g3 ∧ w0.heap.size ≤ k) :
    MS w0 (w.setCell ⟨g3, 44, none⟩ v) g1 g2 g3 p { q with o := l } ov dv v :=
  ⟨h.b1.away (away_put _ _) (by simp; exact h.e2), h.b2.away (away_put _ _) (by simp; exact h.e3), h.b3.put 44 v ((csP_set h.ad _ _).2.2.2.2.2.2.2.2.2.2.2.2.1 l v), h.aw.setCell (.inr h.n3) _, h.ad, h.n2, h.n3, h.e1, h.e2, h.e3, hown.away (away_put (g := g3) 44 v) (fun k hk => by simpa using (hnew k hk).2.2.1), fun k hk => (hnew k hk).2.2.2, fun k hk => ⟨(hnew k hk).1, (hnew k hk).2.1, (hnew k hk).2.2.1⟩⟩
theorem away_cells : ∀ (vs : List Value) (w : World) (g o : Nat), Away [g] w (w.setCells g o vs)
  | [], w, g, o => Away.refl _ _
  | v :: r, w, g, o => (away_put o v).trans (away_cells r _ g (o + 1))
theorem BoxP.sbs {g : Nat} {ov dv : Value} : ∀ (r : List Int) (k : Nat) (w : World) (q : Pk), k + r.length = 16 → Ad q → BoxP w g q ov dv → BoxP (w.setCells g (4 + k) (r.map (Value.int .u8))) g { q with sb := q.sb.take k ++ r } ov dv
  | [], k, w, q, hk, ha, h => by
    simp at hk; subst hk
    have : q.sb.take 16 ++ [] = q.sb := by rw [List.append_nil, List.take_of_length_le (by rw [ha.1]; omega)]
    rw [this]; exact h
  | x :: r, k, w, q, hk, ha, h => by
    simp only [List.length_cons] at hk
    have h1 := h.put (4 + k) (.int .u8 x) (csP_sb ov dv k (by rw [ha.1]; omega) x)
    have h2 := BoxP.sbs r (k + 1) _ { q with sb := q.sb.set k x } (by omega) ⟨by simp [ha.1], ha.2⟩ h1
    have e : ({ q with sb := q.sb.set k x } : Pk).sb.take (k + 1) ++ r = q.sb.take k ++ (x :: r) := by
      show (q.sb.set k x).take (k + 1) ++ r = _
      rw [List.take_succ_eq_append_getElem (by rw [List.length_set, ha.1]; omega), List.getElem_set_self, List.take_set_of_le (Nat.le_refl _), List.append_assoc]; rfl
    rw [e] at h2
    exact h2
theorem BoxP.dbs {g : Nat} {ov dv : Value} : ∀ (r : List Int) (k : Nat) (w : World) (q : Pk), k + r.length = 16 → Ad q → BoxP w g q ov dv → BoxP (w.setCells g (21 + k) (r.map (Value.int .u8))) g { q with db := q.db.take k ++ r } ov dv
  | [], k, w, q, hk, ha, h => by
    simp at hk; subst hk
    have : q.db.take 16 ++ [] = q.db := by rw [List.append_nil, List.take_of_length_le (by rw [ha.2]; omega)]
    rw [this]; exact h
  | x :: r, k, w, q, hk, ha, h => by
    simp only [List.length_cons] at hk
    have h1 := h.put (21 + k) (.int .u8 x) (csP_db ha.1 ov dv k (by rw [ha.2]; omega) x)
    have h2 := BoxP.dbs r (k + 1) _ { q with db := q.db.set k x } (by omega) ⟨ha.1, by simp [ha.2]⟩ h1
    have e : ({ q with db := q.db.set k x } : Pk).db.take (k + 1) ++ r = q.db.take k ++ (x :: r) := by
      show (q.db.set k x).take (k + 1) ++ r = _
      rw [List.take_succ_eq_append_getElem (by rw [List.length_set, ha.2]; omega), List.getElem_set_self, List.take_set_of_le (Nat.le_refl _), List.append_assoc]; rfl
    rw [e] at h2
    exact h2
theorem MS.sball {w0 w : World} {g1 g2 g3 : Nat} {p q : Pk} {ov dv ou : Value} (h : MS w0 w g1 g2 g3 p q ov dv ou) (l : List Int) (hl : l.length = 16) :
    MS w0 (w.setCells g3 4 (l.map (Value.int .u8))) g1 g2 g3 p { q with sb := l } ov dv ou := by
  have hA := away_cells (l.map (Value.int .u8)) w g3 4
  exact ⟨h.b1.away hA (by simp; exact h.e2), h.b2.away hA (by simp; exact h.e3), by simpa using BoxP.sbs l 0 w q (by omega) h.ad h.b3, h.aw.next hA (fun x hx => .inr (by simp at hx; have := h.n3; omega)), ⟨hl, h.ad.2⟩, h.n2, h.n3, h.e1, h.e2, h.e3, h.oo.away hA (fun k hk => by simpa using (h.o1 k hk).2.2), h.no, h.o1⟩
theorem MS.dball {w0 w : World} {g1 g2 g3 : Nat} {p q : Pk} {ov dv ou : Value} (h : MS w0 w g1 g2 g3 p q ov dv ou) (l : List Int) (hl : l.length = 16) :
    MS w0 (w.setCells g3 21 (l.map (Value.int .u8))) g1 g2 g3 p { q with db := l } ov dv ou := by
  have hA := away_cells (l.map (Value.int .u8)) w g3 21
  exact ⟨h.b1.away hA (by simp; exact h.e2), h.b2.away hA (by simp; exact h.e3), by simpa using BoxP.dbs l 0 w q (by omega) h.ad h.b3, h.aw.next hA (fun x hx => .inr (by simp at hx; have := h.n3; omega)), ⟨h.ad.1, hl⟩, h.n2, h.n3, h.e1, h.e2, h.e3, h.oo.away hA (fun k hk => by simpa using (h.o1 k hk).2.2), h.no, h.o1⟩
theorem BoxP.there {w : World} {g : Nat} {p : Pk} {ov dv : Value} (h : BoxP w g p ov dv) (ha : Ad p) (o : Nat) (ho : o + 16 ≤ 46) : w.there g o 16 := fun j hj => by
  refine ⟨?_, h.free _⟩
  rw [cell_of_block h]
  rw [Array.getElem?_eq_getElem (by rw [csP_size ha]; omega)]; rfl
theorem BoxP.sb22 {w : World} {g : Nat} {p : Pk} {ov dv : Value} (h : BoxP w g p ov dv) : w.rangeAt g 4 (p.sb.map (Value.int .u8)) := fun j v hj => by
  have := h.srow (j + 1) v (by simpa [cellsA] using hj)
  rw [← this]; congr 2; omega
theorem BoxP.db22 {w : World} {g : Nat} {p : Pk} {ov dv : Value} (h : BoxP w g p ov dv) (ha : Ad p) : w.rangeAt g 21 (p.db.map (Value.int .u8)) := fun j v hj => by
  have := h.drow ha (j + 1) v (by simpa [cellsA] using hj)
  rw [← this]; congr 2; omega
theorem info22s : (Tryz.prog.info? 22).map (·.size) = some 16 := by kernel_rfl
/-- A packet that wants its data alone. -/
def Half (q : Pk) (M : Int) : Prop := 0 ≤ M ∧ M ≤ 65535 ∧ (q.v = 4 ∨ q.v = 6) ∧ ∀ l : List Int, Bytes l → (l.length : Int) ≤ M → Unc { q with sv := q.v, dv := q.v, d := l } ∧ Wf { q with sv := q.v, dv := q.v, d := l }
theorem half6 {p : Pk} (hp : Wf p) {T F R L : Int} (hT : 0 ≤ T ∧ T ≤ 255) (hF : 0 ≤ F ∧ F ≤ 1048575) (hR : 0 ≤ R ∧ R ≤ 255) (hR' : R ≠ 44) (hL : 0 ≤ L ∧ L ≤ 255) : Half ⟨6, T, F, 0, p.sb, 0, p.db, R, L, 0, false, false, false, 0, [], []⟩ 65535 := by
  refine ⟨by omega, by omega, .inr rfl, fun l hl hn => ⟨⟨?_, rfl, rfl, rfl⟩, ?_⟩⟩
  · refine (if_pos rfl).trans ((S6.right_iff _).2 ?_)
    exact ⟨rfl, rfl, rfl, hF.1, by show F < 1048576; omega, hT.1, hT.2, hL.1, hL.2, hR.1, hR.2, hR', rfl, rfl, by simp, by simp, by simp, fun h => by simp at h, fun h => by rcases h with h | h <;> simp at h, by show (0 : Int) + l.length ≤ 65535; omega, fun _ => ⟨rfl, rfl, rfl⟩, by show 40 - 40 + l.length ≤ 65535; omega⟩
  · exact ⟨by simp [i64ok], by show i64ok T; simp only [i64ok]; omega, by show i64ok F; simp only [i64ok]; omega, by simp [i64ok], hp.sl, hp.sb, by simp [i64ok], hp.dl, hp.db, by show i64ok R; simp only [i64ok]; omega, by show i64ok L; simp only [i64ok]; omega, by simp, by simp, by simp [i64ok], Bytes.nil, by simp, hl, by show l.length ≤ _; omega⟩
theorem half4 {p : Pk} (hp : Wf p) {T R L I : Int} (hT : 0 ≤ T ∧ T ≤ 255) (hR : 0 ≤ R ∧ R ≤ 255) (hL : 0 ≤ L ∧ L ≤ 255) (hI : 0 ≤ I ∧ I ≤ 65535) (df : Bool) (o : List Int) (ho : Bytes o) (hv : validP o = true) : Half ⟨4, T, 0, 0, stB p.sb 4, 0, stB p.db 4, R, L, I, df, false, false, 0, o, []⟩ (65515 - o.length) := by
  have h40 := valid_len hv
  have hz : Bytes (z16.drop 4) := by unfold Bytes z16; decide
  have e1 : (stB p.sb 4).drop 4 = z12 := by unfold stB; rw [List.drop_append_of_le_length (by simp [hp.sl]), List.drop_eq_nil_of_le (by simp; omega), List.nil_append]; rfl
  have e2 : (stB p.db 4).drop 4 = z12 := by unfold stB; rw [List.drop_append_of_le_length (by simp [hp.dl]), List.drop_eq_nil_of_le (by simp; omega), List.nil_append]; rfl
  refine ⟨by omega, by omega, .inl rfl, fun l hl hn => ⟨⟨?_, rfl, rfl, rfl⟩, ?_⟩⟩
  · refine (if_neg (by simp)).trans ((right_iff _).2 ⟨?_, hv⟩)
    exact ⟨rfl, rfl, rfl, hI.2, hT.1, hT.2, hL.1, hL.2, hR.1, hR.2, rfl, e1, rfl, e2, by simp, by simp, by simp, fun h => by simp at h, fun h => by simp at h, fun h => by simp at h, by show (0 : Int) + l.length ≤ 65535; omega, by show 20 + o.length + l.length ≤ 65535; omega⟩
  · exact ⟨by simp [i64ok], by show i64ok T; simp only [i64ok]; omega, by simp [i64ok], by simp [i64ok], stB_len hp.sl 4, (hp.sb.take 4).app hz, by simp [i64ok], stB_len hp.dl 4, (hp.db.take 4).app hz, by show i64ok R; simp only [i64ok]; omega, by show i64ok L; simp only [i64ok]; omega, hI.1, by show I ≤ _; omega, by simp [i64ok], ho, by show o.length ≤ _; omega, hl, by show l.length ≤ _; omega⟩
/-- What mended tells. -/
def MendOut (w : World) (E : Ending) (w' : World) : Prop := ∃ q ov dv, E = .returned (.agg (csP q ov dv)) ∧ Unc q ∧ Wf q ∧ (q.v = 4 ∨ q.v = 6) ∧ Mine w' w.heap.size q ov dv ∧ Away [] w w'
theorem Half.le {q : Pk} {M N : Int} (h : Half q M) (h0 : 0 ≤ N) (h1 : N ≤ M) : Half q N := ⟨h0, Int.le_trans h1 h.2.1, h.2.2.1, fun l hl hn => h.2.2.2 l hl (Int.le_trans hn h1)⟩
/-- What stage 14's mended tells. -/
def MendE (w : World) (E : Ending) (w' : World) : Prop := ∃ q ov dv, E = .returned (.agg (csP q ov dv)) ∧ Unc q ∧ Wf q ∧ (q.v = 4 ∨ q.v = 6) ∧ (q.o = [] ∧ q.df = false ∧ q.d.length ≤ 3000) ∧ Mine w' w.heap.size q ov dv ∧ Away [] w w'
#print axioms half4
end Go.Proofs.YtbkeilboneaejaaGreatDoor
