/-
  mended of the law.
-/
import Derived.Test.YtkfbhofbajejiaaDoorMend
namespace Go.Proofs.YtkfbhofbajejiaaDoor
open Go.ChangeShapes Go.WideShapes Go.ChangeAt Go.RowKit Num
set_option linter.unusedVariables false
set_option maxHeartbeats 4000000
set_option maxRecDepth 100000

theorem csP_sb {p : Pk} (ov dv : Value) (i : Nat) (hi : i < p.sb.length) (x : Int) : (csP p ov dv).setIfInBounds (4 + i) (.int .u8 x) = csP { p with sb := p.sb.set i x } ov dv := by
  apply Array.ext'
  rw [Array.toList_setIfInBounds]
  show (listP p ov dv).set (4 + i) (.int .u8 x) = listP { p with sb := p.sb.set i x } ov dv
  unfold listP cellsA
  simp only [List.cons_append]
  rw [show 4 + i = i + 1 + 1 + 1 + 1 from by omega, List.set_cons_succ, List.set_cons_succ, List.set_cons_succ, List.set_cons_succ, List.set_append_left _ _ (by simpa using hi), List.map_set]
theorem csP_db {p : Pk} (ha : p.sb.length = 16) (ov dv : Value) (i : Nat) (hi : i < p.db.length) (x : Int) : (csP p ov dv).setIfInBounds (21 + i) (.int .u8 x) = csP { p with db := p.db.set i x } ov dv := by
  apply Array.ext'
  rw [Array.toList_setIfInBounds]
  show (listP p ov dv).set (21 + i) (.int .u8 x) = listP { p with db := p.db.set i x } ov dv
  unfold listP cellsA
  simp only [List.cons_append]
  rw [show 21 + i = i + 1 + 16 + 1 + 1 + 1 + 1 from by omega, List.set_cons_succ, List.set_cons_succ, List.set_cons_succ, List.set_cons_succ, List.set_append_right _ _ (by simp [ha]), show i + 1 + 16 - (List.map (Value.int .u8) p.sb).length = i + 1 from by simp [ha], List.set_cons_succ, List.set_append_left _ _ (by simpa using hi), List.map_set]
/-- The first k bytes of l, and noughts. -/
def stB (l : List Int) (k : Nat) : List Int := l.take k ++ z16.drop k
theorem stB_len {l : List Int} (h : l.length = 16) (k : Nat) : (stB l k).length = 16 := by
  simp [stB, z16, h]; omega
theorem stB_set {l : List Int} (h : l.length = 16) {k : Nat} (hk : k < 16) {x : Int} (hx : l[k]? = some x) : (stB l k).set k x = stB l (k + 1) := by
  unfold stB
  rw [List.set_append_right _ _ (by simp; omega), show k - (l.take k).length = 0 from by simp; omega]
  have : z16.drop k = 0 :: z16.drop (k + 1) := (show ∀ k, k < 16 → z16.drop k = 0 :: z16.drop (k + 1) by decide) k hk
  rw [this, List.set_cons_zero]
  have hlt : k < l.length := by omega
  rw [List.take_succ_eq_append_getElem hlt]
  have : l[k] = x := by rw [List.getElem?_eq_getElem hlt] at hx; simpa using hx
  rw [this, List.append_assoc]; rfl

/-- mended at work: the packet that came, the answer's place, and the packet that is being made. -/
structure MS (w0 w : World) (g1 g2 g3 : Nat) (p q : Pk) (ov dv ou : Value) : Prop where
  b1 : BoxP w g1 p ov dv
  b2 : BoxP w g2 zeroPk (.slice none 0 0) (.slice none 0 0)
  b3 : BoxP w g3 q ou (.slice none 0 0)
  aw : Away [] w0 w
  ad : Ad q
  n2 : w0.heap.size ≤ g2
  n3 : w0.heap.size ≤ g3
  e1 : g1 ≠ g2
  e2 : g1 ≠ g3
  e3 : g2 ≠ g3
  oo : Owns w ou q.o
  no : New w0.heap.size ou
  o1 : ∀ k, ou.ownBlock = some k → k ≠ g1 ∧ k ≠ g2 ∧ k ≠ g3
theorem MS.put {w0 w : World} {g1 g2 g3 : Nat} {p q q' : Pk} {ov dv ou : Value} (h : MS w0 w g1 g2 g3 p q ov dv ou) (i : Nat) (x : Value) (hx : (csP q ou (.slice none 0 0)).setIfInBounds i x = csP q' ou (.slice none 0 0)) (hq : Ad q') (ho : q'.o = q.o) :
    MS w0 (w.setCell ⟨g3, i, none⟩ x) g1 g2 g3 p q' ov dv ou :=
  ⟨h.b1.away (away_put i x) (by simp; exact h.e2), h.b2.away (away_put i x) (by simp; exact h.e3), h.b3.put i x hx, h.aw.setCell (.inr h.n3) _, hq, h.n2, h.n3, h.e1, h.e2, h.e3, by rw [ho]; exact h.oo.away (away_put (g := g3) i x) (fun k hk => by simpa using (h.o1 k hk).2.2), h.no, h.o1⟩
theorem MS.on {w0 w w' : World} {g1 g2 g3 : Nat} {p q : Pk} {ov dv ou : Value} (h : MS w0 w g1 g2 g3 p q ov dv ou) (hw : Away [] w w') : MS w0 w' g1 g2 g3 p q ov dv ou :=
  ⟨h.b1.on hw, h.b2.on hw, h.b3.on hw, h.aw.next hw (by simp), h.ad, h.n2, h.n3, h.e1, h.e2, h.e3, h.oo.away hw (by simp), h.no, h.o1⟩
theorem MS.mid {w0 w w2 : World} {g1 g2 g3 : Nat} {p q : Pk} {ov dv ou : Value} {o : Obj} (h : MS w0 w g1 g2 g3 p q ov dv ou) (hgr : (w.alloc o).grownBy w2 ou.ownBlock) : BoxP w2 g1 p ov dv ∧ BoxP w2 g2 zeroPk (.slice none 0 0) (.slice none 0 0) ∧ BoxP w2 g3 q ou (.slice none 0 0) ∧ Away [] w0 w2 := by
  have hA : Away ou.ownBlock.toList w w2 := ((Away.refl _ w).alloc o).grown hgr (fun k hk => .inl (by simp [hk]))
  have hn : ∀ g, (g = g1 ∨ g = g2 ∨ g = g3) → g ∉ ou.ownBlock.toList := by
    intro g hg hm
    have := h.o1 g (by simpa using hm)
    omega
  exact ⟨h.b1.away hA (hn _ (.inl rfl)), h.b2.away hA (hn _ (.inr (.inl rfl))), h.b3.away hA (hn _ (.inr (.inr rfl))), h.aw.next hA (fun x hx => .inr (h.no x (by simpa using hx)))⟩
theorem MS.app {w0 w w2 : World} {g1 g2 g3 : Nat} {p q : Pk} {ov dv ou v : Value} {o : Obj} {m : List Int} (h : MS w0 w g1 g2 g3 p q ov dv ou) (hgr : (w.alloc o).grownBy w2 ou.ownBlock) (hmv : Moved (w.alloc o) ou v) (hown : Owns w2 v (q.o ++ m)) :
    MS w0 (w2.setCell ⟨g3, 44, none⟩ v) g1 g2 g3 p { q with o := q.o ++ m } ov dv v := by
  obtain ⟨k1, k2, k3, k4⟩ := h.mid hgr
  have l1 := h.b1.lt; have l2 := h.b2.lt; have l3 := h.b3.lt
  have hv : ∀ k, v.ownBlock = some k → k ≠ g1 ∧ k ≠ g2 ∧ k ≠ g3 := fun k hk => by
    rcases hmv k hk with h1 | h1
    · exact h.o1 k h1
    · have : w.heap.size + 1 ≤ k := by simpa using h1
      omega
  refine ⟨k1.away (away_put _ _) (by simp; exact h.e2), k2.away (away_put _ _) (by simp; exact h.e3), k3.put 44 v ((csP_set h.ad _ _).2.2.2.2.2.2.2.2.2.2.2.2.1 (q.o ++ m) v), k4.setCell (.inr h.n3) _, h.ad, h.n2, h.n3, h.e1, h.e2, h.e3, hown.away (away_put (g := g3) _ _) (fun k hk => by simpa using (hv k hk).2.2), ?_, hv⟩
  intro k hk
  rcases hmv k hk with h1 | h1
  · exact h.no k h1
  · have : w.heap.size + 1 ≤ k := by simpa using h1
    have := h.aw.size
    omega

theorem MS.cells1 {w0 w : World} {g1 g2 g3 : Nat} {p q : Pk} {ov dv ou : Value} (h : MS w0 w g1 g2 g3 p q ov dv ou) (ha : Ad p) : Cells w g1 p ov dv := h.b1.cells ha
theorem MS.sby {w0 w : World} {g1 g2 g3 : Nat} {p q : Pk} {ov dv ou : Value} (h : MS w0 w g1 g2 g3 p q ov dv ou) (ha : Ad p) (k : Nat) (hk : k < 4) (hs : q.sb = stB p.sb k) :
    ∃ x, w.cell? ⟨g1, 4 + k, none⟩ = some (.int .u8 x) ∧ w.cell? ⟨g3, 4 + k, none⟩ = some (.int .u8 0) ∧ w.frozen? ⟨g3, 4 + k, none⟩ = false ∧ MS w0 (w.setCell ⟨g3, 4 + k, none⟩ (.int .u8 x)) g1 g2 g3 p { q with sb := stB p.sb (k + 1) } ov dv ou := by
  have hlt : k < p.sb.length := by rw [ha.1]; omega
  have hx : p.sb[k]? = some p.sb[k] := List.getElem?_eq_getElem hlt
  have hz : q.sb[k]? = some 0 := by
    rw [hs]; unfold stB
    rw [List.getElem?_append_right (by simp; omega), show k - (p.sb.take k).length = 0 from by simp; omega]
    exact (show ∀ k, k < 16 → (z16.drop k)[0]? = some 0 by decide) k (by omega)
  refine ⟨p.sb[k], range_cell h.b1.srow k _ hx, range_cell h.b3.srow k _ hz, h.b3.free _, h.put _ _ ?_ ⟨stB_len ha.1 _, h.ad.2⟩ rfl⟩
  rw [csP_sb _ _ k (by rw [h.ad.1]; omega), hs, stB_set ha.1 (by omega) hx]
theorem MS.dby {w0 w : World} {g1 g2 g3 : Nat} {p q : Pk} {ov dv ou : Value} (h : MS w0 w g1 g2 g3 p q ov dv ou) (ha : Ad p) (k : Nat) (hk : k < 4) (hs : q.db = stB p.db k) :
    ∃ x, w.cell? ⟨g1, 21 + k, none⟩ = some (.int .u8 x) ∧ w.cell? ⟨g3, 21 + k, none⟩ = some (.int .u8 0) ∧ w.frozen? ⟨g3, 21 + k, none⟩ = false ∧ MS w0 (w.setCell ⟨g3, 21 + k, none⟩ (.int .u8 x)) g1 g2 g3 p { q with db := stB p.db (k + 1) } ov dv ou := by
  have hlt : k < p.db.length := by rw [ha.2]; omega
  have hx : p.db[k]? = some p.db[k] := List.getElem?_eq_getElem hlt
  have hz : q.db[k]? = some 0 := by
    rw [hs]; unfold stB
    rw [List.getElem?_append_right (by simp; omega), show k - (p.db.take k).length = 0 from by simp; omega]
    exact (show ∀ k, k < 16 → (z16.drop k)[0]? = some 0 by decide) k (by omega)
  refine ⟨p.db[k], range_cell (h.b1.drow ha) k _ hx, range_cell (h.b3.drow h.ad) k _ hz, h.b3.free _, h.put _ _ ?_ ⟨h.ad.1, stB_len ha.2 _⟩ rfl⟩
  rw [csP_db h.ad.1 _ _ k (by rw [h.ad.2]; omega), hs, stB_set ha.2 (by omega) hx]

def mendQ (p : Pk) : Pk := ⟨4, bits .and .i64 p.tos 255, 0, 0, z16, 0, z16, bits .and .i64 p.proto 255, bits .and .i64 p.ttl 255, bits .and .u32 p.id 65535, p.df, p.more, false, bits .and .i64 p.off 65528, [], []⟩
theorem mended_c (p : Pk) (ov dv : Value) (w : World) (hp : Pkt w p ov dv) :
    Calls Tryd.prog 10 #[.agg (csP p ov dv)] w fun E w' => OwnOut w (mendP p) E w' := by
  have HAD := Lib.hid hp.wf.ad
  have HP := Lib.hid hp
  have hol := hp.wf.ol
  have hdl := hp.wf.dn
  have KD : Hid (∀ w' n, n ≤ p.d.length → Away [] w w' → ∃ a c, dv = .slice a p.d.length c ∧ p.d.length ≤ c ∧ Calls Tryd.prog 14 #[.slice a n c] w' fun E w'' => Copied w' (p.d.take n) E w'') := by
    obtain ⟨a, c, rfl, x1, x2, x3⟩ := hp.d
    exact fun w' n hn h => ⟨a, c, rfl, x1, own_any a (p.d.take n) _ c w' (by simp; omega) ((x3.away h (by simp)).head n)⟩
  obtain ⟨T, hT⟩ : ∃ T, bits .and .i64 p.tos 255 = T := ⟨_, rfl⟩
  obtain ⟨R, hR⟩ : ∃ T, bits .and .i64 p.proto 255 = T := ⟨_, rfl⟩
  obtain ⟨L, hL⟩ : ∃ T, bits .and .i64 p.ttl 255 = T := ⟨_, rfl⟩
  obtain ⟨I, hI⟩ : ∃ T, bits .and .u32 p.id 65535 = T := ⟨_, rfl⟩
  obtain ⟨O, hO⟩ : ∃ T, bits .and .i64 p.off 65528 = T := ⟨_, rfl⟩
  have hOb := and65528 p.off
  rw [hO] at hOb
  have HQ : Hid (mendQ p = ⟨4, T, 0, 0, z16, 0, z16, R, L, I, p.df, p.more, false, O, [], []⟩) := by
    show _ = _
    unfold mendQ; rw [hT, hR, hL, hI, hO]
  obtain ⟨-, ⟨o1, o2, rfl, -⟩, ⟨o3, o4, rfl, -⟩⟩ := hp
  go_enter Tryd.func10, Tryd.ntmps10
  go_wp2_with (refine wpList_box28 rfl _ rfl p _ _ rfl ?_; refine Hid.out ?_)
  refine Lib.hid ?_
  intro g1 w1 hg1 hb1 haw1
  have HB1 := Lib.hid hb1; have HA1 := Lib.hid haw1
  have hl1 := hb1.lt
  clear hb1 haw1
  go_wp2_with (refine wpList_alloc28 rfl rfl ?_; refine Hid.out ?_)
  refine Lib.hid ?_
  intro g2 w2 hg2 hb2 haw2
  have HB2 := Lib.hid hb2
  have HB12 := Lib.hid (HB1.out.on haw2)
  have HA2 := Lib.hid (HA1.out.next haw2 (by simp))
  have hl2 := hb2.lt
  have hs1 := HA1.out.size; have hs2 := haw2.size
  clear hb2 haw2 HB1 HA1
  have cc := HB12.out.cells HAD.out
  have c1 := cc.tos; have c2 := cc.proto; have c3 := cc.ttl; have c4 := cc.id; have c5 := cc.df; have c6 := cc.more; have c7 := cc.off
  clear cc
  go_wp2_with (first | (refine wpList_alloc28 rfl rfl ?_; refine Hid.out ?_))
  refine Lib.hid ?_
  intro g3 w3 hg3 hb3 haw3
  have HB3 := Lib.hid hb3
  have hl3 := hb3.lt
  have hs3 := haw3.size
  have HB13 := Lib.hid (HB12.out.on haw3)
  have HB23 := Lib.hid (HB2.out.on haw3)
  have HA3 := Lib.hid (HA2.out.next haw3 (by simp))
  clear hb3 haw3 HB12 HB2 HA2 c1 c2 c3 c4 c5 c6 c7
  go_wp2_with (first | (refine wpList_store28 rfl _ _ rfl _ rfl ⟨4, T, 0, 0, z16, 0, z16, R, L, I, p.df, p.more, false, O, [], []⟩ (.slice none 0 0) (.slice none 0 0) rfl zeroPk (.slice none 0 0) (.slice none 0 0) (by exact HB3.out) ⟨rfl, rfl⟩ ⟨rfl, rfl⟩ rfl rfl ?_; refine Hid.out ?_))
  refine Lib.hid ?_
  intro w4 hb4 haw4
  have HM : Hid (MS w w4 g1 g2 g3 p ⟨4, T, 0, 0, z16, 0, z16, R, L, I, p.df, p.more, false, O, [], []⟩ (.slice o1 p.o.length o2) (.slice o3 p.d.length o4) (.slice none 0 0)) :=
    ⟨HB13.out.away haw4 (by simp; omega), HB23.out.away haw4 (by simp; omega), hb4, HA3.out.next haw4 (fun x hx => .inr (by simp at hx; omega)), ⟨rfl, rfl⟩, by omega, by omega, by omega, by omega, by omega, Owns.nil _, New.nil _, by simp [Value.ownBlock]⟩
  clear hb4 haw4 HB13 HB23 HA3 HB3
  have s3 := (HM.out.b3.cells HM.out.ad).sv
  have t3 := HM.out.b3.free 3
  have s20 := (HM.out.b3.cells HM.out.ad).dv'
  have t20 := HM.out.b3.free 20
  have HM2 := Lib.hid ((HM.out.put 3 (.int .i64 4) ((csP_set HM.out.ad _ _).2.2.2.1 4) ⟨rfl, rfl⟩ rfl).put 20 (.int .i64 4) ((csP_set ⟨rfl, rfl⟩ _ _).2.2.2.2.1 4) ⟨rfl, rfl⟩ rfl)
  go_upto_region 4 with fail
  clear s3 t3 s20 t20 HM hg1 hg2 hg3 hl1 hl2 hl3 hs1 hs2 hs3
  generalize (w4.setCell ⟨g3, 3, none⟩ (.int .i64 4)).setCell ⟨g3, 20, none⟩ (.int .i64 4) = w5 at *
  go_upto_block 0 with fail
  go_cut [] (fun wc => MS w wc g1 g2 g3 p ⟨4, T, 0, 4, (stB p.sb 4), 4, (stB p.db 4), R, L, I, p.df, p.more, false, O, [], []⟩ (.slice o1 p.o.length o2) (.slice o3 p.d.length o4) (.slice none 0 0))
  case first =>
    go_wp2_with fail
    go_loopw [4] (fun i wr => ∃ k : Nat, k ≤ 4 ∧ i = .int .i64 k ∧ MS w wr g1 g2 g3 p ⟨4, T, 0, 4, stB p.sb k, 4, stB p.db k, R, L, I, p.df, p.more, false, O, [], []⟩ (.slice o1 p.o.length o2) (.slice o3 p.d.length o4) (.slice none 0 0)) (fun i _ => 4 - (intOf i).toNat)
    case atStart => exact ⟨0, by omega, rfl, HM2.out⟩
    case round =>
      obtain ⟨k, hk, rfl, hm⟩ := hrel
      have HM := Lib.hid hm
      clear hm
      obtain rfl | rfl | rfl | rfl | rfl : k = 0 ∨ k = 1 ∨ k = 2 ∨ k = 3 ∨ k = 4 := by omega
      · obtain ⟨x, a1, a2, a3, hm'⟩ := HM.out.sby HAD.out 0 (by omega) rfl
        simp only [Nat.reduceAdd] at a1 a2 a3 hm'
        have HM' := Lib.hid hm'
        clear hm' HM
        go_upto_region 8 with fail
        clear a1 a2 a3
        generalize wr.setCell ⟨g3, 4, none⟩ (.int .u8 x) = wy at *
        obtain ⟨y, a1, a2, a3, hm'⟩ := HM'.out.dby HAD.out 0 (by omega) rfl
        simp only [Nat.reduceAdd] at a1 a2 a3 hm'
        have HM := Lib.hid hm'
        clear hm' HM'
        go_wp2_with fail
        go_roundw
        case rel => exact ⟨1, by omega, by rfl, HM.out⟩
        case measure => simp [intOf]
      · obtain ⟨x, a1, a2, a3, hm'⟩ := HM.out.sby HAD.out 1 (by omega) rfl
        simp only [Nat.reduceAdd] at a1 a2 a3 hm'
        have HM' := Lib.hid hm'
        clear hm' HM
        go_upto_region 8 with fail
        clear a1 a2 a3
        generalize wr.setCell ⟨g3, 5, none⟩ (.int .u8 x) = wy at *
        obtain ⟨y, a1, a2, a3, hm'⟩ := HM'.out.dby HAD.out 1 (by omega) rfl
        simp only [Nat.reduceAdd] at a1 a2 a3 hm'
        have HM := Lib.hid hm'
        clear hm' HM'
        go_wp2_with fail
        go_roundw
        case rel => exact ⟨2, by omega, by rfl, HM.out⟩
        case measure => simp [intOf]
      · obtain ⟨x, a1, a2, a3, hm'⟩ := HM.out.sby HAD.out 2 (by omega) rfl
        simp only [Nat.reduceAdd] at a1 a2 a3 hm'
        have HM' := Lib.hid hm'
        clear hm' HM
        go_upto_region 8 with fail
        clear a1 a2 a3
        generalize wr.setCell ⟨g3, 6, none⟩ (.int .u8 x) = wy at *
        obtain ⟨y, a1, a2, a3, hm'⟩ := HM'.out.dby HAD.out 2 (by omega) rfl
        simp only [Nat.reduceAdd] at a1 a2 a3 hm'
        have HM := Lib.hid hm'
        clear hm' HM'
        go_wp2_with fail
        go_roundw
        case rel => exact ⟨3, by omega, by rfl, HM.out⟩
        case measure => simp [intOf]
      · obtain ⟨x, a1, a2, a3, hm'⟩ := HM.out.sby HAD.out 3 (by omega) rfl
        simp only [Nat.reduceAdd] at a1 a2 a3 hm'
        have HM' := Lib.hid hm'
        clear hm' HM
        go_upto_region 8 with fail
        clear a1 a2 a3
        generalize wr.setCell ⟨g3, 7, none⟩ (.int .u8 x) = wy at *
        obtain ⟨y, a1, a2, a3, hm'⟩ := HM'.out.dby HAD.out 3 (by omega) rfl
        simp only [Nat.reduceAdd] at a1 a2 a3 hm'
        have HM := Lib.hid hm'
        clear hm' HM'
        go_wp2_with fail
        go_roundw
        case rel => exact ⟨4, by omega, by rfl, HM.out⟩
        case measure => simp [intOf]
      · go_wp2_with fail
        go_meet
        exact HM.out
  case rest =>
    have HM := Lib.hid hcut
    clear hcut HM2
    obtain ⟨M, hM⟩ : ∃ M, M = mendM p := ⟨_, rfl⟩
    have hM1 : M ≤ 40 := by rw [hM]; exact (mendM_bd p).1
    have hM2 : M ≤ p.o.length / 4 * 4 := by rw [hM]; unfold mendM; omega
    have hM3 : M = 40 ∨ M = p.o.length / 4 * 4 := by rw [hM]; unfold mendM; omega
    have HMM := Lib.hid hM
    clear hM
    go_upto_block 2 with fail
    go_cut [] (fun wc => ∃ ou, MS w wc g1 g2 g3 p ⟨4, T, 0, 4, (stB p.sb 4), 4, (stB p.db 4), R, L, I, p.df, p.more, false, O, List.replicate M 1, []⟩ (.slice o1 p.o.length o2) (.slice o3 p.d.length o4) ou)
    case first =>
      go_wp2_with fail
      go_loopw [5] (fun i wr => ∃ (k : Nat) (ou : Value), k ≤ M ∧ i = .int .i64 k ∧ MS w wr g1 g2 g3 p ⟨4, T, 0, 4, (stB p.sb 4), 4, (stB p.db 4), R, L, I, p.df, p.more, false, O, List.replicate k 1, []⟩ (.slice o1 p.o.length o2) (.slice o3 p.d.length o4) ou) (fun i _ => M - (intOf i).toNat)
      case atStart => exact ⟨0, _, by omega, rfl, HM.out⟩
      case round =>
        obtain ⟨k, ou, hk, rfl, hm⟩ := hrel
        have HMk := Lib.hid hm
        have c1 := (hm.b1.cells HAD.out).o
        clear hm HM
        by_cases hlt : k < M
        · have a1 : (k : Int) < (p.o.length : Int) / 4 * 4 := by omega
          have a2 : (k : Int) < 40 := by omega
          have c2 := (HMk.out.b3.cells HMk.out.ad).o
          go_wp2_with (at_builtin; refine wpList_app rfl _ _ rfl _ (List.replicate k 1) [1] rfl (by exact HMk.out.oo.away ((Away.refl [] _).alloc _) (by simp)) ⟨wr.heap.size, 0, none⟩ 1 1 rfl rfl (lit_cells _ [1] _ rfl) (by simp; omega) ?_; refine Hid.out ?_)
          refine Lib.hid ?_
          intro v' w2 hown2 hgr hmov
          have hmid := HMk.out.mid hgr
          have HMn := Lib.hid (HMk.out.app hgr hmov hown2)
          have s44 := (hmid.2.2.1.cells HMk.out.ad).o
          have t44 := hmid.2.2.1.free 44
          have hsh := hown2.shp
          clear hmid hgr hmov hown2 c1 c2
          obtain ⟨x1, x2, x3, rfl⟩ := hsh
          go_wp2_with fail
          go_roundw
          case rel => exact ⟨k + 1, _, by omega, by go_num, by rw [List.replicate_succ']; exact HMn.out⟩
          case measure => simp [intOf]; omega
        · obtain rfl : k = M := by omega
          by_cases h4 : k < p.o.length / 4 * 4
          · have a1 : (k : Int) < (p.o.length : Int) / 4 * 4 := by omega
            have a2 : ¬ (k : Int) < 40 := by omega
            go_wp2_with fail
            go_meet
            exact ⟨ou, HMk.out⟩
          · have a1 : ¬ (k : Int) < (p.o.length : Int) / 4 * 4 := by omega
            go_wp2_with fail
            go_meet
            exact ⟨ou, HMk.out⟩
    case rest =>
      obtain ⟨ou, hm⟩ := hcut
      have HM := Lib.hid hm
      clear hm
      obtain ⟨ao, co, hou, hco, -⟩ := HM.out.oo.row (by show (List.replicate M (1 : Int)).length ≤ _; simp; omega) (by intro n hn; rw [List.eq_of_mem_replicate hn]; omega)
      have hou' : ou = .slice ao M co := by rw [hou]; show Value.slice ao (List.replicate M (1 : Int)).length co = _; rw [List.length_replicate]
      clear hou hco
      subst hou'
      have c45 := (HM.out.b1.cells HAD.out).d
      have cs := HM.out.b3.cells HM.out.ad
      have c43 := cs.off; have c44 := cs.o; have c41 := cs.more
      clear cs
      have hN := mendN_bd p
      have hN' : mendN1 p ≤ 65535 := by have := hOb.1; have e1 : mendN1 p = if 65535 - mendOff p < (p.d.length : Int) then 65535 - mendOff p else p.d.length := rfl
                                        have e0 : mendOff p = O := hO
                                        rw [e0] at e1; split at e1 <;> omega
      have HE1 : Hid (mendN1 p = if 65535 - O < (p.d.length : Int) then 65535 - O else p.d.length) := by show _ = _; rw [← hO]; rfl
      have HE2 : Hid (mendN2 p = if 65515 - (M : Int) < mendN1 p then 65515 - (M : Int) else mendN1 p) := by show _ = _; rw [HMM.out]; rfl
      have HE3 : Hid (mendN3 p = if p.more = true then mendN2 p / 8 * 8 else mendN2 p) := rfl
      have HEND : Hid ((⟨4, T, 0, 4, stB p.sb 4, 4, stB p.db 4, R, L, I, p.df, if mendN3 p = 0 then false else p.more, false, if mendN3 p = 0 then 0 else O, List.replicate M 1, p.d.take (mendN3 p).toNat⟩ : Pk) = mendP p) := by
        show _ = _
        unfold mendP
        rw [hT, hR, hL, hI, HMM.out, ← hO]
        rfl
      generalize mendN3 p = N3 at *
      generalize mendN2 p = N2 at *
      generalize mendN1 p = N1 at *
      go_upto_if 78 with fail
      go_cut [6] (fun v wx => v = .int .i64 N1 ∧ wx = wc)
      case first =>
        by_cases h1 : 65535 - O < (p.d.length : Int)
        · obtain rfl : N1 = 65535 - O := by rw [HE1.out, if_pos h1]
          go_wp2_with fail
          go_meet
          exact ⟨rfl, rfl⟩
        · obtain rfl : N1 = p.d.length := by rw [HE1.out, if_neg h1]
          go_wp2_with fail
          go_meet
          exact ⟨rfl, rfl⟩
      case rest =>
      obtain ⟨rfl, rfl⟩ := hcut
      go_upto_if 87 with fail
      go_cut [6] (fun v wx => v = .int .i64 N2 ∧ wx = wc)
      case first =>
        by_cases h1 : 65515 - (M : Int) < N1
        · obtain rfl : N2 = 65515 - (M : Int) := by rw [HE2.out, if_pos h1]
          go_wp2_with fail
          go_meet
          exact ⟨rfl, rfl⟩
        · obtain rfl : N2 = N1 := by rw [HE2.out, if_neg h1]
          go_wp2_with fail
          go_meet
          exact ⟨rfl, rfl⟩
      case rest =>
      obtain ⟨rfl, rfl⟩ := hcut
      have HMR := Lib.hid (show p.more = p.more from rfl)
      go_upto_if 93 with fail
      go_cut [6] (fun v wx => v = .int .i64 N3 ∧ wx = wc)
      case first =>
        generalize p.more = mo at *
        cases mo
        · obtain rfl : N3 = N2 := by rw [HE3.out, if_neg (by simp)]
          go_wp2_with fail
          go_meet
          exact ⟨rfl, rfl⟩
        · obtain rfl : N3 = N2 / 8 * 8 := by rw [HE3.out, if_pos rfl]
          go_wp2_with fail
          go_meet
          exact ⟨rfl, rfl⟩
      case rest =>
      obtain ⟨rfl, rfl⟩ := hcut
      go_upto_if 98 with fail
      go_cut [] (fun wx => MS w wx g1 g2 g3 p ⟨4, T, 0, 4, (stB p.sb 4), 4, (stB p.db 4), R, L, I, p.df, if N3 = 0 then false else p.more, false, if N3 = 0 then 0 else O, List.replicate M 1, []⟩ (.slice o1 p.o.length o2) (.slice o3 p.d.length o4) (.slice ao M co))
      case first =>
        by_cases h0 : N3 = 0
        · subst h0
          have t41 := HM.out.b3.free 41
          have t43 := HM.out.b3.free 43
          have HMn := Lib.hid ((HM.out.put 41 (.bool false) ((csP_set HM.out.ad _ _).2.2.2.2.2.2.2.2.2.1 false) (by exact HM.out.ad) rfl).put 43 (.int .i64 0) ((csP_set (by exact HM.out.ad) _ _).2.2.2.2.2.2.2.2.2.2.2.1 0) (by exact HM.out.ad) rfl)
          go_wp2_with fail
          go_meet
          exact HMn.out
        · go_wp2_with fail
          go_meet
          rw [if_neg h0, if_neg h0]
          exact HM.out
      case rest =>
      have HM6 := Lib.hid hcut
      clear hcut HM c41 c43 c44 c45
      have hdd := HP.out.d.of
      have hsl := slice_h o3 p.d.length o4 N3.toNat N3 (by omega) (by omega)
      have c45 := (HM6.out.b1.cells HAD.out).d
      go_wp2_with fail
      refine (own_any o3 (p.d.take N3.toNat) N3.toNat o4 _ (by simp; omega) (by exact (hdd.2.2.2.away HM6.out.aw (by simp)).head _)).mono ?_
      rintro E w7 ⟨v7, rfl, hown7, hnew7, haw7, hby7, hln7⟩
      have HM7 := Lib.hid (HM6.out.on haw7)
      have hs6 := HM6.out.aw.size
      have hlt6 := HM6.out.oo.lt
      have hb1l := HM6.out.b1.lt; have hb2l := HM6.out.b2.lt; have hb3l := HM6.out.b3.lt
      have HV7 : Hid (∀ k, v7.ownBlock = some k → k ≠ g1 ∧ k ≠ g2 ∧ k ≠ g3 ∧ (Value.slice ao M co).ownBlock ≠ some k) := fun k hk => by
        have h1 := hnew7 k hk
        refine ⟨by omega, by omega, by omega, fun e => ?_⟩
        have := hlt6 k e
        omega
      have HN7 : Hid (New w.heap.size v7) := hnew7.mono hs6
      have HO7 := Lib.hid hown7
      clear HM6 c45 haw7 hown7 hlt6 hnew7 hsl hdd
      obtain ⟨x1, x2, x3, rfl⟩ := HO7.out.shp
      have s45 := (HM7.out.b3.cells HM7.out.ad).d
      have t45 := HM7.out.b3.free 45
      have hA8 := away_put (w := w7) (g := g3) 45 (.slice x1 x2 x3)
      have hB8 := HM7.out.b3.put 45 (.slice x1 x2 x3) ((csP_set HM7.out.ad _ _).2.2.2.2.2.2.2.2.2.2.2.2.2 (p.d.take N3.toNat) (.slice x1 x2 x3))
      have hB8' : BoxP (w7.setCell ⟨g3, 45, none⟩ (.slice x1 x2 x3)) g3 (mendP p) (.slice ao M co) (.slice x1 x2 x3) := by rw [← HEND.out]; exact hB8
      have HB38 := Lib.hid hB8'
      have HB28 := Lib.hid (HM7.out.b2.away hA8 (by simp; exact HM7.out.e3))
      have HA8 := Lib.hid (HM7.out.aw.next hA8 (fun x hx => .inr (by simp at hx; rw [hx]; exact HM7.out.n3)))
      have HO8 := Lib.hid (HO7.out.away hA8 (fun k hk => by simpa using (HV7.out k hk).2.2.1))
      have HOO8 := Lib.hid (HM7.out.oo.away hA8 (fun k hk => by simpa using (HM7.out.o1 k hk).2.2))
      have HNO := Lib.hid HM7.out.no
      have HO1 := Lib.hid HM7.out.o1
      have hn2 := HM7.out.n2
      have HMA : Hid (Ad (mendP p)) := by rw [← HEND.out]; exact HM7.out.ad
      clear hA8 hB8 hB8' HM7 HO7
      go_upto_region 24 with fail
      clear s45 t45
      generalize w7.setCell ⟨g3, 45, none⟩ (.slice x1 x2 x3) = w8 at *
      go_wp2_with (first
        | (refine wpList_load28 rfl _ rfl _ rfl (mendP p) _ _ (by exact HB38.out) HMA.out ?_)
        | (refine wpList_store28 rfl _ _ rfl _ rfl (mendP p) (.slice ao M co) (.slice x1 x2 x3) rfl zeroPk (.slice none 0 0) (.slice none 0 0) (by exact HB28.out) HMA.out ⟨rfl, rfl⟩ rfl rfl ?_; refine Hid.out ?_))
      refine Lib.hid ?_
      intro w9 hb9 haw9
      have HB9 := Lib.hid hb9
      have HA9 : Hid (Away [] w w9) := HA8.out.next haw9 (fun x hx => .inr (by simp at hx; rw [hx]; exact hn2))
      have HO9 := Lib.hid (HO8.out.away haw9 (fun k hk => by simpa using (HV7.out k hk).2.1))
      have HOO9 := Lib.hid (HOO8.out.away haw9 (fun k hk => by simpa using (HO1.out k hk).2.1))
      clear hb9 haw9
      go_wp2_with fail
      refine bodyPost_ret (result28 rfl _ _ _ _ _ _ rfl HB9.out HMA.out) rfl ⟨_, _, rfl, ⟨?_, ?_, HNO.out, HN7.out, fun k hk e => (HV7.out k e).2.2.2 hk⟩, HA9.out⟩
      · rw [← HEND.out]; exact HOO9.out
      · rw [← HEND.out]; exact HO9.out
#print axioms mended_c
end Go.Proofs.YtkfbhofbajejiaaDoor
