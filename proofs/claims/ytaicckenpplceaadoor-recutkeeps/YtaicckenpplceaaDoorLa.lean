/-
  lent and whole of the laws.
-/
import Derived.Test.YtaicckenpplceaaDoorMkB
import Derived.Test.YtaicckenpplceaaDoorLawM
import Derived.Test.YtaicckenpplceaaDoorRg
namespace Go.Proofs.YtaicckenpplceaaDoor
open Go.ChangeShapes Go.WideShapes Go.ChangeAt Go.RowKit Num
set_option linter.unusedVariables false
set_option linter.unusedSimpArgs false
set_option maxHeartbeats 8000000
set_option maxRecDepth 100000
namespace R
/-- A list with marked room behind it. -/
def Ln (B : Nat) (w : World) (v : Value) (l : List Int) : Prop := ∃ g cap, v = .slice (some ⟨g, 0, none⟩) l.length cap ∧ Owns w (.slice (some ⟨g, 0, none⟩) (l.length + 2) cap) (l ++ [171, 172]) ∧ B ≤ g
theorem Ln.away {S : List Nat} {B : Nat} {w w' : World} {v : Value} {l : List Int} (h : Ln B w v l) (hw : Away S w w') (hS : ∀ k, v.ownBlock = some k → k ∉ S) : Ln B w' v l := by
  obtain ⟨g, cap, rfl, h1, h2⟩ := h
  exact ⟨g, cap, rfl, h1.away hw (fun k hk => hS k (by simpa [Value.ownBlock] using hk)), h2⟩
theorem Ln.on {B : Nat} {w w' : World} {v : Value} {l : List Int} (h : Ln B w v l) (hw : Away [] w w') : Ln B w' v l := h.away hw (by simp)
theorem Ln.one {B : Nat} {w : World} {v : Value} {l : List Int} (h : Ln B w v l) : v.oneCell' = true := by obtain ⟨g, cap, rfl, _⟩ := h; rfl
theorem Ln.mono {B C : Nat} {w : World} {v : Value} {l : List Int} (h : Ln B w v l) (hc : C ≤ B) : Ln C w v l := by obtain ⟨g, cap, rfl, h1, h2⟩ := h; exact ⟨g, cap, rfl, h1, Nat.le_trans hc h2⟩
theorem Ln.lt {B : Nat} {w : World} {v : Value} {l : List Int} (h : Ln B w v l) : ∀ k, v.ownBlock = some k → B ≤ k ∧ k < w.heap.size := fun k hk => by
  obtain ⟨g, cap, rfl, h1, h2⟩ := h
  simp [Value.ownBlock] at hk; subst hk
  exact ⟨h2, h1.lt _ (by simp [Value.ownBlock])⟩
theorem Ln.sl {B : Nat} {w : World} {v : Value} {l : List Int} (h : Ln B w v l) (hb : Bytes l) (hl : l.length ≤ 140737488355328) : Sl w v l := by
  obtain ⟨g, cap, rfl, h1, h2⟩ := h
  have := Mk.Owns.head h1 (k := l.length) (by omega)
  rw [List.take_left] at this
  exact this.sl hb hl
/-- A packet lent. -/
structure Lnt (B : Nat) (w : World) (p : Pk) (ov dv : Value) : Prop where
  o : Ln B w ov p.o
  d : Ln B w dv p.d
  ap : ∀ k, ov.ownBlock = some k → dv.ownBlock ≠ some k
theorem Lnt.on {B : Nat} {w w' : World} {p : Pk} {ov dv : Value} (h : Lnt B w p ov dv) (hw : Away [] w w') : Lnt B w' p ov dv := ⟨h.o.on hw, h.d.on hw, h.ap⟩
theorem Lnt.away {S : List Nat} {B : Nat} {w w' : World} {p : Pk} {ov dv : Value} (h : Lnt B w p ov dv) (hw : Away S w w') (hS : ∀ k, ov.ownBlock = some k ∨ dv.ownBlock = some k → k ∉ S) : Lnt B w' p ov dv := ⟨h.o.away hw (fun k hk => hS k (.inl hk)), h.d.away hw (fun k hk => hS k (.inr hk)), h.ap⟩
theorem Lnt.pkt {B : Nat} {w : World} {p : Pk} {ov dv : Value} (h : Lnt B w p ov dv) (hw : Wf p) : Pkt w p ov dv := ⟨hw, h.o.sl hw.o hw.ol, h.d.sl hw.d hw.dn⟩
theorem Lnt.lt {B : Nat} {w : World} {p : Pk} {ov dv : Value} (h : Lnt B w p ov dv) : ∀ k, ov.ownBlock = some k ∨ dv.ownBlock = some k → B ≤ k ∧ k < w.heap.size := fun k hk => by
  rcases hk with hk | hk
  · exact h.o.lt k hk
  · exact h.d.lt k hk
theorem put26 (w : World) (ad : Addr) (b : Option Addr) (n c : Nat) (u : Value) (hc : w.cell? ad = some u) (hf : w.frozen? ad = false) : (Instr.storeAt 26 (.pointer (some ad)) (.slice b n c)).run Tryd.prog w = .ok () (w.setCell ad (.slice b n c)) := by
  simp [go_sem, Instr.storeAt, Instr.sureAddr, storeVar, hc, hf]
theorem BoxP.some' {w : World} {g : Nat} {p : Pk} {ov dv : Value} (h : BoxP w g p ov dv) (ha : Ad p) {i : Nat} (hi : i < 46) : ∃ u, w.cell? ⟨g, i, none⟩ = some u := by
  rw [cell_of_block h]
  exact ⟨(csP p ov dv)[i]'(by rw [csP_size ha]; exact hi), by simp [csP_size ha, hi]⟩
theorem wpList_putF {ops : Array Oper} {rest : List Oper} {o : Oper} {a : Act} {w : World} {Q : Exit → Act → World → Prop} (hw : Region.wanted o (yielded ops a.tmps) = true) (t : TypeId) (x y : Operand) (ho : o.op = .store t x y) (g i : Nat) (hx : a.eval x = .pointer (some ⟨g, i, none⟩)) (v : Value) (hy : a.eval y = v)
    (hst : ∀ u, w.cell? ⟨g, i, none⟩ = some u → w.frozen? ⟨g, i, none⟩ = false → (Instr.storeAt t (.pointer (some ⟨g, i, none⟩)) v).run Tryd.prog w = .ok () (w.setCell ⟨g, i, none⟩ v))
    (p q : Pk) (ov dv ou du : Value) (hb : BoxP w g p ov dv) (ha : Ad p) (hi : i < 46) (hset : (csP p ov dv).setIfInBounds i v = csP q ou du)
    (h : ∀ w1, BoxP w1 g q ou du → Away [g] w w1 → wpList Tryd.prog ops Q rest (a.put o.dst undef) w1) : wpList Tryd.prog ops Q (o :: rest) a w := by
  obtain ⟨u, hu⟩ := BoxP.some' hb ha hi
  have e := hst u hu (free_of_block hb i)
  refine BigFrame.wpList_want hw fun K hK => ?_
  unfold Oper.wp execOp
  simp only [ho, hx, hy, Sem.run_bind, e, Result.andThen_ok, Sem.run_pure]
  exact hK _ _ (h _ (hb.put i v hset) (away_put i v))
def LentOut (w : World) (p : Pk) (E : Ending) (w' : World) : Prop := ∃ ou du, E = .returned (.agg (csP p ou du)) ∧ Lnt w.heap.size w' p ou du ∧ Away [] w w'
theorem two172 : Bytes [171, 172] := by unfold Bytes; decide
theorem lent_c (p : Pk) (ov dv : Value) (w : World) (hp : Pkt w p ov dv) (hol : p.o.length ≤ 140737488351232) (hdl : p.d.length ≤ 140737488351232) :
    Calls Tryd.prog 21 #[.agg (csP p ov dv)] w fun E w' => LentOut w p E w' := by
  have HAD := Lib.hid hp.wf.ad
  have HO := Lib.hid hp.o; have HD := Lib.hid hp.d
  obtain ⟨o1, o2, hoe, -, -, -⟩ := hp.o
  obtain ⟨o3, o4, hde, -, -, -⟩ := hp.d
  rw [hoe] at HO ⊢
  rw [hde] at HD ⊢
  clear hoe hde hp
  go_enter Tryd.func21, Tryd.ntmps21
  go_wp2_with (refine wpList_box28 rfl _ rfl p _ _ rfl ?_; refine Hid.out ?_)
  refine Lib.hid ?_
  intro g1 w1 hg1 hb1 haw
  have HB1 := Lib.hid hb1; have HA := Lib.hid haw
  have hl1 := hb1.lt
  clear hb1 haw
  go_wp2_with (refine wpList_alloc28 rfl rfl ?_; refine Hid.out ?_)
  refine Lib.hid ?_
  intro g2 w2 hg2 hb2 haw
  have HB2 := Lib.hid hb2
  replace HB1 := Lib.hid (HB1.out.on haw)
  replace HA := Lib.hid (HA.out.on haw)
  have hl2 := hb2.lt
  have hs2 := haw.size
  have hne : g1 ≠ g2 := by omega
  clear hb2 haw
  have c44 := (HB1.out.cells HAD.out).o
  have HSRC := Lib.hid (HO.out.on HA.out)
  have hzA := HA.out.size
  go_wp2_with (refine wpList_appAny rfl _ _ rfl _ _ p.o rfl (Owns.nil _) _ rfl (by exact HSRC.out) (by simp; omega) ?_; refine Hid.out ?_)
  refine Lib.hid ?_
  intro vA w3 hown haway hmoved hsz
  have ha : Away [] w2 w3 := haway [] w2 (Away.refl _ _) (by simp [Value.ownBlock])
  have hn1 : New w2.heap.size vA := fun k hk => by rcases hmoved k hk with h | h; simp [Value.ownBlock] at h; exact h
  have hown1 : Owns w3 vA p.o := by simpa using hown
  obtain ⟨x1, x2, x3, hv⟩ := hown1.shp
  subst hv
  replace HB1 := Lib.hid (HB1.out.on ha)
  replace HB2 := Lib.hid (HB2.out.on ha)
  replace HA := Lib.hid (HA.out.on ha)
  have HO1 := Lib.hid hown1; have HN1 := Lib.hid hn1
  have hsaA := ha.size
  clear c44 HSRC hown haway hmoved ha hown1 hn1 hsz
  go_wp2_with (at_builtin; refine wpList_app rfl _ _ rfl _ p.o [171, 172] rfl (by exact HO1.out.away ((Away.refl [] _).alloc _) (by simp)) ⟨w3.heap.size, 0, none⟩ 2 2 rfl rfl (lit_cells _ [171, 172] _ rfl) (by omega) ?_; refine Hid.out ?_)
  refine Lib.hid ?_
  intro vv w4 hown hgr hmv
  have haw2 := (Away.refl (Value.slice x1 x2 x3).ownBlock.toList _).grown hgr (fun k hk => .inl (by simp [hk]))
  have haw3 : Away (Value.slice x1 x2 x3).ownBlock.toList w3 w4 := ((Away.refl _ w3).alloc _).trans haw2
  have HNA : Hid (New w2.heap.size vv) := HN1.out.moved hmv (by simp; omega)
  replace HB1 := Lib.hid (HB1.out.away haw3 (fun hc => by have := HN1.out _ (by simpa using hc); omega))
  replace HB2 := Lib.hid (HB2.out.away haw3 (fun hc => by have := HN1.out _ (by simpa using hc); omega))
  replace HA := Lib.hid (HA.out.next haw3 (fun x hx => .inr (by have := HN1.out x (by simpa using hx); omega)))
  have hsbA := haw3.size
  obtain ⟨gA, kA, hvv⟩ : ∃ g k, vv = .slice (some ⟨g, 0, none⟩) (p.o.length + 2) k := by
    rcases Mk.Owns.two hown with ⟨-, h2⟩ | ⟨g, c, h2⟩
    · simp at h2
    · exact ⟨g, c, by rw [h2]; simp⟩
  subst hvv
  have HOA := Lib.hid hown
  obtain ⟨cur, -, -, hcapA, -, -⟩ := Mk.Owns.blk hown
  obtain ⟨nA, hnA⟩ : ∃ n, n = p.o.length := ⟨_, rfl⟩
  have HLA : Hid (p.o.length = nA) := hnA.symm
  rw [← hnA] at hcapA HOA HNA hol ⊢
  have HGA : Hid (∀ k, (Value.slice (some ⟨gA, 0, none⟩) (nA + 2) kA).ownBlock = some k → k < w4.heap.size) := HOA.out.lt
  clear hown hgr hmv haw2 haw3 HO1 HN1 hnA
  have c45 := (HB1.out.cells HAD.out).d
  have HSRC := Lib.hid (HD.out.on HA.out)
  have hzB := HA.out.size
  go_wp2_with (refine wpList_appAny rfl _ _ rfl _ _ p.d rfl (Owns.nil _) _ rfl (by exact HSRC.out) (by simp; omega) ?_; refine Hid.out ?_)
  refine Lib.hid ?_
  intro vB w5 hown haway hmoved hsz
  have ha : Away [] w4 w5 := haway [] w4 (Away.refl _ _) (by simp [Value.ownBlock])
  have hn1 : New w4.heap.size vB := fun k hk => by rcases hmoved k hk with h | h; simp [Value.ownBlock] at h; exact h
  have hown1 : Owns w5 vB p.d := by simpa using hown
  obtain ⟨x1, x2, x3, hv⟩ := hown1.shp
  subst hv
  replace HB1 := Lib.hid (HB1.out.on ha)
  replace HB2 := Lib.hid (HB2.out.on ha)
  replace HA := Lib.hid (HA.out.on ha)
  replace HOA := Lib.hid (HOA.out.away ha (by simp))
  have HO1 := Lib.hid hown1; have HN1 := Lib.hid hn1
  have hsaB := ha.size
  clear c45 HSRC hown haway hmoved ha hown1 hn1 hsz
  go_wp2_with (at_builtin; refine wpList_app rfl _ _ rfl _ p.d [171, 172] rfl (by exact HO1.out.away ((Away.refl [] _).alloc _) (by simp)) ⟨w5.heap.size, 0, none⟩ 2 2 rfl rfl (lit_cells _ [171, 172] _ rfl) (by omega) ?_; refine Hid.out ?_)
  refine Lib.hid ?_
  intro vv w6 hown hgr hmv
  have haw2 := (Away.refl (Value.slice x1 x2 x3).ownBlock.toList _).grown hgr (fun k hk => .inl (by simp [hk]))
  have haw3 : Away (Value.slice x1 x2 x3).ownBlock.toList w5 w6 := ((Away.refl _ w5).alloc _).trans haw2
  have HNB : Hid (New w4.heap.size vv) := HN1.out.moved hmv (by simp; omega)
  replace HB1 := Lib.hid (HB1.out.away haw3 (fun hc => by have := HN1.out _ (by simpa using hc); omega))
  replace HB2 := Lib.hid (HB2.out.away haw3 (fun hc => by have := HN1.out _ (by simpa using hc); omega))
  replace HA := Lib.hid (HA.out.next haw3 (fun x hx => .inr (by have := HN1.out x (by simpa using hx); omega)))
  replace HOA := Lib.hid (HOA.out.away haw3 (fun k hk hc => by have h1 := HN1.out k (by simpa using hc); have h2 := HGA.out k hk; omega))
  have hsbB := haw3.size
  obtain ⟨gB, kB, hvv⟩ : ∃ g k, vv = .slice (some ⟨g, 0, none⟩) (p.d.length + 2) k := by
    rcases Mk.Owns.two hown with ⟨-, h2⟩ | ⟨g, c, h2⟩
    · simp at h2
    · exact ⟨g, c, by rw [h2]; simp⟩
  subst hvv
  have HOB := Lib.hid hown
  obtain ⟨cur, -, -, hcapB, -, -⟩ := Mk.Owns.blk hown
  obtain ⟨nB, hnB⟩ : ∃ n, n = p.d.length := ⟨_, rfl⟩
  have HLB : Hid (p.d.length = nB) := hnB.symm
  rw [← hnB] at hcapB HOB HNB hdl ⊢
  have HGB : Hid (∀ k, (Value.slice (some ⟨gB, 0, none⟩) (nB + 2) kB).ownBlock = some k → k < w6.heap.size) := HOB.out.lt
  clear hown hgr hmv haw2 haw3 HO1 HN1 hnB
  -- o
  have hsl1 := slice_h (some ⟨gA, 0, none⟩) (nA + 2) kA nA (nA : Int) rfl (by omega)
  have e1 : ((nA + 2 : Nat) : Int) - 2 = (nA : Int) := by omega
  have e1' : (nA : Int) + 2 - 2 = (nA : Int) := by omega
  go_wp2_with (refine wpList_putF rfl 26 _ _ rfl g1 44 rfl (.slice (some ⟨gA, 0, none⟩) nA kA) rfl (fun u h1 h2 => put26 _ _ _ _ _ u h1 h2) p p _ _ _ _ (by exact HB1.out) (by exact HAD.out) (by omega) (by exact (csP_set (p := p) HAD.out _ _).2.2.2.2.2.2.2.2.2.2.2.2.1 p.o _) ?_; refine Hid.out ?_)
  refine Lib.hid ?_
  intro w7 hb haw
  have hs7 := haw.size
  replace HB1 := Lib.hid hb
  replace HB2 := Lib.hid (HB2.out.away haw (by simp; omega))
  replace HOA := Lib.hid (HOA.out.away haw (fun k hk => by have := HNA.out k hk; simp; omega))
  replace HOB := Lib.hid (HOB.out.away haw (fun k hk => by have := HNB.out k hk; simp; omega))
  replace HA := Lib.hid (HA.out.next haw (fun x hx => .inr (by simp at hx; omega)))
  clear hb haw hsl1
  have hsl2 := slice_h (some ⟨gB, 0, none⟩) (nB + 2) kB nB (nB : Int) rfl (by omega)
  have e2 : ((nB + 2 : Nat) : Int) - 2 = (nB : Int) := by omega
  have e2' : (nB : Int) + 2 - 2 = (nB : Int) := by omega
  go_wp2_with (refine wpList_putF rfl 26 _ _ rfl g1 45 rfl (.slice (some ⟨gB, 0, none⟩) nB kB) rfl (fun u h1 h2 => put26 _ _ _ _ _ u h1 h2) p p _ _ _ _ (by exact HB1.out) (by exact HAD.out) (by omega) (by exact (csP_set (p := p) HAD.out _ _).2.2.2.2.2.2.2.2.2.2.2.2.2 p.d _) ?_; refine Hid.out ?_)
  refine Lib.hid ?_
  intro w8 hb haw
  replace HB1 := Lib.hid hb
  replace HB2 := Lib.hid (HB2.out.away haw (by simp; omega))
  replace HOA := Lib.hid (HOA.out.away haw (fun k hk => by have := HNA.out k hk; simp; omega))
  replace HOB := Lib.hid (HOB.out.away haw (fun k hk => by have := HNB.out k hk; simp; omega))
  replace HA := Lib.hid (HA.out.next haw (fun x hx => .inr (by simp at hx; omega)))
  have hs8 := haw.size
  clear hb haw hsl2
  go_wp2_with (first
    | (refine wpList_load28 rfl _ rfl g1 rfl p _ _ (by exact HB1.out) HAD.out ?_)
    | (refine wpList_store28 rfl _ _ rfl g2 rfl p (.slice (some ⟨gA, 0, none⟩) nA kA) (.slice (some ⟨gB, 0, none⟩) nB kB) rfl zeroPk (.slice none 0 0) (.slice none 0 0) (by exact HB2.out) HAD.out ⟨rfl, rfl⟩ rfl rfl ?_; refine Hid.out ?_))
  refine Lib.hid ?_
  intro w9 hb haw
  replace HB2 := Lib.hid hb
  replace HOA := Lib.hid (HOA.out.away haw (fun k hk => by have := HNA.out k hk; simp; omega))
  replace HOB := Lib.hid (HOB.out.away haw (fun k hk => by have := HNB.out k hk; simp; omega))
  replace HA := Lib.hid (HA.out.next haw (fun x hx => .inr (by simp at hx; omega)))
  clear hb haw
  go_wp2_with fail
  refine bodyPost_ret (result28 rfl _ _ _ _ _ _ rfl HB2.out HAD.out) rfl ⟨_, _, rfl, ⟨⟨gA, kA, by rw [HLA.out], by rw [HLA.out]; exact HOA.out, by have := HNA.out gA rfl; omega⟩, ⟨gB, kB, by rw [HLB.out], by rw [HLB.out]; exact HOB.out, by have := HNB.out gB rfl; omega⟩, fun k hk hc => ?_⟩, HA.out⟩
  have h1 := HNB.out k (by simpa [Value.ownBlock] using hc)
  have h2 := HGA.out k (by simpa [Value.ownBlock] using hk)
  omega
/-- It is as it was, and its room. -/
theorem whole_c (p : Pk) (B : Nat) (ov dv ou du : Value) (w : World) (hl : Lnt B w p ov dv) (hw : Wf p) (hq : Pkt w p ou du) (hol : p.o.length ≤ 140737488351232) (hdl : p.d.length ≤ 140737488351232) :
    Calls Tryd.prog 22 #[.agg (csP p ov dv), .agg (csP p ou du)] w fun E w' => E = .returned (.bool true) ∧ Away [] w w' := by
  have HAD := Lib.hid hw.ad
  have HL := Lib.hid hl
  have HQ := Lib.hid hq
  have HW := Lib.hid hw
  obtain ⟨ga, ka, hga, hoa, -⟩ := hl.o
  obtain ⟨gb, kb, hgb, hob, -⟩ := hl.d
  obtain ⟨qa, qc, hqo, -⟩ := hq.o
  obtain ⟨qb, qe, hqd, -⟩ := hq.d
  obtain ⟨n, hn⟩ : ∃ n, n = p.o.length := ⟨_, rfl⟩
  obtain ⟨k, hk⟩ : ∃ k, k = p.d.length := ⟨_, rfl⟩
  have HNL : Hid (p.o.length = n) := hn.symm
  have HKL : Hid (p.d.length = k) := hk.symm
  rw [← hn] at hga hoa hqo hol
  rw [← hk] at hgb hob hqd hdl
  subst hga; subst hgb; subst hqo; subst hqd
  have HOA := Lib.hid hoa; have HOB := Lib.hid hob
  obtain ⟨cur, -, -, hca, -, -⟩ := Mk.Owns.blk hoa
  obtain ⟨cur', -, -, hcb, -, -⟩ := Mk.Owns.blk hob
  have KS : Hid (∀ w', Away [] w w' → Calls Tryd.prog 16 #[.agg (csP p (.slice (some ⟨ga, 0, none⟩) n ka) (.slice (some ⟨gb, 0, none⟩) k kb)), .agg (csP p (.slice qa n qc) (.slice qb k qe))] w' fun E w'' => E = .returned (.bool true) ∧ Away [] w' w'') := fun w' h => Same_yes p _ _ _ _ w' ((HL.out.pkt HW.out).on h) (HQ.out.on h)
  clear hl hq hw hoa hob hn hk
  go_enter Tryd.func22, Tryd.ntmps22
  go_wp2_with (refine wpList_box28 rfl _ rfl p _ _ rfl ?_; refine Hid.out ?_)
  refine Lib.hid ?_
  intro g2 w1 hg2 hb haw
  have HB2 := Lib.hid hb; have HA := Lib.hid haw
  clear hb haw hg2
  go_wp2_with (refine wpList_box28 rfl _ rfl p _ _ rfl ?_; refine Hid.out ?_)
  refine Lib.hid ?_
  intro g3 w2 hg3 hb haw
  have HB3 := Lib.hid hb
  replace HB2 := Lib.hid (HB2.out.on haw)
  replace HA := Lib.hid (HA.out.on haw)
  clear hb haw hg3
  have c44 := (HB3.out.cells HAD.out).o
  have c45 := (HB3.out.cells HAD.out).d
  go_wp2_with (first
    | (refine wpList_load28 rfl _ rfl g2 rfl p _ _ (by exact HB2.out) HAD.out ?_)
    | (refine wpList_load28 rfl _ rfl g3 rfl p _ _ (by exact HB3.out) HAD.out ?_)
    | (go_at_call 16; refine (KS.out _ HA.out).mono ?_; refine Hid.out ?_))
  refine Lib.hid ?_
  first | rintro E w3 rfl haw | rintro E w3 ⟨rfl, haw⟩
  replace HB2 := Lib.hid (HB2.out.on haw)
  replace HA := Lib.hid (HA.out.on haw)
  clear haw KS c44 c45
  have d44 := (HB2.out.cells HAD.out).o
  have d45 := (HB2.out.cells HAD.out).d
  have ho := HOA.out.away HA.out (by simp)
  have hd := HOB.out.away HA.out (by simp)
  have a0 := (ho.cells n (by simp [HNL.out])).1
  have a1 := (ho.cells (n + 1) (by simp [HNL.out])).1
  have b0 := (hd.cells k (by simp [HKL.out])).1
  have b1 := (hd.cells (k + 1) (by simp [HKL.out])).1
  have ea0 : (p.o ++ [171, 172])[n]?.getD 0 = 171 := by rw [List.getElem?_append_right (by rw [HNL.out]; exact Nat.le_refl _), HNL.out, Nat.sub_self]; rfl
  have ea1 : (p.o ++ [171, 172])[n + 1]?.getD 0 = 172 := by rw [List.getElem?_append_right (by rw [HNL.out]; omega), HNL.out, Nat.add_sub_cancel_left]; rfl
  have eb0 : (p.d ++ [171, 172])[k]?.getD 0 = 171 := by rw [List.getElem?_append_right (by rw [HKL.out]; exact Nat.le_refl _), HKL.out, Nat.sub_self]; rfl
  have eb1 : (p.d ++ [171, 172])[k + 1]?.getD 0 = 172 := by rw [List.getElem?_append_right (by rw [HKL.out]; omega), HKL.out, Nat.add_sub_cancel_left]; rfl
  rw [ea0] at a0; rw [ea1] at a1; rw [eb0] at b0; rw [eb1] at b1
  have s1 := slice_h (some ⟨ga, 0, none⟩) n ka (n + 2) ((n : Int) + 2) (by omega) hca
  have s2 := slice_h (some ⟨gb, 0, none⟩) k kb (k + 2) ((k : Int) + 2) (by omega) hcb
  clear ho hd ea0 ea1 eb0 eb1
  have i1 : 0 ≤ (n : Int) := by omega
  have i2 : (n : Int) < ((n + 2 : Nat) : Int) := by omega
  have i3 : ((n : Int)).toNat = n := by omega
  have i4 : ((n : Int) + 1).toNat = n + 1 := by omega
  have i5 : (n : Int) + 1 < ((n + 2 : Nat) : Int) := by omega
  have i6 : 0 ≤ (n : Int) + 1 := by omega
  have j1 : 0 ≤ (k : Int) := by omega
  have j2 : (k : Int) < ((k + 2 : Nat) : Int) := by omega
  have j3 : ((k : Int)).toNat = k := by omega
  have j4 : ((k : Int) + 1).toNat = k + 1 := by omega
  have j5 : (k : Int) + 1 < ((k + 2 : Nat) : Int) := by omega
  have j6 : 0 ≤ (k : Int) + 1 := by omega
  go_wp2_with fail
  go_ret
  exact ⟨rfl, HA.out⟩
end R
end Go.Proofs.YtaicckenpplceaaDoor
