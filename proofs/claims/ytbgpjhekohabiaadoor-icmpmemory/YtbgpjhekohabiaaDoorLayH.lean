/-
  layHead.
-/
import Derived.Test.YtbgpjhekohabiaaDoorRgt
import Derived.Test.YtbgpjhekohabiaaDoorWrite
namespace Go.Proofs.YtbgpjhekohabiaaDoor
open Go.ChangeShapes Go.WideShapes Go.ChangeAt Go.RowKit Num
set_option linter.unusedVariables false
set_option maxHeartbeats 4000000
set_option maxRecDepth 100000

/-- A writer at work beside a packet in a box. -/
structure Lay (W0 w : World) (B gw gp : Nat) (v0 v : Value) (p : Pk) (ov dv : Value) (l : List Int) : Prop where
  wr : Wr w gw v 65535 l 0
  new : New B v
  gB : B ≤ gw
  box : BoxP w gp p ov dv
  g1 : gp ≠ gw
  g2 : ∀ k, v.ownBlock = some k → k ≠ gp
  o : Sl w ov p.o
  d : Sl w dv p.d
  ob : Old B ov p.o
  db : Old B dv p.d
  aw : Away (fp gw v0) W0 w
  mv : Moved W0 v0 v
  lB : B ≤ w.heap.size
theorem Lay.step {W0 w w' : World} {B gw gp : Nat} {v0 v : Value} {p : Pk} {ov dv : Value} {l m : List Int} {E : Ending} (h : Lay W0 w B gw gp v0 v p ov dv l) (k : Wrote w gw v 65535 m 0 E w') :
    E = .returned (.tuple #[]) ∧ ∃ v', Lay W0 w' B gw gp v0 v' p ov dv m := by
  obtain ⟨rfl, v', hwr, hmv, haw⟩ := k
  have hlt := h.box.lt
  have hs := haw.size
  have hs0 := h.aw.size
  have hfp : ∀ x ∈ fp gw v, x = gw ∨ v.ownBlock = some x := by
    intro x hx; simp [fp] at hx; exact hx
  refine ⟨rfl, v', hwr, h.new.moved hmv h.lB, h.gB, h.box.away haw (fun hx => ?_), h.g1, fun k hk e => ?_, h.o.away haw (fun hl k hk hx => ?_), h.d.away haw (fun hl k hk hx => ?_), h.ob, h.db, h.aw.next haw (fun x hx => ?_), fun k hk => ?_, Nat.le_trans h.lB hs⟩
  · rcases hfp _ hx with e | e
    · exact h.g1 e
    · exact h.g2 _ e rfl
  · rcases hmv k hk with e' | e'
    · exact h.g2 _ e' e
    · omega
  · have := h.ob hl k hk
    rcases hfp _ hx with e | e
    · have := h.gB; omega
    · have := h.new _ e; omega
  · have := h.db hl k hk
    rcases hfp _ hx with e | e
    · have := h.gB; omega
    · have := h.new _ e; omega
  · rcases hfp _ hx with e | e
    · exact .inl (by rw [e]; exact fp_self _ _)
    · rcases h.mv _ e with e' | e'
      · exact .inl (fp_own e')
      · exact .inr e'
  · rcases hmv k hk with e | e
    · exact h.mv k e
    · right; omega
theorem Lay.on {W0 w w' : World} {B gw gp : Nat} {v0 v : Value} {p : Pk} {ov dv : Value} {l : List Int} (h : Lay W0 w B gw gp v0 v p ov dv l) (haw : Away [] w w') : Lay W0 w' B gw gp v0 v p ov dv l :=
  ⟨h.wr.away haw (by simp) (by simp), h.new, h.gB, h.box.on haw, h.g1, h.g2, h.o.on haw, h.d.on haw, h.ob, h.db, h.aw.next haw (by simp), h.mv, Nat.le_trans h.lB haw.size⟩
theorem fits {l m : List Int} (h : l.length + m.length ≤ 65535) : wrAll l 0 65535 m = l ++ m := by unfold wrAll; rw [if_pos ⟨rfl, by omega⟩]
theorem fitsE {l : List Int} (n : Nat) (h : l.length + n ≤ 65535) : wrErr l 0 65535 n = 0 := by unfold wrErr; rw [if_pos rfl, if_pos (by omega)]
/-- What a write in a layer's walk did. -/
def Laid (W0 : World) (B gw gp : Nat) (v0 : Value) (p : Pk) (ov dv : Value) (m : List Int) (E : Ending) (w' : World) : Prop := E = .returned (.tuple #[]) ∧ ∃ v', Lay W0 w' B gw gp v0 v' p ov dv m
theorem lay8 {W0 w : World} {B gw gp : Nat} {v0 v : Value} {p : Pk} {ov dv : Value} {l : List Int} (h : Lay W0 w B gw gp v0 v p ov dv l) (x : Int) (hx : 0 ≤ x) (hx' : x ≤ 255) (hf : l.length + 1 ≤ 65535) :
    Calls Tryd.prog 31 #[.pointer (some ⟨gw, 0, none⟩), .int .u8 x] w fun E w' => Laid W0 B gw gp v0 p ov dv (l ++ [x]) E w' := by
  have := w8_any w gw v 65535 l 0 x h.wr hx hx'
  rw [fits (m := [x]) (by simpa using hf), show (1 : Int) = ((1 : Nat) : Int) from rfl, fitsE 1 hf] at this
  exact this.mono fun E w' hk => h.step hk
theorem lay16 {W0 w : World} {B gw gp : Nat} {v0 v : Value} {p : Pk} {ov dv : Value} {l : List Int} (h : Lay W0 w B gw gp v0 v p ov dv l) (x : Int) (hx : 0 ≤ x) (hx' : x ≤ 65535) (hf : l.length + 2 ≤ 65535) :
    Calls Tryd.prog 32 #[.pointer (some ⟨gw, 0, none⟩), .int .u16 x] w fun E w' => Laid W0 B gw gp v0 p ov dv (l ++ [x / 256, x % 256]) E w' := by
  have := w16_any w gw v 65535 l 0 x h.wr hx hx'
  rw [fits (m := [x / 256, x % 256]) (by simpa using hf), show (2 : Int) = ((2 : Nat) : Int) from rfl, fitsE 2 hf] at this
  exact this.mono fun E w' hk => h.step hk
theorem layB {W0 w : World} {B gw gp : Nat} {v0 v : Value} {p : Pk} {ov dv : Value} {l : List Int} (h : Lay W0 w B gw gp v0 v p ov dv l) (a : Option Addr) (m : List Int) (n cap : Nat) (hn : m.length = n) (ha : a = none → cap = 0) (hr : Row w a m) (hf : l.length + m.length ≤ 65535) :
    Calls Tryd.prog 34 #[.pointer (some ⟨gw, 0, none⟩), .slice a n cap] w fun E w' => Laid W0 B gw gp v0 p ov dv (l ++ m) E w' := by
  have := wbytes_any w gw v 65535 l 0 a m n cap h.wr hn ha hr
  rw [fits hf, fitsE _ hf] at this
  exact this.mono fun E w' hk => h.step hk

theorem or64n : ∀ n : Nat, n < 16 → bits .or .i64 64 (n : Int) = 64 + n := by decide
theorem or64 (q : Int) (h0 : 0 ≤ q) (h1 : q < 16) : bits .or .i64 64 q = 64 + q := by
  obtain ⟨n, rfl⟩ := Int.eq_ofNat_of_zero_le h0
  exact or64n n (by omega)
theorem layHead_c (w : World) (B gw : Nat) (v : Value) (p : Pk) (ov dv : Value) (hp : Pkt w p ov dv) (hf : Formed p) (hv : p.o.length ≤ 40) (hwr : Wr w gw v 65535 [] 0) (hB : B ≤ gw) (hnew : New B v) (hob : Old B ov p.o) (hdb : Old B dv p.d) (hBs : B ≤ w.heap.size) :
    Calls Tryd.prog 45 #[.pointer (some ⟨gw, 0, none⟩), .agg (csP p ov dv)] w fun E w' => Wrote w gw v 65535 (hd p 0 0) 0 E w' := by
  have ha := hp.wf.ad
  obtain ⟨hwf, ho, hd⟩ := hp
  have hol := hv
  have hall := hf.all
  have q0 := hf.t0; have q1 := hf.t1; have q2 := hf.l0; have q3 := hf.l1; have q4 := hf.r0; have q5 := hf.r1; have q6 := hwf.id0; have q7 := hf.id
  have hor := or64 ((20 + (p.o.length : Int)) / 4) (by omega) (by omega)
  have KF : Hid (∀ w', Calls Tryd.prog 72 #[.agg (csP p ov dv)] w' fun E w'' => E = .returned (.int .u16 (flagP p)) ∧ Away [] w' w'') := fun w' => flags_c p ov dv w' ha hf.o0 hf.o1
  have hfl := flag_bd hf
  obtain ⟨f0, f1⟩ := hfl
  have sl := hwf.sl; have sb := hwf.sb; have dl := hwf.dl; have db := hwf.db
  have HW : Hid (Wr w gw v 65535 [] 0) := hwr
  have HO : Hid (Sl w ov p.o) := ho
  have HD : Hid (Sl w dv p.d) := hd
  obtain ⟨ao, capo, rfl, -⟩ := ho
  obtain ⟨ad, capd, rfl, -⟩ := hd
  have HAD : Hid (Ad p) := ha
  have HNW : Hid (New B v ∧ Old B (.slice ao p.o.length capo) p.o ∧ Old B (.slice ad p.d.length capd) p.d) := ⟨hnew, hob, hdb⟩
  clear hwr hf hwf ha hnew hob hdb
  go_enter Tryd.func45, Tryd.ntmps45
  go_wp2_with (refine wpList_box28 rfl _ rfl p _ _ rfl ?_; refine Hid.out ?_)
  refine Lib.hid ?_
  intro g w1 hg hb haw
  have HL : Hid (Lay w w1 B gw g v v p (.slice ao p.o.length capo) (.slice ad p.d.length capd) []) :=
    ⟨HW.out.away haw (by simp) (by simp), HNW.out.1, hB, hb, by have := HW.out.lt.1; omega, fun k hk => by have := HW.out.lt.2 k hk; omega, HO.out.on haw, HD.out.on haw, HNW.out.2.1, HNW.out.2.2, haw.mono (by simp), Moved.refl _ _, by have := haw.size; omega⟩
  clear HW HO HD HNW hb haw hg
  have hc := HL.out.box.cells HAD.out
  have c7 := hc.o
  clear hc
  go_wp2_with fail
  refine (lay8 HL.out _ (by omega) (by omega) (by simp)).mono ?_
  rintro E w2 ⟨rfl, v2, hL⟩
  have HLn := Lib.hid hL
  clear HL hL
  have HL := HLn
  clear HLn
  have c2 := (HL.out.box.cells HAD.out).tos
  go_wp2_with fail
  refine (lay8 HL.out _ (by omega) (by omega) (by simp)).mono ?_
  rintro E w3 ⟨rfl, v3, hL⟩
  have HLn := Lib.hid hL
  clear HL hL
  have HL := HLn
  clear HLn
  have c3 := (HL.out.box.cells HAD.out).d
  go_wp2_with fail
  refine (lay16 HL.out _ (by omega) (by omega) (by simp)).mono ?_
  rintro E w4 ⟨rfl, v4, hL⟩
  have HLn := Lib.hid hL
  clear HL hL
  have HL := HLn
  clear HLn
  have c4 := (HL.out.box.cells HAD.out).id
  go_wp2_with fail
  refine (lay16 HL.out _ (by omega) (by omega) (by simp)).mono ?_
  rintro E w5 ⟨rfl, v5, hL⟩
  have HLn := Lib.hid hL
  clear HL hL
  have HL := HLn
  clear HLn
  go_wp2_with (refine wpList_load28 rfl _ rfl _ rfl p _ _ (by exact HL.out.box) HAD.out ?_)
  refine (KF.out _).mono ?_
  rintro E wf ⟨rfl, haw⟩
  have HLf := Lib.hid (HL.out.on haw)
  clear HL haw
  have HL := HLf
  clear HLf
  go_wp2_with fail
  refine (lay16 HL.out _ f0 (by omega) (by simp)).mono ?_
  rintro E w6 ⟨rfl, v6, hL⟩
  have HLn := Lib.hid hL
  clear HL hL
  have HL := HLn
  clear HLn
  have c6 := (HL.out.box.cells HAD.out).ttl
  go_wp2_with fail
  refine (lay8 HL.out _ (by omega) (by omega) (by simp)).mono ?_
  rintro E w7 ⟨rfl, v7, hL⟩
  have HLn := Lib.hid hL
  clear HL hL
  have HL := HLn
  clear HLn
  have c7 := (HL.out.box.cells HAD.out).proto
  go_wp2_with fail
  refine (lay8 HL.out _ (by omega) (by omega) (by simp)).mono ?_
  rintro E w8 ⟨rfl, v8, hL⟩
  have HLn := Lib.hid hL
  clear HL hL
  have HL := HLn
  clear HLn
  go_wp2_with fail
  refine (lay16 HL.out 0 (by omega) (by omega) (by simp)).mono ?_
  rintro E w9 ⟨rfl, v9, hL⟩
  have HLn := Lib.hid hL
  clear HL hL
  have HL := HLn
  clear HLn
  go_wp2_with fail
  refine (layB HL.out _ (p.sb.take 4) 4 _ (by simp [sl]) (by simp) (by exact (range_row HL.out.box.srow sb sl).head 4) (by simp [sl])).mono ?_
  rintro E w10 ⟨rfl, v10, hL⟩
  have HLn := Lib.hid hL
  clear HL hL
  have HL := HLn
  clear HLn
  go_wp2_with fail
  refine (layB HL.out _ (p.db.take 4) 4 _ (by simp [dl]) (by simp) (by exact (range_row (HL.out.box.drow HAD.out) db dl).head 4) (by simp [sl, dl])).mono ?_
  rintro E w11 ⟨rfl, v11, hL⟩
  have HLn := Lib.hid hL
  clear HL hL
  have HL := HLn
  clear HLn
  have c11 := (HL.out.box.cells HAD.out).o
  go_wp2_with fail
  refine (layB HL.out _ p.o _ _ rfl (by exact HL.out.o.of.2.2.1) (by exact HL.out.o.of.2.2.2) (by simp [sl, dl]; omega)).mono ?_
  rintro E w12 ⟨rfl, v12, hL⟩
  have HLn := Lib.hid hL
  clear HL hL
  have HL := HLn
  clear HLn
  go_wp2_with fail
  go_end0
  refine ⟨rfl, v12, ?_, HL.out.mv, HL.out.aw⟩
  have hw := HL.out.wr
  have e : (([] ++ [64 + (20 + (p.o.length : Int)) / 4] ++ [p.tos] ++ [(20 + (p.o.length : Int) + p.d.length) / 256, (20 + (p.o.length : Int) + p.d.length) % 256] ++ [p.id / 256, p.id % 256] ++ [flagP p / 256, flagP p % 256] ++ [p.ttl] ++ [p.proto] ++ [0 / 256, 0 % 256] ++ p.sb.take 4 ++ p.db.take 4 ++ p.o : List Int)) = hd p 0 0 := by simp [hd, totP]
  rw [← e]
  exact hw
#print axioms layHead_c
end Go.Proofs.YtbgpjhekohabiaaDoor
