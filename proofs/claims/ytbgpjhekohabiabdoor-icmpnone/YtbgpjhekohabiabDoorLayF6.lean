/-
  layFixed, layFragment.
-/
import Derived.Test.YtbgpjhekohabiabDoorRAdr
import Derived.Test.YtbgpjhekohabiabDoorRgt6
import Derived.Test.YtbgpjhekohabiabDoorWrite
import Derived.Deep.RegionHeld3
namespace Go.Proofs.YtbgpjhekohabiabDoor.S6
open Go.ChangeShapes Go.WideShapes Go.ChangeAt Go.RowKit Num
set_option linter.unusedVariables false
set_option maxHeartbeats 4000000
set_option maxRecDepth 100000

/-- A writer at work beside a packet in a box. -/
structure Lay (W0 w : World) (B gw gp : Nat) (v0 v : Value) (p : Pk) (ov dv : Value) (l : List Int) : Prop where
  wr : Wr w gw v 65575 l 0
  new : New B v
  gB : B ≤ gw
  box : BoxP w gp p ov dv
  g1 : gp ≠ gw
  g2 : ∀ k, v.ownBlock = some k → k ≠ gp
  o : Sl w ov p.o
  d : Sl w dv p.d
  ob : Old B ov p.o
  db : Old B dv p.d
  aw : Away (fp gw v0) W0 w
  mv : Moved W0 v0 v
  lB : B ≤ w.heap.size
theorem Lay.step {W0 w w' : World} {B gw gp : Nat} {v0 v : Value} {p : Pk} {ov dv : Value} {l m : List Int} {E : Ending} (h : Lay W0 w B gw gp v0 v p ov dv l) (k : Wrote w gw v 65575 m 0 E w') :
    E = .returned (.tuple #[]) ∧ ∃ v', Lay W0 w' B gw gp v0 v' p ov dv m := by
  obtain ⟨rfl, v', hwr, hmv, haw⟩ := k
  have hlt := h.box.lt
  have hs := haw.size
  have hs0 := h.aw.size
  have hfp : ∀ x ∈ fp gw v, x = gw ∨ v.ownBlock = some x := by
    intro x hx; simp [fp] at hx; exact hx
  refine ⟨rfl, v', hwr, h.new.moved hmv h.lB, h.gB, h.box.away haw (fun hx => ?_), h.g1, fun k hk e => ?_, h.o.away haw (fun hl k hk hx => ?_), h.d.away haw (fun hl k hk hx => ?_), h.ob, h.db, h.aw.next haw (fun x hx => ?_), fun k hk => ?_, Nat.le_trans h.lB hs⟩
  · rcases hfp _ hx with e | e
    · exact h.g1 e
    · exact h.g2 _ e rfl
  · rcases hmv k hk with e' | e'
    · exact h.g2 _ e' e
    · omega
  · have := h.ob hl k hk
    rcases hfp _ hx with e | e
    · have := h.gB; omega
    · have := h.new _ e; omega
  · have := h.db hl k hk
    rcases hfp _ hx with e | e
    · have := h.gB; omega
    · have := h.new _ e; omega
  · rcases hfp _ hx with e | e
    · exact .inl (by rw [e]; exact fp_self _ _)
    · rcases h.mv _ e with e' | e'
      · exact .inl (fp_own e')
      · exact .inr e'
  · rcases hmv k hk with e | e
    · exact h.mv k e
    · right; omega
theorem Lay.on {W0 w w' : World} {B gw gp : Nat} {v0 v : Value} {p : Pk} {ov dv : Value} {l : List Int} (h : Lay W0 w B gw gp v0 v p ov dv l) (haw : Away [] w w') : Lay W0 w' B gw gp v0 v p ov dv l :=
  ⟨h.wr.away haw (by simp) (by simp), h.new, h.gB, h.box.on haw, h.g1, h.g2, h.o.on haw, h.d.on haw, h.ob, h.db, h.aw.next haw (by simp), h.mv, Nat.le_trans h.lB haw.size⟩
theorem fits {l m : List Int} (h : l.length + m.length ≤ 65575) : wrAll l 0 65575 m = l ++ m := by unfold wrAll; rw [if_pos ⟨rfl, by omega⟩]
theorem fitsE {l : List Int} (n : Nat) (h : l.length + n ≤ 65575) : wrErr l 0 65575 n = 0 := by unfold wrErr; rw [if_pos rfl, if_pos (by omega)]
/-- What a write in a layer's walk did. -/
def Laid (W0 : World) (B gw gp : Nat) (v0 : Value) (p : Pk) (ov dv : Value) (m : List Int) (E : Ending) (w' : World) : Prop := E = .returned (.tuple #[]) ∧ ∃ v', Lay W0 w' B gw gp v0 v' p ov dv m
theorem lay8 {W0 w : World} {B gw gp : Nat} {v0 v : Value} {p : Pk} {ov dv : Value} {l : List Int} (h : Lay W0 w B gw gp v0 v p ov dv l) (x : Int) (hx : 0 ≤ x) (hx' : x ≤ 255) (hf : l.length + 1 ≤ 65575) :
    Calls Tryd.prog 47 #[.pointer (some ⟨gw, 0, none⟩), .int .u8 x] w fun E w' => Laid W0 B gw gp v0 p ov dv (l ++ [x]) E w' := by
  have := w8_any w gw v 65575 l 0 x h.wr hx hx'
  rw [fits (m := [x]) (by simpa using hf), show (1 : Int) = ((1 : Nat) : Int) from rfl, fitsE 1 hf] at this
  exact this.mono fun E w' hk => h.step hk
theorem lay16 {W0 w : World} {B gw gp : Nat} {v0 v : Value} {p : Pk} {ov dv : Value} {l : List Int} (h : Lay W0 w B gw gp v0 v p ov dv l) (x : Int) (hx : 0 ≤ x) (hx' : x ≤ 65535) (hf : l.length + 2 ≤ 65575) :
    Calls Tryd.prog 48 #[.pointer (some ⟨gw, 0, none⟩), .int .u16 x] w fun E w' => Laid W0 B gw gp v0 p ov dv (l ++ [x / 256, x % 256]) E w' := by
  have := w16_any w gw v 65575 l 0 x h.wr hx hx'
  rw [fits (m := [x / 256, x % 256]) (by simpa using hf), show (2 : Int) = ((2 : Nat) : Int) from rfl, fitsE 2 hf] at this
  exact this.mono fun E w' hk => h.step hk
theorem lay32 {W0 w : World} {B gw gp : Nat} {v0 v : Value} {p : Pk} {ov dv : Value} {l : List Int} (h : Lay W0 w B gw gp v0 v p ov dv l) (x : Int) (hx : 0 ≤ x) (hx' : x ≤ 4294967295) (hf : l.length + 4 ≤ 65575) :
    Calls Tryd.prog 49 #[.pointer (some ⟨gw, 0, none⟩), .int .u32 x] w fun E w' => Laid W0 B gw gp v0 p ov dv (l ++ q4 x) E w' := by
  have := w32_any w gw v 65575 l 0 x h.wr hx hx'
  rw [show [x / 16777216, x / 65536 % 256, x / 256 % 256, x % 256] = q4 x from rfl, fits (m := q4 x) (by simpa [q4] using hf), show (4 : Int) = ((4 : Nat) : Int) from rfl, fitsE 4 hf] at this
  exact this.mono fun E w' hk => h.step hk
theorem layB {W0 w : World} {B gw gp : Nat} {v0 v : Value} {p : Pk} {ov dv : Value} {l : List Int} (h : Lay W0 w B gw gp v0 v p ov dv l) (a : Option Addr) (m : List Int) (n cap : Nat) (hn : m.length = n) (ha : a = none → cap = 0) (hr : Row w a m) (hf : l.length + m.length ≤ 65575) :
    Calls Tryd.prog 28 #[.pointer (some ⟨gw, 0, none⟩), .slice a n cap] w fun E w' => Laid W0 B gw gp v0 p ov dv (l ++ m) E w' := by
  have := wbytes_any w gw v 65575 l 0 a m n cap h.wr hn ha hr
  rw [fits hf, fitsE _ hf] at this
  exact this.mono fun E w' hk => h.step hk

theorem or_hi (a b : Int) (k : Nat) (ha : 0 ≤ a) (hb : 0 ≤ b) (hbk : b < 2 ^ k) (h32 : a * 2 ^ k + b < 4294967296) : bits .or .u32 (a * 2 ^ k) b = a * 2 ^ k + b := by
  obtain ⟨n, rfl⟩ := Int.eq_ofNat_of_zero_le ha
  obtain ⟨m, rfl⟩ := Int.eq_ofNat_of_zero_le hb
  have hm : m < 2 ^ k := by exact_mod_cast hbk
  have hmul : (n : Int) * 2 ^ k = ((2 ^ k * n : Nat) : Int) := by push_cast; rw [Int.mul_comm]
  rw [hmul] at h32 ⊢
  rw [u32_or _ _ (by omega) (by omega) (by omega) (by omega), Int.toNat_natCast, Int.toNat_natCast, ← Nat.two_pow_add_eq_or_of_lt hm]
  push_cast; rfl
theorem or_first (t : Int) (h0 : 0 ≤ t) (h1 : t ≤ 255) : bits .or .u32 1610612736 (t * 1048576) = 1610612736 + t * 1048576 := by
  have := or_hi 6 (t * 1048576) 28 (by omega) (by omega) (by omega) (by omega)
  simpa using this
theorem or_second (t f : Int) (h0 : 0 ≤ t) (h1 : t ≤ 255) (f0 : 0 ≤ f) (f1 : f < 1048576) : bits .or .u32 (1610612736 + t * 1048576) f = 1610612736 + t * 1048576 + f := by
  have := or_hi (1536 + t) f 20 (by omega) f0 (by omega) (by omega)
  rw [show (1536 + t) * 2 ^ 20 = 1610612736 + t * 1048576 from by omega] at this
  exact this
theorem arr_slice (g k : Nat) (w : World) : (Instr.sliceAt 22 (.pointer (some ⟨g, k, none⟩)) none none none).run Tryd.prog w = .ok (.slice (some ⟨g, k, none⟩) 16 16) w := by kernel_rfl
theorem yields_ld {ops : Array Oper} {S : World → Prop} {op : Oper} {a : Act} {t : TypeId} {v : Value} {ad : Addr} (hw : Region.wanted op (yielded ops a.tmps) = true) (x : Operand) (ho : op.op = .load t x) (hx : a.eval x = .pointer (some ad))
    (hS : ∀ w, S w → (Instr.loadAt t (.pointer (some ad))).run Tryd.prog w = .ok v w) : YieldsIf Tryd.prog ops S op v a :=
  .inl ⟨hw, fun w hw' => by
    unfold execOp
    simp only [ho, hx, Sem.run_bind, hS w hw', Result.andThen_ok, Sem.run_pure]⟩
theorem fix_eq (p : Pk) (nx : Int) (h : nx = nextP p) (L : Int) (hL : lenP p = L) : ([] ++ q4 (1610612736 + p.tos * 1048576 + p.flow) ++ [L / 256, L % 256] ++ [nx] ++ [p.ttl] ++ p.sb ++ p.db : List Int) = fixP p := by
  subst h; subst hL; simp [fixP, word, q2]
theorem layFixed_c (w : World) (B gw : Nat) (v : Value) (p : Pk) (ov dv : Value) (hp : Pkt w p ov dv) (hf : Rgt p) (hwr : Wr w gw v 65575 [] 0) (hB : B ≤ gw) (hnew : New B v) (hob : Old B ov p.o) (hdb : Old B dv p.d) (hBs : B ≤ w.heap.size) :
    Calls Tryd.prog 30 #[.pointer (some ⟨gw, 0, none⟩), .agg (csP p ov dv)] w fun E w' => Wrote w gw v 65575 (fixP p) 0 E w' := by
  have ha := hp.wf.ad
  obtain ⟨hwf, ho, hd⟩ := hp
  have hall := hf.all
  have q0 := hf.t0; have q1 := hf.t1; have q2 := hf.l0; have q3 := hf.l1; have q4' := hf.r0; have q5 := hf.r1; have q6 := hf.f0; have q7 := hf.f1
  have hh : hofP p = 40 ∨ hofP p = 48 := by unfold hofP; split <;> simp
  have o1 := or_first p.tos q0 q1
  have o2 := or_second p.tos p.flow q0 q1 q6 q7
  have KH : Hid (∀ w', Calls Tryd.prog 40 #[.agg (csP p ov dv)] w' fun E w'' => E = .returned (.int .i64 (hofP p)) ∧ Away [] w' w'') := fun w' => headOf_c p ov dv w' ha
  have sl := hwf.sl; have sb := hwf.sb; have dl := hwf.dl; have db := hwf.db
  have HW : Hid (Wr w gw v 65575 [] 0) := hwr
  have HO : Hid (Sl w ov p.o) := ho
  have HD : Hid (Sl w dv p.d) := hd
  obtain ⟨ad, capd, hdv, -⟩ := hd
  subst hdv
  have HAD : Hid (Ad p) := ha
  have HNW : Hid (New B v ∧ Old B ov p.o ∧ Old B (.slice ad p.d.length capd) p.d) := ⟨hnew, hob, hdb⟩
  have nb := nextP_bd hf
  have lb := lenP_bd hf
  have HLP : Hid (lenP p = (hofP p : Int) - 40 + p.d.length) := rfl
  have HNX : Hid (nextP p = if p.frag = true then 44 else p.proto) := rfl
  have hs1 := arr_slice
  have hw1 : Hid (IntKind.i64.wrap ((hofP p : Int) - 40) = (hofP p : Int) - 40) := by show _ = _; simp only [IntKind.wrap_i64]; omega
  have hw2 : Hid (IntKind.i64.wrap ((hofP p : Int) - 40 + p.d.length) = (hofP p : Int) - 40 + p.d.length) := by show _ = _; simp only [IntKind.wrap_i64]; omega
  have hw3 : Hid (IntKind.u16.wrap ((hofP p : Int) - 40 + p.d.length) = (hofP p : Int) - 40 + p.d.length) := by show _ = _; simp only [IntKind.wrap_u16]; omega
  clear hwr hf hwf ha hnew hob hdb
  go_enter Tryd.func30, Tryd.ntmps30
  go_wp2_with (refine wpList_box28 rfl _ rfl p _ _ rfl ?_; refine Hid.out ?_)
  refine Lib.hid ?_
  intro g w1 hg hb haw
  have HL : Hid (Lay w w1 B gw g v v p ov (.slice ad p.d.length capd) []) :=
    ⟨HW.out.away haw (by simp) (by simp), HNW.out.1, hB, hb, by have := HW.out.lt.1; omega, fun k hk => by have := HW.out.lt.2 k hk; omega, HO.out.on haw, HD.out.on haw, HNW.out.2.1, HNW.out.2.2, haw.mono (by simp), Moved.refl _ _, by have := haw.size; omega⟩
  clear HW HO HD HNW hb haw hg ho
  have hc := HL.out.box.cells HAD.out
  have c1 := hc.tos; have c2 := hc.flow; have c3 := hc.proto; have c4 := hc.frag
  clear hc
  obtain ⟨nx, hnx⟩ : ∃ nx, nx = nextP p := ⟨_, rfl⟩
  rw [← hnx] at nb
  have HN : Hid (nx = nextP p) := hnx
  clear hnx
  generalize hfr : p.frag = fr at c4
  cases fr
  · obtain rfl : nx = p.proto := by rw [HN.out, HNX.out, hfr]; rfl
    go_wp2_with fail
    refine (lay32 HL.out _ (by omega) (by omega) (by simp)).mono ?_
    rintro E w2 ⟨rfl, vw2, hL⟩
    have HLn := Lib.hid hL
    clear HL hL
    have HL := HLn
    clear HLn
    have hbx := HL.out.box
    go_wp2_with fail
    refine wp_region_held_drew (S := fun w' => BoxP w' g p ov (.slice ad p.d.length capd)) (by kernel_rfl) hbx (fun hHeld => ?_)
    refine wpAnyH_take (i := 0) (v := ?_) (by simp only [List.getElem?_toArray, List.getElem?_cons_zero]; rfl) (by kernel_rfl) (by kernel_rfl) (by kernel_rfl) (by exact fun _ _ _ h => h) (Or.inl ⟨by rfl, ?_⟩) (by assumption) ?_
    rotate_left
    · intro wq hSw
      (try dsimp only at hSw)
      go_simp
      all_goals (with_reducible rfl)
    try simp only [Act.put, List.setIfInBounds_toArray, List.set_cons_zero, List.set_cons_succ]
    refine wpAnyH_take (i := 1) (by simp only [List.getElem?_toArray, List.getElem?_cons_succ, List.getElem?_cons_zero]; rfl) (by kernel_rfl) (by kernel_rfl) (by kernel_rfl) (by exact fun _ _ _ h => h) (yields_ld (ad := ⟨g, 0, none⟩) (by rfl) _ rfl rfl (fun w' h => load28_run h HAD.out)) (by assumption) ?_
    try simp only [Act.put, List.setIfInBounds_toArray, List.set_cons_zero, List.set_cons_succ]
    refine wpAnyH_take (i := 4) (v := ?_) (by simp only [List.getElem?_toArray, List.getElem?_cons_succ, List.getElem?_cons_zero]; rfl) (by kernel_rfl) (by kernel_rfl) (by kernel_rfl) (by exact fun _ _ _ h => h) (Or.inl ⟨by rfl, ?_⟩) (by assumption) ?_
    rotate_left
    · intro wq hSw
      (try dsimp only at hSw)
      go_simp
      all_goals (with_reducible rfl)
    try simp only [Act.put, List.setIfInBounds_toArray, List.set_cons_zero, List.set_cons_succ]
    refine wpAnyH_take (i := 5) (by simp only [List.getElem?_toArray, List.getElem?_cons_succ, List.getElem?_cons_zero]; rfl) (by kernel_rfl) (by kernel_rfl) (by kernel_rfl) (by exact fun _ _ _ h => h) (yields_ld (ad := ⟨g, 45, none⟩) (by rfl) _ rfl rfl (fun w' h => ld26 (h.cells HAD.out).d)) (by assumption) ?_
    try simp only [Act.put, List.setIfInBounds_toArray, List.set_cons_zero, List.set_cons_succ]
    refine wpAnyH_take (i := 6) (v := ?_) (by simp only [List.getElem?_toArray, List.getElem?_cons_succ, List.getElem?_cons_zero]; rfl) (by kernel_rfl) (by kernel_rfl) (by kernel_rfl) (by exact fun _ _ _ h => h) (Or.inl ⟨by rfl, ?_⟩) (by assumption) ?_
    rotate_left
    · intro wq hSw
      (try dsimp only at hSw)
      go_simp
      all_goals (with_reducible rfl)
    try simp only [Act.put, List.setIfInBounds_toArray, List.set_cons_zero, List.set_cons_succ]
    refine wpAnyH_ready (rs := [2]) (by kernel_rfl) (by simp) ?_
    refine AllReadyH.cons (by simp only [List.getElem?_toArray, List.getElem?_cons_succ, List.getElem?_cons_zero]; rfl) (fun K hK => ?_) AllReadyH.nil
    go_simp
    refine (KH.out _).mono ?_
    rintro E w3 ⟨rfl, haw3⟩
    have haw4 := haw3.undrew
    have HL3 := Lib.hid (HL.out.on haw4)
    clear haw3 haw4
    go_wp2_with fail
    refine hK.out _ _ HL3.out.box (fun hHeld => ?_)
    clear hK K
    try simp only [Act.put, List.setIfInBounds_toArray, List.set_cons_zero, List.set_cons_succ]
    refine wpAnyH_take (i := 3) (v := ?_) (by simp only [List.getElem?_toArray, List.getElem?_cons_succ, List.getElem?_cons_zero]; rfl) (by kernel_rfl) (by kernel_rfl) (by kernel_rfl) (by exact fun _ _ _ h => h) (Or.inl ⟨by rfl, ?_⟩) (by assumption) ?_
    rotate_left
    · intro wq hSw
      (try dsimp only at hSw)
      go_simp
      all_goals (with_reducible rfl)
    try simp only [Act.put, List.setIfInBounds_toArray, List.set_cons_zero, List.set_cons_succ]
    refine wpAnyH_take (i := 7) (v := ?_) (by simp only [List.getElem?_toArray, List.getElem?_cons_succ, List.getElem?_cons_zero]; rfl) (by kernel_rfl) (by kernel_rfl) (by kernel_rfl) (by exact fun _ _ _ h => h) (Or.inl ⟨by rfl, ?_⟩) (by assumption) ?_
    rotate_left
    · intro wq hSw
      (try dsimp only at hSw)
      go_simp
      all_goals (with_reducible rfl)
    try simp only [Act.put, List.setIfInBounds_toArray, List.set_cons_zero, List.set_cons_succ]
    refine wpAnyH_take (i := 8) (v := ?_) (by simp only [List.getElem?_toArray, List.getElem?_cons_succ, List.getElem?_cons_zero]; rfl) (by kernel_rfl) (by kernel_rfl) (by kernel_rfl) (by exact fun _ _ _ h => h) (Or.inl ⟨by rfl, ?_⟩) (by assumption) ?_
    rotate_left
    · intro wq hSw
      (try dsimp only at hSw)
      go_simp
      all_goals (with_reducible rfl)
    try simp only [Act.put, List.setIfInBounds_toArray, List.set_cons_zero, List.set_cons_succ]
    refine wpAnyH_ready (rs := [9]) (by kernel_rfl) (by simp) ?_
    refine AllReadyH.cons (by simp only [List.getElem?_toArray, List.getElem?_cons_succ, List.getElem?_cons_zero]; rfl) (fun K hK => ?_) AllReadyH.nil
    go_simp
    rw [hw1.out, hw2.out, hw3.out]
    refine (lay16 HL3.out _ (by omega) (by omega) (by simp [q4])).mono ?_
    rintro E w4 ⟨rfl, v4, hL4⟩
    go_wp2_with fail
    refine hK.out _ _ hL4.box (fun hHeld => ?_)
    clear hK K
    try simp only [Act.put, List.setIfInBounds_toArray, List.set_cons_zero, List.set_cons_succ]
    refine wpAnyH_done (by kernel_rfl) ?_ _
    have HLn := Lib.hid hL4
    clear HL HL3 hL4 hbx hHeld
    have HL := HLn
    clear HLn
    go_wp2_with fail
    refine (lay8 HL.out _ (by omega) (by omega) (by simp [q4])).mono ?_
    rintro E w6 ⟨rfl, vw6, hL⟩
    have HLn := Lib.hid hL
    clear HL hL
    have HL := HLn
    clear HLn
    have c5 := (HL.out.box.cells HAD.out).ttl
    go_wp2_with fail
    refine (lay8 HL.out _ (by omega) (by omega) (by simp [q4])).mono ?_
    rintro E w7 ⟨rfl, vw7, hL⟩
    have HLn := Lib.hid hL
    clear HL hL
    have HL := HLn
    clear HLn
    go_wp2_with fail
    refine (layB HL.out _ p.sb 16 _ sl (by simp) (by exact range_row HL.out.box.srow sb sl) (by simp [q4, sl])).mono ?_
    rintro E w8 ⟨rfl, vw8, hL⟩
    have HLn := Lib.hid hL
    clear HL hL
    have HL := HLn
    clear HLn
    go_wp2_with fail
    refine (layB HL.out _ p.db 16 _ dl (by simp) (by exact range_row (HL.out.box.drow HAD.out) db dl) (by simp [q4, sl, dl])).mono ?_
    rintro E w9 ⟨rfl, vw9, hL⟩
    have HLn := Lib.hid hL
    clear HL hL
    have HL := HLn
    clear HLn
    go_wp2_with fail
    go_end0
    refine ⟨rfl, vw9, ?_, HL.out.mv, HL.out.aw⟩
    have hw := HL.out.wr
    have e : ([] ++ q4 (1610612736 + p.tos * 1048576 + p.flow) ++ [((hofP p : Int) - 40 + p.d.length) / 256, ((hofP p : Int) - 40 + p.d.length) % 256] ++ [p.proto] ++ [p.ttl] ++ p.sb ++ p.db : List Int) = fixP p := by
      exact fix_eq p _ HN.out _ HLP.out
    rw [← e]
    exact hw
  · obtain rfl : nx = 44 := by rw [HN.out, HNX.out, hfr]; rfl
    go_wp2_with fail
    refine (lay32 HL.out _ (by omega) (by omega) (by simp)).mono ?_
    rintro E w2 ⟨rfl, vw2, hL⟩
    have HLn := Lib.hid hL
    clear HL hL
    have HL := HLn
    clear HLn
    have hbx := HL.out.box
    go_wp2_with fail
    refine wp_region_held_drew (S := fun w' => BoxP w' g p ov (.slice ad p.d.length capd)) (by kernel_rfl) hbx (fun hHeld => ?_)
    refine wpAnyH_take (i := 0) (v := ?_) (by simp only [List.getElem?_toArray, List.getElem?_cons_zero]; rfl) (by kernel_rfl) (by kernel_rfl) (by kernel_rfl) (by exact fun _ _ _ h => h) (Or.inl ⟨by rfl, ?_⟩) (by assumption) ?_
    rotate_left
    · intro wq hSw
      (try dsimp only at hSw)
      go_simp
      all_goals (with_reducible rfl)
    try simp only [Act.put, List.setIfInBounds_toArray, List.set_cons_zero, List.set_cons_succ]
    refine wpAnyH_take (i := 1) (by simp only [List.getElem?_toArray, List.getElem?_cons_succ, List.getElem?_cons_zero]; rfl) (by kernel_rfl) (by kernel_rfl) (by kernel_rfl) (by exact fun _ _ _ h => h) (yields_ld (ad := ⟨g, 0, none⟩) (by rfl) _ rfl rfl (fun w' h => load28_run h HAD.out)) (by assumption) ?_
    try simp only [Act.put, List.setIfInBounds_toArray, List.set_cons_zero, List.set_cons_succ]
    refine wpAnyH_take (i := 4) (v := ?_) (by simp only [List.getElem?_toArray, List.getElem?_cons_succ, List.getElem?_cons_zero]; rfl) (by kernel_rfl) (by kernel_rfl) (by kernel_rfl) (by exact fun _ _ _ h => h) (Or.inl ⟨by rfl, ?_⟩) (by assumption) ?_
    rotate_left
    · intro wq hSw
      (try dsimp only at hSw)
      go_simp
      all_goals (with_reducible rfl)
    try simp only [Act.put, List.setIfInBounds_toArray, List.set_cons_zero, List.set_cons_succ]
    refine wpAnyH_take (i := 5) (by simp only [List.getElem?_toArray, List.getElem?_cons_succ, List.getElem?_cons_zero]; rfl) (by kernel_rfl) (by kernel_rfl) (by kernel_rfl) (by exact fun _ _ _ h => h) (yields_ld (ad := ⟨g, 45, none⟩) (by rfl) _ rfl rfl (fun w' h => ld26 (h.cells HAD.out).d)) (by assumption) ?_
    try simp only [Act.put, List.setIfInBounds_toArray, List.set_cons_zero, List.set_cons_succ]
    refine wpAnyH_take (i := 6) (v := ?_) (by simp only [List.getElem?_toArray, List.getElem?_cons_succ, List.getElem?_cons_zero]; rfl) (by kernel_rfl) (by kernel_rfl) (by kernel_rfl) (by exact fun _ _ _ h => h) (Or.inl ⟨by rfl, ?_⟩) (by assumption) ?_
    rotate_left
    · intro wq hSw
      (try dsimp only at hSw)
      go_simp
      all_goals (with_reducible rfl)
    try simp only [Act.put, List.setIfInBounds_toArray, List.set_cons_zero, List.set_cons_succ]
    refine wpAnyH_ready (rs := [2]) (by kernel_rfl) (by simp) ?_
    refine AllReadyH.cons (by simp only [List.getElem?_toArray, List.getElem?_cons_succ, List.getElem?_cons_zero]; rfl) (fun K hK => ?_) AllReadyH.nil
    go_simp
    refine (KH.out _).mono ?_
    rintro E w3 ⟨rfl, haw3⟩
    have haw4 := haw3.undrew
    have HL3 := Lib.hid (HL.out.on haw4)
    clear haw3 haw4
    go_wp2_with fail
    refine hK.out _ _ HL3.out.box (fun hHeld => ?_)
    clear hK K
    try simp only [Act.put, List.setIfInBounds_toArray, List.set_cons_zero, List.set_cons_succ]
    refine wpAnyH_take (i := 3) (v := ?_) (by simp only [List.getElem?_toArray, List.getElem?_cons_succ, List.getElem?_cons_zero]; rfl) (by kernel_rfl) (by kernel_rfl) (by kernel_rfl) (by exact fun _ _ _ h => h) (Or.inl ⟨by rfl, ?_⟩) (by assumption) ?_
    rotate_left
    · intro wq hSw
      (try dsimp only at hSw)
      go_simp
      all_goals (with_reducible rfl)
    try simp only [Act.put, List.setIfInBounds_toArray, List.set_cons_zero, List.set_cons_succ]
    refine wpAnyH_take (i := 7) (v := ?_) (by simp only [List.getElem?_toArray, List.getElem?_cons_succ, List.getElem?_cons_zero]; rfl) (by kernel_rfl) (by kernel_rfl) (by kernel_rfl) (by exact fun _ _ _ h => h) (Or.inl ⟨by rfl, ?_⟩) (by assumption) ?_
    rotate_left
    · intro wq hSw
      (try dsimp only at hSw)
      go_simp
      all_goals (with_reducible rfl)
    try simp only [Act.put, List.setIfInBounds_toArray, List.set_cons_zero, List.set_cons_succ]
    refine wpAnyH_take (i := 8) (v := ?_) (by simp only [List.getElem?_toArray, List.getElem?_cons_succ, List.getElem?_cons_zero]; rfl) (by kernel_rfl) (by kernel_rfl) (by kernel_rfl) (by exact fun _ _ _ h => h) (Or.inl ⟨by rfl, ?_⟩) (by assumption) ?_
    rotate_left
    · intro wq hSw
      (try dsimp only at hSw)
      go_simp
      all_goals (with_reducible rfl)
    try simp only [Act.put, List.setIfInBounds_toArray, List.set_cons_zero, List.set_cons_succ]
    refine wpAnyH_ready (rs := [9]) (by kernel_rfl) (by simp) ?_
    refine AllReadyH.cons (by simp only [List.getElem?_toArray, List.getElem?_cons_succ, List.getElem?_cons_zero]; rfl) (fun K hK => ?_) AllReadyH.nil
    go_simp
    rw [hw1.out, hw2.out, hw3.out]
    refine (lay16 HL3.out _ (by omega) (by omega) (by simp [q4])).mono ?_
    rintro E w4 ⟨rfl, v4, hL4⟩
    go_wp2_with fail
    refine hK.out _ _ hL4.box (fun hHeld => ?_)
    clear hK K
    try simp only [Act.put, List.setIfInBounds_toArray, List.set_cons_zero, List.set_cons_succ]
    refine wpAnyH_done (by kernel_rfl) ?_ _
    have HLn := Lib.hid hL4
    clear HL HL3 hL4 hbx hHeld
    have HL := HLn
    clear HLn
    go_wp2_with fail
    refine (lay8 HL.out _ (by omega) (by omega) (by simp [q4])).mono ?_
    rintro E w6 ⟨rfl, vw6, hL⟩
    have HLn := Lib.hid hL
    clear HL hL
    have HL := HLn
    clear HLn
    have c5 := (HL.out.box.cells HAD.out).ttl
    go_wp2_with fail
    refine (lay8 HL.out _ (by omega) (by omega) (by simp [q4])).mono ?_
    rintro E w7 ⟨rfl, vw7, hL⟩
    have HLn := Lib.hid hL
    clear HL hL
    have HL := HLn
    clear HLn
    go_wp2_with fail
    refine (layB HL.out _ p.sb 16 _ sl (by simp) (by exact range_row HL.out.box.srow sb sl) (by simp [q4, sl])).mono ?_
    rintro E w8 ⟨rfl, vw8, hL⟩
    have HLn := Lib.hid hL
    clear HL hL
    have HL := HLn
    clear HLn
    go_wp2_with fail
    refine (layB HL.out _ p.db 16 _ dl (by simp) (by exact range_row (HL.out.box.drow HAD.out) db dl) (by simp [q4, sl, dl])).mono ?_
    rintro E w9 ⟨rfl, vw9, hL⟩
    have HLn := Lib.hid hL
    clear HL hL
    have HL := HLn
    clear HLn
    go_wp2_with fail
    go_end0
    refine ⟨rfl, vw9, ?_, HL.out.mv, HL.out.aw⟩
    have hw := HL.out.wr
    have e : ([] ++ q4 (1610612736 + p.tos * 1048576 + p.flow) ++ [((hofP p : Int) - 40 + p.d.length) / 256, ((hofP p : Int) - 40 + p.d.length) % 256] ++ [44] ++ [p.ttl] ++ p.sb ++ p.db : List Int) = fixP p := by
      exact fix_eq p _ HN.out _ HLP.out
    rw [← e]
    exact hw
theorem or1 (a : Int) (h0 : 0 ≤ a) (h1 : a ≤ 65528) (h8 : a % 8 = 0) : bits .or .u16 a 1 = a + 1 := by
  rw [u16_or _ _ h0 (by omega) (by omega) (by omega)]
  obtain ⟨n, rfl⟩ := Int.eq_ofNat_of_zero_le h0
  have e : n = 2 ^ 1 * (n / 2) := by omega
  rw [Int.toNat_natCast, show (1 : Int).toNat = 1 from rfl, e, ← Nat.two_pow_add_eq_or_of_lt (by omega)]
  omega
theorem layFragment_c (w : World) (B gw : Nat) (v : Value) (l : List Int) (p : Pk) (ov dv : Value) (hp : Pkt w p ov dv) (hf : Rgt p) (hwr : Wr w gw v 65575 l 0) (hl : l.length = 40) (hB : B ≤ gw) (hnew : New B v) (hob : Old B ov p.o) (hdb : Old B dv p.d) (hBs : B ≤ w.heap.size) :
    Calls Tryd.prog 31 #[.pointer (some ⟨gw, 0, none⟩), .agg (csP p ov dv)] w fun E w' => Wrote w gw v 65575 (l ++ fragP p) 0 E w' := by
  have ha := hp.wf.ad
  obtain ⟨hwf, ho, hd⟩ := hp
  have q4' := hf.r0; have q5 := hf.r1; have q6 := hf.o0; have q7 := hf.o1; have q8 := hwf.id0; have q9 := hwf.id1
  have o1 := or1 p.off q6 q7 hf.o8
  have HW : Hid (Wr w gw v 65575 l 0) := hwr
  have HO : Hid (Sl w ov p.o) := ho
  have HD : Hid (Sl w dv p.d) := hd
  have HAD : Hid (Ad p) := ha
  have HNW : Hid (New B v ∧ Old B ov p.o ∧ Old B dv p.d) := ⟨hnew, hob, hdb⟩
  have HPL : Hid (placeP p = p.off + (if p.more = true then 1 else 0)) := rfl
  have HLL := Lib.hid hl
  clear hwr hf hwf ha hnew hob hdb ho hd hl
  go_enter Tryd.func31, Tryd.ntmps31
  go_wp2_with (refine wpList_box28 rfl _ rfl p _ _ rfl ?_; refine Hid.out ?_)
  refine Lib.hid ?_
  intro g w1 hg hb haw
  have HL : Hid (Lay w w1 B gw g v v p ov dv l) :=
    ⟨HW.out.away haw (by simp) (by simp), HNW.out.1, hB, hb, by have := HW.out.lt.1; omega, fun k hk => by have := HW.out.lt.2 k hk; omega, HO.out.on haw, HD.out.on haw, HNW.out.2.1, HNW.out.2.2, haw.mono (by simp), Moved.refl _ _, by have := haw.size; omega⟩
  clear HW HO HD HNW hb haw hg
  have hc := HL.out.box.cells HAD.out
  have c1 := hc.off; have c2 := hc.more; have c3 := hc.proto
  clear hc
  generalize hmr : p.more = mr at c2
  cases mr
  · go_wp2_with fail
    refine (lay8 HL.out _ (by omega) (by omega) (by rw [HLL.out]; omega)).mono ?_
    rintro E w2 ⟨rfl, vw2, hL⟩
    have HLn := Lib.hid hL
    clear HL hL
    have HL := HLn
    clear HLn
    go_wp2_with fail
    refine (lay8 HL.out 0 (by omega) (by omega) (by simp [HLL.out])).mono ?_
    rintro E w3 ⟨rfl, vw3, hL⟩
    have HLn := Lib.hid hL
    clear HL hL
    have HL := HLn
    clear HLn
    go_wp2_with fail
    refine (lay16 HL.out (p.off) (by omega) (by omega) (by simp [HLL.out])).mono ?_
    rintro E w4 ⟨rfl, vw4, hL⟩
    have HLn := Lib.hid hL
    clear HL hL
    have HL := HLn
    clear HLn
    have c4 := (HL.out.box.cells HAD.out).id
    go_wp2_with fail
    refine (lay32 HL.out _ (by omega) (by omega) (by simp [HLL.out])).mono ?_
    rintro E w5 ⟨rfl, vw5, hL⟩
    have HLn := Lib.hid hL
    clear HL hL
    have HL := HLn
    clear HLn
    go_wp2_with fail
    go_end0
    refine ⟨rfl, vw5, ?_, HL.out.mv, HL.out.aw⟩
    have hw := HL.out.wr
    have e : (l ++ [p.proto] ++ [0] ++ [(p.off) / 256, (p.off) % 256] ++ q4 p.id : List Int) = l ++ fragP p := by
      unfold fragP; rw [HPL.out, hmr]; simp [q2]
    rw [← e]
    exact hw
  · go_wp2_with fail
    refine (lay8 HL.out _ (by omega) (by omega) (by rw [HLL.out]; omega)).mono ?_
    rintro E w2 ⟨rfl, vw2, hL⟩
    have HLn := Lib.hid hL
    clear HL hL
    have HL := HLn
    clear HLn
    go_wp2_with fail
    refine (lay8 HL.out 0 (by omega) (by omega) (by simp [HLL.out])).mono ?_
    rintro E w3 ⟨rfl, vw3, hL⟩
    have HLn := Lib.hid hL
    clear HL hL
    have HL := HLn
    clear HLn
    go_wp2_with fail
    refine (lay16 HL.out (p.off + 1) (by omega) (by omega) (by simp [HLL.out])).mono ?_
    rintro E w4 ⟨rfl, vw4, hL⟩
    have HLn := Lib.hid hL
    clear HL hL
    have HL := HLn
    clear HLn
    have c4 := (HL.out.box.cells HAD.out).id
    go_wp2_with fail
    refine (lay32 HL.out _ (by omega) (by omega) (by simp [HLL.out])).mono ?_
    rintro E w5 ⟨rfl, vw5, hL⟩
    have HLn := Lib.hid hL
    clear HL hL
    have HL := HLn
    clear HLn
    go_wp2_with fail
    go_end0
    refine ⟨rfl, vw5, ?_, HL.out.mv, HL.out.aw⟩
    have hw := HL.out.wr
    have e : (l ++ [p.proto] ++ [0] ++ [(p.off + 1) / 256, (p.off + 1) % 256] ++ q4 p.id : List Int) = l ++ fragP p := by
      unfold fragP; rw [HPL.out, hmr]; simp [q2]
    rw [← e]
    exact hw
#print axioms layFragment_c
end Go.Proofs.YtbgpjhekohabiabDoor.S6
