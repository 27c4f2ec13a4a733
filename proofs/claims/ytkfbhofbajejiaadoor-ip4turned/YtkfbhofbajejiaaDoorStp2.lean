/-
  More steps that the laws share: loads of packets in a region that draws, stores beside packets.
-/
import Derived.Test.YtkfbhofbajejiaaDoorStp
namespace Go.Proofs.YtkfbhofbajejiaaDoor
open Go.ChangeShapes Go.WideShapes Go.ChangeAt Go.RowKit Go.Deep Num
set_option linter.unusedVariables false
set_option maxHeartbeats 4000000
set_option maxRecDepth 100000

theorem load28_run {w : World} {g : Nat} {p : Pk} {ov dv : Value} (hb : BoxP w g p ov dv) (ha : Ad p) : (Instr.loadAt 28 (.pointer (some ⟨g, 0, none⟩))).run Tryd.prog w = .ok (.agg (csP p ov dv)) w := by
  simp only [Instr.loadAt, Instr.sureAddr, Sem.run_bind, Sem.run_pure, Result.andThen]
  rw [run_loadVar_row w g 28 28 (csP p ov dv) (0, 0) _ hb Tryd.underlying28 rfl (by rw [csP_size ha]; exact info28)]
theorem quiet_load28 {o : Oper} {a : Act} {C : World → Prop} {K : Act → Prop} (x : Operand) (ho : o.op = .load 28 x) (g : Nat) (hx : a.eval x = .pointer (some ⟨g, 0, none⟩)) (p : Pk) (ov dv : Value) (hC : ∀ w, C w → BoxP w g p ov dv) (ha : Ad p) (hk : K (a.put o.dst (.agg (csP p ov dv)))) : o.quiet Tryd.prog a C K := by
  refine ⟨.agg (csP p ov dv), fun w hw => ?_, hk⟩
  unfold Oper.quietAt execOp
  simp only [ho, hx, Sem.run_bind, load28_run (hC w hw) ha, Result.andThen_ok]
  exact ⟨rfl, rfl⟩
theorem Sl.awayO {w w' : World} {v : Value} {l : List Int} {g B : Nat} (h : Sl w v l) (hw : Away [g] w w') (ho : Old B v l) (hB : B ≤ g) : Sl w' v l := h.away hw (fun hl k hk => by have := ho hl k hk; simp; omega)
theorem Pkt.awayO {w w' : World} {p : Pk} {ov dv : Value} {g B : Nat} (h : Pkt w p ov dv) (hw : Away [g] w w') (ho : Old B ov p.o) (hd : Old B dv p.d) (hB : B ≤ g) : Pkt w' p ov dv := ⟨h.wf, h.o.awayO hw ho hB, h.d.awayO hw hd hB⟩
theorem and7 (n : Int) : 0 ≤ bits .and .i64 n 7 ∧ bits .and .i64 n 7 ≤ 7 := by
  have h : (BitVec.ofInt 64 7).toNat = 7 := by decide
  have key : (BitVec.ofInt 64 n &&& BitVec.ofInt 64 7).toNat ≤ 7 := by rw [BitVec.toNat_and, h]; exact Nat.and_le_right
  have e : bits .and .i64 n 7 = IntKind.i64.wrap ((BitVec.ofInt 64 n &&& BitVec.ofInt 64 7).toNat : Nat) := rfl
  rw [e, IntKind.wrap_i64]
  generalize (BitVec.ofInt 64 n &&& BitVec.ofInt 64 7).toNat = m at *
  omega
theorem lay4_inj {x z : Pk} (hx : Wf x) (hz : Wf z) (rx : rightP x = true) (rz : rightP z = true) : decide (lay4 x = lay4 z) = dP x z := by
  by_cases h : x = z
  · subst h
    rw [show dP x x = true from @decide_eq_true _ (pkDec x x) rfl]
    simp
  · have : lay4 x ≠ lay4 z := fun e => h (by
      have h1 := parse_lay4 hx rx
      rw [e, parse_lay4 hz rz] at h1
      simpa using h1.symm)
    rw [show dP x z = false from @decide_eq_false _ (pkDec x z) h]
    simp [this]
theorem right_tos {x y : Pk} (hx : rightP x = true) (hy : rightP y = true) : rightP { x with tos := y.tos } = true := by
  rw [right_iff] at *; exact ⟨{ hx.1 with t0 := hy.1.t0, t1 := hy.1.t1 }, hx.2⟩
theorem right_id {x y : Pk} (hx : rightP x = true) (hy : rightP y = true) : rightP { x with id := y.id } = true := by
  rw [right_iff] at *; exact ⟨{ hx.1 with id := hy.1.id }, hx.2⟩
theorem right_df {x y : Pk} (hx : rightP x = true) (hy : rightP y = true) : rightP { x with df := y.df } = true := by
  rw [right_iff] at *; exact ⟨{ hx.1 with }, hx.2⟩
theorem right_dst {x y : Pk} (hx : rightP x = true) (hy : rightP y = true) : rightP { x with dv := y.dv, db := y.db } = true := by
  rw [right_iff] at *; exact ⟨{ hx.1 with dv := hy.1.dv, db := hy.1.db }, hx.2⟩
theorem right_ttl {x y : Pk} (hx : rightP x = true) (hy : rightP y = true) : rightP { x with ttl := y.ttl } = true := by
  rw [right_iff] at *; exact ⟨{ hx.1 with l0 := hy.1.l0, l1 := hy.1.l1 }, hx.2⟩
theorem right_proto {x y : Pk} (hx : rightP x = true) (hy : rightP y = true) : rightP { x with proto := y.proto } = true := by
  rw [right_iff] at *; exact ⟨{ hx.1 with r0 := hy.1.r0, r1 := hy.1.r1 }, hx.2⟩
theorem right_src {x y : Pk} (hx : rightP x = true) (hy : rightP y = true) : rightP { x with sv := y.sv, sb := y.sb } = true := by
  rw [right_iff] at *; exact ⟨{ hx.1 with sv := hy.1.sv, sb := hy.1.sb }, hx.2⟩
#print axioms lay4_inj
end Go.Proofs.YtkfbhofbajejiaaDoor
