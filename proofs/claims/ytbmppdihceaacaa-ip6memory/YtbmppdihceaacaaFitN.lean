/-
  fit of the law, as plain data.
-/
import Derived.Test.YtbmppdihceaacaaPk
namespace Go.Proofs.Ytbmppdihceaacaa
open Num
set_option linter.unusedVariables false

def fitA (p : Pk) : Pk := { p with v := 6, sv := 6, dv := 6, df := false, o := [], tos := p.tos % 256, flow := p.flow % 1048576, proto := if p.proto % 256 = 44 then 17 else p.proto % 256, ttl := p.ttl % 256 }
def fitB (p : Pk) : Pk := if p.frag = true then { p with off := p.off % 65536 / 8 * 8 } else { p with id := 0, off := 0, more := false }
def mostP (p : Pk) : Nat := if p.frag = true then min 65527 (65535 - p.off.toNat) else 65535
def fitC (p : Pk) : Pk := { p with d := p.d.take (mostP p) }
def fitD (p : Pk) : Pk := if p.more = true then { p with d := p.d.take (p.d.length / 8 * 8) } else p
def fitE (p : Pk) : Pk := if p.d.length = 0 then { p with more := false, off := 0 } else p
def fitP (p : Pk) : Pk := fitE (fitD (fitC (fitB (fitA p))))
theorem Wf.fitA {p : Pk} (h : Wf p) : Wf (fitA p) :=
  ⟨by simp [Go.Proofs.Ytbmppdihceaacaa.fitA, i64ok], by simp [Go.Proofs.Ytbmppdihceaacaa.fitA, i64ok]; omega, by simp [Go.Proofs.Ytbmppdihceaacaa.fitA, i64ok]; omega, by simp [Go.Proofs.Ytbmppdihceaacaa.fitA, i64ok], h.sl, h.sb, by simp [Go.Proofs.Ytbmppdihceaacaa.fitA, i64ok], h.dl, h.db, by simp [Go.Proofs.Ytbmppdihceaacaa.fitA, i64ok]; split <;> omega, by simp [Go.Proofs.Ytbmppdihceaacaa.fitA, i64ok]; omega, h.id0, h.id1, h.off, Bytes.nil, by simp [Go.Proofs.Ytbmppdihceaacaa.fitA], h.d, h.dn⟩
theorem Wf.fitB {p : Pk} (h : Wf p) : Wf (fitB p) := by
  unfold Go.Proofs.Ytbmppdihceaacaa.fitB
  split
  · exact { h with off := by simp [i64ok]; omega }
  · exact { h with off := by simp [i64ok], id0 := by simp, id1 := by simp }
theorem Wf.cut {p : Pk} (h : Wf p) (k : Nat) : Wf { p with d := p.d.take k } := { h with d := h.d.take k, dn := by have := h.dn; simp; omega }
theorem Wf.fitC {p : Pk} (h : Wf p) : Wf (fitC p) := h.cut _
theorem Wf.fitD {p : Pk} (h : Wf p) : Wf (fitD p) := by
  unfold Go.Proofs.Ytbmppdihceaacaa.fitD
  split
  · exact h.cut _
  · exact h
theorem Wf.fitE {p : Pk} (h : Wf p) : Wf (fitE p) := by
  unfold Go.Proofs.Ytbmppdihceaacaa.fitE
  split
  · exact { h with off := by simp [i64ok] }
  · exact h
theorem fit_wf {p : Pk} (h : Wf p) : Wf (fitP p) := h.fitA.fitB.fitC.fitD.fitE
/-- What holds ahead of the last step. -/
structure Near (p : Pk) : Prop where
  v : p.v = 6
  df : p.df = false
  o : p.o = []
  f0 : 0 ≤ p.flow
  f1 : p.flow < 1048576
  t0 : 0 ≤ p.tos
  t1 : p.tos ≤ 255
  l0 : 0 ≤ p.ttl
  l1 : p.ttl ≤ 255
  r0 : 0 ≤ p.proto
  r1 : p.proto ≤ 255
  r44 : p.proto ≠ 44
  sv : p.sv = 6
  dv : p.dv = 6
  o0 : 0 ≤ p.off
  o1 : p.off ≤ 65528
  o8 : p.off % 8 = 0
  bare : p.frag = false → p.id = 0 ∧ p.off = 0 ∧ p.more = false
theorem near_fit (p : Pk) : Near (fitB (fitA p)) := by
  unfold fitB
  split
  · rename_i h
    exact ⟨rfl, rfl, rfl, by simp [fitA]; omega, by simp [fitA]; omega, by simp [fitA]; omega, by simp [fitA]; omega, by simp [fitA]; omega, by simp [fitA]; omega, by simp [fitA]; split <;> omega, by simp [fitA]; split <;> omega, by simp [fitA]; split <;> omega, rfl, rfl, by simp [fitA]; omega, by simp [fitA]; omega, by simp [fitA], fun e => by rw [show ({ fitA p with off := (fitA p).off % 65536 / 8 * 8 } : Pk).frag = (fitA p).frag from rfl, h] at e; simp at e⟩
  · exact ⟨rfl, rfl, rfl, by simp [fitA]; omega, by simp [fitA]; omega, by simp [fitA]; omega, by simp [fitA]; omega, by simp [fitA]; omega, by simp [fitA]; omega, by simp [fitA]; split <;> omega, by simp [fitA]; split <;> omega, by simp [fitA]; split <;> omega, rfl, rfl, by simp, by simp, by simp, fun _ => ⟨rfl, rfl, rfl⟩⟩
theorem most_bd (p : Pk) (h : Near p) (n : Nat) (hn : n ≤ mostP p) : p.off + n ≤ 65535 ∧ hofP p - 40 + n ≤ 65535 := by
  have := h.o0; have := h.o1
  unfold mostP hofP at *
  cases hf : p.frag
  · rw [hf] at hn
    have := (h.bare hf).2.1
    simp at hn ⊢; omega
  · rw [hf] at hn
    simp at hn ⊢; omega
theorem right_fit (p : Pk) : rightP (fitP p) = true := by
  rw [right_iff]
  have hN := near_fit p
  unfold fitP
  generalize fitB (fitA p) = q at hN
  have hb : ∀ n, n ≤ mostP q → q.off + n ≤ 65535 ∧ hofP q - 40 + n ≤ 65535 := most_bd q hN
  have hc : (fitC q).d.length ≤ mostP q := by simp [fitC]; omega
  have key : ∀ d : List Int, d.length ≤ mostP q → (q.more = true → d.length % 8 = 0) → Rgt (fitE { q with d := d }) := by
    intro d hd hm
    obtain ⟨x1, x2⟩ := hb d.length hd
    unfold fitE
    by_cases h0 : d.length = 0
    · rw [if_pos h0]
      exact ⟨hN.v, hN.df, hN.o, hN.f0, hN.f1, hN.t0, hN.t1, hN.l0, hN.l1, hN.r0, hN.r1, hN.r44, hN.sv, hN.dv, by simp, by simp, by simp, by simp, by simp, by simp [h0], fun h => ⟨(hN.bare h).1, rfl, rfl⟩, x2⟩
    · rw [if_neg h0]
      exact ⟨hN.v, hN.df, hN.o, hN.f0, hN.f1, hN.t0, hN.t1, hN.l0, hN.l1, hN.r0, hN.r1, hN.r44, hN.sv, hN.dv, hN.o0, hN.o1, hN.o8, hm, fun _ => h0, x1, hN.bare, x2⟩
  unfold fitD
  by_cases hm : q.more = true
  · rw [if_pos (show (fitC q).more = true from hm)]
    refine key ((fitC q).d.take ((fitC q).d.length / 8 * 8)) (by simp at hc ⊢; omega) (fun _ => ?_)
    simp only [List.length_take]
    omega
  · rw [if_neg (show ¬ (fitC q).more = true from hm)]
    exact key (fitC q).d hc (fun h => absurd h hm)
#print axioms right_fit
end Go.Proofs.Ytbmppdihceaacaa
