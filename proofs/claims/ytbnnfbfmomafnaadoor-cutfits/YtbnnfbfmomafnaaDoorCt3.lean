/-
  What each piece of a cut is. Plain data.
-/
import Derived.Test.YtbnnfbfmomafnaaDoorCt2
namespace Go.Proofs.YtbnnfbfmomafnaaDoor
open Num
set_option linter.unusedVariables false

theorem share_more {left room : Nat} {v : Int} (h : shareP left room v < left) : shareP left room v = room / 8 * 8 := by
  unfold shareP at h ⊢
  by_cases c : left ≤ (if v = 6 then room / 8 * 8 else room)
  · rw [if_pos c] at h; omega
  · rw [if_neg c]
theorem share_six {left room : Nat} : shareP left room 6 ≤ room / 8 * 8 := by
  unfold shareP; rw [if_pos rfl]; split <;> omega
/-- The piece x of p at n, of s bytes, out of the frame f. -/
structure Piece (p f x : Pk) (m : Int) (n s : Nat) : Prop where
  r : rgtP x = true
  long : ((topP x + x.d.length : Nat) : Int) ≤ m
  off : x.off = (n : Int)
  len : x.d.length = s
  d : x.d = (p.d.drop n).take s
  le : n + s ≤ p.d.length
  pos : 0 < s
  n8 : n + s = p.d.length ∨ (n + s) % 8 = 0
  more : x.more = decide (n + s < p.d.length)
  v : x.v = p.v
  sv : x.sv = p.sv
  sb : x.sb = p.sb
  dv : x.dv = p.dv
  db : x.db = p.db
  proto : x.proto = p.proto
  ttl : x.ttl = p.ttl
  tos : x.tos = p.tos
  tight : x.more = true → m < ((topP x + x.d.length : Nat) : Int) + 8
  id4 : p.v ≠ 6 → x.id = p.id
  six : p.v = 6 → x.frag = true ∧ x.flow = p.flow ∧ x.id = f.id ∧ (s : Int) ≤ ((m - 48).toNat / 8 * 8 : Nat)
theorem piece_of {p f : Pk} {m : Int} (h : Unc p) (hw : Wf p) (hf : Frm p f) (hm : mtuP m p.v = true) {n : Nat} (hlt : n < p.d.length) (h8 : n % 8 = 0) :
    Piece p f (plcP f n ((p.d.drop n).take (shareP (p.d.length - n) (roomP f m) p.v)) (decide (shareP (p.d.length - n) (roomP f m) p.v < p.d.length - n))) m n (shareP (p.d.length - n) (roomP f m) p.v) := by
  have ht := took h hw hf hm hlt
  obtain ⟨r1, r2, r3, r4, r5, r6, r7⟩ := room_eq h hw hf hm
  have hmore : shareP (p.d.length - n) (roomP f m) p.v < p.d.length - n → shareP (p.d.length - n) (roomP f m) p.v = roomP f m / 8 * 8 := share_more
  have hsix : p.v = 6 → shareP (p.d.length - n) (roomP f m) p.v ≤ roomP f m / 8 * 8 := fun hv => by rw [hv]; exact share_six
  have htop6 := (frame_right h hw hf).2.2.2
  generalize shareP (p.d.length - n) (roomP f m) p.v = s at *
  have hlen := ht.len
  have hle := ht.le
  have hpos := ht.pos
  have hlong := ht.long
  have hr : rgtP (plcP f n ((p.d.drop n).take s) (decide (s < p.d.length - n))) = true :=
    piece_right h hw hf n _ _ (by rw [ht.len]; exact hpos) h8 (by rw [ht.len]; exact hle) (fun e => by rw [ht.len]; have := ht.d8; have := of_decide_eq_true e; omega) (fun hv => by rw [ht.len]; exact ht.six hv)
  have hfld : f.v = p.v ∧ f.sv = p.sv ∧ f.sb = p.sb ∧ f.dv = p.dv ∧ f.db = p.db ∧ f.proto = p.proto ∧ f.ttl = p.ttl ∧ f.tos = p.tos ∧ (p.v ≠ 6 → f.id = p.id) ∧ (p.v = 6 → f.frag = true ∧ f.flow = p.flow) := by
    by_cases hv : p.v = 6
    · obtain ⟨id, rfl, -⟩ := hf.h6 hv
      exact ⟨rfl, rfl, rfl, rfl, rfl, rfl, rfl, rfl, fun e => absurd hv e, fun _ => ⟨rfl, rfl⟩⟩
    · obtain ⟨o, rfl, -⟩ := hf.h4 hv
      exact ⟨rfl, rfl, rfl, rfl, rfl, rfl, rfl, rfl, fun _ => rfl, fun e => absurd e hv⟩
  obtain ⟨e1, e2, e3, e4, e5, e6, e7, e8, e9, e10⟩ := hfld
  refine ⟨hr, ?_, rfl, hlen, rfl, hle, hpos, by have := ht.d8; omega, ?_, e1, e2, e3, e4, e5, e6, e7, e8, ?_, e9, fun hv => ⟨(e10 hv).1, (e10 hv).2, rfl, ?_⟩⟩
  · rw [plc_top]; show ((topP f + ((p.d.drop n).take s).length : Nat) : Int) ≤ m; rw [hlen]; omega
  · show decide (s < p.d.length - n) = decide (n + s < p.d.length)
    apply decide_eq_decide.2; omega
  · intro hmo
    have h1 := hmore (of_decide_eq_true hmo)
    rw [plc_top]; show m < ((topP f + ((p.d.drop n).take s).length : Nat) : Int) + 8
    rw [hlen]; omega
  · have h1 := hsix hv
    have h2 := htop6 hv
    rw [r2, h2] at h1
    omega
#print axioms piece_of
end Go.Proofs.YtbnnfbfmomafnaaDoor
