/-
  wipe of the laws.
-/
import Derived.Test.YtbnnfbfmomafnaaDoorKept
namespace Go.Proofs.YtbnnfbfmomafnaaDoor
open Go.ChangeShapes Go.WideShapes Go.ChangeAt Go.RowKit Num
set_option linter.unusedVariables false
set_option maxHeartbeats 4000000
set_option maxRecDepth 100000

/-- What was lent is written over: nothing but the lists' own blocks. -/
theorem wipe_c (p : Pk) (ov dv : Value) (B : Nat) (w : World) (hm : Mine w B p ov dv) (hw : Wf p) :
    Calls Tryd.prog 21 #[.agg (csP p ov dv)] w fun E w' => E = .returned (.tuple #[]) ∧ Away (ov.ownBlock.toList ++ dv.ownBlock.toList) w w' := by
  obtain ⟨a1, n1, c1, rfl⟩ := hm.o.shp
  obtain ⟨a2, n2, c2, rfl⟩ := hm.d.shp
  have hn1 : p.o.length = n1 := (Sl.of (hm.o.sl hw.o hw.ol)).1
  have hn2 : p.d.length = n2 := (Sl.of (hm.d.sl hw.d hw.dn)).1
  have hl1 := hw.ol; have hl2 := hw.dn
  rw [hn1] at hl1
  rw [hn2] at hl2
  have HAD := Lib.hid hw.ad
  have HO := Lib.hid hm.o; have HD := Lib.hid hm.d; have HAP := Lib.hid hm.ap
  have HN1 := Lib.hid hn1; have HN2 := Lib.hid hn2
  have hlt1 := Lib.hid hm.o.lt; have hlt2 := Lib.hid hm.d.lt
  clear hm hw hn1 hn2
  go_enter Tryd.func21, Tryd.ntmps21
  go_wp2_with (refine wpList_box28 rfl _ rfl p _ _ rfl ?_; refine Hid.out ?_)
  refine Lib.hid ?_
  intro g1 w1 hg1 hb1 haw1
  have HS : Hid (∀ x ∈ (Value.slice a1 n1 c1).ownBlock.toList ++ (Value.slice a2 n2 c2).ownBlock.toList, x ≠ g1) := fun x hx => by
    rcases List.mem_append.1 hx with h | h
    · have := hlt1.out x (by simpa using h); omega
    · have := hlt2.out x (by simpa using h); omega
  have HST : Hid (Away ((Value.slice a1 n1 c1).ownBlock.toList ++ (Value.slice a2 n2 c2).ownBlock.toList) w w1 ∧ BoxP w1 g1 p (.slice a1 n1 c1) (.slice a2 n2 c2) ∧ (∃ m, m.length = n1 ∧ Owns w1 (.slice a1 n1 c1) m) ∧ Owns w1 (.slice a2 n2 c2) p.d) :=
    ⟨haw1.mono (by simp), hb1, ⟨p.o, HN1.out, HO.out.away haw1 (by simp)⟩, HD.out.away haw1 (by simp)⟩
  clear hb1 haw1 HO HD hg1
  go_wp2_with fail
  go_loopw [2] (fun i wr => ∃ k : Nat, k ≤ n1 ∧ i = .int .i64 k ∧ Away ((Value.slice a1 n1 c1).ownBlock.toList ++ (Value.slice a2 n2 c2).ownBlock.toList) w wr ∧ BoxP wr g1 p (.slice a1 n1 c1) (.slice a2 n2 c2) ∧ (∃ m, m.length = n1 ∧ Owns wr (.slice a1 n1 c1) m) ∧ Owns wr (.slice a2 n2 c2) p.d) (fun i _ => n1 - (intOf i).toNat)
  case atStart => exact ⟨0, by omega, rfl, HST.out⟩
  case round =>
    obtain ⟨k, hk, rfl, haw, hb, ⟨m, hml, hom⟩, hod⟩ := hrel
    have c12 := (hb.cells HAD.out).o
    by_cases hlt : k < n1
    · obtain ⟨g, cap, hv, hcap⟩ := hom.some' (by intro h; rw [h] at hml; simp at hml; omega)
      rw [hml] at hv
      simp only [Value.slice.injEq] at hv
      obtain ⟨rfl, -, rfl⟩ := hv
      obtain ⟨d0, d1⟩ := hom.cells k (by omega)
      have hA := away_put (w := wr) (g := g) k (.int .u8 238)
      have hgm : g ∈ (Value.slice (some ⟨g, 0, none⟩) n1 c1).ownBlock.toList ++ (Value.slice a2 n2 c2).ownBlock.toList := by simp [Value.ownBlock]
      have HST2 : Hid (Away ((Value.slice (some ⟨g, 0, none⟩) n1 c1).ownBlock.toList ++ (Value.slice a2 n2 c2).ownBlock.toList) w (wr.setCell ⟨g, k, none⟩ (.int .u8 238)) ∧ BoxP (wr.setCell ⟨g, k, none⟩ (.int .u8 238)) g1 p (.slice (some ⟨g, 0, none⟩) n1 c1) (.slice a2 n2 c2) ∧ (∃ m, m.length = n1 ∧ Owns (wr.setCell ⟨g, k, none⟩ (.int .u8 238)) (.slice (some ⟨g, 0, none⟩) n1 c1) m) ∧ Owns (wr.setCell ⟨g, k, none⟩ (.int .u8 238)) (.slice a2 n2 c2) p.d) :=
        ⟨haw.setCell (.inl hgm) _, hb.away hA (by simp; exact fun e => HS.out g hgm e.symm), ⟨m.set k 238, by simpa using hml, hom.set hml k 238⟩, hod.away hA (fun x hx hx' => HAP.out g rfl (by simp at hx'; rw [← hx']; exact hx))⟩
      have hlt' : (k : Int) < (n1 : Int) := by omega
      clear haw hb hom hod hA hgm
      go_wp2_with fail
      go_roundw
      case rel => exact ⟨k + 1, by omega, by go_num, HST2.out⟩
      case measure => simp [intOf]; omega
    · have hlt' : ¬ (k : Int) < (n1 : Int) := by omega
      have HST3 := Lib.hid (And.intro haw (And.intro hb hod))
      clear haw hb hom hod
      go_wp2_with fail
      go_loopw [3] (fun i wr => ∃ k : Nat, k ≤ n2 ∧ i = .int .i64 k ∧ Away ((Value.slice a1 n1 c1).ownBlock.toList ++ (Value.slice a2 n2 c2).ownBlock.toList) w wr ∧ BoxP wr g1 p (.slice a1 n1 c1) (.slice a2 n2 c2) ∧ (∃ m, m.length = n2 ∧ Owns wr (.slice a2 n2 c2) m)) (fun i _ => n2 - (intOf i).toNat)
      case atStart => exact ⟨0, by omega, rfl, HST3.out.1, HST3.out.2.1, p.d, HN2.out, HST3.out.2.2⟩
      case round =>
        obtain ⟨k, hk, rfl, haw, hb, ⟨m, hml, hom⟩⟩ := hrel
        have c13 := (hb.cells HAD.out).d
        by_cases hlt : k < n2
        · obtain ⟨g, cap, hv, hcap⟩ := hom.some' (by intro h; rw [h] at hml; simp at hml; omega)
          rw [hml] at hv
          simp only [Value.slice.injEq] at hv
          obtain ⟨rfl, -, rfl⟩ := hv
          obtain ⟨d0, d1⟩ := hom.cells k (by omega)
          have hA := away_put (w := wr) (g := g) k (.int .u8 238)
          have hgm : g ∈ (Value.slice a1 n1 c1).ownBlock.toList ++ (Value.slice (some ⟨g, 0, none⟩) n2 c2).ownBlock.toList := by simp [Value.ownBlock]
          have HST2 : Hid (Away ((Value.slice a1 n1 c1).ownBlock.toList ++ (Value.slice (some ⟨g, 0, none⟩) n2 c2).ownBlock.toList) w (wr.setCell ⟨g, k, none⟩ (.int .u8 238)) ∧ BoxP (wr.setCell ⟨g, k, none⟩ (.int .u8 238)) g1 p (.slice a1 n1 c1) (.slice (some ⟨g, 0, none⟩) n2 c2) ∧ (∃ m, m.length = n2 ∧ Owns (wr.setCell ⟨g, k, none⟩ (.int .u8 238)) (.slice (some ⟨g, 0, none⟩) n2 c2) m)) :=
            ⟨haw.setCell (.inl hgm) _, hb.away hA (by simp; exact fun e => HS.out g hgm e.symm), ⟨m.set k 238, by simpa using hml, hom.set hml k 238⟩⟩
          have hlt' : (k : Int) < (n2 : Int) := by omega
          clear haw hb hom hA hgm
          go_wp2_with fail
          go_roundw
          case rel => exact ⟨k + 1, by omega, by go_num, HST2.out⟩
          case measure => simp [intOf]; omega
        · have hlt' : ¬ (k : Int) < (n2 : Int) := by omega
          have HST4 := Lib.hid haw
          clear haw hb hom
          go_wp2_with fail
          go_end0
          exact ⟨rfl, HST4.out⟩
#print axioms wipe_c
end Go.Proofs.YtbnnfbfmomafnaaDoor
