/-
  SpanNorms.
-/
import Derived.Test.YtckiiidigajhpaaRkit
namespace Go.Proofs.Ytckiiidigajhpaa
open Go.ChangeShapes Go.WideShapes Go.ChangeAt Go.RowKit Go.Deep
set_option linter.unusedVariables false
set_option maxRecDepth 100000

set_option maxHeartbeats 16000000 in
theorem walk (a : Option Addr) (l : List Sp) (cap : Nat) (kk : Int) (W : World) (hsl : Sl W a cap l) (hl : l.length ≤ 8796093021952) (hu : l.length ≤ 1048576) (hk : (Lit.int .i64 kk).wf = true) :
    Calls Try.prog 3 #[.slice a l.length cap, .int .i64 kk] W fun e w' => e = .returned (.bool true) ∧ Below W.heap.size W w' := by
  have HL : Hid (Sl W a cap l) := hsl
  have HW : Hid (Away [] W W) := Away.refl _ _
  have HK : Hid (I64 kk) := bounds_i64 hk
  clear hsl hk
  go_enter Try.func3, Try.ntmps3
  go_wp2_with fail
  refine (alive_c _).mono ?_
  rintro E w2 ⟨rfl, haw⟩
  replace HW := hidI (HW.out.trans haw)
  replace HL := hidI (HL.out.on haw)
  clear haw
  go_wp2_with fail
  refine (own_s (by exact HL.out) rfl).mono ?_
  rintro E w2 ⟨aO, cO, rfl, hsO, -, haw⟩
  replace HW := hidI (HW.out.trans haw)
  replace HL := hidI (HL.out.on haw)
  have HO := hidI hsO
  clear hsO
  clear haw
  go_wp2_with fail
  refine (norm_s (by exact HO.out) rfl).mono ?_
  rintro E w2 (⟨hal, r, ⟨aR, cR, nR, rfl, hnR, hsR, haw⟩, hof⟩ | ⟨hal, rfl, haw⟩)
  · have HAL := hidI hal
    have HR := hidI hsR
    have NR := hidI hnR
    have HOF := hidI hof
    have HEQ : Hid (decide (r = l) = rightP l) := by
      show _ = _
      cases hb : rightP l
      · rw [decide_eq_false_iff_not]
        intro e
        rw [← e, hof.right] at hb; simp at hb
      · rw [decide_eq_true_eq]
        exact hof.uniq (Of.self hb)
    replace HW := hidI (HW.out.trans haw)
    replace HL := hidI (HL.out.on haw)
    clear hal hsR hnR hof haw HO
    have HW1 := HW
    generalize hW1 : w2 = W1 at *
    clear hW1
    go_wp2_with fail
    go_loopw [8, 9] (fun v i wr => ∃ (k : Nat), k ≤ l.length ∧ i = .int .i64 ((k : Int) - 1) ∧ Mk W1 wr v (l.drop k).reverse) (fun _ i _ => (intOf i + 1).toNat)
    case atStart => exact ⟨l.length, by omega, rfl, by rw [List.drop_eq_nil_of_le (by omega)]; exact Mk.nil _⟩
    case round =>
      obtain ⟨k, hk, rfl, hm⟩ := hrel
      have HM : Hid (Mk W1 wr u8 (l.drop k).reverse) := hm
      clear hm
      by_cases h0 : k = 0
      · subst h0
        have haw := HM.out.2.2
        replace HM : Hid (Mk W1 wr u8 l.reverse) := HM.out
        clear haw
        by_cases hneg : kk < 0
        · have hk0 : I64 kk := HK.out
          unfold I64 at hk0
          have HM1 := hidI HM.out
          clear HM
          go_wp2_with fail
          go_loopw [8, 10] (fun v i wr => ∃ (j : Nat) (m : List Sp), j ≤ l.length ∧ i = .int .i64 (j : Int) ∧ Mk W1 wr v m ∧ (∀ x, x ∈ m ↔ x ∈ l) ∧ m.length ≤ l.length + j) (fun _ i _ => l.length - (intOf i).toNat)
          case atStart => exact ⟨0, _, by omega, rfl, HM1.out, by simp, by simp⟩
          case round =>
            obtain ⟨j, m, hj, rfl, hm, hmm, hml⟩ := hrel
            have HM : Hid (Mk W1 wr u8 m) := hm
            have HMM : Hid (∀ x, x ∈ m ↔ x ∈ l) := hmm
            clear hm hmm HM1
            by_cases hlt : j < l.length
            · obtain ⟨x, hx, hxm⟩ := get_of hlt
              obtain ⟨b, off, hbo, c1, c2, -⟩ := (HL.out.on HM.out.2.2).row.at hx
              subst hbo
              clear hx
              obtain ⟨x1, x2⟩ := x
              simp only at c1 c2
              have HXM : Hid ((x1, x2) ∈ l) := hxm
              clear hxm
              have hpos : 0 < l.length := by omega
              go_wp2_with (at_builtin; refine wpList_app2 rfl _ _ rfl _ m rfl (by exact HM.out.1.on ((Away.refl [] _).alloc _)) ⟨_, 0, none⟩ 1 rfl (x1, x2) (by rw [World.cell?_alloc_at (hn := rfl)]; rfl) (by rw [add_plain, World.cell?_alloc_at (hn := rfl)]; rfl) (by omega) ?_)
              · intro v' w2 hown2 hgr hmov
                have HM2 : Hid (Mk W1 w2 v' (m ++ [(x1, x2)])) := ⟨hown2, HM.out.2.1.moved hmov (by have := HM.out.2.2.size; simp; omega), (HM.out.2.2.alloc _).step hgr HM.out.2.1⟩
                have HMN : Hid (∀ y, y ∈ m ++ [(x1, x2)] ↔ y ∈ l) := fun y => by
                  rw [List.mem_append, HMM.out]
                  constructor
                  · rintro (h | h)
                    · exact h
                    · simp at h; rw [h]; exact HXM.out
                  · exact .inl
                have HLM : Hid ((m ++ [(x1, x2)]).length ≤ l.length + (j + 1)) := by show _ ≤ _; simp; omega
                clear hown2 hgr hmov
                generalize m ++ [(x1, x2)] = m2 at *
                go_wp2_with fail
                first | exact ⟨⟨j + 1, m2, by omega, by go_num, HM2.out, HMN.out, HLM.out⟩, by simp [intOf]; omega⟩ | exact ⟨⟨_, _, _, _, _, _, _, _, _, _, _, _, _, _, _, _, _, _, _, _, _, _, _, _, _, ⟨j + 1, m2, by omega, by go_num, HM2.out, HMN.out, HLM.out⟩, rfl⟩, by simp [intOf]; omega⟩
              · exact ⟨⟨j + 1, m, by omega, by go_num, HM.out, HMM.out, by omega⟩, by simp [intOf]; omega⟩
            · have hall : allIs m = allIs l := by
                rw [Bool.eq_iff_iff, allIs_iff, allIs_iff]
                exact ⟨fun h s hs => h s ((HMM.out s).2 hs), fun h s hs => h s ((HMM.out s).1 hs)⟩
              have HOK : Hid (∀ x ∈ m, OkS x) := fun x hx => HL.out.row.2.1 x ((HMM.out x).1 hx)
              have HIN : Hid (∀ n, inB m n = inB l n) := fun n => by
                rw [Bool.eq_iff_iff, inB_iff, inB_iff]
                exact ⟨fun ⟨s, hs, h⟩ => ⟨s, (HMM.out s).1 hs, h⟩, fun ⟨s, hs, h⟩ => ⟨s, (HMM.out s).2 hs, h⟩⟩
              obtain ⟨aM, cM, hv, hsm⟩ := HM.out.sl (by omega) HOK.out
              subst hv
              have HBK := hidI hsm
              have haw := HM.out.2.2
              replace HW := hidI (HW.out.trans haw)
              replace HL := hidI (HL.out.on haw)
              replace HR := hidI (HR.out.on haw)
              have HAB : Hid (allIs m = true) := by show _ = _; rw [hall]; exact HAL.out
              have HOB : Hid (Of r (inB m)) := ⟨HOF.out.right, fun n => by rw [HOF.out.has, HIN.out]⟩
              clear haw hsm HM
              go_wp2_with fail
              refine (normY (l := m) r (by exact HBK.out) rfl HAB.out HOB.out).mono ?_
              rintro E w2 ⟨aB, cB, nB, rfl, hnB, hsB, haw⟩
              replace HW := hidI (HW.out.trans haw)
              replace HL := hidI (HL.out.on haw)
              replace HR := hidI (HR.out.on haw)
              have HB := hidI hsB
              have NB := hidI hnB
              clear hsB hnB
              clear haw
              go_wp2_with fail
              refine (same_s (z := true) (l := r) (m := r) (by exact HR.out) (by exact HB.out) NR.out NB.out (by simp)).mono ?_
              rintro E w2 ⟨rfl, haw⟩
              replace HW := hidI (HW.out.trans haw)
              replace HL := hidI (HL.out.on haw)
              replace HR := hidI (HR.out.on haw)
              replace HB := hidI (HB.out.on haw)
              clear haw
              go_wp2_with fail
              refine (own_s (by exact HR.out) NR.out).mono ?_
              rintro E w2 ⟨aX, cX, rfl, hsX, -, haw⟩
              replace HW := hidI (HW.out.trans haw)
              replace HL := hidI (HL.out.on haw)
              replace HR := hidI (HR.out.on haw)
              have HX := hidI hsX
              clear hsX
              clear haw
              go_wp2_with fail
              refine (normY r (by exact HX.out) NR.out (right_all HOF.out.right) (Of.self HOF.out.right)).mono ?_
              rintro E w2 ⟨aC, cC, nC, rfl, hnC, hsC, haw⟩
              replace HW := hidI (HW.out.trans haw)
              replace HL := hidI (HL.out.on haw)
              replace HR := hidI (HR.out.on haw)
              have HC := hidI hsC
              have NC := hidI hnC
              clear hsC hnC
              clear haw
              go_wp2_with fail
              refine (same_s (z := true) (l := r) (m := r) (by exact HC.out) (by exact HR.out) NC.out NR.out (by simp)).mono ?_
              rintro E w2 ⟨rfl, haw⟩
              replace HW := hidI (HW.out.trans haw)
              replace HL := hidI (HL.out.on haw)
              replace HR := hidI (HR.out.on haw)
              clear haw
              go_wp2_with fail
              refine (own_s (by exact HR.out) NR.out).mono ?_
              rintro E w2 ⟨aY, cY, rfl, hsY, -, haw⟩
              replace HW := hidI (HW.out.trans haw)
              replace HL := hidI (HL.out.on haw)
              replace HR := hidI (HR.out.on haw)
              have HY := hidI hsY
              clear hsY
              clear haw
              go_wp2_with fail
              refine (rightS (z := true) (by exact HY.out) NR.out HOF.out.right).mono ?_
              rintro E w2 ⟨rfl, haw⟩
              replace HW := hidI (HW.out.trans haw)
              replace HL := hidI (HL.out.on haw)
              replace HR := hidI (HR.out.on haw)
              clear haw
              go_wp2_with fail
              refine (own_s (by exact HL.out) rfl).mono ?_
              rintro E w2 ⟨aZ, cZ, rfl, hsZ, -, haw⟩
              replace HW := hidI (HW.out.trans haw)
              replace HL := hidI (HL.out.on haw)
              replace HR := hidI (HR.out.on haw)
              have HZ := hidI hsZ
              clear hsZ
              clear haw
              go_wp2_with fail
              refine (rightS (z := rightP l) (by exact HZ.out) rfl rfl).mono ?_
              rintro E w2 ⟨rfl, haw⟩
              replace HW := hidI (HW.out.trans haw)
              replace HL := hidI (HL.out.on haw)
              replace HR := hidI (HR.out.on haw)
              clear haw
              go_wp2_with fail
              refine (same_s (z := rightP l) (l := r) (m := l) (by exact HR.out) (by exact HL.out) NR.out rfl HEQ.out).mono ?_
              rintro E w2 ⟨rfl, haw⟩
              replace HW := hidI (HW.out.trans haw)
              clear haw
              cases hb : rightP l
              · go_wp2_with fail
                go_ret
                exact ⟨rfl, HW.out.to_below⟩
              · go_wp2_with fail
                go_ret
                exact ⟨rfl, HW.out.to_below⟩
        · have HM1 := hidI HM.out
          clear HM
          go_wp2_with fail
          go_loopw [8, 10] (fun v i wr => ∃ (j : Nat) (m : List Sp), j ≤ l.length ∧ i = .int .i64 (j : Int) ∧ Mk W1 wr v m ∧ (∀ x, x ∈ m ↔ x ∈ l) ∧ m.length ≤ l.length + j) (fun _ i _ => l.length - (intOf i).toNat)
          case atStart => exact ⟨0, _, by omega, rfl, HM1.out, by simp, by simp⟩
          case round =>
            obtain ⟨j, m, hj, rfl, hm, hmm, hml⟩ := hrel
            have HM : Hid (Mk W1 wr u8 m) := hm
            have HMM : Hid (∀ x, x ∈ m ↔ x ∈ l) := hmm
            clear hm hmm HM1
            by_cases hlt : j < l.length
            · obtain ⟨x, hx, hxm⟩ := get_of hlt
              obtain ⟨b, off, hbo, c1, c2, -⟩ := (HL.out.on HM.out.2.2).row.at hx
              subst hbo
              clear hx
              obtain ⟨x1, x2⟩ := x
              simp only at c1 c2
              have HXM : Hid ((x1, x2) ∈ l) := hxm
              clear hxm
              have hpos : 0 < l.length := by omega
              go_wp2_with (at_builtin; refine wpList_app2 rfl _ _ rfl _ m rfl (by exact HM.out.1.on ((Away.refl [] _).alloc _)) ⟨_, 0, none⟩ 1 rfl (x1, x2) (by rw [World.cell?_alloc_at (hn := rfl)]; rfl) (by rw [add_plain, World.cell?_alloc_at (hn := rfl)]; rfl) (by omega) ?_)
              · intro v' w2 hown2 hgr hmov
                have HM2 : Hid (Mk W1 w2 v' (m ++ [(x1, x2)])) := ⟨hown2, HM.out.2.1.moved hmov (by have := HM.out.2.2.size; simp; omega), (HM.out.2.2.alloc _).step hgr HM.out.2.1⟩
                have HMN : Hid (∀ y, y ∈ m ++ [(x1, x2)] ↔ y ∈ l) := fun y => by
                  rw [List.mem_append, HMM.out]
                  constructor
                  · rintro (h | h)
                    · exact h
                    · simp at h; rw [h]; exact HXM.out
                  · exact .inl
                have HLM : Hid ((m ++ [(x1, x2)]).length ≤ l.length + (j + 1)) := by show _ ≤ _; simp; omega
                clear hown2 hgr hmov
                generalize m ++ [(x1, x2)] = m2 at *
                go_wp2_with fail
                first | exact ⟨⟨j + 1, m2, by omega, by go_num, HM2.out, HMN.out, HLM.out⟩, by simp [intOf]; omega⟩ | exact ⟨⟨_, _, _, _, _, _, _, _, _, _, _, _, _, _, _, _, _, _, _, _, _, _, _, _, _, ⟨j + 1, m2, by omega, by go_num, HM2.out, HMN.out, HLM.out⟩, rfl⟩, by simp [intOf]; omega⟩
              · exact ⟨⟨j + 1, m, by omega, by go_num, HM.out, HMM.out, by omega⟩, by simp [intOf]; omega⟩
            · have hall : allIs m = allIs l := by
                rw [Bool.eq_iff_iff, allIs_iff, allIs_iff]
                exact ⟨fun h s hs => h s ((HMM.out s).2 hs), fun h s hs => h s ((HMM.out s).1 hs)⟩
              have HOK : Hid (∀ x ∈ m, OkS x) := fun x hx => HL.out.row.2.1 x ((HMM.out x).1 hx)
              have HIN : Hid (∀ n, inB m n = inB l n) := fun n => by
                rw [Bool.eq_iff_iff, inB_iff, inB_iff]
                exact ⟨fun ⟨s, hs, h⟩ => ⟨s, (HMM.out s).1 hs, h⟩, fun ⟨s, hs, h⟩ => ⟨s, (HMM.out s).2 hs, h⟩⟩
              obtain ⟨aM, cM, hv, hsm⟩ := HM.out.sl (by omega) HOK.out
              subst hv
              have HBK := hidI hsm
              have haw := HM.out.2.2
              replace HW := hidI (HW.out.trans haw)
              replace HL := hidI (HL.out.on haw)
              replace HR := hidI (HR.out.on haw)
              have HAB : Hid (allIs m = true) := by show _ = _; rw [hall]; exact HAL.out
              have HOB : Hid (Of r (inB m)) := ⟨HOF.out.right, fun n => by rw [HOF.out.has, HIN.out]⟩
              clear haw hsm HM
              go_wp2_with fail
              refine (normY (l := m) r (by exact HBK.out) rfl HAB.out HOB.out).mono ?_
              rintro E w2 ⟨aB, cB, nB, rfl, hnB, hsB, haw⟩
              replace HW := hidI (HW.out.trans haw)
              replace HL := hidI (HL.out.on haw)
              replace HR := hidI (HR.out.on haw)
              have HB := hidI hsB
              have NB := hidI hnB
              clear hsB hnB
              clear haw
              go_wp2_with fail
              refine (same_s (z := true) (l := r) (m := r) (by exact HR.out) (by exact HB.out) NR.out NB.out (by simp)).mono ?_
              rintro E w2 ⟨rfl, haw⟩
              replace HW := hidI (HW.out.trans haw)
              replace HL := hidI (HL.out.on haw)
              replace HR := hidI (HR.out.on haw)
              replace HB := hidI (HB.out.on haw)
              clear haw
              go_wp2_with fail
              refine (own_s (by exact HR.out) NR.out).mono ?_
              rintro E w2 ⟨aX, cX, rfl, hsX, -, haw⟩
              replace HW := hidI (HW.out.trans haw)
              replace HL := hidI (HL.out.on haw)
              replace HR := hidI (HR.out.on haw)
              have HX := hidI hsX
              clear hsX
              clear haw
              go_wp2_with fail
              refine (normY r (by exact HX.out) NR.out (right_all HOF.out.right) (Of.self HOF.out.right)).mono ?_
              rintro E w2 ⟨aC, cC, nC, rfl, hnC, hsC, haw⟩
              replace HW := hidI (HW.out.trans haw)
              replace HL := hidI (HL.out.on haw)
              replace HR := hidI (HR.out.on haw)
              have HC := hidI hsC
              have NC := hidI hnC
              clear hsC hnC
              clear haw
              go_wp2_with fail
              refine (same_s (z := true) (l := r) (m := r) (by exact HC.out) (by exact HR.out) NC.out NR.out (by simp)).mono ?_
              rintro E w2 ⟨rfl, haw⟩
              replace HW := hidI (HW.out.trans haw)
              replace HL := hidI (HL.out.on haw)
              replace HR := hidI (HR.out.on haw)
              clear haw
              go_wp2_with fail
              refine (own_s (by exact HR.out) NR.out).mono ?_
              rintro E w2 ⟨aY, cY, rfl, hsY, -, haw⟩
              replace HW := hidI (HW.out.trans haw)
              replace HL := hidI (HL.out.on haw)
              replace HR := hidI (HR.out.on haw)
              have HY := hidI hsY
              clear hsY
              clear haw
              go_wp2_with fail
              refine (rightS (z := true) (by exact HY.out) NR.out HOF.out.right).mono ?_
              rintro E w2 ⟨rfl, haw⟩
              replace HW := hidI (HW.out.trans haw)
              replace HL := hidI (HL.out.on haw)
              replace HR := hidI (HR.out.on haw)
              clear haw
              go_wp2_with fail
              refine (own_s (by exact HL.out) rfl).mono ?_
              rintro E w2 ⟨aZ, cZ, rfl, hsZ, -, haw⟩
              replace HW := hidI (HW.out.trans haw)
              replace HL := hidI (HL.out.on haw)
              replace HR := hidI (HR.out.on haw)
              have HZ := hidI hsZ
              clear hsZ
              clear haw
              go_wp2_with fail
              refine (rightS (z := rightP l) (by exact HZ.out) rfl rfl).mono ?_
              rintro E w2 ⟨rfl, haw⟩
              replace HW := hidI (HW.out.trans haw)
              replace HL := hidI (HL.out.on haw)
              replace HR := hidI (HR.out.on haw)
              clear haw
              go_wp2_with fail
              refine (same_s (z := rightP l) (l := r) (m := l) (by exact HR.out) (by exact HL.out) NR.out rfl HEQ.out).mono ?_
              rintro E w2 ⟨rfl, haw⟩
              replace HW := hidI (HW.out.trans haw)
              clear haw
              cases hb : rightP l
              · go_wp2_with fail
                go_ret
                exact ⟨rfl, HW.out.to_below⟩
              · go_wp2_with fail
                go_ret
                exact ⟨rfl, HW.out.to_below⟩
      · obtain ⟨k', rfl⟩ : ∃ k', k = k' + 1 := ⟨k - 1, by omega⟩
        obtain ⟨x, hx, _⟩ := get_of (show k' < l.length by omega)
        obtain ⟨b, off, hbo, c1, c2, -⟩ := (HL.out.on HM.out.2.2).row.at hx
        have HT : Hid ((l.drop k').reverse = (l.drop (k' + 1)).reverse ++ [x]) := by show _ = _; rw [drop_at hx]; simp
        have HLN : Hid ((l.drop (k' + 1)).reverse.length ≤ l.length) := by show _ ≤ _; simp
        subst hbo
        clear hx
        obtain ⟨x1, x2⟩ := x
        simp only at c1 c2
        generalize (l.drop (k' + 1)).reverse = m at *
        have e1 : ((k' + 1 : Nat) : Int) - 1 = (k' : Int) := by omega
        rw [e1]
        go_wp2_with (at_builtin; refine wpList_app2 rfl _ _ rfl _ m rfl (by exact HM.out.1.on ((Away.refl [] _).alloc _)) ⟨_, 0, none⟩ 1 rfl (x1, x2) (by rw [World.cell?_alloc_at (hn := rfl)]; rfl) (by rw [add_plain, World.cell?_alloc_at (hn := rfl)]; rfl) (by have := HLN.out; omega) ?_)
        intro v' w2 hown2 hgr hmov
        have HM2 : Hid (Mk W1 w2 v' (m ++ [(x1, x2)])) := ⟨hown2, HM.out.2.1.moved hmov (by have := HM.out.2.2.size; simp; omega), (HM.out.2.2.alloc _).step hgr HM.out.2.1⟩
        clear hown2 hgr hmov
        go_wp2_with fail
        go_roundw
        case rel => exact ⟨k', by omega, by go_num, by rw [HT.out]; exact HM2.out⟩
        case measure => first | (simp [intOf]; done) | (simp [intOf]; omega)
  · have HAL := hidI hal
    have HRF : Hid (rightP l = false) := by
      show _ = _
      rw [Bool.eq_false_iff]; intro h
      rw [right_all h] at hal; simp at hal
    replace HW := hidI (HW.out.trans haw)
    replace HL := hidI (HL.out.on haw)
    clear hal haw HO
    have HW1 := HW
    generalize hW1 : w2 = W1 at *
    clear hW1
    go_wp2_with fail
    go_loopw [8, 9] (fun v i wr => ∃ (k : Nat), k ≤ l.length ∧ i = .int .i64 ((k : Int) - 1) ∧ Mk W1 wr v (l.drop k).reverse) (fun _ i _ => (intOf i + 1).toNat)
    case atStart => exact ⟨l.length, by omega, rfl, by rw [List.drop_eq_nil_of_le (by omega)]; exact Mk.nil _⟩
    case round =>
      obtain ⟨k, hk, rfl, hm⟩ := hrel
      have HM : Hid (Mk W1 wr u8 (l.drop k).reverse) := hm
      clear hm
      by_cases h0 : k = 0
      · subst h0
        have haw := HM.out.2.2
        replace HM : Hid (Mk W1 wr u8 l.reverse) := HM.out
        clear haw
        by_cases hneg : kk < 0
        · have hk0 : I64 kk := HK.out
          unfold I64 at hk0
          have HM1 := hidI HM.out
          clear HM
          go_wp2_with fail
          go_loopw [8, 10] (fun v i wr => ∃ (j : Nat) (m : List Sp), j ≤ l.length ∧ i = .int .i64 (j : Int) ∧ Mk W1 wr v m ∧ (∀ x, x ∈ m ↔ x ∈ l) ∧ m.length ≤ l.length + j) (fun _ i _ => l.length - (intOf i).toNat)
          case atStart => exact ⟨0, _, by omega, rfl, HM1.out, by simp, by simp⟩
          case round =>
            obtain ⟨j, m, hj, rfl, hm, hmm, hml⟩ := hrel
            have HM : Hid (Mk W1 wr u8 m) := hm
            have HMM : Hid (∀ x, x ∈ m ↔ x ∈ l) := hmm
            clear hm hmm HM1
            by_cases hlt : j < l.length
            · obtain ⟨x, hx, hxm⟩ := get_of hlt
              obtain ⟨b, off, hbo, c1, c2, -⟩ := (HL.out.on HM.out.2.2).row.at hx
              subst hbo
              clear hx
              obtain ⟨x1, x2⟩ := x
              simp only at c1 c2
              have HXM : Hid ((x1, x2) ∈ l) := hxm
              clear hxm
              have hpos : 0 < l.length := by omega
              go_wp2_with (at_builtin; refine wpList_app2 rfl _ _ rfl _ m rfl (by exact HM.out.1.on ((Away.refl [] _).alloc _)) ⟨_, 0, none⟩ 1 rfl (x1, x2) (by rw [World.cell?_alloc_at (hn := rfl)]; rfl) (by rw [add_plain, World.cell?_alloc_at (hn := rfl)]; rfl) (by omega) ?_)
              · intro v' w2 hown2 hgr hmov
                have HM2 : Hid (Mk W1 w2 v' (m ++ [(x1, x2)])) := ⟨hown2, HM.out.2.1.moved hmov (by have := HM.out.2.2.size; simp; omega), (HM.out.2.2.alloc _).step hgr HM.out.2.1⟩
                have HMN : Hid (∀ y, y ∈ m ++ [(x1, x2)] ↔ y ∈ l) := fun y => by
                  rw [List.mem_append, HMM.out]
                  constructor
                  · rintro (h | h)
                    · exact h
                    · simp at h; rw [h]; exact HXM.out
                  · exact .inl
                have HLM : Hid ((m ++ [(x1, x2)]).length ≤ l.length + (j + 1)) := by show _ ≤ _; simp; omega
                clear hown2 hgr hmov
                generalize m ++ [(x1, x2)] = m2 at *
                go_wp2_with fail
                first | exact ⟨⟨j + 1, m2, by omega, by go_num, HM2.out, HMN.out, HLM.out⟩, by simp [intOf]; omega⟩ | exact ⟨⟨_, _, _, _, _, _, _, _, _, _, _, _, _, _, _, _, _, _, _, _, _, _, _, _, _, ⟨j + 1, m2, by omega, by go_num, HM2.out, HMN.out, HLM.out⟩, rfl⟩, by simp [intOf]; omega⟩
              · exact ⟨⟨j + 1, m, by omega, by go_num, HM.out, HMM.out, by omega⟩, by simp [intOf]; omega⟩
            · have hall : allIs m = allIs l := by
                rw [Bool.eq_iff_iff, allIs_iff, allIs_iff]
                exact ⟨fun h s hs => h s ((HMM.out s).2 hs), fun h s hs => h s ((HMM.out s).1 hs)⟩
              have HOK : Hid (∀ x ∈ m, OkS x) := fun x hx => HL.out.row.2.1 x ((HMM.out x).1 hx)
              have HIN : Hid (∀ n, inB m n = inB l n) := fun n => by
                rw [Bool.eq_iff_iff, inB_iff, inB_iff]
                exact ⟨fun ⟨s, hs, h⟩ => ⟨s, (HMM.out s).1 hs, h⟩, fun ⟨s, hs, h⟩ => ⟨s, (HMM.out s).2 hs, h⟩⟩
              obtain ⟨aM, cM, hv, hsm⟩ := HM.out.sl (by omega) HOK.out
              subst hv
              have HBK := hidI hsm
              have haw := HM.out.2.2
              replace HW := hidI (HW.out.trans haw)
              replace HL := hidI (HL.out.on haw)
              have HAB : Hid (allIs m = false) := by show _ = _; rw [hall]; exact HAL.out
              clear haw hsm HM
              go_wp2_with fail
              refine (normN (l := m) (by exact HBK.out) rfl HAB.out).mono ?_
              rintro E w2 ⟨rfl, haw⟩
              replace HW := hidI (HW.out.trans haw)
              replace HL := hidI (HL.out.on haw)
              clear haw
              go_wp2_with fail
              refine (same_s (z := true) (l := []) (m := []) (by exact Sl.none _) (by exact Sl.none _) rfl rfl (by simp)).mono ?_
              rintro E w2 ⟨rfl, haw⟩
              replace HW := hidI (HW.out.trans haw)
              replace HL := hidI (HL.out.on haw)
              clear haw
              go_wp2_with fail
              refine (own_s (by exact HL.out) rfl).mono ?_
              rintro E w2 ⟨aZ, cZ, rfl, hsZ, -, haw⟩
              replace HW := hidI (HW.out.trans haw)
              replace HL := hidI (HL.out.on haw)
              have HZ := hidI hsZ
              clear hsZ
              clear haw
              go_wp2_with fail
              refine (rightS (z := false) (by exact HZ.out) rfl HRF.out).mono ?_
              rintro E w2 ⟨rfl, haw⟩
              replace HW := hidI (HW.out.trans haw)
              clear haw
              go_wp2_with fail
              go_ret
              exact ⟨rfl, HW.out.to_below⟩
        · have HM1 := hidI HM.out
          clear HM
          go_wp2_with fail
          go_loopw [8, 10] (fun v i wr => ∃ (j : Nat) (m : List Sp), j ≤ l.length ∧ i = .int .i64 (j : Int) ∧ Mk W1 wr v m ∧ (∀ x, x ∈ m ↔ x ∈ l) ∧ m.length ≤ l.length + j) (fun _ i _ => l.length - (intOf i).toNat)
          case atStart => exact ⟨0, _, by omega, rfl, HM1.out, by simp, by simp⟩
          case round =>
            obtain ⟨j, m, hj, rfl, hm, hmm, hml⟩ := hrel
            have HM : Hid (Mk W1 wr u8 m) := hm
            have HMM : Hid (∀ x, x ∈ m ↔ x ∈ l) := hmm
            clear hm hmm HM1
            by_cases hlt : j < l.length
            · obtain ⟨x, hx, hxm⟩ := get_of hlt
              obtain ⟨b, off, hbo, c1, c2, -⟩ := (HL.out.on HM.out.2.2).row.at hx
              subst hbo
              clear hx
              obtain ⟨x1, x2⟩ := x
              simp only at c1 c2
              have HXM : Hid ((x1, x2) ∈ l) := hxm
              clear hxm
              have hpos : 0 < l.length := by omega
              go_wp2_with (at_builtin; refine wpList_app2 rfl _ _ rfl _ m rfl (by exact HM.out.1.on ((Away.refl [] _).alloc _)) ⟨_, 0, none⟩ 1 rfl (x1, x2) (by rw [World.cell?_alloc_at (hn := rfl)]; rfl) (by rw [add_plain, World.cell?_alloc_at (hn := rfl)]; rfl) (by omega) ?_)
              · intro v' w2 hown2 hgr hmov
                have HM2 : Hid (Mk W1 w2 v' (m ++ [(x1, x2)])) := ⟨hown2, HM.out.2.1.moved hmov (by have := HM.out.2.2.size; simp; omega), (HM.out.2.2.alloc _).step hgr HM.out.2.1⟩
                have HMN : Hid (∀ y, y ∈ m ++ [(x1, x2)] ↔ y ∈ l) := fun y => by
                  rw [List.mem_append, HMM.out]
                  constructor
                  · rintro (h | h)
                    · exact h
                    · simp at h; rw [h]; exact HXM.out
                  · exact .inl
                have HLM : Hid ((m ++ [(x1, x2)]).length ≤ l.length + (j + 1)) := by show _ ≤ _; simp; omega
                clear hown2 hgr hmov
                generalize m ++ [(x1, x2)] = m2 at *
                go_wp2_with fail
                first | exact ⟨⟨j + 1, m2, by omega, by go_num, HM2.out, HMN.out, HLM.out⟩, by simp [intOf]; omega⟩ | exact ⟨⟨_, _, _, _, _, _, _, _, _, _, _, _, _, _, _, _, _, _, _, _, _, _, _, _, _, ⟨j + 1, m2, by omega, by go_num, HM2.out, HMN.out, HLM.out⟩, rfl⟩, by simp [intOf]; omega⟩
              · exact ⟨⟨j + 1, m, by omega, by go_num, HM.out, HMM.out, by omega⟩, by simp [intOf]; omega⟩
            · have hall : allIs m = allIs l := by
                rw [Bool.eq_iff_iff, allIs_iff, allIs_iff]
                exact ⟨fun h s hs => h s ((HMM.out s).2 hs), fun h s hs => h s ((HMM.out s).1 hs)⟩
              have HOK : Hid (∀ x ∈ m, OkS x) := fun x hx => HL.out.row.2.1 x ((HMM.out x).1 hx)
              have HIN : Hid (∀ n, inB m n = inB l n) := fun n => by
                rw [Bool.eq_iff_iff, inB_iff, inB_iff]
                exact ⟨fun ⟨s, hs, h⟩ => ⟨s, (HMM.out s).1 hs, h⟩, fun ⟨s, hs, h⟩ => ⟨s, (HMM.out s).2 hs, h⟩⟩
              obtain ⟨aM, cM, hv, hsm⟩ := HM.out.sl (by omega) HOK.out
              subst hv
              have HBK := hidI hsm
              have haw := HM.out.2.2
              replace HW := hidI (HW.out.trans haw)
              replace HL := hidI (HL.out.on haw)
              have HAB : Hid (allIs m = false) := by show _ = _; rw [hall]; exact HAL.out
              clear haw hsm HM
              go_wp2_with fail
              refine (normN (l := m) (by exact HBK.out) rfl HAB.out).mono ?_
              rintro E w2 ⟨rfl, haw⟩
              replace HW := hidI (HW.out.trans haw)
              replace HL := hidI (HL.out.on haw)
              clear haw
              go_wp2_with fail
              refine (same_s (z := true) (l := []) (m := []) (by exact Sl.none _) (by exact Sl.none _) rfl rfl (by simp)).mono ?_
              rintro E w2 ⟨rfl, haw⟩
              replace HW := hidI (HW.out.trans haw)
              replace HL := hidI (HL.out.on haw)
              clear haw
              go_wp2_with fail
              refine (own_s (by exact HL.out) rfl).mono ?_
              rintro E w2 ⟨aZ, cZ, rfl, hsZ, -, haw⟩
              replace HW := hidI (HW.out.trans haw)
              replace HL := hidI (HL.out.on haw)
              have HZ := hidI hsZ
              clear hsZ
              clear haw
              go_wp2_with fail
              refine (rightS (z := false) (by exact HZ.out) rfl HRF.out).mono ?_
              rintro E w2 ⟨rfl, haw⟩
              replace HW := hidI (HW.out.trans haw)
              clear haw
              go_wp2_with fail
              go_ret
              exact ⟨rfl, HW.out.to_below⟩
      · obtain ⟨k', rfl⟩ : ∃ k', k = k' + 1 := ⟨k - 1, by omega⟩
        obtain ⟨x, hx, _⟩ := get_of (show k' < l.length by omega)
        obtain ⟨b, off, hbo, c1, c2, -⟩ := (HL.out.on HM.out.2.2).row.at hx
        have HT : Hid ((l.drop k').reverse = (l.drop (k' + 1)).reverse ++ [x]) := by show _ = _; rw [drop_at hx]; simp
        have HLN : Hid ((l.drop (k' + 1)).reverse.length ≤ l.length) := by show _ ≤ _; simp
        subst hbo
        clear hx
        obtain ⟨x1, x2⟩ := x
        simp only at c1 c2
        generalize (l.drop (k' + 1)).reverse = m at *
        have e1 : ((k' + 1 : Nat) : Int) - 1 = (k' : Int) := by omega
        rw [e1]
        go_wp2_with (at_builtin; refine wpList_app2 rfl _ _ rfl _ m rfl (by exact HM.out.1.on ((Away.refl [] _).alloc _)) ⟨_, 0, none⟩ 1 rfl (x1, x2) (by rw [World.cell?_alloc_at (hn := rfl)]; rfl) (by rw [add_plain, World.cell?_alloc_at (hn := rfl)]; rfl) (by have := HLN.out; omega) ?_)
        intro v' w2 hown2 hgr hmov
        have HM2 : Hid (Mk W1 w2 v' (m ++ [(x1, x2)])) := ⟨hown2, HM.out.2.1.moved hmov (by have := HM.out.2.2.size; simp; omega), (HM.out.2.2.alloc _).step hgr HM.out.2.1⟩
        clear hown2 hgr hmov
        go_wp2_with fail
        go_roundw
        case rel => exact ⟨k', by omega, by go_num, by rw [HT.out]; exact HM2.out⟩
        case measure => first | (simp [intOf]; done) | (simp [intOf]; omega)
namespace spanNorms
theorem lifted (os : Os) (started : os.Started) (H : Type) (enc : TypeId × Value → H) (F : Stop.Interp) :
    ReturnsInHanded {} Try.checked os 3 .any ((Rows.OpenSpec.upto Rows.spanNormsSpec).pre6 enc Try.prog Try.f3 Rows.spanNormsUptoRow.domain false) (((Rows.OpenSpec.upto Rows.spanNormsSpec).at F).post enc Try.prog Try.f3 false true false false) := by
  refine returnsInHanded_of_cond_sized (C := Try.checked) (s := Rows.OpenSpec.upto Rows.spanNormsSpec) (k := Rows.uptoSmall) rfl ownKn started (by kernel_rfl) Try.func3
    (OpenSpec.witness (enc := enc) (C := Try.checked) (s := Rows.OpenSpec.upto Rows.spanNormsSpec) (k := Rows.uptoSmall) rfl false ⟨#[], #[.slice none 0 0, .int .i64 0], []⟩ 8 (by kernel_rfl) (by kernel_rfl) (by kernel_rfl)
      (x := ([.nil, .lit (.int .i64 0)], [], [])) (by kernel_rfl) (by kernel_rfl) (by kernel_rfl)) ?_
  intro W base args ds gs before hval0 hW _ hk hsz0 _
  have hsz : (DataW.weightsEach Try.prog (Try.f3.params.toList ++ Rows.spanNormsSpec.plain.varTypes Try.prog) (ds ++ gs)).all (· ≤ reachBytes) = true := hsz0
  clear hsz0
  have hval : ∀ (j : Nat) t v, Try.f3.params[j]? = some t → args[j]? = some v → Value.okWide Try.prog W .any base t v := hval0
  have hW' := hW
  obtain ⟨p, q, hA0, hV, rfl, hfz, hnd⟩ := hW
  have hA : DataW.TrodAll enc Try.prog W 0 (fun _ => true) true Try.f3.params.toList args.toList ds p := hA0
  rw [Try.params3] at hA hval hsz
  obtain ⟨v0, vs0, d0, ds0, p0, q0, hargs, rfl, rfl, h0, r0⟩ := trodAll_cons hA
  obtain ⟨v1, vs1, d1, ds1, p1, q1, rfl, rfl, rfl, h1, r1⟩ := trodAll_cons r0
  obtain ⟨rfl, rfl, rfl⟩ := trodAll_nil r1
  obtain rfl : args = #[v0, v1] := by cases args; simp_all
  have hV2 : DataW.TrodVars enc Try.prog W (fun _ => true) Rows.spanNormsSpec.vars gs q := hV
  obtain ⟨rfl, rfl⟩ := trodVars_none hV2
  have k0 := h0
  have lt0 : ∀ x ∈ p0, x.block < W.heap.size := by obtain ⟨m, hm⟩ := k0; exact DataW.trod_lt m _ _ _ hm
  have z0 : ∀ m ∈ d0.weights Try.prog 22, m ≤ reachBytes := fun m hm => by
    have := List.all_eq_true.1 hsz m (DataW.weights_mem_each (j := 0) (t := 22) rfl rfl m hm)
    simpa using this
  obtain ⟨a0, len0, cap0, rfl⟩ := okWide_slice Try.underlying22 (hval 0 22 v0 rfl rfl)
  obtain ⟨l0, rfl, w0, u0, b0⟩ := open_spans h0 z0 lt0
  obtain ⟨a1, rfl, rfl, rfl, w1⟩ := open_int Try.underlying3 (hval 1 3 v1 rfl rfl) h1
  clear hA0 hval0
  refine (walk a0 l0 cap0 a1 W w0 b0 (Nat.le_trans u0 (small_mem hk (by simp))) w1).mono fun e W' ⟨he, bel⟩ => ?_
  subst he
  exact ⟨_, rfl, _, _, _, [], _, [], hW', trodAll_mk1 (shut_bool Try.underlying4 _), (trodAll_cons_mk (Below.trod laidOut (by kernel_rfl) (of_decide_eq_true (by kernel_rfl)) k0 bel lt0) (trodAll_cons_mk (shut_int Try.underlying3 w1) trodAll_mk0)), rfl, bel.frame _, fun h => by cases h⟩
theorem over : Rows.spanNormsUptoRow.holds Try.pinned (Rows.OpenSpec.upto Rows.spanNormsSpec) :=
  OpenClaim.holds_of_cond 3 Try.f3 rfl rfl rfl rfl rfl rfl rfl ⟨rfl, rfl, rfl, rfl, rfl⟩ rfl rfl rfl rfl rfl (by kernel_rfl) Try.func3 (by kernel_rfl)
    (of_decide_eq_true (by kernel_rfl)) (by unfold Func.isWrapper; first | (rw [if_pos (by decide +kernel)]; kernel_rfl) | (rw [if_neg (by decide +kernel)]; exact ⟨rfl, rfl⟩))
    (fun os started H enc _ F => lifted os started H enc F)
end spanNorms
theorem spanNormsUpto_holds : Rows.SpanNormsUptoSaid := spanNorms.over
#print axioms spanNormsUpto_holds
end Go.Proofs.Ytckiiidigajhpaa
