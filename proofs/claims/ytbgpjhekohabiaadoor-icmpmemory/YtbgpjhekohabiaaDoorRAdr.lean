/-
  readAddress.
-/
import Derived.Test.YtbgpjhekohabiaaDoorRead
import Derived.Test.YtbgpjhekohabiaaDoorQt
namespace Go.Proofs.YtbgpjhekohabiaaDoor
open Go.ChangeShapes Go.WideShapes Go.ChangeAt Go.RowKit Num
set_option linter.unusedVariables false
set_option maxHeartbeats 4000000
set_option maxRecDepth 100000

theorem zero24 : (Tryd.prog.info? 30).bind (·.zero) = some (.agg (csA 0 z16)) := by kernel_rfl
theorem BoxA.keep {S : List Nat} {w w' : World} {g : Nat} {v : Int} {l : List Int} (h : BoxA w g v l) (hw : Away S w w') (hg : g ∉ S) : BoxA w' g v l := hw.keep hg h
theorem wpList_alloc24 {ops : Array Oper} {rest : List Oper} {o : Oper} {a : Act} {w : World} {Q : Exit → Act → World → Prop} (hg : o.guard = none) (ho : o.op = .alloc 30)
    (h : ∀ g w1, w.heap.size ≤ g → BoxA w1 g 0 z16 → Away [] w w1 → wpList Tryd.prog ops Q rest (a.put o.dst (.pointer (some ⟨g, 0, none⟩))) w1) : wpList Tryd.prog ops Q (o :: rest) a w := by
  have hz : (zeroValue 30).run Tryd.prog w = .ok (.agg (csA 0 z16)) w := by
    have := zero24
    cases hi : Tryd.prog.info? 30 with
    | none => rw [hi] at this; simp at this
    | some i => rw [hi] at this; simp at this; simp [zeroValue, typeInfo, hi, this]
  refine wpList_plain hg fun K hK => ?_
  unfold Oper.wp execOp
  simp only [ho, Sem.run_bind, Instr.alloc, hz, newVar, newRow, run_newObj_alloc, Sem.run_pure, Result.andThen_ok]
  exact hK _ _ (h w.heap.size _ (Nat.le_refl _) (block_new _ _) ((Away.refl [] w).alloc _))
theorem wpList_store24b {ops : Array Oper} {rest : List Oper} {o : Oper} {a : Act} {w : World} {Q : Exit → Act → World → Prop} (hw : Region.wanted o (yielded ops a.tmps) = true) (x y : Operand) (ho : o.op = .store 30 x y)
    (g : Nat) (hx : a.eval x = .pointer (some ⟨g, 0, none⟩)) (v : Int) (l : List Int) (hy : a.eval y = .agg (csA v l)) (v' : Int) (l' : List Int) (hb : BoxA w g v' l') (hl : l.length = 16) (hl' : l'.length = 16)
    (h : ∀ w1, BoxA w1 g v l → Away [g] w w1 → wpList Tryd.prog ops Q rest (a.put o.dst undef) w1) : wpList Tryd.prog ops Q (o :: rest) a w :=
  BigFrame.wpList_want hw fun K hK => wp_store_row 30 x y ho g (csA v l) hx hy 30 (csA v' l') hb (by rw [csA_size hl]; exact info24) (by rw [csA_size hl, csA_size hl']) (csA_one v l) (hK _ _ (h _ (by
    unfold BoxA at hb ⊢; simp [World.setRow, Array.getElem?_modify, hb]) ((Away.refl [g] w).setRow (.inl (by simp)) _)))
theorem arr_slice (g : Nat) (w : World) : (Instr.sliceAt 28 (.pointer (some ⟨g, 1, none⟩)) none none none).run Tryd.prog w = .ok (.slice (some ⟨g, 1, none⟩) 16 16) w := by kernel_rfl
/-- What readAddress did. -/
def AdrOut (w : World) (g d : Nat) (m r : List Int) (E : Ending) (w' : World) : Prop :=
  E = .returned (.agg (csA 4 (m ++ z12))) ∧ Rd w' g d r 0 ∧ Away [g] w w'
theorem rd4 {l : List Int} (h : 4 ≤ l.length) : rdOut l 0 4 = l.take 4 ∧ rdRest l 0 4 = l.drop 4 ∧ rdErr l 0 4 = 0 := by
  unfold rdOut rdRest rdErr
  rw [if_pos ⟨rfl, by omega, by omega⟩, if_pos ⟨rfl, by omega, by omega⟩, if_pos rfl, if_neg (by omega), if_pos (by omega)]
  exact ⟨rfl, rfl, rfl⟩
theorem copy4 (w : World) (g : Nat) (m : List Int) (hm : m.length = 4) (ad : Addr) (cap : Nat) (hb : BoxA w g 4 z16) (hr : Row w (some ad) m) (ty : TypeId) :
    (Builtin.copy_ #[23, 23] ty #[.slice (some ⟨g, 1, none⟩) 16 16, .slice (some ad) 4 cap]).run Tryd.prog w = .ok (goInt 4) (w.setRow g (csA 4 (m ++ z12))) := by
  obtain ⟨b0, b1, b2, b3, rfl⟩ := list4 hm
  have := run_copy_row (P := Tryd.prog) w 23 23 ty 5 g 1 16 16 ad 4 cap (csA 4 z16) 30 ([b0, b1, b2, b3].map (Value.int .u8)) Tryd.underlying23 (by kernel_rfl) hb (by simp [Nat.min]) hr.src (by simp [csA, cellsA, z16]) (oneCell_bytes _)
  rw [this]
  rfl
theorem Away.undrew {S : List Nat} {w w' : World} (h : Away S w.drew w') : Away S w w' := ⟨h.os, h.tape, h.output, h.size, h.block⟩
theorem readAddress_c (w : World) (g d : Nat) (l m r : List Int) (h : Rd w g d l 0) (h4 : 4 ≤ l.length) (hm : l.take 4 = m) (hr : l.drop 4 = r) :
    Calls Tryd.prog 104 #[.pointer (some ⟨g, 0, none⟩)] w fun E w' => AdrOut w g d m r E w' := by
  have HR := Lib.hid h
  have hlt := h.lt
  have HB := Lib.hid h.bytes
  clear h
  have hsl := arr_slice
  have hr4 := rd4 h4
  have hm4 : m.length = 4 := by rw [← hm]; simp; omega
  have hmb : Bytes m := by rw [← hm]; exact HB.out.1.take 4
  rw [hm, hr] at hr4
  have H41 := Lib.hid hr4.1; have H42 := Lib.hid hr4.2.1; have H43 := Lib.hid hr4.2.2
  clear hr4 hm hr
  go_enter Tryd.func104, Tryd.ntmps104
  go_wp2_with (refine wpList_alloc24 rfl rfl ?_; refine Hid.out ?_)
  refine Lib.hid ?_
  intro g2 w1 hg2 hb2 haw1
  have HB2 := Lib.hid hb2; have HA1 := Lib.hid haw1
  have hl2 := hb2.lt
  clear hb2 haw1
  go_wp2_with (first | (refine wpList_alloc24 rfl rfl ?_; refine Hid.out ?_))
  refine Lib.hid ?_
  intro g3 w2 hg3 hb3 haw2
  have HB3 := Lib.hid hb3; have HA2 := Lib.hid haw2
  have hl3 := hb3.lt
  clear hb3 haw2
  go_wp2_with (first | (refine wpList_store24b rfl _ _ rfl _ rfl 4 z16 rfl 0 z16 (by exact HB3.out) rfl rfl ?_; refine Hid.out ?_))
  refine Lib.hid ?_
  intro w3 hb3 haw3
  have hs1 := HA1.out.size; have hs2 := HA2.out.size; have hs3 := haw3.size
  have HB3' := Lib.hid hb3
  have HB2' := Lib.hid ((HB2.out.keep HA2.out (by simp)).keep haw3 (by simp; omega))
  have HA3 : Hid (Away [] w w3) := (HA1.out.next HA2.out (by simp)).next haw3 (fun x hx => .inr (by simp at hx; omega))
  clear HB2 HB3 HA1 HA2 hb3 haw3
  have HR3 := Lib.hid (HR.out.away HA3.out (by simp) (by simp))
  go_wp2_with fail
  go_region_held3 (fun w' => True) (trivial)
    (first
      | (go_at_call 42
         refine (bytes_any _ g d l 0 4 (by exact HR3.out)).mono ?_
         rintro E w4 ⟨v, rfl, hown, hnew, hrd, haw, hby, hln⟩
         rw [H41.out] at hown
         rw [H42.out, H43.out] at hrd
         obtain ⟨a4, cap4, hv4, hcap4, -, hrow4, -⟩ := hown.row (by rw [hm4]; omega) hmb
         rw [hm4] at hv4
         subst hv4
         have haw4 := haw.undrew
         have hb4 := HB3'.out.keep haw4 (by simp; omega)
         have hb2 := HB2'.out.keep haw4 (by simp; omega)
         have HN4 : Hid (a4 ≠ none) := (by
           rintro rfl
           rcases hrow4.2.2 with h0 | ⟨_, _, h0, _⟩
           · rw [h0] at hm4; simp at hm4
           · simp at h0)
         rcases a4 with _ | ad
         · exact absurd rfl HN4.out
         have hcp := copy4 w4 g3 m hm4 ad cap4 hb4 hrow4))
  have hlm : (m ++ z12).length = 16 := by simp [hm4, z12]
  have hb5 : BoxA (w4.setRow g3 (csA 4 (m ++ z12))) g3 4 (m ++ z12) := by unfold BoxA at hb4 ⊢; simp [World.setRow, Array.getElem?_modify, hb4]
  have haw5 : Away [g3] w4 (w4.setRow g3 (csA 4 (m ++ z12))) := (Away.refl [g3] w4).setRow (.inl (by simp)) _
  have hlt3 := HR3.out.lt
  have hs4 := haw4.size
  have hr5 := hrd.away haw5 (by simp; omega) (by simp; omega)
  have hb25 := hb2.keep haw5 (by simp; omega)
  have HB5 := Lib.hid hb5; have HB25 := Lib.hid hb25; have HR5 := Lib.hid hr5
  have HA5 : Hid (Away [g] w (w4.setRow g3 (csA 4 (m ++ z12)))) := (((HA3.out.mono (T := [g]) (by simp)).next haw4 (fun x hx => .inl hx)).next haw5 (fun x hx => .inr (by simp at hx; omega)))
  have hr3 := Lib.hid (rowAt_of (hb5 : (w4.setRow g3 (csA 4 (m ++ z12))).heap[g3]? = _) (csA_size hlm))
  clear hb5 haw5 hr5 hb25 hcp hown hrd hrow4 hb4 hb2 HB3' HB2' HR3 HA3 HN4 hnew haw haw4
  generalize w4.setRow g3 (csA 4 (m ++ z12)) = w5 at *
  have HLM := Lib.hid hlm
  clear hlm
  generalize hml : m ++ z12 = ml at *
  have HML := Lib.hid hml
  clear hml
  go_wp2_with (first | (refine wpList_load24 rfl _ rfl _ rfl _ hr3.out ?_) | (refine wpList_store24b rfl _ _ rfl _ rfl 4 ml rfl 0 z16 (by exact HB25.out) HLM.out rfl ?_; refine Hid.out ?_))
  refine Lib.hid ?_
  intro w6 hb6 haw6
  have HR6 := Lib.hid (HR5.out.away haw6 (by simp; omega) (by simp; omega))
  have HA6 : Hid (Away [g] w w6) := HA5.out.next haw6 (fun x hx => .inr (by simp at hx; omega))
  have hr6 := Lib.hid (rowAt_of (hb6 : w6.heap[g2]? = _) (csA_size HLM.out))
  clear hb6 haw6 HA5 HR5 HB25 hr3 HB5
  go_wp2_with fail
  refine bodyPost_ret (v := .agg (csA 4 ml)) ?_ rfl ⟨by rw [HML.out], HR6.out, HA6.out⟩
  exact result24 rfl _ _ _ _ rfl hr6.out
#print axioms readAddress_c
end Go.Proofs.YtbgpjhekohabiaaDoor
