/-
  first of the law: the document's example.
-/
import Derived.Test.YtkfbhofbajejiabDoorBuild
import Derived.Test.YtkfbhofbajejiabDoorParse
import Derived.Lib.SlBytesConst
namespace Go.Proofs.YtkfbhofbajejiabDoor
open Go.ChangeShapes Go.WideShapes Go.ChangeAt Go.RowKit Num
set_option linter.unusedVariables false
set_option maxHeartbeats 4000000
set_option maxRecDepth 100000

def exP : Pk := ⟨4, 0, 0, 4, [10, 0, 0, 1] ++ z12, 4, [10, 0, 0, 2] ++ z12, 17, 64, 7, false, false, false, 0, [], [97, 98, 99]⟩
def exB : List Int := [69, 0, 0, 23, 0, 7, 0, 0, 64, 17, 102, 205, 10, 0, 0, 1, 10, 0, 0, 2, 97, 98, 99]
theorem ex_right : rightP exP = true := by decide +kernel
theorem ex_lay : lay4 exP = exB := by decide +kernel
theorem ex_build : build4 exP = (exB, 0) := by rw [build_ok ex_right, ex_lay]
theorem ex_wf : Wf exP := by
  have hz : Bytes z12 := by unfold Bytes z12; decide
  refine ⟨by simp [exP, i64ok], by simp [exP, i64ok], by simp [exP, i64ok], by simp [exP, i64ok], rfl, ?_, by simp [exP, i64ok], rfl, ?_, by simp [exP, i64ok], by simp [exP, i64ok], by simp [exP], by simp [exP], by simp [exP, i64ok], Bytes.nil, by simp [exP], ?_, by simp [exP]⟩
  · unfold Bytes exP z12; decide
  · unfold Bytes exP z12; decide
  · unfold Bytes exP; decide
theorem ex_parse : parse4 exB = (exP, 0) := by rw [← ex_lay]; exact parse_lay4 ex_wf ex_right
theorem ex_bytes : Bytes exB := by unfold Bytes exB; decide
theorem Row.lit' (w : World) (m : List Int) (fr : Nat × Nat) (hm : Bytes m) (hl : m.length ≤ 140737488355328) : Row (w.alloc (.cells (m.map (Value.int .u8)).toArray 5 fr)) (some ⟨w.heap.size, 0, none⟩) m := by
  refine ⟨hl, hm, .inr ⟨w.heap.size, 0, rfl, fun i hi => ?_⟩⟩
  have hb : (w.alloc (.cells (m.map (Value.int .u8)).toArray 5 fr)).heap[w.heap.size]? = some (.cells (m.map (Value.int .u8)).toArray 5 fr) := heap_alloc_new w _
  simp only [World.cell?, hb]
  simp [hi]
theorem first_c (w : World) :
    Calls Tryd.prog 19 #[] w fun E w' => ∃ dv bv, E = .returned (.tuple #[.agg (csP exP (.slice none 0 0) dv), bv]) ∧ Sl w' dv [97, 98, 99] ∧ Sl w' bv exB ∧ Away [] w w' := by
  go_enter Tryd.func19, Tryd.ntmps19
  go_wp2_with (refine wpList_alloc28 rfl rfl ?_; refine Hid.out ?_)
  refine Lib.hid ?_
  intro g0 w1 hg0 hb0 haw1
  have HB0 := Lib.hid hb0; have HA1 := Lib.hid haw1
  have hl0 := hb0.lt
  clear hb0 haw1
  have hcv := fun (w : World) (C : Array Value) (n c : Nat) => Lib.run_convert_bytes_const (P := Tryd.prog) w 26 5 C n c Tryd.underlying26 Tryd.underlying5
  go_wp2_with (first | (refine wpList_alloc28 rfl rfl ?_; refine Hid.out ?_))
  refine Lib.hid ?_
  intro g2 w3 hg2 hb2 haw3
  have hA := ((Away.refl [] w1).alloc (.cells #[.int .u8 97, .int .u8 98, .int .u8 99] 5 (3, 4))).next haw3 (by simp)
  have HR : Hid (Row w3 (some ⟨w1.heap.size, 0, none⟩) [97, 98, 99]) := (Row.lit' w1 [97, 98, 99] (3, 4) (by unfold Bytes; decide) (by simp)).away haw3 (by simp)
  have HB2 := Lib.hid hb2
  have hl2 := hb2.lt
  have hg2' : w1.heap.size + 1 ≤ g2 := by simpa using hg2
  have HB03 := Lib.hid (HB0.out.on hA)
  have HA3 := Lib.hid (HA1.out.next hA (by simp))
  have hs1 := HA1.out.size; have hs3 := hA.size
  clear hb2 haw3 hA HB0 HA1 hg2 hcv
  go_wp2_with (first | (refine wpList_store28 rfl _ _ rfl _ rfl exP (.slice none 0 0) (.slice (some ⟨w1.heap.size, 0, none⟩) 3 3) rfl zeroPk (.slice none 0 0) (.slice none 0 0) (by exact HB2.out) ⟨rfl, rfl⟩ ⟨rfl, rfl⟩ rfl rfl ?_; refine Hid.out ?_))
  refine Lib.hid ?_
  intro w4 hb4 haw4
  have HB24 := Lib.hid hb4
  have HB04 := Lib.hid (HB03.out.away haw4 (by simp; omega))
  have HA4 := Lib.hid (HA3.out.next haw4 (fun x hx => .inr (by simp at hx; omega)))
  have HR4 := Lib.hid (HR.out.away haw4 (fun x hx => by simp at hx; subst hx; simp; omega))
  have hs4 := haw4.size
  clear hb4 haw4 HB03 HA3 HR HB2
  generalize w1.heap.size = n1 at *
  go_wp2_with (first
    | (refine wpList_load28 rfl _ rfl _ rfl exP _ _ (by exact HB24.out) ⟨rfl, rfl⟩ ?_)
    | (refine wpList_store28 rfl _ _ rfl _ rfl exP (.slice none 0 0) (.slice (some ⟨n1, 0, none⟩) 3 3) rfl zeroPk (.slice none 0 0) (.slice none 0 0) (by exact HB04.out.on ((Away.refl [] _).alloc _)) ⟨rfl, rfl⟩ ⟨rfl, rfl⟩ rfl rfl ?_; refine Hid.out ?_))
  refine Lib.hid ?_
  intro w5 hb5 haw5
  have HB5 := Lib.hid hb5
  have hrl := (Row.lit w4 exB ex_bytes (by simp [exB])).away haw5 (fun x hx => by simp at hx; subst hx; simp; omega)
  have hA5 := ((Away.refl [g0] w4).alloc (.cells (exB.map (Value.int .u8)).toArray 5)).next haw5 (by simp)
  have HA5 : Hid (Away [] w w5) := HA4.out.next hA5 (fun x hx => .inr (by simp at hx; omega))
  have HS1 : Hid (Sl w5 (.slice (some ⟨n1, 0, none⟩) 3 3) [97, 98, 99]) := ⟨_, _, rfl, by simp, by simp, HR4.out.away hA5 (fun x hx => by simp at hx; subst hx; simp; omega)⟩
  have HS2 : Hid (Sl w5 (.slice (some ⟨w4.heap.size, 0, none⟩) 23 23) exB) := ⟨_, _, rfl, by simp [exB], by simp, hrl⟩
  clear hb5 haw5 hrl hA5 HR4 HB04 HB24
  go_wp2_with fail
  refine bodyPost_ret (result28t rfl _ _ _ _ _ _ _ rfl rfl HB5.out ⟨rfl, rfl⟩) rfl ⟨.slice (some ⟨n1, 0, none⟩) 3 3, .slice (some ⟨w4.heap.size, 0, none⟩) 23 23, rfl, HS1.out, HS2.out, HA5.out⟩
#print axioms first_c
end Go.Proofs.YtkfbhofbajejiabDoor
