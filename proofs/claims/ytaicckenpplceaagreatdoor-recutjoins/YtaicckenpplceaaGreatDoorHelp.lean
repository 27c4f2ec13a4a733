/-
  own and same of the law.
-/
import Derived.Test.YtaicckenpplceaaGreatDoorSlc
import Derived.Laws.IdiomStrings
namespace Go.Proofs.YtaicckenpplceaaGreatDoor
open Go.ChangeShapes Go.WideShapes Go.ChangeAt Go.RowKit Num
set_option linter.unusedVariables false


/-- A copy was made. -/
def Copied (w : World) (l : List Int) (E : Ending) (w' : World) : Prop :=
  ∃ v, E = .returned v ∧ Owns w' v l ∧ New w.heap.size v ∧ Away [] w w' ∧ Bytes l ∧ l.length ≤ 140737488355328
/-- Bytes as a string. -/
def bstr (l : List Int) : ByteArray := ⟨(l.map (fun n => UInt8.ofNat n.toNat)).toArray⟩
theorem bstr_list (l : List Int) : (bstr l).toList = l.map (fun n => UInt8.ofNat n.toNat) := ByteArray.toList_mk _
theorem u8_back (n : Int) (h : 0 ≤ n ∧ n ≤ 255) : ((UInt8.ofNat n.toNat).toNat : Int) = n := by
  rw [UInt8.toNat_ofNat']; omega
theorem map_back (l : List Int) (h : Bytes l) : (l.map (fun n => UInt8.ofNat n.toNat)).map (fun b => (b.toNat : Int)) = l := by
  rw [List.map_map]
  conv => rhs; rw [← List.map_id l]
  exact List.map_congr_left (fun n hn => u8_back n (h n hn))
theorem bstr_eq (l m : List Int) (hl : Bytes l) (hm : Bytes m) : ((bstr l).toList == (bstr m).toList) = decide (l = m) := by
  rw [bstr_list, bstr_list]
  by_cases h : l = m
  · subst h; simp
  · have : ¬ (l.map (fun n => UInt8.ofNat n.toNat) = m.map (fun n => UInt8.ofNat n.toNat)) := fun e => h (by
      rw [← map_back l hl, ← map_back m hm, e])
    simp [h, this]
theorem conv_any (w : World) (a : Option Addr) (l : List Int) (cap : Nat) (h : Row w a l) (ha : a = none → cap = 0) : (convert 27 9 (.slice a l.length cap)).run Tryz.prog w = .ok (.string (bstr l)) w := by
  have u22 : Tryz.prog.underlying 27 = some (.slice 5) := Tryz.underlying27
  have u5 : Tryz.prog.underlying 5 = some (.int .u8) := by kernel_rfl
  have u9 : Tryz.prog.underlying 9 = some .string := by kernel_rfl
  rcases a with _ | ad
  · have h0 : l = [] := by rcases h.2.2 with h | ⟨_, _, h, _⟩ <;> simp_all
    subst h0
    obtain rfl := ha rfl
    rw [run_convert_bytes_string w 27 9 5 none _ 0 u22 u5 u9]
    simp [Conv.bytesToString]
    rfl
  · have := run_convert_bytes_back (P := Tryz.prog) w 27 9 5 ad cap (l.map (fun n => UInt8.ofNat n.toNat)) u22 u5 u9 (fun j hj => by
      simp only [List.length_map] at hj
      have h1 := h.src j (.int .u8 l[j]) (by simp [hj])
      rw [h1]
      simp only [List.getElem_map]
      rw [u8_back _ (h.2.1 _ (List.getElem_mem hj))])
    rw [List.length_map] at this
    exact this
end Go.Proofs.YtaicckenpplceaaGreatDoor
