/-
  own and same of the law.
-/
import Derived.Test.YtkccpidgeecemaaGreatDoorPktA
import Derived.Laws.IdiomStrings
namespace Go.Proofs.YtkccpidgeecemaaGreatDoor
open Go.ChangeShapes Go.WideShapes Go.ChangeAt Go.RowKit Num
set_option linter.unusedVariables false
def bstr (l : List Int) : ByteArray := ⟨(l.map (fun n => UInt8.ofNat n.toNat)).toArray⟩
theorem bstr_list (l : List Int) : (bstr l).toList = l.map (fun n => UInt8.ofNat n.toNat) := ByteArray.toList_mk _
theorem u8_back (n : Int) (h : 0 ≤ n ∧ n ≤ 255) : ((UInt8.ofNat n.toNat).toNat : Int) = n := by
  rw [UInt8.toNat_ofNat']; omega
theorem map_back (l : List Int) (h : Bytes l) : (l.map (fun n => UInt8.ofNat n.toNat)).map (fun b => (b.toNat : Int)) = l := by
  rw [List.map_map]
  conv => rhs; rw [← List.map_id l]
  exact List.map_congr_left (fun n hn => u8_back n (h n hn))
theorem bstr_eq (l m : List Int) (hl : Bytes l) (hm : Bytes m) : ((bstr l).toList == (bstr m).toList) = decide (l = m) := by
  rw [bstr_list, bstr_list]
  by_cases h : l = m
  · subst h; simp
  · have : ¬ (l.map (fun n => UInt8.ofNat n.toNat) = m.map (fun n => UInt8.ofNat n.toNat)) := fun e => h (by
      rw [← map_back l hl, ← map_back m hm, e])
    simp [h, this]
theorem conv_any (w : World) (a : Option Addr) (l : List Int) (cap : Nat) (h : Row w a l) (ha : a = none → cap = 0) : (convert 37 9 (.slice a l.length cap)).run Tryz.prog w = .ok (.string (bstr l)) w := by
  have u22 : Tryz.prog.underlying 37 = some (.slice 5) := Tryz.underlying37
  have u5 : Tryz.prog.underlying 5 = some (.int .u8) := by kernel_rfl
  have u9 : Tryz.prog.underlying 9 = some .string := by kernel_rfl
  rcases a with _ | ad
  · have h0 : l = [] := by rcases h.2.2 with h | ⟨_, _, h, _⟩ <;> simp_all
    subst h0
    obtain rfl := ha rfl
    rw [run_convert_bytes_string w 37 9 5 none _ 0 u22 u5 u9]
    simp [Conv.bytesToString]
    rfl
  · have := run_convert_bytes_back (P := Tryz.prog) w 37 9 5 ad cap (l.map (fun n => UInt8.ofNat n.toNat)) u22 u5 u9 (fun j hj => by
      simp only [List.length_map] at hj
      have h1 := h.src j (.int .u8 l[j]) (by simp [hj])
      rw [h1]
      simp only [List.getElem_map]
      rw [u8_back _ (h.2.1 _ (List.getElem_mem hj))])
    rw [List.length_map] at this
    exact this
set_option maxHeartbeats 400000 in
theorem same_any (a b : Option Addr) (l m : List Int) (n k cap cap' : Nat) (w : World) (hn : l.length = n) (hk : m.length = k) (ha : a = none → cap = 0) (hb : b = none → cap' = 0) (hr : Row w a l) (hs : Row w b m) :
    Calls Tryz.prog 27 #[.slice a n cap, .slice b k cap'] w fun E w' => E = .returned (.bool (decide (l = m))) ∧ w' = w := by
  subst hn; subst hk
  have s1 := conv_any w a l cap hr ha
  have s2 := conv_any w b m cap' hs hb
  have hq := bstr_eq l m hr.2.1 hs.2.1
  generalize bstr l = x at *
  generalize bstr m = y at *
  generalize decide (l = m) = z at *
  clear hr hs ha hb
  go_enter Tryz.func27, Tryz.ntmps27
  go_wp2
  go_ret
  exact ⟨rfl, rfl⟩
theorem same_yes (a b : Option Addr) (l m : List Int) (n k cap cap' : Nat) (w : World) (hn : l.length = n) (hk : m.length = k) (ha : a = none → cap = 0) (hb : b = none → cap' = 0) (hr : Row w a l) (hs : Row w b m) (h : l = m) :
    Calls Tryz.prog 27 #[.slice a n cap, .slice b k cap'] w fun E w' => E = .returned (.bool true) ∧ w' = w := by
  have := same_any a b l m n k cap cap' w hn hk ha hb hr hs
  rwa [decide_eq_true h] at this
end Go.Proofs.YtkccpidgeecemaaGreatDoor
