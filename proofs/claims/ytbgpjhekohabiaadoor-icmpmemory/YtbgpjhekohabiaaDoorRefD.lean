/-
  The document's own: address.
-/
import Derived.Test.YtbgpjhekohabiaaDoorRefS
namespace Go.Proofs.YtbgpjhekohabiaaDoor
open Go.ChangeShapes Go.WideShapes Go.ChangeAt Go.RowKit Go.Deep Num
set_option linter.unusedVariables false
set_option maxHeartbeats 4000000
set_option maxRecDepth 100000

/-- The first k bytes of l, and noughts. -/
def stL (l : List Int) (k : Nat) : List Int := l.take k ++ z16.drop k
theorem stL_len (l : List Int) (k : Nat) (h : k ≤ l.length) (hk : k ≤ 16) : (stL l k).length = 16 := by
  simp [stL, z16]; omega
theorem stL_set {l : List Int} {k : Nat} (hl : k < l.length) (hk : k < 16) {x : Int} (hx : l[k]? = some x) : (stL l k).set k x = stL l (k + 1) := by
  unfold stL
  rw [List.set_append_right _ _ (by simp; omega), show k - (l.take k).length = 0 from by simp; omega]
  have : z16.drop k = 0 :: z16.drop (k + 1) := (show ∀ k, k < 16 → z16.drop k = 0 :: z16.drop (k + 1) by decide) k hk
  rw [this, List.set_cons_zero, List.take_succ_eq_append_getElem hl]
  have : l[k] = x := by rw [List.getElem?_eq_getElem hl] at hx; simpa using hx
  rw [this, List.append_assoc]; rfl
theorem BoxA.byte' {w : World} {g : Nat} {v : Int} {l : List Int} (h : BoxA w g v l) (i : Nat) (hi : i < l.length) : w.cell? ⟨g, 1 + i, none⟩ = some (.int .u8 (l[i]?.getD 0)) := by
  rw [cell_of_block h]
  simp [csA, cellsA, Nat.add_comm 1 i, hi]
theorem BoxA.put {w : World} {g : Nat} {v : Int} {l : List Int} (h : BoxA w g v l) (i : Nat) (x : Int) : BoxA (w.setCell ⟨g, 1 + i, none⟩ (.int .u8 x)) g v (l.set i x) := by
  unfold BoxA
  rw [block_set h]
  congr 2
  apply Array.ext'
  rw [Array.toList_setIfInBounds]
  show (cellsA v l).set (1 + i) (.int .u8 x) = cellsA v (l.set i x)
  unfold cellsA
  rw [Nat.add_comm, List.set_cons_succ, List.map_set]
theorem radr_c (a : Option Addr) (l : List Int) (n cap : Nat) (w : World) (hn : l.length = n) (hr : Row w a l) (h4 : 4 ≤ n) :
    Calls Tryd.prog 97 #[.slice a n cap] w fun E w' => E = .returned (.agg (csA 4 (l.take 4 ++ z12))) ∧ Away [] w w' := by
  subst hn
  have hlen := hr.1
  have HR := Lib.hid hr
  clear hr
  go_enter Tryd.func97, Tryd.ntmps97
  go_wp2_with (refine wpList_alloc24 rfl rfl ?_; refine Hid.out ?_)
  refine Lib.hid ?_
  intro g2 w1 hg2 hb2 haw1
  have HB2 := Lib.hid hb2; have HA1 := Lib.hid haw1
  have hl2 := hb2.lt
  clear hb2 haw1
  go_wp2_with (first | (refine wpList_alloc24 rfl rfl ?_; refine Hid.out ?_))
  refine Lib.hid ?_
  intro g3 w2 hg3 hb3 haw2
  have HB3 := Lib.hid hb3; have HA2 := Lib.hid haw2
  have hl3 := hb3.lt
  clear hb3 haw2
  go_wp2_with (first | (refine wpList_store24b rfl _ _ rfl _ rfl 4 z16 rfl 0 z16 (by exact HB3.out) rfl rfl ?_; refine Hid.out ?_))
  refine Lib.hid ?_
  intro w3 hb3 haw3
  have hs1 := HA1.out.size; have hs2 := HA2.out.size; have hs3 := haw3.size
  have HST : Hid (BoxA w3 g3 4 z16 ∧ BoxA w3 g2 0 z16 ∧ Away [] w w3) := ⟨hb3, (HB2.out.keep HA2.out (by simp)).keep haw3 (by simp; omega), (HA1.out.next HA2.out (by simp)).next haw3 (fun x hx => .inr (by simp at hx; omega))⟩
  clear HB2 HB3 HA1 HA2 hb3 haw3
  go_wp2_with fail
  go_loopw [4] (fun i wr => ∃ k : Nat, k ≤ 4 ∧ i = .int .i64 k ∧ BoxA wr g3 4 (stL l k) ∧ BoxA wr g2 0 z16 ∧ Away [] w wr) (fun i _ => 4 - (intOf i).toNat)
  case atStart => exact ⟨0, by omega, rfl, HST.out⟩
  case round =>
    obtain ⟨k, hk, rfl, hb3, hb2, haw⟩ := hrel
    have HB3 := Lib.hid hb3; have HB2 := Lib.hid hb2; have HAW := Lib.hid haw
    clear hb3 hb2 haw HST
    obtain rfl | rfl | rfl | rfl | rfl : k = 0 ∨ k = 1 ∨ k = 2 ∨ k = 3 ∨ k = 4 := by omega
    · obtain ⟨b, off, ha', c0⟩ := HR.out.at 0 (by omega)
      have c0' := HAW.out.cell (by simp) c0
      try simp only [Nat.add_zero] at c0'
      subst ha'
      have hx : l[0]? = some (gt l 0) := by unfold gt; rw [List.getElem?_eq_getElem (by omega)]; rfl
      have c1 := HB3.out.byte' 0 (by rw [stL_len _ _ (by omega) (by omega)]; omega)
      have c2 := free_of_block HB3.out 1
      have hb3 := HB3.out.put 0 (gt l 0)
      rw [stL_set (by omega) (by omega) hx] at hb3
      have hA := (Away.refl [g3] wr).setCell (p := ⟨g3, 1 + 0, none⟩) (.inl (by simp)) (.int .u8 (gt l 0))
      have hb2 := HB2.out.keep hA (by simp; omega)
      have haw := HAW.out.setCell (p := ⟨g3, 1 + 0, none⟩) (.inr (by show w.heap.size ≤ g3; omega)) (.int .u8 (gt l 0))
      simp only [Nat.reduceAdd] at c1 hb3 hA hb2 haw
      have HST := Lib.hid (And.intro hb3 (And.intro hb2 haw))
      clear hb3 hA hb2 haw HB2 HB3 HAW c0 hx
      generalize (stL l 0)[0]?.getD 0 = old at c1
      generalize gt l 0 = x at *
      have i0 : (0 : Int) < (l.length : Int) := by omega
      go_wp2_with fail
      go_roundw
      case rel => exact ⟨1, by omega, by rfl, HST.out.1, HST.out.2.1, HST.out.2.2⟩
      case measure => simp [intOf]
    · obtain ⟨b, off, ha', c0⟩ := HR.out.at 1 (by omega)
      have c0' := HAW.out.cell (by simp) c0
      try simp only [Nat.add_zero] at c0'
      subst ha'
      have hx : l[1]? = some (gt l 1) := by unfold gt; rw [List.getElem?_eq_getElem (by omega)]; rfl
      have c1 := HB3.out.byte' 1 (by rw [stL_len _ _ (by omega) (by omega)]; omega)
      have c2 := free_of_block HB3.out 2
      have hb3 := HB3.out.put 1 (gt l 1)
      rw [stL_set (by omega) (by omega) hx] at hb3
      have hA := (Away.refl [g3] wr).setCell (p := ⟨g3, 1 + 1, none⟩) (.inl (by simp)) (.int .u8 (gt l 1))
      have hb2 := HB2.out.keep hA (by simp; omega)
      have haw := HAW.out.setCell (p := ⟨g3, 1 + 1, none⟩) (.inr (by show w.heap.size ≤ g3; omega)) (.int .u8 (gt l 1))
      simp only [Nat.reduceAdd] at c1 hb3 hA hb2 haw
      have HST := Lib.hid (And.intro hb3 (And.intro hb2 haw))
      clear hb3 hA hb2 haw HB2 HB3 HAW c0 hx
      generalize (stL l 1)[1]?.getD 0 = old at c1
      generalize gt l 1 = x at *
      have i0 : (1 : Int) < (l.length : Int) := by omega
      go_wp2_with fail
      go_roundw
      case rel => exact ⟨2, by omega, by rfl, HST.out.1, HST.out.2.1, HST.out.2.2⟩
      case measure => simp [intOf]
    · obtain ⟨b, off, ha', c0⟩ := HR.out.at 2 (by omega)
      have c0' := HAW.out.cell (by simp) c0
      try simp only [Nat.add_zero] at c0'
      subst ha'
      have hx : l[2]? = some (gt l 2) := by unfold gt; rw [List.getElem?_eq_getElem (by omega)]; rfl
      have c1 := HB3.out.byte' 2 (by rw [stL_len _ _ (by omega) (by omega)]; omega)
      have c2 := free_of_block HB3.out 3
      have hb3 := HB3.out.put 2 (gt l 2)
      rw [stL_set (by omega) (by omega) hx] at hb3
      have hA := (Away.refl [g3] wr).setCell (p := ⟨g3, 1 + 2, none⟩) (.inl (by simp)) (.int .u8 (gt l 2))
      have hb2 := HB2.out.keep hA (by simp; omega)
      have haw := HAW.out.setCell (p := ⟨g3, 1 + 2, none⟩) (.inr (by show w.heap.size ≤ g3; omega)) (.int .u8 (gt l 2))
      simp only [Nat.reduceAdd] at c1 hb3 hA hb2 haw
      have HST := Lib.hid (And.intro hb3 (And.intro hb2 haw))
      clear hb3 hA hb2 haw HB2 HB3 HAW c0 hx
      generalize (stL l 2)[2]?.getD 0 = old at c1
      generalize gt l 2 = x at *
      have i0 : (2 : Int) < (l.length : Int) := by omega
      go_wp2_with fail
      go_roundw
      case rel => exact ⟨3, by omega, by rfl, HST.out.1, HST.out.2.1, HST.out.2.2⟩
      case measure => simp [intOf]
    · obtain ⟨b, off, ha', c0⟩ := HR.out.at 3 (by omega)
      have c0' := HAW.out.cell (by simp) c0
      try simp only [Nat.add_zero] at c0'
      subst ha'
      have hx : l[3]? = some (gt l 3) := by unfold gt; rw [List.getElem?_eq_getElem (by omega)]; rfl
      have c1 := HB3.out.byte' 3 (by rw [stL_len _ _ (by omega) (by omega)]; omega)
      have c2 := free_of_block HB3.out 4
      have hb3 := HB3.out.put 3 (gt l 3)
      rw [stL_set (by omega) (by omega) hx] at hb3
      have hA := (Away.refl [g3] wr).setCell (p := ⟨g3, 1 + 3, none⟩) (.inl (by simp)) (.int .u8 (gt l 3))
      have hb2 := HB2.out.keep hA (by simp; omega)
      have haw := HAW.out.setCell (p := ⟨g3, 1 + 3, none⟩) (.inr (by show w.heap.size ≤ g3; omega)) (.int .u8 (gt l 3))
      simp only [Nat.reduceAdd] at c1 hb3 hA hb2 haw
      have HST := Lib.hid (And.intro hb3 (And.intro hb2 haw))
      clear hb3 hA hb2 haw HB2 HB3 HAW c0 hx
      generalize (stL l 3)[3]?.getD 0 = old at c1
      generalize gt l 3 = x at *
      have i0 : (3 : Int) < (l.length : Int) := by omega
      go_wp2_with fail
      go_roundw
      case rel => exact ⟨4, by omega, by rfl, HST.out.1, HST.out.2.1, HST.out.2.2⟩
      case measure => simp [intOf]
    · have HB3' : Hid (BoxA wr g3 4 (l.take 4 ++ z12)) := HB3.out
      have hlm : (l.take 4 ++ z12).length = 16 := by simp [z12]; omega
      have hr3 := Lib.hid (rowAt_of (HB3'.out : wr.heap[g3]? = _) (csA_size hlm))
      have HLM := Lib.hid hlm
      clear hlm HB3
      generalize hml : l.take 4 ++ z12 = ml at *
      have HML := Lib.hid hml
      clear hml
      go_wp2_with (first | (refine wpList_load24 rfl _ rfl _ rfl _ hr3.out ?_) | (refine wpList_store24b rfl _ _ rfl _ rfl 4 ml rfl 0 z16 (by exact HB2.out) HLM.out rfl ?_; refine Hid.out ?_))
      refine Lib.hid ?_
      intro w6 hb6 haw6
      have HA6 : Hid (Away [] w w6) := HAW.out.next haw6 (fun x hx => .inr (by simp at hx; omega))
      have hr6 := Lib.hid (rowAt_of (hb6 : w6.heap[g2]? = _) (csA_size HLM.out))
      clear hb6 haw6
      go_wp2_with fail
      refine bodyPost_ret (v := .agg (csA 4 ml)) ?_ rfl ⟨by rw [HML.out], HA6.out⟩
      exact result24 rfl _ _ _ _ rfl hr6.out
#print axioms radr_c
end Go.Proofs.YtbgpjhekohabiaaDoor
