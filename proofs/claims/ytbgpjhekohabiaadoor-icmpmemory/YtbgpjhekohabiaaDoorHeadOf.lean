/-
  numberAt, sumOf, headOf.
-/
import Derived.Test.YtbgpjhekohabiaaDoorRead
import Derived.Test.YtbgpjhekohabiaaDoorOf
import Derived.Test.YtbgpjhekohabiaaDoorQt
namespace Go.Proofs.YtbgpjhekohabiaaDoor
open Go.ChangeShapes Go.WideShapes Go.ChangeAt Go.RowKit Num
set_option linter.unusedVariables false
set_option maxHeartbeats 4000000
set_option maxRecDepth 100000

theorem two_eq (b : List Int) (k : Nat) (h : k + 2 ≤ b.length) : (b.drop k).take 2 = [gt b k, gt b (k + 1)] := by
  have e : b.drop k = b[k] :: b[k + 1] :: b.drop (k + 2) := by rw [List.drop_eq_getElem_cons (show k < b.length by omega), List.drop_eq_getElem_cons (show k + 1 < b.length by omega)]
  rw [e]
  simp only [List.take_succ_cons, List.take_zero, gt]
  simp [List.getElem?_eq_getElem (show k < b.length by omega), List.getElem?_eq_getElem (show k + 1 < b.length by omega)]
theorem num_two (x y : Int) : num [x, y] = 256 * x + y := by simp [num]
theorem rdOut_all (l : List Int) (n : Nat) (h : l.length = n) : rdOut l 0 n = l := by
  unfold rdOut; rw [if_pos ⟨rfl, by omega, by omega⟩, Int.toNat_natCast, List.take_of_length_le (by omega)]
theorem numberAt_c (a : Option Addr) (b : List Int) (n cap k : Nat) (z : Int) (hz : z = k) (w : World) (hn : b.length = n) (hcap : n ≤ cap) (ha : a = none → cap = 0) (hr : Row w a b) (hk : k + 2 ≤ n) :
    Calls Tryd.prog 102 #[.slice a n cap, .int .i64 z] w fun E w' => E = .returned (.int .u16 (w16 b k)) ∧ Away [] w w' := by
  subst hn hz
  have hlen := hr.1
  obtain ⟨A, hA⟩ : ∃ A, A = if cap = k then a else a.map (·.add k) := ⟨_, rfl⟩
  have hsl := slice_lh a A b.length cap k 2 (k : Int) ((k : Int) + 2) hA rfl rfl (by omega)
  have HR : Hid (Row w A [gt b k, gt b (k + 1)]) := by
    have := hr.sub k 2 cap hcap (by omega)
    rw [← hA, two_eq b k hk] at this
    exact this
  have HN : Hid (A = none → cap - k = 0) := by
    intro e
    rw [hA] at e
    have : a = none := by
      revert e; split
      · exact id
      · cases a <;> simp
    rw [ha this]; omega
  have HW : Hid (w16 b k = num (rdOut [gt b k, gt b (k + 1)] 0 2)) := by
    show _ = _
    rw [show (2 : Int) = ((2 : Nat) : Int) from rfl, rdOut_all _ 2 rfl, num_two]; rfl
  clear hr hA
  have HM : Hid ([gt b k, gt b (k + 1)].length = 2) := rfl
  have z0 : ∀ k : Nat, IntKind.i64.wrap (k : Int) = (k : Int) ∨ True := fun _ => .inr trivial
  clear z0
  obtain ⟨z, hz⟩ : ∃ z, z = w16 b k := ⟨_, rfl⟩
  rw [← hz] at HW ⊢
  clear hz
  generalize [gt b k, gt b (k + 1)] = m at *
  go_enter Tryd.func102, Tryd.ntmps102
  go_wp2_with fail
  refine (newReader_any A m 2 (cap - k) _ HM.out HN.out (by exact HR.out)).mono ?_
  rintro E w1 ⟨g, d, rfl, hrd, hg, hd, haw⟩
  have HD := Lib.hid hrd
  clear hrd
  go_wp2_with fail
  refine (u16_any w1 g d m 0 (by exact HD.out)).mono ?_
  rintro E w2 ⟨rfl, -, haw2⟩
  rw [← HW.out]
  have HA := Lib.hid (haw.next haw2 (fun x hx => .inr (by simp at hx; omega)))
  clear haw haw2 HD
  go_wp2_with fail
  go_ret
  exact ⟨rfl, HA.out⟩

theorem sumOf_c (a : Option Addr) (h : List Int) (n cap : Nat) (w : World) (hn : h.length = n) (ha : a = none → cap = 0) (hr : Row w a h) (hk : 12 ≤ n) :
    Calls Tryd.prog 103 #[.slice a n cap] w fun E w' => E = .returned (.int .u16 (sumH h)) ∧ Away [] w w' := by
  subst hn
  have hlen := hr.1
  have hb := hr.2.1
  obtain ⟨z, hz⟩ : ∃ z, z = sumH h := ⟨_, rfl⟩
  rw [← hz]
  have HZ := Lib.hid hz
  clear hz
  have HR := Lib.hid hr
  clear hr
  go_enter Tryd.func103, Tryd.ntmps103
  go_wp2_with fail
  refine (clone_any a h cap _ ha (by exact HR.out)).mono ?_
  rintro E w1 ⟨v, rfl, hown, hnew, haw⟩
  obtain ⟨a1, cap1, rfl, hcap1, -, hrow1, hblk, hsp⟩ := hown.row hlen hb
  rcases a1 with _ | ⟨g, o, sp⟩
  · rcases hrow1.2.2 with h0 | ⟨_, _, h0, _⟩
    · rw [h0] at hk; simp at hk
    · simp at h0
  obtain ⟨h1, h2⟩ := hsp _ rfl
  simp only at h1 h2
  subst h1 h2
  obtain ⟨c0, f0⟩ := hown.cells 10 (by omega)
  obtain ⟨c1, f1⟩ := hown.cells 11 (by omega)
  have hs1 := (hown.set rfl 10 0).set (by simp) 11 0
  have hl2 : ((h.set 10 0).set 11 0).length = h.length := by simp
  have hb2 : Bytes ((h.set 10 0).set 11 0) := (hb.set 10 (by omega) (by omega)).set 11 (by omega) (by omega)
  have HR2 := Lib.hid (hs1.row' (by rw [hl2]; exact hlen) hb2)
  have hg : w.heap.size ≤ g := hnew g rfl
  have HA : Hid (Away [] w ((w1.setCell ⟨g, 10, none⟩ (.int .u8 0)).setCell ⟨g, 11, none⟩ (.int .u8 0))) := (haw.setCell (.inr hg) _).setCell (.inr hg) _
  clear hown hrow1 hblk hsp hs1 hnew haw HR
  have HL2 := Lib.hid hl2
  have HB2 : Hid (sumH h = 65535 - pt ((h.set 10 0).set 11 0)) := rfl
  have HBB := Lib.hid hb2
  clear hl2 hb2 hb
  generalize (h.set 10 0).set 11 0 = m at *
  go_wp2_with fail
  generalize (w1.setCell ⟨g, 10, none⟩ (.int .u8 0)).setCell ⟨g, 11, none⟩ (.int .u8 0) = W at *
  rw [← HL2.out]
  refine (of_any (some ⟨g, 0, none⟩) m cap1 (by rw [HL2.out]; exact hcap1) _ (by exact HR2.out)).mono ?_
  rintro E w2 ⟨rfl, q, rfl⟩
  rw [← HB2.out, ← HZ.out]
  go_wp2_with fail
  go_ret
  exact ⟨rfl, HA.out.drewN q⟩
theorem and15 (x : Int) (h0 : 0 ≤ x) (h1 : x ≤ 255) : bits .and .u8 x 15 = x % 16 := by
  rw [u8_and _ _ h0 (by omega) (by omega) (by omega), show (15 : Int).toNat = 15 from rfl, nat_mask4]
  omega
/-- What headOf tells. -/
def HeadOut (b : List Int) (E : Ending) : Prop := E = .returned (.tuple #[.int .i64 (if headE b = 0 then headN b else 0), .int .i64 (headE b)])
theorem headOf_c (a : Option Addr) (b : List Int) (n cap : Nat) (w : World) (hn : b.length = n) (hcap : n ≤ cap) (ha : a = none → cap = 0) (hr : Row w a b) :
    Calls Tryd.prog 90 #[.slice a n cap] w fun E w' => HeadOut b E ∧ Away [] w w' := by
  subst hn
  have hlen := hr.1
  have hb := hr.2.1
  by_cases h20 : b.length < 20
  · have he : headE b = 20 := by unfold headE; rw [if_pos h20]
    go_enter Tryd.func90, Tryd.ntmps90
    go_wp2_with fail
    go_ret2
    exact ⟨by unfold HeadOut; rw [he]; rfl, Away.refl _ _⟩
  · have hr0 := hr
    rcases hr.2.2 with h0 | ⟨blk, off, rfl, hcell⟩
    · rw [h0] at h20; simp at h20
    have c0 : w.cell? ⟨blk, off, none⟩ = some (.int .u8 (gt b 0)) := by have := hcell 0 (by omega); simpa [gt] using this
    have hx := gt_bd hb 0
    have hand := and15 (gt b 0) hx.1 hx.2
    have hN : (headN b : Int) = gt b 0 % 16 * 4 := by unfold headN; omega
    have KN : Hid (∀ (k : Nat) (z : Int), z = k → k + 2 ≤ b.length → ∀ W, Away [] w W → Calls Tryd.prog 102 #[.slice (some ⟨blk, off, none⟩) b.length cap, .int .i64 z] W fun E w' => E = .returned (.int .u16 (w16 b k)) ∧ Away [] w w') := fun k z hz hk W hW =>
      (numberAt_c _ b _ cap k z hz W rfl hcap ha (hr0.away hW (by simp)) hk).mono fun E w' h => ⟨h.1, hW.next h.2 (by simp)⟩
    have KS : Hid (12 ≤ headN b → headN b ≤ b.length → ∀ W, Away [] w W → Calls Tryd.prog 103 #[.slice (some ⟨blk, off, none⟩) (headN b) cap] W fun E w' => E = .returned (.int .u16 (sumH (b.take (headN b)))) ∧ Away [] w w') := fun h1 h2 W hW =>
      (sumOf_c _ (b.take (headN b)) _ cap W (by simp; omega) ha ((hr0.away hW (by simp)).head _) h1).mono fun E w' h => ⟨h.1, hW.next h.2 (by simp)⟩
    have hw2 : 0 ≤ w16 b 2 ∧ w16 b 2 ≤ 65535 := by have := gt_bd hb 2; have := gt_bd hb (2 + 1); unfold w16; omega
    have hE : headE b = if gt b 0 / 16 ≠ 4 ∨ headN b < 20 then 50 else if b.length < headN b then 20 else if w16 b 2 ≠ b.length then 51 else if w16 b 10 ≠ sumH (b.take (headN b)) then 52 else 0 := by unfold headE; rw [if_neg h20]
    have HE := Lib.hid hE
    have HN := Lib.hid hN
    clear hE hr hr0 hcell hb hN
    have hq0 := hx.1
    have hq1 := hx.2
    have hd16 : gt b 0 / 16 ≤ 15 := by omega
    have hm16 : gt b 0 % 16 ≤ 15 := by omega
    have hm0 : 0 ≤ gt b 0 % 16 := by omega
    have hs64 : ∀ l, 20 ≤ l → True := fun _ _ => trivial
    clear hs64
    obtain ⟨e, he⟩ : ∃ e, e = headE b := ⟨_, rfl⟩
    have HD : Hid (∀ z, e ≠ 0 → z = e → HeadOut b (.returned (.tuple #[.int .i64 0, .int .i64 z]))) := fun z h1 h2 => by unfold HeadOut; rw [← he, if_neg h1, h2]
    rw [← he] at HE
    have HEE := Lib.hid he
    clear he
    by_cases h4 : gt b 0 / 16 = 4
    · have b4 : (gt b 0 / 16 == 4) = true := by simp [h4]
      have b4' : (gt b 0 / 16 != 4) = false := by simp [h4]
      by_cases hs : gt b 0 % 16 * 4 < 20
      · obtain rfl : e = 50 := by rw [HE.out, if_pos (.inr (by have := HN.out; omega))]
        go_enter Tryd.func90, Tryd.ntmps90
        go_wp2_with fail
        go_ret2
        exact ⟨HD.out _ (by omega) rfl, Away.refl _ _⟩
      · by_cases hl : (b.length : Int) < gt b 0 % 16 * 4
        · obtain rfl : e = 20 := by rw [HE.out, if_neg (by have := HN.out; omega), if_pos (by have := HN.out; omega)]
          go_enter Tryd.func90, Tryd.ntmps90
          go_wp2_with fail
          go_ret2
          exact ⟨HD.out _ (by omega) rfl, Away.refl _ _⟩
        · go_enter Tryd.func90, Tryd.ntmps90
          go_wp2_with fail
          refine (KN.out 2 2 rfl (by omega) _ (Away.refl _ _)).mono ?_
          rintro E w1 ⟨rfl, haw⟩
          by_cases hz : w16 b 2 = b.length
          · have bz : (w16 b 2 == (b.length : Int)) = true := by simp [hz]
            have bz' : (w16 b 2 != (b.length : Int)) = false := by simp [hz]
            have HC : Hid (Away [] w w1.drew) := haw.drew
            clear haw
            have hsl := slice_h (some ⟨blk, off, none⟩) b.length cap (headN b) (gt b 0 % 16 * 4) HN.out.symm (by have := HN.out; omega)
            have K10 : Hid (∀ W, Away [] w W → Calls Tryd.prog 102 #[.slice (some ⟨blk, off, none⟩) b.length cap, .int .i64 10] W fun E w' => E = .returned (.int .u16 (w16 b 10)) ∧ Away [] w w') := KN.out 10 10 rfl (by omega)
            have K41 := Lib.hid (KS.out (by have := HN.out; omega) (by have := HN.out; omega))
            have HX : Hid (e = if w16 b 10 ≠ sumH (b.take (headN b)) then 52 else 0) := by
              show _ = _
              rw [HE.out, if_neg (by have := HN.out; omega), if_neg (by have := HN.out; omega), if_neg (by simp [hz])]
            clear KN KS HE hz
            generalize w16 b 10 = x at *
            generalize sumH (b.take (headN b)) = y at *
            go_wp2_with fail
            refine wp_region_cls (C := fun w' => Away [] w w') (by kernel_rfl) (by kernel_rfl) HC.out ?_
            repeat (first
              | go_big_quiet_skip
              | (go_big_quiet_want
                 first
                   | (go_big_quiet_op; go_big_quiet_on)
                   | (refine quiet_call 102 #[.slice (some ⟨blk, off, none⟩) b.length cap, .int .i64 10] (.int .u16 x) ?_ K10.out ?_
                      · intro w; go_simp; done
                      go_simp; go_big_quiet_on)
                   | (refine quiet_call 103 #[.slice (some ⟨blk, off, none⟩) (headN b) cap] (.int .u16 y) ?_ K41.out ?_
                      · intro w; go_simp; done
                      go_simp; go_big_quiet_on)
                   | (refine quiet_val ?_ ?_ ?_
                      rotate_left
                      · intro w; go_simp; rfl
                      go_simp; go_big_quiet_on)))
            refine wpQuiet_nil ?_
            intro V hV
            have HV := Lib.hid hV
            clear hV
            by_cases hxy : x = y
            · subst hxy
              obtain rfl : e = 0 := by rw [HX.out]; simp
              go_wp2_with fail
              go_ret2
              exact ⟨by unfold HeadOut; rw [← HEE.out, if_pos rfl, HN.out]; rfl, HV.out⟩
            · obtain rfl : e = 52 := by rw [HX.out]; simp [hxy]
              have bq : (x == y) = false := by simp [hxy]
              have bq' : (x != y) = true := by simp [hxy]
              clear hxy
              go_wp2_with fail
              go_ret2
              exact ⟨HD.out _ (by omega) rfl, HV.out⟩
          · obtain rfl : e = 51 := by rw [HE.out, if_neg (by have := HN.out; omega), if_neg (by have := HN.out; omega), if_pos hz]
            have bz : (w16 b 2 == (b.length : Int)) = false := by simp [hz]
            have bz' : (w16 b 2 != (b.length : Int)) = true := by simp [hz]
            have HA := Lib.hid haw
            clear hz haw
            go_wp2_with fail
            go_ret2
            exact ⟨HD.out _ (by omega) rfl, HA.out⟩
    · obtain rfl : e = 50 := by rw [HE.out, if_pos (.inl h4)]
      have b4 : (gt b 0 / 16 == 4) = false := by simp [h4]
      have b4' : (gt b 0 / 16 != 4) = true := by simp [h4]
      clear h4
      go_enter Tryd.func90, Tryd.ntmps90
      go_wp2_with fail
      go_ret2
      exact ⟨HD.out _ (by omega) rfl, Away.refl _ _⟩
#print axioms headOf_c
end Go.Proofs.YtbgpjhekohabiaaDoor
