/-
  link, sample of the laws.
-/
import Derived.Test.YtbnnfbfmomafnaaDoorMndB
namespace Go.Proofs.YtbnnfbfmomafnaaDoor
open Go.ChangeShapes Go.WideShapes Go.ChangeAt Go.RowKit Num
set_option linter.unusedVariables false
set_option maxHeartbeats 4000000
set_option maxRecDepth 100000

theorem and1023 (n : Int) : 0 ≤ bits .and .i64 n 1023 ∧ bits .and .i64 n 1023 ≤ 1023 := by
  have h : (BitVec.ofInt 64 1023).toNat = 1023 := by decide
  have key : (BitVec.ofInt 64 n &&& BitVec.ofInt 64 1023).toNat ≤ 1023 := by rw [BitVec.toNat_and, h]; exact Nat.and_le_right
  have e : bits .and .i64 n 1023 = IntKind.i64.wrap ((BitVec.ofInt 64 n &&& BitVec.ofInt 64 1023).toNat : Nat) := rfl
  rw [e, IntKind.wrap_i64]
  generalize (BitVec.ofInt 64 n &&& BitVec.ofInt 64 1023).toNat = m at *
  omega
theorem link_c (v n : Int) (hv : v = 4 ∨ v = 6) (w : World) : Calls Tryd.prog 11 #[.int .i64 v, .int .i64 n] w fun E w' => ∃ m, E = .returned (.int .i64 m) ∧ mtuP m v = true ∧ w' = w := by
  have ha := and1023 n
  generalize hb : bits .and .i64 n 1023 = b at *
  rcases hv with rfl | rfl
  · by_cases h1 : 68 ≤ n
    · by_cases h2 : n ≤ 65535
      · go_enter Tryd.func11, Tryd.ntmps11
        go_wp2
        go_ret
        exact ⟨n, rfl, (mtu_iff _ _).2 ⟨by simpa using h1, h2⟩, rfl⟩
      · go_enter Tryd.func11, Tryd.ntmps11
        go_wp2
        go_ret
        exact ⟨68 + b, by apply ret_int; go_num, (mtu_iff _ _).2 ⟨by simp; omega, by omega⟩, rfl⟩
    · go_enter Tryd.func11, Tryd.ntmps11
      go_wp2
      go_ret
      exact ⟨68 + b, by apply ret_int; go_num, (mtu_iff _ _).2 ⟨by simp; omega, by omega⟩, rfl⟩
  · by_cases h1 : 1280 ≤ n
    · by_cases h2 : n ≤ 65535
      · go_enter Tryd.func11, Tryd.ntmps11
        go_wp2
        go_ret
        exact ⟨n, rfl, (mtu_iff _ _).2 ⟨by simpa using h1, h2⟩, rfl⟩
      · go_enter Tryd.func11, Tryd.ntmps11
        go_wp2
        go_ret
        exact ⟨1280 + b, by apply ret_int; go_num, (mtu_iff _ _).2 ⟨by simp; omega, by omega⟩, rfl⟩
    · go_enter Tryd.func11, Tryd.ntmps11
      go_wp2
      go_ret
      exact ⟨1280 + b, by apply ret_int; go_num, (mtu_iff _ _).2 ⟨by simp; omega, by omega⟩, rfl⟩
def smpB (n : Nat) : List Int := (List.range n).map (fun i => ((i % 256 : Nat) : Int))
def smp (n : Nat) : Pk := ⟨4, 0, 0, 4, [10, 0, 0, 1, 0, 0, 0, 0, 0, 0, 0, 0, 0, 0, 0, 0], 4, [10, 0, 0, 2, 0, 0, 0, 0, 0, 0, 0, 0, 0, 0, 0, 0], 17, 64, 7, false, false, false, 0, [], smpB n⟩
theorem smpB_succ (n : Nat) : smpB (n + 1) = smpB n ++ [((n % 256 : Nat) : Int)] := by simp [smpB, List.range_succ]
theorem smpB_len (n : Nat) : (smpB n).length = n := by simp [smpB]
theorem smpB_bytes (n : Nat) : Bytes (smpB n) := fun x hx => by
  obtain ⟨i, _, rfl⟩ := List.mem_map.1 hx; omega
/-- What sample tells. -/
def SmpOut (w : World) (n : Nat) (E : Ending) (w' : World) : Prop := ∃ dv, E = .returned (.agg (csP (smp n) (.slice none 0 0) dv)) ∧ Owns w' dv (smpB n) ∧ New w.heap.size dv ∧ Away [] w w'
theorem sample_c (n : Nat) (hn : n ≤ 100000) (w : World) : Calls Tryd.prog 31 #[.int .i64 (n : Int)] w fun E w' => SmpOut w n E w' := by
  go_enter Tryd.func31, Tryd.ntmps31
  go_wp2_with (refine wpList_alloc28 rfl rfl ?_; refine Hid.out ?_)
  refine Lib.hid ?_
  intro g2 w1 hg2 hb2 haw1
  have HB2 := Lib.hid hb2; have HA := Lib.hid haw1
  have hl2 := hb2.lt
  have hs1 := haw1.size
  clear hb2 haw1
  go_wp2_with (refine wpList_alloc28 rfl rfl ?_; refine Hid.out ?_)
  refine Lib.hid ?_
  intro g3 w2 hg3 hb3 haw2
  have HB3 := Lib.hid hb3
  have hl3 := hb3.lt
  replace HB2 := Lib.hid (HB2.out.on haw2)
  replace HA := Lib.hid (HA.out.next haw2 (by simp))
  have hs2 := haw2.size
  clear hb3 haw2
  go_wp2_with (refine wpList_store28 rfl _ _ rfl g3 rfl (smp 0) (.slice none 0 0) (.slice none 0 0) rfl zeroPk (.slice none 0 0) (.slice none 0 0) (by exact HB3.out) ⟨rfl, rfl⟩ ⟨rfl, rfl⟩ rfl rfl ?_; refine Hid.out ?_)
  refine Lib.hid ?_
  intro w3 hb3 haw3
  replace HB3 := Lib.hid hb3
  replace HB2 := Lib.hid (HB2.out.away haw3 (by simp; omega))
  replace HA := Lib.hid (HA.out.next haw3 (fun x hx => .inr (by simp at hx; omega)))
  have hs3 := haw3.size
  have hg23 : g2 < w3.heap.size ∧ g3 < w3.heap.size ∧ g2 ≠ g3 ∧ w.heap.size ≤ g2 ∧ w.heap.size ≤ g3 := by omega
  have HGG := Lib.hid hg23
  clear hb3 haw3 hs1 hs2 hs3 hl2 hl3 hg2 hg3 hg23
  go_wp2_with fail
  go_loopw [4] (fun i wr => ∃ (k : Nat) (dv : Value), k ≤ n ∧ i = .int .i64 (k : Int) ∧ BoxP wr g3 (smp k) (.slice none 0 0) dv ∧ Owns wr dv (smpB k) ∧ New w3.heap.size dv ∧ Away [g3] w3 wr) (fun i _ => n - (intOf i).toNat)
  case atStart => exact ⟨0, .slice none 0 0, by omega, rfl, HB3.out, Owns.nil _, New.nil _, Away.refl _ _⟩
  case round =>
    obtain ⟨k, dv, hk, rfl, hb, hown, hnew, haw⟩ := hrel
    have hgg := HGG.out
    have HB := Lib.hid hb; have HO := Lib.hid hown; have HN := Lib.hid hnew; have HAW := Lib.hid haw
    have hsz := haw.size
    clear hb hown hnew haw HB3
    by_cases hlt : k < n
    · obtain ⟨a3, n3, c3, rfl⟩ := HO.out.shp
      have c45 := (HB.out.cells ⟨rfl, rfl⟩).d
      have hcv : IntKind.u8.wrap (k : Int) = ((k % 256 : Nat) : Int) := by rw [IntKind.wrap_u8]; omega
      have HCV := Lib.hid hcv
      clear hcv
      go_wp2_with (at_builtin; refine wpList_app rfl _ _ rfl _ (smpB k) [IntKind.u8.wrap (k : Int)] rfl (by exact HO.out.away ((Away.refl [] _).alloc _) (by simp)) ⟨wr.heap.size, 0, none⟩ 1 1 rfl rfl (lit_cells _ [IntKind.u8.wrap (k : Int)] _ rfl) (by rw [smpB_len]; omega) ?_; refine Hid.out ?_)
      refine Lib.hid ?_
      intro v' w5 hown5 hgr hmv
      rw [HCV.out, ← smpB_succ] at hown5
      have HO5 := Lib.hid hown5
      have HN5 : Hid (New w3.heap.size v') := HN.out.moved hmv (by simp; omega)
      have HA5 : Hid (Away [g3] w3 w5) := (HAW.out.alloc _).grown hgr (fun k hk => .inr (HN.out k hk))
      have HB5 : Hid (BoxP w5 g3 (smp k) (.slice none 0 0) (.slice a3 n3 c3)) := by
        have hb := HB.out.on ((Away.refl [] wr).alloc (.cells #[Value.int .u8 (IntKind.u8.wrap (k : Int))] 5))
        exact (hgr.block g3 (lt_of_block hb) (fun e => by have := HN.out g3 e.symm; omega)).trans hb
      clear hown5 hgr hmv c45
      obtain ⟨a4, n4, c4, rfl⟩ := HO5.out.shp
      have s45 := (HB5.out.cells ⟨rfl, rfl⟩).d
      have t45 := HB5.out.free 45
      have hA := away_put (w := w5) (g := g3) 45 (.slice a4 n4 c4)
      have HB6 := Lib.hid (show BoxP _ g3 (smp (k + 1)) (.slice none 0 0) (.slice a4 n4 c4) from HB5.out.put 45 (.slice a4 n4 c4) ((csP_set ⟨rfl, rfl⟩ _ _).2.2.2.2.2.2.2.2.2.2.2.2.2 (smpB (k + 1)) (.slice a4 n4 c4)))
      have HO6 := Lib.hid (HO5.out.away hA (fun k hk => by have := HN5.out k hk; simp; omega))
      have HA6 := Lib.hid (HA5.out.trans hA)
      clear hA
      go_wp2_with fail
      go_roundw
      case rel => exact ⟨k + 1, _, by omega, by go_num, HB6.out, HO6.out, HN5.out, HA6.out⟩
      case measure => simp [intOf]; omega
    · obtain rfl : k = n := by omega
      have HD1 := Lib.hid HO.out.one
      have HB2r := Lib.hid (HB2.out.away HAW.out (by simp; omega))
      go_wp2_with (first
        | (refine wpList_load28 rfl _ rfl g3 rfl (smp k) _ _ (by exact HB.out) ⟨rfl, rfl⟩ ?_)
        | (refine wpList_store28 rfl _ _ rfl g2 rfl (smp k) (.slice none 0 0) dv rfl zeroPk (.slice none 0 0) (.slice none 0 0) (by exact HB2r.out) ⟨rfl, rfl⟩ ⟨rfl, rfl⟩ rfl HD1.out ?_; refine Hid.out ?_))
      refine Lib.hid ?_
      intro w9 hb9 haw9
      have HB9 := Lib.hid hb9
      have HO9 := Lib.hid (HO.out.away haw9 (fun k hk => by have := HN.out k hk; simp; omega))
      have HA9 : Hid (Away [] w w9) := (HA.out.next HAW.out (fun x hx => .inr (by simp at hx; omega))).next haw9 (fun x hx => .inr (by simp at hx; omega))
      clear hb9 haw9
      have hs := HA.out.size
      go_wp2_with fail
      exact bodyPost_ret (result28 rfl _ _ _ _ _ _ rfl HB9.out ⟨rfl, rfl⟩) rfl ⟨_, rfl, HO9.out, HN.out.mono hs, HA9.out⟩
#print axioms sample_c
end Go.Proofs.YtbnnfbfmomafnaaDoor
