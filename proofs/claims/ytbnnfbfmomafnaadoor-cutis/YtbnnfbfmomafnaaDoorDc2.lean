/-
  The document: Carry.
-/
import Derived.Test.YtbnnfbfmomafnaaDoorDc1
import Derived.Deep.CutBlock
import Derived.Deep.DeepCutAuto
namespace Go.Proofs.YtbnnfbfmomafnaaDoor
open Go.ChangeShapes Go.WideShapes Go.ChangeAt Go.RowKit Num
set_option linter.unusedVariables false
set_option linter.unusedSimpArgs false
set_option maxHeartbeats 4000000
set_option maxRecDepth 100000

def slen : Value → Nat
  | .slice _ n _ => n
  | _ => 0
def big (o : O) : Bool := decide (128 ≤ o.1)
theorem carry_is {b : List Int} (hb : Bytes b) (hv : validP b = true) : ∃ (os : List O) (k : Nat), b = flat os ++ List.replicate k 0 ∧ (∀ o ∈ os, rightB o = true ∧ Bytes o.2) ∧ tot os ≤ 40 ∧ carryP b = laidP (os.filter big) ∧ b.length ≤ 40 ∧ tot (os.filter big) ≤ 40 := by
  have hlen : b.length ≤ 40 := by unfold validP at hv; simp only [Bool.and_eq_true, decide_eq_true_eq] at hv; exact hv.1.1
  obtain ⟨l, hl, hr, hbs, ht, k, e⟩ := valid_parts hb hv
  have hle := tot_filter (fun o => decide (128 ≤ o.1)) l
  refine ⟨l, (fillP (tot l) - tot l) + k, ?_, fun o ho => ⟨hr o ho, hbs o ho⟩, ht, ?_, hlen, Nat.le_trans hle ht⟩
  · rw [e]; unfold laidP; rw [List.append_assoc, List.replicate_append_replicate]
  · unfold carryP
    rw [if_pos hv, hl, Option.getD_some, buildP_ok (right_filter _ hr) (by omega)]
    rfl
/-- What stands at the next option. -/
theorem at_opt {b : List Int} {done : List O} {o : O} {r : List O} {k : Nat} (h : b = flat (done ++ o :: r) ++ List.replicate k 0) :
    b[tot done]? = some o.1 ∧ (o.1 ≠ 1 → b[tot done + 1]? = some (2 + o.2.length : Int)) ∧ (b.drop (tot done)).take (szP o) = layP o ∧ tot done + szP o ≤ b.length := by
  have e : b = flat done ++ (layP o ++ (flat r ++ List.replicate k 0)) := by rw [h, flat_app, flat_cons]; simp
  have hl := flat_len done
  refine ⟨?_, fun h1 => ?_, ?_, ?_⟩
  · rw [e, List.getElem?_append_right (by omega), hl, Nat.sub_self]
    unfold layP
    split
    · rename_i h1; rw [h1]; rfl
    · rfl
  · rw [e, List.getElem?_append_right (by omega), hl, show tot done + 1 - tot done = 1 from by omega]
    unfold layP
    rw [if_neg h1]; rfl
  · rw [e, ← hl, List.drop_left, ← layP_len o, List.take_left]
  · rw [e]; simp [hl, layP_len]
theorem at_end {b : List Int} {os : List O} {k : Nat} (h : b = flat os ++ List.replicate k 0) : tot os ≤ b.length ∧ ∀ x, b[tot os]? = some x → x = 0 := by
  have hl := flat_len os
  refine ⟨by rw [h]; simp [hl], fun x hx => ?_⟩
  rw [h, List.getElem?_append_right (by omega), hl, Nat.sub_self] at hx
  have := List.mem_of_getElem? hx
  exact List.eq_of_mem_replicate this
theorem flat_snoc' (l : List O) (o : O) : flat (l ++ [o]) = flat l ++ layP o := by rw [flat_app, flat_cons, flat_nil]; simp
theorem tot_snoc' (l : List O) (o : O) : tot (l ++ [o]) = tot l + szP o := by rw [tot_app, tot_cons, tot_nil]; omega
theorem rcarry_c (a : Option Addr) (l : List Int) (n cap : Nat) (w : World) (hn : l.length = n) (hcap : n ≤ cap) (ha : a = none → cap = 0) (hr : Row w a l) (hv : validP l = true) :
    Calls Tryd.prog 68 #[.slice a n cap] w fun E w' => ∃ v, E = .returned v ∧ Owns w' v (carryP l) ∧ New w.heap.size v ∧ Away [] w w' := by
  subst hn
  have hlb := hr.2.1
  obtain ⟨os, kz, hb, hos, ht, hcar, h40, htf⟩ := carry_is hlb hv
  have HB := Lib.hid hb
  have HOS := Lib.hid hos
  have HCAR := Lib.hid hcar
  have HR := Lib.hid hr
  have HLB := Lib.hid hlb
  clear hv hb hos hcar hr hlb
  obtain ⟨n, hn⟩ : ∃ n, n = l.length := ⟨_, rfl⟩
  rw [← hn] at hcap h40 ⊢
  have HN := Lib.hid hn
  clear hn
  go_enter Tryd.func68, Tryd.ntmps68
  go_wp2_with fail
  go_loopw [3, 4] (fun v i wr => ∃ done r : List O, os = done ++ r ∧ i = .int .i64 ((tot done : Nat) : Int) ∧ Owns wr v (flat (done.filter big)) ∧ New w.heap.size v ∧ Away [] w wr) (fun _ i _ => n + 1 - (intOf i).toNat)
  case atStart => exact ⟨[], os, rfl, rfl, Owns.nil _, New.nil _, Away.refl _ _⟩
  case round =>
    obtain ⟨done, r, hdr, rfl, hown, hnew, haw⟩ := hrel
    have HDR := Lib.hid hdr
    have HO := Lib.hid hown
    have HNW := Lib.hid hnew
    have HA := Lib.hid haw
    have hsz := haw.size
    clear hdr hown hnew haw
    obtain ⟨p, hp⟩ : ∃ p, p = tot done := ⟨_, rfl⟩
    rw [← hp]
    have HP := Lib.hid hp
    clear hp
    rcases r with _ | ⟨o, r⟩
    · have hend := at_end (show l = flat done ++ List.replicate kz 0 from by have h1 := HDR.out; rw [List.append_nil] at h1; rw [← h1]; exact HB.out)
      rw [← HP.out, ← HN.out] at hend
      obtain ⟨hpn, hz⟩ := hend
      have HFIN : Hid (done = os) := by have h1 := HDR.out; rw [List.append_nil] at h1; exact h1.symm
      by_cases htn : p < n
      · have hrr := HR.out.away HA.out (by simp)
        rcases hrr.2.2 with h0 | ⟨b, off, hab, hcell⟩
        · rw [h0] at HN; have := HN.out; simp at this; omega
        subst hab
        have c0 := hcell p (by rw [← HN.out]; omega)
        have hx0 : l[p]?.getD 0 = 0 := by
          have h3 : l[p]? = some (l[p]'(by rw [← HN.out]; omega)) := by simp
          rw [h3, hz _ h3]; rfl
        rw [hx0] at c0
        have j1 : decide (p < n) = true := by simp; omega
        have j0 : (p : Int) < (n : Int) := by omega
        have j2 : 0 ≤ (p : Int) := by omega
        have j3 : ((p : Int)).toNat = p := by omega
        clear hcell hrr hx0 hz
        go_wp2_with fail
        clear c0
        generalize u3 = vo at *
        have HOF : Hid (Owns wr vo (flat (os.filter big))) := by have h1 := HO.out; rw [HFIN.out] at h1; exact h1
        have hT := flat_len (os.filter big)
        obtain ⟨F, hF⟩ : ∃ F, F = flat (os.filter big) := ⟨_, rfl⟩
        obtain ⟨T, hTT⟩ : ∃ T, T = tot (os.filter big) := ⟨_, rfl⟩
        have HLD : Hid (carryP l = F ++ List.replicate (fillP T - T) 0) := by show _ = _; rw [HCAR.out, hF, hTT]; rfl
        rw [← hF] at HOF hT
        rw [← hTT] at hT htf
        have hfl := fillP_le T
        obtain ⟨hf1, hf2, hf3⟩ := hfl
        clear hF hTT HO
        go_loopw [3] (fun v wr => ∃ j : Nat, j ≤ fillP T - T ∧ Owns wr v (F ++ List.replicate j 0) ∧ New w.heap.size v ∧ Away [] w wr) (fun v _ => 100 - slen v)
        case atStart => exact ⟨0, by omega, by simpa using HOF.out, HNW.out, HA.out⟩
        case round =>
          clear HOF HNW HA
          obtain ⟨j, hj, hown, hnew, haw⟩ := hrel
          have HO := Lib.hid hown
          have HNW := Lib.hid hnew
          have HA := Lib.hid haw
          obtain ⟨va, vc, hv⟩ := hown.shape
          have hlen : (F ++ List.replicate j 0).length = T + j := by rw [List.length_append, List.length_replicate, hT]
          rw [hlen] at hv
          subst hv
          clear hown hnew haw
          obtain ⟨L, hL⟩ : ∃ L, L = T + j := ⟨_, rfl⟩
          rw [← hL] at hlen HO HNW ⊢
          have HLT := Lib.hid hL
          clear hL
          by_cases hr : L % 4 = 0
          · have em : ((L : Int) % 4 != 0) = false := by simp; omega
            have hjj : j = fillP T - T := by have := HLT.out; omega
            have HOK : Hid (Owns wr (.slice va L vc) (carryP l)) := by show Owns _ _ _; rw [HLD.out, ← hjj]; exact HO.out
            clear hr hjj
            go_wp2_with fail
            go_ret
            exact ⟨_, rfl, HOK.out, HNW.out, HA.out⟩
          · have em : ((L : Int) % 4 != 0) = true := by simp; omega
            have hac := (Away.refl [] wr).alloc (.cells #[.int .u8 0] 5)
            replace HO := Lib.hid (HO.out.on hac)
            replace HA := Lib.hid (HA.out.trans hac)
            have HNC : Hid (∀ j u, (([0] : List Int).map (Value.int .u8))[j]? = some u → (wr.alloc (.cells #[.int .u8 0] 5)).cell? ((⟨wr.heap.size, 0, none⟩ : Addr).add j) = some u) := fun j u hj => by
              rw [add_plain, Nat.zero_add, cell_of_block (heap_alloc_new wr _)]
              simpa using hj
            have hLb : L ≤ 43 := by have := HLT.out; omega
            clear hac
            go_wp2_with (at_builtin; refine wpList_app rfl _ _ rfl (.slice va L vc) (F ++ List.replicate j 0) [0] rfl HO.out ⟨wr.heap.size, 0, none⟩ 1 1 rfl rfl HNC.out (by rw [hlen]; omega) ?_; refine Hid.out ?_)
            refine Lib.hid ?_
            intro v' w2 hown2 hgr hmv
            have HO2 : Hid (Owns w2 v' (F ++ List.replicate (j + 1) 0)) := by show Owns _ _ _; rw [List.replicate_succ', ← List.append_assoc]; simpa using hown2
            have HA2 : Hid (Away [] w w2) := HA.out.grown hgr (fun k hk => .inr (HNW.out k hk))
            have HNW2 : Hid (New w.heap.size v') := HNW.out.moved hmv HA.out.size
            obtain ⟨va2, vc2, hv2⟩ := HO2.out.shape
            have hlen2 : (F ++ List.replicate (j + 1) 0).length = L + 1 := by rw [List.length_append, List.length_replicate, hT]; have := HLT.out; omega
            rw [hlen2] at hv2
            subst hv2
            clear hown2 hgr hmv
            go_wp2_with fail
            go_roundw
            case rel => exact ⟨j + 1, by have := HLT.out; omega, HO2.out, HNW2.out, HA2.out⟩
            case measure => simp [slen]; omega
      · have j1 : decide (p < n) = false := by simp; omega
        clear hz
        go_wp2_with fail
        generalize u3 = vo at *
        have HOF : Hid (Owns wr vo (flat (os.filter big))) := by have h1 := HO.out; rw [HFIN.out] at h1; exact h1
        have hT := flat_len (os.filter big)
        obtain ⟨F, hF⟩ : ∃ F, F = flat (os.filter big) := ⟨_, rfl⟩
        obtain ⟨T, hTT⟩ : ∃ T, T = tot (os.filter big) := ⟨_, rfl⟩
        have HLD : Hid (carryP l = F ++ List.replicate (fillP T - T) 0) := by show _ = _; rw [HCAR.out, hF, hTT]; rfl
        rw [← hF] at HOF hT
        rw [← hTT] at hT htf
        have hfl := fillP_le T
        obtain ⟨hf1, hf2, hf3⟩ := hfl
        clear hF hTT HO
        go_loopw [3] (fun v wr => ∃ j : Nat, j ≤ fillP T - T ∧ Owns wr v (F ++ List.replicate j 0) ∧ New w.heap.size v ∧ Away [] w wr) (fun v _ => 100 - slen v)
        case atStart => exact ⟨0, by omega, by simpa using HOF.out, HNW.out, HA.out⟩
        case round =>
          clear HOF HNW HA
          obtain ⟨j, hj, hown, hnew, haw⟩ := hrel
          have HO := Lib.hid hown
          have HNW := Lib.hid hnew
          have HA := Lib.hid haw
          obtain ⟨va, vc, hv⟩ := hown.shape
          have hlen : (F ++ List.replicate j 0).length = T + j := by rw [List.length_append, List.length_replicate, hT]
          rw [hlen] at hv
          subst hv
          clear hown hnew haw
          obtain ⟨L, hL⟩ : ∃ L, L = T + j := ⟨_, rfl⟩
          rw [← hL] at hlen HO HNW ⊢
          have HLT := Lib.hid hL
          clear hL
          by_cases hr : L % 4 = 0
          · have em : ((L : Int) % 4 != 0) = false := by simp; omega
            have hjj : j = fillP T - T := by have := HLT.out; omega
            have HOK : Hid (Owns wr (.slice va L vc) (carryP l)) := by show Owns _ _ _; rw [HLD.out, ← hjj]; exact HO.out
            clear hr hjj
            go_wp2_with fail
            go_ret
            exact ⟨_, rfl, HOK.out, HNW.out, HA.out⟩
          · have em : ((L : Int) % 4 != 0) = true := by simp; omega
            have hac := (Away.refl [] wr).alloc (.cells #[.int .u8 0] 5)
            replace HO := Lib.hid (HO.out.on hac)
            replace HA := Lib.hid (HA.out.trans hac)
            have HNC : Hid (∀ j u, (([0] : List Int).map (Value.int .u8))[j]? = some u → (wr.alloc (.cells #[.int .u8 0] 5)).cell? ((⟨wr.heap.size, 0, none⟩ : Addr).add j) = some u) := fun j u hj => by
              rw [add_plain, Nat.zero_add, cell_of_block (heap_alloc_new wr _)]
              simpa using hj
            have hLb : L ≤ 43 := by have := HLT.out; omega
            clear hac
            go_wp2_with (at_builtin; refine wpList_app rfl _ _ rfl (.slice va L vc) (F ++ List.replicate j 0) [0] rfl HO.out ⟨wr.heap.size, 0, none⟩ 1 1 rfl rfl HNC.out (by rw [hlen]; omega) ?_; refine Hid.out ?_)
            refine Lib.hid ?_
            intro v' w2 hown2 hgr hmv
            have HO2 : Hid (Owns w2 v' (F ++ List.replicate (j + 1) 0)) := by show Owns _ _ _; rw [List.replicate_succ', ← List.append_assoc]; simpa using hown2
            have HA2 : Hid (Away [] w w2) := HA.out.grown hgr (fun k hk => .inr (HNW.out k hk))
            have HNW2 : Hid (New w.heap.size v') := HNW.out.moved hmv HA.out.size
            obtain ⟨va2, vc2, hv2⟩ := HO2.out.shape
            have hlen2 : (F ++ List.replicate (j + 1) 0).length = L + 1 := by rw [List.length_append, List.length_replicate, hT]; have := HLT.out; omega
            rw [hlen2] at hv2
            subst hv2
            clear hown2 hgr hmv
            go_wp2_with fail
            go_roundw
            case rel => exact ⟨j + 1, by have := HLT.out; omega, HO2.out, HNW2.out, HA2.out⟩
            case measure => simp [slen]; omega
    · obtain ⟨hk0, hk1, hk2, hk3⟩ := at_opt (show l = flat (done ++ o :: r) ++ List.replicate kz 0 from by rw [← HDR.out]; exact HB.out)
      rw [← HP.out] at hk0 hk1 hk2 hk3
      rw [← HN.out] at hk3
      have hsz1 := szP_pos o
      obtain ⟨hro, hbo⟩ := HOS.out o (by rw [HDR.out]; simp)
      obtain ⟨q1, q2, q3, q4⟩ := (rightB_iff o).1 hro
      have hpn : p < n := by omega
      have hrr := HR.out.away HA.out (by simp)
      rcases hrr.2.2 with h0 | ⟨b, off, hab, hcell⟩
      · rw [h0] at HN; have := HN.out; simp at this; omega
      subst hab
      have c0 := hcell p (by rw [← HN.out]; omega)
      rw [hk0, Option.getD_some] at c0
      have j1 : decide (p < n) = true := by simp; omega
      have j0 : (p : Int) < (n : Int) := by omega
      have j2 : 0 ≤ (p : Int) := by omega
      have j3 : ((p : Int)).toNat = p := by omega
      have HT1 : Hid (tot (done ++ [o]) = p + szP o) := by show _ = _; rw [tot_snoc', ← HP.out]
      have HD1 : Hid (os = (done ++ [o]) ++ r) := by show _ = _; rw [HDR.out]; simp
      have hkd0 : (o.1 != 0) = true := by simp; omega
      by_cases h1 : o.1 = 1
      · have e1 : (o.1 != 1) = false := by simp [h1]
        have e8 : decide (128 ≤ o.1) = false := by simp; omega
        have HS1 : Hid (szP o = 1) := by show _ = _; unfold szP; rw [if_pos h1]
        have HFL : Hid ((done ++ [o]).filter big = done.filter big) := by show _ = _; rw [List.filter_append]; simp [big, e8]
        rw [h1] at c0
        clear hk0 hk1 hk2 hcell hrr h1 e1 e8 hkd0 hbo hro q1 q2 q3 q4
        go_wp2_with fail
        go_roundw
        case rel => exact ⟨done ++ [o], r, HD1.out, by rw [HT1.out, HS1.out]; go_num, by rw [HFL.out]; exact HO.out, HNW.out, HA.out⟩
        case measure => simp [intOf]; omega
      · have e1 : (o.1 != 1) = true := by simpa using h1
        have c1 := hcell (p + 1) (by rw [← HN.out]; unfold szP at hk3; rw [if_neg h1] at hk3; omega)
        rw [hk1 h1, Option.getD_some] at c1
        obtain ⟨sz, hszo⟩ : ∃ z, z = szP o := ⟨_, rfl⟩
        have hsv : (2 + o.2.length : Int) = (sz : Int) := by rw [hszo]; unfold szP; rw [if_neg h1]; omega
        have hs2 : 2 ≤ sz := by omega
        have hs40 : sz ≤ 40 := by omega
        rw [hsv] at c1
        rw [← hszo] at hk2 hk3 HT1
        rw [show off + (p + 1) = off + p + 1 from by omega] at c1
        have k0 : (p : Int) + 1 < (n : Int) := by omega
        have k2 : 0 ≤ (p : Int) + 1 := by omega
        have k3 : ((p : Int) + 1).toNat = p + 1 := by omega
        have k4 : off + (p + 1) = off + p + 1 := by omega
        have kw : IntKind.i64.wrap ((p : Int) + 1) = (p : Int) + 1 := by rw [IntKind.wrap_i64]; omega
        have kz2 : IntKind.i64.wrap ((p : Int) + (sz : Int)) = (p : Int) + (sz : Int) := by rw [IntKind.wrap_i64]; omega
        by_cases h8 : 128 ≤ o.1
        · have e8 : decide (128 ≤ o.1) = true := by simpa using h8
          have HFL : Hid ((done ++ [o]).filter big = done.filter big ++ [o]) := by show _ = _; rw [List.filter_append]; simp [big, e8]
          have hsl := fun wx => slice_lh (some ⟨b, off, none⟩) (some ⟨b, off + p, none⟩) n cap p sz (p : Int) ((p : Int) + (sz : Int)) (by rw [if_neg (by omega)]; simp [add_plain]) rfl rfl (by omega) wx
          have HRS : Hid (Row wr (some ⟨b, off + p, none⟩) (layP o)) := by
            show Row _ _ _
            have h9 := hrr.sub p sz cap (by rw [← HN.out]; omega) (by rw [← HN.out]; omega)
            rw [if_neg (by omega), hk2] at h9
            simpa [add_plain] using h9
          have HLL : Hid ((layP o).length = sz) := by show _ = _; rw [layP_len, hszo]
          have HTF : Hid ((flat (done.filter big)).length ≤ 40) := by
            show _ ≤ _
            rw [flat_len]
            exact Nat.le_trans (tot_filter big done) (by rw [← HP.out]; omega)
          have HSR := Lib.hid HRS.out.src
          clear hk0 hk1 hk2 hcell hrr h1 h8 hbo hro q1 q2 q3 q4 hsv HRS hszo
          go_wp2_with (at_builtin; refine wpList_app rfl _ _ rfl u3 (flat (done.filter big)) (layP o) rfl HO.out ⟨b, off + p, none⟩ sz (cap - p) rfl HLL.out HSR.out (by have := HTF.out; omega) ?_; refine Hid.out ?_)
          refine Lib.hid ?_
          intro v' w2 hown2 hgr hmv
          have HO2 : Hid (Owns w2 v' (flat ((done ++ [o]).filter big))) := by show Owns _ _ _; rw [HFL.out, flat_snoc']; exact hown2
          have HA2 : Hid (Away [] w w2) := HA.out.grown hgr (fun k hk => .inr (HNW.out k hk))
          have HNW2 : Hid (New w.heap.size v') := HNW.out.moved hmv HA.out.size
          clear hown2 hgr hmv hsl c0 c1
          go_wp2_with fail
          go_roundw
          case rel => exact ⟨done ++ [o], r, HD1.out, by rw [HT1.out]; go_num, HO2.out, HNW2.out, HA2.out⟩
          case measure => simp [intOf]; omega
        · have e8 : decide (128 ≤ o.1) = false := by simpa using h8
          have HFL : Hid ((done ++ [o]).filter big = done.filter big) := by show _ = _; rw [List.filter_append]; simp [big, e8]
          clear hk0 hk1 hk2 hcell hrr h1 h8 hbo hro q1 q2 q3 q4 hsv hszo
          go_wp2_with fail
          go_roundw
          case rel => exact ⟨done ++ [o], r, HD1.out, by rw [HT1.out]; go_num, by rw [HFL.out]; exact HO.out, HNW.out, HA.out⟩
          case measure => simp [intOf]; omega
end Go.Proofs.YtbnnfbfmomafnaaDoor
