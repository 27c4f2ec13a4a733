/-
  The document's parse6.
-/
import Derived.Test.YtclfhajapohogaaDoorRTxt5
import Derived.Test.YtclfhajapohogaaDoorSix
import Derived.ArgAppend
import Derived.Laws.AppendOwnNone
namespace Go.Proofs.YtclfhajapohogaaDoor
open Go.ChangeShapes Go.WideShapes Go.ChangeAt Go.RowKit
set_option linter.unusedVariables false
set_option maxHeartbeats 4000000
set_option maxRecDepth 100000

/-- An append of numbers: where the new slice lies. -/
theorem run_appM (B : Nat) (ty : TypeId) (w : World) (v : Value) (n : Nat) (xs : List Value) (hown : w.ownsRow B 3 1 v n xs) (hB : B ≤ w.heap.size) (ad : Addr) (m c : Nat) (news : List Value) (hn : news.length = m) (hm : ∀ j u, news[j]? = some u → w.cell? (ad.add j) = some u) (h1 : ∀ u ∈ news, u.oneCell' = true) (hlen : n + m ≤ 4000000) :
    ∃ v' w', (Builtin.append_ #[79, 79] ty #[v, .slice (some ad) m c]).run Tryd.prog w = .ok v' w' ∧ w'.ownsRow B 3 1 v' (n + m) (xs ++ news) ∧ w.grownBy w' v.ownBlock ∧ ∀ k, v'.ownBlock = some k → v.ownBlock = some k ∨ w.heap.size ≤ k := by
  obtain ⟨i0, hi, hz0, hz1, hz2⟩ := info_parts info3
  rcases hown.2 with ⟨rfl, rfl⟩ | ⟨g, cap, cur, rfl, hg, hh, hnc, hcm, hcs, htake⟩
  · have hx : xs = [] := List.eq_nil_of_length_eq_zero (by simpa using hown.1)
    subst hx
    obtain ⟨v', w', hrun, r1, r2, _⟩ := run_append_own (P := Tryd.prog) w w.heap.size 79 ty 3 i0 _ 1 8 Tryd.underlying79 hi hz0 hz1 hz2 rfl (by decide) (.slice none 0 0) 0 [] (World.ownsRow_nil _ _ _ _) ad m c news (by omega) hm h1 (by unfold maxLen; omega) (by omega) (Nat.le_refl _)
    exact ⟨v', w', hrun, own_mono r1 hB, r2, fun k hk => .inr (World.ownsRow.lt r1 k hk).1⟩
  · by_cases hroom : n + m ≤ cap
    · obtain ⟨w', hrun, r1, r2⟩ := run_append_fits (P := Tryd.prog) w B 79 ty 3 i0 1 Tryd.underlying79 hi hz1 g n cap xs hown ad m c news (by omega) hm h1 hroom
      exact ⟨_, w', hrun, r1, r2, fun k hk => .inl hk⟩
    · obtain ⟨v', w', hrun, r1, r2⟩ := run_append_arg_grows (P := Tryd.prog) w 79 ty 3 i0 _ 1 8 Tryd.underlying79 hi hz0 hz1 hz2 rfl (by decide) ⟨g, 0, none⟩ n cap xs hown.1 (fun j u hu => by
          have hj : j < xs.length := (List.getElem?_eq_some_iff.1 hu).1
          rw [add_plain, Nat.zero_add, World.ownsRow.cellAt hown j (by rw [← hown.1]; exact hj)]; exact hu) ad m c news (by omega) hm (by omega) (by unfold maxLen; omega) (by omega)
      exact ⟨v', w', hrun, own_mono r1 hB, ⟨r2.os, r2.tape, r2.output, r2.size, fun k hk _ => r2.block k hk (by simp)⟩, fun k hk => .inr (World.ownsRow.lt r1 k hk).1⟩
theorem wpList_appM {w : World} {ops : Array Oper} {rest : List Oper} {o : Oper} {a : Act} {Q : Exit → Act → World → Prop} (hgd : o.guard = none) (s x : Operand)
    (ho : o.op = .call { callee := .builtin .append, args := #[s, x], argTypes := #[79, 79] }) (B : Nat) (v : Value) (n : Nat) (xs : List Value) (hs : a.eval s = v) (hown : w.ownsRow B 3 1 v n xs) (hB : B ≤ w.heap.size)
    (ad : Addr) (m c : Nat) (news : List Value) (hx : a.eval x = .slice (some ad) m c) (hn : news.length = m) (hm : ∀ j u, news[j]? = some u → w.cell? (ad.add j) = some u) (h1 : ∀ u ∈ news, u.oneCell' = true) (hlen : n + m ≤ 4000000)
    (h : ∀ v' w', w'.ownsRow B 3 1 v' (n + m) (xs ++ news) → w.grownBy w' v.ownBlock → (∀ k, v'.ownBlock = some k → v.ownBlock = some k ∨ w.heap.size ≤ k) → wpList Tryd.prog ops Q rest (a.put o.dst v') w') : wpList Tryd.prog ops Q (o :: rest) a w := by
  obtain ⟨v', w', hrun, r1, r2, r3⟩ := run_appM B o.type w v n xs hown hB ad m c news hn hm h1 hlen
  refine wpList_plain hgd fun _ hK => ?_
  unfold Oper.wp
  simp [execOp, ho, resolve, invoke, builtin, hs, hx, hrun, Result.andThen]
  exact hK _ _ (h v' w' r1 r2 r3)
theorem own_grown {w w' : World} {B n : Nat} {v : Value} {xs : List Value} {row : Option Nat} (h : w.ownsRow B 3 1 v n xs) (hg : w.grownBy w' row) (hsep : ∀ k, v.ownBlock = some k → row ≠ some k) : w'.ownsRow B 3 1 v n xs := by
  refine ⟨h.1, ?_⟩
  rcases h.2 with h2 | ⟨g, cap, cur, rfl, hb, hh, r⟩
  · exact .inl h2
  · refine .inr ⟨g, cap, cur, rfl, hb, ?_, r⟩
    have hlt : g < w.heap.size := by
      rcases Nat.lt_or_ge g w.heap.size with h' | h'
      · exact h'
      · rw [Array.getElem?_eq_none h'] at hh; simp at hh
    rw [hg.block g hlt (fun e => hsep g rfl e.symm)]
    exact hh
def lenOfV : Value → Nat
  | .slice _ n _ => n
  | _ => 0
theorem one_lit (w : World) : ∀ j u, ([.int .i64 0] : List Value)[j]? = some u → (w.alloc (.cells #[.int .i64 0] 3)).cell? ((⟨w.heap.size, 0, none⟩ : Addr).add j) = some u := by
  intro j u hj
  rcases j with _ | j
  · simp at hj
    subst hj
    rw [add_plain, Nat.zero_add, World.cell?_alloc_at (hn := rfl)]
    rfl
  · simp at hj
theorem own_src3 {w : World} {B b n c : Nat} {xs : List Value} (h : w.ownsRow B 3 1 (.slice (some ⟨b, 0, none⟩) n c) n xs) : ∀ j u, xs[j]? = some u → w.cell? ((⟨b, 0, none⟩ : Addr).add j) = some u := by
  intro j u hj
  obtain ⟨g, hg, hc⟩ := own_cell h hj
  simp only [Option.some.injEq, Addr.mk.injEq, and_true] at hg
  subst hg
  rw [add_plain, Nat.zero_add]; exact hc
theorem ints_one (gs : List Nat) : ∀ u ∈ ints gs, u.oneCell' = true := by
  intro u hu
  obtain ⟨g, _, rfl⟩ := List.mem_map.1 hu
  rfl
theorem alls_lt : ∀ (ps : List (List UInt8)) (gs : List Nat), alls (numOf 16 4) ps = some gs → ∀ g ∈ gs, g < 65536
  | [], gs, h, g, hg => by simp [alls] at h; subst h; simp at hg
  | p :: r, gs, h, g, hg => by
    simp only [alls] at h
    split at h
    · rename_i y s h1 h2
      simp only [Option.some.injEq] at h
      subst h
      rcases List.mem_cons.1 hg with rfl | hg
      · exact numOf_lt h1
      · exact alls_lt r s h2 g hg
    · simp at h
theorem grps_lt {l : List UInt8} {gs : List Nat} (h : grps l = some gs) : ∀ g ∈ gs, g < 65536 := by
  unfold grps at h
  split at h
  · simp only [Option.some.injEq] at h; subst h; simp
  · exact alls_lt _ _ h
def R6Post (r : Option (List Nat)) (w : World) (e : Ending) (w' : World) : Prop := e = .returned (.tuple #[.agg (six r), .int .i64 (errOf r.isSome)]) ∧ Below w.heap.size w w'
theorem hit_two {l : List UInt8} {k : Nat} {x y : List Nat} (h : Hit l k x y) (hk : k + 2 ≤ l.length) : (l.drop k).take 2 = [58, 58] := by
  obtain ⟨⟨t, e, _⟩, _⟩ := h
  have hl : (l.take k).length = k := by simp; omega
  have : l.drop k = 58 :: 58 :: t := by
    conv => lhs; rw [e]
    have := List.drop_left (l₁ := l.take k) (l₂ := 58 :: 58 :: t)
    rwa [hl] at this
  rw [this]; rfl
theorem two_hit {l : List UInt8} {k : Nat} (h : (l.drop k).take 2 = [58, 58]) (hk : k + 2 ≤ l.length) : ∃ t, l = l.take k ++ 58 :: 58 :: t ∧ l.drop (k + 2) = t := by
  refine ⟨l.drop (k + 2), ?_, rfl⟩
  have e1 : l.drop k = (l.drop k).take 2 ++ (l.drop k).drop 2 := (List.take_append_drop _ _).symm
  rw [h, List.drop_drop] at e1
  conv => lhs; rw [← List.take_append_drop k l, e1]
  rfl
theorem rparse6_c (l : List UInt8) (hl : l.length ≤ 1048576) (w : World) :
    Calls Tryd.prog 39 #[.string ⟨l.toArray⟩] w fun e w' => R6Post (parse6P l) w e w' := by
  obtain ⟨res, hres⟩ : ∃ r, r = parse6P l := ⟨_, rfl⟩
  rw [← hres]
  have HR : Hid (res = parse6P l) := hres
  have hsz := bsize l
  have hz3 := csA_one 0 z16
  have hz1 : (csA 0 z16).size = 17 := rfl
  have HA : Hid (∀ w1, Below (w.alloc (.cells (csA 0 z16) 24)).heap.size (w.alloc (.cells (csA 0 z16) 24)) w1 → Below w.heap.size w w1 ∧ rowAt w1 w.heap.size = some (csA 0 z16)) := Lib.hid (fun w1 h =>
    ⟨((Below.refl _ _).alloc (Nat.le_refl _) _).trans (h.mono (by simp)), rowAt_below (rowAt_new w _ 24 rfl) h (by simp)⟩)
  rw [csA_z] at hz3 hz1 HA
  have HZ : Hid (csA 0 z16 = #[.int .i64 0, .int .u8 0, .int .u8 0, .int .u8 0, .int .u8 0, .int .u8 0, .int .u8 0, .int .u8 0, .int .u8 0, .int .u8 0, .int .u8 0, .int .u8 0, .int .u8 0, .int .u8 0, .int .u8 0, .int .u8 0, .int .u8 0]) := csA_z
  have HST : Hid (∀ W c, Below w.heap.size w W → rowAt W w.heap.size = some #[.int .i64 0, .int .u8 0, .int .u8 0, .int .u8 0, .int .u8 0, .int .u8 0, .int .u8 0, .int .u8 0, .int .u8 0, .int .u8 0, .int .u8 0, .int .u8 0, .int .u8 0, .int .u8 0, .int .u8 0, .int .u8 0, .int .u8 0] → c.size = 17 → Below w.heap.size w (W.setRow w.heap.size c) ∧ rowAt (W.setRow w.heap.size c) w.heap.size = some c) := Lib.hid (fun W c hb hr hc => ⟨below_setRow hb (Nat.le_refl _) _, rowAt_setRow hr _ hc⟩)
  clear hres
  go_enter Tryd.func39, Tryd.ntmps39
  go_wp2_with fail
  refine (rgroups_c l hl _).mono ?_
  rintro E w1 ⟨hb1, v1, rfl, hnon1, hown1⟩
  obtain ⟨hbw1, d0⟩ := HA.out w1 hb1
  have hw1 : w.heap.size < w1.heap.size := rowAt_lt d0
  by_cases hfull : ∃ g, grps l = some g ∧ g.length = 8
  · obtain ⟨g, hg, hg8⟩ := hfull
    have ho := hown1 g hg
    have hlt := grps_lt hg
    obtain rfl : res = some g := by rw [HR.out]; exact grps_full hg hg8
    rw [hg]
    rw [hg8] at ho
    obtain ⟨va, vc, rfl, _, _⟩ := own_shape ho
    obtain ⟨blk, rfl, _⟩ := own_cell ho (k := 0) (u := (ints g)[0]'(by simp [ints, hg8])) (by rw [List.getElem?_eq_getElem])
    have hcell : ∀ (k x : Nat), g[k]? = some x → w1.cell? ⟨blk, k, none⟩ = some (.int .i64 (x : Int)) := fun k x hx => by
      obtain ⟨b', hb', hc⟩ := own_cell ho (k := k) (u := .int .i64 (x : Int)) (by unfold ints; rw [List.getElem?_map, hx]; rfl)
      simp only [Option.some.injEq, Addr.mk.injEq, and_true] at hb'
      rw [hb']; exact hc
    have hblt : blk < w1.heap.size := (World.ownsRow.lt ho blk rfl).2
    have HFR : Hid (Calls Tryd.prog 56 #[.slice (some ⟨blk, 0, none⟩) 8 vc] w1 fun e w' => e = .returned (.agg (csA 6 (unG g))) ∧ Below w1.heap.size w1 w') := rfrom_c blk g vc w1 hg8 hlt hblt hcell
    have hcz : (csA 6 (unG g)).size = 17 := csA_size (by rw [unG_length, hg8])
    have hco := csA_one 6 (unG g)
    generalize hcs : csA 6 (unG g) = cs at *
    have HCS : Hid (csA 6 (unG g) = cs) := hcs
    clear ho hcell hcs hown1 hnon1 hlt hg HA
    go_wp2_with fail
    refine HFR.out.mono ?_
    rintro E w2 ⟨rfl, hb2⟩
    have hbw2 : Below w.heap.size w w2 := hbw1.trans (hb2.mono (Nat.le_of_lt hw1))
    have d2 := rowAt_below d0 hb2 hw1
    have HF := Lib.hid (HST.out w2 cs hbw2 d2 hcz)
    go_wp2_with (refine wpList_store24o rfl _ _ rfl _ rfl _ _ d2 rfl hcz hco ?_)
    refine bodyPost_ret (v := .tuple #[.agg cs, .int .i64 0]) ?_ rfl ⟨by show _ = Ending.returned (.tuple #[.agg (csA 6 (unG g)), .int .i64 (errOf true)]); rw [HCS.out]; rfl, HF.out.1⟩
    exact result24t rfl _ _ _ _ _ rfl rfl HF.out.2
  · have HN8 : Hid (∀ g, grps l = some g → g.length ≠ 8) := fun g hg h8 => hfull ⟨g, hg, h8⟩
    obtain ⟨va, vn, vc, rfl, hvn⟩ : ∃ va vn vc, v1 = .slice va vn vc ∧ ((grps l).isSome = true → vn ≠ 8) := by
      cases hg : grps l with
      | none => exact ⟨none, 0, 0, hnon1 hg, fun h => by simp at h⟩
      | some g =>
        obtain ⟨va, vc, rfl, _, _⟩ := own_shape (hown1 g hg)
        exact ⟨va, g.length, vc, rfl, fun _ h8 => hfull ⟨g, hg, h8⟩⟩
    generalize (grps l).isSome = okb at *
    have HX : Hid (Below w.heap.size w w1 ∧ rowAt w1 w.heap.size = some #[.int .i64 0, .int .u8 0, .int .u8 0, .int .u8 0, .int .u8 0, .int .u8 0, .int .u8 0, .int .u8 0, .int .u8 0, .int .u8 0, .int .u8 0, .int .u8 0, .int .u8 0, .int .u8 0, .int .u8 0, .int .u8 0, .int .u8 0]) := Lib.hid ⟨hbw1, d0⟩
    have hvn' : okb = false ∨ ((vn : Int) == 8) = false := by
      cases okb
      · exact .inl rfl
      · right; have := hvn rfl; simp; omega
    clear hown1 hnon1 hfull hvn hb1 hbw1 d0 HA
    have key : ∀ (P : Prop), (okb = false → P) → (((vn : Int) == 8) = false → P) → P := fun P h1 h2 => hvn'.elim h1 h2
    obtain ⟨r2, hr2⟩ : ∃ b : Bool, b = (okb && ((vn : Int) == 8)) := ⟨_, rfl⟩
    have hrf : (okb && ((vn : Int) == 8)) = false := by rcases hvn' with h | h <;> simp [h]
    clear hr2 key
    rcases Bool.eq_false_or_eq_true okb with hok | hok
    · subst hok
      have hv8 : ((vn : Int) == 8) = false := by simpa using hrf
      go_wp2_with fail
      go_loopw [6] (fun iv wr => ∃ k : Nat, k ≤ l.length ∧ iv = .int .i64 (k : Int) ∧ Below w.heap.size w wr ∧ rowAt wr w.heap.size = some #[.int .i64 0, .int .u8 0, .int .u8 0, .int .u8 0, .int .u8 0, .int .u8 0, .int .u8 0, .int .u8 0, .int .u8 0, .int .u8 0, .int .u8 0, .int .u8 0, .int .u8 0, .int .u8 0, .int .u8 0, .int .u8 0, .int .u8 0] ∧ ∀ j, j < k → ∀ x y, ¬ Hit l j x y) (fun iv _ => l.length - (intOf iv).toNat)
      case atStart => exact ⟨0, by omega, rfl, HX.out.1, HX.out.2, fun j hj => by omega⟩
      case round =>
        obtain ⟨k, hk, rfl, hbw, d2, hno⟩ := hrel
        have HNO : Hid (∀ j, j < k → ∀ x y, ¬ Hit l j x y) := hno
        clear hno
        by_cases hk2 : k + 2 ≤ l.length
        · have hsl := slc_eq l k (k + 2) (k : Int) ((k : Int) + 2) rfl (by omega) (by omega) hk2
          rw [show k + 2 - k = 2 from by omega] at hsl
          have t1 : decide ((k : Int) + 2 ≤ (l.length : Int)) = true := by simp; omega
          have HTWO : Hid ((l.drop k).take 2 ≠ [58, 58] → ∀ x y, ¬ Hit l k x y) := fun h x y hh => h (hit_two hh hk2)
          have HTW2 : Hid ((l.drop k).take 2 = [58, 58] → ∃ t, l = l.take k ++ 58 :: 58 :: t ∧ l.drop (k + 2) = t) := fun h => two_hit h hk2
          generalize (l.drop k).take 2 = q at *
          by_cases hq : q = [58, 58]
          · subst hq
            have hslh := slc_h l k (k : Int) rfl (by omega)
            have hsll := slc_l l (k + 2) ((k : Int) + 2) (by omega) hk2
            have HG1 : Hid (∀ wx, Calls Tryd.prog 55 #[.string ⟨(l.take k).toArray⟩] wx fun e w' => RgPost (grps (l.take k)) wx e w') := fun wx => rgroups_c (l.take k) (by simp; omega) wx
            have HG2 : Hid (∀ wx, Calls Tryd.prog 55 #[.string ⟨(l.drop (k + 2)).toArray⟩] wx fun e w' => RgPost (grps (l.drop (k + 2))) wx e w') := fun wx => rgroups_c (l.drop (k + 2)) (by simp; omega) wx
            have hlt0 : w.heap.size < wr.heap.size := rowAt_lt d2
            go_wp2_with fail
            refine (HG1.out _).mono ?_
            rintro E w2 ⟨hb2, v2, rfl, hnon2, hown2⟩
            have hs2 := hb2.size
            cases hx : grps (l.take k) with
            | none =>
              obtain rfl := hnon2 hx
              have HNX : Hid (∀ j, j < k + 1 → ∀ x y, ¬ Hit l j x y) := fun j hj x y => by
                rcases Nat.lt_or_ge j k with h | h
                · exact HNO.out j h x y
                · obtain rfl : j = k := by omega
                  intro hh; have := hh.2.1; rw [hx] at this; simp at this
              rw [show (none : Option (List Nat)).isSome = false from rfl]
              clear hnon2 hown2
              go_wp2_with fail
              refine (HG2.out _).mono ?_
              rintro E w3 ⟨hb3, v3, rfl, hnon3, hown3⟩
              have hb13 : Below wr.heap.size wr w3 := hb2.trans (hb3.mono hs2)
              have HB3 : Hid (Below w.heap.size w w3 ∧ rowAt w3 w.heap.size = some #[.int .i64 0, .int .u8 0, .int .u8 0, .int .u8 0, .int .u8 0, .int .u8 0, .int .u8 0, .int .u8 0, .int .u8 0, .int .u8 0, .int .u8 0, .int .u8 0, .int .u8 0, .int .u8 0, .int .u8 0, .int .u8 0, .int .u8 0]) := Lib.hid ⟨hbw.trans (hb13.mono (Nat.le_of_lt hlt0)), rowAt_below d2 hb13 hlt0⟩
              generalize (grps (l.drop (k + 2))).isSome = ok3 at *
              clear hnon3 hown3 hb3 hb13 hb2 d2 hbw
              go_wp2_with fail
              go_roundw
              case rel => exact ⟨k + 1, by omega, by go_num, HB3.out.1, HB3.out.2, HNX.out⟩
              case measure => simp [intOf]; omega
            | some x =>
              have hox := hown2 x hx
              obtain ⟨xa, xc, rfl, _, _⟩ := own_shape hox
              rw [show (some x : Option (List Nat)).isSome = true from rfl]
              have HXL : Hid (x.length ≤ 1048577) := by
                show _ ≤ _
                have h1 := hx
                unfold grps at h1
                split at h1
                · simp only [Option.some.injEq] at h1; rw [← h1]; simp
                · have h2 := alls_length _ _ _ h1
                  have h3 := (pieces_len 58 (l.take k)).1
                  simp at h3; omega
              have hxl := HXL.out
              clear hnon2 hown2
              go_wp2_with fail
              refine (HG2.out _).mono ?_
              rintro E w3 ⟨hb3, v3, rfl, hnon3, hown3⟩
              have hs3 := hb3.size
              have hb13 : Below wr.heap.size wr w3 := hb2.trans (hb3.mono hs2)
              have HB3 : Hid (Below w.heap.size w w3 ∧ rowAt w3 w.heap.size = some #[.int .i64 0, .int .u8 0, .int .u8 0, .int .u8 0, .int .u8 0, .int .u8 0, .int .u8 0, .int .u8 0, .int .u8 0, .int .u8 0, .int .u8 0, .int .u8 0, .int .u8 0, .int .u8 0, .int .u8 0, .int .u8 0, .int .u8 0]) := Lib.hid ⟨hbw.trans (hb13.mono (Nat.le_of_lt hlt0)), rowAt_below d2 hb13 hlt0⟩
              have hox3 := own_below hox hb3
              cases hy : grps (l.drop (k + 2)) with
              | none =>
                obtain rfl := hnon3 hy
                have HNX : Hid (∀ j, j < k + 1 → ∀ x y, ¬ Hit l j x y) := fun j hj x y => by
                  rcases Nat.lt_or_ge j k with h | h
                  · exact HNO.out j h x y
                  · obtain rfl : j = k := by omega
                    intro hh; have := hh.2.2.1; rw [hy] at this; simp at this
                rw [show (none : Option (List Nat)).isSome = false from rfl]
                clear hnon3 hown3 hb3 hb13 hb2 d2 hbw hox hox3
                go_wp2_with fail
                go_roundw
                case rel => exact ⟨k + 1, by omega, by go_num, HB3.out.1, HB3.out.2, HNX.out⟩
                case measure => simp [intOf]; omega
              | some y =>
                have hoy := hown3 y hy
                obtain ⟨ya, yc, rfl, hyc, hyn⟩ := own_shape hoy
                rw [show (some y : Option (List Nat)).isSome = true from rfl]
                have hyl : y.length ≤ 1048577 := by
                  have h1 := hy
                  unfold grps at h1
                  split at h1
                  · simp only [Option.some.injEq] at h1; rw [← h1]; simp
                  · have h2 := alls_length _ _ _ h1
                    have h3 := (pieces_len 58 (l.drop (k + 2))).1
                    simp at h3; omega
                by_cases h7 : 7 < x.length + y.length
                · have h7' : (7 : Int) < (x.length : Int) + (y.length : Int) := by omega
                  have HNX : Hid (∀ j, j < k + 1 → ∀ x y, ¬ Hit l j x y) := fun j hj x' y' => by
                    rcases Nat.lt_or_ge j k with h | h
                    · exact HNO.out j h x' y'
                    · obtain rfl : j = k := by omega
                      intro hh
                      have e1 := hh.2.1; have e2 := hh.2.2.1; have e3 := hh.2.2.2
                      rw [hx] at e1; rw [hy] at e2
                      obtain rfl := Option.some.inj e1
                      obtain rfl := Option.some.inj e2
                      omega
                  clear hnon3 hown3 hb3 hb13 hb2 d2 hbw hox hox3 hoy
                  go_wp2_with fail
                  go_roundw
                  case rel => exact ⟨k + 1, by omega, by go_num, HB3.out.1, HB3.out.2, HNX.out⟩
                  case measure => simp [intOf]; omega
                · have h7' : ¬ ((7 : Int) < (x.length : Int) + (y.length : Int)) := by omega
                  obtain rfl : res = some (joinG x y) := by rw [HR.out]; exact hit_parse ⟨HTW2.out (by trivial), hx, hy, by omega⟩
                  have hxlt := grps_lt hx
                  have hylt := grps_lt hy
                  have hsep0 : ∀ q, (Value.slice xa x.length xc).ownBlock = some q → (Value.slice ya y.length yc).ownBlock ≠ some q := fun q hq e => by
                    have h1 := (World.ownsRow.lt hox q hq).2
                    have h2 := (World.ownsRow.lt hoy q e).1
                    omega
                  have HIN : Hid (w3.ownsRow wr.heap.size 3 1 (.slice xa x.length xc) (x.length + 0) (ints (x ++ List.replicate 0 0)) ∧ w3.ownsRow w2.heap.size 3 1 (.slice ya y.length yc) y.length (ints y)) := Lib.hid ⟨by simpa using hox3, hoy⟩
                  have hlen8 : (joinG x y).length = 8 := joinG_length _ _ (by omega)
                  have HJL : Hid (∀ q ∈ joinG x y, q < 65536) := fun q hq => by
                    unfold joinG at hq
                    rcases List.mem_append.1 hq with h | h
                    · exact hxlt q h
                    · rcases List.mem_append.1 h with h | h
                      · rw [List.eq_of_mem_replicate h]; omega
                      · exact hylt q h
                  have hs12 : wr.heap.size ≤ w3.heap.size := hb13.size
                  have HSEP0 : Hid (∀ q, (Value.slice xa x.length xc).ownBlock = some q → (Value.slice ya y.length yc).ownBlock ≠ some q) := hsep0
                  clear hnon3 hown3 hb3 hb13 hb2 d2 hbw hox hox3 hoy hxlt hylt hsep0 hx hy
                  generalize hB0 : wr.heap.size = B0 at *
                  generalize hC0 : w2.heap.size = C0 at *
                  clear hB0 hC0
                  go_wp2_with fail
                  go_loopw [7] (fun xv wz => ∃ j : Nat, x.length + y.length + j ≤ 8 ∧ wz.ownsRow B0 3 1 xv (x.length + j) (ints (x ++ List.replicate j 0)) ∧ wz.ownsRow C0 3 1 (.slice ya y.length yc) y.length (ints y) ∧ Below B0 w3 wz ∧ ∀ q, xv.ownBlock = some q → (Value.slice ya y.length yc).ownBlock ≠ some q) (fun xv _ => 8 - lenOfV xv)
                  case atStart => exact ⟨0, by omega, HIN.out.1, HIN.out.2, Below.refl _ _, HSEP0.out⟩
                  case round =>
                    obtain ⟨j, hj, hox, hoy, hbz, hsep⟩ := hrel
                    have hsz3 := hbz.size
                    obtain ⟨za, zc, rfl, _, _⟩ := own_shape hox
                    by_cases hlt8 : x.length + j + y.length < 8
                    · have t8 : decide ((x.length : Int) + (j : Int) + (y.length : Int) < 8) = true := by simp; omega
                      have HOX : Hid (wr.ownsRow B0 3 1 (.slice za (x.length + j) zc) (x.length + j) (ints (x ++ List.replicate j 0))) := hox
                      have HOY : Hid (wr.ownsRow C0 3 1 (.slice ya y.length yc) y.length (ints y)) := hoy
                      have HSEP : Hid (∀ q, (Value.slice za (x.length + j) zc).ownBlock = some q → (Value.slice ya y.length yc).ownBlock ≠ some q) := hsep
                      clear hox hoy hsep
                      go_wp2_with (at_builtin; refine wpList_appM rfl _ _ rfl B0 (.slice za (x.length + j) zc) (x.length + j) (ints (x ++ List.replicate j 0)) rfl (by exact own_below HOX.out ((Below.refl _ _).alloc (Nat.le_refl _) _)) (by simp; omega) ⟨_, 0, none⟩ 1 1 [.int .i64 0] rfl rfl (by exact one_lit _) (by simp; rfl) (by omega) ?_)
                      intro v' w5 ho5 hg5 hm5
                      have hy5 : w5.ownsRow C0 3 1 (.slice ya y.length yc) y.length (ints y) := own_grown (own_below HOY.out ((Below.refl _ _).alloc (Nat.le_refl _) _)) hg5 (fun q hq e => HSEP.out q e hq)
                      have hb5 : Below B0 w3 w5 := hbz.trans (((Below.refl B0 wr).alloc (by omega) _).grown hg5 (by simp; omega) (fun q hq => (World.ownsRow.lt HOX.out q hq).1))
                      have hs5 : ∀ q, v'.ownBlock = some q → (Value.slice ya y.length yc).ownBlock ≠ some q := fun q hq e => by
                        rcases hm5 q hq with h | h
                        · exact HSEP.out q h e
                        · have := (World.ownsRow.lt HOY.out q e).2
                          omega
                      have HO5 : Hid (w5.ownsRow B0 3 1 v' (x.length + (j + 1)) (ints (x ++ List.replicate (j + 1) 0))) := by
                        rw [List.replicate_succ', ← List.append_assoc, ints_snoc]; exact ho5
                      clear ho5 hg5 hm5 hbz
                      obtain ⟨va5, vc5, rfl, _, _⟩ := own_shape HO5.out
                      go_wp2_with fail
                      go_roundw
                      case rel => exact ⟨j + 1, by omega, HO5.out, hy5, hb5, hs5⟩
                      case measure => simp [lenOfV]; omega
                    · have t8 : decide ((x.length : Int) + (j : Int) + (y.length : Int) < 8) = false := by simp; omega
                      have hjj : j = 8 - (x.length + y.length) := by omega
                      have HJG : Hid (ints (joinG x y) = ints (x ++ List.replicate j 0) ++ ints y) := by
                        show _ = _
                        unfold joinG
                        rw [← hjj]; simp [ints]
                      have HN9 : Hid (x.length + j + y.length = 8) := by show _ = _; omega
                      clear hjj
                      rcases hoy.2 with ⟨e, h0⟩ | ⟨gy, capy, cur, e, hgy, _⟩
                      · have hy0 : y = [] := List.eq_nil_of_length_eq_zero h0
                        subst hy0
                        simp only [List.length_nil, Value.slice.injEq, true_and] at e
                        obtain ⟨rfl, rfl⟩ := e
                        have hxj : x.length + j = 8 := by simpa using HN9.out
                        rw [hxj] at hox ⊢
                        have HO6 : Hid (wr.ownsRow B0 3 1 (.slice za 8 zc) 8 (ints (joinG x []))) := by
                          show World.ownsRow _ _ _ _ _ _ _
                          rw [HJG.out]; simpa [ints] using hox
                        have hb6 := hbz
                        clear hox hoy hsep
                        obtain ⟨i3, hi3, _⟩ := info_parts info3
                        go_wp2_with (at_builtin; refine wpList_append_own_none (P := Tryd.prog) rfl _ _ 79 rfl B0 3 i3 1 Tryd.underlying79 hi3 (.slice za 8 zc) 8 _ rfl (by exact HO6.out) rfl ?_)
                        have HBW : Hid (Below w.heap.size w wr ∧ rowAt wr w.heap.size = some #[.int .i64 0, .int .u8 0, .int .u8 0, .int .u8 0, .int .u8 0, .int .u8 0, .int .u8 0, .int .u8 0, .int .u8 0, .int .u8 0, .int .u8 0, .int .u8 0, .int .u8 0, .int .u8 0, .int .u8 0, .int .u8 0, .int .u8 0]) := Lib.hid ⟨HB3.out.1.trans (hb6.mono (Nat.le_of_lt hlt0)), rowAt_below HB3.out.2 hb6 hlt0⟩
                        have hs6 := hb6.size
                        obtain ⟨fa, fc, hfe, _, _⟩ := own_shape HO6.out
                        obtain ⟨blk, hblk, _⟩ : ∃ blk, fa = some ⟨blk, 0, none⟩ ∧ True := by
                          have h1 := HO6.out
                          rw [hfe] at h1
                          obtain ⟨b9, hb9, _⟩ := own_cell h1 (k := 0) (u := (ints (joinG x []))[0]'(by simp [ints, hlen8])) (by rw [List.getElem?_eq_getElem])
                          exact ⟨b9, hb9, trivial⟩
                        subst hblk
                        simp only [Value.slice.injEq, true_and] at hfe
                        obtain ⟨rfl, rfl⟩ := hfe
                        have HFR : Hid (Calls Tryd.prog 56 #[.slice (some ⟨blk, 0, none⟩) 8 zc] wr fun e w' => e = .returned (.agg (csA 6 (unG (joinG x [])))) ∧ Below (wr).heap.size wr w') := rfrom_c blk (joinG x []) zc wr hlen8 HJL.out (World.ownsRow.lt HO6.out blk rfl).2 (fun q z hz => by
                          obtain ⟨b', hb', hc⟩ := own_cell HO6.out (k := q) (u := .int .i64 (z : Int)) (by unfold ints; rw [List.getElem?_map, hz]; rfl)
                          simp only [Option.some.injEq, Addr.mk.injEq, and_true] at hb'
                          rw [hb']; exact hc)
                        have hlt6 : w.heap.size < (wr).heap.size := rowAt_lt HBW.out.2
                        have hcz : (csA 6 (unG (joinG x []))).size = 17 := csA_size (by rw [unG_length, hlen8])
                        have hco := csA_one 6 (unG (joinG x []))
                        generalize hcs : csA 6 (unG (joinG x [])) = cs at *
                        have HCS : Hid (csA 6 (unG (joinG x [])) = cs) := hcs
                        clear hcs hb6
                        go_wp2_with fail
                        refine HFR.out.mono ?_
                        rintro E w7 ⟨rfl, hb7⟩
                        have hbw7 : Below w.heap.size w w7 := HBW.out.1.trans (hb7.mono (Nat.le_of_lt hlt6))
                        have d7 := rowAt_below HBW.out.2 hb7 hlt6
                        have HF := Lib.hid (HST.out w7 cs hbw7 d7 hcz)
                        go_wp2_with (refine wpList_store24o rfl _ _ rfl _ rfl _ _ d7 rfl hcz hco ?_)
                        refine bodyPost_ret (v := .tuple #[.agg cs, .int .i64 0]) ?_ rfl ⟨by show _ = Ending.returned (.tuple #[.agg (csA 6 (unG (joinG x []))), .int .i64 (errOf true)]); rw [HCS.out]; rfl, HF.out.1⟩
                        exact result24t rfl _ _ _ _ _ rfl rfl HF.out.2
                      · simp only [Value.slice.injEq, true_and] at e
                        obtain ⟨rfl, rfl⟩ := e
                        have HOX : Hid (wr.ownsRow B0 3 1 (.slice za (x.length + j) zc) (x.length + j) (ints (x ++ List.replicate j 0))) := hox
                        have HOY : Hid (wr.ownsRow C0 3 1 (.slice (some ⟨gy, 0, none⟩) y.length yc) y.length (ints y)) := hoy
                        clear hox hoy hsep
                        go_wp2_with (at_builtin; refine wpList_appM rfl _ _ rfl B0 (.slice za (x.length + j) zc) (x.length + j) (ints (x ++ List.replicate j 0)) rfl (by exact HOX.out) (by omega) ⟨gy, 0, none⟩ y.length yc (ints y) rfl (by simp [ints]) (by exact own_src3 HOY.out) (ints_one y) (by have := HN9.out; omega) ?_)
                        intro v6 w6 ho6 hg6 hm6
                        have hb6 : Below B0 w3 w6 := hbz.trans ((Below.refl B0 wr).grown hg6 (by omega) (fun q hq => (World.ownsRow.lt HOX.out q hq).1))
                        have HO6 : Hid (w6.ownsRow B0 3 1 v6 8 (ints (joinG x y))) := by
                          show World.ownsRow _ _ _ _ _ _ _
                          rw [HJG.out]; rw [HN9.out] at ho6; exact ho6
                        clear ho6 hg6 hm6 hbz
                        have HBW : Hid (Below w.heap.size w w6 ∧ rowAt w6 w.heap.size = some #[.int .i64 0, .int .u8 0, .int .u8 0, .int .u8 0, .int .u8 0, .int .u8 0, .int .u8 0, .int .u8 0, .int .u8 0, .int .u8 0, .int .u8 0, .int .u8 0, .int .u8 0, .int .u8 0, .int .u8 0, .int .u8 0, .int .u8 0]) := Lib.hid ⟨HB3.out.1.trans (hb6.mono (Nat.le_of_lt hlt0)), rowAt_below HB3.out.2 hb6 hlt0⟩
                        have hs6 := hb6.size
                        obtain ⟨fa, fc, hfe, _, _⟩ := own_shape HO6.out
                        obtain ⟨blk, hblk, _⟩ : ∃ blk, fa = some ⟨blk, 0, none⟩ ∧ True := by
                          have h1 := HO6.out
                          rw [hfe] at h1
                          obtain ⟨b9, hb9, _⟩ := own_cell h1 (k := 0) (u := (ints (joinG x y))[0]'(by simp [ints, hlen8])) (by rw [List.getElem?_eq_getElem])
                          exact ⟨b9, hb9, trivial⟩
                        subst hblk
                        subst hfe
                        have HFR : Hid (Calls Tryd.prog 56 #[.slice (some ⟨blk, 0, none⟩) 8 fc] w6 fun e w' => e = .returned (.agg (csA 6 (unG (joinG x y)))) ∧ Below (w6).heap.size w6 w') := rfrom_c blk (joinG x y) fc w6 hlen8 HJL.out (World.ownsRow.lt HO6.out blk rfl).2 (fun q z hz => by
                          obtain ⟨b', hb', hc⟩ := own_cell HO6.out (k := q) (u := .int .i64 (z : Int)) (by unfold ints; rw [List.getElem?_map, hz]; rfl)
                          simp only [Option.some.injEq, Addr.mk.injEq, and_true] at hb'
                          rw [hb']; exact hc)
                        have hlt6 : w.heap.size < (w6).heap.size := rowAt_lt HBW.out.2
                        have hcz : (csA 6 (unG (joinG x y))).size = 17 := csA_size (by rw [unG_length, hlen8])
                        have hco := csA_one 6 (unG (joinG x y))
                        generalize hcs : csA 6 (unG (joinG x y)) = cs at *
                        have HCS : Hid (csA 6 (unG (joinG x y)) = cs) := hcs
                        clear hcs hb6
                        go_wp2_with fail
                        refine HFR.out.mono ?_
                        rintro E w7 ⟨rfl, hb7⟩
                        have hbw7 : Below w.heap.size w w7 := HBW.out.1.trans (hb7.mono (Nat.le_of_lt hlt6))
                        have d7 := rowAt_below HBW.out.2 hb7 hlt6
                        have HF := Lib.hid (HST.out w7 cs hbw7 d7 hcz)
                        go_wp2_with (refine wpList_store24o rfl _ _ rfl _ rfl _ _ d7 rfl hcz hco ?_)
                        refine bodyPost_ret (v := .tuple #[.agg cs, .int .i64 0]) ?_ rfl ⟨by show _ = Ending.returned (.tuple #[.agg (csA 6 (unG (joinG x y))), .int .i64 (errOf true)]); rw [HCS.out]; rfl, HF.out.1⟩
                        exact result24t rfl _ _ _ _ _ rfl rfl HF.out.2
          · have hq1 : (q == [58, 58]) = false := by simpa using hq
            have hq2 : (q != [58, 58]) = true := by simpa using hq
            have HNX : Hid (∀ j, j < k + 1 → ∀ x y, ¬ Hit l j x y) := fun j hj x y => by
              rcases Nat.lt_or_ge j k with h | h
              · exact HNO.out j h x y
              · obtain rfl : j = k := by omega
                exact HTWO.out hq x y
            go_wp2_with fail
            go_roundw
            case rel => exact ⟨k + 1, by omega, by go_num, hbw, d2, HNX.out⟩
            case measure => simp [intOf]; omega
        · have t1 : decide ((k : Int) + 2 ≤ (l.length : Int)) = false := by simp; omega
          obtain rfl : res = none := by rw [HR.out]; exact no_hit HN8.out (fun i x y hi => HNO.out i (by omega) x y)
          have HF := Lib.hid (HST.out wr _ hbw d2 hz1)
          go_wp2_with (refine wpList_store24o rfl _ _ rfl _ rfl _ _ d2 rfl hz1 hz3 ?_)
          refine bodyPost_ret (v := .tuple #[.agg (csA 0 z16), .int .i64 30]) ?_ rfl ⟨rfl, HF.out.1⟩
          rw [HZ.out]
          exact result24t rfl _ _ _ _ _ rfl rfl HF.out.2
    · subst hok
      go_wp2_with fail
      go_loopw [6] (fun iv wr => ∃ k : Nat, k ≤ l.length ∧ iv = .int .i64 (k : Int) ∧ Below w.heap.size w wr ∧ rowAt wr w.heap.size = some #[.int .i64 0, .int .u8 0, .int .u8 0, .int .u8 0, .int .u8 0, .int .u8 0, .int .u8 0, .int .u8 0, .int .u8 0, .int .u8 0, .int .u8 0, .int .u8 0, .int .u8 0, .int .u8 0, .int .u8 0, .int .u8 0, .int .u8 0] ∧ ∀ j, j < k → ∀ x y, ¬ Hit l j x y) (fun iv _ => l.length - (intOf iv).toNat)
      case atStart => exact ⟨0, by omega, rfl, HX.out.1, HX.out.2, fun j hj => by omega⟩
      case round =>
        obtain ⟨k, hk, rfl, hbw, d2, hno⟩ := hrel
        have HNO : Hid (∀ j, j < k → ∀ x y, ¬ Hit l j x y) := hno
        clear hno
        by_cases hk2 : k + 2 ≤ l.length
        · have hsl := slc_eq l k (k + 2) (k : Int) ((k : Int) + 2) rfl (by omega) (by omega) hk2
          rw [show k + 2 - k = 2 from by omega] at hsl
          have t1 : decide ((k : Int) + 2 ≤ (l.length : Int)) = true := by simp; omega
          have HTWO : Hid ((l.drop k).take 2 ≠ [58, 58] → ∀ x y, ¬ Hit l k x y) := fun h x y hh => h (hit_two hh hk2)
          have HTW2 : Hid ((l.drop k).take 2 = [58, 58] → ∃ t, l = l.take k ++ 58 :: 58 :: t ∧ l.drop (k + 2) = t) := fun h => two_hit h hk2
          generalize (l.drop k).take 2 = q at *
          by_cases hq : q = [58, 58]
          · subst hq
            have hslh := slc_h l k (k : Int) rfl (by omega)
            have hsll := slc_l l (k + 2) ((k : Int) + 2) (by omega) hk2
            have HG1 : Hid (∀ wx, Calls Tryd.prog 55 #[.string ⟨(l.take k).toArray⟩] wx fun e w' => RgPost (grps (l.take k)) wx e w') := fun wx => rgroups_c (l.take k) (by simp; omega) wx
            have HG2 : Hid (∀ wx, Calls Tryd.prog 55 #[.string ⟨(l.drop (k + 2)).toArray⟩] wx fun e w' => RgPost (grps (l.drop (k + 2))) wx e w') := fun wx => rgroups_c (l.drop (k + 2)) (by simp; omega) wx
            have hlt0 : w.heap.size < wr.heap.size := rowAt_lt d2
            go_wp2_with fail
            refine (HG1.out _).mono ?_
            rintro E w2 ⟨hb2, v2, rfl, hnon2, hown2⟩
            have hs2 := hb2.size
            cases hx : grps (l.take k) with
            | none =>
              obtain rfl := hnon2 hx
              have HNX : Hid (∀ j, j < k + 1 → ∀ x y, ¬ Hit l j x y) := fun j hj x y => by
                rcases Nat.lt_or_ge j k with h | h
                · exact HNO.out j h x y
                · obtain rfl : j = k := by omega
                  intro hh; have := hh.2.1; rw [hx] at this; simp at this
              rw [show (none : Option (List Nat)).isSome = false from rfl]
              clear hnon2 hown2
              go_wp2_with fail
              refine (HG2.out _).mono ?_
              rintro E w3 ⟨hb3, v3, rfl, hnon3, hown3⟩
              have hb13 : Below wr.heap.size wr w3 := hb2.trans (hb3.mono hs2)
              have HB3 : Hid (Below w.heap.size w w3 ∧ rowAt w3 w.heap.size = some #[.int .i64 0, .int .u8 0, .int .u8 0, .int .u8 0, .int .u8 0, .int .u8 0, .int .u8 0, .int .u8 0, .int .u8 0, .int .u8 0, .int .u8 0, .int .u8 0, .int .u8 0, .int .u8 0, .int .u8 0, .int .u8 0, .int .u8 0]) := Lib.hid ⟨hbw.trans (hb13.mono (Nat.le_of_lt hlt0)), rowAt_below d2 hb13 hlt0⟩
              generalize (grps (l.drop (k + 2))).isSome = ok3 at *
              clear hnon3 hown3 hb3 hb13 hb2 d2 hbw
              go_wp2_with fail
              go_roundw
              case rel => exact ⟨k + 1, by omega, by go_num, HB3.out.1, HB3.out.2, HNX.out⟩
              case measure => simp [intOf]; omega
            | some x =>
              have hox := hown2 x hx
              obtain ⟨xa, xc, rfl, _, _⟩ := own_shape hox
              rw [show (some x : Option (List Nat)).isSome = true from rfl]
              have HXL : Hid (x.length ≤ 1048577) := by
                show _ ≤ _
                have h1 := hx
                unfold grps at h1
                split at h1
                · simp only [Option.some.injEq] at h1; rw [← h1]; simp
                · have h2 := alls_length _ _ _ h1
                  have h3 := (pieces_len 58 (l.take k)).1
                  simp at h3; omega
              have hxl := HXL.out
              clear hnon2 hown2
              go_wp2_with fail
              refine (HG2.out _).mono ?_
              rintro E w3 ⟨hb3, v3, rfl, hnon3, hown3⟩
              have hs3 := hb3.size
              have hb13 : Below wr.heap.size wr w3 := hb2.trans (hb3.mono hs2)
              have HB3 : Hid (Below w.heap.size w w3 ∧ rowAt w3 w.heap.size = some #[.int .i64 0, .int .u8 0, .int .u8 0, .int .u8 0, .int .u8 0, .int .u8 0, .int .u8 0, .int .u8 0, .int .u8 0, .int .u8 0, .int .u8 0, .int .u8 0, .int .u8 0, .int .u8 0, .int .u8 0, .int .u8 0, .int .u8 0]) := Lib.hid ⟨hbw.trans (hb13.mono (Nat.le_of_lt hlt0)), rowAt_below d2 hb13 hlt0⟩
              have hox3 := own_below hox hb3
              cases hy : grps (l.drop (k + 2)) with
              | none =>
                obtain rfl := hnon3 hy
                have HNX : Hid (∀ j, j < k + 1 → ∀ x y, ¬ Hit l j x y) := fun j hj x y => by
                  rcases Nat.lt_or_ge j k with h | h
                  · exact HNO.out j h x y
                  · obtain rfl : j = k := by omega
                    intro hh; have := hh.2.2.1; rw [hy] at this; simp at this
                rw [show (none : Option (List Nat)).isSome = false from rfl]
                clear hnon3 hown3 hb3 hb13 hb2 d2 hbw hox hox3
                go_wp2_with fail
                go_roundw
                case rel => exact ⟨k + 1, by omega, by go_num, HB3.out.1, HB3.out.2, HNX.out⟩
                case measure => simp [intOf]; omega
              | some y =>
                have hoy := hown3 y hy
                obtain ⟨ya, yc, rfl, hyc, hyn⟩ := own_shape hoy
                rw [show (some y : Option (List Nat)).isSome = true from rfl]
                have hyl : y.length ≤ 1048577 := by
                  have h1 := hy
                  unfold grps at h1
                  split at h1
                  · simp only [Option.some.injEq] at h1; rw [← h1]; simp
                  · have h2 := alls_length _ _ _ h1
                    have h3 := (pieces_len 58 (l.drop (k + 2))).1
                    simp at h3; omega
                by_cases h7 : 7 < x.length + y.length
                · have h7' : (7 : Int) < (x.length : Int) + (y.length : Int) := by omega
                  have HNX : Hid (∀ j, j < k + 1 → ∀ x y, ¬ Hit l j x y) := fun j hj x' y' => by
                    rcases Nat.lt_or_ge j k with h | h
                    · exact HNO.out j h x' y'
                    · obtain rfl : j = k := by omega
                      intro hh
                      have e1 := hh.2.1; have e2 := hh.2.2.1; have e3 := hh.2.2.2
                      rw [hx] at e1; rw [hy] at e2
                      obtain rfl := Option.some.inj e1
                      obtain rfl := Option.some.inj e2
                      omega
                  clear hnon3 hown3 hb3 hb13 hb2 d2 hbw hox hox3 hoy
                  go_wp2_with fail
                  go_roundw
                  case rel => exact ⟨k + 1, by omega, by go_num, HB3.out.1, HB3.out.2, HNX.out⟩
                  case measure => simp [intOf]; omega
                · have h7' : ¬ ((7 : Int) < (x.length : Int) + (y.length : Int)) := by omega
                  obtain rfl : res = some (joinG x y) := by rw [HR.out]; exact hit_parse ⟨HTW2.out (by trivial), hx, hy, by omega⟩
                  have hxlt := grps_lt hx
                  have hylt := grps_lt hy
                  have hsep0 : ∀ q, (Value.slice xa x.length xc).ownBlock = some q → (Value.slice ya y.length yc).ownBlock ≠ some q := fun q hq e => by
                    have h1 := (World.ownsRow.lt hox q hq).2
                    have h2 := (World.ownsRow.lt hoy q e).1
                    omega
                  have HIN : Hid (w3.ownsRow wr.heap.size 3 1 (.slice xa x.length xc) (x.length + 0) (ints (x ++ List.replicate 0 0)) ∧ w3.ownsRow w2.heap.size 3 1 (.slice ya y.length yc) y.length (ints y)) := Lib.hid ⟨by simpa using hox3, hoy⟩
                  have hlen8 : (joinG x y).length = 8 := joinG_length _ _ (by omega)
                  have HJL : Hid (∀ q ∈ joinG x y, q < 65536) := fun q hq => by
                    unfold joinG at hq
                    rcases List.mem_append.1 hq with h | h
                    · exact hxlt q h
                    · rcases List.mem_append.1 h with h | h
                      · rw [List.eq_of_mem_replicate h]; omega
                      · exact hylt q h
                  have hs12 : wr.heap.size ≤ w3.heap.size := hb13.size
                  have HSEP0 : Hid (∀ q, (Value.slice xa x.length xc).ownBlock = some q → (Value.slice ya y.length yc).ownBlock ≠ some q) := hsep0
                  clear hnon3 hown3 hb3 hb13 hb2 d2 hbw hox hox3 hoy hxlt hylt hsep0 hx hy
                  generalize hB0 : wr.heap.size = B0 at *
                  generalize hC0 : w2.heap.size = C0 at *
                  clear hB0 hC0
                  go_wp2_with fail
                  go_loopw [7] (fun xv wz => ∃ j : Nat, x.length + y.length + j ≤ 8 ∧ wz.ownsRow B0 3 1 xv (x.length + j) (ints (x ++ List.replicate j 0)) ∧ wz.ownsRow C0 3 1 (.slice ya y.length yc) y.length (ints y) ∧ Below B0 w3 wz ∧ ∀ q, xv.ownBlock = some q → (Value.slice ya y.length yc).ownBlock ≠ some q) (fun xv _ => 8 - lenOfV xv)
                  case atStart => exact ⟨0, by omega, HIN.out.1, HIN.out.2, Below.refl _ _, HSEP0.out⟩
                  case round =>
                    obtain ⟨j, hj, hox, hoy, hbz, hsep⟩ := hrel
                    have hsz3 := hbz.size
                    obtain ⟨za, zc, rfl, _, _⟩ := own_shape hox
                    by_cases hlt8 : x.length + j + y.length < 8
                    · have t8 : decide ((x.length : Int) + (j : Int) + (y.length : Int) < 8) = true := by simp; omega
                      have HOX : Hid (wr.ownsRow B0 3 1 (.slice za (x.length + j) zc) (x.length + j) (ints (x ++ List.replicate j 0))) := hox
                      have HOY : Hid (wr.ownsRow C0 3 1 (.slice ya y.length yc) y.length (ints y)) := hoy
                      have HSEP : Hid (∀ q, (Value.slice za (x.length + j) zc).ownBlock = some q → (Value.slice ya y.length yc).ownBlock ≠ some q) := hsep
                      clear hox hoy hsep
                      go_wp2_with (at_builtin; refine wpList_appM rfl _ _ rfl B0 (.slice za (x.length + j) zc) (x.length + j) (ints (x ++ List.replicate j 0)) rfl (by exact own_below HOX.out ((Below.refl _ _).alloc (Nat.le_refl _) _)) (by simp; omega) ⟨_, 0, none⟩ 1 1 [.int .i64 0] rfl rfl (by exact one_lit _) (by simp; rfl) (by omega) ?_)
                      intro v' w5 ho5 hg5 hm5
                      have hy5 : w5.ownsRow C0 3 1 (.slice ya y.length yc) y.length (ints y) := own_grown (own_below HOY.out ((Below.refl _ _).alloc (Nat.le_refl _) _)) hg5 (fun q hq e => HSEP.out q e hq)
                      have hb5 : Below B0 w3 w5 := hbz.trans (((Below.refl B0 wr).alloc (by omega) _).grown hg5 (by simp; omega) (fun q hq => (World.ownsRow.lt HOX.out q hq).1))
                      have hs5 : ∀ q, v'.ownBlock = some q → (Value.slice ya y.length yc).ownBlock ≠ some q := fun q hq e => by
                        rcases hm5 q hq with h | h
                        · exact HSEP.out q h e
                        · have := (World.ownsRow.lt HOY.out q e).2
                          omega
                      have HO5 : Hid (w5.ownsRow B0 3 1 v' (x.length + (j + 1)) (ints (x ++ List.replicate (j + 1) 0))) := by
                        rw [List.replicate_succ', ← List.append_assoc, ints_snoc]; exact ho5
                      clear ho5 hg5 hm5 hbz
                      obtain ⟨va5, vc5, rfl, _, _⟩ := own_shape HO5.out
                      go_wp2_with fail
                      go_roundw
                      case rel => exact ⟨j + 1, by omega, HO5.out, hy5, hb5, hs5⟩
                      case measure => simp [lenOfV]; omega
                    · have t8 : decide ((x.length : Int) + (j : Int) + (y.length : Int) < 8) = false := by simp; omega
                      have hjj : j = 8 - (x.length + y.length) := by omega
                      have HJG : Hid (ints (joinG x y) = ints (x ++ List.replicate j 0) ++ ints y) := by
                        show _ = _
                        unfold joinG
                        rw [← hjj]; simp [ints]
                      have HN9 : Hid (x.length + j + y.length = 8) := by show _ = _; omega
                      clear hjj
                      rcases hoy.2 with ⟨e, h0⟩ | ⟨gy, capy, cur, e, hgy, _⟩
                      · have hy0 : y = [] := List.eq_nil_of_length_eq_zero h0
                        subst hy0
                        simp only [List.length_nil, Value.slice.injEq, true_and] at e
                        obtain ⟨rfl, rfl⟩ := e
                        have hxj : x.length + j = 8 := by simpa using HN9.out
                        rw [hxj] at hox ⊢
                        have HO6 : Hid (wr.ownsRow B0 3 1 (.slice za 8 zc) 8 (ints (joinG x []))) := by
                          show World.ownsRow _ _ _ _ _ _ _
                          rw [HJG.out]; simpa [ints] using hox
                        have hb6 := hbz
                        clear hox hoy hsep
                        obtain ⟨i3, hi3, _⟩ := info_parts info3
                        go_wp2_with (at_builtin; refine wpList_append_own_none (P := Tryd.prog) rfl _ _ 79 rfl B0 3 i3 1 Tryd.underlying79 hi3 (.slice za 8 zc) 8 _ rfl (by exact HO6.out) rfl ?_)
                        have HBW : Hid (Below w.heap.size w wr ∧ rowAt wr w.heap.size = some #[.int .i64 0, .int .u8 0, .int .u8 0, .int .u8 0, .int .u8 0, .int .u8 0, .int .u8 0, .int .u8 0, .int .u8 0, .int .u8 0, .int .u8 0, .int .u8 0, .int .u8 0, .int .u8 0, .int .u8 0, .int .u8 0, .int .u8 0]) := Lib.hid ⟨HB3.out.1.trans (hb6.mono (Nat.le_of_lt hlt0)), rowAt_below HB3.out.2 hb6 hlt0⟩
                        have hs6 := hb6.size
                        obtain ⟨fa, fc, hfe, _, _⟩ := own_shape HO6.out
                        obtain ⟨blk, hblk, _⟩ : ∃ blk, fa = some ⟨blk, 0, none⟩ ∧ True := by
                          have h1 := HO6.out
                          rw [hfe] at h1
                          obtain ⟨b9, hb9, _⟩ := own_cell h1 (k := 0) (u := (ints (joinG x []))[0]'(by simp [ints, hlen8])) (by rw [List.getElem?_eq_getElem])
                          exact ⟨b9, hb9, trivial⟩
                        subst hblk
                        simp only [Value.slice.injEq, true_and] at hfe
                        obtain ⟨rfl, rfl⟩ := hfe
                        have HFR : Hid (Calls Tryd.prog 56 #[.slice (some ⟨blk, 0, none⟩) 8 zc] wr fun e w' => e = .returned (.agg (csA 6 (unG (joinG x [])))) ∧ Below (wr).heap.size wr w') := rfrom_c blk (joinG x []) zc wr hlen8 HJL.out (World.ownsRow.lt HO6.out blk rfl).2 (fun q z hz => by
                          obtain ⟨b', hb', hc⟩ := own_cell HO6.out (k := q) (u := .int .i64 (z : Int)) (by unfold ints; rw [List.getElem?_map, hz]; rfl)
                          simp only [Option.some.injEq, Addr.mk.injEq, and_true] at hb'
                          rw [hb']; exact hc)
                        have hlt6 : w.heap.size < (wr).heap.size := rowAt_lt HBW.out.2
                        have hcz : (csA 6 (unG (joinG x []))).size = 17 := csA_size (by rw [unG_length, hlen8])
                        have hco := csA_one 6 (unG (joinG x []))
                        generalize hcs : csA 6 (unG (joinG x [])) = cs at *
                        have HCS : Hid (csA 6 (unG (joinG x [])) = cs) := hcs
                        clear hcs hb6
                        go_wp2_with fail
                        refine HFR.out.mono ?_
                        rintro E w7 ⟨rfl, hb7⟩
                        have hbw7 : Below w.heap.size w w7 := HBW.out.1.trans (hb7.mono (Nat.le_of_lt hlt6))
                        have d7 := rowAt_below HBW.out.2 hb7 hlt6
                        have HF := Lib.hid (HST.out w7 cs hbw7 d7 hcz)
                        go_wp2_with (refine wpList_store24o rfl _ _ rfl _ rfl _ _ d7 rfl hcz hco ?_)
                        refine bodyPost_ret (v := .tuple #[.agg cs, .int .i64 0]) ?_ rfl ⟨by show _ = Ending.returned (.tuple #[.agg (csA 6 (unG (joinG x []))), .int .i64 (errOf true)]); rw [HCS.out]; rfl, HF.out.1⟩
                        exact result24t rfl _ _ _ _ _ rfl rfl HF.out.2
                      · simp only [Value.slice.injEq, true_and] at e
                        obtain ⟨rfl, rfl⟩ := e
                        have HOX : Hid (wr.ownsRow B0 3 1 (.slice za (x.length + j) zc) (x.length + j) (ints (x ++ List.replicate j 0))) := hox
                        have HOY : Hid (wr.ownsRow C0 3 1 (.slice (some ⟨gy, 0, none⟩) y.length yc) y.length (ints y)) := hoy
                        clear hox hoy hsep
                        go_wp2_with (at_builtin; refine wpList_appM rfl _ _ rfl B0 (.slice za (x.length + j) zc) (x.length + j) (ints (x ++ List.replicate j 0)) rfl (by exact HOX.out) (by omega) ⟨gy, 0, none⟩ y.length yc (ints y) rfl (by simp [ints]) (by exact own_src3 HOY.out) (ints_one y) (by have := HN9.out; omega) ?_)
                        intro v6 w6 ho6 hg6 hm6
                        have hb6 : Below B0 w3 w6 := hbz.trans ((Below.refl B0 wr).grown hg6 (by omega) (fun q hq => (World.ownsRow.lt HOX.out q hq).1))
                        have HO6 : Hid (w6.ownsRow B0 3 1 v6 8 (ints (joinG x y))) := by
                          show World.ownsRow _ _ _ _ _ _ _
                          rw [HJG.out]; rw [HN9.out] at ho6; exact ho6
                        clear ho6 hg6 hm6 hbz
                        have HBW : Hid (Below w.heap.size w w6 ∧ rowAt w6 w.heap.size = some #[.int .i64 0, .int .u8 0, .int .u8 0, .int .u8 0, .int .u8 0, .int .u8 0, .int .u8 0, .int .u8 0, .int .u8 0, .int .u8 0, .int .u8 0, .int .u8 0, .int .u8 0, .int .u8 0, .int .u8 0, .int .u8 0, .int .u8 0]) := Lib.hid ⟨HB3.out.1.trans (hb6.mono (Nat.le_of_lt hlt0)), rowAt_below HB3.out.2 hb6 hlt0⟩
                        have hs6 := hb6.size
                        obtain ⟨fa, fc, hfe, _, _⟩ := own_shape HO6.out
                        obtain ⟨blk, hblk, _⟩ : ∃ blk, fa = some ⟨blk, 0, none⟩ ∧ True := by
                          have h1 := HO6.out
                          rw [hfe] at h1
                          obtain ⟨b9, hb9, _⟩ := own_cell h1 (k := 0) (u := (ints (joinG x y))[0]'(by simp [ints, hlen8])) (by rw [List.getElem?_eq_getElem])
                          exact ⟨b9, hb9, trivial⟩
                        subst hblk
                        subst hfe
                        have HFR : Hid (Calls Tryd.prog 56 #[.slice (some ⟨blk, 0, none⟩) 8 fc] w6 fun e w' => e = .returned (.agg (csA 6 (unG (joinG x y)))) ∧ Below (w6).heap.size w6 w') := rfrom_c blk (joinG x y) fc w6 hlen8 HJL.out (World.ownsRow.lt HO6.out blk rfl).2 (fun q z hz => by
                          obtain ⟨b', hb', hc⟩ := own_cell HO6.out (k := q) (u := .int .i64 (z : Int)) (by unfold ints; rw [List.getElem?_map, hz]; rfl)
                          simp only [Option.some.injEq, Addr.mk.injEq, and_true] at hb'
                          rw [hb']; exact hc)
                        have hlt6 : w.heap.size < (w6).heap.size := rowAt_lt HBW.out.2
                        have hcz : (csA 6 (unG (joinG x y))).size = 17 := csA_size (by rw [unG_length, hlen8])
                        have hco := csA_one 6 (unG (joinG x y))
                        generalize hcs : csA 6 (unG (joinG x y)) = cs at *
                        have HCS : Hid (csA 6 (unG (joinG x y)) = cs) := hcs
                        clear hcs hb6
                        go_wp2_with fail
                        refine HFR.out.mono ?_
                        rintro E w7 ⟨rfl, hb7⟩
                        have hbw7 : Below w.heap.size w w7 := HBW.out.1.trans (hb7.mono (Nat.le_of_lt hlt6))
                        have d7 := rowAt_below HBW.out.2 hb7 hlt6
                        have HF := Lib.hid (HST.out w7 cs hbw7 d7 hcz)
                        go_wp2_with (refine wpList_store24o rfl _ _ rfl _ rfl _ _ d7 rfl hcz hco ?_)
                        refine bodyPost_ret (v := .tuple #[.agg cs, .int .i64 0]) ?_ rfl ⟨by show _ = Ending.returned (.tuple #[.agg (csA 6 (unG (joinG x y))), .int .i64 (errOf true)]); rw [HCS.out]; rfl, HF.out.1⟩
                        exact result24t rfl _ _ _ _ _ rfl rfl HF.out.2
          · have hq1 : (q == [58, 58]) = false := by simpa using hq
            have hq2 : (q != [58, 58]) = true := by simpa using hq
            have HNX : Hid (∀ j, j < k + 1 → ∀ x y, ¬ Hit l j x y) := fun j hj x y => by
              rcases Nat.lt_or_ge j k with h | h
              · exact HNO.out j h x y
              · obtain rfl : j = k := by omega
                exact HTWO.out hq x y
            go_wp2_with fail
            go_roundw
            case rel => exact ⟨k + 1, by omega, by go_num, hbw, d2, HNX.out⟩
            case measure => simp [intOf]; omega
        · have t1 : decide ((k : Int) + 2 ≤ (l.length : Int)) = false := by simp; omega
          obtain rfl : res = none := by rw [HR.out]; exact no_hit HN8.out (fun i x y hi => HNO.out i (by omega) x y)
          have HF := Lib.hid (HST.out wr _ hbw d2 hz1)
          go_wp2_with (refine wpList_store24o rfl _ _ rfl _ rfl _ _ d2 rfl hz1 hz3 ?_)
          refine bodyPost_ret (v := .tuple #[.agg (csA 0 z16), .int .i64 30]) ?_ rfl ⟨rfl, HF.out.1⟩
          rw [HZ.out]
          exact result24t rfl _ _ _ _ _ rfl rfl HF.out.2
#print axioms rparse6_c
end Go.Proofs.YtclfhajapohogaaDoor
