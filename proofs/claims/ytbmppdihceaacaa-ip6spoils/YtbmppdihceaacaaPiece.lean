/-
  The chapter's second example: piece of the law.
-/
import Derived.Test.YtbmppdihceaacaaFit
import Derived.Test.YtbmppdihceaacaaBuild
import Derived.Test.YtbmppdihceaacaaParse
import Derived.Test.YtbmppdihceaacaaSameP
namespace Go.Proofs.Ytbmppdihceaacaa
open Go.ChangeShapes Go.WideShapes Go.ChangeAt Go.RowKit Num
set_option linter.unusedVariables false
set_option maxHeartbeats 4000000
set_option maxRecDepth 100000

def exS : List Int := [32, 1, 13, 184, 0, 0, 0, 0, 0, 0, 0, 0, 0, 0, 0, 1]
def exT : List Int := [32, 1, 13, 184, 0, 0, 0, 0, 0, 0, 0, 0, 0, 0, 0, 2]
def upTo (k : Nat) : List Int := (List.range k).map (fun i : Nat => (i : Int))
def exK (k : Nat) : Pk := ⟨6, 0, 0, 6, exS, 6, exT, 17, 64, 7, false, true, true, 8, [], upTo k⟩
def exP : Pk := exK 16
def exB : List Int := [96, 0, 0, 0, 0, 24, 44, 64, 32, 1, 13, 184, 0, 0, 0, 0, 0, 0, 0, 0, 0, 0, 0, 1, 32, 1, 13, 184, 0, 0, 0, 0, 0, 0, 0, 0, 0, 0, 0, 2, 17, 0, 0, 9, 0, 0, 0, 7, 0, 1, 2, 3, 4, 5, 6, 7, 8, 9, 10, 11, 12, 13, 14, 15]
theorem ex_right : rightP exP = true := by decide +kernel
theorem ex_lay : lay6 exP = exB := by decide +kernel
theorem ex_build : build6 exP = (exB, 0) := by rw [build_ok ex_right, ex_lay]
theorem ex_wf : Wf exP := by
  refine ⟨by simp [exP, exK, i64ok], by simp [exP, exK, i64ok], by simp [exP, exK, i64ok], by simp [exP, exK, i64ok], rfl, ?_, by simp [exP, exK, i64ok], rfl, ?_, by simp [exP, exK, i64ok], by simp [exP, exK, i64ok], by simp [exP, exK], by simp [exP, exK], by simp [exP, exK, i64ok], Bytes.nil, by simp [exP, exK], ?_, by simp [exP, exK, upTo]⟩
  · unfold Bytes exP exK exS; decide
  · unfold Bytes exP exK exT; decide
  · unfold Bytes exP exK upTo; decide
theorem ex_parse : parse6 exB = (exP, 0) := by rw [← ex_lay]; exact parse_lay6 ex_wf ex_right
theorem ex_bytes : Bytes exB := by unfold Bytes exB; decide
theorem ex_bad : parse6 (exB.set 41 1) = (zeroPk, 50) := by kernel_rfl
theorem ex_head : headP exP = 48 := by decide +kernel
theorem upTo_succ (k : Nat) : upTo (k + 1) = upTo k ++ [(k : Int)] := by simp [upTo, List.range_succ]
theorem FS.appd {w wx w1 w2 : World} {g1 g2 : Nat} {p : Pk} {ov dv v' : Value} {x : Int} (h : FS w wx g1 g2 p ov dv) (h0 : Away [] wx w1) (ho : Owns w2 v' (p.d ++ [x])) (ha : Away dv.ownBlock.toList w1 w2) (hm : Moved w1 dv v') (q : Pk) (hq : q = { p with d := p.d ++ [x] }) :
    FS w (w2.setCell ⟨g1, 45, none⟩ v') g1 g2 q ov v' := by
  subst hq
  have hs := h.aw.size; have hs0 := h0.size
  have hl1 := h.b1.lt; have hl2 := h.b2.lt
  have hk : ∀ k, v'.ownBlock = some k → k ≠ g1 ∧ k ≠ g2 := fun k hk => by
    rcases hm k hk with e | e
    · exact h.k1 k e
    · omega
  have hA : Away [] w w2 := (h.aw.next h0 (by simp)).next ha (fun y hy => .inr (by simp at hy; exact h.nd y hy))
  refine ⟨((h.b1.on h0).away ha (by simp; intro e; exact (h.k1 _ e).1 rfl)).put 45 _ ((csP_set h.ad _ _).2.2.2.2.2.2.2.2.2.2.2.2.2 _ _), ((h.b2.on h0).away ha (by simp; intro e; exact (h.k1 _ e).2 rfl)).away (away_put 45 _) (by simp; exact fun e => h.e1 e.symm), ho.away (away_put (g := g1) 45 _) (fun k hk' => by simpa using (hk k hk').1), fun k hk' => ?_, hA.setCell (.inr h.n1) _, h.n1, h.n2, h.e1, hk, h.ad⟩
  rcases hm k hk' with e | e
  · exact h.nd k e
  · omega
theorem piece_c (w : World) : Calls Try.prog 18 #[] w fun E w' => OwnOut w exP E w' := by
  go_enter Try.func18, Try.ntmps18
  go_wp2_with (refine wpList_alloc28 rfl rfl ?_; refine Hid.out ?_)
  refine Lib.hid ?_
  intro g0 w1 hg0 hb0 haw1
  have HB0 := Lib.hid hb0; have HA1 := Lib.hid haw1
  have hl0 := hb0.lt
  clear hb0 haw1
  go_wp2_with (first | (refine wpList_alloc28 rfl rfl ?_; refine Hid.out ?_))
  refine Lib.hid ?_
  intro g1 w2 hg1 hb1 haw2
  have HB1 := Lib.hid hb1; have HA2 := Lib.hid haw2
  have hl1 := hb1.lt
  clear hb1 haw2
  go_wp2_with (first | (refine wpList_store28 rfl _ _ rfl _ rfl { exK 0 with sv := 0, sb := z16, dv := 0, db := z16 } (.slice none 0 0) (.slice none 0 0) rfl zeroPk (.slice none 0 0) (.slice none 0 0) (by exact HB1.out) ⟨rfl, rfl⟩ ⟨rfl, rfl⟩ rfl rfl ?_; refine Hid.out ?_))
  refine Lib.hid ?_
  intro w3 hb3 haw3
  have hs1 := HA1.out.size; have hs2 := HA2.out.size; have hs3 := haw3.size
  have HL : Hid (FS w w3 g1 g0 { exK 0 with sv := 0, sb := z16, dv := 0, db := z16 } (.slice none 0 0) (.slice none 0 0)) :=
    ⟨hb3, (HB0.out.on HA2.out).away haw3 (by simp; omega), Owns.nil _, New.nil _, (HA1.out.next HA2.out (by simp)).next haw3 (fun x hx => .inr (by simp at hx; omega)), by omega, hg0, by omega, by simp [Value.ownBlock], ⟨rfl, rfl⟩⟩
  clear HB0 HA1 HB1 HA2 hb3 haw3 hg0 hg1 hl0 hl1 hs1 hs2 hs3
  go_wp2_with (first | (refine wpList_store24m rfl _ _ rfl _ 3 rfl 6 exS rfl _ _ _ _ (by exact HL.out.b1) HL.out.ad rfl (by omega) (csP_src HL.out.ad _ _ _ _) ?_; refine Hid.out ?_))
  refine Lib.hid ?_
  intro w4 hb4 haw4
  have HL4 : Hid (FS w w4 g1 g0 { exK 0 with dv := 0, db := z16 } (.slice none 0 0) (.slice none 0 0)) :=
    ⟨hb4, HL.out.b2.away haw4 (by simp; exact fun e => HL.out.e1 e.symm), Owns.nil _, New.nil _, HL.out.aw.next haw4 (fun x hx => .inr (by simp at hx; rw [hx]; exact HL.out.n1)), HL.out.n1, HL.out.n2, HL.out.e1, HL.out.k1, ⟨rfl, rfl⟩⟩
  clear HL hb4 haw4
  go_wp2_with (first | (refine wpList_store24m rfl _ _ rfl _ 20 rfl 6 exT rfl _ _ _ _ (by exact HL4.out.b1) HL4.out.ad rfl (by omega) (csP_dst HL4.out.ad _ _ _ _) ?_; refine Hid.out ?_))
  refine Lib.hid ?_
  intro w5 hb5 haw5
  have HL5 : Hid (FS w w5 g1 g0 (exK 0) (.slice none 0 0) (.slice none 0 0)) :=
    ⟨hb5, HL4.out.b2.away haw5 (by simp; exact fun e => HL4.out.e1 e.symm), Owns.nil _, New.nil _, HL4.out.aw.next haw5 (fun x hx => .inr (by simp at hx; rw [hx]; exact HL4.out.n1)), HL4.out.n1, HL4.out.n2, HL4.out.e1, HL4.out.k1, ⟨rfl, rfl⟩⟩
  clear HL4 hb5 haw5
  go_wp2_with fail
  go_loopw [2] (fun i wr => ∃ (k : Nat) (dv : Value), k ≤ 16 ∧ i = .int .i64 k ∧ FS w wr g1 g0 (exK k) (.slice none 0 0) dv) (fun i _ => 16 - (intOf i).toNat)
  case atStart => exact ⟨0, _, by omega, rfl, HL5.out⟩
  case round =>
    obtain ⟨k, dv, hk, rfl, hL⟩ := hrel
    have HL := Lib.hid hL
    clear hL HL5
    by_cases hlt : k < 16
    · obtain ⟨da, dc, hdv, hdc⟩ := HL.out.d.slc
      have hud : (exK k).d.length = k := by simp [exK, upTo]
      rw [hud] at hdv hdc
      subst hdv
      have hA0 := (Away.refl [] wr).alloc (.cells #[.int .u8 (k : Int)] 5)
      have c45 := ((HL.out.b1.on hA0).cells HL.out.ad).d
      have hu8 : IntKind.u8.wrap (k : Int) = k := by rw [IntKind.wrap_u8]; omega
      have HO1 := Lib.hid (HL.out.d.away hA0 (by simp))
      have c45' := (HL.out.b1.cells HL.out.ad).d
      go_wp2_with (at_builtin; refine wpList_app rfl _ _ rfl _ (exK k).d [(k : Int)] rfl (by exact HO1.out) ⟨wr.heap.size, 0, none⟩ 1 1 rfl rfl (lit_cells _ [(k : Int)] _ rfl) (by rw [hud]; omega) ?_; refine Hid.out ?_)
      refine Lib.hid ?_
      intro v' w6 hown6 hgr hmv
      have haw6 := (Away.refl (Value.ownBlock (.slice da k dc)).toList (wr.alloc (.cells #[.int .u8 (k : Int)] 5))).grown hgr (fun k hk => .inl (by simp [hk]))
      have hL6 := HL.out.appd hA0 hown6 haw6 hmv (exK (k + 1)) (by unfold exK; rw [upTo_succ])
      have HL6 := Lib.hid hL6
      have s45 := ((HL.out.b1.on hA0).away haw6 (by simp; intro e; exact (HL.out.k1 _ e).1 rfl)).cells HL.out.ad |>.d
      have t45 := ((HL.out.b1.on hA0).away haw6 (by simp; intro e; exact (HL.out.k1 _ e).1 rfl)).free 45
      obtain ⟨a', n', c', rfl⟩ := hown6.shp
      clear hL6 hown6 hgr hmv haw6 HO1 c45 c45'
      go_wp2_with fail
      go_roundw
      case rel => exact ⟨k + 1, _, by omega, by go_num, HL6.out⟩
      case measure => simp [intOf]; omega
    · obtain rfl : k = 16 := by omega
      obtain ⟨da, dc, hdv, hdc⟩ := HL.out.d.slc
      subst hdv
      have hn2 := HL.out.n2
      go_wp2_with (first
        | (refine wpList_load28 rfl _ rfl _ rfl _ _ _ (by exact HL.out.b1) HL.out.ad ?_)
        | (refine wpList_store28 rfl _ _ rfl _ rfl _ _ _ rfl zeroPk (.slice none 0 0) (.slice none 0 0) (by exact HL.out.b2) HL.out.ad ⟨rfl, rfl⟩ rfl rfl ?_; refine Hid.out ?_))
      refine Lib.hid ?_
      intro w9 hb9 haw9
      have HB9 := Lib.hid hb9
      have HA9 : Hid (Away [] w w9) := HL.out.aw.next haw9 (fun x hx => .inr (by simp at hx; omega))
      have HD9 := Lib.hid (HL.out.d.away haw9 (fun k hk => by simpa using (HL.out.k1 k hk).2))
      have HND := Lib.hid HL.out.nd
      have HAD9 := Lib.hid HL.out.ad
      clear hb9 haw9 HL
      go_wp2_with fail
      refine bodyPost_ret (result28 rfl _ _ _ _ _ _ rfl HB9.out HAD9.out) rfl ⟨_, _, rfl, ⟨Owns.nil _, HD9.out, New.nil _, HND.out, by simp [Value.ownBlock]⟩, HA9.out⟩
#print axioms piece_c
end Go.Proofs.Ytbmppdihceaacaa
