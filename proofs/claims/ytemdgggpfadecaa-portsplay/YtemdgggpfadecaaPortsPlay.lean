/-
  PortsPlay.
-/
import Derived.Test.YtemdgggpfadecaaRc
namespace Go.Proofs.Ytemdgggpfadecaa
open Go.ChangeShapes Go.WideShapes Go.ChangeAt Go.RowKit
set_option linter.unusedVariables false
set_option linter.unusedSimpArgs false
set_option maxRecDepth 100000

theorem and_one (n : Int) : bits .and .i64 n 1 = 0 ∨ bits .and .i64 n 1 = 1 := by
  have e : bits .and .i64 n 1 = IntKind.i64.wrap ((BitVec.ofInt 64 n &&& BitVec.ofInt 64 1).toNat : Nat) := rfl
  have h : (BitVec.ofInt 64 n &&& BitVec.ofInt 64 1).toNat ≤ 1 := by
    rw [BitVec.toNat_and]
    exact Nat.le_trans Nat.and_le_right (by decide)
  rw [e, IntKind.wrap_i64]
  omega
theorem info35 : (Try.prog.info? 35).map (·.size) = some 20 := by kernel_rfl
theorem load35m_run {w : World} {g k : Nat} {x : Opr} (hc : w.rangeAt g k (listO x)) (hx : OkO x) : (Instr.loadAt 35 (.pointer (some ⟨g, k, none⟩))).run Try.prog w = .ok (.agg (csO x)) w := by
  have := run_loadVar_mid (P := Try.prog) w g k 35 (listO x) _ hc Try.underlying35 rfl (by rw [show (listO x).length = 20 from by simp [listO, cellsA, hx.2.2.2.2.1]]; exact info35)
  simp only [Instr.loadAt, Instr.sureAddr, Sem.run_bind, Sem.run_pure, Result.andThen]
  rw [this]; rfl
theorem ld24 {w : World} {ad : Addr} {p : Option Addr} (h : w.cell? ad = some (.pointer p)) : (Instr.loadAt 24 (.pointer (some ad))).run Try.prog w = .ok (.pointer p) w := by
  simp [go_sem, Instr.loadAt, Instr.sureAddr, h]
theorem ld53 {w : World} {ad : Addr} {p : Option Addr} (h : w.cell? ad = some (.pointer p)) : (Instr.loadAt 53 (.pointer (some ad))).run Try.prog w = .ok (.pointer p) w := by
  simp [go_sem, Instr.loadAt, Instr.sureAddr, h]
/-- A table, and the document's beside it; or neither. -/
def Pair (o : Nat → Nat) (a b : Nat) (w : World) (p r : Option Addr) (L : Int) : Prop := (p = none ∧ r = none) ∨ ∃ gp gr t, p = some ⟨gp, 0, none⟩ ∧ r = some ⟨gr, 0, none⟩ ∧ KB.Ow o a w gp t ∧ KS.Ow o b w gr t ∧ t.last ≤ L
theorem Pair.mono {o : Nat → Nat} {a b : Nat} {w : World} {p r : Option Addr} {L M : Int} (h : Pair o a b w p r L) (hL : L ≤ M) : Pair o a b w p r M := by
  rcases h with h | ⟨gp, gr, t, h1, h2, h3, h4, h5⟩
  · exact .inl h
  · exact .inr ⟨gp, gr, t, h1, h2, h3, h4, by omega⟩
theorem Pair.on {o : Nat → Nat} {a b : Nat} {w w' : World} {p r : Option Addr} {L : Int} (h : Pair o a b w p r L) (hw : Away [] w w') : Pair o a b w' p r L := by
  rcases h with h | ⟨gp, gr, t, h1, h2, h3, h4, h5⟩
  · exact .inl h
  · exact .inr ⟨gp, gr, t, h1, h2, h3.on hw, h4.on hw, h5⟩
theorem Pair.give {o : Nat → Nat} {a b : Nat} {w w' : World} {p r : Option Addr} {L : Int} (h : Pair o a b w p r L) (j : Nat) (hw : Away [] w w') : Pair (Ytemdgggpfadecaa.give o w j) a b w' p r L := by
  rcases h with h | ⟨gp, gr, t, h1, h2, h3, h4, h5⟩
  · exact .inl h
  · exact .inr ⟨gp, gr, t, h1, h2, h3.give j hw, h4.give j hw, h5⟩
theorem Pair.kp {o : Nat → Nat} {a b k : Nat} {w w' : World} {p r : Option Addr} {L : Int} (h : Pair o a b w p r L) (hc : Chg o k w w') (ha : a ≠ k) (hb : b ≠ k) : Pair o a b w' p r L := by
  rcases h with h | ⟨gp, gr, t, h1, h2, h3, h4, h5⟩
  · exact .inl h
  · exact .inr ⟨gp, gr, t, h1, h2, h3.kp hc ha, h4.kp hc hb, h5⟩
theorem Pair.stp {o o' : Nat → Nat} {a b c d : Nat} {w w' : World} {p r : Option Addr} {L : Int} (h : Pair o c d w p r L) (hs : Stp2 o a b w o' w') (h1 : c ≠ a) (h2 : c ≠ b) (h3 : d ≠ a) (h4 : d ≠ b) : Pair o' c d w' p r L := by
  rcases h with h | ⟨gp, gr, t, e1, e2, e3, e4, e5⟩
  · exact .inl h
  · exact .inr ⟨gp, gr, t, e1, e2, e3.stp hs h1 h2, e4.stp hs h3 h4, e5⟩
theorem Stp2.keep {o o' : Nat → Nat} {a b c g : Nat} {w w' : World} {x : Obj} (hs : Stp2 o a b w o' w') (hb : w.heap[g]? = some x) (hg : o g = c) (ha : c ≠ a) (hb2 : c ≠ b) : w'.heap[g]? = some x ∧ o' g = c := by
  obtain ⟨S, h4, h5, h6⟩ := hs
  have hlt := lt_of_block hb
  refine ⟨h4.keep (fun hm => ?_) hb, by rw [h6 g hlt]; exact hg⟩
  rcases h5 g hm hlt with h7 | h7 <;> omega
/-- The three arrays. -/
structure Arr (o : Nat → Nat) (w : World) (g8 g9 : Nat) (p0 p1 r0 r1 : Option Addr) : Prop where
  b8 : w.heap[g8]? = some (.cells #[.pointer p0, .pointer p1] 52 (0, 0))
  b9 : w.heap[g9]? = some (.cells #[.pointer r0, .pointer r1] 54 (0, 0))
  o8 : o g8 = 9
  o9 : o g9 = 9
theorem Arr.on {o : Nat → Nat} {w w' : World} {g8 g9 : Nat} {p0 p1 r0 r1 : Option Addr} (h : Arr o w g8 g9 p0 p1 r0 r1) (hw : Away [] w w') : Arr o w' g8 g9 p0 p1 r0 r1 := ⟨hw.keep (by simp) h.b8, hw.keep (by simp) h.b9, h.o8, h.o9⟩
theorem Arr.give {o : Nat → Nat} {w w' : World} {g8 g9 : Nat} {p0 p1 r0 r1 : Option Addr} (h : Arr o w g8 g9 p0 p1 r0 r1) (j : Nat) (hw : Away [] w w') : Arr (Ytemdgggpfadecaa.give o w j) w' g8 g9 p0 p1 r0 r1 :=
  ⟨hw.keep (by simp) h.b8, hw.keep (by simp) h.b9, by rw [give_old (lt_of_block h.b8)]; exact h.o8, by rw [give_old (lt_of_block h.b9)]; exact h.o9⟩
theorem Arr.stp {o o' : Nat → Nat} {a b : Nat} {w w' : World} {g8 g9 : Nat} {p0 p1 r0 r1 : Option Addr} (h : Arr o w g8 g9 p0 p1 r0 r1) (hs : Stp2 o a b w o' w') (ha : 9 ≠ a) (hb : 9 ≠ b) : Arr o' w' g8 g9 p0 p1 r0 r1 := by
  obtain ⟨h1, h2⟩ := hs.keep h.b8 h.o8 ha hb
  obtain ⟨h3, h4⟩ := hs.keep h.b9 h.o9 ha hb
  exact ⟨h1, h3, h2, h4⟩
theorem new_z (m : Int) (w : World) (o : Nat → Nat) (a : Nat) : Calls Try.prog 8 #[.int .i64 m] w fun E w' => ∃ p e, E = .returned (.tuple #[.pointer p, .int .i64 e]) ∧ Away [] w w' ∧ ((¬ (1 ≤ m ∧ m ≤ 32) ∧ p = none ∧ e = 1) ∨ ((1 ≤ m ∧ m ≤ 32) ∧ e = 0 ∧ ∃ g, p = some ⟨g, 0, none⟩ ∧ KB.Ow (give o w a) a w' g ⟨m, 0, []⟩)) := by
  refine (new_c m w).mono ?_
  rintro E w' (⟨h2, rfl, ha⟩ | ⟨hm, g, rfl, hg, ht, ha⟩)
  · exact ⟨none, 1, rfl, ha, .inl ⟨by omega, rfl, rfl⟩⟩
  · exact ⟨_, 0, rfl, ha, .inr ⟨hm, rfl, g, rfl, _, ht, give_new hg, by simp [Value.ownBlock]⟩⟩
theorem rnew_z (m : Int) (w : World) (o : Nat → Nat) (a : Nat) : Calls Try.prog 19 #[.int .i64 m] w fun E w' => ∃ p e, E = .returned (.tuple #[.pointer p, .int .i64 e]) ∧ Away [] w w' ∧ ((¬ (1 ≤ m ∧ m ≤ 32) ∧ p = none ∧ e = 1) ∨ ((1 ≤ m ∧ m ≤ 32) ∧ e = 0 ∧ ∃ g, p = some ⟨g, 0, none⟩ ∧ KS.Ow (give o w a) a w' g ⟨m, 0, []⟩)) := by
  refine (rnew_c m w).mono ?_
  rintro E w' (⟨h2, rfl, ha⟩ | ⟨hm, g, rfl, hg, ht, ha⟩)
  · exact ⟨none, 1, rfl, ha, .inl ⟨by omega, rfl, rfl⟩⟩
  · exact ⟨_, 0, rfl, ha, .inr ⟨hm, rfl, g, rfl, _, ht, give_new hg, by simp [Value.ownBlock]⟩⟩
theorem Pair.made {o : Nat → Nat} {a b : Nat} {w w1 w2 : World} {m e f : Int} {p r : Option Addr} (hp : (¬ (1 ≤ m ∧ m ≤ 32) ∧ p = none ∧ e = 1) ∨ ((1 ≤ m ∧ m ≤ 32) ∧ e = 0 ∧ ∃ g, p = some ⟨g, 0, none⟩ ∧ KB.Ow (Ytemdgggpfadecaa.give o w a) a w1 g ⟨m, 0, []⟩))
    (hr : (¬ (1 ≤ m ∧ m ≤ 32) ∧ r = none ∧ f = 1) ∨ ((1 ≤ m ∧ m ≤ 32) ∧ f = 0 ∧ ∃ g, r = some ⟨g, 0, none⟩ ∧ KS.Ow (Ytemdgggpfadecaa.give (Ytemdgggpfadecaa.give o w a) w1 b) b w2 g ⟨m, 0, []⟩)) (h2 : Away [] w1 w2) :
    e = f ∧ (p = none ↔ r = none) ∧ Pair (Ytemdgggpfadecaa.give (Ytemdgggpfadecaa.give o w a) w1 b) a b w2 p r 0 := by
  rcases hp with ⟨h3, rfl, rfl⟩ | ⟨h3, rfl, gp, rfl, hop⟩
  · rcases hr with ⟨h4, rfl, rfl⟩ | ⟨h4, -⟩
    · exact ⟨rfl, by simp, .inl ⟨rfl, rfl⟩⟩
    · exact absurd h4 h3
  · rcases hr with ⟨h4, -⟩ | ⟨h4, rfl, gr, rfl, hor⟩
    · exact absurd h3 h4
    · exact ⟨rfl, by simp, .inr ⟨gp, gr, _, rfl, rfl, hop.give b h2, hor, Int.le_refl _⟩⟩
set_option maxHeartbeats 32000000 in
theorem walk (one two : Int) (sa : Option Addr) (l : List Opr) (cap : Nat) (W : World) (hr : RowO W sa l) (hl : l.length ≤ 2932031007402) :
    Calls Try.prog 6 #[.int .i64 one, .int .i64 two, .slice sa l.length cap] W fun E w' => E = .returned (.bool true) ∧ Below W.heap.size W w' := by
  have HR := Lib.hid hr
  obtain ⟨n, hn⟩ : ∃ n, n = l.length := ⟨_, rfl⟩
  rw [← hn] at hl ⊢
  have HN := Lib.hid hn
  clear hn hr
  go_enter Try.func6, Try.ntmps6
  go_wp2_with fail
  refine (alive_c _).mono ?_
  rintro E w0 ⟨rfl, haw⟩
  have HU0 := Lib.hid ((Out.start W).on haw)
  clear haw
  go_wp2_with fail
  obtain ⟨g9, hg9⟩ : ∃ z, z = w0.heap.size + 1 + 1 := ⟨_, rfl⟩
  obtain ⟨g8, hg8⟩ : ∃ z, z = w0.heap.size + 1 := ⟨_, rfl⟩
  obtain ⟨g7, hg7⟩ : ∃ z, z = w0.heap.size := ⟨_, rfl⟩
  have haw1 : Away [] w0 (((w0.alloc (.cells #[.int .i64 one, .int .i64 two] 51)).alloc (.cells #[.pointer none, .pointer none] 52)).alloc (.cells #[.pointer none, .pointer none] 54)) := (((Away.refl [] w0).alloc _).alloc _).alloc _
  have HU := Lib.hid (HU0.out.give 9 haw1)
  have HB7 : Hid ((((w0.alloc (.cells #[.int .i64 one, .int .i64 two] 51)).alloc (.cells #[.pointer none, .pointer none] 52)).alloc (.cells #[.pointer none, .pointer none] 54)).heap[g7]? = some (.cells #[.int .i64 one, .int .i64 two] 51 (0, 0))) := by
    show _ = _
    rw [hg7, Below.heap_alloc _ _ _ (by simp; omega), Below.heap_alloc _ _ _ (by simp)]
    exact block_new _ _
  have HB8 : Hid ((((w0.alloc (.cells #[.int .i64 one, .int .i64 two] 51)).alloc (.cells #[.pointer none, .pointer none] 52)).alloc (.cells #[.pointer none, .pointer none] 54)).heap[g8]? = some (.cells #[.pointer none, .pointer none] 52 (0, 0))) := by
    show _ = _
    rw [hg8, Below.heap_alloc _ _ _ (by simp), show w0.heap.size + 1 = (w0.alloc (.cells #[.int .i64 one, .int .i64 two] 51)).heap.size from by simp]
    exact block_new _ _
  have HB9 : Hid ((((w0.alloc (.cells #[.int .i64 one, .int .i64 two] 51)).alloc (.cells #[.pointer none, .pointer none] 52)).alloc (.cells #[.pointer none, .pointer none] 54)).heap[g9]? = some (.cells #[.pointer none, .pointer none] 54 (0, 0))) := by
    show _ = _
    rw [hg9, show w0.heap.size + 1 + 1 = ((w0.alloc (.cells #[.int .i64 one, .int .i64 two] 51)).alloc (.cells #[.pointer none, .pointer none] 52)).heap.size from by simp]
    exact block_new _ _
  have HO7 : Hid (give (fun _ => 0) w0 9 g7 = 9) := give_new (by omega)
  have HAR : Hid (Arr (give (fun _ => 0) w0 9) _ g8 g9 none none none none) := ⟨HB8.out, HB9.out, give_new (by omega), give_new (by omega)⟩
  have HNE : Hid (g7 ≠ g8 ∧ g7 ≠ g9 ∧ g8 ≠ g9) := ⟨by omega, by omega, by omega⟩
  rw [← hg9, ← hg8, ← hg7]
  clear haw1 HB8 HB9 hg7 hg8 hg9 HU0
  generalize (((w0.alloc (.cells #[.int .i64 one, .int .i64 two] 51)).alloc (.cells #[.pointer none, .pointer none] 52)).alloc (.cells #[.pointer none, .pointer none] 54)) = w1 at *
  generalize give (fun _ => 0) w0 9 = o at *
  go_loopw [10] (fun i wr => ∃ (k : Nat) (o : Nat → Nat) (p0 p1 r0 r1 : Option Addr), i = .int .i64 (k : Int) ∧ k ≤ 2 ∧ Arr o wr g8 g9 p0 p1 r0 r1 ∧ Out o W wr ∧ Pair o 1 2 wr p0 r0 0 ∧ Pair o 3 4 wr p1 r1 0 ∧ wr.heap[g7]? = some (.cells #[.int .i64 one, .int .i64 two] 51 (0, 0)) ∧ o g7 = 9) (fun i _ => 2 - (intOf i).toNat)
  case atStart => exact ⟨0, o, none, none, none, none, rfl, by omega, HAR.out, HU.out, .inl ⟨rfl, rfl⟩, .inl ⟨rfl, rfl⟩, HB7.out, HO7.out⟩
  case round =>
    clear HAR HU HB7 HO7
    obtain ⟨k, o, p0, p1, r0, r1, rfl, hk, har, hu, hp0, hp1, hb7, ho7⟩ := hrel
    have HAR := Lib.hid har
    have HU := Lib.hid hu
    have HP0 := Lib.hid hp0
    have HP1 := Lib.hid hp1
    have HB7 := Lib.hid hb7
    have HO7 := Lib.hid ho7
    have H7L := Lib.hid (lt_of_block hb7)
    clear har hu hp0 hp1 hb7 ho7
    rcases k with _ | _ | k
    · have c7 := cell_of_block HB7.out 0
      simp at c7
      go_wp2_with fail
      refine (new_z one wr o 1).mono ?_
      rintro E w2 ⟨p, e, rfl, haw, hp⟩
      replace HU := Lib.hid (HU.out.give 1 haw)
      replace HAR := Lib.hid (HAR.out.give 1 haw)
      replace HP1 := Lib.hid (HP1.out.give 1 haw)
      replace HB7 := Lib.hid (haw.keep (by simp) HB7.out)
      replace HO7 : Hid (give o wr 1 g7 = 9) := by show _ = _; rw [give_old H7L.out]; exact HO7.out
      clear haw c7
      have c7 := cell_of_block HB7.out 0
      have H7M := Lib.hid (lt_of_block HB7.out)
      simp at c7
      go_wp2_with fail
      refine (rnew_z one w2 (give o wr 1) 2).mono ?_
      rintro E w3 ⟨r, f, rfl, haw, hr⟩
      obtain ⟨hef, hnn, hpair⟩ := Pair.made hp hr haw
      replace HU := Lib.hid (HU.out.give 2 haw)
      replace HAR := Lib.hid (HAR.out.give 2 haw)
      replace HP1 := Lib.hid (HP1.out.give 2 haw)
      replace HB7 := Lib.hid (haw.keep (by simp) HB7.out)
      replace HO7 : Hid (give (give o wr 1) w2 2 g7 = 9) := by show _ = _; rw [give_old H7M.out]; exact HO7.out
      have HP0 := Lib.hid hpair
      clear haw c7 hp hr hpair
      generalize give (give o wr 1) w2 2 = o at *
      subst hef
      have cell8 := cell_of_block HAR.out.b8 0
      have free8 := free_of_block HAR.out.b8 0
      simp at cell8
      have hne89 : g8 ≠ g9 := HNE.out.2.2
      have hne79 : g7 ≠ g9 := HNE.out.2.1
      have hne78 : g7 ≠ g8 := HNE.out.1
      have FIN : ∀ wz, wz = (w3.setCell ⟨g8, 0, none⟩ (.pointer p)).setCell ⟨g9, 0, none⟩ (.pointer r) → Arr o wz g8 g9 p p1 r r1 ∧ Out o W wz ∧ Pair o 1 2 wz p r 0 ∧ Pair o 3 4 wz p1 r1 0 ∧ wz.heap[g7]? = some (.cells #[.int .i64 one, .int .i64 two] 51 (0, 0)) := by
        rintro wz rfl
        have h1 : Away [g8] w3 (w3.setCell ⟨g8, 0, none⟩ (.pointer p)) := (Away.refl [g8] w3).setCell (p := ⟨g8, 0, none⟩) (.inl (by simp)) _
        have h2 : Away [g9] (w3.setCell ⟨g8, 0, none⟩ (.pointer p)) ((w3.setCell ⟨g8, 0, none⟩ (.pointer p)).setCell ⟨g9, 0, none⟩ (.pointer r)) := (Away.refl [g9] _).setCell (p := ⟨g9, 0, none⟩) (.inl (by simp)) _
        have hc : Chg o 9 w3 ((w3.setCell ⟨g8, 0, none⟩ (.pointer p)).setCell ⟨g9, 0, none⟩ (.pointer r)) := ⟨[g8, g9], (h1.mono (by simp)).trans (h2.mono (by simp)), fun s hs => by
          simp at hs
          rcases hs with rfl | rfl
          · exact HAR.out.o8
          · exact HAR.out.o9⟩
        refine ⟨⟨?_, ?_, HAR.out.o8, HAR.out.o9⟩, HU.out.kp hc (by decide), HP0.out.kp hc (by decide) (by decide), HP1.out.kp hc (by decide) (by decide), ?_⟩
        · rw [block_set_other hne89, block_set HAR.out.b8]; rfl
        · have h5 : (w3.setCell ⟨g8, 0, none⟩ (.pointer p)).heap[g9]? = some (.cells #[.pointer r0, .pointer r1] 54 (0, 0)) := by rw [block_set_other (Ne.symm hne89)]; exact HAR.out.b9
          rw [block_set h5]; rfl
        · rw [block_set_other hne79, block_set_other hne78]; exact HB7.out
      have HFIN := Lib.hid FIN
      have cell9 : (w3.setCell ⟨g8, 0, none⟩ (.pointer p)).cell? ⟨g9, 0, none⟩ = some (.pointer r0) := by
        have h5 : (w3.setCell ⟨g8, 0, none⟩ (.pointer p)).heap[g9]? = some (.cells #[.pointer r0, .pointer r1] 54 (0, 0)) := by rw [block_set_other (Ne.symm hne89)]; exact HAR.out.b9
        rw [cell_of_block h5]; rfl
      have free9 : (w3.setCell ⟨g8, 0, none⟩ (.pointer p)).frozen? ⟨g9, 0, none⟩ = false := by
        have h5 : (w3.setCell ⟨g8, 0, none⟩ (.pointer p)).heap[g9]? = some (.cells #[.pointer r0, .pointer r1] 54 (0, 0)) := by rw [block_set_other (Ne.symm hne89)]; exact HAR.out.b9
        exact free_of_block h5 _
      clear FIN
      rcases p with _ | pp
      · obtain rfl : r = none := hnn.1 rfl
        clear hnn
        go_wp2_with fail
        obtain ⟨f1, f2, f3, f4, f5⟩ := HFIN.out _ rfl
        go_roundw
        case rel => exact ⟨0 + 1, _, _, _, _, _, by go_num, by omega, f1, f2, f3, f4, f5, HO7.out⟩
        case measure => simp [intOf]
      · obtain ⟨rr, rfl⟩ : ∃ z, r = some z := by
          rcases r with _ | z
          · simp at hnn
          · exact ⟨z, rfl⟩
        clear hnn
        go_wp2_with fail
        obtain ⟨f1, f2, f3, f4, f5⟩ := HFIN.out _ rfl
        go_roundw
        case rel => exact ⟨0 + 1, _, _, _, _, _, by go_num, by omega, f1, f2, f3, f4, f5, HO7.out⟩
        case measure => simp [intOf]
    · have c7 := cell_of_block HB7.out 1
      simp at c7
      go_wp2_with fail
      refine (new_z two wr o 3).mono ?_
      rintro E w2 ⟨p, e, rfl, haw, hp⟩
      replace HU := Lib.hid (HU.out.give 3 haw)
      replace HAR := Lib.hid (HAR.out.give 3 haw)
      replace HP0 := Lib.hid (HP0.out.give 3 haw)
      replace HB7 := Lib.hid (haw.keep (by simp) HB7.out)
      replace HO7 : Hid (give o wr 3 g7 = 9) := by show _ = _; rw [give_old H7L.out]; exact HO7.out
      clear haw c7
      have c7 := cell_of_block HB7.out 1
      have H7M := Lib.hid (lt_of_block HB7.out)
      simp at c7
      go_wp2_with fail
      refine (rnew_z two w2 (give o wr 3) 4).mono ?_
      rintro E w3 ⟨r, f, rfl, haw, hr⟩
      obtain ⟨hef, hnn, hpair⟩ := Pair.made hp hr haw
      replace HU := Lib.hid (HU.out.give 4 haw)
      replace HAR := Lib.hid (HAR.out.give 4 haw)
      replace HP0 := Lib.hid (HP0.out.give 4 haw)
      replace HB7 := Lib.hid (haw.keep (by simp) HB7.out)
      replace HO7 : Hid (give (give o wr 3) w2 4 g7 = 9) := by show _ = _; rw [give_old H7M.out]; exact HO7.out
      have HP1 := Lib.hid hpair
      clear haw c7 hp hr hpair
      generalize give (give o wr 3) w2 4 = o at *
      subst hef
      have cell8 := cell_of_block HAR.out.b8 1
      have free8 := free_of_block HAR.out.b8 1
      simp at cell8
      have hne89 : g8 ≠ g9 := HNE.out.2.2
      have hne79 : g7 ≠ g9 := HNE.out.2.1
      have hne78 : g7 ≠ g8 := HNE.out.1
      have FIN : ∀ wz, wz = (w3.setCell ⟨g8, 1, none⟩ (.pointer p)).setCell ⟨g9, 1, none⟩ (.pointer r) → Arr o wz g8 g9 p0 p r0 r ∧ Out o W wz ∧ Pair o 1 2 wz p0 r0 0 ∧ Pair o 3 4 wz p r 0 ∧ wz.heap[g7]? = some (.cells #[.int .i64 one, .int .i64 two] 51 (0, 0)) := by
        rintro wz rfl
        have h1 : Away [g8] w3 (w3.setCell ⟨g8, 1, none⟩ (.pointer p)) := (Away.refl [g8] w3).setCell (p := ⟨g8, 1, none⟩) (.inl (by simp)) _
        have h2 : Away [g9] (w3.setCell ⟨g8, 1, none⟩ (.pointer p)) ((w3.setCell ⟨g8, 1, none⟩ (.pointer p)).setCell ⟨g9, 1, none⟩ (.pointer r)) := (Away.refl [g9] _).setCell (p := ⟨g9, 1, none⟩) (.inl (by simp)) _
        have hc : Chg o 9 w3 ((w3.setCell ⟨g8, 1, none⟩ (.pointer p)).setCell ⟨g9, 1, none⟩ (.pointer r)) := ⟨[g8, g9], (h1.mono (by simp)).trans (h2.mono (by simp)), fun s hs => by
          simp at hs
          rcases hs with rfl | rfl
          · exact HAR.out.o8
          · exact HAR.out.o9⟩
        refine ⟨⟨?_, ?_, HAR.out.o8, HAR.out.o9⟩, HU.out.kp hc (by decide), HP0.out.kp hc (by decide) (by decide), HP1.out.kp hc (by decide) (by decide), ?_⟩
        · rw [block_set_other hne89, block_set HAR.out.b8]; rfl
        · have h5 : (w3.setCell ⟨g8, 1, none⟩ (.pointer p)).heap[g9]? = some (.cells #[.pointer r0, .pointer r1] 54 (0, 0)) := by rw [block_set_other (Ne.symm hne89)]; exact HAR.out.b9
          rw [block_set h5]; rfl
        · rw [block_set_other hne79, block_set_other hne78]; exact HB7.out
      have HFIN := Lib.hid FIN
      have cell9 : (w3.setCell ⟨g8, 1, none⟩ (.pointer p)).cell? ⟨g9, 1, none⟩ = some (.pointer r1) := by
        have h5 : (w3.setCell ⟨g8, 1, none⟩ (.pointer p)).heap[g9]? = some (.cells #[.pointer r0, .pointer r1] 54 (0, 0)) := by rw [block_set_other (Ne.symm hne89)]; exact HAR.out.b9
        rw [cell_of_block h5]; rfl
      have free9 : (w3.setCell ⟨g8, 1, none⟩ (.pointer p)).frozen? ⟨g9, 1, none⟩ = false := by
        have h5 : (w3.setCell ⟨g8, 1, none⟩ (.pointer p)).heap[g9]? = some (.cells #[.pointer r0, .pointer r1] 54 (0, 0)) := by rw [block_set_other (Ne.symm hne89)]; exact HAR.out.b9
        exact free_of_block h5 _
      clear FIN
      rcases p with _ | pp
      · obtain rfl : r = none := hnn.1 rfl
        clear hnn
        go_wp2_with fail
        obtain ⟨f1, f2, f3, f4, f5⟩ := HFIN.out _ rfl
        go_roundw
        case rel => exact ⟨1 + 1, _, _, _, _, _, by go_num, by omega, f1, f2, f3, f4, f5, HO7.out⟩
        case measure => simp [intOf]
      · obtain ⟨rr, rfl⟩ : ∃ z, r = some z := by
          rcases r with _ | z
          · simp at hnn
          · exact ⟨z, rfl⟩
        clear hnn
        go_wp2_with fail
        obtain ⟨f1, f2, f3, f4, f5⟩ := HFIN.out _ rfl
        go_roundw
        case rel => exact ⟨1 + 1, _, _, _, _, _, by go_num, by omega, f1, f2, f3, f4, f5, HO7.out⟩
        case measure => simp [intOf]
    obtain rfl : k = 0 := by omega
    clear hk HB7 HO7 H7L HNE
    go_wp2_with fail
    go_loopw [15] (fun i wr => ∃ (k : Nat) (o : Nat → Nat), i = .int .i64 (k : Int) ∧ k ≤ n ∧ Arr o wr g8 g9 p0 p1 r0 r1 ∧ Out o W wr ∧ Pair o 1 2 wr p0 r0 k ∧ Pair o 3 4 wr p1 r1 k) (fun i _ => n - (intOf i).toNat)
    case atStart => exact ⟨0, o, rfl, Nat.zero_le _, HAR.out, HU.out, HP0.out, HP1.out⟩
    case round =>
      clear HAR HU HP0 HP1
      obtain ⟨k, o, rfl, hk, har, hu, hp0, hp1⟩ := hrel
      have HAR := Lib.hid har
      have HU := Lib.hid hu
      have HP0 := Lib.hid hp0
      have HP1 := Lib.hid hp1
      clear har hu hp0 hp1
      by_cases hkn : k < n
      · have j1 : decide (k < n) = true := by simp; omega
        have j0 : (k : Int) < (n : Int) := by omega
        have j2 : 0 ≤ (k : Int) := by omega
        have j3 : ((k : Int)).toNat = k := by omega
        obtain ⟨x, hx, -⟩ := get_of (show k < l.length by rw [← HN.out]; omega)
        obtain ⟨b, off, hb, hbl, hrg, hox⟩ := HR.out.at hx
        subst hb
        have HX := Lib.hid hox
        have HBO : Hid (o b = 0) := HU.out.2 b hbl
        have HRG := Lib.hid (range_away HU.out.1 (by simp) hrg)
        clear hrg hox hx hkn hbl
        obtain ⟨-, cw, -, -⟩ := rangeO HRG.out
        go_upto_region 19 with fail
        rcases and_one x.who with hd | hd
        · rw [hd]
          clear hd
          have c8 := cell_of_block HAR.out.b8 0
          simp at c8
          rcases HP0.out with ⟨rfl, rfl⟩ | ⟨gp, gr, t, rfl, rfl, hop, hor, hla⟩
          · go_wp2_with fail
            go_roundw
            case rel => exact ⟨k + 1, o, by go_num, by omega, HAR.out, HU.out, HP0.out.mono (by omega), HP1.out.mono (by omega)⟩
            case measure => simp [intOf]; omega
          · have HOP := Lib.hid hop
            have HOR := Lib.hid hor
            have c9 := cell_of_block HAR.out.b9 0
            simp at c9
            have C8 := Lib.hid c8
            have C9 := Lib.hid c9
            clear hop hor c9
            go_wp2_with fail
            clear c8 cw
            refine wp_region_held_drew (S := (fun w' => w'.cell? ⟨g8, 0, none⟩ = some (.pointer (some ⟨gp, 0, none⟩)) ∧ w'.cell? ⟨g9, 0, none⟩ = some (.pointer (some ⟨gr, 0, none⟩)) ∧ w'.rangeAt b (off + k * 20) (listO x))) (by kernel_rfl) ⟨by exact C8.out, by exact C9.out, by exact HRG.out⟩ (fun hHeld => ?_)
            have haw := (Away.refl [] wr).drew
            replace HAR := Lib.hid (HAR.out.on haw)
            replace HU := Lib.hid (HU.out.on haw)
            replace HP1 := Lib.hid (HP1.out.on haw)
            replace HOP := Lib.hid (HOP.out.on haw)
            replace HOR := Lib.hid (HOR.out.on haw)
            clear haw HRG C8 C9 HP0
            refine wpAnyH_take (i := 0) (v := ?_) (by simp only [List.getElem?_toArray, List.getElem?_cons_zero]; rfl) (by kernel_rfl) (by kernel_rfl) (by kernel_rfl) (by exact fun _ _ _ h => h) (Or.inl ⟨by rfl, ?_⟩) (by assumption) ?_
            rotate_left
            · intro wq hSw
              (try dsimp only at hSw)
              go_simp
              all_goals (with_reducible rfl)
            try simp only [Act.put, List.setIfInBounds_toArray, List.set_cons_zero, List.set_cons_succ]
            refine wpAnyH_take (i := 1) (v := ?_) (by simp only [List.getElem?_toArray, List.getElem?_cons_succ, List.getElem?_cons_zero]; rfl) (by kernel_rfl) (by kernel_rfl) (by kernel_rfl) (by exact fun _ _ _ h => h) (Or.inl ⟨by rfl, ?_⟩) (by assumption) ?_
            rotate_left
            · intro wq hSw
              (try dsimp only at hSw)
              go_simp
              all_goals (with_reducible rfl)
            try simp only [Act.put, List.setIfInBounds_toArray, List.set_cons_zero, List.set_cons_succ]
            refine wpAnyH_take (i := 2) (by simp only [List.getElem?_toArray, List.getElem?_cons_succ, List.getElem?_cons_zero]; rfl) (by kernel_rfl) (by kernel_rfl) (by kernel_rfl) (by exact fun _ _ _ h => h) (yields_ld (ad := ⟨g8, 0, none⟩) (by rfl) _ rfl rfl (fun w' h => ld24 h.1)) (by assumption) ?_
            try simp only [Act.put, List.setIfInBounds_toArray, List.set_cons_zero, List.set_cons_succ]
            refine wpAnyH_take (i := 3) (v := ?_) (by simp only [List.getElem?_toArray, List.getElem?_cons_succ, List.getElem?_cons_zero]; rfl) (by kernel_rfl) (by kernel_rfl) (by kernel_rfl) (by exact fun _ _ _ h => h) (Or.inl ⟨by rfl, ?_⟩) (by assumption) ?_
            rotate_left
            · intro wq hSw
              (try dsimp only at hSw)
              go_simp
              all_goals (with_reducible rfl)
            try simp only [Act.put, List.setIfInBounds_toArray, List.set_cons_zero, List.set_cons_succ]
            refine wpAnyH_take (i := 4) (v := ?_) (by simp only [List.getElem?_toArray, List.getElem?_cons_succ, List.getElem?_cons_zero]; rfl) (by kernel_rfl) (by kernel_rfl) (by kernel_rfl) (by exact fun _ _ _ h => h) (Or.inl ⟨by rfl, ?_⟩) (by assumption) ?_
            rotate_left
            · intro wq hSw
              (try dsimp only at hSw)
              go_simp
              all_goals (with_reducible rfl)
            try simp only [Act.put, List.setIfInBounds_toArray, List.set_cons_zero, List.set_cons_succ]
            refine wpAnyH_take (i := 5) (by simp only [List.getElem?_toArray, List.getElem?_cons_succ, List.getElem?_cons_zero]; rfl) (by kernel_rfl) (by kernel_rfl) (by kernel_rfl) (by exact fun _ _ _ h => h) (yields_ld (ad := ⟨g9, 0, none⟩) (by rfl) _ rfl rfl (fun w' h => ld53 h.2.1)) (by assumption) ?_
            try simp only [Act.put, List.setIfInBounds_toArray, List.set_cons_zero, List.set_cons_succ]
            refine wpAnyH_take (i := 6) (v := ?_) (by simp only [List.getElem?_toArray, List.getElem?_cons_succ, List.getElem?_cons_zero]; rfl) (by kernel_rfl) (by kernel_rfl) (by kernel_rfl) (by exact fun _ _ _ h => h) (Or.inl ⟨by rfl, ?_⟩) (by assumption) ?_
            rotate_left
            · intro wq hSw
              (try dsimp only at hSw)
              go_simp
              all_goals (with_reducible rfl)
            try simp only [Act.put, List.setIfInBounds_toArray, List.set_cons_zero, List.set_cons_succ]
            refine wpAnyH_take (i := 7) (v := ?_) (by simp only [List.getElem?_toArray, List.getElem?_cons_succ, List.getElem?_cons_zero]; rfl) (by kernel_rfl) (by kernel_rfl) (by kernel_rfl) (by exact fun _ _ _ h => h) (Or.inl ⟨by rfl, ?_⟩) (by assumption) ?_
            rotate_left
            · intro wq hSw
              (try dsimp only at hSw)
              go_simp
              all_goals (with_reducible rfl)
            try simp only [Act.put, List.setIfInBounds_toArray, List.set_cons_zero, List.set_cons_succ]
            refine wpAnyH_take (i := 8) (by simp only [List.getElem?_toArray, List.getElem?_cons_succ, List.getElem?_cons_zero]; rfl) (by kernel_rfl) (by kernel_rfl) (by kernel_rfl) (by exact fun _ _ _ h => h) (yields_ixO (by rfl) _ _ rfl b off n cap k rfl rfl (by omega)) (by assumption) ?_
            try simp only [Act.put, List.setIfInBounds_toArray, List.set_cons_zero, List.set_cons_succ]
            refine wpAnyH_take (i := 9) (by simp only [List.getElem?_toArray, List.getElem?_cons_succ, List.getElem?_cons_zero]; rfl) (by kernel_rfl) (by kernel_rfl) (by kernel_rfl) (by exact fun _ _ _ h => h) (yields_ld (ad := ⟨b, off + k * 20, none⟩) (by rfl) _ rfl rfl (fun w' h => load35m_run h.2.2 HX.out)) (by assumption) ?_
            try simp only [Act.put, List.setIfInBounds_toArray, List.set_cons_zero, List.set_cons_succ]
            refine wpAnyH_ready (rs := [10]) (by kernel_rfl) (by simp) ?_
            refine AllReadyH.cons (by simp only [List.getElem?_toArray, List.getElem?_cons_succ, List.getElem?_cons_zero]; rfl) (fun K hK => ?_) AllReadyH.nil
            go_simp
            refine (plays_c HOP.out HOR.out (by decide) (by decide) (by decide) x HX.out (by omega)).mono ?_
            rintro E w3 ⟨rfl, o2, t2, ho2, hr2, hs2, hl2⟩
            have hbo := HBO.out
            have hblt := block_lt_of_cell (hHeld.2.2 0 _ rfl)
            have hS : w3.cell? ⟨g8, 0, none⟩ = some (.pointer (some ⟨gp, 0, none⟩)) ∧ w3.cell? ⟨g9, 0, none⟩ = some (.pointer (some ⟨gr, 0, none⟩)) ∧ w3.rangeAt b (off + k * 20) (listO x) := by
              have har := HAR.out.stp hs2 (by decide) (by decide)
              refine ⟨by rw [cell_of_block har.b8]; rfl, by rw [cell_of_block har.b9]; rfl, ?_⟩
              obtain ⟨S, h4, h5, h6⟩ := hs2
              refine range_away h4 (fun hm => ?_) hHeld.2.2
              rcases h5 b hm (by simpa using hblt) with h7 | h7 <;> omega
            replace HAR := Lib.hid (HAR.out.stp hs2 (by decide) (by decide))
            replace HU := Lib.hid (HU.out.stp hs2 (by decide) (by decide))
            replace HP1 := Lib.hid (HP1.out.stp hs2 (by decide) (by decide) (by decide) (by decide))
            have HP0 : Hid (Pair o2 1 2 w3 (some ⟨gp, 0, none⟩) (some ⟨gr, 0, none⟩) ((k : Int) + 1)) := .inr ⟨gp, gr, t2, rfl, rfl, ho2, hr2, by omega⟩
            clear ho2 hr2 hs2 hl2 hHeld hbo hblt
            go_wp2_with fail
            refine hK.out _ _ hS (fun hHeld => ?_)
            clear hK K
            try simp only [Act.put, List.setIfInBounds_toArray, List.set_cons_zero, List.set_cons_succ]
            clear hS
            refine wpAnyH_take (i := 11) (v := ?_) (by simp only [List.getElem?_toArray, List.getElem?_cons_succ, List.getElem?_cons_zero]; rfl) (by kernel_rfl) (by kernel_rfl) (by kernel_rfl) (by exact fun _ _ _ h => h) (Or.inl ⟨by rfl, ?_⟩) (by assumption) ?_
            rotate_left
            · intro wq hSw
              (try dsimp only at hSw)
              go_simp
              all_goals (with_reducible rfl)
            try simp only [Act.put, List.setIfInBounds_toArray, List.set_cons_zero, List.set_cons_succ]
            clear hHeld
            refine wpAnyH_done (by kernel_rfl) ?_ _
            go_wp2_with fail
            go_roundw
            case rel => first | exact ⟨k + 1, o2, by go_num, by omega, HAR.out, HU.out, HP0.out, HP1.out.mono (by omega)⟩ | exact ⟨_, _, _, _, _, _, _, _, _, _, _, _, _, _, _, _, _, _, _, _, _, _, _, _, _, _, _, _, _, _, _, _, _, ⟨k + 1, o2, by go_num, by omega, HAR.out, HU.out, HP0.out, HP1.out.mono (by omega)⟩, rfl⟩
            case measure => simp [intOf]; omega
        · rw [hd]
          clear hd
          have c8 := cell_of_block HAR.out.b8 1
          simp at c8
          rcases HP1.out with ⟨rfl, rfl⟩ | ⟨gp, gr, t, rfl, rfl, hop, hor, hla⟩
          · go_wp2_with fail
            go_roundw
            case rel => exact ⟨k + 1, o, by go_num, by omega, HAR.out, HU.out, HP0.out.mono (by omega), HP1.out.mono (by omega)⟩
            case measure => simp [intOf]; omega
          · have HOP := Lib.hid hop
            have HOR := Lib.hid hor
            have c9 := cell_of_block HAR.out.b9 1
            simp at c9
            have C8 := Lib.hid c8
            have C9 := Lib.hid c9
            clear hop hor c9
            go_wp2_with fail
            clear c8 cw
            refine wp_region_held_drew (S := (fun w' => w'.cell? ⟨g8, 1, none⟩ = some (.pointer (some ⟨gp, 0, none⟩)) ∧ w'.cell? ⟨g9, 1, none⟩ = some (.pointer (some ⟨gr, 0, none⟩)) ∧ w'.rangeAt b (off + k * 20) (listO x))) (by kernel_rfl) ⟨by exact C8.out, by exact C9.out, by exact HRG.out⟩ (fun hHeld => ?_)
            have haw := (Away.refl [] wr).drew
            replace HAR := Lib.hid (HAR.out.on haw)
            replace HU := Lib.hid (HU.out.on haw)
            replace HP0 := Lib.hid (HP0.out.on haw)
            replace HOP := Lib.hid (HOP.out.on haw)
            replace HOR := Lib.hid (HOR.out.on haw)
            clear haw HRG C8 C9 HP1
            refine wpAnyH_take (i := 0) (v := ?_) (by simp only [List.getElem?_toArray, List.getElem?_cons_zero]; rfl) (by kernel_rfl) (by kernel_rfl) (by kernel_rfl) (by exact fun _ _ _ h => h) (Or.inl ⟨by rfl, ?_⟩) (by assumption) ?_
            rotate_left
            · intro wq hSw
              (try dsimp only at hSw)
              go_simp
              all_goals (with_reducible rfl)
            try simp only [Act.put, List.setIfInBounds_toArray, List.set_cons_zero, List.set_cons_succ]
            refine wpAnyH_take (i := 1) (v := ?_) (by simp only [List.getElem?_toArray, List.getElem?_cons_succ, List.getElem?_cons_zero]; rfl) (by kernel_rfl) (by kernel_rfl) (by kernel_rfl) (by exact fun _ _ _ h => h) (Or.inl ⟨by rfl, ?_⟩) (by assumption) ?_
            rotate_left
            · intro wq hSw
              (try dsimp only at hSw)
              go_simp
              all_goals (with_reducible rfl)
            try simp only [Act.put, List.setIfInBounds_toArray, List.set_cons_zero, List.set_cons_succ]
            refine wpAnyH_take (i := 2) (by simp only [List.getElem?_toArray, List.getElem?_cons_succ, List.getElem?_cons_zero]; rfl) (by kernel_rfl) (by kernel_rfl) (by kernel_rfl) (by exact fun _ _ _ h => h) (yields_ld (ad := ⟨g8, 1, none⟩) (by rfl) _ rfl rfl (fun w' h => ld24 h.1)) (by assumption) ?_
            try simp only [Act.put, List.setIfInBounds_toArray, List.set_cons_zero, List.set_cons_succ]
            refine wpAnyH_take (i := 3) (v := ?_) (by simp only [List.getElem?_toArray, List.getElem?_cons_succ, List.getElem?_cons_zero]; rfl) (by kernel_rfl) (by kernel_rfl) (by kernel_rfl) (by exact fun _ _ _ h => h) (Or.inl ⟨by rfl, ?_⟩) (by assumption) ?_
            rotate_left
            · intro wq hSw
              (try dsimp only at hSw)
              go_simp
              all_goals (with_reducible rfl)
            try simp only [Act.put, List.setIfInBounds_toArray, List.set_cons_zero, List.set_cons_succ]
            refine wpAnyH_take (i := 4) (v := ?_) (by simp only [List.getElem?_toArray, List.getElem?_cons_succ, List.getElem?_cons_zero]; rfl) (by kernel_rfl) (by kernel_rfl) (by kernel_rfl) (by exact fun _ _ _ h => h) (Or.inl ⟨by rfl, ?_⟩) (by assumption) ?_
            rotate_left
            · intro wq hSw
              (try dsimp only at hSw)
              go_simp
              all_goals (with_reducible rfl)
            try simp only [Act.put, List.setIfInBounds_toArray, List.set_cons_zero, List.set_cons_succ]
            refine wpAnyH_take (i := 5) (by simp only [List.getElem?_toArray, List.getElem?_cons_succ, List.getElem?_cons_zero]; rfl) (by kernel_rfl) (by kernel_rfl) (by kernel_rfl) (by exact fun _ _ _ h => h) (yields_ld (ad := ⟨g9, 1, none⟩) (by rfl) _ rfl rfl (fun w' h => ld53 h.2.1)) (by assumption) ?_
            try simp only [Act.put, List.setIfInBounds_toArray, List.set_cons_zero, List.set_cons_succ]
            refine wpAnyH_take (i := 6) (v := ?_) (by simp only [List.getElem?_toArray, List.getElem?_cons_succ, List.getElem?_cons_zero]; rfl) (by kernel_rfl) (by kernel_rfl) (by kernel_rfl) (by exact fun _ _ _ h => h) (Or.inl ⟨by rfl, ?_⟩) (by assumption) ?_
            rotate_left
            · intro wq hSw
              (try dsimp only at hSw)
              go_simp
              all_goals (with_reducible rfl)
            try simp only [Act.put, List.setIfInBounds_toArray, List.set_cons_zero, List.set_cons_succ]
            refine wpAnyH_take (i := 7) (v := ?_) (by simp only [List.getElem?_toArray, List.getElem?_cons_succ, List.getElem?_cons_zero]; rfl) (by kernel_rfl) (by kernel_rfl) (by kernel_rfl) (by exact fun _ _ _ h => h) (Or.inl ⟨by rfl, ?_⟩) (by assumption) ?_
            rotate_left
            · intro wq hSw
              (try dsimp only at hSw)
              go_simp
              all_goals (with_reducible rfl)
            try simp only [Act.put, List.setIfInBounds_toArray, List.set_cons_zero, List.set_cons_succ]
            refine wpAnyH_take (i := 8) (by simp only [List.getElem?_toArray, List.getElem?_cons_succ, List.getElem?_cons_zero]; rfl) (by kernel_rfl) (by kernel_rfl) (by kernel_rfl) (by exact fun _ _ _ h => h) (yields_ixO (by rfl) _ _ rfl b off n cap k rfl rfl (by omega)) (by assumption) ?_
            try simp only [Act.put, List.setIfInBounds_toArray, List.set_cons_zero, List.set_cons_succ]
            refine wpAnyH_take (i := 9) (by simp only [List.getElem?_toArray, List.getElem?_cons_succ, List.getElem?_cons_zero]; rfl) (by kernel_rfl) (by kernel_rfl) (by kernel_rfl) (by exact fun _ _ _ h => h) (yields_ld (ad := ⟨b, off + k * 20, none⟩) (by rfl) _ rfl rfl (fun w' h => load35m_run h.2.2 HX.out)) (by assumption) ?_
            try simp only [Act.put, List.setIfInBounds_toArray, List.set_cons_zero, List.set_cons_succ]
            refine wpAnyH_ready (rs := [10]) (by kernel_rfl) (by simp) ?_
            refine AllReadyH.cons (by simp only [List.getElem?_toArray, List.getElem?_cons_succ, List.getElem?_cons_zero]; rfl) (fun K hK => ?_) AllReadyH.nil
            go_simp
            refine (plays_c HOP.out HOR.out (by decide) (by decide) (by decide) x HX.out (by omega)).mono ?_
            rintro E w3 ⟨rfl, o2, t2, ho2, hr2, hs2, hl2⟩
            have hbo := HBO.out
            have hblt := block_lt_of_cell (hHeld.2.2 0 _ rfl)
            have hS : w3.cell? ⟨g8, 1, none⟩ = some (.pointer (some ⟨gp, 0, none⟩)) ∧ w3.cell? ⟨g9, 1, none⟩ = some (.pointer (some ⟨gr, 0, none⟩)) ∧ w3.rangeAt b (off + k * 20) (listO x) := by
              have har := HAR.out.stp hs2 (by decide) (by decide)
              refine ⟨by rw [cell_of_block har.b8]; rfl, by rw [cell_of_block har.b9]; rfl, ?_⟩
              obtain ⟨S, h4, h5, h6⟩ := hs2
              refine range_away h4 (fun hm => ?_) hHeld.2.2
              rcases h5 b hm (by simpa using hblt) with h7 | h7 <;> omega
            replace HAR := Lib.hid (HAR.out.stp hs2 (by decide) (by decide))
            replace HU := Lib.hid (HU.out.stp hs2 (by decide) (by decide))
            replace HP0 := Lib.hid (HP0.out.stp hs2 (by decide) (by decide) (by decide) (by decide))
            have HP1 : Hid (Pair o2 3 4 w3 (some ⟨gp, 0, none⟩) (some ⟨gr, 0, none⟩) ((k : Int) + 1)) := .inr ⟨gp, gr, t2, rfl, rfl, ho2, hr2, by omega⟩
            clear ho2 hr2 hs2 hl2 hHeld hbo hblt
            go_wp2_with fail
            refine hK.out _ _ hS (fun hHeld => ?_)
            clear hK K
            try simp only [Act.put, List.setIfInBounds_toArray, List.set_cons_zero, List.set_cons_succ]
            clear hS
            refine wpAnyH_take (i := 11) (v := ?_) (by simp only [List.getElem?_toArray, List.getElem?_cons_succ, List.getElem?_cons_zero]; rfl) (by kernel_rfl) (by kernel_rfl) (by kernel_rfl) (by exact fun _ _ _ h => h) (Or.inl ⟨by rfl, ?_⟩) (by assumption) ?_
            rotate_left
            · intro wq hSw
              (try dsimp only at hSw)
              go_simp
              all_goals (with_reducible rfl)
            try simp only [Act.put, List.setIfInBounds_toArray, List.set_cons_zero, List.set_cons_succ]
            clear hHeld
            refine wpAnyH_done (by kernel_rfl) ?_ _
            go_wp2_with fail
            go_roundw
            case rel => first | exact ⟨k + 1, o2, by go_num, by omega, HAR.out, HU.out, HP0.out.mono (by omega), HP1.out⟩ | exact ⟨_, _, _, _, _, _, _, _, _, _, _, _, _, _, _, _, _, _, _, _, _, _, _, _, _, _, _, _, _, _, _, _, _, ⟨k + 1, o2, by go_num, by omega, HAR.out, HU.out, HP0.out.mono (by omega), HP1.out⟩, rfl⟩
            case measure => simp [intOf]; omega
      have j1 : decide (k < n) = false := by simp; omega
      clear hkn
      go_wp2_with fail
      go_ret
      exact ⟨rfl, HU.out.below⟩
namespace portsPlay
theorem lifted (os : Os) (started : os.Started) (H : Type) (enc : TypeId × Value → H) :
    ReturnsInHanded {} Try.checked os 6 .any (Rows.portsPlaySpec.pre6 enc Try.prog Try.f6 Rows.portsPlayRow.domain false) (Rows.portsPlaySpec.post enc Try.prog Try.f6 false true false false) := by
  refine returnsInHanded_of_change_sized (C := Try.checked) ownKn started (by kernel_rfl) Try.func6
    (ChangeSpec.witness6 (enc := enc) (C := Try.checked) false ⟨#[], #[.int .i64 0, .int .i64 0, .slice none 0 0], []⟩ 8 (by kernel_rfl) (by kernel_rfl) (by kernel_rfl) (by kernel_rfl)) ?_
  intro W base args ds gs before hval0 hW _ hsz0 _
  have hsz : (DataW.weightsEach Try.prog (Try.f6.params.toList ++ Rows.portsPlaySpec.plain.varTypes Try.prog) (ds ++ gs)).all (· ≤ reachBytes) = true := hsz0
  clear hsz0
  have hval : ∀ (j : Nat) t v, Try.f6.params[j]? = some t → args[j]? = some v → Value.okWide Try.prog W .any base t v := hval0
  have hW' := hW
  obtain ⟨p, q, hA0, hV, rfl, hfz, hnd⟩ := hW
  have hA : DataW.TrodAll enc Try.prog W 0 (fun _ => true) true Try.f6.params.toList args.toList ds p := hA0
  rw [Try.params6] at hA hval hsz
  obtain ⟨v0, vs0, d0, ds0, p0, q0, hargs, rfl, rfl, h0, r0⟩ := trodAll_cons hA
  obtain ⟨v1, vs1, d1, ds1, p1, q1, rfl, rfl, rfl, h1, r1⟩ := trodAll_cons r0
  obtain ⟨v2, vs2, d2, ds2, p2, q2, rfl, rfl, rfl, h2, r2⟩ := trodAll_cons r1
  obtain ⟨rfl, rfl, rfl⟩ := trodAll_nil r2
  obtain rfl : args = #[v0, v1, v2] := by cases args; simp_all
  have hV2 : DataW.TrodVars enc Try.prog W (fun _ => true) Rows.portsPlaySpec.vars gs q := hV
  obtain ⟨rfl, rfl⟩ := trodVars_none hV2
  obtain ⟨a0, rfl, rfl, rfl, w0⟩ := open_int Try.underlying3 (hval 0 3 v0 rfl rfl) h0
  obtain ⟨a1, rfl, rfl, rfl, w1⟩ := open_int Try.underlying3 (hval 1 3 v1 rfl rfl) h1
  have k2 := h2
  have lt2 : ∀ x ∈ p2, x.block < W.heap.size := by obtain ⟨m, hm⟩ := k2; exact DataW.trod_lt m _ _ _ hm
  have z2 : ∀ m ∈ d2.weights Try.prog 22, m ≤ reachBytes := fun m hm => by
    have := List.all_eq_true.1 hsz m (DataW.weights_mem_each (j := 2) (t := 22) rfl rfl m hm)
    simpa using this
  obtain ⟨a2, len2, cap2, rfl⟩ := okWide_slice Try.underlying22 (hval 2 22 v2 rfl rfl)
  obtain ⟨l2, rfl, w2, b2⟩ := open_script h2 z2 lt2
  clear hA0 hval0
  refine (walk a0 a1 a2 l2 cap2 W w2 b2).mono fun e W' ⟨he, bel⟩ => ?_
  subst he
  exact ⟨_, rfl, _, _, _, [], _, [], hW', trodAll_mk1 (shut_bool Try.underlying4 _), (trodAll_cons_mk (shut_int Try.underlying3 w0) (trodAll_cons_mk (shut_int Try.underlying3 w1) (trodAll_cons_mk (Below.trod laidOut (by kernel_rfl) (of_decide_eq_true (by kernel_rfl)) k2 bel lt2) trodAll_mk0))), rfl, bel.frame _, fun h => by cases h⟩
theorem over : Rows.portsPlayRow.holds Try.pinned (OpenSpec.ofChange Rows.portsPlaySpec) :=
  OpenClaim.holds_of_wide 6 Try.f6 rfl rfl rfl rfl rfl rfl rfl ⟨rfl, rfl, rfl, rfl, rfl⟩ rfl rfl rfl rfl rfl (by kernel_rfl) Try.func6 (by kernel_rfl)
    (of_decide_eq_true (by kernel_rfl)) (by unfold Func.isWrapper; first | (rw [if_pos (by decide +kernel)]; kernel_rfl) | (rw [if_neg (by decide +kernel)]; exact ⟨rfl, rfl⟩))
    (fun os started H enc _ => lifted os started H enc)
end portsPlay
theorem portsPlay_holds : Rows.PortsPlaySaid := portsPlay.over
#print axioms portsPlay_holds
end Go.Proofs.Ytemdgggpfadecaa
