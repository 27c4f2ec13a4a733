/-
  Queues of kind KS: Pop.
-/
import Derived.Test.YtdgkkbiodhbmeaaKSQ
namespace Go.Proofs.Ytdgkkbiodhbmeaa.KS
open Go.ChangeShapes Go.WideShapes Go.ChangeAt Go.RowKit
set_option linter.unusedVariables false
set_option linter.unusedSimpArgs false
set_option maxRecDepth 100000

def PopOut (w : World) (g : Nat) (v : Value) (c b : Int) (F : Nat) (x : Value) (r : List Th) (E : Ending) (w' : World) : Prop :=
  E = .returned (.tuple #[x, .bool true]) ∧ ∃ v', Qu w' g v' c b F r ∧ Away (fp g v) w w' ∧ Moved w v v'
set_option maxHeartbeats 4000000 in
theorem pop_some {w : World} {g : Nat} {v : Value} {c b : Int} {F : Nat} (s0 : ByteArray) (m : Int) {r : List Th} (h : Qu w g v c b F (⟨[.string s0], m⟩ :: r)) :
    Calls Try.prog 37 #[.pointer (some ⟨g, 0, none⟩)] w fun E w' => PopOut w g v c b F (.string s0) r E w' := by
  obtain ⟨gl, cap, rfl⟩ : ∃ gl cap, v = .slice (some ⟨gl, 0, none⟩) (r.length + 1) cap := by
    rcases h.lst.shp with ⟨-, h1⟩ | ⟨gl, cap, h1⟩
    · simp at h1
    · exact ⟨gl, cap, by rw [h1]; rfl⟩
  have H := Lib.hid h
  have hg := h.cel.lt
  have hgl := h.lst.lt gl rfl
  have hlen := h.bnd.ten
  have hne := h.ne gl rfl
  have hm0 := h.bnd.pos _ (List.mem_cons_self)
  have hs0 := sumT_pos h.bnd.pos
  have hs1 := h.bnd.sum
  have hb1 := h.bnd.b1
  have hs2 := sumT_pos h.bnd.pop.pos
  rw [sumT_cons] at hs0 hs1
  simp only [List.length_cons] at hlen
  simp only at hm0 hs0 hs1
  have d1 : (((r.length + 1 : Nat) : Int) == 0) = false := by simp; omega
  have d2 : (0 : Int) < ((r.length + 1 : Nat) : Int) := by omega
  clear h
  have hr := H.out.lst.at (g := gl) (cap := cap) H.out.ok (i := 0) rfl
  have q0 : w.cell? ⟨gl, 0, none⟩ = some (.string s0) := by have h1 := hr 0 _ rfl; simpa using h1
  have q1 : w.cell? ⟨gl, 1, none⟩ = some (.int .i64 m) := by have h1 := hr 1 _ rfl; simpa using h1
  have e3 := H.out.cel.c3
  clear hr
  have HA1 : Hid (Away [] w (w.alloc (.cells #[.string s0, .int .i64 m] 103))) := (Away.refl [] w).alloc _
  have HB5 : Hid ((w.alloc (.cells #[.string s0, .int .i64 m] 103)).heap[w.heap.size]? = some (.cells #[.string s0, .int .i64 m] 103 (0, 0))) := block_new w _
  have KD : Hid (Calls Try.prog 44 #[.slice (some ⟨gl, 0, none⟩) (r.length + 1) cap, .int .i64 0, .int .i64 1] (w.alloc (.cells #[.string s0, .int .i64 m] 103)) fun E w' => E = .returned (.slice (some ⟨gl, 0, none⟩) r.length cap) ∧ LstD w' (.slice (some ⟨gl, 0, none⟩) r.length cap) r ∧ Away [gl] (w.alloc (.cells #[.string s0, .int .i64 m] 103)) w') := by
    refine Lib.hid ?_
    have h1 := delete_c (w.alloc (.cells #[.string s0, .int .i64 m] 103)) gl cap (⟨[.string s0], m⟩ :: r) 0 r.length (H.out.lst.on HA1.out) H.out.ok (by simp; omega) (by simp; omega)
    simpa using h1
  go_enter Try.func37, Try.ntmps37
  go_wp2_with fail
  refine KD.out.mono ?_
  rintro E w2 ⟨rfl, hl, haw⟩
  have HC2 := Lib.hid ((H.out.cel.away HA1.out (by simp)).away haw (by simp; omega))
  have HB2 := Lib.hid (haw.keep (by simp; omega) HB5.out)
  have HL2 := Lib.hid hl
  have HA2 : Hid (Away (fp g (.slice (some ⟨gl, 0, none⟩) (r.length + 1) cap)) w w2) := (HA1.out.mono (by simp)).next haw (fun x hx => .inl (by simp at hx; subst hx; simp [fp, Value.ownBlock]))
  clear hl haw KD HB5 HA1 e3 q0 q1
  have e3 := HC2.out.c3
  have f3 := HC2.out.free 3
  go_upto_region 6 with fail
  have HC3 := Lib.hid (HC2.out.line (.slice (some ⟨gl, 0, none⟩) r.length cap))
  have haw := (Away.refl [g] w2).setCell (p := ⟨g, 3, none⟩) (.inl (by simp)) (.slice (some ⟨gl, 0, none⟩) r.length cap)
  replace HL2 := Lib.hid (HL2.out.away haw (fun k hk => by simp [Value.ownBlock] at hk; simp; omega))
  replace HB2 := Lib.hid (haw.keep (by simp; omega) HB2.out)
  replace HA2 := Lib.hid (HA2.out.next haw (fun x hx => .inl (by simp at hx; simp [fp, hx])))
  clear haw e3 f3 HC2
  generalize World.setCell w2 ⟨g, 3, none⟩ (.slice (some ⟨gl, 0, none⟩) r.length cap) = w3 at *
  generalize hk5 : w.heap.size = k5 at *
  have e4 := HC3.out.c4
  rw [sumT_cons] at e4
  simp only at e4
  have f4 := HC3.out.free 4
  have b5 : w3.cell? ⟨k5, 1, none⟩ = some (.int .i64 m) := by rw [cell_of_block HB2.out]; rfl
  have x1 : m + sumT r - m = sumT r := by omega
  generalize hsr : sumT r = sr at *
  have HSR := Lib.hid hsr
  clear hsr
  go_region
  have HC4 := Lib.hid (HC3.out.held sr)
  have haw := ((Away.refl [g] w3).setCell (p := ⟨g, 4, none⟩) (.inl (by simp)) (.int .i64 sr)).drew
  replace HC4 : Hid (Cel (w3.setCell ⟨g, 4, none⟩ (.int .i64 sr)).drew g c b F (.slice (some ⟨gl, 0, none⟩) r.length cap) sr) := HC4.out
  replace HL2 := Lib.hid (HL2.out.away haw (fun k hk => by simp [Value.ownBlock] at hk; simp; omega))
  replace HB2 := Lib.hid (haw.keep (by simp; omega) HB2.out)
  replace HA2 := Lib.hid (HA2.out.next haw (fun x hx => .inl (by simp at hx; simp [fp, hx])))
  clear haw e4 f4 b5 HC3
  generalize World.drew (World.setCell w3 ⟨g, 4, none⟩ (.int .i64 sr)) = w4 at *
  have b0 : w4.cell? ⟨k5, 0, none⟩ = some (.string s0) := by rw [cell_of_block HB2.out]; rfl
  go_wp2_with fail
  go_ret2
  exact ⟨rfl, _, ⟨by rw [HSR.out]; exact HC4.out, HL2.out, fun t ht => H.out.ok t (by simp [ht]), fun k hk => by simp [Value.ownBlock] at hk; omega, H.out.bnd.pop⟩, HA2.out, fun k hk => .inl (by simpa [Value.ownBlock] using hk)⟩
theorem pop_none {w : World} {g : Nat} {v : Value} {c b : Int} {F : Nat} (h : Qu w g v c b F []) :
    Calls Try.prog 37 #[.pointer (some ⟨g, 0, none⟩)] w fun E w' => E = .returned (.tuple #[(.string ⟨#[]⟩), .bool false]) ∧ Away [] w w' := by
  obtain ⟨a, cap, rfl, -⟩ := h.lst.sl
  have e3 := h.cel.c3
  clear h
  go_enter Try.func37, Try.ntmps37
  go_wp2_with fail
  go_ret2
  exact ⟨rfl, Away.refl _ _⟩
end Go.Proofs.Ytdgkkbiodhbmeaa.KS
