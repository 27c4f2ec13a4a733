/-
  Queues of kind KT: Pop.
-/
import Derived.Test.YtdgkkbiodhbmeaaKTQ
namespace Go.Proofs.Ytdgkkbiodhbmeaa.KT
open Go.ChangeShapes Go.WideShapes Go.ChangeAt Go.RowKit
set_option linter.unusedVariables false
set_option linter.unusedSimpArgs false
set_option maxRecDepth 100000

theorem wpList_storeR {ops : Array Oper} {rest : List Oper} {o : Oper} {a : Act} {w : World} {Q : Exit → Act → World → Prop} (hw : Region.wanted o (yielded ops a.tmps) = true) (x y : Operand) (ho : o.op = .store 32 x y)
    (g : Nat) (hx : a.eval x = .pointer (some ⟨g, 0, none⟩)) {s0 : ByteArray} {a1 : Int} {a2 : Option Addr} {n2 c2 : Nat} (hy : a.eval y = .agg #[.string s0, .int .i64 a1, .slice a2 n2 c2]) {old : Array Value} (hb : w.heap[g]? = some (.cells old 32 (0, 0))) (hs : old.size = 3)
    (h : ∀ w1, w1.heap[g]? = some (.cells #[.string s0, .int .i64 a1, .slice a2 n2 c2] 32 (0, 0)) → Away [g] w w1 → wpList Try.prog ops Q rest (a.put o.dst undef) w1) : wpList Try.prog ops Q (o :: rest) a w :=
  BigFrame.wpList_want hw fun K hK => wp_store_row 32 x y ho g #[.string s0, .int .i64 a1, .slice a2 n2 c2] hx hy 32 old hb infoX (by simp [hs]) (by simp [Value.oneCell']) (hK _ _ (h _ (by simp [World.setRow, Array.getElem?_modify, hb]) ((Away.refl [g] w).setRow (.inl (by simp)) _)))
theorem resultX {fn : Func} {t u : Tmp} (h : fn.results = #[.cell t 32, .tmp u]) (tmps : Array Value) (w : World) (k : Nat) {s0 : ByteArray} {a1 : Int} {a2 : Option Addr} {n2 c2 : Nat} (v : Value) (ht : tmps.getD t undef = .pointer (some ⟨k, 0, none⟩)) (hu : tmps.getD u undef = v) (hb : w.heap[k]? = some (.cells #[.string s0, .int .i64 a1, .slice a2 n2 c2] 32 (0, 0))) :
    (results fn tmps).run Try.prog w = .ok (.tuple #[.agg #[.string s0, .int .i64 a1, .slice a2 n2 c2], v]) w := by
  rw [results_cell_tmp h, ht, hu]
  simp only [asAddr, Sem.run_pure, Result.andThen, run_loadVar_row w k 32 32 #[.string s0, .int .i64 a1, .slice a2 n2 c2] (0, 0) _ hb Try.underlying32 rfl infoX]
def PopOut (w : World) (g : Nat) (v : Value) (c b : Int) (F : Nat) (x : Value) (r : List Th) (E : Ending) (w' : World) : Prop :=
  E = .returned (.tuple #[x, .bool true]) ∧ ∃ v', Qu w' g v' c b F r ∧ Away (fp g v) w w' ∧ Moved w v v'
set_option maxHeartbeats 4000000 in
theorem pop_some {w : World} {g : Nat} {v : Value} {c b : Int} {F : Nat} (s0 : ByteArray) (a1 : Int) (a2 : Option Addr) (n2 c2 : Nat) (m : Int) {r : List Th} (h : Qu w g v c b F (⟨[.string s0, .int .i64 a1, .slice a2 n2 c2], m⟩ :: r)) :
    Calls Try.prog 36 #[.pointer (some ⟨g, 0, none⟩)] w fun E w' => PopOut w g v c b F (.agg #[.string s0, .int .i64 a1, .slice a2 n2 c2]) r E w' := by
  obtain ⟨gl, cap, rfl⟩ : ∃ gl cap, v = .slice (some ⟨gl, 0, none⟩) (r.length + 1) cap := by
    rcases h.lst.shp with ⟨-, h1⟩ | ⟨gl, cap, h1⟩
    · simp at h1
    · exact ⟨gl, cap, by rw [h1]; rfl⟩
  have H := Lib.hid h
  have hg := h.cel.lt
  have hgl := h.lst.lt gl rfl
  have hlen := h.bnd.ten
  have hne := h.ne gl rfl
  have hm0 := h.bnd.pos _ (List.mem_cons_self)
  have hs0 := sumT_pos h.bnd.pos
  have hs1 := h.bnd.sum
  have hb1 := h.bnd.b1
  have hs2 := sumT_pos h.bnd.pop.pos
  rw [sumT_cons] at hs0 hs1
  simp only [List.length_cons] at hlen
  simp only at hm0 hs0 hs1
  have d1 : (((r.length + 1 : Nat) : Int) == 0) = false := by simp; omega
  have d2 : (0 : Int) < ((r.length + 1 : Nat) : Int) := by omega
  clear h
  have HA0 : Hid (Away [] w (w.alloc (.cells #[.string ⟨#[]⟩, .int .i64 0, .slice none 0 0] 32))) := (Away.refl [] w).alloc _
  have HBR : Hid ((w.alloc (.cells #[.string ⟨#[]⟩, .int .i64 0, .slice none 0 0] 32)).heap[w.heap.size]? = some (.cells #[.string ⟨#[]⟩, .int .i64 0, .slice none 0 0] 32 (0, 0))) := block_new w _
  go_enter Try.func36, Try.ntmps36
  go_upto_region 1 with fail
  replace H := Lib.hid (H.out.on HA0.out)
  have hgr : g < w.heap.size := hg
  have hglr : gl < w.heap.size := hgl
  clear hg hgl
  generalize hkw : w.heap.size = kr at HBR hgr hglr ⊢
  have hkw2 : w.heap.size ≤ kr := by omega
  clear hkw
  generalize w.alloc (.cells #[.string ⟨#[]⟩, .int .i64 0, .slice none 0 0] 32) = w0 at *
  have hg := H.out.cel.lt
  have hgl := H.out.lst.lt gl rfl
  have hkr := lt_of_block HBR.out
  have hr := H.out.lst.at (g := gl) (cap := cap) H.out.ok (i := 0) rfl
  have q0 : w0.cell? ⟨gl, 0, none⟩ = some (.string s0) := by have h1 := hr 0 _ rfl; simpa using h1
  have q1 : w0.cell? ⟨gl, 1, none⟩ = some (.int .i64 a1) := by have h1 := hr 1 _ rfl; simpa using h1
  have q2 : w0.cell? ⟨gl, 2, none⟩ = some (.slice a2 n2 c2) := by have h1 := hr 2 _ rfl; simpa using h1
  have q3 : w0.cell? ⟨gl, 3, none⟩ = some (.int .i64 m) := by have h1 := hr 3 _ rfl; simpa using h1
  have e3 := H.out.cel.c3
  clear hr
  have HA1 : Hid (Away [] w0 (w0.alloc (.cells #[.string s0, .int .i64 a1, .slice a2 n2 c2, .int .i64 m] 101))) := (Away.refl [] w0).alloc _
  have HB5 : Hid ((w0.alloc (.cells #[.string s0, .int .i64 a1, .slice a2 n2 c2, .int .i64 m] 101)).heap[w0.heap.size]? = some (.cells #[.string s0, .int .i64 a1, .slice a2 n2 c2, .int .i64 m] 101 (0, 0))) := block_new w0 _
  have KD : Hid (Calls Try.prog 43 #[.slice (some ⟨gl, 0, none⟩) (r.length + 1) cap, .int .i64 0, .int .i64 1] (w0.alloc (.cells #[.string s0, .int .i64 a1, .slice a2 n2 c2, .int .i64 m] 101)) fun E w' => E = .returned (.slice (some ⟨gl, 0, none⟩) r.length cap) ∧ LstD w' (.slice (some ⟨gl, 0, none⟩) r.length cap) r ∧ Away [gl] (w0.alloc (.cells #[.string s0, .int .i64 a1, .slice a2 n2 c2, .int .i64 m] 101)) w') := by
    refine Lib.hid ?_
    have h1 := delete_c (w0.alloc (.cells #[.string s0, .int .i64 a1, .slice a2 n2 c2, .int .i64 m] 101)) gl cap (⟨[.string s0, .int .i64 a1, .slice a2 n2 c2], m⟩ :: r) 0 r.length (H.out.lst.on HA1.out) H.out.ok (by simp; omega) (by simp; omega)
    simpa using h1
  go_wp2_with fail
  refine KD.out.mono ?_
  rintro E w2 ⟨rfl, hl, haw⟩
  have HC2 := Lib.hid ((H.out.cel.away HA1.out (by simp)).away haw (by simp; omega))
  have HB2 := Lib.hid (haw.keep (by simp; omega) HB5.out)
  have HL2 := Lib.hid hl
  replace HBR := Lib.hid (haw.keep (by simp; omega) (HA1.out.keep (by simp) HBR.out))
  have HA2 : Hid (Away (fp g (.slice (some ⟨gl, 0, none⟩) (r.length + 1) cap)) w w2) := ((HA0.out.trans HA1.out).mono (by simp)).next haw (fun x hx => .inl (by simp at hx; subst hx; simp [fp, Value.ownBlock]))
  clear hl haw KD HB5 HA1 e3 q0 q1 q2 q3
  have e3 := HC2.out.c3
  have f3 := HC2.out.free 3
  go_upto_region 6 with fail
  have HC3 := Lib.hid (HC2.out.line (.slice (some ⟨gl, 0, none⟩) r.length cap))
  have haw := (Away.refl [g] w2).setCell (p := ⟨g, 3, none⟩) (.inl (by simp)) (.slice (some ⟨gl, 0, none⟩) r.length cap)
  replace HL2 := Lib.hid (HL2.out.away haw (fun k hk => by simp [Value.ownBlock] at hk; simp; omega))
  replace HB2 := Lib.hid (haw.keep (by simp; omega) HB2.out)
  replace HA2 := Lib.hid (HA2.out.next haw (fun x hx => .inl (by simp at hx; simp [fp, hx])))
  replace HBR := Lib.hid (haw.keep (by simp; omega) HBR.out)
  clear haw e3 f3 HC2
  generalize World.setCell w2 ⟨g, 3, none⟩ (.slice (some ⟨gl, 0, none⟩) r.length cap) = w3 at *
  generalize hk5 : w0.heap.size = k5 at *
  have e4 := HC3.out.c4
  rw [sumT_cons] at e4
  simp only at e4
  have f4 := HC3.out.free 4
  have b5 : w3.cell? ⟨k5, 3, none⟩ = some (.int .i64 m) := by rw [cell_of_block HB2.out]; rfl
  have x1 : m + sumT r - m = sumT r := by omega
  generalize hsr : sumT r = sr at *
  have HSR := Lib.hid hsr
  clear hsr
  go_region
  have HC4 := Lib.hid (HC3.out.held sr)
  have haw := ((Away.refl [g] w3).setCell (p := ⟨g, 4, none⟩) (.inl (by simp)) (.int .i64 sr)).drew
  replace HC4 : Hid (Cel (w3.setCell ⟨g, 4, none⟩ (.int .i64 sr)).drew g c b F (.slice (some ⟨gl, 0, none⟩) r.length cap) sr) := HC4.out
  replace HL2 := Lib.hid (HL2.out.away haw (fun k hk => by simp [Value.ownBlock] at hk; simp; omega))
  replace HB2 := Lib.hid (haw.keep (by simp; omega) HB2.out)
  replace HA2 := Lib.hid (HA2.out.next haw (fun x hx => .inl (by simp at hx; simp [fp, hx])))
  replace HBR := Lib.hid (haw.keep (by simp; omega) HBR.out)
  clear haw e4 f4 b5 HC3
  generalize World.drew (World.setCell w3 ⟨g, 4, none⟩ (.int .i64 sr)) = w4 at *
  have b0 : w4.cell? ⟨k5, 0, none⟩ = some (.string s0) := by rw [cell_of_block HB2.out]; rfl
  have b1 : w4.cell? ⟨k5, 1, none⟩ = some (.int .i64 a1) := by rw [cell_of_block HB2.out]; rfl
  have b2 : w4.cell? ⟨k5, 2, none⟩ = some (.slice a2 n2 c2) := by rw [cell_of_block HB2.out]; rfl
  go_wp2_with (refine wpList_storeR rfl _ _ rfl kr rfl rfl (by exact HBR.out) rfl ?_; refine Hid.out ?_)
  refine Lib.hid ?_
  intro w5 hbr haw
  replace HC4 := Lib.hid (HC4.out.away haw (by simp; omega))
  replace HL2 := Lib.hid (HL2.out.away haw (fun k hk => by simp [Value.ownBlock] at hk; simp; omega))
  replace HA2 := Lib.hid (HA2.out.next haw (fun x hx => .inr (by simp at hx; omega)))
  have HBR5 := Lib.hid hbr
  clear hbr haw b0 b1 b2
  go_wp2_with fail
  refine bodyPost_ret (resultX rfl _ _ _ _ rfl rfl HBR5.out) rfl ?_
  exact ⟨rfl, _, ⟨by rw [HSR.out]; exact HC4.out, HL2.out, fun t ht => H.out.ok t (by simp [ht]), fun k hk => by simp [Value.ownBlock] at hk; omega, H.out.bnd.pop⟩, HA2.out, fun k hk => .inl (by simpa [Value.ownBlock] using hk)⟩
theorem pop_none {w : World} {g : Nat} {v : Value} {c b : Int} {F : Nat} (h : Qu w g v c b F []) :
    Calls Try.prog 36 #[.pointer (some ⟨g, 0, none⟩)] w fun E w' => E = .returned (.tuple #[(.agg #[.string ⟨#[]⟩, .int .i64 0, .slice none 0 0]), .bool false]) ∧ Away [] w w' := by
  obtain ⟨a, cap, rfl, -⟩ := h.lst.sl
  have H := Lib.hid h
  clear h
  have HA0 : Hid (Away [] w (w.alloc (.cells #[.string ⟨#[]⟩, .int .i64 0, .slice none 0 0] 32))) := (Away.refl [] w).alloc _
  have HBR : Hid ((w.alloc (.cells #[.string ⟨#[]⟩, .int .i64 0, .slice none 0 0] 32)).heap[w.heap.size]? = some (.cells #[.string ⟨#[]⟩, .int .i64 0, .slice none 0 0] 32 (0, 0))) := block_new w _
  go_enter Try.func36, Try.ntmps36
  go_upto_region 1 with fail
  replace H := Lib.hid (H.out.on HA0.out)
  generalize hkw : w.heap.size = kr at HBR ⊢
  have hkw2 : w.heap.size ≤ kr := by omega
  clear hkw
  generalize w.alloc (.cells #[.string ⟨#[]⟩, .int .i64 0, .slice none 0 0] 32) = w0 at *
  have e3 := H.out.cel.c3
  have HA1 : Hid (Away [] w0 (w0.alloc (.cells #[.string ⟨#[]⟩, .int .i64 0, .slice none 0 0] 32))) := (Away.refl [] w0).alloc _
  have HBR1 := Lib.hid (HA1.out.keep (by simp) HBR.out)
  go_wp2_with (refine wpList_storeR rfl _ _ rfl kr rfl rfl (by exact HBR1.out) rfl ?_; refine Hid.out ?_)
  refine Lib.hid ?_
  intro w5 hbr haw
  have HA2 := Lib.hid ((HA0.out.trans HA1.out).next haw (fun x hx => .inr (by simp at hx; omega)))
  have HBR5 := Lib.hid hbr
  clear hbr haw
  go_wp2_with fail
  refine bodyPost_ret (resultX rfl _ _ _ _ rfl rfl HBR5.out) rfl ?_
  exact ⟨rfl, HA2.out⟩
end Go.Proofs.Ytdgkkbiodhbmeaa.KT
