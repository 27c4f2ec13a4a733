/-
  print4, print6: numbers as a text.
-/
import Derived.Test.YtoifolmcdkfniabGreatDoorHex
import Derived.Test.YtoifolmcdkfniabGreatDoorOwn
import Derived.Lib.ItoaLen
namespace Go.Proofs.YtoifolmcdkfniabGreatDoor
open Go.ChangeShapes Go.WideShapes Go.ChangeAt Go.RowKit
set_option linter.unusedVariables false
set_option maxHeartbeats 4000000
set_option maxRecDepth 100000

def strs (ts : List (List UInt8)) : List Value := ts.map (fun t => Value.string ⟨t.toArray⟩)
theorem join_c' (ts : List (List UInt8)) (c : UInt8) (w0 w : World) (v : Value) (hown : w.ownsRow w0.heap.size 9 1 v ts.length (strs ts)) (hlen : ts.length ≤ 8) (hshort : ∀ t ∈ ts, t.length ≤ 30) :
    Calls Tryz.prog 52 #[v, .string ⟨#[c]⟩] w fun e w' => e = .returned (.string ⟨(Lib.join ts [c]).toArray⟩) ∧ Below w.heap.size w w' := by
  rcases hown.2 with ⟨rfl, h0⟩ | ⟨g, cap, cur, rfl, hg, hh, hn, hc, hs, ht⟩
  · have : ts = [] := List.eq_nil_of_length_eq_zero h0
    subst this
    refine (Tryz.strings_Join_none none 0 ⟨#[c]⟩ w).mono ?_
    rintro e w' ⟨rfl, rfl⟩
    exact ⟨rfl, Below.refl _ _⟩
  · have hcell : ∀ (j : Nat) (x : ByteArray), (ts.map (fun t => (⟨t.toArray⟩ : ByteArray)))[j]? = some x → w.cell? ⟨g, 0 + j, none⟩ = some (.string x) := fun j x hj => by
      have hjl : j < ts.length := by simpa using (List.getElem?_eq_some_iff.1 hj).1
      rw [Nat.zero_add, World.ownsRow.cellAt hown j (by omega)]
      simp only [List.getElem?_map, strs] at hj ⊢
      rw [List.getElem?_eq_getElem hjl] at hj ⊢
      simp at hj ⊢
      exact hj
    have hjl : (Lib.join ts [c]).length ≤ 140737488355328 := by
      have : ∀ (ts : List (List UInt8)), ts.length ≤ 8 → (∀ t ∈ ts, t.length ≤ 30) → (Lib.join ts [c]).length ≤ 31 * ts.length := by
        intro ts _ hs
        cases ts with
        | nil => simp [Lib.join_nil]
        | cons x r =>
          rw [Lib.join_cons]
          have h1 := hs x (by simp)
          have h2 : ∀ r : List (List UInt8), (∀ t ∈ r, t.length ≤ 30) → (Lib.joinTail [c] r).length ≤ 31 * r.length := by
            intro r
            induction r with
            | nil => intro _; simp [Lib.joinTail]
            | cons y r ih =>
              intro hr
              have := ih (fun t ht => hr t (List.mem_cons_of_mem _ ht))
              have hy := hr y (by simp)
              simp only [Lib.joinTail, List.map_cons, List.flatten_cons, List.length_append, List.length_cons, List.length_nil] at this ⊢
              omega
          have h3 := h2 r (fun t ht => hs t (List.mem_cons_of_mem _ ht))
          simp only [List.length_append, List.length_cons]
          omega
      have := this ts hlen hshort
      omega
    have := Tryz.strings_Join g 0 cap (ts.map (fun t => (⟨t.toArray⟩ : ByteArray))) ⟨#[c]⟩ w hcell (World.ownsRow.lt hown g rfl).2 (by simp; omega) (by simpa using hn) (by simpa [Function.comp_def] using hjl)
    simpa [Function.comp_def] using this
def printG (gs : List Nat) : List UInt8 := Lib.join (gs.map hx) [58]
theorem hx_len (n : Nat) : (hx n).length ≤ 30 := by
  unfold hx; rw [low_length]; unfold nd; split <;> (try split) <;> (try split) <;> omega
theorem print6_c (gs : List Nat) (hl : gs.length ≤ 8) (hb : ∀ g ∈ gs, g < 65536) (ad : Option Addr) (c : Nat) (w : World) (hg : Glob w) (hsrc : 0 < gs.length → ∃ b o, ad = some ⟨b, o, none⟩ ∧ ∀ (j x : Nat), gs[j]? = some x → w.cell? ⟨b, o + j, none⟩ = some (.int .u16 (x : Int))) :
    Calls Tryz.prog 35 #[.slice ad gs.length c] w fun e w' => e = .returned (.string ⟨(printG gs).toArray⟩) ∧ Below w.heap.size w w' := by
  have HG := Lib.hid hg; clear hg
  have HSRC := Lib.hid hsrc; clear hsrc
  obtain ⟨res, hres⟩ : ∃ r, r = printG gs := ⟨_, rfl⟩
  rw [← hres]
  have HRES := Lib.hid hres; clear hres
  obtain ⟨n, hn⟩ : ∃ n, n = gs.length := ⟨_, rfl⟩
  rw [← hn]
  have hn8 : n ≤ 8 := by omega
  have HN := Lib.hid hn; clear hn
  go_enter Tryz.func35, Tryz.ntmps35
  go_wp2_with fail
  go_loopw [8, 3] (fun i v wr => ∃ k : Nat, k ≤ n ∧ i = .int .i64 (k : Int) ∧ wr.ownsRow w.heap.size 9 1 v k (strs ((gs.take k).map hx)) ∧ Below w.heap.size w wr) (fun i _ _ => n - (intOf i).toNat)
  case atStart => exact ⟨0, by omega, rfl, World.ownsRow_nil _ _ _ _, Below.refl _ _⟩
  case round =>
    obtain ⟨k, hk, rfl, hown, hbel⟩ := hrel
    obtain ⟨va, vc, rfl, _, _⟩ := own_shape hown
    have hs3 := hbel.size
    have HOWN := Lib.hid hown; have HBEL := Lib.hid hbel
    by_cases hlt : k < n
    · obtain ⟨x, hx0⟩ : ∃ x, gs[k]? = some x := ⟨_, List.getElem?_eq_getElem (by rw [← HN.out]; exact hlt)⟩
      have hxb : x < 65536 := hb x (List.mem_of_getElem? hx0)
      have hxi : (x : Int) < 65536 := by omega
      obtain ⟨b, o, rfl, hcell⟩ := HSRC.out (by rw [← HN.out]; omega)
      have cx0 := hcell k x hx0
      have cx : wr.cell? ⟨b, o + k, none⟩ = some (.int .u16 (x : Int)) := (hbel.cell (block_lt_of_cell cx0)).trans cx0
      have b1 : decide ((k : Int) < (n : Int)) = true := by simp; omega
      have b2 : 0 ≤ (k : Int) := by omega
      have b3 : (k : Int) < (n : Int) := by omega
      have b4 : ((k : Int)).toNat = k := by omega
      have HF : Hid (Calls Tryz.prog 53 #[.int .u64 (x : Int), .int .i64 16] wr fun e w' => e = .returned (.string ⟨(hx x).toArray⟩) ∧ Below wr.heap.size wr w') := Lib.hid (format_c x hxb wr (HG.out.on hbel))
      have HT : Hid (strs ((gs.take (k + 1)).map hx) = strs ((gs.take k).map hx) ++ [.string ⟨(hx x).toArray⟩]) := Lib.hid (by
        rw [List.take_add_one, hx0]; simp [strs])
      obtain ⟨tx, htx⟩ : ∃ t, t = hx x := ⟨_, rfl⟩
      rw [← htx] at HF HT
      clear htx hcell cx0 hx0 hown hbel
      go_wp2_with (first
        | (go_at_call 53; refine HF.out.mono ?_; rintro e w2 ⟨rfl, hb2⟩; have O2 := Lib.hid (own_below HOWN.out hb2); have B2 := Lib.hid (HBEL.out.trans (hb2.mono hs3)); have hs4 : w.heap.size ≤ w2.heap.size := B2.out.size; clear hb2)
        | (at_builtin; refine wpList_app1 rfl _ _ 93 rfl w.heap.size 9 (.string ⟨#[]⟩) 16 Tryz.underlying93 info9 rfl _ k _ rfl O2.out (.string ⟨tx.toArray⟩) rfl rfl (by omega) (by decide) hs4 ?_; intro v4 w4 o4 b4; obtain ⟨a4, c4, rfl, _, _⟩ := own_shape o4; have O4 := Lib.hid o4; have B4 := Lib.hid (B2.out.trans b4); clear o4 b4))
      go_roundw
      case rel => exact ⟨k + 1, by omega, by go_num, by rw [HT.out]; exact O4.out, B4.out⟩
      case measure => simp [intOf]; omega
    · obtain rfl : k = n := by omega
      have b1 : decide ((k : Int) < (k : Int)) = false := by simp
      have e1 : gs.take k = gs := List.take_of_length_le (by rw [HN.out]; exact Nat.le_refl _)
      have HJ : Hid (Calls Tryz.prog 52 #[.slice va k vc, .string ⟨#[58]⟩] wr fun e w' => e = .returned (.string ⟨res.toArray⟩) ∧ Below wr.heap.size wr w') := Lib.hid (by
        rw [HRES.out, printG]
        refine join_c' (gs.map hx) 58 w wr _ ?_ (by simpa using hl) (by intro t ht; simp at ht; obtain ⟨a, _, rfl⟩ := ht; exact hx_len a)
        rw [e1] at hown
        rw [List.length_map, ← HN.out]
        exact hown)
      clear hown hbel e1
      go_wp2_with (go_at_call 52; refine HJ.out.mono ?_; rintro e w2 ⟨rfl, hb2⟩)
      go_ret
      exact ⟨rfl, HBEL.out.trans (hb2.mono hs3)⟩
def printD (bs : List Int) : List UInt8 := Lib.join (bs.map Lib.itoa) [46]
theorem print4_c (bs : List Int) (hl : bs.length ≤ 8) (hb : ∀ x ∈ bs, 0 ≤ x ∧ x ≤ 255) (b o c : Nat) (w : World) (hg : Glob w) (hcell : ∀ j x, bs[j]? = some x → w.cell? ⟨b, o + j, none⟩ = some (.int .u8 x)) :
    Calls Tryz.prog 32 #[.slice (some ⟨b, o, none⟩) bs.length c] w fun e w' => e = .returned (.string ⟨(printD bs).toArray⟩) ∧ Below w.heap.size w w' := by
  have HG := Lib.hid hg; clear hg
  have HSRC := Lib.hid hcell; clear hcell
  obtain ⟨res, hres⟩ : ∃ r, r = printD bs := ⟨_, rfl⟩
  rw [← hres]
  have HRES := Lib.hid hres; clear hres
  obtain ⟨n, hn⟩ : ∃ n, n = bs.length := ⟨_, rfl⟩
  rw [← hn]
  have hn8 : n ≤ 8 := by omega
  have HN := Lib.hid hn; clear hn
  go_enter Tryz.func32, Tryz.ntmps32
  go_wp2_with fail
  go_loopw [8, 3] (fun i v wr => ∃ k : Nat, k ≤ n ∧ i = .int .i64 (k : Int) ∧ wr.ownsRow w.heap.size 9 1 v k (strs ((bs.take k).map Lib.itoa)) ∧ Below w.heap.size w wr) (fun i _ _ => n - (intOf i).toNat)
  case atStart => exact ⟨0, by omega, rfl, World.ownsRow_nil _ _ _ _, Below.refl _ _⟩
  case round =>
    obtain ⟨k, hk, rfl, hown, hbel⟩ := hrel
    obtain ⟨va, vc, rfl, _, _⟩ := own_shape hown
    have hs3 := hbel.size
    have HOWN := Lib.hid hown; have HBEL := Lib.hid hbel
    by_cases hlt : k < n
    · obtain ⟨x, hx0⟩ : ∃ x, bs[k]? = some x := ⟨_, List.getElem?_eq_getElem (by rw [← HN.out]; exact hlt)⟩
      obtain ⟨hx1, hx2⟩ := hb x (List.mem_of_getElem? hx0)
      have cx0 := HSRC.out k x hx0
      have cx : wr.cell? ⟨b, o + k, none⟩ = some (.int .u8 x) := (hbel.cell (block_lt_of_cell cx0)).trans cx0
      have b1 : decide ((k : Int) < (n : Int)) = true := by simp; omega
      have b2 : 0 ≤ (k : Int) := by omega
      have b3 : (k : Int) < (n : Int) := by omega
      have b4 : ((k : Int)).toNat = k := by omega
      have HF : Hid (Calls Tryz.prog 11 #[.int .i64 x] wr fun e w' => e = .returned (.string ⟨(Lib.itoa x).toArray⟩) ∧ Below wr.heap.size wr w') := Lib.hid ((Tryz.strconv_Itoa x (by omega) (by omega) wr (HG.out.on hbel).pow).mono (by
        rintro e w' ⟨rfl, q, os, rfl⟩
        exact ⟨rfl, ⟨rfl, rfl, rfl, by simp [Go.Sort.grow], fun j hj => by simp [Go.Sort.grow, Array.getElem?_append, hj]⟩⟩))
      have HT : Hid (strs ((bs.take (k + 1)).map Lib.itoa) = strs ((bs.take k).map Lib.itoa) ++ [.string ⟨(Lib.itoa x).toArray⟩]) := Lib.hid (by
        rw [List.take_add_one, hx0]; simp [strs])
      obtain ⟨tx, htx⟩ : ∃ t, t = Lib.itoa x := ⟨_, rfl⟩
      rw [← htx] at HF HT
      clear htx cx0 hx0 hown hbel
      go_wp2_with (first
        | (go_at_call 11; refine HF.out.mono ?_; rintro e w2 ⟨rfl, hb2⟩; have O2 := Lib.hid (own_below HOWN.out hb2); have B2 := Lib.hid (HBEL.out.trans (hb2.mono hs3)); have hs4 : w.heap.size ≤ w2.heap.size := B2.out.size; clear hb2)
        | (at_builtin; refine wpList_app1 rfl _ _ 93 rfl w.heap.size 9 (.string ⟨#[]⟩) 16 Tryz.underlying93 info9 rfl _ k _ rfl O2.out (.string ⟨tx.toArray⟩) rfl rfl (by omega) (by decide) hs4 ?_; intro v4 w4 o4 b4; obtain ⟨a4, c4, rfl, _, _⟩ := own_shape o4; have O4 := Lib.hid o4; have B4 := Lib.hid (B2.out.trans b4); clear o4 b4))
      go_roundw
      case rel => exact ⟨k + 1, by omega, by go_num, by rw [HT.out]; exact O4.out, B4.out⟩
      case measure => simp [intOf]; omega
    · obtain rfl : k = n := by omega
      have b1 : decide ((k : Int) < (k : Int)) = false := by simp
      have e1 : bs.take k = bs := List.take_of_length_le (by rw [HN.out]; exact Nat.le_refl _)
      have HJ : Hid (Calls Tryz.prog 52 #[.slice va k vc, .string ⟨#[46]⟩] wr fun e w' => e = .returned (.string ⟨res.toArray⟩) ∧ Below wr.heap.size wr w') := Lib.hid (by
        rw [HRES.out, printD]
        refine join_c' (bs.map Lib.itoa) 46 w wr _ ?_ (by simpa using hl) (by intro t ht; simp at ht; obtain ⟨a, ha, rfl⟩ := ht; have := hb a ha; have := Lib.itoa_length_le a (by omega) (by omega); omega)
        rw [e1] at hown
        rw [List.length_map, ← HN.out]
        exact hown)
      clear hown hbel e1
      go_wp2_with (go_at_call 52; refine HJ.out.mono ?_; rintro e w2 ⟨rfl, hb2⟩)
      go_ret
      exact ⟨rfl, HBEL.out.trans (hb2.mono hs3)⟩
end Go.Proofs.YtoifolmcdkfniabGreatDoor
