/-
  'got', by its contract.
-/
import Derived.Test.YtaiomhhndckccaaOps
namespace Go.Proofs.Ytaiomhhndckccaa
open Go.ChangeShapes Go.WideShapes Go.ChangeAt Go.RowKit Go.Deep
set_option linter.unusedVariables false

/-- What 'got' did. -/
def GotQ (w : World) (g d : Nat) (out want l : List Int) (e : Int) (E : Ending) (w' : World) : Prop :=
  ∃ b, E = .returned (.bool b) ∧ (out = want → b = true) ∧ Rd w' g d l e ∧ Away [g] w w'
theorem gotq_fin {w w1 w2 : World} {g d : Nat} {out want l : List Int} {e : Int} {b : Bool} (h0 : Away [] w w1) (hb : out = want → b = true) (hr : Rd w2 g d l e) (ha : Away [g] w1 w2) : GotQ w g d out want l e (.returned (.bool b)) w2 :=
  ⟨b, rfl, hb, hr, (h0.mono (by simp)).next ha (fun x hx => .inl hx)⟩

/-- The call's own bytes lie in old memory. -/
def OpD.old (B : Nat) (o : OpD) : Prop := o.b = [] ∨ ∀ y, o.ba = some y → y.block < B
theorem OpD.ok.old {w : World} {o : OpD} (h : o.ok w) : o.old w.heap.size := by
  rcases h.2.2.2.2.1.2.2 with h0 | ⟨b, off, h1, h2⟩
  · exact .inl h0
  · by_cases hb : o.b = []
    · exact .inl hb
    · right
      intro y hy
      rw [h1] at hy
      simp at hy
      subst hy
      exact block_lt_of_cell (h2 0 (by cases hh : o.b with | nil => exact absurd hh hb | cons _ _ => simp))

set_option maxRecDepth 100000 in
set_option maxHeartbeats 1000000 in
theorem got_any (B : Nat) (w : World) (g d : Nat) (l : List Int) (e : Int) (o : OpD) (h : Rd w g d l e) (ho : o.ok w) (hold : o.old B) (hBg : B ≤ g) :
    Calls Try.prog 36 #[.pointer (some ⟨g, 0, none⟩), .agg #[.int .i64 o.kd, .int .i64 o.who, .int .i64 o.n, .int .u32 o.v, .slice o.ba o.b.length o.bc]] w fun E w' => GotQ w g d (rdOut l e (opBytes o).length) (opBytes o) (rdRest l e (opBytes o).length) (rdErr l e (opBytes o).length) E w' := by
  have hA : Away [] w (w.alloc (box55 o)) := (Away.refl [] w).alloc _
  have hRD := h.away hA (by simp) (by simp)
  have HO : Hid (o.ok (w.alloc (box55 o))) := ho.away (S := []) hA
  have hv0 := ho.2.2.2.1.1
  have hv1 := ho.2.2.2.1.2
  have hgw : g < w.heap.size := h.lt.1
  have hgn : w.heap.size ∉ [g] := by simp; omega
  obtain ⟨kd, who, n, x, ba, bc, b⟩ := o
  have hold' : b = [] ∨ ∀ y, ba = some y → y.block < B := hold
  simp only at hv0 hv1 ⊢
  clear hold
  unfold box55 at hA hRD HO
  simp only at hA hRD HO
  have x3 : (w.alloc (.cells #[.int .i64 kd, .int .i64 who, .int .i64 n, .int .u32 x, .slice ba b.length bc] 55)).cell? ⟨w.heap.size, 3, none⟩ = some (.int .u32 x) := by rw [World.cell?_alloc_at (hn := rfl)]; rfl
  have x4 : (w.alloc (.cells #[.int .i64 kd, .int .i64 who, .int .i64 n, .int .u32 x, .slice ba b.length bc] 55)).cell? ⟨w.heap.size, 4, none⟩ = some (.slice ba b.length bc) := by rw [World.cell?_alloc_at (hn := rfl)]; rfl
  clear h ho
  by_cases h1 : kd = 1
  · subst h1
    have e1 : opBytes ⟨1, who, n, x, ba, bc, b⟩ = [x % 256] := by simp [opBytes]
    rw [e1]
    rw [show ([x % 256] : List Int).length = 1 from rfl]
    have KEY : Hid (∀ W : World, Rd W g d l e → Calls Try.prog 30 #[.pointer (some ⟨g, 0, none⟩)] W fun E w' => Numb .u8 W g d (num (rdOut l e 1)) (rdRest l e 1) (rdErr l e 1) E w') := fun W hW => u8_any W g d l e hW
    have HB : Hid (rdOut l e 1 = [x % 256] → (num (rdOut l e 1) == x % 256) = true) := by
      intro hh; rw [hh]; simp [num]
    have hw8 : IntKind.u8.wrap x = x % 256 := IntKind.wrap_u8' x
    generalize rdOut l e ((1 : Nat) : Int) = out at *
    generalize rdRest l e ((1 : Nat) : Int) = l' at *
    generalize rdErr l e ((1 : Nat) : Int) = e' at *
    generalize num out = z at *
    clear e1 HO
    go_enter Try.func36, Try.ntmps36
    go_wp2_with fail
    go_region_held3 (fun w' => w'.cell? ⟨w.heap.size, 3, none⟩ = some (.int .u32 x)) (go_keep)
      (first
        | (go_at_call 30; refine (KEY.out _ (by exact hRD)).mono ?_; rintro E w2 ⟨rfl, hrd2, haw2⟩; have z0 := haw2.undrew.cell hgn x3))
    go_wp2_with fail
    go_ret
    exact gotq_fin hA HB.out hrd2 haw2.undrew
  have b1 : (kd == 1) = false := by simp [h1]
  by_cases h2 : kd = 2
  · subst h2
    have e1 : opBytes ⟨2, who, n, x, ba, bc, b⟩ = [x % 65536 / 256, x % 65536 % 256] := by simp [opBytes]
    rw [e1]
    rw [show ([x % 65536 / 256, x % 65536 % 256] : List Int).length = 2 from rfl]
    have KEY : Hid (∀ W : World, Rd W g d l e → Calls Try.prog 12 #[.pointer (some ⟨g, 0, none⟩)] W fun E w' => Numb .u16 W g d (num (rdOut l e 2)) (rdRest l e 2) (rdErr l e 2) E w') := fun W hW => u16_any W g d l e hW
    have HB : Hid (rdOut l e 2 = [x % 65536 / 256, x % 65536 % 256] → (num (rdOut l e 2) == x % 65536) = true) := by
      intro hh; rw [hh]; simp [num]; omega
    have hw16 : IntKind.u16.wrap x = x % 65536 := IntKind.wrap_u16 x
    generalize rdOut l e ((2 : Nat) : Int) = out at *
    generalize rdRest l e ((2 : Nat) : Int) = l' at *
    generalize rdErr l e ((2 : Nat) : Int) = e' at *
    generalize num out = z at *
    clear e1 HO
    go_enter Try.func36, Try.ntmps36
    go_wp2_with fail
    go_region_held3 (fun w' => w'.cell? ⟨w.heap.size, 3, none⟩ = some (.int .u32 x)) (go_keep)
      (first
        | (go_at_call 12; refine (KEY.out _ (by exact hRD)).mono ?_; rintro E w2 ⟨rfl, hrd2, haw2⟩; have z0 := haw2.undrew.cell hgn x3))
    go_wp2_with fail
    go_ret
    exact gotq_fin hA HB.out hrd2 haw2.undrew
  have b2 : (kd == 2) = false := by simp [h2]
  by_cases h3 : kd = 3
  · subst h3
    have e1 : opBytes ⟨3, who, n, x, ba, bc, b⟩ = [x / 16777216, x / 65536 % 256, x / 256 % 256, x % 256] := by simp [opBytes]
    rw [e1]
    rw [show ([x / 16777216, x / 65536 % 256, x / 256 % 256, x % 256] : List Int).length = 4 from rfl]
    have KEY : Hid (∀ W : World, Rd W g d l e → Calls Try.prog 13 #[.pointer (some ⟨g, 0, none⟩)] W fun E w' => Numb .u32 W g d (num (rdOut l e 4)) (rdRest l e 4) (rdErr l e 4) E w') := fun W hW => u32_any W g d l e hW
    have HB : Hid (rdOut l e 4 = [x / 16777216, x / 65536 % 256, x / 256 % 256, x % 256] → (num (rdOut l e 4) == x) = true) := by
      intro hh; rw [hh]; simp [num]; omega
    generalize rdOut l e ((4 : Nat) : Int) = out at *
    generalize rdRest l e ((4 : Nat) : Int) = l' at *
    generalize rdErr l e ((4 : Nat) : Int) = e' at *
    generalize num out = z at *
    clear e1 HO
    go_enter Try.func36, Try.ntmps36
    go_wp2_with fail
    go_region_held3 (fun w' => w'.cell? ⟨w.heap.size, 3, none⟩ = some (.int .u32 x)) (go_keep)
      (first
        | (go_at_call 13; refine (KEY.out _ (by exact hRD)).mono ?_; rintro E w2 ⟨rfl, hrd2, haw2⟩; have z0 := haw2.undrew.cell hgn x3))
    go_wp2_with fail
    go_ret
    exact gotq_fin hA HB.out hrd2 haw2.undrew
  have b3 : (kd == 3) = false := by simp [h3]
  by_cases h4 : kd = 4
  · subst h4
    have e1 : opBytes ⟨4, who, n, x, ba, bc, b⟩ = b := by simp [opBytes]
    rw [e1]
    obtain ⟨_, _, _, _, hrow, hnone, hlb, hbc⟩ := HO.out
    simp only at hrow hnone hlb hbc
    have KEY : Hid (∀ W : World, Rd W g d l e → Calls Try.prog 21 #[.pointer (some ⟨g, 0, none⟩), .int .i64 b.length] W fun E w' => Gave W g d (rdOut l e b.length) (rdRest l e b.length) (rdErr l e b.length) E w') := fun W hW => bytes_any W g d l e b.length hW
    generalize rdOut l e b.length = out at *
    generalize rdRest l e b.length = l' at *
    generalize rdErr l e b.length = e' at *
    have HR : Hid (Row (w.alloc (.cells #[.int .i64 4, .int .i64 who, .int .i64 n, .int .u32 x, .slice ba b.length bc] 55)) ba b) := hrow
    have HR2 : Hid (∀ W : World, Away [g] (w.alloc (.cells #[.int .i64 4, .int .i64 who, .int .i64 n, .int .u32 x, .slice ba b.length bc] 55)) W → Row W ba b) := by
      intro W hW
      rcases hold' with h0 | h0
      · rw [h0]; exact Row.nil _ _
      · exact hrow.away hW (fun y hy => by have := h0 y hy; simp; omega)
    clear e1 HO hrow
    go_enter Try.func36, Try.ntmps36
    go_wp2_with fail
    go_region_held3 (fun w' => w'.cell? ⟨w.heap.size, 4, none⟩ = some (.slice ba b.length bc)) (go_keep)
      (first
        | (go_at_call 21; refine (KEY.out _ (by exact hRD)).mono ?_; rintro E w2 ⟨v2, rfl, hown2, hnew2, hrd2, haw2, hb2, hl2⟩; obtain ⟨a2, cap2, rfl, hcap2, hnone2, hrow2, _⟩ := hown2.row hl2 hb2; have z0 := haw2.undrew.cell hgn x4; have hrb := HR2.out _ haw2.undrew)
        | (go_at_call 20; refine (same_any a2 ba out b _ _ _ _ _ rfl rfl hnone2 hnone (by exact hrow2) (by exact hrb)).mono ?_; rintro E w' ⟨rfl, rfl⟩))
    go_wp2_with fail
    go_ret
    exact gotq_fin hA (fun h => decide_eq_true h) hrd2 haw2.undrew
  · have b4 : (kd == 4) = false := by simp [h4]
    have e1 : opBytes ⟨kd, who, n, x, ba, bc, b⟩ = [] := by simp [opBytes, h1, h2, h3, h4]
    have e2 : rdRest l e (([] : List Int).length : Nat) = l := by unfold rdRest; split <;> simp
    have e3 : rdErr l e (([] : List Int).length : Nat) = e := by
      unfold rdErr
      by_cases he : e = 0
      · rw [if_pos he, if_neg (by simp), if_pos (by simp), he]
      · rw [if_neg he]
    rw [e1, e2, e3]
    clear e1 e2 e3 HO
    generalize rdOut l e (([] : List Int).length : Nat) = out at *
    go_enter Try.func36, Try.ntmps36
    go_wp2_with fail
    go_ret
    exact gotq_fin hA (fun _ => rfl) hRD (Away.refl _ _)
#print axioms got_any
end Go.Proofs.Ytaiomhhndckccaa
