/-
  'put' and 'got', by their contracts.
-/
import Derived.Test.YtaiomhhndckccaaScript
import Derived.Deep.RegionHeld3
namespace Go.Proofs.Ytaiomhhndckccaa
open Go.ChangeShapes Go.WideShapes Go.ChangeAt Go.RowKit Go.Deep
set_option linter.unusedVariables false

/-- The bytes that a call writes. -/
def opBytes (o : OpD) : List Int :=
  if o.kd = 1 then [o.v % 256] else if o.kd = 2 then [o.v % 65536 / 256, o.v % 65536 % 256] else if o.kd = 3 then [o.v / 16777216, o.v / 65536 % 256, o.v / 256 % 256, o.v % 256] else if o.kd = 4 then o.b else []
theorem opBytes_bytes {w : World} {o : OpD} (h : o.ok w) : Bytes (opBytes o) := by
  have hv := h.2.2.2.1
  unfold opBytes
  split
  · exact Bytes.nil.cons (by omega) (by omega)
  · split
    · exact (Bytes.nil.cons (by omega) (by omega)).cons (by omega) (by omega)
    · split
      · exact (((Bytes.nil.cons (by omega) (by omega)).cons (by omega) (by omega)).cons (by omega) (by omega)).cons (by omega) (by omega)
      · split
        · exact h.2.2.2.2.1.2.1
        · exact Bytes.nil
theorem opBytes_len (o : OpD) : (opBytes o).length ≤ o.b.length + 4 := by
  unfold opBytes
  repeat' split
  all_goals simp

def box55 (o : OpD) : Obj := .cells #[.int .i64 o.kd, .int .i64 o.who, .int .i64 o.n, .int .u32 o.v, .slice o.ba o.b.length o.bc] 55

/-- What 'put' did. -/
def Putted (w : World) (g : Nat) (v : Value) (lim : Int) (l : List Int) (e : Int) (k : Int) (E : Ending) (w' : World) : Prop :=
  E = .returned (.int .i64 k) ∧ ∃ v', Wr w' g v' lim l e ∧ Moved w v v' ∧ Away (fp g v) w w'
theorem Wrote.putted {w w1 w2 : World} {g : Nat} {v : Value} {lim : Int} {l : List Int} {e k : Int} {E : Ending} (h0 : Away [] w w1) (h : Wrote w1 g v lim l e E w2) : Putted w g v lim l e k (.returned (.int .i64 k)) w2 := by
  obtain ⟨_, v', h1, h2, h3⟩ := h
  have hs := h0.size
  refine ⟨rfl, v', h1, fun j hj => ?_, (h0.mono (by simp)).next h3 (fun x hx => .inl hx)⟩
  rcases h2 j hj with h | h
  · exact .inl h
  · right; omega

set_option maxHeartbeats 1000000 in
theorem put_any (w : World) (g : Nat) (v : Value) (lim : Int) (l : List Int) (e : Int) (o : OpD) (h : Wr w g v lim l e) (ho : o.ok w) :
    Calls Try.prog 29 #[.pointer (some ⟨g, 0, none⟩), .agg #[.int .i64 o.kd, .int .i64 o.who, .int .i64 o.n, .int .u32 o.v, .slice o.ba o.b.length o.bc]] w fun E w' => Putted w g v lim (wrAll l e lim (opBytes o)) (wrErr l e lim (opBytes o).length) (opBytes o).length E w' := by
  have hA : Away [] w (w.alloc (box55 o)) := (Away.refl [] w).alloc _
  have HW : Hid (Wr (w.alloc (box55 o)) g v lim l e) := h.away hA (by simp) (by simp)
  have HO : Hid (o.ok (w.alloc (box55 o))) := ho.away (S := []) hA
  have hv0 := ho.2.2.2.1.1
  have hv1 := ho.2.2.2.1.2
  obtain ⟨kd, who, n, x, ba, bc, b⟩ := o
  simp only at hv0 hv1 ⊢
  have hll := h.2.2.2.2.1
  have h0lt := h.lt
  clear h ho
  by_cases h1 : kd = 1
  · subst h1
    have e1 : opBytes ⟨1, who, n, x, ba, bc, b⟩ = [x % 256] := by simp [opBytes]
    have KEY := w8_any _ g v lim l e (x % 256) HW.out (by omega) (by omega)
    rw [e1]
    rw [show ([x % 256] : List Int).length = 1 from rfl]
    generalize wrAll l e lim [x % 256] = l' at *
    unfold box55 at KEY
    clear e1 HO HW
    go_enter Try.func29, Try.ntmps29
    go_wp2_with fail
    refine KEY.mono ?_
    intro E w2 hq
    have hE := hq.1
    subst hE
    clear KEY
    go_wp2_with fail
    go_ret
    exact Wrote.putted hA hq
  have b1 : (kd == 1) = false := by simp [h1]
  by_cases h2 : kd = 2
  · subst h2
    have e1 : opBytes ⟨2, who, n, x, ba, bc, b⟩ = [x % 65536 / 256, x % 65536 % 256] := by simp [opBytes]
    have KEY := w16_any _ g v lim l e (x % 65536) HW.out (by omega) (by omega)
    rw [e1]
    rw [show ([x % 65536 / 256, x % 65536 % 256] : List Int).length = 2 from rfl]
    generalize wrAll l e lim [x % 65536 / 256, x % 65536 % 256] = l' at *
    unfold box55 at KEY
    clear e1 HO HW
    go_enter Try.func29, Try.ntmps29
    go_wp2_with fail
    refine KEY.mono ?_
    intro E w2 hq
    have hE := hq.1
    subst hE
    clear KEY
    go_wp2_with fail
    go_ret
    exact Wrote.putted hA hq
  have b2 : (kd == 2) = false := by simp [h2]
  by_cases h3 : kd = 3
  · subst h3
    have e1 : opBytes ⟨3, who, n, x, ba, bc, b⟩ = [x / 16777216, x / 65536 % 256, x / 256 % 256, x % 256] := by simp [opBytes]
    have KEY := w32_any _ g v lim l e x HW.out (by omega) (by omega)
    rw [e1]
    rw [show ([x / 16777216, x / 65536 % 256, x / 256 % 256, x % 256] : List Int).length = 4 from rfl]
    generalize wrAll l e lim [x / 16777216, x / 65536 % 256, x / 256 % 256, x % 256] = l' at *
    unfold box55 at KEY
    clear e1 HO HW
    go_enter Try.func29, Try.ntmps29
    go_wp2_with fail
    refine KEY.mono ?_
    intro E w2 hq
    have hE := hq.1
    subst hE
    clear KEY
    go_wp2_with fail
    go_ret
    exact Wrote.putted hA hq
  have b3 : (kd == 3) = false := by simp [h3]
  by_cases h4 : kd = 4
  · subst h4
    have e1 : opBytes ⟨4, who, n, x, ba, bc, b⟩ = b := by simp [opBytes]
    rw [e1]
    obtain ⟨_, _, _, _, hrow, hnone, hlb, hbc⟩ := HO.out
    simp only at hrow hnone hlb hbc
    clear e1 HO
    have hrow1 := hrow.1
    unfold box55 at hrow hA HW
    simp only at hrow hA HW
    go_enter Try.func29, Try.ntmps29
    go_wp2_with fail
    refine (own_any ba b _ bc _ rfl (by exact hrow)).mono ?_
    rintro E w2 ⟨v2, rfl, hown, hnew, haw, hbb, hbl⟩
    obtain ⟨a2, cap2, rfl, hcap2, hnone2, hrow2, _⟩ := hown.row hbl hbb
    have hw2 := HW.out.away haw (by simp) (by simp)
    have hA2 := hA.next haw (by simp)
    have c4 := haw.cell (b := w.heap.size) (o := 4) (by simp) (v := .slice ba b.length bc) (by rw [World.cell?_alloc_at (hn := rfl)]; rfl)
    clear hown hnew hrow haw
    go_wp2_with fail
    refine (wbytes_any _ g v lim l e a2 b _ cap2 (by exact hw2) rfl hnone2 (by exact hrow2)).mono ?_
    intro E w3 hq
    obtain ⟨hE, v3, q1, q2, q3⟩ := hq
    subst hE
    have hne : w.heap.size ∉ fp g v := by
      intro hm
      simp only [fp, List.mem_cons, Option.mem_toList] at hm
      have hlt := h0lt
      rcases hm with hm | hm
      · omega
      · have := hlt.2 _ hm; omega
    have d4 := q3.cell hne c4
    go_wp2_with fail
    go_ret
    exact Wrote.putted hA2 ⟨rfl, v3, q1, q2, q3⟩
  · have b4 : (kd == 4) = false := by simp [h4]
    have e1 : opBytes ⟨kd, who, n, x, ba, bc, b⟩ = [] := by simp [opBytes, h1, h2, h3, h4]
    have e2 : wrAll l e lim [] = l := by unfold wrAll; split <;> simp
    have e3 : wrErr l e lim ([] : List Int).length = e := by
      unfold wrErr
      by_cases he : e = 0
      · rw [if_pos he, if_pos (by simpa using hll), he]
      · rw [if_neg he]
    rw [e1, e2, e3]
    clear e1 e2 e3 HO
    unfold box55 at hA HW
    simp only at hA HW
    go_enter Try.func29, Try.ntmps29
    go_wp2_with fail
    go_ret
    exact ⟨rfl, v, HW.out, Moved.refl _ _, hA.mono (by simp)⟩
#print axioms put_any
end Go.Proofs.Ytaiomhhndckccaa
