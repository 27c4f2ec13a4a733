/-
  A text of an address is read as that address: lists of bytes.
-/
import Derived.Test.YtoifolmcdkfniabGreatDoorTxt
import Derived.Test.YtoifolmcdkfniabGreatDoorPrint
namespace Go.Proofs.YtoifolmcdkfniabGreatDoor
set_option linter.unusedVariables false
set_option maxHeartbeats 4000000
set_option maxRecDepth 100000

theorem pieces_free (c : UInt8) : ∀ (x : List UInt8), c ∉ x → pieces c x = [x]
  | [], _ => rfl
  | a :: x, h => by
    have h1 : a ≠ c := fun e => h (by simp [e])
    have h2 : c ∉ x := fun e => h (by simp [e])
    rw [pieces_miss _ h1, pieces_free c x h2]; simp [pcons]
theorem join_snoc (c : UInt8) (x : List UInt8) : ∀ (xs : List (List UInt8)), xs ≠ [] → Lib.join (xs ++ [x]) [c] = Lib.join xs [c] ++ c :: x
  | [], h => absurd rfl h
  | y :: ys, _ => by
    rw [List.cons_append, Lib.join_cons, Lib.join_cons]
    simp [Lib.joinTail]
theorem pieces_join (c : UInt8) (xs : List (List UInt8)) (hne : xs ≠ []) (h : ∀ x ∈ xs, c ∉ x) : pieces c (Lib.join xs [c]) = xs := by
  cases xs with
  | nil => exact absurd rfl hne
  | cons y ys =>
    clear hne
    induction ys generalizing y with
    | nil => rw [Lib.join_one]; exact pieces_free c y (h y (by simp))
    | cons z zs ih =>
      have e : Lib.join (y :: z :: zs) [c] = y ++ c :: Lib.join (z :: zs) [c] := by
        rw [Lib.join_cons, Lib.join_cons]; simp [Lib.joinTail]
      rw [e, pieces_app, pieces_free c y (h y (by simp)), ih z (fun x hx => h x (by simp [hx]))]
      rfl
theorem alls_snoc {α β : Type} (f : α → Option β) {x : α} {y : β} (hx : f x = some y) : ∀ {l : List α} {r : List β}, alls f l = some r → alls f (l ++ [x]) = some (r ++ [y])
  | [], r, h => by simp [alls] at h; subst h; simp [alls, hx]
  | a :: l, r, h => by
    simp only [alls] at h
    split at h
    · rename_i b s h1 h2
      simp only [Option.some.injEq] at h
      subst h
      have := alls_snoc f hx h2
      simp [alls, h1, this]
    · simp at h
/-- Texts of groups, with colons between them. -/
def Seg (t : List UInt8) (gs : List Nat) : Prop := ∃ xs, t = Lib.join xs [58] ∧ alls (numOf 16 4) xs = some gs ∧ ∀ x ∈ xs, (58 : UInt8) ∉ x
theorem Seg.nil : Seg [] [] := ⟨[], rfl, rfl, fun _ h => by cases h⟩
theorem Seg.snoc {t x : List UInt8} {gs : List Nat} {n : Nat} (h : Seg t gs) (hx : numOf 16 4 x = some n) (hc : (58 : UInt8) ∉ x) : Seg (if gs = [] then x else t ++ 58 :: x) (gs ++ [n]) := by
  obtain ⟨xs, rfl, ha, hf⟩ := h
  have hl := alls_length _ _ _ ha
  refine ⟨xs ++ [x], ?_, alls_snoc _ hx ha, fun y hy => ?_⟩
  · by_cases hz : gs = []
    · subst hz
      have : xs = [] := List.length_eq_zero_iff.1 hl.symm
      subst this
      simp [Lib.join_one]
    · rw [if_neg hz, join_snoc]
      intro h0; subst h0
      exact hz (List.length_eq_zero_iff.1 hl)
  · rcases List.mem_append.1 hy with hy | hy
    · exact hf y hy
    · simp at hy; subst hy; exact hc
theorem Seg.grps {t : List UInt8} {gs : List Nat} (h : Seg t gs) : grps t = some gs := by
  obtain ⟨xs, rfl, ha, hf⟩ := h
  cases xs with
  | nil => simp [alls] at ha; subst ha; rfl
  | cons x xs =>
    have hne : Lib.join (x :: xs) [58] ≠ [] := by
      intro h0
      have := pieces_join 58 (x :: xs) (by simp) hf
      rw [h0] at this
      simp [pieces] at this
      obtain ⟨rfl, rfl⟩ := this
      simp [alls, num_nil] at ha
    unfold Go.Proofs.YtoifolmcdkfniabGreatDoor.grps
    rw [if_neg hne, pieces_join 58 _ (by simp) hf, ha]
theorem Seg.colon {t : List UInt8} {gs : List Nat} (h : Seg t gs) (hg : 2 ≤ gs.length) : (58 : UInt8) ∈ t := by
  obtain ⟨xs, rfl, ha, hf⟩ := h
  have hl := alls_length _ _ _ ha
  cases xs with
  | nil => rw [List.length_nil] at hl; omega
  | cons x xs =>
    cases xs with
    | nil => rw [List.length_cons, List.length_nil] at hl; omega
    | cons y ys => rw [Lib.join_cons]; simp [Lib.joinTail]
theorem seg_full {t : List UInt8} {gs : List Nat} (h : Seg t gs) (hg : gs.length = 8) : parseP t = (6, unG gs, 0) := by
  unfold parseP
  rw [if_pos (h.colon (by omega)), grps_full h.grps hg]
theorem seg_gap {s t : List UInt8} {x y : List Nat} (h : Seg s x) (k : Seg t y) (hl : x.length + y.length ≤ 7) : parseP (s ++ 58 :: 58 :: t) = (6, unG (joinG x y), 0) := by
  have e1 : (s ++ 58 :: 58 :: t).take s.length = s := by simp
  have e2 : (s ++ 58 :: 58 :: t).drop (s.length + 2) = t := by rw [← List.drop_drop, List.drop_left]; rfl
  have : Hit (s ++ 58 :: 58 :: t) s.length x y := ⟨⟨t, by rw [e1], e2⟩, by rw [e1]; exact h.grps, by rw [e2]; exact k.grps, hl⟩
  unfold parseP
  rw [if_pos (by simp), hit_parse this]
/-! Groups as Print writes them. -/
theorem dig_hexd : ∀ m : Fin 16, dig (hexd m.val) = m.val ∧ hexd m.val ≠ 58 := by decide
theorem low_free (n : Nat) : ∀ k, (58 : UInt8) ∉ low n k
  | 0 => by simp [low]
  | k + 1 => by
    have := dig_hexd ⟨n / 16 ^ k % 16, Nat.mod_lt _ (by decide)⟩
    simp only [low, List.mem_cons, not_or]
    exact ⟨fun e => this.2 e.symm, low_free n k⟩
theorem digs_low (n : Nat) : ∀ k a, digs 16 a (low n k) = some (a * 16 ^ k + n % 16 ^ k)
  | 0, a => by simp [low, digs, Nat.mod_one]
  | k + 1, a => by
    have hd := (dig_hexd ⟨n / 16 ^ k % 16, Nat.mod_lt _ (by decide)⟩).1
    simp only at hd
    simp only [low, digs, hd]
    rw [if_pos (Nat.mod_lt _ (by decide)), digs_low n k]
    congr 1
    have h1 : n % 16 ^ (k + 1) = n % 16 ^ k + 16 ^ k * (n / 16 ^ k % 16) := by rw [Nat.pow_succ, Nat.mod_mul]
    rw [h1, Nat.add_mul, Nat.pow_succ, Nat.mul_comm (n / 16 ^ k % 16) (16 ^ k), Nat.mul_assoc, Nat.mul_comm 16 (16 ^ k)]
    omega
theorem num_hx {n : Nat} (h : n < 65536) : numOf 16 4 (hx n) = some n ∧ (58 : UInt8) ∉ hx n := by
  refine ⟨?_, low_free n _⟩
  have hk : nd n + 1 ≤ 4 ∧ n < 16 ^ (nd n + 1) := by
    unfold nd
    split
    · exact ⟨by omega, by omega⟩
    · split
      · exact ⟨by omega, by omega⟩
      · split
        · exact ⟨by omega, by omega⟩
        · exact ⟨by omega, by omega⟩
  unfold numOf hx
  rw [low_length, if_neg (by omega), digs_low, Nat.mod_eq_of_lt hk.2]
  simp
theorem seg_printG : ∀ (gs : List Nat), (∀ g ∈ gs, g < 65536) → Seg (printG gs) gs := by
  intro gs h
  refine ⟨gs.map hx, rfl, ?_, fun x hx' => ?_⟩
  · induction gs with
    | nil => rfl
    | cons g gs ih =>
      have h1 := (num_hx (h g (by simp))).1
      have h2 := ih (fun x hx => h x (by simp [hx]))
      simp [alls, h1, h2]
  · obtain ⟨g, hg, rfl⟩ := List.mem_map.1 hx'
    exact (num_hx (h g hg)).2
theorem zst_zero (gs : List Nat) : ∀ k, (∀ j, (zst gs k).1 ≤ j → j < (zst gs k).2.1 → gs.getD j 0 = 0) ∧ (∀ j, (zst gs k).2.2 ≤ j → j < k → gs.getD j 0 = 0)
  | 0 => ⟨fun j _ h => by simp [zst] at h, fun j _ h => by omega⟩
  | k + 1 => by
    obtain ⟨h1, h2⟩ := zst_zero gs k
    unfold zst
    split
    · exact ⟨h1, fun j a b => by simp only at a; omega⟩
    · rename_i hz
      have hz' : gs.getD k 0 = 0 := Decidable.not_not.1 hz
      have h2' : ∀ j, (zst gs k).2.2 ≤ j → j < k + 1 → gs.getD j 0 = 0 := fun j a b => by
        rcases Nat.lt_or_ge j k with hl | hg
        · exact h2 j a hl
        · obtain rfl : j = k := by omega
          exact hz'
      split
      · exact ⟨h2', h2'⟩
      · exact ⟨h1, h2'⟩
theorem joinG_self {gs : List Nat} {f t : Nat} (hg : gs.length = 8) (hft : f ≤ t) (ht : t ≤ 8) (hz : ∀ j, f ≤ j → j < t → gs.getD j 0 = 0) : joinG (gs.take f) (gs.drop t) = gs := by
  unfold joinG
  apply List.ext_getElem?
  intro j
  have hl1 : (gs.take f).length = f := by simp; omega
  have hl2 : (gs.drop t).length = 8 - t := by simp; omega
  rw [hl1, hl2]
  rcases Nat.lt_or_ge j f with h | h
  · rw [List.getElem?_append_left (by omega), List.getElem?_take_of_lt h]
  · rw [List.getElem?_append_right (by omega), hl1]
    rcases Nat.lt_or_ge j t with h' | h'
    · rw [List.getElem?_append_left (by simp; omega), List.getElem?_replicate, if_pos (by omega)]
      have := hz j h h'
      rw [List.getD_eq_getElem?_getD, List.getElem?_eq_getElem (by omega)] at this
      rw [List.getElem?_eq_getElem (by omega)]
      simpa using this.symm
    · rw [List.getElem?_append_right (by simp; omega), List.length_replicate, List.getElem?_drop]
      congr 1
      omega
theorem parse_printS {gs : List Nat} (hg : gs.length = 8) (hb : ∀ g ∈ gs, g < 65536) : parseP (printS gs (zst gs 8).1 (zst gs 8).2.1) = (6, unG gs, 0) := by
  have hle := zst_le gs 8
  unfold printS
  split
  · exact seg_full (seg_printG gs hb) hg
  · have := seg_gap (seg_printG (gs.take (zst gs 8).1) (fun g h => hb g (List.mem_of_mem_take h))) (seg_printG (gs.drop (zst gs 8).2.1) (fun g h => hb g (List.mem_of_mem_drop h))) (by simp; omega)
    rw [joinG_self hg hle.1 hle.2.1 (zst_zero gs 8).1] at this
    exact this
/-! The four numbers. -/
def dec3 (n : Nat) : List UInt8 := if n < 10 then [UInt8.ofNat (48 + n)] else if n < 100 then [UInt8.ofNat (48 + n / 10), UInt8.ofNat (48 + n % 10)] else [UInt8.ofNat (48 + n / 10 / 10), UInt8.ofNat (48 + n / 10 % 10), UInt8.ofNat (48 + n % 10)]
theorem itoa_dec3 {n : Nat} (h : n < 1000) : Lib.itoa (n : Int) = dec3 n := by
  unfold Lib.itoa dec3
  rw [if_neg (by omega), Int.toNat_natCast]
  split
  · rename_i h1; rw [Lib.decDigits, dif_pos h1]
  · rename_i h1
    rw [Lib.decDigits, dif_neg h1]
    split
    · rw [Lib.decDigits, dif_pos (by omega)]; rfl
    · rw [Lib.decDigits, dif_neg (by omega), Lib.decDigits, dif_pos (by omega)]; rfl
theorem dec_dec3 : ∀ n : Fin 256, dec (dec3 n.val) = some n.val ∧ (46 : UInt8) ∉ dec3 n.val ∧ (58 : UInt8) ∉ dec3 n.val := by decide +kernel
theorem dec_itoa {x : Int} (h0 : 0 ≤ x) (h : x ≤ 255) : dec (Lib.itoa x) = some x.toNat ∧ (46 : UInt8) ∉ Lib.itoa x ∧ (58 : UInt8) ∉ Lib.itoa x := by
  obtain ⟨n, rfl⟩ : ∃ n : Nat, x = (n : Int) := ⟨x.toNat, by omega⟩
  rw [itoa_dec3 (by omega), Int.toNat_natCast]
  exact dec_dec3 ⟨n, by omega⟩
theorem alls_itoa : ∀ (bs : List Int), (∀ x ∈ bs, 0 ≤ x ∧ x ≤ 255) → alls dec (bs.map Lib.itoa) = some (bs.map Int.toNat)
  | [], _ => rfl
  | b :: bs, h => by
    have h1 := (dec_itoa (h b (by simp)).1 (h b (by simp)).2).1
    have h2 := alls_itoa bs (fun x hx => h x (by simp [hx]))
    simp [alls, h1, h2]
theorem join_free (c d : UInt8) (hcd : c ≠ d) : ∀ (xs : List (List UInt8)), (∀ x ∈ xs, c ∉ x) → c ∉ Lib.join xs [d]
  | [], _ => by simp [Lib.join_nil]
  | x :: xs, h => by
    rw [Lib.join_cons, List.mem_append, not_or]
    refine ⟨h x (by simp), ?_⟩
    simp only [Lib.joinTail, List.mem_flatten, List.mem_map, not_exists, not_and]
    rintro l ⟨y, hy, rfl⟩ hc
    rcases List.mem_append.1 hc with hc | hc
    · simp at hc; exact hcd hc
    · exact h y (by simp [hy]) hc
theorem parse_printD {bs : List Int} (h4 : bs.length = 4) (hb : ∀ x ∈ bs, 0 ≤ x ∧ x ≤ 255) : parseP (printD bs) = (4, bs ++ List.replicate 12 0, 0) := by
  have hno : (58 : UInt8) ∉ printD bs := join_free 58 46 (by decide) _ (fun x hx => by
    obtain ⟨b, hb', rfl⟩ := List.mem_map.1 hx
    exact (dec_itoa (hb b hb').1 (hb b hb').2).2.2)
  have hp : pieces 46 (printD bs) = bs.map Lib.itoa := pieces_join 46 _ (by intro h0; rw [List.map_eq_nil_iff] at h0; subst h0; simp at h4) (fun x hx => by
    obtain ⟨b, hb', rfl⟩ := List.mem_map.1 hx
    exact (dec_itoa (hb b hb').1 (hb b hb').2).2.1)
  have h4P : parse4P (printD bs) = some (bs.map Int.toNat) := by
    unfold parse4P
    rw [hp, alls_itoa bs hb]
    simp [h4]
  unfold parseP
  rw [if_neg hno, h4P]
  simp only [List.map_map]
  have e : bs.map (Int.ofNat ∘ Int.toNat) = bs := by
    conv => rhs; rw [← List.map_id bs]
    exact List.map_congr_left (fun x hx => by have := hb x hx; simp; omega)
  rw [e]
theorem eqL_z12 {l : List Int} (hl : l.length = 16) (h : eqL (l.drop 4) z12 = true) : l = l.take 4 ++ List.replicate 12 0 := by
  obtain ⟨b0, b1, b2, b3, b4, b5, b6, b7, b8, b9, b10, b11, b12, b13, b14, b15, rfl⟩ := list16 hl
  simp [eqL, z12] at h
  simp [h]
  try omega
/-- A text of a valid address is read as it. -/
theorem parse_print {v : Int} {l : List Int} (hl : l.length = 16) (hb : ∀ x ∈ l, 0 ≤ x ∧ x ≤ 255) (hv : validP v l = true) : parseP (printP v l) = (v, l, 0) := by
  unfold printP
  rw [if_neg (by rw [hv]; simp)]
  by_cases h4 : v = 4
  · rw [if_pos h4, parse_printD (by simp; omega) (fun x hx => hb x (List.mem_of_mem_take hx))]
    subst h4
    rw [← eqL_z12 hl (by simpa [validP] using hv)]
  · rw [if_neg h4, parse_printS (grpOf_length hl) (grpOf_lt l hb), unG_grpOf l (by omega) hb]
    have : v = 6 := by simpa [validP, h4] using hv
    rw [this]
#print axioms parse_print
end Go.Proofs.YtoifolmcdkfniabGreatDoor
