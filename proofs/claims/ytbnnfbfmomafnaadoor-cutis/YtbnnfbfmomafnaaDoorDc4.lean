/-
  The document: piece.
-/
import Derived.Test.YtbnnfbfmomafnaaDoorFs
namespace Go.Proofs.YtbnnfbfmomafnaaDoor
open Go.ChangeShapes Go.WideShapes Go.ChangeAt Go.RowKit Num
set_option linter.unusedVariables false
set_option linter.unusedSimpArgs false
set_option maxHeartbeats 4000000
set_option maxRecDepth 100000

/-- What the document's piece is. -/
def pcD (p : Pk) (n m : Nat) (id : Int) : Pk :=
  if p.v = 6 then { p with off := n, more := decide (m < p.d.length), d := (p.d.drop n).take (m - n), frag := true, id := id }
  else { p with off := n, more := decide (m < p.d.length), d := (p.d.drop n).take (m - n), o := if 0 < n then carryP p.o else p.o }
theorem rpiece_c (p : Pk) (ov dv : Value) (n m : Nat) (id : Int) (w : World) (hp : Pkt w p ov dv) (hnm : n ≤ m) (hm : m ≤ p.d.length) (hd : p.d.length ≤ 65535) (hv : p.v ≠ 6 → validP p.o = true) (h0 : 0 ≤ id) (h1 : id ≤ 4294967295) :
    Calls Tryd.prog 51 #[.agg (csP p ov dv), .int .i64 (n : Int), .int .i64 (m : Int), .int .u32 id] w fun E w' => ∃ ou du, E = .returned (.agg (csP (pcD p n m id) ou du)) ∧ Mine w' w.heap.size (pcD p n m id) ou du ∧ Away [] w w' := by
  have HAD := Lib.hid hp.wf.ad
  have HV := Lib.hid hv
  have HPO := Lib.hid hp.o
  obtain ⟨-, ⟨oa, oc, rfl, x1, x2, x3⟩, ⟨da, dc, rfl, y1, y2, y3⟩⟩ := hp
  have KO : Hid (∀ W, Away [] w W → Calls Tryd.prog 49 #[.slice oa p.o.length oc] W fun E w' => ∃ v, E = .returned v ∧ Owns w' v p.o ∧ New W.heap.size v ∧ Away [] W w') := fun W h => rown_c oa p.o _ oc W rfl x2 (x3.away h (by simp))
  have KC : Hid (∀ W, Away [] w W → p.v ≠ 6 → Calls Tryd.prog 68 #[.slice oa p.o.length oc] W fun E w' => ∃ v, E = .returned v ∧ Owns w' v (carryP p.o) ∧ New W.heap.size v ∧ Away [] W w') := fun W h h6 => rcarry_c oa p.o _ oc W rfl x1 x2 (x3.away h (by simp)) (HV.out h6)
  obtain ⟨A, hA⟩ : ∃ A, A = (if dc = n then da else da.map (·.add n)) := ⟨_, rfl⟩
  have KD : Hid (∀ W, Away [] w W → Calls Tryd.prog 49 #[.slice A (m - n) (dc - n)] W fun E w' => ∃ v, E = .returned v ∧ Owns w' v ((p.d.drop n).take (m - n)) ∧ New W.heap.size v ∧ Away [] W w') := fun W h =>
    rown_c A _ _ _ W (by rw [List.length_take, List.length_drop]; omega) (fun hn => by
      rw [hA] at hn
      split at hn
      · omega
      · rw [Option.map_eq_none_iff] at hn; have := y2 hn; omega) (by rw [hA]; exact (y3.away h (by simp)).sub n (m - n) dc y1 (by omega))
  have hsl := fun wx => slice_lh da A p.d.length dc n (m - n) (n : Int) (m : Int) hA rfl (by omega) (by omega) wx
  obtain ⟨q6, hq6⟩ : ∃ q, q = decide (p.v = 6) := ⟨_, rfl⟩
  have HQ6 := Lib.hid hq6
  have HPV : Hid (p.v = 6 ∨ ¬ p.v = 6) := by by_cases h : p.v = 6; exact .inl h; exact .inr h
  clear x3 y3 hA hv HV hq6
  go_enter Tryd.func51, Tryd.ntmps51
  go_wp2_with (first
    | (refine wpList_box28 rfl _ rfl p _ _ rfl ?_; refine Hid.out ?_)
    | fail)
  refine Lib.hid ?_
  intro g4 w1 hg4 hb4 haw
  have HA := Lib.hid haw
  have HB4 := Lib.hid hb4
  clear hb4 haw
  go_wp2_with (refine wpList_alloc28 rfl rfl ?_; refine Hid.out ?_)
  refine Lib.hid ?_
  intro g8 w2 hg8 hb8 haw
  have HB8 := Lib.hid hb8
  have HS1 := Lib.hid HA.out.size
  have HL4 := Lib.hid HB4.out.lt
  replace HA := Lib.hid (HA.out.trans haw)
  replace HB4 := Lib.hid (HB4.out.on haw)
  clear hb8 haw
  go_wp2_with (first
    | (refine wpList_load28 rfl _ rfl g4 rfl p _ _ (by exact HB4.out) HAD.out ?_)
    | (refine wpList_new28 rfl rfl rfl _ _ rfl p _ _ (fun _ => rfl) (fun _ => rfl) HAD.out rfl rfl ?_; refine Hid.out ?_))
  refine Lib.hid ?_
  intro g9 w3 hg9 hb9 haw
  have hl4 := HB4.out.lt
  have hl8 := HB8.out.lt
  have hs2 := HA.out.size
  have HNE : Hid (g4 ≠ g9 ∧ g8 ≠ g9 ∧ w.heap.size ≤ g9 ∧ w.heap.size ≤ g8) := by
    have h1 := HS1.out
    have h2 := HL4.out
    refine ⟨?_, ?_, ?_, ?_⟩ <;> omega
  replace HA := Lib.hid (HA.out.trans haw)
  replace HB4 := Lib.hid (HB4.out.on haw)
  replace HB8 := Lib.hid (HB8.out.on haw)
  have HB9 := Lib.hid hb9
  clear hb9 haw hl4 hl8 hs2 hg4 hg8 hg9 HS1 HL4
  go_wp2_with (refine wpList_putF rfl 3 _ _ rfl g9 43 rfl (.int .i64 (n : Int)) rfl (fun u h1 h2 => put3 _ _ _ u h1 h2) (p) ({ p with off := (n : Int) }) _ _ _ _ (by exact HB9.out) (by exact HAD.out) (by omega) (by exact (csP_set (p := p) HAD.out _ _).2.2.2.2.2.2.2.2.2.2.2.1 _) ?_; refine Hid.out ?_)
  refine Lib.hid ?_
  intro w4 hb9 haw
  replace HB9 := Lib.hid hb9
  replace HB4 := Lib.hid (HB4.out.away haw (by simp; exact HNE.out.1))
  replace HB8 := Lib.hid (HB8.out.away haw (by simp; exact HNE.out.2.1))
  replace HA := Lib.hid (HA.out.next haw (fun x hx => .inr (by simp at hx; subst hx; exact HNE.out.2.2.1)))
  clear hb9 haw
  have c4d := (HB4.out.cells HAD.out).d
  go_wp2_with (refine wpList_putF rfl 4 _ _ rfl g9 41 rfl (.bool (decide (m < p.d.length))) rfl (fun u h1 h2 => put4 _ _ _ u h1 h2) ({ p with off := (n : Int) }) ({ p with off := (n : Int), more := decide (m < p.d.length) }) _ _ _ _ (by exact HB9.out) (by exact HAD.out) (by omega) (by exact (csP_set (p := { p with off := (n : Int) }) HAD.out _ _).2.2.2.2.2.2.2.2.2.1 _) ?_; refine Hid.out ?_)
  refine Lib.hid ?_
  intro w5 hb9 haw
  replace HB9 := Lib.hid hb9
  replace HB4 := Lib.hid (HB4.out.away haw (by simp; exact HNE.out.1))
  replace HB8 := Lib.hid (HB8.out.away haw (by simp; exact HNE.out.2.1))
  replace HA := Lib.hid (HA.out.next haw (fun x hx => .inr (by simp at hx; subst hx; exact HNE.out.2.2.1)))
  clear c4d
  clear hb9 haw
  have c4d := (HB4.out.cells HAD.out).d
  go_wp2_with fail
  refine (KD.out _ HA.out).mono ?_
  rintro E w6 ⟨vd, rfl, hov, hnv, haw⟩
  have HOD := Lib.hid hov
  have HND : Hid (New w.heap.size vd) := hnv.mono HA.out.size
  have HNG : Hid (∀ k, vd.ownBlock = some k → k ≠ g9) := fun k hk => by have h1 := hnv k hk; have h2 := HB9.out.lt; omega
  have HNG8 : Hid (∀ k, vd.ownBlock = some k → k ≠ g8) := fun k hk => by have h1 := hnv k hk; have h2 := HB8.out.lt; omega
  replace HA := Lib.hid (HA.out.trans haw)
  replace HB4 := Lib.hid (HB4.out.on haw)
  replace HB8 := Lib.hid (HB8.out.on haw)
  replace HB9 := Lib.hid (HB9.out.on haw)
  clear hov hnv haw c4d KD hsl
  obtain ⟨vda, vdn, vdc, rfl⟩ := HOD.out.shp
  go_wp2_with (refine wpList_putF rfl 26 _ _ rfl g9 45 rfl (.slice vda vdn vdc) rfl (fun u h1 h2 => put26 _ _ _ _ _ u h1 h2) ({ p with off := (n : Int), more := decide (m < p.d.length) }) ({ p with off := (n : Int), more := decide (m < p.d.length), d := (p.d.drop n).take (m - n) }) _ _ _ _ (by exact HB9.out) (by exact HAD.out) (by omega) (by exact (csP_set (p := { p with off := (n : Int), more := decide (m < p.d.length) }) HAD.out _ _).2.2.2.2.2.2.2.2.2.2.2.2.2 _ _) ?_; refine Hid.out ?_)
  refine Lib.hid ?_
  intro w7 hb9 haw
  replace HB9 := Lib.hid hb9
  replace HB4 := Lib.hid (HB4.out.away haw (by simp; exact HNE.out.1))
  replace HB8 := Lib.hid (HB8.out.away haw (by simp; exact HNE.out.2.1))
  replace HA := Lib.hid (HA.out.next haw (fun x hx => .inr (by simp at hx; subst hx; exact HNE.out.2.2.1)))
  replace HOD := Lib.hid (HOD.out.away haw (fun k hk => by simp; exact HNG.out k hk))
  clear hb9 haw
  have c4o := (HB4.out.cells HAD.out).o
  go_wp2_with fail
  refine (KO.out _ HA.out).mono ?_
  rintro E w8 ⟨vo, rfl, hov, hnv, haw⟩
  have HOO := Lib.hid hov
  have HNO : Hid (New w.heap.size vo) := hnv.mono HA.out.size
  have HNGo : Hid (∀ k, vo.ownBlock = some k → k ≠ g9) := fun k hk => by have h1 := hnv k hk; have h2 := HB9.out.lt; omega
  have HNG8o : Hid (∀ k, vo.ownBlock = some k → k ≠ g8) := fun k hk => by have h1 := hnv k hk; have h2 := HB8.out.lt; omega
  have HAP : Hid (∀ k, vo.ownBlock = some k → (Value.slice vda vdn vdc).ownBlock ≠ some k) := fun k hk hc => by have h1 := hnv k hk; have h2 := HOD.out.lt k hc; omega
  replace HOD := Lib.hid (HOD.out.on haw)
  replace HA := Lib.hid (HA.out.trans haw)
  replace HB4 := Lib.hid (HB4.out.on haw)
  replace HB8 := Lib.hid (HB8.out.on haw)
  replace HB9 := Lib.hid (HB9.out.on haw)
  clear hov hnv haw c4o KO
  obtain ⟨voa, von, voc, rfl⟩ := HOO.out.shp
  go_wp2_with (refine wpList_putF rfl 26 _ _ rfl g9 44 rfl (.slice voa von voc) rfl (fun u h1 h2 => put26 _ _ _ _ _ u h1 h2) ({ p with off := (n : Int), more := decide (m < p.d.length), d := (p.d.drop n).take (m - n) }) ({ p with off := (n : Int), more := decide (m < p.d.length), d := (p.d.drop n).take (m - n) }) _ _ _ _ (by exact HB9.out) (by exact HAD.out) (by omega) (by exact (csP_set (p := { p with off := (n : Int), more := decide (m < p.d.length), d := (p.d.drop n).take (m - n) }) HAD.out _ _).2.2.2.2.2.2.2.2.2.2.2.2.1 p.o _) ?_; refine Hid.out ?_)
  refine Lib.hid ?_
  intro w9 hb9 haw
  replace HB9 := Lib.hid hb9
  replace HB4 := Lib.hid (HB4.out.away haw (by simp; exact HNE.out.1))
  replace HB8 := Lib.hid (HB8.out.away haw (by simp; exact HNE.out.2.1))
  replace HA := Lib.hid (HA.out.next haw (fun x hx => .inr (by simp at hx; subst hx; exact HNE.out.2.2.1)))
  replace HOD := Lib.hid (HOD.out.away haw (fun k hk => by simp; exact HNG.out k hk))
  replace HOO := Lib.hid (HOO.out.away haw (fun k hk => by simp; exact HNGo.out k hk))
  clear hb9 haw
  have c4v := (HB4.out.cells HAD.out).v
  rcases HPV.out with h6 | h6
  · have HH6 := Lib.hid h6
    rw [h6] at c4v
    clear h6
    go_wp2_with (refine wpList_putF rfl 4 _ _ rfl g9 42 rfl (.bool true) rfl (fun u h1 h2 => put4 _ _ _ u h1 h2) ({ p with off := (n : Int), more := decide (m < p.d.length), d := (p.d.drop n).take (m - n) }) ({ p with off := (n : Int), more := decide (m < p.d.length), d := (p.d.drop n).take (m - n), frag := true }) _ _ _ _ (by exact HB9.out) (by exact HAD.out) (by omega) (by exact (csP_set (p := { p with off := (n : Int), more := decide (m < p.d.length), d := (p.d.drop n).take (m - n) }) HAD.out _ _).2.2.2.2.2.2.2.2.2.2.1 _) ?_; refine Hid.out ?_)
    refine Lib.hid ?_
    intro w10 hb9 haw
    replace HB9 := Lib.hid hb9
    replace HB4 := Lib.hid (HB4.out.away haw (by simp; exact HNE.out.1))
    replace HB8 := Lib.hid (HB8.out.away haw (by simp; exact HNE.out.2.1))
    replace HA := Lib.hid (HA.out.next haw (fun x hx => .inr (by simp at hx; subst hx; exact HNE.out.2.2.1)))
    replace HOD := Lib.hid (HOD.out.away haw (fun k hk => by simp; exact HNG.out k hk))
    replace HOO := Lib.hid (HOO.out.away haw (fun k hk => by simp; exact HNGo.out k hk))
    clear c4v
    clear hb9 haw
    go_wp2_with (refine wpList_putF rfl 25 _ _ rfl g9 39 rfl (.int .u32 id) rfl (fun u h1 h2 => put25 _ _ _ u h1 h2) ({ p with off := (n : Int), more := decide (m < p.d.length), d := (p.d.drop n).take (m - n), frag := true }) ({ p with off := (n : Int), more := decide (m < p.d.length), d := (p.d.drop n).take (m - n), frag := true, id := id }) _ _ _ _ (by exact HB9.out) (by exact HAD.out) (by omega) (by exact (csP_set (p := { p with off := (n : Int), more := decide (m < p.d.length), d := (p.d.drop n).take (m - n), frag := true }) HAD.out _ _).2.2.2.2.2.2.2.1 _) ?_; refine Hid.out ?_)
    refine Lib.hid ?_
    intro w11 hb9 haw
    replace HB9 := Lib.hid hb9
    replace HB4 := Lib.hid (HB4.out.away haw (by simp; exact HNE.out.1))
    replace HB8 := Lib.hid (HB8.out.away haw (by simp; exact HNE.out.2.1))
    replace HA := Lib.hid (HA.out.next haw (fun x hx => .inr (by simp at hx; subst hx; exact HNE.out.2.2.1)))
    replace HOD := Lib.hid (HOD.out.away haw (fun k hk => by simp; exact HNG.out k hk))
    replace HOO := Lib.hid (HOO.out.away haw (fun k hk => by simp; exact HNGo.out k hk))
    clear hb9 haw
    have HPE : Hid (pcD p n m id = { p with off := (n : Int), more := decide (m < p.d.length), d := (p.d.drop n).take (m - n), frag := true, id := id }) := by show _ = _; unfold pcD; rw [if_pos HH6.out]
    go_wp2_with (first
      | (refine wpList_load28 rfl _ rfl g9 rfl { p with off := (n : Int), more := decide (m < p.d.length), d := (p.d.drop n).take (m - n), frag := true, id := id } _ _ (by exact HB9.out) (by exact HAD.out) ?_)
      | (refine wpList_store28 rfl _ _ rfl g8 rfl { p with off := (n : Int), more := decide (m < p.d.length), d := (p.d.drop n).take (m - n), frag := true, id := id } _ _ rfl zeroPk _ _ (by exact HB8.out) (by exact HAD.out) ⟨rfl, rfl⟩ rfl rfl ?_; refine Hid.out ?_))
    refine Lib.hid ?_
    intro wz hbz haw
    replace HA := Lib.hid (HA.out.next haw (fun x hx => .inr (by simp at hx; subst hx; exact HNE.out.2.2.2)))
    have HBZ := Lib.hid hbz
    replace HOD := Lib.hid (HOD.out.away haw (fun k hk => by simp; exact HNG8.out k hk))
    replace HOO := Lib.hid (HOO.out.away haw (fun k hk => by simp; exact HNG8o.out k hk))
    clear hbz haw
    go_wp2_with fail
    refine bodyPost_ret (v := .agg (csP { p with off := (n : Int), more := decide (m < p.d.length), d := (p.d.drop n).take (m - n), frag := true, id := id } (.slice voa von voc) (.slice vda vdn vdc))) (result28 rfl _ _ g8 _ _ _ rfl HBZ.out (by exact HAD.out)) rfl ⟨_, _, by rw [HPE.out], ⟨by rw [HPE.out]; exact HOO.out, by rw [HPE.out]; exact HOD.out, HNO.out, HND.out, HAP.out⟩, HA.out⟩
  · have HH6 := Lib.hid h6
    have e6 : (p.v == 6) = false := by simpa using h6
    clear h6
    by_cases hn0 : 0 < n
    · have hn1 : (0 : Int) < (n : Int) := by omega
      have c4o := (HB4.out.cells HAD.out).o
      have HN0 := Lib.hid hn0
      clear hn0
      go_wp2_with fail
      refine (KC.out _ HA.out HH6.out).mono ?_
      rintro E wc ⟨vc, rfl, hov, hnv, haw⟩
      have HOC := Lib.hid hov
      have HNC : Hid (New w.heap.size vc) := hnv.mono HA.out.size
      have HNGc : Hid (∀ k, vc.ownBlock = some k → k ≠ g9) := fun k hk => by have h1 := hnv k hk; have h2 := HB9.out.lt; omega
      have HNG8c : Hid (∀ k, vc.ownBlock = some k → k ≠ g8) := fun k hk => by have h1 := hnv k hk; have h2 := HB8.out.lt; omega
      have HAPc : Hid (∀ k, vc.ownBlock = some k → (Value.slice vda vdn vdc).ownBlock ≠ some k) := fun k hk hc => by have h1 := hnv k hk; have h2 := HOD.out.lt k hc; omega
      replace HOD := Lib.hid (HOD.out.on haw)
      replace HA := Lib.hid (HA.out.trans haw)
      replace HB4 := Lib.hid (HB4.out.on haw)
      replace HB8 := Lib.hid (HB8.out.on haw)
      replace HB9 := Lib.hid (HB9.out.on haw)
      clear hov hnv haw c4o KC c4v HOO HNGo HNG8o HNO HAP
      obtain ⟨vca, vcn, vcc, rfl⟩ := HOC.out.shp
      have HNGo := HNGc
      have HNG8o := HNG8c
      have HOO := HOC
      have HNO := HNC
      have HAP := HAPc
      clear HNGc HNG8c HOC HNC HAPc
      go_wp2_with (refine wpList_putF rfl 26 _ _ rfl g9 44 rfl (.slice vca vcn vcc) rfl (fun u h1 h2 => put26 _ _ _ _ _ u h1 h2) ({ p with off := (n : Int), more := decide (m < p.d.length), d := (p.d.drop n).take (m - n) }) ({ p with off := (n : Int), more := decide (m < p.d.length), d := (p.d.drop n).take (m - n), o := carryP p.o }) _ _ _ _ (by exact HB9.out) (by exact HAD.out) (by omega) (by exact (csP_set (p := { p with off := (n : Int), more := decide (m < p.d.length), d := (p.d.drop n).take (m - n) }) HAD.out _ _).2.2.2.2.2.2.2.2.2.2.2.2.1 (carryP p.o) _) ?_; refine Hid.out ?_)
      refine Lib.hid ?_
      intro w10 hb9 haw
      replace HB9 := Lib.hid hb9
      replace HB4 := Lib.hid (HB4.out.away haw (by simp; exact HNE.out.1))
      replace HB8 := Lib.hid (HB8.out.away haw (by simp; exact HNE.out.2.1))
      replace HA := Lib.hid (HA.out.next haw (fun x hx => .inr (by simp at hx; subst hx; exact HNE.out.2.2.1)))
      replace HOD := Lib.hid (HOD.out.away haw (fun k hk => by simp; exact HNG.out k hk))
      replace HOO := Lib.hid (HOO.out.away haw (fun k hk => by simp; exact HNGo.out k hk))
      clear hb9 haw
      have HPE : Hid (pcD p n m id = { p with off := (n : Int), more := decide (m < p.d.length), d := (p.d.drop n).take (m - n), o := carryP p.o }) := by show _ = _; unfold pcD; rw [if_neg HH6.out, if_pos HN0.out]
      go_wp2_with (first
        | (refine wpList_load28 rfl _ rfl g9 rfl { p with off := (n : Int), more := decide (m < p.d.length), d := (p.d.drop n).take (m - n), o := carryP p.o } _ _ (by exact HB9.out) (by exact HAD.out) ?_)
        | (refine wpList_store28 rfl _ _ rfl g8 rfl { p with off := (n : Int), more := decide (m < p.d.length), d := (p.d.drop n).take (m - n), o := carryP p.o } _ _ rfl zeroPk _ _ (by exact HB8.out) (by exact HAD.out) ⟨rfl, rfl⟩ rfl rfl ?_; refine Hid.out ?_))
      refine Lib.hid ?_
      intro wz hbz haw
      replace HA := Lib.hid (HA.out.next haw (fun x hx => .inr (by simp at hx; subst hx; exact HNE.out.2.2.2)))
      have HBZ := Lib.hid hbz
      replace HOD := Lib.hid (HOD.out.away haw (fun k hk => by simp; exact HNG8.out k hk))
      replace HOO := Lib.hid (HOO.out.away haw (fun k hk => by simp; exact HNG8o.out k hk))
      clear hbz haw
      go_wp2_with fail
      refine bodyPost_ret (v := .agg (csP { p with off := (n : Int), more := decide (m < p.d.length), d := (p.d.drop n).take (m - n), o := carryP p.o } (.slice vca vcn vcc) (.slice vda vdn vdc))) (result28 rfl _ _ g8 _ _ _ rfl HBZ.out (by exact HAD.out)) rfl ⟨_, _, by rw [HPE.out], ⟨by rw [HPE.out]; exact HOO.out, by rw [HPE.out]; exact HOD.out, HNO.out, HND.out, HAP.out⟩, HA.out⟩
    · have hn1 : ¬ ((0 : Int) < (n : Int)) := by omega
      have HN0 := Lib.hid hn0
      clear hn0
      have HPE : Hid (pcD p n m id = { p with off := (n : Int), more := decide (m < p.d.length), d := (p.d.drop n).take (m - n) }) := by show _ = _; unfold pcD; rw [if_neg HH6.out, if_neg HN0.out]
      go_wp2_with (first
        | (refine wpList_load28 rfl _ rfl g9 rfl { p with off := (n : Int), more := decide (m < p.d.length), d := (p.d.drop n).take (m - n) } _ _ (by exact HB9.out) (by exact HAD.out) ?_)
        | (refine wpList_store28 rfl _ _ rfl g8 rfl { p with off := (n : Int), more := decide (m < p.d.length), d := (p.d.drop n).take (m - n) } _ _ rfl zeroPk _ _ (by exact HB8.out) (by exact HAD.out) ⟨rfl, rfl⟩ rfl rfl ?_; refine Hid.out ?_))
      refine Lib.hid ?_
      intro wz hbz haw
      replace HA := Lib.hid (HA.out.next haw (fun x hx => .inr (by simp at hx; subst hx; exact HNE.out.2.2.2)))
      have HBZ := Lib.hid hbz
      replace HOD := Lib.hid (HOD.out.away haw (fun k hk => by simp; exact HNG8.out k hk))
      replace HOO := Lib.hid (HOO.out.away haw (fun k hk => by simp; exact HNG8o.out k hk))
      clear hbz haw
      go_wp2_with fail
      refine bodyPost_ret (v := .agg (csP { p with off := (n : Int), more := decide (m < p.d.length), d := (p.d.drop n).take (m - n) } (.slice voa von voc) (.slice vda vdn vdc))) (result28 rfl _ _ g8 _ _ _ rfl HBZ.out (by exact HAD.out)) rfl ⟨_, _, by rw [HPE.out], ⟨by rw [HPE.out]; exact HOO.out, by rw [HPE.out]; exact HOD.out, HNO.out, HND.out, HAP.out⟩, HA.out⟩
end Go.Proofs.YtbnnfbfmomafnaaDoor
