/-
  address, read6, readFragment, look6 of icmp.
-/
import Derived.Test.YtbgpjhekohabiaaDoorSixZ
import Derived.Test.YtbgpjhekohabiaaDoorLk
namespace Go.Proofs.YtbgpjhekohabiaaDoor.S6
open Go.ChangeShapes Go.WideShapes Go.ChangeAt Go.RowKit Num
set_option linter.unusedVariables false
set_option maxHeartbeats 4000000
set_option maxRecDepth 100000

theorem lkAdr6_c (w : World) (g d : Nat) (l m r : List Int) (h : Rd w g d l 0) (h4 : 16 ≤ l.length) (hm : l.take 16 = m) (hr : l.drop 16 = r) :
    Calls Tryd.prog 78 #[.pointer (some ⟨g, 0, none⟩), .int .i64 6, .int .i64 16] w fun E w' => AdrOut w g d m r E w' := by
  have HR := Lib.hid h
  have hlt := h.lt
  have HB := Lib.hid h.bytes
  clear h
  have hsl := arr_slice1
  have hr4 := rd16 h4
  have hm4 : m.length = 16 := by rw [← hm]; simp; omega
  have hmb : Bytes m := by rw [← hm]; exact HB.out.1.take 16
  rw [hm, hr] at hr4
  have H41 := Lib.hid hr4.1; have H42 := Lib.hid hr4.2.1; have H43 := Lib.hid hr4.2.2
  clear hr4 hm hr
  go_enter Tryd.func78, Tryd.ntmps78
  go_wp2_with (refine wpList_alloc24 rfl rfl ?_; refine Hid.out ?_)
  refine Lib.hid ?_
  intro g2 w1 hg2 hb2 haw1
  have HB2 := Lib.hid hb2; have HA1 := Lib.hid haw1
  have hl2 := hb2.lt
  clear hb2 haw1
  go_wp2_with (first | (refine wpList_alloc24 rfl rfl ?_; refine Hid.out ?_))
  refine Lib.hid ?_
  intro g3 w2 hg3 hb3 haw2
  have HB3 := Lib.hid hb3; have HA2 := Lib.hid haw2
  have hl3 := hb3.lt
  clear hb3 haw2
  go_wp2_with (first | (refine wpList_store24b rfl _ _ rfl _ rfl 6 z16 rfl 0 z16 (by exact HB3.out) rfl rfl ?_; refine Hid.out ?_))
  refine Lib.hid ?_
  intro w3 hb3 haw3
  have hs1 := HA1.out.size; have hs2 := HA2.out.size; have hs3 := haw3.size
  have HB3' := Lib.hid hb3
  have HB2' := Lib.hid ((HB2.out.keep HA2.out (by simp)).keep haw3 (by simp; omega))
  have HA3 : Hid (Away [] w w3) := (HA1.out.next HA2.out (by simp)).next haw3 (fun x hx => .inr (by simp at hx; omega))
  clear HB2 HB3 HA1 HA2 hb3 haw3
  have HR3 := Lib.hid (HR.out.away HA3.out (by simp) (by simp))
  go_wp2_with fail
  go_region_held3 (fun w' => True) (trivial)
    (first
      | (go_at_call 42
         refine (bytes_any _ g d l 0 16 (by exact HR3.out)).mono ?_
         rintro E w4 ⟨v, rfl, hown, hnew, hrd, haw, hby, hln⟩
         rw [H41.out] at hown
         rw [H42.out, H43.out] at hrd
         obtain ⟨a4, cap4, hv4, hcap4, -, hrow4, -⟩ := hown.row (by rw [hm4]; omega) hmb
         rw [hm4] at hv4
         subst hv4
         have haw4 := haw.undrew1
         have hb4 := HB3'.out.keep haw4 (by simp; omega)
         have hb2 := HB2'.out.keep haw4 (by simp; omega)
         have HN4 : Hid (a4 ≠ none) := (by
           rintro rfl
           rcases hrow4.2.2 with h0 | ⟨_, _, h0, _⟩
           · rw [h0] at hm4; simp at hm4
           · simp at h0)
         rcases a4 with _ | ad
         · exact absurd rfl HN4.out
         have hcp := copy4 w4 g3 m hm4 ad cap4 hb4 hrow4))
  have hlm : m.length = 16 := hm4
  have hb5 : BoxA (w4.setRow g3 (csA 6 m)) g3 6 m := by unfold BoxA at hb4 ⊢; simp [World.setRow, Array.getElem?_modify, hb4]
  have haw5 : Away [g3] w4 (w4.setRow g3 (csA 6 m)) := (Away.refl [g3] w4).setRow (.inl (by simp)) _
  have hlt3 := HR3.out.lt
  have hs4 := haw4.size
  have hr5 := hrd.away haw5 (by simp; omega) (by simp; omega)
  have hb25 := hb2.keep haw5 (by simp; omega)
  have HB5 := Lib.hid hb5; have HB25 := Lib.hid hb25; have HR5 := Lib.hid hr5
  have HA5 : Hid (Away [g] w (w4.setRow g3 (csA 6 m))) := (((HA3.out.mono (T := [g]) (by simp)).next haw4 (fun x hx => .inl hx)).next haw5 (fun x hx => .inr (by simp at hx; omega)))
  have hr3 := Lib.hid (rowAt_of (hb5 : (w4.setRow g3 (csA 6 m)).heap[g3]? = _) (csA_size hlm))
  clear hb5 haw5 hr5 hb25 hcp hown hrd hrow4 hb4 hb2 HB3' HB2' HR3 HA3 HN4 hnew haw haw4
  generalize w4.setRow g3 (csA 6 m) = w5 at *
  have HLM := Lib.hid hlm
  clear hlm
  go_wp2_with (first | (refine wpList_load24 rfl _ rfl _ rfl _ hr3.out ?_) | (refine wpList_store24b rfl _ _ rfl _ rfl 6 m rfl 0 z16 (by exact HB25.out) HLM.out rfl ?_; refine Hid.out ?_))
  refine Lib.hid ?_
  intro w6 hb6 haw6
  have HR6 := Lib.hid (HR5.out.away haw6 (by simp; omega) (by simp; omega))
  have HA6 : Hid (Away [g] w w6) := HA5.out.next haw6 (fun x hx => .inr (by simp at hx; omega))
  have hr6 := Lib.hid (rowAt_of (hb6 : w6.heap[g2]? = _) (csA_size HLM.out))
  clear hb6 haw6 HA5 HR5 HB25 hr3 HB5
  go_wp2_with fail
  refine bodyPost_ret (v := .agg (csA 6 m)) ?_ rfl ⟨rfl, HR6.out, HA6.out⟩
  exact result24 rfl _ _ _ _ rfl hr6.out
theorem RH.adrL {w0 w : World} {g2 g4 gr dr : Nat} {p : Pk} {s r : List Int} (h : RH w0 w g2 g4 gr dr p (s ++ r)) (hs : s.length = 16) :
    Calls Tryd.prog 78 #[.pointer (some ⟨gr, 0, none⟩), .int .i64 6, .int .i64 16] w fun E w' => E = .returned (.agg (csA 6 s)) ∧ RH w0 w' g2 g4 gr dr p r :=
  (lkAdr6_c w gr dr (s ++ r) s r h.rd (by simp [hs]) (by rw [← hs]; exact List.take_left) (by rw [← hs]; exact List.drop_left)).mono fun E w' hk => ⟨hk.1, h.read hk.2.1 hk.2.2⟩
/-- What read6 tells. -/
def R6Out (w : World) (gr dr : Nat) (p : Pk) (told : Int) (r : List Int) (E : Ending) (w' : World) : Prop :=
  E = .returned (.tuple #[.agg (csP p (.slice none 0 0) (.slice none 0 0)), .int .i64 told]) ∧ Rd w' gr dr r 0 ∧ Away [gr] w w'
theorem read6_c (w : World) (gr dr : Nat) (b0 b1 b2 b3 b4 b5 b6 b7 : Int) (s d r : List Int) (hs : s.length = 16) (hd : d.length = 16) (hr : Rd w gr dr (bs b0 b1 b2 b3 b4 b5 b6 b7 s d r) 0) :
    Calls Tryd.prog 52 #[.pointer (some ⟨gr, 0, none⟩)] w fun E w' => R6Out w gr dr (fixR (bs b0 b1 b2 b3 b4 b5 b6 b7 s d r)) (256 * b4 + b5) r E w' := by
  have hx := bs_at b0 b1 b2 b3 b4 b5 b6 b7 s d r hs hd
  have hby := hr.bytes.1
  have x0 := hby.head
  have x1 := hby.tail.head
  have x2 := hby.tail.tail.head
  have x3 := hby.tail.tail.tail.head
  have x4 := hby.tail.tail.tail.tail.head
  have x5 := hby.tail.tail.tail.tail.tail.head
  have x6 := hby.tail.tail.tail.tail.tail.tail.head
  have x7 := hby.tail.tail.tail.tail.tail.tail.tail.head
  have hlt := hr.lt
  have HR := Lib.hid hr
  obtain ⟨F, hF⟩ : ∃ F, F = 16777216 * b0 + 65536 * b1 + 256 * b2 + b3 := ⟨_, rfl⟩
  have hfx : fixR (bs b0 b1 b2 b3 b4 b5 b6 b7 s d r) = ⟨6, F / 1048576 % 256, F % 1048576, 6, s, 6, d, b6, b7, 0, false, false, false, 0, [], []⟩ := by
    unfold fixR wd4; rw [hx.g0, hx.g1, hx.g2, hx.g3, hx.es, hx.ed, hx.g6, hx.g7, hF]
  rw [hfx]
  have f0 : 0 ≤ F := by omega
  have f1 : F ≤ 4294967295 := by omega
  have k8 := and8 (F / 1048576) (by omega) (by omega)
  have HF := Lib.hid hF
  have HS := Lib.hid hs
  have HD := Lib.hid hd
  have HAD : Hid ((z16 : List Int).length = 16 ∧ (z16 : List Int).length = 16) := ⟨rfl, rfl⟩
  clear hF hby hr hx hfx hs hd
  go_enter Tryd.func52, Tryd.ntmps52
  go_wp2_with (refine wpList_alloc28 rfl rfl ?_; refine Hid.out ?_)
  refine Lib.hid ?_
  intro g2 w1 hg2 hb2 haw1
  have HB2 := Lib.hid hb2; have HA1 := Lib.hid haw1
  have hl2 := hb2.lt
  clear hb2 haw1
  go_wp2_with (first | (refine wpList_alloc28 rfl rfl ?_; refine Hid.out ?_))
  refine Lib.hid ?_
  intro g4 w2 hg4 hb4 haw2
  have HB4 := Lib.hid hb4; have HA2 := Lib.hid haw2
  have hl4 := hb4.lt
  clear hb4 haw2
  go_wp2_with (first | (refine wpList_store28 rfl _ _ rfl _ rfl { zeroPk with v := 6 } (.slice none 0 0) (.slice none 0 0) rfl zeroPk (.slice none 0 0) (.slice none 0 0) (by exact HB4.out) ⟨rfl, rfl⟩ ⟨rfl, rfl⟩ rfl rfl ?_; refine Hid.out ?_))
  refine Lib.hid ?_
  intro w3 hb4 haw3
  have hs1 := HA1.out.size; have hs2 := HA2.out.size; have hs3 := haw3.size
  have HA3 : Hid (Away [] w w3) := (HA1.out.next HA2.out (by simp)).next haw3 (fun x hx => .inr (by simp at hx; omega))
  have HL : Hid (RH w w3 g2 g4 gr dr { zeroPk with v := 6 } (b0 :: b1 :: b2 :: b3 :: b4 :: b5 :: b6 :: b7 :: (s ++ (d ++ r)))) :=
    ⟨(HB2.out.away HA2.out (by simp)).away haw3 (by simp; omega), hb4, HR.out.away HA3.out (by simp) (by simp), HA3.out.mono (by simp), ⟨rfl, rfl⟩, hg2, by omega, by omega, by omega, by omega, by omega, by omega⟩
  clear HB2 HB4 HA1 HA2 hb4 haw3 HA3 HR hg2 hg4 hl2 hl4 hs1 hs2 hs3
  go_wp2_with fail
  refine (RH.u32 (by exact HL.out)).mono ?_
  rintro E w5 ⟨rfl, hL⟩
  have HLn := Lib.hid hL
  clear HL hL
  have HL := HLn
  clear HLn
  rw [← HF.out]
  have s1 := (HL.out.b4.cells HL.out.ad).tos
  have t1 := HL.out.b4.free 1
  have s2 := (HL.out.b4.cells HL.out.ad).flow
  have t2 := HL.out.b4.free 2
  go_wp2_with fail
  have HLn := Lib.hid ((HL.out.put 1 (.int .i64 (F / 1048576 % 256)) ((csP_set (by exact ⟨rfl, rfl⟩) _ _).2.1 (F / 1048576 % 256)) ⟨rfl, rfl⟩).put 2 (.int .i64 (F % 1048576)) ((csP_set (by exact ⟨rfl, rfl⟩) _ _).2.2.1 (F % 1048576)) ⟨rfl, rfl⟩)
  clear HL s1 t1 s2 t2
  generalize ((w5.setCell ⟨g4, 1, none⟩ (.int .i64 (F / 1048576 % 256))).setCell ⟨g4, 2, none⟩ (.int .i64 (F % 1048576))) = w6 at *
  have HL := HLn
  clear HLn
  refine (RH.u16 (by exact HL.out)).mono ?_
  rintro E w7 ⟨rfl, hL⟩
  have HLn := Lib.hid hL
  clear HL hL
  have HL := HLn
  clear HLn
  go_wp2_with fail
  refine (RH.u8 (by exact HL.out)).mono ?_
  rintro E w8 ⟨rfl, hL⟩
  have HLn := Lib.hid hL
  clear HL hL
  have HL := HLn
  clear HLn
  have s37 := (HL.out.b4.cells HL.out.ad).proto
  have t37 := HL.out.b4.free 37
  go_wp2_with fail
  have HLn := Lib.hid ((HL.out.put 37 (.int .i64 b6) ((csP_set (by exact ⟨rfl, rfl⟩) _ _).2.2.2.2.2.1 (b6)) ⟨rfl, rfl⟩))
  clear HL s37 t37
  generalize (w8.setCell ⟨g4, 37, none⟩ (.int .i64 b6)) = w9 at *
  have HL := HLn
  clear HLn
  refine (RH.u8 (by exact HL.out)).mono ?_
  rintro E w10 ⟨rfl, hL⟩
  have HLn := Lib.hid hL
  clear HL hL
  have HL := HLn
  clear HLn
  have s38 := (HL.out.b4.cells HL.out.ad).ttl
  have t38 := HL.out.b4.free 38
  go_wp2_with fail
  have HLn := Lib.hid ((HL.out.put 38 (.int .i64 b7) ((csP_set (by exact ⟨rfl, rfl⟩) _ _).2.2.2.2.2.2.1 (b7)) ⟨rfl, rfl⟩))
  clear HL s38 t38
  generalize (w10.setCell ⟨g4, 38, none⟩ (.int .i64 b7)) = w11 at *
  have HL := HLn
  clear HLn
  refine (RH.adrL (by exact HL.out) HS.out).mono ?_
  rintro E w12 ⟨rfl, hL⟩
  have HLn := Lib.hid hL
  clear HL hL
  have HL := HLn
  clear HLn
  go_wp2_with (first | (refine wpList_store24m rfl _ _ rfl _ 3 rfl 6 _ rfl _ _ _ _ (by exact HL.out.b4) HL.out.ad HS.out (by omega) (csP_src HL.out.ad _ _ _ _) ?_; refine Hid.out ?_))
  refine Lib.hid ?_
  intro w13 hbq hawq
  have HLn := Lib.hid (HL.out.away hbq hawq ⟨HS.out, HL.out.ad.2⟩)
  clear HL hbq hawq
  have HL := HLn
  clear HLn
  go_wp2_with fail
  refine (RH.adrL (by exact HL.out) HD.out).mono ?_
  rintro E w14 ⟨rfl, hL⟩
  have HLn := Lib.hid hL
  clear HL hL
  have HL := HLn
  clear HLn
  go_wp2_with (first | (refine wpList_store24m rfl _ _ rfl _ 20 rfl 6 _ rfl _ _ _ _ (by exact HL.out.b4) HL.out.ad HD.out (by omega) (csP_dst HL.out.ad _ _ _ _) ?_; refine Hid.out ?_))
  refine Lib.hid ?_
  intro w15 hbq hawq
  have HLn := Lib.hid (HL.out.away hbq hawq ⟨HL.out.ad.1, HD.out⟩)
  clear HL hbq hawq
  have HL := HLn
  clear HLn
  have hn2 := HL.out.n2
  go_wp2_with (first
    | (refine wpList_load28 rfl _ rfl _ rfl _ _ _ (by exact HL.out.b4) HL.out.ad ?_)
    | (refine wpList_store28 rfl _ _ rfl _ rfl _ _ _ rfl zeroPk (.slice none 0 0) (.slice none 0 0) (by exact HL.out.b2) HL.out.ad ⟨rfl, rfl⟩ rfl rfl ?_; refine Hid.out ?_))
  refine Lib.hid ?_
  intro w9 hb9 haw9
  have HB9 := Lib.hid hb9
  have HR9 := Lib.hid (HL.out.rd.away haw9 (by simp; exact fun e => HL.out.e2 e.symm) (by simp; exact fun e => HL.out.e5 e.symm))
  have HA9 : Hid (Away [gr] w w9) := HL.out.aw.next haw9 (fun x hx => .inr (by simp at hx; omega))
  have HAD9 := Lib.hid HL.out.ad
  clear hb9 haw9 HL
  go_wp2_with fail
  refine bodyPost_ret (result28t rfl _ _ _ _ _ _ _ rfl rfl HB9.out HAD9.out) rfl ⟨rfl, HR9.out, HA9.out⟩
theorem lkFrag_c (w : World) (g4 gr dr : Nat) (p : Pk) (ov dv : Value) (r0 r1 r2 r3 r4 r5 r6 r7 : Int) (t : List Int) (ha : Ad p) (hb : BoxP w g4 p ov dv) (hr : Rd w gr dr (r0 :: r1 :: r2 :: r3 :: r4 :: r5 :: r6 :: r7 :: t) 0) (e3 : g4 ≠ gr) (e4 : g4 ≠ dr) :
    Calls Tryd.prog 53 #[.pointer (some ⟨gr, 0, none⟩), .pointer (some ⟨g4, 0, none⟩)] w fun E w' =>
      FragOut w g4 gr dr { p with frag := true, proto := r0, off := (256 * r2 + r3) / 8 * 8, more := decide ((256 * r2 + r3) % 2 = 1), id := 16777216 * r4 + 65536 * r5 + 256 * r6 + r7 } ov dv t (decide (r1 = 0) && decide ((256 * r2 + r3) / 2 % 4 = 0)) E w' := by
  have hby := hr.bytes.1
  have x0 := hby.head
  have x1 := hby.tail.head
  have x2 := hby.tail.tail.head
  have x3 := hby.tail.tail.tail.head
  have x4 := hby.tail.tail.tail.tail.head
  have x5 := hby.tail.tail.tail.tail.tail.head
  have x6 := hby.tail.tail.tail.tail.tail.tail.head
  have x7 := hby.tail.tail.tail.tail.tail.tail.tail.head
  obtain ⟨F, hF⟩ : ∃ F, F = 256 * r2 + r3 := ⟨_, rfl⟩
  rw [← hF]
  have f0 : 0 ≤ F := by omega
  have f1 : F ≤ 65535 := by omega
  have k1 := andlo F f0 f1
  have k2 := andhi F f0 f1
  have k3 := andmid F f0 f1
  obtain ⟨N, hN⟩ : ∃ N, N = 16777216 * r4 + 65536 * r5 + 256 * r6 + r7 := ⟨_, rfl⟩
  rw [← hN]
  have n0 : 0 ≤ N := by omega
  have n1 : N ≤ 4294967295 := by omega
  have HF := Lib.hid hF; have HN := Lib.hid hN
  have HAD := Lib.hid ha
  have HL : Hid (RG w w g4 gr dr p ov dv (r0 :: r1 :: r2 :: r3 :: r4 :: r5 :: r6 :: r7 :: t)) := ⟨hb, hr, Away.refl _ _, ha, e3, e4⟩
  have em : (F % 2 != 0) = decide (F % 2 = 1) := by
    rcases (by omega : F % 2 = 0 ∨ F % 2 = 1) with h | h <;> simp [h]
  have HEM := Lib.hid em
  have ec : (F / 2 % 4 * 2 == 0) = decide (F / 2 % 4 = 0) := by
    rw [Bool.eq_iff_iff]; simp; omega
  have HEC := Lib.hid ec
  clear hF hN hby hr hb ha em ec x1 e3 e4
  go_enter Tryd.func53, Tryd.ntmps53
  have s42 := (HL.out.b4.cells HL.out.ad).frag
  have t42 := HL.out.b4.free 42
  go_wp2_with fail
  have HLn := Lib.hid ((HL.out.put 42 (.bool true) ((csP_set HL.out.ad _ _).2.2.2.2.2.2.2.2.2.2.1 (true)) HL.out.ad))
  clear HL s42 t42
  generalize (w.setCell ⟨g4, 42, none⟩ (.bool true)) = w1 at *
  have HL := HLn
  clear HLn
  refine (RG.u8 (by exact HL.out)).mono ?_
  rintro E w2 ⟨rfl, hL⟩
  have HLn := Lib.hid hL
  clear HL hL
  have HL := HLn
  clear HLn
  have s37 := (HL.out.b4.cells HL.out.ad).proto
  have t37 := HL.out.b4.free 37
  go_wp2_with fail
  have HLn := Lib.hid ((HL.out.put 37 (.int .i64 r0) ((csP_set HL.out.ad _ _).2.2.2.2.2.1 (r0)) HL.out.ad))
  clear HL s37 t37
  generalize (w2.setCell ⟨g4, 37, none⟩ (.int .i64 r0)) = w3 at *
  have HL := HLn
  clear HLn
  refine (RG.u8 (by exact HL.out)).mono ?_
  rintro E w4 ⟨rfl, hL⟩
  have HLn := Lib.hid hL
  clear HL hL
  have HL := HLn
  clear HLn
  go_wp2_with fail
  refine (RG.u16 (by exact HL.out)).mono ?_
  rintro E w5 ⟨rfl, hL⟩
  have HLn := Lib.hid hL
  clear HL hL
  have HL := HLn
  clear HLn
  rw [← HF.out]
  have s43 := (HL.out.b4.cells HL.out.ad).off
  have t43 := HL.out.b4.free 43
  have s41 := (HL.out.b4.cells HL.out.ad).more
  have t41 := HL.out.b4.free 41
  go_wp2_with fail
  have HLn := Lib.hid ((HL.out.put 43 (.int .i64 (F / 8 * 8)) ((csP_set HL.out.ad _ _).2.2.2.2.2.2.2.2.2.2.2.1 (F / 8 * 8)) HL.out.ad).put 41 (.bool (F % 2 != 0)) ((csP_set (by exact HL.out.ad) _ _).2.2.2.2.2.2.2.2.2.1 (F % 2 != 0)) HL.out.ad)
  clear HL s43 t43 s41 t41
  generalize ((w5.setCell ⟨g4, 43, none⟩ (.int .i64 (F / 8 * 8))).setCell ⟨g4, 41, none⟩ (.bool (F % 2 != 0))) = w6 at *
  have HL := HLn
  clear HLn
  refine (RG.u32 (by exact HL.out)).mono ?_
  rintro E w7 ⟨rfl, hL⟩
  have HLn := Lib.hid hL
  clear HL hL
  have HL := HLn
  clear HLn
  rw [← HN.out]
  have s39 := (HL.out.b4.cells HL.out.ad).id
  have t39 := HL.out.b4.free 39
  have HLn := Lib.hid ((HL.out.put 39 (.int .u32 N) ((csP_set HL.out.ad _ _).2.2.2.2.2.2.2.1 N) HL.out.ad))
  by_cases hz : r1 = 0
  · subst hz
    go_wp2_with fail
    go_ret
    refine ⟨by rw [← HEC.out]; simp, ?_, HLn.out.rd, HLn.out.aw⟩
    have hb := HLn.out.b4
    rw [HEM.out] at hb
    exact hb
  · have hz' : (r1 == 0) = false := by simp [hz]
    have hz2 : decide (r1 = 0) = false := by simp [hz]
    clear hz
    go_wp2_with fail
    go_ret
    refine ⟨by rw [hz2]; rfl, ?_, HLn.out.rd, HLn.out.aw⟩
    have hb := HLn.out.b4
    rw [HEM.out] at hb
    exact hb
theorem rdM (r : List Int) (m : Nat) (h : m ≤ r.length) : rdOut r 0 m = r.take m ∧ rdRest r 0 m = r.drop m ∧ rdErr r 0 m = 0 := by
  have h' : (0 : Int) = 0 ∧ (0 : Int) ≤ (m : Int) ∧ (m : Int) ≤ (r.length : Int) := ⟨rfl, by omega, by omega⟩
  unfold rdOut rdRest rdErr
  rw [if_pos h', if_pos h', if_pos rfl, if_neg (by omega), if_pos h'.2.2]
  exact ⟨by simp, by simp, rfl⟩
/-- A quote of version 6 that is long enough, and its fragment header is one. -/
def frag6P (b : List Int) : Pk := { fixR b with frag := true, proto := gt b 40, off := wd b 42 / 8 * 8, more := decide (wd b 42 % 2 = 1), id := wd4 b 44 }
/-- What a quote of version 6 tells: the packet, the length of the whole, the error. -/
def look6P (b : List Int) : Pk × Int × Int :=
  if b.length < 40 then (zeroPk, 0, 20) else
  if gt b 0 / 16 ≠ 6 then (zeroPk, 0, 50) else
  if gt b 6 = 44 then
    if b.length < 48 then (zeroPk, 0, 20) else
    if cleanP b = false ∨ gt b 40 = 44 ∨ wd b 4 < 8 then (zeroPk, 0, 50) else
    ({ frag6P b with d := (b.drop 48).take (min (b.length - 48) (wd b 4 - 8).toNat) }, 40 + wd b 4, 0)
  else ({ fixR b with d := (b.drop 40).take (min (b.length - 40) (wd b 4).toNat) }, 40 + wd b 4, 0)
theorem look6_short (a : Option Addr) (b : List Int) (cap : Nat) (w : World) (hr : Row w a b) (hcap : b.length ≤ cap) (hn : a = none → cap = 0) (h : b.length < 40) :
    Calls Tryd.prog 24 #[.slice a b.length cap] w fun E w' => L4Out w (zeroPk, 0, 20) E w' := by
  have hlen := hr.1
  have HR := Lib.hid hr
  have h' : (b.length : Int) < 40 := by omega
  clear hr
  go_enter Tryd.func24, Tryd.ntmps24
  go_wp2_with (refine wpList_alloc28 rfl rfl ?_; refine Hid.out ?_)
  refine Lib.hid ?_
  intro g2 w1 hg2 hb haw
  have HA := Lib.hid haw; have HB := Lib.hid hb
  have hl2 := hb.lt
  clear hb haw
  go_wp2_with (refine wpList_store28 rfl _ _ rfl g2 rfl zeroPk (.slice none 0 0) (.slice none 0 0) rfl zeroPk (.slice none 0 0) (.slice none 0 0) (by exact HB.out) ⟨rfl, rfl⟩ ⟨rfl, rfl⟩ rfl rfl ?_; refine Hid.out ?_)
  refine Lib.hid ?_
  intro wz hb haw
  have HZ := Lib.hid hb
  replace HA : Hid (Away [] w wz) := HA.out.next haw (fun x hx => .inr (by simp at hx; omega))
  clear hb haw
  go_wp2_with fail
  refine bodyPost_ret (result28tt rfl _ _ _ _ _ _ _ _ rfl rfl rfl HZ.out ⟨rfl, rfl⟩) rfl (L4Out.no _ HA.out)
theorem look6_form (a : Option Addr) (b : List Int) (cap : Nat) (w : World) (hr : Row w a b) (hcap : b.length ≤ cap) (hn : a = none → cap = 0) (h40 : 40 ≤ b.length) (h6 : gt b 0 / 16 ≠ 6) :
    Calls Tryd.prog 24 #[.slice a b.length cap] w fun E w' => L4Out w (zeroPk, 0, 50) E w' := by
  have hlen := hr.1
  have HR := Lib.hid hr
  have hl' : ¬ ((b.length : Int) < 40) := by omega
  obtain ⟨bk, off, hat, hc⟩ : ∃ b' off, a = some ⟨b', off, none⟩ ∧ ∀ i, i < b.length → w.cell? ⟨b', off + i, none⟩ = some (.int .u8 (gt b i)) := by
    rcases hr.2.2 with h0 | ⟨b', off, rfl, hc⟩
    · rw [h0] at h40; simp at h40
    · exact ⟨b', off, rfl, fun i hi => by have := hc i hi; simpa [gt] using this⟩
  have HC0 : Hid (∀ W, Away [] w W → W.cell? ⟨bk, off, none⟩ = some (.int .u8 (gt b 0))) := fun W h => h.cell (by simp) (hc 0 (by omega))
  have HC6 : Hid (∀ W, Away [] w W → W.cell? ⟨bk, off + 6, none⟩ = some (.int .u8 (gt b 6))) := fun W h => h.cell (by simp) (hc 6 (by omega))
  have hx := gt_bd hr.2.1 0
  have hq0 := hx.1
  have hq1 := hx.2
  have hd16 : gt b 0 / 16 ≤ 15 := by omega
  have i6 : (6 : Int) < (b.length : Int) := by omega
  subst hat
  clear hc
  have b4 : (gt b 0 / 16 == 6) = false := by simp [h6]
  have b4' : (gt b 0 / 16 != 6) = true := by simp [h6]
  clear h6
  clear hr
  go_enter Tryd.func24, Tryd.ntmps24
  go_wp2_with (refine wpList_alloc28 rfl rfl ?_; refine Hid.out ?_)
  refine Lib.hid ?_
  intro g2 w1 hg2 hb haw
  have HA := Lib.hid haw; have HB := Lib.hid hb
  have hl2 := hb.lt
  clear hb haw
  have c0 := HC0.out _ HA.out
  have c6 := HC6.out _ HA.out
  go_wp2_with (refine wpList_store28 rfl _ _ rfl g2 rfl zeroPk (.slice none 0 0) (.slice none 0 0) rfl zeroPk (.slice none 0 0) (.slice none 0 0) (by exact HB.out) ⟨rfl, rfl⟩ ⟨rfl, rfl⟩ rfl rfl ?_; refine Hid.out ?_)
  refine Lib.hid ?_
  intro wz hb haw
  have HZ := Lib.hid hb
  replace HA : Hid (Away [] w wz) := HA.out.next haw (fun x hx => .inr (by simp at hx; omega))
  clear hb haw
  go_wp2_with fail
  refine bodyPost_ret (result28tt rfl _ _ _ _ _ _ _ _ rfl rfl rfl HZ.out ⟨rfl, rfl⟩) rfl (L4Out.no _ HA.out)
theorem look6_cut (a : Option Addr) (b : List Int) (cap : Nat) (w : World) (hr : Row w a b) (hcap : b.length ≤ cap) (hn : a = none → cap = 0) (h40 : 40 ≤ b.length) (h6 : gt b 0 / 16 = 6) (hf : gt b 6 = 44) (hl : b.length < 48) :
    Calls Tryd.prog 24 #[.slice a b.length cap] w fun E w' => L4Out w (zeroPk, 0, 20) E w' := by
  have hlen := hr.1
  have HR := Lib.hid hr
  have hl' : ¬ ((b.length : Int) < 40) := by omega
  obtain ⟨bk, off, hat, hc⟩ : ∃ b' off, a = some ⟨b', off, none⟩ ∧ ∀ i, i < b.length → w.cell? ⟨b', off + i, none⟩ = some (.int .u8 (gt b i)) := by
    rcases hr.2.2 with h0 | ⟨b', off, rfl, hc⟩
    · rw [h0] at h40; simp at h40
    · exact ⟨b', off, rfl, fun i hi => by have := hc i hi; simpa [gt] using this⟩
  have HC0 : Hid (∀ W, Away [] w W → W.cell? ⟨bk, off, none⟩ = some (.int .u8 (gt b 0))) := fun W h => h.cell (by simp) (hc 0 (by omega))
  have HC6 : Hid (∀ W, Away [] w W → W.cell? ⟨bk, off + 6, none⟩ = some (.int .u8 (gt b 6))) := fun W h => h.cell (by simp) (hc 6 (by omega))
  have hx := gt_bd hr.2.1 0
  have hq0 := hx.1
  have hq1 := hx.2
  have hd16 : gt b 0 / 16 ≤ 15 := by omega
  have i6 : (6 : Int) < (b.length : Int) := by omega
  subst hat
  clear hc
  have b4 : (gt b 0 / 16 == 6) = true := by simp [h6]
  have b4' : (gt b 0 / 16 != 6) = false := by simp [h6]
  have e6 : (gt b 6 == 44) = true := by simp [hf]
  have h48 : (b.length : Int) < 48 := by omega
  clear h6 hf
  clear hr
  go_enter Tryd.func24, Tryd.ntmps24
  go_wp2_with (refine wpList_alloc28 rfl rfl ?_; refine Hid.out ?_)
  refine Lib.hid ?_
  intro g2 w1 hg2 hb haw
  have HA := Lib.hid haw; have HB := Lib.hid hb
  have hl2 := hb.lt
  clear hb haw
  have c0 := HC0.out _ HA.out
  have c6 := HC6.out _ HA.out
  go_wp2_with (refine wpList_store28 rfl _ _ rfl g2 rfl zeroPk (.slice none 0 0) (.slice none 0 0) rfl zeroPk (.slice none 0 0) (.slice none 0 0) (by exact HB.out) ⟨rfl, rfl⟩ ⟨rfl, rfl⟩ rfl rfl ?_; refine Hid.out ?_)
  refine Lib.hid ?_
  intro wz hb haw
  have HZ := Lib.hid hb
  replace HA : Hid (Away [] w wz) := HA.out.next haw (fun x hx => .inr (by simp at hx; omega))
  clear hb haw
  go_wp2_with fail
  refine bodyPost_ret (result28tt rfl _ _ _ _ _ _ _ _ rfl rfl rfl HZ.out ⟨rfl, rfl⟩) rfl (L4Out.no _ HA.out)
theorem look6_plain (a : Option Addr) (b : List Int) (cap : Nat) (w : World) (hr : Row w a b) (hcap : b.length ≤ cap) (hn : a = none → cap = 0) (h40 : 40 ≤ b.length) (h6 : gt b 0 / 16 = 6) (hf : gt b 6 ≠ 44) :
    Calls Tryd.prog 24 #[.slice a b.length cap] w fun E w' => L4Out w ({ fixR b with d := (b.drop 40).take (min (b.length - 40) (wd b 4).toNat) }, 40 + wd b 4, 0) E w' := by
  have hlen := hr.1
  have HR := Lib.hid hr
  have hl' : ¬ ((b.length : Int) < 40) := by omega
  obtain ⟨bk, off, hat, hc⟩ : ∃ b' off, a = some ⟨b', off, none⟩ ∧ ∀ i, i < b.length → w.cell? ⟨b', off + i, none⟩ = some (.int .u8 (gt b i)) := by
    rcases hr.2.2 with h0 | ⟨b', off, rfl, hc⟩
    · rw [h0] at h40; simp at h40
    · exact ⟨b', off, rfl, fun i hi => by have := hc i hi; simpa [gt] using this⟩
  have HC0 : Hid (∀ W, Away [] w W → W.cell? ⟨bk, off, none⟩ = some (.int .u8 (gt b 0))) := fun W h => h.cell (by simp) (hc 0 (by omega))
  have HC6 : Hid (∀ W, Away [] w W → W.cell? ⟨bk, off + 6, none⟩ = some (.int .u8 (gt b 6))) := fun W h => h.cell (by simp) (hc 6 (by omega))
  have hx := gt_bd hr.2.1 0
  have hq0 := hx.1
  have hq1 := hx.2
  have hd16 : gt b 0 / 16 ≤ 15 := by omega
  have i6 : (6 : Int) < (b.length : Int) := by omega
  subst hat
  clear hc
  have b4 : (gt b 0 / 16 == 6) = true := by simp [h6]
  have b4' : (gt b 0 / 16 != 6) = false := by simp [h6]
  obtain ⟨b0, b1, b2, b3, b4, b5, b6, b7, s, d, r, hbs, hs, hd⟩ := bs_of h40
  have hxx := bs_at b0 b1 b2 b3 b4 b5 b6 b7 s d r hs hd
  rw [← hbs] at hxx
  have HX := Lib.hid hxx
  have HBS := Lib.hid hbs
  have HS := Lib.hid hs; have HD := Lib.hid hd
  have HT : Hid (256 * b4 + b5 = wd b 4) := by
    show _ = _
    rw [hbs]; rfl
  have ht0 : 0 ≤ wd b 4 ∧ wd b 4 ≤ 65535 := wd_bd hr.2.1 4
  have HFA : Hid (Ad (fixR b)) := ⟨by show ((b.drop 8).take 16).length = 16; simp; omega, by show ((b.drop 24).take 16).length = 16; simp; omega⟩
  have HBY := Lib.hid hr.2.1
  clear hxx hbs hs hd
  have e6 : (gt b 6 == 44) = false := by simp [hf]
  obtain ⟨R, hR⟩ : ∃ R : Pk × Int × Int, R = ({ fixR b with d := (b.drop 40).take (min (b.length - 40) (wd b 4).toNat) }, 40 + wd b 4, 0) := ⟨_, rfl⟩
  rw [← hR]
  have HRES0 : Hid (∀ m, m = min r.length (wd b 4).toNat → R = ({ fixR b with d := r.take m }, 40 + wd b 4, 0)) := by
    intro m hm
    rw [hR, hm, HX.out.er, show b.length - 40 = r.length by have := HX.out.len; omega]
  have HQO : Hid ((fixR b).o = []) := rfl
  clear h6 hf hR
  clear hr
  go_enter Tryd.func24, Tryd.ntmps24
  go_wp2_with (refine wpList_alloc28 rfl rfl ?_; refine Hid.out ?_)
  refine Lib.hid ?_
  intro g2 w1 hg2 hb haw
  have HA := Lib.hid haw; have HB := Lib.hid hb
  have hl2 := hb.lt
  clear hb haw
  have c0 := HC0.out _ HA.out
  have c6 := HC6.out _ HA.out
  go_wp2_with fail
  clear c0 c6
  refine (newReader_any (some ⟨bk, off, none⟩) b _ cap _ rfl (by intro e; cases e) (by exact HR.out.away HA.out (by simp))).mono ?_
  rintro E w3 ⟨gr, dr, rfl, hrd, hgr, hdr, haw3⟩
  have HR3 := Lib.hid hrd
  replace HA := Lib.hid (HA.out.on haw3); replace HB := Lib.hid (HB.out.on haw3)
  have hs3 := haw3.size
  have hrl3 := hrd.lt
  clear hrd haw3
  go_wp2_with fail
  refine (read6_c w3 gr dr b0 b1 b2 b3 b4 b5 b6 b7 s d r HS.out HD.out (by rw [← HBS.out]; exact HR3.out)).mono ?_
  rw [← HBS.out, HT.out]
  rintro E w4 ⟨rfl, hrd, haw4⟩
  have hs4 := haw4.size
  have HR4 := Lib.hid hrd
  replace HA : Hid (Away [] w w4) := HA.out.next haw4 (fun x hx => .inr (by simp at hx; omega))
  replace HB := Lib.hid (HB.out.away haw4 (by simp; omega))
  clear HR3 hrd haw4
  go_wp2_with (first | (refine wpList_alloc28 rfl rfl ?_; refine Hid.out ?_))
  refine Lib.hid ?_
  intro g6 w5 hg6 hb6 haw5
  have HB6 := Lib.hid hb6
  have hl6 := hb6.lt
  replace HA := Lib.hid (HA.out.on haw5); replace HB := Lib.hid (HB.out.on haw5)
  have HR5 := Lib.hid (HR4.out.away haw5 (by simp) (by simp))
  have hs5 := haw5.size
  clear hb6 haw5 HR4
  go_wp2_with (first | (refine wpList_store28 rfl _ _ rfl _ rfl (fixR b) (.slice none 0 0) (.slice none 0 0) rfl zeroPk (.slice none 0 0) (.slice none 0 0) (by exact HB6.out) HFA.out ⟨rfl, rfl⟩ rfl rfl ?_; refine Hid.out ?_))
  refine Lib.hid ?_
  intro w6 hb6 haw6
  have hs6 := haw6.size
  have HL : Hid (PS w w6 g2 g6 gr dr (fixR b) r) := ⟨HB.out.away haw6 (by simp; omega), hb6, HR5.out.away haw6 (by simp; omega) (by simp; omega), HA.out.next haw6 (fun x hx => .inr (by simp at hx; omega)), hg2, by omega, by omega, by omega, by omega, by omega, by omega, by omega⟩
  clear hb6 haw6 HB6 HB HA HR5 hg2 hg6 hl2 hl6 hs3 hs4 hs5 hs6 hgr hdr hrl3
  have c37 : w6.cell? ⟨g6, 37, none⟩ = some (.int .i64 (gt b 6)) := (HL.out.b6.cells HFA.out).proto
  go_wp2_with fail
  refine (left_any w6 gr dr r 0 (by exact HL.out.rd)).mono ?_
  rintro E wl ⟨rfl, rfl⟩
  obtain ⟨m, hm⟩ : ∃ m, m = min r.length (wd b 4).toNat := ⟨_, rfl⟩
  have hmm : min (r.length : Int) (wd b 4) = (m : Int) := by omega
  obtain ⟨z1, z2, z3⟩ := rdM r m (by omega)
  have HML : Hid ((r.take m).length = m) := by show _ = _; simp; omega
  have HRES := Lib.hid (HRES0.out m hm)
  clear HRES0 hm
  go_wp2_with fail
  refine (bytes_any _ gr dr r 0 m (by exact HL.out.rd)).mono ?_
  rw [z1, z2, z3]
  clear z1 z2 z3
  rintro E wb ⟨dv, rfl, hown, hnew, hrd, hawb, hby, hln⟩
  have hsb := hawb.size
  have hsq := HL.out.aw.size
  have hl2 := HL.out.b2.lt
  have hl6 := HL.out.b6.lt
  have HLb : Hid (PS w wb g2 g6 gr dr (fixR b) (r.drop m)) := ⟨HL.out.b2.away hawb (by simp; exact HL.out.e2), HL.out.b6.away hawb (by simp; exact HL.out.e3), hrd, HL.out.aw.next hawb (fun x hx => .inr (by simp at hx; rw [hx]; exact HL.out.nr)), HL.out.n2, HL.out.n6, HL.out.nr, HL.out.e1, HL.out.e2, HL.out.e3, HL.out.e4, HL.out.e5⟩
  have HDV : Hid (∀ k, dv.ownBlock = some k → k ≠ g6 ∧ k ≠ g2) := fun k hk => by have := hnew k hk; omega
  have hnw : New w.heap.size dv := hnew.mono hsq
  have HO := Lib.hid hown
  obtain ⟨ad, capd, hdv, -⟩ := hown.row hln hby
  rw [HML.out] at hdv
  subst hdv
  clear hown hrd hawb HL
  have s45 := (HLb.out.b6.cells HFA.out).d
  have t45 := HLb.out.b6.free 45
  have hA7 := away_put (w := wb) (g := g6) 45 (.slice ad m capd)
  have hB7 := HLb.out.b6.put 45 (.slice ad m capd) ((csP_set HFA.out _ _).2.2.2.2.2.2.2.2.2.2.2.2.2 (r.take m) (.slice ad m capd))
  have HB7 := Lib.hid hB7
  have HB27 := Lib.hid (HLb.out.b2.away hA7 (by simp; exact HLb.out.e1))
  have HA7 := Lib.hid (HLb.out.aw.next hA7 (fun x hx => .inr (by simp at hx; rw [hx]; exact HLb.out.n6)))
  have HO7 := Lib.hid (HO.out.away hA7 (fun k hk => by simpa using (HDV.out k hk).1))
  have hn2 := HLb.out.n2
  have HPA : Hid (Ad ({ (fixR b) with d := r.take m } : Pk)) := ⟨HFA.out.1, HFA.out.2⟩
  have HPO : Hid (((fixR b) : Pk).o = []) := HQO.out
  clear hA7 hB7 HO HLb hnew
  go_upto_region 16 with fail
  clear s45 t45
  generalize wb.setCell ⟨g6, 45, none⟩ (.slice ad m capd) = w7 at *
  generalize r.take m = L at *
  obtain ⟨P, hP⟩ : ∃ P : Pk, P = { (fixR b) with d := L } := ⟨_, rfl⟩
  rw [← hP] at HB7 HPA HRES
  have HPO2 : Hid (P.o = []) := by rw [hP]; exact HPO.out
  have HPD : Hid (P.d = L) := by rw [hP]; rfl
  clear hP
  go_wp2_with (first
    | (refine wpList_load28 rfl _ rfl _ rfl P _ _ (by exact HB7.out) HPA.out ?_)
    | (refine wpList_store28 rfl _ _ rfl _ rfl P (.slice none 0 0) (.slice ad m capd) rfl zeroPk (.slice none 0 0) (.slice none 0 0) (by exact HB27.out) HPA.out ⟨rfl, rfl⟩ rfl rfl ?_; refine Hid.out ?_))
  refine Lib.hid ?_
  intro wx hbx hawx
  have HBx := Lib.hid hbx
  have HAx : Hid (Away [] w wx) := HA7.out.next hawx (fun x hx => .inr (by simp at hx; omega))
  have HDx := Lib.hid (HO7.out.away hawx (fun k hk => by simpa using (HDV.out k hk).2))
  clear hbx hawx
  go_wp2_with fail
  refine bodyPost_ret (result28tt rfl _ _ _ _ _ _ (.int .i64 (40 + wd b 4)) (.int .i64 0) rfl rfl rfl HBx.out HPA.out) rfl ?_
  rw [HRES.out]
  exact ⟨_, _, rfl, by show Owns _ _ P.o; rw [HPO2.out]; exact Owns.nil _, by show Owns _ _ P.d; rw [HPD.out]; exact HDx.out, New.nil _, hnw, by simp [Value.ownBlock], HAx.out⟩
theorem look6_frag (a : Option Addr) (b : List Int) (cap : Nat) (w : World) (hr : Row w a b) (hcap : b.length ≤ cap) (hn : a = none → cap = 0) (h40 : 40 ≤ b.length) (h6 : gt b 0 / 16 = 6) (hf : gt b 6 = 44) (h48 : 48 ≤ b.length) :
    Calls Tryd.prog 24 #[.slice a b.length cap] w fun E w' => L4Out w (if cleanP b = false ∨ gt b 40 = 44 ∨ wd b 4 < 8 then (zeroPk, 0, 50) else ({ frag6P b with d := (b.drop 48).take (min (b.length - 48) (wd b 4 - 8).toNat) }, 40 + wd b 4, 0)) E w' := by
  have hlen := hr.1
  have HR := Lib.hid hr
  have hl' : ¬ ((b.length : Int) < 40) := by omega
  obtain ⟨bk, off, hat, hc⟩ : ∃ b' off, a = some ⟨b', off, none⟩ ∧ ∀ i, i < b.length → w.cell? ⟨b', off + i, none⟩ = some (.int .u8 (gt b i)) := by
    rcases hr.2.2 with h0 | ⟨b', off, rfl, hc⟩
    · rw [h0] at h40; simp at h40
    · exact ⟨b', off, rfl, fun i hi => by have := hc i hi; simpa [gt] using this⟩
  have HC0 : Hid (∀ W, Away [] w W → W.cell? ⟨bk, off, none⟩ = some (.int .u8 (gt b 0))) := fun W h => h.cell (by simp) (hc 0 (by omega))
  have HC6 : Hid (∀ W, Away [] w W → W.cell? ⟨bk, off + 6, none⟩ = some (.int .u8 (gt b 6))) := fun W h => h.cell (by simp) (hc 6 (by omega))
  have hx := gt_bd hr.2.1 0
  have hq0 := hx.1
  have hq1 := hx.2
  have hd16 : gt b 0 / 16 ≤ 15 := by omega
  have i6 : (6 : Int) < (b.length : Int) := by omega
  subst hat
  clear hc
  have b4 : (gt b 0 / 16 == 6) = true := by simp [h6]
  have b4' : (gt b 0 / 16 != 6) = false := by simp [h6]
  obtain ⟨b0, b1, b2, b3, b4, b5, b6, b7, s, d, r, hbs, hs, hd⟩ := bs_of h40
  have hxx := bs_at b0 b1 b2 b3 b4 b5 b6 b7 s d r hs hd
  rw [← hbs] at hxx
  have HX := Lib.hid hxx
  have HBS := Lib.hid hbs
  have HS := Lib.hid hs; have HD := Lib.hid hd
  have HT : Hid (256 * b4 + b5 = wd b 4) := by
    show _ = _
    rw [hbs]; rfl
  have ht0 : 0 ≤ wd b 4 ∧ wd b 4 ≤ 65535 := wd_bd hr.2.1 4
  have HFA : Hid (Ad (fixR b)) := ⟨by show ((b.drop 8).take 16).length = 16; simp; omega, by show ((b.drop 24).take 16).length = 16; simp; omega⟩
  have HBY := Lib.hid hr.2.1
  clear hxx hbs hs hd
  have e6 : (gt b 6 == 44) = true := by simp [hf]
  have h48' : ¬ (b.length : Int) < 48 := by omega
  have hrl : 8 ≤ r.length := by have := HX.out.len; omega
  obtain ⟨r0, r1, r2, r3, r4, r5, r6, r7, t, rfl⟩ : ∃ r0 r1 r2 r3 r4 r5 r6 r7 t, r = r0 :: r1 :: r2 :: r3 :: r4 :: r5 :: r6 :: r7 :: t := by
    match r, hrl with
    | r0 :: r1 :: r2 :: r3 :: r4 :: r5 :: r6 :: r7 :: t, _ => exact ⟨r0, r1, r2, r3, r4, r5, r6, r7, t, rfl⟩
  have k0 : gt b 40 = r0 := HX.out.k 0
  have k1 : gt b 41 = r1 := HX.out.k 1
  have k2 : gt b 42 = r2 := HX.out.k 2
  have k3 : gt b 43 = r3 := HX.out.k 3
  have k4 : gt b 44 = r4 := HX.out.k 4
  have k5 : gt b 45 = r5 := HX.out.k 5
  have k6 : gt b 46 = r6 := HX.out.k 6
  have k7 : gt b 47 = r7 := HX.out.k 7
  have kd : b.drop 48 = t := by rw [show 48 = 40 + 8 from rfl, ← List.drop_drop, HX.out.er]; rfl
  have HTL : Hid (b.length - 48 = t.length) := by show _ = _; have := HX.out.len; simp at this; omega
  obtain ⟨q, hq⟩ : ∃ q : Pk, q = { fixR b with frag := true, proto := r0, off := (256 * r2 + r3) / 8 * 8, more := decide ((256 * r2 + r3) % 2 = 1), id := 16777216 * r4 + 65536 * r5 + 256 * r6 + r7 } := ⟨_, rfl⟩
  have HFQ : Hid (frag6P b = q) := by
    show _ = _
    rw [hq]; unfold frag6P wd wd4; rw [k0, k2, k3, k4, k5, k6, k7]
  have HCL : Hid (cleanP b = (decide (r1 = 0) && decide ((256 * r2 + r3) / 2 % 4 = 0))) := by
    show _ = _
    unfold cleanP wd; rw [k1, k2, k3]; simp [hf]
  have HQA : Hid (Ad q) := by rw [hq]; exact HFA.out
  have HQO : Hid (q.o = []) := by rw [hq]; rfl
  have HQR : Hid (q.proto = r0) := by rw [hq]; rfl
  have hr0 : 0 ≤ r0 ∧ r0 ≤ 255 := by rw [← k0]; exact gt_bd hr.2.1 40
  have HQ := Lib.hid hq
  obtain ⟨R, hR⟩ : ∃ R : Pk × Int × Int, R = if cleanP b = false ∨ gt b 40 = 44 ∨ wd b 4 < 8 then (zeroPk, 0, 50) else ({ frag6P b with d := (b.drop 48).take (min (b.length - 48) (wd b 4 - 8).toNat) }, 40 + wd b 4, 0) := ⟨_, rfl⟩
  rw [← hR]
  rw [k0, kd, HTL.out, HFQ.out, HCL.out] at hR
  have HRE := Lib.hid hR
  clear hq h6 hf hR k0 k1 k2 k3 k4 k5 k6 k7 kd hrl HFQ HCL HTL
  clear hr
  go_enter Tryd.func24, Tryd.ntmps24
  go_wp2_with (refine wpList_alloc28 rfl rfl ?_; refine Hid.out ?_)
  refine Lib.hid ?_
  intro g2 w1 hg2 hb haw
  have HA := Lib.hid haw; have HB := Lib.hid hb
  have hl2 := hb.lt
  clear hb haw
  have c0 := HC0.out _ HA.out
  have c6 := HC6.out _ HA.out
  go_wp2_with fail
  clear c0 c6
  refine (newReader_any (some ⟨bk, off, none⟩) b _ cap _ rfl (by intro e; cases e) (by exact HR.out.away HA.out (by simp))).mono ?_
  rintro E w3 ⟨gr, dr, rfl, hrd, hgr, hdr, haw3⟩
  have HR3 := Lib.hid hrd
  replace HA := Lib.hid (HA.out.on haw3); replace HB := Lib.hid (HB.out.on haw3)
  have hs3 := haw3.size
  have hrl3 := hrd.lt
  clear hrd haw3
  go_wp2_with fail
  refine (read6_c w3 gr dr b0 b1 b2 b3 b4 b5 b6 b7 s d (r0 :: r1 :: r2 :: r3 :: r4 :: r5 :: r6 :: r7 :: t) HS.out HD.out (by rw [← HBS.out]; exact HR3.out)).mono ?_
  rw [← HBS.out, HT.out]
  rintro E w4 ⟨rfl, hrd, haw4⟩
  have hs4 := haw4.size
  have HR4 := Lib.hid hrd
  replace HA : Hid (Away [] w w4) := HA.out.next haw4 (fun x hx => .inr (by simp at hx; omega))
  replace HB := Lib.hid (HB.out.away haw4 (by simp; omega))
  clear HR3 hrd haw4
  go_wp2_with (first | (refine wpList_alloc28 rfl rfl ?_; refine Hid.out ?_))
  refine Lib.hid ?_
  intro g6 w5 hg6 hb6 haw5
  have HB6 := Lib.hid hb6
  have hl6 := hb6.lt
  replace HA := Lib.hid (HA.out.on haw5); replace HB := Lib.hid (HB.out.on haw5)
  have HR5 := Lib.hid (HR4.out.away haw5 (by simp) (by simp))
  have hs5 := haw5.size
  clear hb6 haw5 HR4
  go_wp2_with (first | (refine wpList_store28 rfl _ _ rfl _ rfl (fixR b) (.slice none 0 0) (.slice none 0 0) rfl zeroPk (.slice none 0 0) (.slice none 0 0) (by exact HB6.out) HFA.out ⟨rfl, rfl⟩ rfl rfl ?_; refine Hid.out ?_))
  refine Lib.hid ?_
  intro w6 hb6 haw6
  have hs6 := haw6.size
  have HL : Hid (PS w w6 g2 g6 gr dr (fixR b) (r0 :: r1 :: r2 :: r3 :: r4 :: r5 :: r6 :: r7 :: t)) := ⟨HB.out.away haw6 (by simp; omega), hb6, HR5.out.away haw6 (by simp; omega) (by simp; omega), HA.out.next haw6 (fun x hx => .inr (by simp at hx; omega)), hg2, by omega, by omega, by omega, by omega, by omega, by omega, by omega⟩
  clear hb6 haw6 HB6 HB HA HR5 hg2 hg6 hl2 hl6 hs3 hs4 hs5 hs6 hgr hdr hrl3
  have c37 : w6.cell? ⟨g6, 37, none⟩ = some (.int .i64 (gt b 6)) := (HL.out.b6.cells HFA.out).proto
  go_wp2_with fail
  refine (lkFrag_c w6 g6 gr dr (fixR b) (.slice none 0 0) (.slice none 0 0) r0 r1 r2 r3 r4 r5 r6 r7 t HFA.out HL.out.b6 HL.out.rd HL.out.e3 HL.out.e5).mono ?_
  rw [← HQ.out]
  rintro E wq ⟨rfl, hbq, hrdq, hawq⟩
  have HLq : Hid (PS w wq g2 g6 gr dr q t) := ⟨HL.out.b2.away hawq (by simp; exact ⟨HL.out.e1, HL.out.e2⟩), hbq, hrdq, HL.out.aw.next hawq (fun x hx => .inr (by simp at hx; rcases hx with h | h <;> rw [h] <;> first | exact HL.out.n6 | exact HL.out.nr)), HL.out.n2, HL.out.n6, HL.out.nr, HL.out.e1, HL.out.e2, HL.out.e3, HL.out.e4, HL.out.e5⟩
  clear HL hbq hrdq hawq c37 HX HBS HS HD HFA
  have HL := HLq
  clear HLq
  have c37 : wq.cell? ⟨g6, 37, none⟩ = some (.int .i64 r0) := by have := (HL.out.b6.cells HQA.out).proto; rwa [HQR.out] at this
  generalize hcl : (decide (r1 = 0) && decide ((256 * r2 + r3) / 2 % 4 = 0)) = cl at HRE ⊢
  clear hcl
  cases cl
  · obtain rfl : R = (zeroPk, 0, 50) := by rw [HRE.out, if_pos (.inl rfl)]
    go_wp2_with (refine wpList_store28 rfl _ _ rfl g2 rfl zeroPk (.slice none 0 0) (.slice none 0 0) rfl zeroPk (.slice none 0 0) (.slice none 0 0) (by exact HL.out.b2) ⟨rfl, rfl⟩ ⟨rfl, rfl⟩ rfl rfl ?_; refine Hid.out ?_)
    refine Lib.hid ?_
    intro wz hb haw
    have HZ := Lib.hid hb
    have HA : Hid (Away [] w wz) := HL.out.aw.next haw (fun x hx => .inr (by have := HL.out.n2; simp at hx; omega))
    clear hb haw
    go_wp2_with fail
    refine bodyPost_ret (result28tt rfl _ _ _ _ _ _ _ _ rfl rfl rfl HZ.out ⟨rfl, rfl⟩) rfl (L4Out.no _ HA.out)
  by_cases hp : r0 = 44
  · have bp : (r0 == 44) = true := by simp [hp]
    have HP := Lib.hid hp
    clear hp
    obtain rfl : R = (zeroPk, 0, 50) := by rw [HRE.out, if_pos (.inr (.inl HP.out))]
    go_wp2_with (refine wpList_store28 rfl _ _ rfl g2 rfl zeroPk (.slice none 0 0) (.slice none 0 0) rfl zeroPk (.slice none 0 0) (.slice none 0 0) (by exact HL.out.b2) ⟨rfl, rfl⟩ ⟨rfl, rfl⟩ rfl rfl ?_; refine Hid.out ?_)
    refine Lib.hid ?_
    intro wz hb haw
    have HZ := Lib.hid hb
    have HA : Hid (Away [] w wz) := HL.out.aw.next haw (fun x hx => .inr (by have := HL.out.n2; simp at hx; omega))
    clear hb haw
    go_wp2_with fail
    refine bodyPost_ret (result28tt rfl _ _ _ _ _ _ _ _ rfl rfl rfl HZ.out ⟨rfl, rfl⟩) rfl (L4Out.no _ HA.out)
  have bp : (r0 == 44) = false := by simp [hp]
  by_cases h8 : wd b 4 < 8
  · obtain rfl : R = (zeroPk, 0, 50) := by rw [HRE.out, if_pos (.inr (.inr h8))]
    go_wp2_with (refine wpList_store28 rfl _ _ rfl g2 rfl zeroPk (.slice none 0 0) (.slice none 0 0) rfl zeroPk (.slice none 0 0) (.slice none 0 0) (by exact HL.out.b2) ⟨rfl, rfl⟩ ⟨rfl, rfl⟩ rfl rfl ?_; refine Hid.out ?_)
    refine Lib.hid ?_
    intro wz hb haw
    have HZ := Lib.hid hb
    have HA : Hid (Away [] w wz) := HL.out.aw.next haw (fun x hx => .inr (by have := HL.out.n2; simp at hx; omega))
    clear hb haw
    go_wp2_with fail
    refine bodyPost_ret (result28tt rfl _ _ _ _ _ _ _ _ rfl rfl rfl HZ.out ⟨rfl, rfl⟩) rfl (L4Out.no _ HA.out)
  have HRES0 : Hid (∀ m, m = min t.length (wd b 4 - 8).toNat → R = ({ q with d := t.take m }, 40 + wd b 4, 0)) := by
    intro m hm
    rw [HRE.out, if_neg (by rintro (h | h | h); exact absurd h (by simp); exact hp h; exact h8 h), ← hm]
  clear HRE hp
  go_wp2_with fail
  refine (left_any wq gr dr t 0 (by exact HL.out.rd)).mono ?_
  rintro E wl ⟨rfl, rfl⟩
  obtain ⟨m, hm⟩ : ∃ m, m = min t.length (wd b 4 - 8).toNat := ⟨_, rfl⟩
  have hmm : min (t.length : Int) (wd b 4 - 8) = (m : Int) := by omega
  obtain ⟨z1, z2, z3⟩ := rdM t m (by omega)
  have HML : Hid ((t.take m).length = m) := by show _ = _; simp; omega
  have HRES := Lib.hid (HRES0.out m hm)
  clear HRES0 hm
  go_wp2_with fail
  refine (bytes_any _ gr dr t 0 m (by exact HL.out.rd)).mono ?_
  rw [z1, z2, z3]
  clear z1 z2 z3
  rintro E wb ⟨dv, rfl, hown, hnew, hrd, hawb, hby, hln⟩
  have hsb := hawb.size
  have hsq := HL.out.aw.size
  have hl2 := HL.out.b2.lt
  have hl6 := HL.out.b6.lt
  have HLb : Hid (PS w wb g2 g6 gr dr q (t.drop m)) := ⟨HL.out.b2.away hawb (by simp; exact HL.out.e2), HL.out.b6.away hawb (by simp; exact HL.out.e3), hrd, HL.out.aw.next hawb (fun x hx => .inr (by simp at hx; rw [hx]; exact HL.out.nr)), HL.out.n2, HL.out.n6, HL.out.nr, HL.out.e1, HL.out.e2, HL.out.e3, HL.out.e4, HL.out.e5⟩
  have HDV : Hid (∀ k, dv.ownBlock = some k → k ≠ g6 ∧ k ≠ g2) := fun k hk => by have := hnew k hk; omega
  have hnw : New w.heap.size dv := hnew.mono hsq
  have HO := Lib.hid hown
  obtain ⟨ad, capd, hdv, -⟩ := hown.row hln hby
  rw [HML.out] at hdv
  subst hdv
  clear hown hrd hawb HL
  have s45 := (HLb.out.b6.cells HQA.out).d
  have t45 := HLb.out.b6.free 45
  have hA7 := away_put (w := wb) (g := g6) 45 (.slice ad m capd)
  have hB7 := HLb.out.b6.put 45 (.slice ad m capd) ((csP_set HQA.out _ _).2.2.2.2.2.2.2.2.2.2.2.2.2 (t.take m) (.slice ad m capd))
  have HB7 := Lib.hid hB7
  have HB27 := Lib.hid (HLb.out.b2.away hA7 (by simp; exact HLb.out.e1))
  have HA7 := Lib.hid (HLb.out.aw.next hA7 (fun x hx => .inr (by simp at hx; rw [hx]; exact HLb.out.n6)))
  have HO7 := Lib.hid (HO.out.away hA7 (fun k hk => by simpa using (HDV.out k hk).1))
  have hn2 := HLb.out.n2
  have HPA : Hid (Ad ({ q with d := t.take m } : Pk)) := ⟨HQA.out.1, HQA.out.2⟩
  have HPO : Hid ((q : Pk).o = []) := HQO.out
  clear hA7 hB7 HO HLb hnew
  go_upto_region 16 with fail
  clear s45 t45
  generalize wb.setCell ⟨g6, 45, none⟩ (.slice ad m capd) = w7 at *
  generalize t.take m = L at *
  obtain ⟨P, hP⟩ : ∃ P : Pk, P = { q with d := L } := ⟨_, rfl⟩
  rw [← hP] at HB7 HPA HRES
  have HPO2 : Hid (P.o = []) := by rw [hP]; exact HPO.out
  have HPD : Hid (P.d = L) := by rw [hP]; rfl
  clear hP
  go_wp2_with (first
    | (refine wpList_load28 rfl _ rfl _ rfl P _ _ (by exact HB7.out) HPA.out ?_)
    | (refine wpList_store28 rfl _ _ rfl _ rfl P (.slice none 0 0) (.slice ad m capd) rfl zeroPk (.slice none 0 0) (.slice none 0 0) (by exact HB27.out) HPA.out ⟨rfl, rfl⟩ rfl rfl ?_; refine Hid.out ?_))
  refine Lib.hid ?_
  intro wx hbx hawx
  have HBx := Lib.hid hbx
  have HAx : Hid (Away [] w wx) := HA7.out.next hawx (fun x hx => .inr (by simp at hx; omega))
  have HDx := Lib.hid (HO7.out.away hawx (fun k hk => by simpa using (HDV.out k hk).2))
  clear hbx hawx
  go_wp2_with fail
  refine bodyPost_ret (result28tt rfl _ _ _ _ _ _ (.int .i64 (40 + wd b 4)) (.int .i64 0) rfl rfl rfl HBx.out HPA.out) rfl ?_
  rw [HRES.out]
  exact ⟨_, _, rfl, by show Owns _ _ P.o; rw [HPO2.out]; exact Owns.nil _, by show Owns _ _ P.d; rw [HPD.out]; exact HDx.out, New.nil _, hnw, by simp [Value.ownBlock], HAx.out⟩
theorem look6_c (a : Option Addr) (b : List Int) (cap : Nat) (w : World) (hr : Row w a b) (hcap : b.length ≤ cap) (hn : a = none → cap = 0) :
    Calls Tryd.prog 24 #[.slice a b.length cap] w fun E w' => L4Out w (look6P b) E w' := by
  unfold look6P
  split
  · rename_i h; exact look6_short a b cap w hr hcap hn h
  rename_i h40
  split
  · rename_i h; exact look6_form a b cap w hr hcap hn (by omega) h
  rename_i h6
  split
  · rename_i hf
    split
    · rename_i h; exact look6_cut a b cap w hr hcap hn (by omega) (Classical.not_not.1 h6) hf h
    · exact look6_frag a b cap w hr hcap hn (by omega) (Classical.not_not.1 h6) hf (by omega)
  · rename_i hf; exact look6_plain a b cap w hr hcap hn (by omega) (Classical.not_not.1 h6) hf
#print axioms look6_c
end Go.Proofs.YtbgpjhekohabiaaDoor.S6
