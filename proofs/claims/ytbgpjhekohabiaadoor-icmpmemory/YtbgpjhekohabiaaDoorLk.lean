/-
  address, read4, summed, optioned of icmp.
-/
import Derived.Test.YtbgpjhekohabiaaDoorHdZ
import Derived.Test.YtbgpjhekohabiaaDoorSixZ
import Derived.Test.YtbgpjhekohabiaaDoorHeadOf
import Derived.Test.YtbgpjhekohabiaaDoorStp
import Derived.Test.YtbgpjhekohabiaaDoorParse
import Derived.Lib.MinMax
namespace Go.Proofs.YtbgpjhekohabiaaDoor
open Go.ChangeShapes Go.WideShapes Go.ChangeAt Go.RowKit Num
set_option linter.unusedVariables false
set_option maxHeartbeats 4000000
set_option maxRecDepth 100000

theorem lkAdr_c (w : World) (g d : Nat) (l m r : List Int) (h : Rd w g d l 0) (h4 : 4 ≤ l.length) (hm : l.take 4 = m) (hr : l.drop 4 = r) :
    Calls Tryd.prog 78 #[.pointer (some ⟨g, 0, none⟩), .int .i64 4, .int .i64 4] w fun E w' => AdrOut w g d m r E w' := by
  have HR := Lib.hid h
  have hlt := h.lt
  have HB := Lib.hid h.bytes
  clear h
  have hsl := arr_slice
  have hr4 := rd4 h4
  have hm4 : m.length = 4 := by rw [← hm]; simp; omega
  have hmb : Bytes m := by rw [← hm]; exact HB.out.1.take 4
  rw [hm, hr] at hr4
  have H41 := Lib.hid hr4.1; have H42 := Lib.hid hr4.2.1; have H43 := Lib.hid hr4.2.2
  clear hr4 hm hr
  go_enter Tryd.func78, Tryd.ntmps78
  go_wp2_with (refine wpList_alloc24 rfl rfl ?_; refine Hid.out ?_)
  refine Lib.hid ?_
  intro g2 w1 hg2 hb2 haw1
  have HB2 := Lib.hid hb2; have HA1 := Lib.hid haw1
  have hl2 := hb2.lt
  clear hb2 haw1
  go_wp2_with (first | (refine wpList_alloc24 rfl rfl ?_; refine Hid.out ?_))
  refine Lib.hid ?_
  intro g3 w2 hg3 hb3 haw2
  have HB3 := Lib.hid hb3; have HA2 := Lib.hid haw2
  have hl3 := hb3.lt
  clear hb3 haw2
  go_wp2_with (first | (refine wpList_store24b rfl _ _ rfl _ rfl 4 z16 rfl 0 z16 (by exact HB3.out) rfl rfl ?_; refine Hid.out ?_))
  refine Lib.hid ?_
  intro w3 hb3 haw3
  have hs1 := HA1.out.size; have hs2 := HA2.out.size; have hs3 := haw3.size
  have HB3' := Lib.hid hb3
  have HB2' := Lib.hid ((HB2.out.keep HA2.out (by simp)).keep haw3 (by simp; omega))
  have HA3 : Hid (Away [] w w3) := (HA1.out.next HA2.out (by simp)).next haw3 (fun x hx => .inr (by simp at hx; omega))
  clear HB2 HB3 HA1 HA2 hb3 haw3
  have HR3 := Lib.hid (HR.out.away HA3.out (by simp) (by simp))
  go_wp2_with fail
  go_region_held3 (fun w' => True) (trivial)
    (first
      | (go_at_call 42
         refine (bytes_any _ g d l 0 4 (by exact HR3.out)).mono ?_
         rintro E w4 ⟨v, rfl, hown, hnew, hrd, haw, hby, hln⟩
         rw [H41.out] at hown
         rw [H42.out, H43.out] at hrd
         obtain ⟨a4, cap4, hv4, hcap4, -, hrow4, -⟩ := hown.row (by rw [hm4]; omega) hmb
         rw [hm4] at hv4
         subst hv4
         have haw4 := haw.undrew
         have hb4 := HB3'.out.keep haw4 (by simp; omega)
         have hb2 := HB2'.out.keep haw4 (by simp; omega)
         have HN4 : Hid (a4 ≠ none) := (by
           rintro rfl
           rcases hrow4.2.2 with h0 | ⟨_, _, h0, _⟩
           · rw [h0] at hm4; simp at hm4
           · simp at h0)
         rcases a4 with _ | ad
         · exact absurd rfl HN4.out
         have hcp := copy4 w4 g3 m hm4 ad cap4 hb4 hrow4))
  have hlm : (m ++ z12).length = 16 := by simp [hm4, z12]
  have hb5 : BoxA (w4.setRow g3 (csA 4 (m ++ z12))) g3 4 (m ++ z12) := by unfold BoxA at hb4 ⊢; simp [World.setRow, Array.getElem?_modify, hb4]
  have haw5 : Away [g3] w4 (w4.setRow g3 (csA 4 (m ++ z12))) := (Away.refl [g3] w4).setRow (.inl (by simp)) _
  have hlt3 := HR3.out.lt
  have hs4 := haw4.size
  have hr5 := hrd.away haw5 (by simp; omega) (by simp; omega)
  have hb25 := hb2.keep haw5 (by simp; omega)
  have HB5 := Lib.hid hb5; have HB25 := Lib.hid hb25; have HR5 := Lib.hid hr5
  have HA5 : Hid (Away [g] w (w4.setRow g3 (csA 4 (m ++ z12)))) := (((HA3.out.mono (T := [g]) (by simp)).next haw4 (fun x hx => .inl hx)).next haw5 (fun x hx => .inr (by simp at hx; omega)))
  have hr3 := Lib.hid (rowAt_of (hb5 : (w4.setRow g3 (csA 4 (m ++ z12))).heap[g3]? = _) (csA_size hlm))
  clear hb5 haw5 hr5 hb25 hcp hown hrd hrow4 hb4 hb2 HB3' HB2' HR3 HA3 HN4 hnew haw haw4
  generalize w4.setRow g3 (csA 4 (m ++ z12)) = w5 at *
  have HLM := Lib.hid hlm
  clear hlm
  generalize hml : m ++ z12 = ml at *
  have HML := Lib.hid hml
  clear hml
  go_wp2_with (first | (refine wpList_load24 rfl _ rfl _ rfl _ hr3.out ?_) | (refine wpList_store24b rfl _ _ rfl _ rfl 4 ml rfl 0 z16 (by exact HB25.out) HLM.out rfl ?_; refine Hid.out ?_))
  refine Lib.hid ?_
  intro w6 hb6 haw6
  have HR6 := Lib.hid (HR5.out.away haw6 (by simp; omega) (by simp; omega))
  have HA6 : Hid (Away [g] w w6) := HA5.out.next haw6 (fun x hx => .inr (by simp at hx; omega))
  have hr6 := Lib.hid (rowAt_of (hb6 : w6.heap[g2]? = _) (csA_size HLM.out))
  clear hb6 haw6 HA5 HR5 HB25 hr3 HB5
  go_wp2_with fail
  refine bodyPost_ret (v := .agg (csA 4 ml)) ?_ rfl ⟨by rw [HML.out], HR6.out, HA6.out⟩
  exact result24 rfl _ _ _ _ rfl hr6.out
theorem RH.adrL {w0 w : World} {g2 g4 gr dr : Nat} {p : Pk} {a b c d : Int} {r : List Int} (h : RH w0 w g2 g4 gr dr p (a :: b :: c :: d :: r)) :
    Calls Tryd.prog 78 #[.pointer (some ⟨gr, 0, none⟩), .int .i64 4, .int .i64 4] w fun E w' => E = .returned (.agg (csA 4 ([a, b, c, d] ++ z12))) ∧ RH w0 w' g2 g4 gr dr p r :=
  (lkAdr_c w gr dr (a :: b :: c :: d :: r) [a, b, c, d] r h.rd (by simp) rfl rfl).mono fun E w' hk => ⟨hk.1, h.read hk.2.1 hk.2.2⟩
theorem results_cell_tmp2 {fn : Func} {p u v : Tmp} {ty : TypeId} (h : fn.results = #[.cell p ty, .tmp u, .tmp v]) (tmps : Array Value) (P : Program) (w : World) :
    (results fn tmps).run P w =
      ((asAddr (tmps.getD p undef)).run P w).andThen fun a w1 => ((loadVar ty a).run P w1).andThen fun x w2 => .ok (.tuple #[x, tmps.getD u undef, tmps.getD v undef]) w2 := by
  simp only [results, h]
  simp [Sem.run_bind, Result.andThen]
theorem result28tt {fn : Func} {t u u' : Tmp} (h : fn.results = #[.cell t 32, .tmp u, .tmp u']) (tmps : Array Value) (w : World) (g : Nat) (p : Pk) (ov dv v v' : Value) (ht : tmps.getD t undef = .pointer (some ⟨g, 0, none⟩)) (hu : tmps.getD u undef = v) (hu' : tmps.getD u' undef = v') (hb : BoxP w g p ov dv) (ha : Ad p) :
    (results fn tmps).run Tryd.prog w = .ok (.tuple #[.agg (csP p ov dv), v, v']) w := by
  rw [results_cell_tmp2 h, ht, hu, hu']
  simp only [asAddr, Sem.run_pure, Result.andThen, run_loadVar_row w g 32 32 (csP p ov dv) (0, 0) _ hb Tryd.underlying32 rfl (by rw [csP_size ha]; exact info28)]
/-- What read4 tells. -/
def R4Out (w : World) (p : Pk) (told : Int) (res : Bool) (E : Ending) (w' : World) : Prop :=
  ∃ ov, E = .returned (.tuple #[.agg (csP p ov (.slice none 0 0)), .int .i64 told, .bool res]) ∧ Owns w' ov p.o ∧ New w.heap.size ov ∧ Away [] w w'
theorem read4_c (a : Option Addr) (n cap : Nat) (w : World) (b0 b1 b2 b3 b4 b5 b6 b7 b8 b9 b10 b11 b12 b13 b14 b15 b16 b17 b18 b19 : Int) (r : List Int) (h : List Int)
    (hh : h = b0 :: b1 :: b2 :: b3 :: b4 :: b5 :: b6 :: b7 :: b8 :: b9 :: b10 :: b11 :: b12 :: b13 :: b14 :: b15 :: b16 :: b17 :: b18 :: b19 :: r) (hn : h.length = n) (ha : a = none → cap = 0) (hr : Row w a h) :
    Calls Tryd.prog 49 #[.slice a n cap] w fun E w' => R4Out w ⟨4, b1, 0, 4, [b12, b13, b14, b15] ++ z12, 4, [b16, b17, b18, b19] ++ z12, b9, b8, 256 * b4 + b5, decide ((256 * b6 + b7) / 16384 % 2 = 1), decide ((256 * b6 + b7) / 8192 % 2 = 1), false, (256 * b6 + b7) % 8192 * 8, r, []⟩ (256 * b2 + b3) (decide ((256 * b6 + b7) / 32768 % 2 = 1)) E w' := by
  have HR := Lib.hid hr
  have hby := hr.2.1
  rw [hh] at hby
  have x1 := hby.tail.head
  have x2 := hby.tail.tail.head
  have x3 := hby.tail.tail.tail.head
  have x4 := hby.tail.tail.tail.tail.head
  have x5 := hby.tail.tail.tail.tail.tail.head
  have x6 := hby.tail.tail.tail.tail.tail.tail.head
  have x7 := hby.tail.tail.tail.tail.tail.tail.tail.head
  have x8 := hby.tail.tail.tail.tail.tail.tail.tail.tail.head
  have x9 := hby.tail.tail.tail.tail.tail.tail.tail.tail.tail.head
  have HBR : Hid (Bytes r) := hby.tail.tail.tail.tail.tail.tail.tail.tail.tail.tail.tail.tail.tail.tail.tail.tail.tail.tail.tail.tail
  have HLR : Hid (r.length ≤ 140737488355328) := by have := hr.1; rw [hh] at this; simp at this; show _ ≤ _; omega
  have hrl := HLR.out
  obtain ⟨F, hF⟩ : ∃ F, F = 256 * b6 + b7 := ⟨_, rfl⟩
  rw [← hF]
  have f0 : 0 ≤ F := by omega
  have f1 : F ≤ 65535 := by omega
  have k14 := bit14 F f0 f1
  have k13 := bit13 F f0 f1
  have k15 := bit15 F f0 f1
  have kl := low13 F f0 f1
  have HF := Lib.hid hF
  have HN := Lib.hid hn
  have HH := Lib.hid hh
  clear hF hby hr hn hh
  have HQ : Hid (Ad (⟨4, b1, 0, 4, [b12, b13, b14, b15] ++ z12, 4, [b16, b17, b18, b19] ++ z12, b9, b8, 256 * b4 + b5, decide (F / 16384 % 2 = 1), decide (F / 8192 % 2 = 1), false, F % 8192 * 8, r, []⟩ : Pk)) := ⟨rfl, rfl⟩
  go_enter Tryd.func49, Tryd.ntmps49
  go_wp2_with (refine wpList_alloc28 rfl rfl ?_; refine Hid.out ?_)
  refine Lib.hid ?_
  intro g2 w1 hg2 hb2 haw1
  have HB2 := Lib.hid hb2; have HA1 := Lib.hid haw1
  have hl2 := hb2.lt
  clear hb2 haw1
  go_wp2_with (first | (refine wpList_alloc28 rfl rfl ?_; refine Hid.out ?_))
  refine Lib.hid ?_
  intro g4 w2 hg4 hb4 haw2
  have HB4 := Lib.hid hb4; have HA2 := Lib.hid haw2
  have hl4 := hb4.lt
  clear hb4 haw2
  go_wp2_with (first | (refine wpList_store28 rfl _ _ rfl _ rfl { zeroPk with v := 4 } (.slice none 0 0) (.slice none 0 0) rfl zeroPk (.slice none 0 0) (.slice none 0 0) (by exact HB4.out) ⟨rfl, rfl⟩ ⟨rfl, rfl⟩ rfl rfl ?_; refine Hid.out ?_))
  refine Lib.hid ?_
  intro w3 hb4 haw3
  have hs1 := HA1.out.size; have hs2 := HA2.out.size; have hs3 := haw3.size
  have HB4' := Lib.hid hb4
  have HB2' := Lib.hid ((HB2.out.away HA2.out (by simp)).away haw3 (by simp; omega))
  have HA3 : Hid (Away [] w w3) := (HA1.out.next HA2.out (by simp)).next haw3 (fun x hx => .inr (by simp at hx; omega))
  clear HB2 HB4 HA1 HA2 hb4 haw3
  go_wp2_with fail
  refine (newReader_any a h n cap _ HN.out ha (by exact HR.out.away HA3.out (by simp))).mono ?_
  rintro E w4 ⟨gr, dr, rfl, hrd, hgr, hdr, haw4⟩
  rw [HH.out] at hrd
  have HL : Hid (RH w w4 g2 g4 gr dr { zeroPk with v := 4 } (b0 :: b1 :: b2 :: b3 :: b4 :: b5 :: b6 :: b7 :: b8 :: b9 :: b10 :: b11 :: b12 :: b13 :: b14 :: b15 :: b16 :: b17 :: b18 :: b19 :: r)) :=
    ⟨HB2'.out.on haw4, HB4'.out.on haw4, hrd, HA3.out.next haw4 (by simp), ⟨rfl, rfl⟩, hg2, by omega, by omega, by omega, by omega, by omega, by omega⟩
  clear HB2' HB4' HA3 haw4 hrd hgr hdr HR
  clear hg2 hg4 hl2 hl4 hs1 hs2 hs3
  go_wp2_with fail
  refine (RH.skip1 (by exact HL.out)).mono ?_
  rintro E w6 ⟨⟨_, rfl⟩, hL⟩
  have HLn := Lib.hid hL
  clear HL hL
  have HL := HLn
  clear HLn
  go_wp2_with fail
  refine (RH.u8 (by exact HL.out)).mono ?_
  rintro E w7 ⟨rfl, hL⟩
  have HLn := Lib.hid hL
  clear HL hL
  have HL := HLn
  clear HLn
  have s1 := (HL.out.b4.cells HL.out.ad).tos
  have t1 := HL.out.b4.free 1
  go_wp2_with fail
  have HLn := Lib.hid ((HL.out.put 1 (.int .i64 b1) ((csP_set (by exact ⟨rfl, rfl⟩) _ _).2.1 b1) ⟨rfl, rfl⟩))
  clear HL s1 t1
  generalize (w7.setCell ⟨g4, 1, none⟩ (.int .i64 b1)) = w8 at *
  have HL := HLn
  clear HLn
  refine (RH.u16 (by exact HL.out)).mono ?_
  rintro E w9 ⟨rfl, hL⟩
  have HLn := Lib.hid hL
  clear HL hL
  have HL := HLn
  clear HLn
  go_wp2_with fail
  refine (RH.u16 (by exact HL.out)).mono ?_
  rintro E w10 ⟨rfl, hL⟩
  have HLn := Lib.hid hL
  clear HL hL
  have HL := HLn
  clear HLn
  have s39 := (HL.out.b4.cells HL.out.ad).id
  have t39 := HL.out.b4.free 39
  go_wp2_with fail
  have HLn := Lib.hid ((HL.out.put 39 (.int .u32 (256 * b4 + b5)) ((csP_set (by exact ⟨rfl, rfl⟩) _ _).2.2.2.2.2.2.2.1 (256 * b4 + b5)) ⟨rfl, rfl⟩))
  clear HL s39 t39
  generalize (w10.setCell ⟨g4, 39, none⟩ (.int .u32 (256 * b4 + b5))) = w11 at *
  have HL := HLn
  clear HLn
  refine (RH.u16 (by exact HL.out)).mono ?_
  rintro E w12 ⟨rfl, hL⟩
  have HLn := Lib.hid hL
  clear HL hL
  have HL := HLn
  clear HLn
  rw [← HF.out]
  have s40 := (HL.out.b4.cells HL.out.ad).df
  have t40 := HL.out.b4.free 40
  have s41 := (HL.out.b4.cells HL.out.ad).more
  have t41 := HL.out.b4.free 41
  have s43 := (HL.out.b4.cells HL.out.ad).off
  have t43 := HL.out.b4.free 43
  go_wp2_with fail
  have HLn := Lib.hid ((((HL.out.put 40 (.bool (F / 16384 % 2 * 16384 != 0)) ((csP_set (by exact ⟨rfl, rfl⟩) _ _).2.2.2.2.2.2.2.2.1 (F / 16384 % 2 * 16384 != 0)) ⟨rfl, rfl⟩).put 41 (.bool (F / 8192 % 2 * 8192 != 0)) ((csP_set (by exact ⟨rfl, rfl⟩) _ _).2.2.2.2.2.2.2.2.2.1 (F / 8192 % 2 * 8192 != 0)) ⟨rfl, rfl⟩).put 43 (.int .i64 (F % 8192 * 8)) ((csP_set (by exact ⟨rfl, rfl⟩) _ _).2.2.2.2.2.2.2.2.2.2.2.1 (F % 8192 * 8)) ⟨rfl, rfl⟩))
  clear HL s40 t40 s41 t41 s43 t43
  generalize (((w12.setCell ⟨g4, 40, none⟩ (.bool (F / 16384 % 2 * 16384 != 0))).setCell ⟨g4, 41, none⟩ (.bool (F / 8192 % 2 * 8192 != 0))).setCell ⟨g4, 43, none⟩ (.int .i64 (F % 8192 * 8))) = w13 at *
  have HL := HLn
  clear HLn
  refine (RH.u8 (by exact HL.out)).mono ?_
  rintro E w14 ⟨rfl, hL⟩
  have HLn := Lib.hid hL
  clear HL hL
  have HL := HLn
  clear HLn
  have s38 := (HL.out.b4.cells HL.out.ad).ttl
  have t38 := HL.out.b4.free 38
  go_wp2_with fail
  have HLn := Lib.hid ((HL.out.put 38 (.int .i64 b8) ((csP_set (by exact ⟨rfl, rfl⟩) _ _).2.2.2.2.2.2.1 b8) ⟨rfl, rfl⟩))
  clear HL s38 t38
  generalize (w14.setCell ⟨g4, 38, none⟩ (.int .i64 b8)) = w15 at *
  have HL := HLn
  clear HLn
  refine (RH.u8 (by exact HL.out)).mono ?_
  rintro E w16 ⟨rfl, hL⟩
  have HLn := Lib.hid hL
  clear HL hL
  have HL := HLn
  clear HLn
  have s37 := (HL.out.b4.cells HL.out.ad).proto
  have t37 := HL.out.b4.free 37
  go_wp2_with fail
  have HLn := Lib.hid ((HL.out.put 37 (.int .i64 b9) ((csP_set (by exact ⟨rfl, rfl⟩) _ _).2.2.2.2.2.1 b9) ⟨rfl, rfl⟩))
  clear HL s37 t37
  generalize (w16.setCell ⟨g4, 37, none⟩ (.int .i64 b9)) = w17 at *
  have HL := HLn
  clear HLn
  refine (RH.skip2 (by exact HL.out)).mono ?_
  rintro E w18 ⟨⟨_, rfl⟩, hL⟩
  have HLn := Lib.hid hL
  clear HL hL
  have HL := HLn
  clear HLn
  go_wp2_with fail
  refine (RH.adrL (by exact HL.out)).mono ?_
  rintro E w19 ⟨rfl, hL⟩
  have HLn := Lib.hid hL
  clear HL hL
  have HL := HLn
  clear HLn
  go_wp2_with (first | (refine wpList_store24m rfl _ _ rfl _ 3 rfl 4 _ rfl _ _ _ _ (by exact HL.out.b4) ⟨rfl, rfl⟩ rfl (by omega) (csP_src ⟨rfl, rfl⟩ _ _ _ _) ?_; refine Hid.out ?_))
  refine Lib.hid ?_
  intro w20 hbq hawq
  have HLn := Lib.hid (HL.out.away hbq hawq ⟨rfl, rfl⟩)
  clear HL hbq hawq
  have HL := HLn
  clear HLn
  go_wp2_with fail
  refine (RH.adrL (by exact HL.out)).mono ?_
  rintro E w21 ⟨rfl, hL⟩
  have HLn := Lib.hid hL
  clear HL hL
  have HL := HLn
  clear HLn
  go_wp2_with (first | (refine wpList_store24m rfl _ _ rfl _ 20 rfl 4 _ rfl _ _ _ _ (by exact HL.out.b4) ⟨rfl, rfl⟩ rfl (by omega) (csP_dst ⟨rfl, rfl⟩ _ _ _ _) ?_; refine Hid.out ?_))
  refine Lib.hid ?_
  intro w22 hbq hawq
  have HLn := Lib.hid (HL.out.away hbq hawq ⟨rfl, rfl⟩)
  clear HL hbq hawq
  have HL := HLn
  clear HLn
  go_wp2_with fail
  refine (left_any w22 gr dr r 0 HL.out.rd).mono ?_
  rintro E wl ⟨rfl, rfl⟩
  obtain ⟨z1, z2, z3⟩ := rdN r
  go_wp2_with fail
  refine (bytes_any _ gr dr r 0 r.length (by exact HL.out.rd)).mono ?_
  rw [z1, z2, z3]
  rintro E wb ⟨ov, rfl, hown, hnew, hrd, hawb, -, -⟩
  have HLn := Lib.hid (HL.out.read hrd hawb)
  have hsz := HL.out.aw.size
  have hbfr : g4 < _ ∧ g2 < _ := ⟨HL.out.b4.lt, HL.out.b2.lt⟩
  clear HL hrd hawb z1 z2 z3
  have HL := HLn
  clear HLn
  have s44 := (HL.out.b4.cells HL.out.ad).o
  have t44 := HL.out.b4.free 44
  obtain ⟨ao, capo, hov, -⟩ := hown.row HLR.out HBR.out
  subst hov
  have HO := Lib.hid hown
  have HNW : Hid (New w.heap.size (.slice ao r.length capo)) := hnew.mono hsz
  have hlto := hown.lt
  have e40 : (F / 16384 % 2 * 16384 != 0) = decide (F / 16384 % 2 = 1) := bne_bit _ _ (by omega) (by omega)
  have e41 : (F / 8192 % 2 * 8192 != 0) = decide (F / 8192 % 2 = 1) := bne_bit _ _ (by omega) (by omega)
  have e42 : (F / 32768 % 2 * 32768 != 0) = decide (F / 32768 % 2 = 1) := bne_bit _ _ (by omega) (by omega)
  have hB := HL.out.b4.put 44 (.slice ao r.length capo) ((csP_set (by exact ⟨rfl, rfl⟩) _ _).2.2.2.2.2.2.2.2.2.2.2.2.1 r (.slice ao r.length capo))
  rw [e40, e41] at hB
  have HP := Lib.hid hB
  have hA := (away_put (w := wb) (g := g4) 44 (.slice ao r.length capo))
  have HB2 := Lib.hid (HL.out.b2.away hA (by simp; exact HL.out.e1))
  have HA : Hid (Away [] w (wb.setCell ⟨g4, 44, none⟩ (.slice ao r.length capo))) := HL.out.aw.setCell (.inr HL.out.n4) _
  have hn4 := HL.out.n4
  have hn2 := HL.out.n2
  have hn4l := HL.out.b4.lt
  have hn2l := HL.out.b2.lt
  have HO2 : Hid (∀ k, (Value.slice ao r.length capo).ownBlock = some k → k ≠ g4 ∧ k ≠ g2) := fun k hk => by
    have := hnew k hk
    have hz := hbfr
    omega
  have HO3 := Lib.hid (HO.out.away hA (fun k hk => by simpa using (HO2.out k hk).1))
  clear HL hA hB hown hnew hlto HO
  go_wp2_with (first
    | (refine wpList_load28 rfl _ rfl _ rfl _ _ _ (by exact HP.out) ⟨rfl, rfl⟩ ?_)
    | (refine wpList_store28 rfl _ _ rfl _ rfl _ _ _ rfl zeroPk (.slice none 0 0) (.slice none 0 0) (by exact HB2.out) ⟨rfl, rfl⟩ ⟨rfl, rfl⟩ rfl rfl ?_; refine Hid.out ?_))
  refine Lib.hid ?_
  intro w9 hb9 haw9
  have HB9 := Lib.hid hb9
  have HA9 : Hid (Away [] w w9) := HA.out.next haw9 (fun x hx => .inr (by simp at hx; omega))
  have HO9 := Lib.hid (HO3.out.away haw9 (fun k hk => by simpa using (HO2.out k hk).2))
  clear hb9 haw9 HA HB2 HP HO3
  go_wp2_with fail
  refine bodyPost_ret (result28tt rfl _ _ _ _ _ _ _ _ rfl rfl rfl HB9.out ⟨rfl, rfl⟩) rfl ⟨_, rfl, HO9.out, HNW.out, HA9.out⟩
theorem drop_two (h : List Int) (i : Nat) (hi : i + 1 < h.length) : ∃ r, h.drop i = gt h i :: gt h (i + 1) :: r := by
  refine ⟨h.drop (i + 2), ?_⟩
  rw [List.drop_eq_getElem_cons (by omega : i < h.length), List.drop_eq_getElem_cons hi]
  unfold gt
  rw [List.getElem?_eq_getElem (by omega : i < h.length), List.getElem?_eq_getElem hi]
  rfl
theorem summed_c (a : Option Addr) (h : List Int) (n cap : Nat) (w : World) (hn : h.length = n) (hcap : n ≤ cap) (ha : a = none → cap = 0) (hr : Row w a h) (hk : 20 ≤ n) :
    Calls Tryd.prog 48 #[.slice a n cap] w fun E w' => E = .returned (.bool (decide (w16 h 10 = sumH h))) ∧ Away [] w w' := by
  subst hn
  have hlen := hr.1
  have hb := hr.2.1
  obtain ⟨z, hz⟩ : ∃ z, z = decide (w16 h 10 = sumH h) := ⟨_, rfl⟩
  rw [← hz]
  have HZ := Lib.hid hz
  clear hz
  have HR := Lib.hid hr
  obtain ⟨A, hA⟩ : ∃ A, A = if cap = 10 then a else a.map (·.add 10) := ⟨_, rfl⟩
  have s10 := slice_l a A h.length cap 10 10 hA rfl (by omega)
  have HTL : Hid (∀ W, Away [] w W → Row W A (h.drop 10)) := fun W k => by have := (hr.away k (by simp)).tail 10 cap hcap (by omega); rwa [← hA] at this
  have HAN : Hid (A = none → cap - 10 = 0) := fun e => by
    rcases a with _ | x
    · have := ha rfl; omega
    · rw [hA] at e; split at e <;> simp at e
  have HDL : Hid ((h.drop 10).length = h.length - 10) := by show _ = _; simp
  obtain ⟨r, hdr⟩ := drop_two h 10 (by omega)
  have HDR := Lib.hid hdr
  have y0 := gt_bd hb 10; have y1 := gt_bd hb 11
  have HW : Hid (w16 h 10 = 256 * gt h 10 + gt h 11) := rfl
  clear hr hA hdr
  go_enter Tryd.func48, Tryd.ntmps48
  go_wp2_with fail
  refine (clone_any a h cap _ ha (by exact HR.out)).mono ?_
  rintro E w1 ⟨v, rfl, hown, hnew, haw⟩
  obtain ⟨a1, cap1, rfl, hcap1, -, hrow1, hblk, hsp⟩ := hown.row hlen hb
  rcases a1 with _ | ⟨g, o, sp⟩
  · rcases hrow1.2.2 with h0 | ⟨_, _, h0, _⟩
    · rw [h0] at hk; simp at hk
    · simp at h0
  obtain ⟨h1, h2⟩ := hsp _ rfl
  simp only at h1 h2
  subst h1 h2
  obtain ⟨c0, f0⟩ := hown.cells 10 (by omega)
  obtain ⟨c1, f1⟩ := hown.cells 11 (by omega)
  have hs1 := (hown.set rfl 10 0).set (by simp) 11 0
  have hl2 : ((h.set 10 0).set 11 0).length = h.length := by simp
  have hb2 : Bytes ((h.set 10 0).set 11 0) := (hb.set 10 (by omega) (by omega)).set 11 (by omega) (by omega)
  have HR2 := Lib.hid (hs1.row' (by rw [hl2]; exact hlen) hb2)
  have hg : w.heap.size ≤ g := hnew g rfl
  have HA : Hid (Away [] w ((w1.setCell ⟨g, 10, none⟩ (.int .u8 0)).setCell ⟨g, 11, none⟩ (.int .u8 0))) := (haw.setCell (.inr hg) _).setCell (.inr hg) _
  have HGW : Hid (g < w1.heap.size) := hown.lt g rfl
  clear hown hrow1 hblk hsp hs1 hnew haw HR
  have HL2 := Lib.hid hl2
  have HB2 : Hid (sumH h = 65535 - pt ((h.set 10 0).set 11 0)) := rfl
  have hbd := pt_bd hb2
  clear hl2 hb2 hb
  generalize (h.set 10 0).set 11 0 = m at *
  go_upto_region 3 with fail
  clear c0 c1 f0 f1
  replace HGW : Hid (g < ((w1.setCell ⟨g, 10, none⟩ (.int .u8 0)).setCell ⟨g, 11, none⟩ (.int .u8 0)).heap.size) := by show g < _; have := HGW.out; simpa [World.setCell] using this
  generalize (w1.setCell ⟨g, 10, none⟩ (.int .u8 0)).setCell ⟨g, 11, none⟩ (.int .u8 0) = W at *
  go_wp2_with fail
  refine (newReader_any A (h.drop 10) _ (cap - 10) _ HDL.out HAN.out (by exact HTL.out _ HA.out)).mono ?_
  rintro E w2 ⟨gr, dr, rfl, hrd, hgr, hgd, haw⟩
  rw [HDR.out] at hrd
  have hsa := HA.out.size
  replace HA := Lib.hid (HA.out.on haw); replace HR2 := Lib.hid (HR2.out.away haw (by simp))
  have HRD := Lib.hid hrd
  have hR2l : ∀ x, (some ⟨g, 0, none⟩ : Option Addr) = some x → x.block ≠ gr := fun x hx => by
    have hbl := HGW.out
    simp only [Option.some.injEq] at hx
    subst hx
    show g ≠ gr
    omega
  clear hrd haw
  go_wp2_with fail
  have ku := u16_any w2 gr dr (gt h 10 :: gt h 11 :: r) 0 HRD.out
  obtain ⟨e1, e2, e3⟩ := rd2 (gt h 10) (gt h 11) r
  rw [e1, e2, e3, show num [gt h 10, gt h 11] = 256 * gt h 10 + gt h 11 from by simp [num]] at ku
  refine ku.mono ?_
  rintro E w3 ⟨rfl, -, haw⟩
  replace HA : Hid (Away [] w w3) := HA.out.next haw (fun x hx => .inr (by simp at hx; omega))
  replace HR2 := Lib.hid (HR2.out.away haw (fun x hx => by simpa using hR2l x hx))
  clear haw ku e1 e2 e3 HRD hR2l
  rw [← HL2.out]
  go_wp2_with fail
  refine (of_any (some ⟨g, 0, none⟩) m cap1 (by rw [HL2.out]; exact hcap1) _ (by exact HR2.out)).mono ?_
  rintro E w4 ⟨rfl, q, rfl⟩
  generalize pt m = P at *
  have hq : (256 * gt h 10 + gt h 11 == 65535 - P) = z := by rw [HZ.out, HW.out, HB2.out]; rfl
  generalize gt h 10 = Y0 at *
  generalize gt h 11 = Y1 at *
  go_wp2_with fail
  go_ret
  exact ⟨rfl, HA.out.drewN q⟩
#print axioms summed_c
/-- Whether options are some: a packet that is right but for them. -/
def bareO (o : List Int) (s d : List Int) : Pk := ⟨4, 0, 0, 4, s, 4, d, 0, 0, 0, false, false, false, 0, o, []⟩
theorem wpList_load24L {ops : Array Oper} {rest : List Oper} {o : Oper} {a : Act} {w : World} {Q : Exit → Act → World → Prop} (hw : Region.wanted o (yielded ops a.tmps) = true) (x : Operand) (ho : o.op = .load 30 x)
    (g k : Nat) (hx : a.eval x = .pointer (some ⟨g, k, none⟩)) (v : Int) (l : List Int) (hc : w.rangeAt g k (cellsA v l)) (hl : l.length = 16) (cs : Array Value) (hcs : csA v l = cs) (h : wpList Tryd.prog ops Q rest (a.put o.dst (.agg cs)) w) : wpList Tryd.prog ops Q (o :: rest) a w := by
  subst hcs; exact wpList_load24m hw x ho g k hx v l hc hl h
theorem optioned_c (p : Pk) (ov dv : Value) (w : World) (s0 s1 s2 s3 d0 d1 d2 d3 : Int) (hw : Wf p) (hsv : p.sv = 4) (hdv : p.dv = 4) (hs : p.sb = [s0, s1, s2, s3] ++ z12) (hd : p.db = [d0, d1, d2, d3] ++ z12) (ho : Sl w ov p.o) (hg : Glob w) :
    Calls Tryd.prog 50 #[.agg (csP p ov dv)] w fun E w' => E = .returned (.bool (rightP (bareO p.o p.sb p.db))) ∧ Away [] w w' := by
  have z0 : i64ok 0 := ⟨by decide, by decide⟩
  have z4 : i64ok 4 := ⟨by decide, by decide⟩
  have n0 : (0 : Int) ≤ 0 := by decide
  have n1 : (0 : Int) ≤ 4294967295 := by decide
  have n2 : ([] : List Int).length ≤ 140737488355328 := by decide
  have hwq : Wf (bareO p.o p.sb p.db) := ⟨z4, z0, z0, z4, hw.sl, hw.sb, z4, hw.dl, hw.db, z0, z0, n0, n1, z0, hw.o, hw.ol, Bytes.nil, n2⟩
  clear z0 z4 n0 n1 n2
  have KR : Hid (∀ W, Away [] w W → Calls Tryd.prog 44 #[.agg (csP (bareO p.o p.sb p.db) ov (.slice none 0 0))] W fun E w' => E = .returned (.bool (rightP (bareO p.o p.sb p.db))) ∧ Away [] W w') := fun W h => right_c _ ov _ W ⟨hwq, ho.on h, Sl.nil _⟩ (hg.on h)
  have hcs : csP (bareO p.o p.sb p.db) ov (.slice none 0 0) = #[.int .i64 4, .int .i64 0, .int .i64 0, .int .i64 4, .int .u8 s0, .int .u8 s1, .int .u8 s2, .int .u8 s3, .int .u8 0, .int .u8 0, .int .u8 0, .int .u8 0, .int .u8 0, .int .u8 0, .int .u8 0, .int .u8 0, .int .u8 0, .int .u8 0, .int .u8 0, .int .u8 0, .int .i64 4, .int .u8 d0, .int .u8 d1, .int .u8 d2, .int .u8 d3, .int .u8 0, .int .u8 0, .int .u8 0, .int .u8 0, .int .u8 0, .int .u8 0, .int .u8 0, .int .u8 0, .int .u8 0, .int .u8 0, .int .u8 0, .int .u8 0, .int .i64 0, .int .i64 0, .int .u32 0, .bool false, .bool false, .bool false, .int .i64 0, ov, .slice none 0 0] := by rw [hs, hd]; rfl
  have HCS := Lib.hid hcs
  have HAD := Lib.hid hw.ad
  have HS := Lib.hid hs; have HD := Lib.hid hd
  have HSV := Lib.hid hsv; have HDV := Lib.hid hdv
  clear hw hs hd hsv hdv hwq hcs hg
  obtain ⟨oa, oc, hov, ho1, ho2, -⟩ := ho
  subst hov
  generalize rightP (bareO p.o p.sb p.db) = z at *
  go_enter Tryd.func50, Tryd.ntmps50
  go_wp2_with (refine wpList_box28 rfl _ rfl p _ _ rfl ?_; refine Hid.out ?_)
  refine Lib.hid ?_
  intro g1 w1 hg1 hb haw
  have HB := Lib.hid hb; have HA := Lib.hid haw
  clear hb haw
  have c44 := (HB.out.cells HAD.out).o
  have hcs4 := HB.out.srow
  have hcd4 := HB.out.drow HAD.out
  rw [HSV.out, HS.out] at hcs4
  rw [HDV.out, HD.out] at hcd4
  have HC1 := Lib.hid hcs4; have HC2 := Lib.hid hcd4
  clear hcs4 hcd4
  go_wp2_with (first | (refine wpList_load24L rfl _ rfl g1 3 rfl 4 ([s0, s1, s2, s3] ++ z12) (by exact HC1.out) rfl #[.int .i64 4, .int .u8 s0, .int .u8 s1, .int .u8 s2, .int .u8 s3, .int .u8 0, .int .u8 0, .int .u8 0, .int .u8 0, .int .u8 0, .int .u8 0, .int .u8 0, .int .u8 0, .int .u8 0, .int .u8 0, .int .u8 0, .int .u8 0] rfl ?_) | (refine wpList_load24L rfl _ rfl g1 20 rfl 4 ([d0, d1, d2, d3] ++ z12) (by exact HC2.out) rfl #[.int .i64 4, .int .u8 d0, .int .u8 d1, .int .u8 d2, .int .u8 d3, .int .u8 0, .int .u8 0, .int .u8 0, .int .u8 0, .int .u8 0, .int .u8 0, .int .u8 0, .int .u8 0, .int .u8 0, .int .u8 0, .int .u8 0, .int .u8 0] rfl ?_))
  have kr := KR.out _ HA.out
  rw [HCS.out] at kr
  refine kr.mono ?_
  rintro E w2 ⟨rfl, haw⟩
  replace HA := Lib.hid (HA.out.on haw)
  clear haw kr KR
  go_wp2_with fail
  go_ret
  exact ⟨rfl, HA.out⟩
#print axioms optioned_c
/-- What a quote of version 4 tells whose head's sum is right. -/
def rest4P (b : List Int) : Pk × Int × Int :=
  if 128 ≤ gt b 6 ∨ w16 b 2 < headN b then (zeroPk, 0, 50) else
  if rightP (bareO (readP b (headN b)).o (readP b (headN b)).sb (readP b (headN b)).db) = false then (zeroPk, 0, 40) else
  ({ readP b (headN b) with d := (b.drop (headN b)).take (min b.length (w16 b 2).toNat - headN b) }, w16 b 2, 0)
/-- What a quote of version 4 tells: the packet, the length of the whole, the error. -/
def look4P (b : List Int) : Pk × Int × Int :=
  if b.length < 20 then (zeroPk, 0, 20) else
  if gt b 0 / 16 ≠ 4 ∨ headN b < 20 then (zeroPk, 0, 50) else
  if b.length < headN b then (zeroPk, 0, 20) else
  if w16 b 10 ≠ sumH (b.take (headN b)) then (zeroPk, 0, 52) else
  rest4P b
def L4Out (w : World) (r : Pk × Int × Int) (E : Ending) (w' : World) : Prop :=
  ∃ ov dv, E = .returned (.tuple #[.agg (csP r.1 ov dv), .int .i64 r.2.1, .int .i64 r.2.2]) ∧ Owns w' ov r.1.o ∧ Owns w' dv r.1.d ∧ New w.heap.size ov ∧ New w.heap.size dv ∧ (∀ k, ov.ownBlock = some k → dv.ownBlock ≠ some k) ∧ Away [] w w'
theorem L4Out.no {w w' : World} (c : Int) (h : Away [] w w') : L4Out w (zeroPk, 0, c) (.returned (.tuple #[.agg (csP zeroPk (.slice none 0 0) (.slice none 0 0)), .int .i64 0, .int .i64 c])) w' := ⟨_, _, rfl, Owns.nil _, Owns.nil _, New.nil _, New.nil _, fun k h => by simp [Value.ownBlock] at h, h⟩
theorem look4_short (a : Option Addr) (b : List Int) (cap : Nat) (w : World) (hr : Row w a b) (hcap : b.length ≤ cap) (hn : a = none → cap = 0) (hg : Glob w) (h : b.length < 20) :
    Calls Tryd.prog 23 #[.slice a b.length cap] w fun E w' => L4Out w (zeroPk, 0, 20) E w' := by
  have hlen := hr.1
  have HR := Lib.hid hr
  have HG := Lib.hid hg
  have h' : (b.length : Int) < 20 := by omega
  clear hr hg
  go_enter Tryd.func23, Tryd.ntmps23
  go_wp2_with (refine wpList_alloc28 rfl rfl ?_; refine Hid.out ?_)
  refine Lib.hid ?_
  intro g2 w1 hg2 hb haw
  have HA := Lib.hid haw; have HB := Lib.hid hb
  have hl2 := hb.lt
  clear hb haw
  go_wp2_with (refine wpList_store28 rfl _ _ rfl g2 rfl zeroPk (.slice none 0 0) (.slice none 0 0) rfl zeroPk (.slice none 0 0) (.slice none 0 0) (by exact HB.out) ⟨rfl, rfl⟩ ⟨rfl, rfl⟩ rfl rfl ?_; refine Hid.out ?_)
  refine Lib.hid ?_
  intro wz hb haw
  have HZ := Lib.hid hb
  replace HA : Hid (Away [] w wz) := HA.out.next haw (fun x hx => .inr (by simp at hx; omega))
  clear hb haw
  go_wp2_with fail
  refine bodyPost_ret (result28tt rfl _ _ _ _ _ _ _ _ rfl rfl rfl HZ.out ⟨rfl, rfl⟩) rfl (L4Out.no _ HA.out)
theorem look4_form (a : Option Addr) (b : List Int) (cap : Nat) (w : World) (hr : Row w a b) (hcap : b.length ≤ cap) (hn : a = none → cap = 0) (hg : Glob w) (h20 : 20 ≤ b.length) (h4 : gt b 0 / 16 ≠ 4) :
    Calls Tryd.prog 23 #[.slice a b.length cap] w fun E w' => L4Out w (zeroPk, 0, 50) E w' := by
  have hlen := hr.1
  have HR := Lib.hid hr
  have HG := Lib.hid hg
  have hl' : ¬ ((b.length : Int) < 20) := by omega
  obtain ⟨bk, off, hat, c0⟩ : ∃ b' off, a = some ⟨b', off, none⟩ ∧ w.cell? ⟨b', off, none⟩ = some (.int .u8 (gt b 0)) := by
    rcases hr.2.2 with h0 | ⟨b', off, rfl, hc⟩
    · rw [h0] at h20; simp at h20
    · exact ⟨b', off, rfl, by have := hc 0 (by omega); simpa [gt] using this⟩
  have HC0 : Hid (∀ W, Away [] w W → W.cell? ⟨bk, off, none⟩ = some (.int .u8 (gt b 0))) := fun W h => h.cell (by simp) c0
  have hx := gt_bd hr.2.1 0
  have hq0 := hx.1
  have hq1 := hx.2
  have hd16 : gt b 0 / 16 ≤ 15 := by omega
  have hm16 : gt b 0 % 16 ≤ 15 := by omega
  have hm0 : 0 ≤ gt b 0 % 16 := by omega
  have hand := and15 (gt b 0) hx.1 hx.2
  have HN : Hid ((headN b : Int) = gt b 0 % 16 * 4) := by show _ = _; unfold headN; omega
  subst hat
  clear c0
  have b4 : (gt b 0 / 16 == 4) = false := by simp [h4]
  have b4' : (gt b 0 / 16 != 4) = true := by simp [h4]
  clear h4
  clear hr hg
  go_enter Tryd.func23, Tryd.ntmps23
  go_wp2_with (refine wpList_alloc28 rfl rfl ?_; refine Hid.out ?_)
  refine Lib.hid ?_
  intro g2 w1 hg2 hb haw
  have HA := Lib.hid haw; have HB := Lib.hid hb
  have hl2 := hb.lt
  clear hb haw
  have c0 := HC0.out _ HA.out
  go_wp2_with (refine wpList_store28 rfl _ _ rfl g2 rfl zeroPk (.slice none 0 0) (.slice none 0 0) rfl zeroPk (.slice none 0 0) (.slice none 0 0) (by exact HB.out) ⟨rfl, rfl⟩ ⟨rfl, rfl⟩ rfl rfl ?_; refine Hid.out ?_)
  refine Lib.hid ?_
  intro wz hb haw
  have HZ := Lib.hid hb
  replace HA : Hid (Away [] w wz) := HA.out.next haw (fun x hx => .inr (by simp at hx; omega))
  clear hb haw
  go_wp2_with fail
  refine bodyPost_ret (result28tt rfl _ _ _ _ _ _ _ _ rfl rfl rfl HZ.out ⟨rfl, rfl⟩) rfl (L4Out.no _ HA.out)
theorem look4_least (a : Option Addr) (b : List Int) (cap : Nat) (w : World) (hr : Row w a b) (hcap : b.length ≤ cap) (hn : a = none → cap = 0) (hg : Glob w) (h20 : 20 ≤ b.length) (h4 : gt b 0 / 16 = 4) (hN : headN b < 20) :
    Calls Tryd.prog 23 #[.slice a b.length cap] w fun E w' => L4Out w (zeroPk, 0, 50) E w' := by
  have hlen := hr.1
  have HR := Lib.hid hr
  have HG := Lib.hid hg
  have hl' : ¬ ((b.length : Int) < 20) := by omega
  obtain ⟨bk, off, hat, c0⟩ : ∃ b' off, a = some ⟨b', off, none⟩ ∧ w.cell? ⟨b', off, none⟩ = some (.int .u8 (gt b 0)) := by
    rcases hr.2.2 with h0 | ⟨b', off, rfl, hc⟩
    · rw [h0] at h20; simp at h20
    · exact ⟨b', off, rfl, by have := hc 0 (by omega); simpa [gt] using this⟩
  have HC0 : Hid (∀ W, Away [] w W → W.cell? ⟨bk, off, none⟩ = some (.int .u8 (gt b 0))) := fun W h => h.cell (by simp) c0
  have hx := gt_bd hr.2.1 0
  have hq0 := hx.1
  have hq1 := hx.2
  have hd16 : gt b 0 / 16 ≤ 15 := by omega
  have hm16 : gt b 0 % 16 ≤ 15 := by omega
  have hm0 : 0 ≤ gt b 0 % 16 := by omega
  have hand := and15 (gt b 0) hx.1 hx.2
  have HN : Hid ((headN b : Int) = gt b 0 % 16 * 4) := by show _ = _; unfold headN; omega
  subst hat
  clear c0
  have b4 : (gt b 0 / 16 == 4) = true := by simp [h4]
  have b4' : (gt b 0 / 16 != 4) = false := by simp [h4]
  have hs : gt b 0 % 16 * 4 < 20 := by have := HN.out; omega
  clear h4 hN
  clear hr hg
  go_enter Tryd.func23, Tryd.ntmps23
  go_wp2_with (refine wpList_alloc28 rfl rfl ?_; refine Hid.out ?_)
  refine Lib.hid ?_
  intro g2 w1 hg2 hb haw
  have HA := Lib.hid haw; have HB := Lib.hid hb
  have hl2 := hb.lt
  clear hb haw
  have c0 := HC0.out _ HA.out
  go_wp2_with (refine wpList_store28 rfl _ _ rfl g2 rfl zeroPk (.slice none 0 0) (.slice none 0 0) rfl zeroPk (.slice none 0 0) (.slice none 0 0) (by exact HB.out) ⟨rfl, rfl⟩ ⟨rfl, rfl⟩ rfl rfl ?_; refine Hid.out ?_)
  refine Lib.hid ?_
  intro wz hb haw
  have HZ := Lib.hid hb
  replace HA : Hid (Away [] w wz) := HA.out.next haw (fun x hx => .inr (by simp at hx; omega))
  clear hb haw
  go_wp2_with fail
  refine bodyPost_ret (result28tt rfl _ _ _ _ _ _ _ _ rfl rfl rfl HZ.out ⟨rfl, rfl⟩) rfl (L4Out.no _ HA.out)
theorem look4_head (a : Option Addr) (b : List Int) (cap : Nat) (w : World) (hr : Row w a b) (hcap : b.length ≤ cap) (hn : a = none → cap = 0) (hg : Glob w) (h20 : 20 ≤ b.length) (h4 : gt b 0 / 16 = 4) (hN : 20 ≤ headN b) (hl : b.length < headN b) :
    Calls Tryd.prog 23 #[.slice a b.length cap] w fun E w' => L4Out w (zeroPk, 0, 20) E w' := by
  have hlen := hr.1
  have HR := Lib.hid hr
  have HG := Lib.hid hg
  have hl' : ¬ ((b.length : Int) < 20) := by omega
  obtain ⟨bk, off, hat, c0⟩ : ∃ b' off, a = some ⟨b', off, none⟩ ∧ w.cell? ⟨b', off, none⟩ = some (.int .u8 (gt b 0)) := by
    rcases hr.2.2 with h0 | ⟨b', off, rfl, hc⟩
    · rw [h0] at h20; simp at h20
    · exact ⟨b', off, rfl, by have := hc 0 (by omega); simpa [gt] using this⟩
  have HC0 : Hid (∀ W, Away [] w W → W.cell? ⟨bk, off, none⟩ = some (.int .u8 (gt b 0))) := fun W h => h.cell (by simp) c0
  have hx := gt_bd hr.2.1 0
  have hq0 := hx.1
  have hq1 := hx.2
  have hd16 : gt b 0 / 16 ≤ 15 := by omega
  have hm16 : gt b 0 % 16 ≤ 15 := by omega
  have hm0 : 0 ≤ gt b 0 % 16 := by omega
  have hand := and15 (gt b 0) hx.1 hx.2
  have HN : Hid ((headN b : Int) = gt b 0 % 16 * 4) := by show _ = _; unfold headN; omega
  subst hat
  clear c0
  have b4 : (gt b 0 / 16 == 4) = true := by simp [h4]
  have b4' : (gt b 0 / 16 != 4) = false := by simp [h4]
  have hs : ¬ gt b 0 % 16 * 4 < 20 := by have := HN.out; omega
  have hz : (b.length : Int) < gt b 0 % 16 * 4 := by have := HN.out; omega
  clear h4 hN hl
  clear hr hg
  go_enter Tryd.func23, Tryd.ntmps23
  go_wp2_with (refine wpList_alloc28 rfl rfl ?_; refine Hid.out ?_)
  refine Lib.hid ?_
  intro g2 w1 hg2 hb haw
  have HA := Lib.hid haw; have HB := Lib.hid hb
  have hl2 := hb.lt
  clear hb haw
  have c0 := HC0.out _ HA.out
  go_wp2_with (refine wpList_store28 rfl _ _ rfl g2 rfl zeroPk (.slice none 0 0) (.slice none 0 0) rfl zeroPk (.slice none 0 0) (.slice none 0 0) (by exact HB.out) ⟨rfl, rfl⟩ ⟨rfl, rfl⟩ rfl rfl ?_; refine Hid.out ?_)
  refine Lib.hid ?_
  intro wz hb haw
  have HZ := Lib.hid hb
  replace HA : Hid (Away [] w wz) := HA.out.next haw (fun x hx => .inr (by simp at hx; omega))
  clear hb haw
  go_wp2_with fail
  refine bodyPost_ret (result28tt rfl _ _ _ _ _ _ _ _ rfl rfl rfl HZ.out ⟨rfl, rfl⟩) rfl (L4Out.no _ HA.out)
theorem look4_sum (a : Option Addr) (b : List Int) (cap : Nat) (w : World) (hr : Row w a b) (hcap : b.length ≤ cap) (hn : a = none → cap = 0) (hg : Glob w) (h20 : 20 ≤ b.length) (h4 : gt b 0 / 16 = 4) (hN : 20 ≤ headN b) (hl : headN b ≤ b.length) (hsm : w16 b 10 ≠ sumH (b.take (headN b))) :
    Calls Tryd.prog 23 #[.slice a b.length cap] w fun E w' => L4Out w (zeroPk, 0, 52) E w' := by
  have hlen := hr.1
  have HR := Lib.hid hr
  have HG := Lib.hid hg
  have hl' : ¬ ((b.length : Int) < 20) := by omega
  obtain ⟨bk, off, hat, c0⟩ : ∃ b' off, a = some ⟨b', off, none⟩ ∧ w.cell? ⟨b', off, none⟩ = some (.int .u8 (gt b 0)) := by
    rcases hr.2.2 with h0 | ⟨b', off, rfl, hc⟩
    · rw [h0] at h20; simp at h20
    · exact ⟨b', off, rfl, by have := hc 0 (by omega); simpa [gt] using this⟩
  have HC0 : Hid (∀ W, Away [] w W → W.cell? ⟨bk, off, none⟩ = some (.int .u8 (gt b 0))) := fun W h => h.cell (by simp) c0
  have hx := gt_bd hr.2.1 0
  have hq0 := hx.1
  have hq1 := hx.2
  have hd16 : gt b 0 / 16 ≤ 15 := by omega
  have hm16 : gt b 0 % 16 ≤ 15 := by omega
  have hm0 : 0 ≤ gt b 0 % 16 := by omega
  have hand := and15 (gt b 0) hx.1 hx.2
  have HN : Hid ((headN b : Int) = gt b 0 % 16 * 4) := by show _ = _; unfold headN; omega
  subst hat
  clear c0
  have b4 : (gt b 0 / 16 == 4) = true := by simp [h4]
  have b4' : (gt b 0 / 16 != 4) = false := by simp [h4]
  have hs : ¬ gt b 0 % 16 * 4 < 20 := by have := HN.out; omega
  have hz : ¬ (b.length : Int) < gt b 0 % 16 * 4 := by have := HN.out; omega
  have hsl := slice_h (some ⟨bk, off, none⟩) b.length cap (headN b) (gt b 0 % 16 * 4) HN.out.symm (by omega)
  have HTL : Hid ((b.take (headN b)).length = headN b) := by show _ = _; simp; omega
  have HW10 : Hid (w16 (b.take (headN b)) 10 = w16 b 10) := by
    show _ = _
    unfold w16 gt
    rw [List.getElem?_take_of_lt (by omega), List.getElem?_take_of_lt (by omega)]
  have hd : decide (w16 b 10 = sumH (b.take (headN b))) = false := by simpa using hsm
  clear h4 hsm
  clear hr hg
  go_enter Tryd.func23, Tryd.ntmps23
  go_wp2_with (refine wpList_alloc28 rfl rfl ?_; refine Hid.out ?_)
  refine Lib.hid ?_
  intro g2 w1 hg2 hb haw
  have HA := Lib.hid haw; have HB := Lib.hid hb
  have hl2 := hb.lt
  clear hb haw
  have c0 := HC0.out _ HA.out
  go_wp2_with fail
  refine (summed_c (some ⟨bk, off, none⟩) (b.take (headN b)) (headN b) cap _ HTL.out (by omega) (by intro e; cases e) (by exact (HR.out.away HA.out (by simp)).head _) (by omega)).mono ?_
  rw [HW10.out]
  rintro E w2 ⟨rfl, haw⟩
  replace HA := Lib.hid (HA.out.on haw); replace HB := Lib.hid (HB.out.on haw)
  have hsz2 := haw.size
  clear haw c0
  rw [hd]
  go_wp2_with (refine wpList_store28 rfl _ _ rfl g2 rfl zeroPk (.slice none 0 0) (.slice none 0 0) rfl zeroPk (.slice none 0 0) (.slice none 0 0) (by exact HB.out) ⟨rfl, rfl⟩ ⟨rfl, rfl⟩ rfl rfl ?_; refine Hid.out ?_)
  refine Lib.hid ?_
  intro wz hb haw
  have HZ := Lib.hid hb
  replace HA : Hid (Away [] w wz) := HA.out.next haw (fun x hx => .inr (by simp at hx; omega))
  clear hb haw
  go_wp2_with fail
  refine bodyPost_ret (result28tt rfl _ _ _ _ _ _ _ _ rfl rfl rfl HZ.out ⟨rfl, rfl⟩) rfl (L4Out.no _ HA.out)
theorem look4_rest (a : Option Addr) (b : List Int) (cap : Nat) (w : World) (hr : Row w a b) (hcap : b.length ≤ cap) (hn : a = none → cap = 0) (hg : Glob w) (h20 : 20 ≤ b.length) (h4 : gt b 0 / 16 = 4) (hN : 20 ≤ headN b) (hl : headN b ≤ b.length) (hsm : w16 b 10 = sumH (b.take (headN b))) :
    Calls Tryd.prog 23 #[.slice a b.length cap] w fun E w' => L4Out w (rest4P b) E w' := by
  have hlen := hr.1
  have HR := Lib.hid hr
  have HG := Lib.hid hg
  have hl' : ¬ ((b.length : Int) < 20) := by omega
  obtain ⟨bk, off, hat, c0⟩ : ∃ b' off, a = some ⟨b', off, none⟩ ∧ w.cell? ⟨b', off, none⟩ = some (.int .u8 (gt b 0)) := by
    rcases hr.2.2 with h0 | ⟨b', off, rfl, hc⟩
    · rw [h0] at h20; simp at h20
    · exact ⟨b', off, rfl, by have := hc 0 (by omega); simpa [gt] using this⟩
  have HC0 : Hid (∀ W, Away [] w W → W.cell? ⟨bk, off, none⟩ = some (.int .u8 (gt b 0))) := fun W h => h.cell (by simp) c0
  have hx := gt_bd hr.2.1 0
  have hq0 := hx.1
  have hq1 := hx.2
  have hd16 : gt b 0 / 16 ≤ 15 := by omega
  have hm16 : gt b 0 % 16 ≤ 15 := by omega
  have hm0 : 0 ≤ gt b 0 % 16 := by omega
  have hand := and15 (gt b 0) hx.1 hx.2
  have HN : Hid ((headN b : Int) = gt b 0 % 16 * 4) := by show _ = _; unfold headN; omega
  subst hat
  clear c0
  have b4 : (gt b 0 / 16 == 4) = true := by simp [h4]
  have b4' : (gt b 0 / 16 != 4) = false := by simp [h4]
  have hs : ¬ gt b 0 % 16 * 4 < 20 := by have := HN.out; omega
  have hz : ¬ (b.length : Int) < gt b 0 % 16 * 4 := by have := HN.out; omega
  have hsl := slice_h (some ⟨bk, off, none⟩) b.length cap (headN b) (gt b 0 % 16 * 4) HN.out.symm (by omega)
  have HTL : Hid ((b.take (headN b)).length = headN b) := by show _ = _; simp; omega
  have HW10 : Hid (w16 (b.take (headN b)) 10 = w16 b 10) := by
    show _ = _
    unfold w16 gt
    rw [List.getElem?_take_of_lt (by omega), List.getElem?_take_of_lt (by omega)]
  have hd : decide (w16 b 10 = sumH (b.take (headN b))) = true := by simpa using hsm
  have hby := hr.2.1
  have HBY := Lib.hid hby
  obtain ⟨b0, b1, b2, b3, b4, b5, b6, b7, b8, b9, b10, b11, b12, b13, b14, b15, b16, b17, b18, b19, r, hbt⟩ := list20 (b := b.take (headN b)) (by simp; omega)
  obtain ⟨hrp, hg6⟩ := read_take hbt hl
  have hwf := read_wf hby hlen (headN b) h20
  have g2 := gt_bd hby 2; have g3 := gt_bd hby 3; have g6 := gt_bd hby 6; have g7 := gt_bd hby 7
  have hbe : b = (b.take (headN b)) ++ b.drop (headN b) := (List.take_append_drop _ _).symm
  have hg7 : gt b 7 = b7 := by rw [hbe, hbt]; rfl
  have hg2 : gt b 2 = b2 := by rw [hbe, hbt]; rfl
  have hg3 : gt b 3 = b3 := by rw [hbe, hbt]; rfl
  have hw2 : w16 b 2 = 256 * b2 + b3 := by show 256 * gt b 2 + gt b 3 = _; rw [hg2, hg3]
  rw [hg6] at g6
  rw [hg7] at g7
  rw [hg2] at g2
  rw [hg3] at g3
  obtain ⟨p, hp⟩ : ∃ p, p = readP b (headN b) := ⟨_, rfl⟩
  obtain ⟨R, hR⟩ : ∃ R, R = rest4P b := ⟨_, rfl⟩
  rw [← hR]
  unfold rest4P at hR
  rw [← hp, hg6, hw2] at hR
  rw [← hp] at hrp hwf
  have HPE := Lib.hid hR
  have HRP := Lib.hid hrp
  have HWF := Lib.hid hwf
  have HBT := Lib.hid hbt
  have ht0 : 0 ≤ 256 * b2 + b3 := by omega
  have ht1 : 256 * b2 + b3 ≤ 65535 := by omega
  have hsz := hr.1
  have HDB := Lib.hid (hby.drop (headN b))
  have hres : decide ((256 * b6 + b7) / 32768 % 2 = 1) = decide (128 ≤ b6) := by
    by_cases h : 128 ≤ b6
    · rw [decide_eq_true h]; simp; omega
    · rw [decide_eq_false h]; simp; omega
  have HRES := Lib.hid hres
  clear hR hrp hbt hp hwf hbe hg7 hg2 hg3 hw2 hg6 hby hsm h4 hres g2 g3 g6 g7
  clear hr hg
  go_enter Tryd.func23, Tryd.ntmps23
  go_wp2_with (refine wpList_alloc28 rfl rfl ?_; refine Hid.out ?_)
  refine Lib.hid ?_
  intro g2 w1 hg2 hb haw
  have HA := Lib.hid haw; have HB := Lib.hid hb
  have hl2 := hb.lt
  clear hb haw
  have c0 := HC0.out _ HA.out
  go_wp2_with fail
  refine (summed_c (some ⟨bk, off, none⟩) (b.take (headN b)) (headN b) cap _ HTL.out (by omega) (by intro e; cases e) (by exact (HR.out.away HA.out (by simp)).head _) (by omega)).mono ?_
  rw [HW10.out]
  rintro E w2 ⟨rfl, haw⟩
  replace HA := Lib.hid (HA.out.on haw); replace HB := Lib.hid (HB.out.on haw)
  have hsz2 := haw.size
  clear haw c0
  rw [hd]
  go_wp2_with fail
  refine (read4_c (some ⟨bk, off, none⟩) (headN b) cap _ b0 b1 b2 b3 b4 b5 b6 b7 b8 b9 b10 b11 b12 b13 b14 b15 b16 b17 b18 b19 r (b.take (headN b)) HBT.out HTL.out (by intro e; cases e) (by exact (HR.out.away HA.out (by simp)).head _)).mono ?_
  rintro E w3 ⟨ov, rfl, hown, hnew, haw3⟩
  rw [HRES.out]
  have HO : Hid (Owns w3 ov r) := hown
  have hs3 := haw3.size
  replace HA := Lib.hid (HA.out.on haw3); replace HB := Lib.hid (HB.out.on haw3)
  obtain ⟨q, hq⟩ : ∃ q : Pk, q = ⟨4, b1, 0, 4, [b12, b13, b14, b15] ++ z12, 4, [b16, b17, b18, b19] ++ z12, b9, b8, 256 * b4 + b5, decide ((256 * b6 + b7) / 16384 % 2 = 1), decide ((256 * b6 + b7) / 8192 % 2 = 1), false, (256 * b6 + b7) % 8192 * 8, r, []⟩ := ⟨_, rfl⟩
  rw [← hq]
  have HQP : Hid (∀ d, ({ q with d := d } : Pk) = { p with d := d }) := by rw [hq, HRP.out]; exact fun _ => rfl
  have HQA : Hid (Ad q) := by rw [hq]; exact ⟨rfl, rfl⟩
  have HQO : Hid (q.o = r ∧ p.o = r) := by rw [hq, HRP.out]; exact ⟨rfl, rfl⟩
  have HQS : Hid (q.sv = 4 ∧ q.dv = 4 ∧ q.sb = [b12, b13, b14, b15] ++ z12 ∧ q.db = [b16, b17, b18, b19] ++ z12) := by rw [hq]; exact ⟨rfl, rfl, rfl, rfl⟩
  have HQE : Hid (q.sb = p.sb ∧ q.db = p.db) := by rw [hq, HRP.out]; exact ⟨rfl, rfl⟩
  have HQW : Hid (Wf q) := by
    have h := HWF.out
    have e := HQP.out []
    have e2 : ({ q with d := [] } : Pk) = q := by rw [hq]
    rw [← e2, e]
    exact { h with d := Bytes.nil, dn := by simp }
  have hon : ov.oneCell' = true := by rcases hown.shape' with ⟨_, _, _, rfl⟩; rfl
  have hltov := HO.out.lt
  have HNW : Hid (New w.heap.size ov) := hnew.mono (by omega)
  have hnew2 := hnew
  clear hown haw3 hq hnew
  generalize 256 * b2 + b3 = T at *
  generalize hdec : decide (128 ≤ b6) = res at *
  have HDEC := Lib.hid hdec
  clear hdec HRES
  go_wp2_with (first | (refine wpList_alloc28 rfl rfl ?_; refine Hid.out ?_))
  refine Lib.hid ?_
  intro g6 w4 hg6 hb6 haw4
  have HB6 := Lib.hid hb6
  have hl6 := hb6.lt
  have hs4 := haw4.size
  replace HA := Lib.hid (HA.out.on haw4); replace HB := Lib.hid (HB.out.on haw4); replace HO := Lib.hid (HO.out.away haw4 (by simp))
  clear hb6 haw4
  go_wp2_with (first | (refine wpList_store28 rfl _ _ rfl _ rfl q ov (.slice none 0 0) rfl zeroPk (.slice none 0 0) (.slice none 0 0) (by exact HB6.out) HQA.out ⟨rfl, rfl⟩ hon rfl ?_; refine Hid.out ?_))
  refine Lib.hid ?_
  intro w5 hb6 haw5
  have HOV : Hid (∀ k, ov.ownBlock = some k → k ≠ g6 ∧ k ≠ g2) := fun k hk => by
    have h1 := hltov k hk
    have h2 := hnew2 k hk
    omega
  replace HB6 := Lib.hid hb6
  have hs5 := haw5.size
  replace HB := Lib.hid (HB.out.away haw5 (by simp; omega))
  replace HA := Lib.hid (HA.out.next haw5 (fun x hx => .inr (by simp at hx; omega)))
  replace HO := Lib.hid (HO.out.away haw5 (fun k hk => by simpa using (HOV.out k hk).1))
  clear hb6 haw5
  cases res
  · by_cases htn : T < gt b 0 % 16 * 4
    · obtain rfl : R = (zeroPk, 0, 50) := by rw [HPE.out, if_pos (.inr (by have := HN.out; omega))]
      go_wp2_with (refine wpList_store28 rfl _ _ rfl g2 rfl zeroPk (.slice none 0 0) (.slice none 0 0) rfl zeroPk (.slice none 0 0) (.slice none 0 0) (by exact HB.out) ⟨rfl, rfl⟩ ⟨rfl, rfl⟩ rfl rfl ?_; refine Hid.out ?_)
      refine Lib.hid ?_
      intro wz hb haw
      have HZ := Lib.hid hb
      replace HA : Hid (Away [] w wz) := HA.out.next haw (fun x hx => .inr (by simp at hx; omega))
      clear hb haw
      go_wp2_with fail
      refine bodyPost_ret (result28tt rfl _ _ _ _ _ _ _ _ rfl rfl rfl HZ.out ⟨rfl, rfl⟩) rfl (L4Out.no _ HA.out)
    · have HNF : Hid (¬ (128 ≤ b6 ∨ T < (headN b : Int))) := by
        have h1 := of_decide_eq_false HDEC.out
        rintro (h | h)
        · exact h1 h
        · have := HN.out; omega
      replace HPE := Lib.hid (HPE.out.trans (if_neg HNF.out))
      have HSO : Hid (Sl w5 ov q.o) := by rw [HQO.out.1]; exact HO.out.sl (by rw [← HQO.out.2]; exact HWF.out.o) (by rw [← HQO.out.2]; exact HWF.out.ol)
      go_wp2_with (first | (refine wpList_load28 rfl _ rfl _ rfl q _ _ (by exact HB6.out) HQA.out ?_))
      refine (optioned_c q ov (.slice none 0 0) _ b12 b13 b14 b15 b16 b17 b18 b19 HQW.out HQS.out.1 HQS.out.2.1 HQS.out.2.2.1 HQS.out.2.2.2 (by exact HSO.out) (by exact HG.out.on HA.out)).mono ?_
      rintro E w6 ⟨rfl, haw6⟩
      rw [HQO.out.1, ← HQO.out.2, HQE.out.1, HQE.out.2]
      have hs6 := haw6.size
      replace HA := Lib.hid (HA.out.on haw6); replace HB := Lib.hid (HB.out.on haw6); replace HB6 := Lib.hid (HB6.out.on haw6); replace HO := Lib.hid (HO.out.away haw6 (by simp))
      clear haw6 HSO
      generalize rightP (bareO p.o p.sb p.db) = z at *
      cases z
      · obtain rfl : R = (zeroPk, 0, 40) := by rw [HPE.out, if_pos rfl]
        go_wp2_with (refine wpList_store28 rfl _ _ rfl g2 rfl zeroPk (.slice none 0 0) (.slice none 0 0) rfl zeroPk (.slice none 0 0) (.slice none 0 0) (by exact HB.out) ⟨rfl, rfl⟩ ⟨rfl, rfl⟩ rfl rfl ?_; refine Hid.out ?_)
        refine Lib.hid ?_
        intro wz hb haw
        have HZ := Lib.hid hb
        replace HA : Hid (Away [] w wz) := HA.out.next haw (fun x hx => .inr (by simp at hx; omega))
        clear hb haw
        go_wp2_with fail
        refine bodyPost_ret (result28tt rfl _ _ _ _ _ _ _ _ rfl rfl rfl HZ.out ⟨rfl, rfl⟩) rfl (L4Out.no _ HA.out)
      · replace HPE := Lib.hid (HPE.out.trans (if_neg (by simp)))
        obtain ⟨m, hm⟩ : ∃ m, m = min b.length T.toNat - headN b := ⟨_, rfl⟩
        have hml : m ≤ b.length - headN b := by omega
        have hmn : min (b.length : Int) T = (headN b : Int) + (m : Int) := by have := HN.out; omega
        rw [← hm] at HPE
        obtain ⟨A, hA⟩ : ∃ A, A = if cap = headN b then (some ⟨bk, off, none⟩ : Option Addr) else (some ⟨bk, off, none⟩ : Option Addr).map (·.add (headN b)) := ⟨_, rfl⟩
        have hsl2 := slice_lh (some ⟨bk, off, none⟩) A b.length cap (headN b) m (gt b 0 % 16 * 4) (min (b.length : Int) T) hA HN.out.symm hmn (by omega)
        have HRA : Hid (Row w A ((b.drop (headN b)).take m)) := by have := (HR.out.tail (headN b) cap hcap hl).head m; rw [← hA] at this; exact this
        have HNA : Hid (A = none → cap - headN b = 0) := by
          intro e
          rw [hA] at e; revert e; split
          · intro e; cases e
          · intro e; simp at e
        obtain ⟨L, hL⟩ : ∃ L, L = (b.drop (headN b)).take m := ⟨_, rfl⟩
        have HDL : Hid (L.length = m) := by rw [hL]; show _ = _; simp; omega
        have HLB : Hid (Bytes L) := by rw [hL]; exact HDB.out.take m
        rw [← hL] at HRA HPE
        clear hA hm hmn hL
        go_wp2_with fail
        have hcl := clone_any A L (cap - headN b) w6 HNA.out (by exact HRA.out.away HA.out (by simp))
        rw [HDL.out] at hcl
        refine hcl.mono ?_
        clear hcl
        rintro E w7 ⟨dv, rfl, hownd, hnewd, haw7⟩
        have hs7 := haw7.size
        replace HA := Lib.hid (HA.out.on haw7); replace HB := Lib.hid (HB.out.on haw7); replace HB6 := Lib.hid (HB6.out.on haw7); replace HO := Lib.hid (HO.out.away haw7 (by simp))
        have HDV : Hid (∀ k, dv.ownBlock = some k → k ≠ g6 ∧ k ≠ g2 ∧ ov.ownBlock ≠ some k) := fun k hk => by
          have h1 := hnewd k hk
          refine ⟨by omega, by omega, fun e => ?_⟩
          have := hltov k e
          omega
        have HND : Hid (New w.heap.size dv) := hnewd.mono (by have := hs7; omega)
        clear haw7 hnewd
        have s45 := (HB6.out.cells HQA.out).d
        have t45 := HB6.out.free 45
        obtain ⟨ad, capd, hdv, -⟩ := hownd.row (by rw [HDL.out]; omega) HLB.out
        rw [HDL.out] at hdv
        subst hdv
        have HD := Lib.hid hownd
        clear hownd
        have hA8 := away_put (w := w7) (g := g6) 45 (.slice ad m capd)
        have hB8 := HB6.out.put 45 (.slice ad m capd) ((csP_set HQA.out _ _).2.2.2.2.2.2.2.2.2.2.2.2.2 L (.slice ad m capd))
        rw [HQP.out] at hB8
        replace HB6 := Lib.hid hB8
        replace HB := Lib.hid (HB.out.away hA8 (by simp; omega))
        replace HA := Lib.hid (HA.out.next hA8 (fun x hx => .inr (by simp at hx; omega)))
        replace HO := Lib.hid (HO.out.away hA8 (fun k hk => by simpa using (HOV.out k hk).1))
        replace HD := Lib.hid (HD.out.away hA8 (fun k hk => by simpa using (HDV.out k hk).1))
        have hs8 := hA8.size
        clear hA8 hB8
        have HPA : Hid (Ad ({ p with d := L } : Pk)) := ⟨HWF.out.sl, HWF.out.dl⟩
        go_upto_region 16 with fail
        clear s45 t45
        generalize w7.setCell ⟨g6, 45, none⟩ (.slice ad m capd) = w8 at *
        go_wp2_with (first
          | (refine wpList_load28 rfl _ rfl _ rfl ({ p with d := L } : Pk) _ _ (by exact HB6.out) HPA.out ?_)
          | (refine wpList_store28 rfl _ _ rfl _ rfl ({ p with d := L } : Pk) ov (.slice ad m capd) rfl zeroPk (.slice none 0 0) (.slice none 0 0) (by exact HB.out) HPA.out ⟨rfl, rfl⟩ hon rfl ?_; refine Hid.out ?_))
        refine Lib.hid ?_
        intro wx hbx hawx
        have HBx := Lib.hid hbx
        have HAx : Hid (Away [] w wx) := HA.out.next hawx (fun x hx => .inr (by simp at hx; omega))
        have HOx := Lib.hid (HO.out.away hawx (fun k hk => by simpa using (HOV.out k hk).2))
        have HDx := Lib.hid (HD.out.away hawx (fun k hk => by simpa using (HDV.out k hk).2.1))
        clear hbx hawx
        go_wp2_with fail
        refine bodyPost_ret (result28tt rfl _ _ _ _ _ _ (.int .i64 T) (.int .i64 0) rfl rfl rfl HBx.out HPA.out) rfl ⟨_, _, by rw [HPE.out], by rw [HPE.out]; show Owns _ _ p.o; rw [HQO.out.2]; exact HOx.out, by rw [HPE.out]; exact HDx.out, HNW.out, HND.out, fun k hk e => (HDV.out k e).2.2 hk, HAx.out⟩
  · obtain rfl : R = (zeroPk, 0, 50) := by rw [HPE.out, if_pos (.inl (of_decide_eq_true HDEC.out))]
    go_wp2_with (refine wpList_store28 rfl _ _ rfl g2 rfl zeroPk (.slice none 0 0) (.slice none 0 0) rfl zeroPk (.slice none 0 0) (.slice none 0 0) (by exact HB.out) ⟨rfl, rfl⟩ ⟨rfl, rfl⟩ rfl rfl ?_; refine Hid.out ?_)
    refine Lib.hid ?_
    intro wz hb haw
    have HZ := Lib.hid hb
    replace HA : Hid (Away [] w wz) := HA.out.next haw (fun x hx => .inr (by simp at hx; omega))
    clear hb haw
    go_wp2_with fail
    refine bodyPost_ret (result28tt rfl _ _ _ _ _ _ _ _ rfl rfl rfl HZ.out ⟨rfl, rfl⟩) rfl (L4Out.no _ HA.out)
theorem look4_c (a : Option Addr) (b : List Int) (cap : Nat) (w : World) (hr : Row w a b) (hcap : b.length ≤ cap) (hn : a = none → cap = 0) (hg : Glob w) :
    Calls Tryd.prog 23 #[.slice a b.length cap] w fun E w' => L4Out w (look4P b) E w' := by
  unfold look4P
  split
  · rename_i h; exact look4_short a b cap w hr hcap hn hg h
  rename_i h20
  by_cases h4 : gt b 0 / 16 = 4
  · by_cases hN : headN b < 20
    · rw [if_pos (.inr hN)]; exact look4_least a b cap w hr hcap hn hg (by omega) h4 hN
    rw [if_neg (by rintro (h | h); exact h h4; exact hN h)]
    split
    · rename_i h; exact look4_head a b cap w hr hcap hn hg (by omega) h4 (by omega) h
    rename_i hl
    split
    · rename_i h; exact look4_sum a b cap w hr hcap hn hg (by omega) h4 (by omega) (by omega) h
    rename_i h
    exact look4_rest a b cap w hr hcap hn hg (by omega) h4 (by omega) (by omega) (Classical.not_not.1 h)
  · rw [if_pos (.inl h4)]; exact look4_form a b cap w hr hcap hn hg (by omega) h4
#print axioms look4_c
end Go.Proofs.YtbgpjhekohabiaaDoor
