/-
  Parse of the document.
-/
import Derived.Test.YtbgpjhekohabiaaRefM
import Derived.Test.YtbgpjhekohabiaaMend
import Derived.Test.YtbgpjhekohabiaaLm
namespace Go.Proofs.Ytbgpjhekohabiaa
open Go.ChangeShapes Go.WideShapes Go.ChangeAt Go.RowKit Num
set_option linter.unusedVariables false
set_option maxHeartbeats 4000000
set_option maxRecDepth 100000

theorem yields_ix {ops : Array Oper} {S : World → Prop} {op : Oper} {a : Act} {gb off n cap : Nat} (hw : Region.wanted op (yielded ops a.tmps) = true) (x ix : Operand) (ho : op.op = .indexAddr 26 x ix) (i : Nat) (hx : a.eval x = .slice (some ⟨gb, off, none⟩) n cap) (hix : a.eval ix = .int .i64 (i : Int)) (hi : i < n) :
    YieldsIf Try.prog ops S op (.pointer (some ⟨gb, off + i, none⟩)) a := by
  refine .inl ⟨hw, fun w _ => ?_⟩
  have he : Try.prog.elem 26 = 5 := by kernel_rfl
  have hsz : (sizeOf 5).run Try.prog w = .ok 1 w := by kernel_rfl
  unfold execOp
  simp only [ho, hx, hix, Sem.run_bind]
  rw [run_indexAt_slice w 26 ⟨gb, off, none⟩ n cap .i64 (i : Int) under22, he, if_pos ⟨by omega, by omega⟩, hsz]
  simp only [Result.andThen, add_plain, Int.toNat_natCast, Nat.mul_one, Sem.run_pure]
theorem yields_ix0 {ops : Array Oper} {S : World → Prop} {op : Oper} {a : Act} {gb n cap : Nat} (hw : Region.wanted op (yielded ops a.tmps) = true) (x ix : Operand) (ho : op.op = .indexAddr 26 x ix) (i : Nat) (hx : a.eval x = .slice (some ⟨gb, 0, none⟩) n cap) (hix : a.eval ix = .int .i64 (i : Int)) (hi : i < n) :
    YieldsIf Try.prog ops S op (.pointer (some ⟨gb, i, none⟩)) a := by
  have := yields_ix (S := S) hw x ix ho i hx hix hi
  rwa [Nat.zero_add] at this
theorem yields_sll {ops : Array Oper} {S : World → Prop} {op : Oper} {a : Act} {v : Value} {sa : Option Addr} {n c : Nat} {lo : Int} (hw : Region.wanted op (yielded ops a.tmps) = true) (x h : Operand) (ho : op.op = .slice 26 x (some h) none none) (hx : a.eval x = .slice sa n c) (hh : a.eval h = .int .i64 lo)
    (hS : ∀ w, (Instr.sliceAt 26 (.slice sa n c) (some (.int .i64 lo)) none none).run Try.prog w = .ok v w) : YieldsIf Try.prog ops S op v a :=
  .inl ⟨hw, fun w hw' => by
    unfold execOp
    simp only [ho, hx, hh, Option.map_none, Option.map_some, Sem.run_bind, hS w, Result.andThen_ok, Sem.run_pure]⟩
theorem rparse_no1 (s t : Ax) (a : Option Addr) (b : List Int) (cap : Nat) (w : World) (hs : WfA s) (ht : WfA t) (hr : Row w a b) (hcap : b.length ≤ cap) (hn : a = none → cap = 0) (hz1 : adrvP s s.v = false) :
    Calls Try.prog 18 #[.agg (csA s.v s.l), .agg (csA t.v t.l), .slice a b.length cap] w fun E w' => ParseOut w (zeroMg, 1) E w' := by
  have K1 : Hid (∀ w, Calls Try.prog 36 #[.agg (csA s.v s.l), .int .i64 s.v] w fun e w' => e = .returned (.bool false) ∧ Away [] w w') := fun w => by rw [← hz1]; exact raddress_c s s.v w hs
  have HS := Lib.hid hs
  have HT := Lib.hid ht
  have HR := Lib.hid hr
  have hlen := hr.1
  clear hs ht hr hz1
  go_enter Try.func18, Try.ntmps18
  go_wp2_with (refine wpList_box24 rfl _ rfl s rfl ?_; refine Hid.out ?_)
  refine Lib.hid ?_
  intro g3 w1 hg3 hb haw
  have HA := Lib.hid haw; have HB := Lib.hid hb
  have hl1 := hb.lt
  clear hb haw
  go_wp2_with (refine wpList_box24 rfl _ rfl t rfl ?_; refine Hid.out ?_)
  refine Lib.hid ?_
  intro g4 w2 hg4 hb haw
  replace HA := Lib.hid (HA.out.on haw); replace HB := Lib.hid (HB.out.on haw); have HC := Lib.hid hb
  have hl2 := hb.lt
  clear hb haw
  go_wp2_with (refine wpList_allocM rfl rfl ?_; refine Hid.out ?_)
  refine Lib.hid ?_
  intro g6 w3 hg6 hb haw
  replace HA := Lib.hid (HA.out.on haw); replace HB := Lib.hid (HB.out.on haw); replace HC := Lib.hid (HC.out.on haw); have HD := Lib.hid hb
  have hl6 := hb.lt
  have hs1 := HA.out.size
  have cv := HB.out.cell
  clear hb haw
  go_wp2_with (first | (refine wpList_loadX rfl _ rfl g3 rfl s (by exact HB.out) HS.out ?_) | (refine wpList_loadX rfl _ rfl g4 rfl t (by exact HC.out) HT.out ?_))
  refine (K1.out _).mono ?_
  rintro E w4 ⟨rfl, haw⟩
  replace HA := Lib.hid (HA.out.on haw); replace HB := Lib.hid (HB.out.on haw); replace HC := Lib.hid (HC.out.on haw); replace HD := Lib.hid (HD.out.on haw)
  have hs4 := haw.size
  clear haw K1 cv
  go_wp2_with (refine wpList_storeM rfl _ _ rfl g6 rfl zeroMg (.slice none 0 0) rfl zeroMg (.slice none 0 0) (by exact HD.out) rfl ?_; refine Hid.out ?_)
  refine Lib.hid ?_
  intro wz hb haw
  have HZ := Lib.hid hb
  replace HA : Hid (Away [] w wz) := HA.out.next haw (fun x hx => .inr (by simp at hx; omega))
  clear hb haw
  go_wp2_with fail
  refine bodyPost_ret (resultMt rfl _ _ _ _ _ _ rfl rfl HZ.out) rfl ⟨_, rfl, Owns.nil _, New.nil _, HA.out⟩
theorem rparse_no2 (s t : Ax) (a : Option Addr) (b : List Int) (cap : Nat) (w : World) (hs : WfA s) (ht : WfA t) (hr : Row w a b) (hcap : b.length ≤ cap) (hn : a = none → cap = 0) (hz1 : adrvP s s.v = true) (hz2 : adrvP t s.v = false) :
    Calls Try.prog 18 #[.agg (csA s.v s.l), .agg (csA t.v t.l), .slice a b.length cap] w fun E w' => ParseOut w (zeroMg, 1) E w' := by
  have K1 : Hid (∀ w, Calls Try.prog 36 #[.agg (csA s.v s.l), .int .i64 s.v] w fun e w' => e = .returned (.bool true) ∧ Away [] w w') := fun w => by rw [← hz1]; exact raddress_c s s.v w hs
  have HS := Lib.hid hs
  have HT := Lib.hid ht
  have HR := Lib.hid hr
  have hlen := hr.1
  have K2 : Hid (∀ w, Calls Try.prog 36 #[.agg (csA t.v t.l), .int .i64 s.v] w fun e w' => e = .returned (.bool false) ∧ Away [] w w') := fun w => by rw [← hz2]; exact raddress_c t s.v w ht
  clear hz2
  clear hs ht hr hz1
  go_enter Try.func18, Try.ntmps18
  go_wp2_with (refine wpList_box24 rfl _ rfl s rfl ?_; refine Hid.out ?_)
  refine Lib.hid ?_
  intro g3 w1 hg3 hb haw
  have HA := Lib.hid haw; have HB := Lib.hid hb
  have hl1 := hb.lt
  clear hb haw
  go_wp2_with (refine wpList_box24 rfl _ rfl t rfl ?_; refine Hid.out ?_)
  refine Lib.hid ?_
  intro g4 w2 hg4 hb haw
  replace HA := Lib.hid (HA.out.on haw); replace HB := Lib.hid (HB.out.on haw); have HC := Lib.hid hb
  have hl2 := hb.lt
  clear hb haw
  go_wp2_with (refine wpList_allocM rfl rfl ?_; refine Hid.out ?_)
  refine Lib.hid ?_
  intro g6 w3 hg6 hb haw
  replace HA := Lib.hid (HA.out.on haw); replace HB := Lib.hid (HB.out.on haw); replace HC := Lib.hid (HC.out.on haw); have HD := Lib.hid hb
  have hl6 := hb.lt
  have hs1 := HA.out.size
  have cv := HB.out.cell
  clear hb haw
  go_wp2_with (first | (refine wpList_loadX rfl _ rfl g3 rfl s (by exact HB.out) HS.out ?_) | (refine wpList_loadX rfl _ rfl g4 rfl t (by exact HC.out) HT.out ?_))
  refine (K1.out _).mono ?_
  rintro E w4 ⟨rfl, haw⟩
  replace HA := Lib.hid (HA.out.on haw); replace HB := Lib.hid (HB.out.on haw); replace HC := Lib.hid (HC.out.on haw); replace HD := Lib.hid (HD.out.on haw)
  have hs4 := haw.size
  clear haw K1 cv
  go_wp2_with (first | (refine wpList_loadX rfl _ rfl g3 rfl s (by exact HB.out) HS.out ?_) | (refine wpList_loadX rfl _ rfl g4 rfl t (by exact HC.out) HT.out ?_))
  refine (K2.out _).mono ?_
  rintro E w5 ⟨rfl, haw⟩
  replace HA := Lib.hid (HA.out.on haw); replace HB := Lib.hid (HB.out.on haw); replace HC := Lib.hid (HC.out.on haw); replace HD := Lib.hid (HD.out.on haw)
  have hs5 := haw.size
  clear haw K2
  go_wp2_with (refine wpList_storeM rfl _ _ rfl g6 rfl zeroMg (.slice none 0 0) rfl zeroMg (.slice none 0 0) (by exact HD.out) rfl ?_; refine Hid.out ?_)
  refine Lib.hid ?_
  intro wz hb haw
  have HZ := Lib.hid hb
  replace HA : Hid (Away [] w wz) := HA.out.next haw (fun x hx => .inr (by simp at hx; omega))
  clear hb haw
  go_wp2_with fail
  refine bodyPost_ret (resultMt rfl _ _ _ _ _ _ rfl rfl HZ.out) rfl ⟨_, rfl, Owns.nil _, New.nil _, HA.out⟩
theorem rparse_no3 (s t : Ax) (a : Option Addr) (b : List Int) (cap : Nat) (w : World) (hs : WfA s) (ht : WfA t) (hr : Row w a b) (hcap : b.length ≤ cap) (hn : a = none → cap = 0) (hz1 : adrvP s s.v = true) (hz2 : adrvP t s.v = true) (h8 : b.length < 8) :
    Calls Try.prog 18 #[.agg (csA s.v s.l), .agg (csA t.v t.l), .slice a b.length cap] w fun E w' => ParseOut w (zeroMg, 20) E w' := by
  have K1 : Hid (∀ w, Calls Try.prog 36 #[.agg (csA s.v s.l), .int .i64 s.v] w fun e w' => e = .returned (.bool true) ∧ Away [] w w') := fun w => by rw [← hz1]; exact raddress_c s s.v w hs
  have HS := Lib.hid hs
  have HT := Lib.hid ht
  have HR := Lib.hid hr
  have hlen := hr.1
  have K2 : Hid (∀ w, Calls Try.prog 36 #[.agg (csA t.v t.l), .int .i64 s.v] w fun e w' => e = .returned (.bool true) ∧ Away [] w w') := fun w => by rw [← hz2]; exact raddress_c t s.v w ht
  clear hz2
  clear hs ht hr hz1
  go_enter Try.func18, Try.ntmps18
  go_wp2_with (refine wpList_box24 rfl _ rfl s rfl ?_; refine Hid.out ?_)
  refine Lib.hid ?_
  intro g3 w1 hg3 hb haw
  have HA := Lib.hid haw; have HB := Lib.hid hb
  have hl1 := hb.lt
  clear hb haw
  go_wp2_with (refine wpList_box24 rfl _ rfl t rfl ?_; refine Hid.out ?_)
  refine Lib.hid ?_
  intro g4 w2 hg4 hb haw
  replace HA := Lib.hid (HA.out.on haw); replace HB := Lib.hid (HB.out.on haw); have HC := Lib.hid hb
  have hl2 := hb.lt
  clear hb haw
  go_wp2_with (refine wpList_allocM rfl rfl ?_; refine Hid.out ?_)
  refine Lib.hid ?_
  intro g6 w3 hg6 hb haw
  replace HA := Lib.hid (HA.out.on haw); replace HB := Lib.hid (HB.out.on haw); replace HC := Lib.hid (HC.out.on haw); have HD := Lib.hid hb
  have hl6 := hb.lt
  have hs1 := HA.out.size
  have cv := HB.out.cell
  clear hb haw
  go_wp2_with (first | (refine wpList_loadX rfl _ rfl g3 rfl s (by exact HB.out) HS.out ?_) | (refine wpList_loadX rfl _ rfl g4 rfl t (by exact HC.out) HT.out ?_))
  refine (K1.out _).mono ?_
  rintro E w4 ⟨rfl, haw⟩
  replace HA := Lib.hid (HA.out.on haw); replace HB := Lib.hid (HB.out.on haw); replace HC := Lib.hid (HC.out.on haw); replace HD := Lib.hid (HD.out.on haw)
  have hs4 := haw.size
  clear haw K1 cv
  go_wp2_with (first | (refine wpList_loadX rfl _ rfl g3 rfl s (by exact HB.out) HS.out ?_) | (refine wpList_loadX rfl _ rfl g4 rfl t (by exact HC.out) HT.out ?_))
  refine (K2.out _).mono ?_
  rintro E w5 ⟨rfl, haw⟩
  replace HA := Lib.hid (HA.out.on haw); replace HB := Lib.hid (HB.out.on haw); replace HC := Lib.hid (HC.out.on haw); replace HD := Lib.hid (HD.out.on haw)
  have hs5 := haw.size
  clear haw K2
  go_wp2_with (refine wpList_storeM rfl _ _ rfl g6 rfl zeroMg (.slice none 0 0) rfl zeroMg (.slice none 0 0) (by exact HD.out) rfl ?_; refine Hid.out ?_)
  refine Lib.hid ?_
  intro wz hb haw
  have HZ := Lib.hid hb
  replace HA : Hid (Away [] w wz) := HA.out.next haw (fun x hx => .inr (by simp at hx; omega))
  clear hb haw
  go_wp2_with fail
  refine bodyPost_ret (resultMt rfl _ _ _ _ _ _ rfl rfl HZ.out) rfl ⟨_, rfl, Owns.nil _, New.nil _, HA.out⟩
theorem rparse_no4 (s t : Ax) (a : Option Addr) (b : List Int) (cap : Nat) (w : World) (hs : WfA s) (ht : WfA t) (hr : Row w a b) (hcap : b.length ≤ cap) (hn : a = none → cap = 0) (hz1 : adrvP s s.v = true) (hz2 : adrvP t s.v = true) (h8 : 8 ≤ b.length) (hm : mostP s.v < (b.length : Int)) :
    Calls Try.prog 18 #[.agg (csA s.v s.l), .agg (csA t.v t.l), .slice a b.length cap] w fun E w' => ParseOut w (zeroMg, 3) E w' := by
  have K1 : Hid (∀ w, Calls Try.prog 36 #[.agg (csA s.v s.l), .int .i64 s.v] w fun e w' => e = .returned (.bool true) ∧ Away [] w w') := fun w => by rw [← hz1]; exact raddress_c s s.v w hs
  have HS := Lib.hid hs
  have HT := Lib.hid ht
  have HR := Lib.hid hr
  have hlen := hr.1
  have K2 : Hid (∀ w, Calls Try.prog 36 #[.agg (csA t.v t.l), .int .i64 s.v] w fun e w' => e = .returned (.bool true) ∧ Away [] w w') := fun w => by rw [← hz2]; exact raddress_c t s.v w ht
  clear hz2
  clear hs ht hr hz1
  go_enter Try.func18, Try.ntmps18
  go_wp2_with (refine wpList_box24 rfl _ rfl s rfl ?_; refine Hid.out ?_)
  refine Lib.hid ?_
  intro g3 w1 hg3 hb haw
  have HA := Lib.hid haw; have HB := Lib.hid hb
  have hl1 := hb.lt
  clear hb haw
  go_wp2_with (refine wpList_box24 rfl _ rfl t rfl ?_; refine Hid.out ?_)
  refine Lib.hid ?_
  intro g4 w2 hg4 hb haw
  replace HA := Lib.hid (HA.out.on haw); replace HB := Lib.hid (HB.out.on haw); have HC := Lib.hid hb
  have hl2 := hb.lt
  clear hb haw
  go_wp2_with (refine wpList_allocM rfl rfl ?_; refine Hid.out ?_)
  refine Lib.hid ?_
  intro g6 w3 hg6 hb haw
  replace HA := Lib.hid (HA.out.on haw); replace HB := Lib.hid (HB.out.on haw); replace HC := Lib.hid (HC.out.on haw); have HD := Lib.hid hb
  have hl6 := hb.lt
  have hs1 := HA.out.size
  have cv := HB.out.cell
  clear hb haw
  go_wp2_with (first | (refine wpList_loadX rfl _ rfl g3 rfl s (by exact HB.out) HS.out ?_) | (refine wpList_loadX rfl _ rfl g4 rfl t (by exact HC.out) HT.out ?_))
  refine (K1.out _).mono ?_
  rintro E w4 ⟨rfl, haw⟩
  replace HA := Lib.hid (HA.out.on haw); replace HB := Lib.hid (HB.out.on haw); replace HC := Lib.hid (HC.out.on haw); replace HD := Lib.hid (HD.out.on haw)
  have hs4 := haw.size
  clear haw K1 cv
  go_wp2_with (first | (refine wpList_loadX rfl _ rfl g3 rfl s (by exact HB.out) HS.out ?_) | (refine wpList_loadX rfl _ rfl g4 rfl t (by exact HC.out) HT.out ?_))
  refine (K2.out _).mono ?_
  rintro E w5 ⟨rfl, haw⟩
  replace HA := Lib.hid (HA.out.on haw); replace HB := Lib.hid (HB.out.on haw); replace HC := Lib.hid (HC.out.on haw); replace HD := Lib.hid (HD.out.on haw)
  have hs5 := haw.size
  clear haw K2
  go_wp2_with fail
  refine (rmost_c s.v _).mono ?_
  rintro E w6 ⟨rfl, rfl⟩
  have hrm := most_bd s.v
  generalize mostP s.v = rm at *
  go_wp2_with (refine wpList_storeM rfl _ _ rfl g6 rfl zeroMg (.slice none 0 0) rfl zeroMg (.slice none 0 0) (by exact HD.out) rfl ?_; refine Hid.out ?_)
  refine Lib.hid ?_
  intro wz hb haw
  have HZ := Lib.hid hb
  replace HA : Hid (Away [] w wz) := HA.out.next haw (fun x hx => .inr (by simp at hx; omega))
  clear hb haw
  go_wp2_with fail
  refine bodyPost_ret (resultMt rfl _ _ _ _ _ _ rfl rfl HZ.out) rfl ⟨_, rfl, Owns.nil _, New.nil _, HA.out⟩
theorem rparse_long (s t : Ax) (a : Option Addr) (b : List Int) (cap : Nat) (w : World) (hs : WfA s) (ht : WfA t) (hr : Row w a b) (hcap : b.length ≤ cap) (hn : a = none → cap = 0) (hz1 : adrvP s s.v = true) (hz2 : adrvP t s.v = true) (h8 : 8 ≤ b.length) (hm : (b.length : Int) ≤ mostP s.v) :
    Calls Try.prog 18 #[.agg (csA s.v s.l), .agg (csA t.v t.l), .slice a b.length cap] w fun E w' => ParseOut w (mparseP s t b) E w' := by
  have K1 : Hid (∀ w, Calls Try.prog 36 #[.agg (csA s.v s.l), .int .i64 s.v] w fun e w' => e = .returned (.bool true) ∧ Away [] w w') := fun w => by rw [← hz1]; exact raddress_c s s.v w hs
  have HS := Lib.hid hs
  have HT := Lib.hid ht
  have HR := Lib.hid hr
  have hlen := hr.1
  have K2 : Hid (∀ w, Calls Try.prog 36 #[.agg (csA t.v t.l), .int .i64 s.v] w fun e w' => e = .returned (.bool true) ∧ Away [] w w') := fun w => by rw [← hz2]; exact raddress_c t s.v w ht
  have hp : pairP s t = true := by rw [← adrv_pair, hz1, hz2]; rfl
  have hv46 := (pair_v hp).2
  have hrm0 := most_bd s.v
  have hl16 : b.length ≤ 65535 := by omega
  obtain ⟨ck, hck⟩ : ∃ c, c = mckP s t b := ⟨_, rfl⟩
  obtain ⟨ck0, ck1⟩ := mck_bd hs ht hr.2.1 hl16
  rw [← hck] at ck0 ck1
  have KC : Hid (∀ W, Away [] w W → Calls Try.prog 38 #[.agg (csA s.v s.l), .agg (csA t.v t.l), .int .i64 s.v, .slice a b.length cap] W fun E w' => E = .returned (.int .i64 ck) ∧ Away [] W w') := fun W h => by rw [hck]; exact rchecksum_c s t a b cap W hs ht hv46 (hr.on h) hl16 (by omega) s.v rfl
  have KG : Hid (∀ (i : Nat) W, Away [] w W → i + 1 < b.length → Calls Try.prog 39 #[.slice a b.length cap, .int .i64 (i : Int)] W fun E w' => E = .returned (.int .i64 (wd b i)) ∧ Away [] W w') := fun i W h hi => rget_c a b cap i W (hr.on h) hi
  have KG2 : Hid (∀ W, Away [] w W → Calls Try.prog 39 #[.slice a b.length cap, .int .i64 2] W fun E w' => E = .returned (.int .i64 (wd b 2)) ∧ Away [] W w') := fun W h => KG.out 2 W h (by omega)
  have KG4 : Hid (∀ W, Away [] w W → Calls Try.prog 39 #[.slice a b.length cap, .int .i64 4] W fun E w' => E = .returned (.int .i64 (wd b 4)) ∧ Away [] W w') := fun W h => KG.out 4 W h (by omega)
  have KG6 : Hid (∀ W, Away [] w W → Calls Try.prog 39 #[.slice a b.length cap, .int .i64 6] W fun E w' => E = .returned (.int .i64 (wd b 6)) ∧ Away [] W w') := fun W h => KG.out 6 W h (by omega)
  have HY : Hid (mparseP s t b = if wd b 2 = ck then (mgP s.v b, 0) else (zeroMg, 52)) := by
    show _ = _
    unfold mparseP
    rw [if_pos hp, if_neg (by omega), if_neg (by omega), hck]
  obtain ⟨w20, w21⟩ := wd_bd hr.2.1 2
  obtain ⟨w40, w41⟩ := wd_bd hr.2.1 4
  obtain ⟨w60, w61⟩ := wd_bd hr.2.1 6
  obtain ⟨x0, hx0⟩ : ∃ x, x = b[0]?.getD 0 := ⟨_, rfl⟩
  obtain ⟨x1, hx1⟩ : ∃ x, x = b[1]?.getD 0 := ⟨_, rfl⟩
  have xb0 := hr.2.1.getD 0; have xb1 := hr.2.1.getD 1
  rw [← hx0] at xb0
  rw [← hx1] at xb1
  have HMG : Hid (mgP s.v b = ⟨s.v, x0, x1, wd b 4 * 65536 + wd b 6, b.drop 8⟩) := by rw [hx0, hx1]; rfl
  obtain ⟨bk, off, hat, c0⟩ := hr.at 0 (by omega)
  subst hat
  obtain ⟨bk', off', he, c1⟩ := hr.at 1 (by omega)
  simp only [Option.some.injEq, Addr.mk.injEq, and_true] at he
  obtain ⟨rfl, rfl⟩ := he
  rw [← hx0] at c0
  rw [← hx1] at c1
  have HC0 : Hid (∀ W, Away [] w W → W.cell? ⟨bk, off + 0, none⟩ = some (.int .u8 x0)) := fun W h => h.cell (by simp) c0
  have HC1 : Hid (∀ W, Away [] w W → W.cell? ⟨bk, off + 1, none⟩ = some (.int .u8 x1)) := fun W h => h.cell (by simp) c1
  clear hx0 hx1 c0 c1 KG
  obtain ⟨A, hA⟩ : ∃ A, A = if cap = 8 then some ⟨bk, off, none⟩ else (some ⟨bk, off, none⟩ : Option Addr).map (·.add 8) := ⟨_, rfl⟩
  have s8 := slice_l (some ⟨bk, off, none⟩) A b.length cap 8 8 hA rfl h8
  have HTL : Hid (∀ W, Away [] w W → Row W A (b.drop 8)) := fun W h => by have := (hr.on h).tail 8 cap hcap h8; rwa [← hA] at this
  have HAN : Hid (A = none → cap - 8 = 0) := fun h => by rw [hA] at h; split at h <;> simp at h
  have hbd : (b.drop 8).length = b.length - 8 := by simp
  have HBD := Lib.hid hbd
  have HBY := Lib.hid hr.2.1
  clear hz2 hp hck hrm0 hv46 hA hbd
  clear hs ht hr hz1
  go_enter Try.func18, Try.ntmps18
  go_wp2_with (refine wpList_box24 rfl _ rfl s rfl ?_; refine Hid.out ?_)
  refine Lib.hid ?_
  intro g3 w1 hg3 hb haw
  have HA := Lib.hid haw; have HB := Lib.hid hb
  have hl1 := hb.lt
  clear hb haw
  go_wp2_with (refine wpList_box24 rfl _ rfl t rfl ?_; refine Hid.out ?_)
  refine Lib.hid ?_
  intro g4 w2 hg4 hb haw
  replace HA := Lib.hid (HA.out.on haw); replace HB := Lib.hid (HB.out.on haw); have HC := Lib.hid hb
  have hl2 := hb.lt
  clear hb haw
  go_wp2_with (refine wpList_allocM rfl rfl ?_; refine Hid.out ?_)
  refine Lib.hid ?_
  intro g6 w3 hg6 hb haw
  replace HA := Lib.hid (HA.out.on haw); replace HB := Lib.hid (HB.out.on haw); replace HC := Lib.hid (HC.out.on haw); have HD := Lib.hid hb
  have hl6 := hb.lt
  have hs1 := HA.out.size
  have cv := HB.out.cell
  clear hb haw
  go_wp2_with (first | (refine wpList_loadX rfl _ rfl g3 rfl s (by exact HB.out) HS.out ?_) | (refine wpList_loadX rfl _ rfl g4 rfl t (by exact HC.out) HT.out ?_))
  refine (K1.out _).mono ?_
  rintro E w4 ⟨rfl, haw⟩
  replace HA := Lib.hid (HA.out.on haw); replace HB := Lib.hid (HB.out.on haw); replace HC := Lib.hid (HC.out.on haw); replace HD := Lib.hid (HD.out.on haw)
  have hs4 := haw.size
  clear haw K1 cv
  go_wp2_with (first | (refine wpList_loadX rfl _ rfl g3 rfl s (by exact HB.out) HS.out ?_) | (refine wpList_loadX rfl _ rfl g4 rfl t (by exact HC.out) HT.out ?_))
  refine (K2.out _).mono ?_
  rintro E w5 ⟨rfl, haw⟩
  replace HA := Lib.hid (HA.out.on haw); replace HB := Lib.hid (HB.out.on haw); replace HC := Lib.hid (HC.out.on haw); replace HD := Lib.hid (HD.out.on haw)
  have hs5 := haw.size
  clear haw K2
  go_wp2_with fail
  refine (rmost_c s.v _).mono ?_
  rintro E w6 ⟨rfl, rfl⟩
  have hrm := most_bd s.v
  generalize mostP s.v = rm at *
  go_upto_region 8 with fail
  refine wp_region_held_drew (S := (fun w' => Away [] w6 w')) (by kernel_rfl) ((Away.refl [] w6).drew) (fun hHeld => ?_)
  refine wpAnyH_take (i := 0) (v := ?_) (by simp only [List.getElem?_toArray, List.getElem?_cons_zero]; rfl) (by kernel_rfl) (by kernel_rfl) (by kernel_rfl) (by exact fun _ _ _ h => h) (Or.inl ⟨by rfl, ?_⟩) (by assumption) ?_
  rotate_left
  · intro wq hSw
    (try dsimp only at hSw)
    go_simp
    all_goals (with_reducible rfl)
  try simp only [Act.put, List.setIfInBounds_toArray, List.set_cons_zero, List.set_cons_succ]
  refine wpAnyH_take (i := 2) (by simp only [List.getElem?_toArray, List.getElem?_cons_succ, List.getElem?_cons_zero]; rfl) (by kernel_rfl) (by kernel_rfl) (by kernel_rfl) (by exact fun _ _ _ h => h) (yields_ld (ad := ⟨g3, 0, none⟩) (by rfl) _ rfl rfl (fun w' h => load24_run (HB.out.on h) HS.out)) (by assumption) ?_
  try simp only [Act.put, List.setIfInBounds_toArray, List.set_cons_zero, List.set_cons_succ]
  refine wpAnyH_take (i := 3) (by simp only [List.getElem?_toArray, List.getElem?_cons_succ, List.getElem?_cons_zero]; rfl) (by kernel_rfl) (by kernel_rfl) (by kernel_rfl) (by exact fun _ _ _ h => h) (yields_ld (ad := ⟨g4, 0, none⟩) (by rfl) _ rfl rfl (fun w' h => load24_run (HC.out.on h) HT.out)) (by assumption) ?_
  try simp only [Act.put, List.setIfInBounds_toArray, List.set_cons_zero, List.set_cons_succ]
  refine wpAnyH_take (i := 4) (v := ?_) (by simp only [List.getElem?_toArray, List.getElem?_cons_succ, List.getElem?_cons_zero]; rfl) (by kernel_rfl) (by kernel_rfl) (by kernel_rfl) (by exact fun _ _ _ h => h) (Or.inl ⟨by rfl, ?_⟩) (by assumption) ?_
  rotate_left
  · intro wq hSw
    (try dsimp only at hSw)
    go_simp
    all_goals (with_reducible rfl)
  try simp only [Act.put, List.setIfInBounds_toArray, List.set_cons_zero, List.set_cons_succ]
  refine wpAnyH_take (i := 5) (v := ?_) (by simp only [List.getElem?_toArray, List.getElem?_cons_succ, List.getElem?_cons_zero]; rfl) (by kernel_rfl) (by kernel_rfl) (by kernel_rfl) (by exact fun _ _ _ h => h) (Or.inl ⟨by rfl, ?_⟩) (by assumption) ?_
  rotate_left
  · intro wq hSw
    (try dsimp only at hSw)
    go_simp
    all_goals (with_reducible rfl)
  try simp only [Act.put, List.setIfInBounds_toArray, List.set_cons_zero, List.set_cons_succ]
  refine wpAnyH_ready (rs := [1]) (by kernel_rfl) (by simp) ?_
  refine AllReadyH.cons (by simp only [List.getElem?_toArray, List.getElem?_cons_succ, List.getElem?_cons_zero]; rfl) (fun K hK => ?_) AllReadyH.nil
  go_simp
  refine (KG2.out _ (HA.out.on hHeld)).mono ?_
  rintro E y1 ⟨rfl, haw⟩
  have hS := hHeld.on haw
  clear haw
  go_wp2_with fail
  refine hK.out _ _ hS (fun hHeld => ?_)
  clear hK K
  try simp only [Act.put, List.setIfInBounds_toArray, List.set_cons_zero, List.set_cons_succ]
  refine wpAnyH_ready (rs := [6]) (by kernel_rfl) (by simp) ?_
  refine AllReadyH.cons (by simp only [List.getElem?_toArray, List.getElem?_cons_succ, List.getElem?_cons_zero]; rfl) (fun K hK => ?_) AllReadyH.nil
  go_simp
  refine (KC.out _ (HA.out.on hHeld)).mono ?_
  rintro E y2 ⟨rfl, haw⟩
  have hS := hHeld.on haw
  clear haw
  go_wp2_with fail
  refine hK.out _ _ hS (fun hHeld => ?_)
  clear hK K
  try simp only [Act.put, List.setIfInBounds_toArray, List.set_cons_zero, List.set_cons_succ]
  refine wpAnyH_take (i := 7) (v := ?_) (by simp only [List.getElem?_toArray, List.getElem?_cons_succ, List.getElem?_cons_zero]; rfl) (by kernel_rfl) (by kernel_rfl) (by kernel_rfl) (by exact fun _ _ _ h => h) (Or.inl ⟨by rfl, ?_⟩) (by assumption) ?_
  rotate_left
  · intro wq hSw
    (try dsimp only at hSw)
    go_simp
    all_goals (with_reducible rfl)
  try simp only [Act.put, List.setIfInBounds_toArray, List.set_cons_zero, List.set_cons_succ]
  refine wpAnyH_done (by kernel_rfl) ?_ _
  have haw := hHeld
  clear hHeld hS KC KG2
  generalize y2 = w7 at *
  replace HA := Lib.hid (HA.out.on haw); replace HB := Lib.hid (HB.out.on haw); replace HC := Lib.hid (HC.out.on haw); replace HD := Lib.hid (HD.out.on haw)
  have hs7 := haw.size
  clear haw
  by_cases hk : wd b 2 = ck
  · rw [if_pos hk, HMG.out] at HY
    have hk' : (wd b 2 != ck) = false := by simpa using hk
    have HK := Lib.hid hk
    clear hk
    go_upto_region 10 with fail
    have r4 : IntKind.u32.wrap (wd b 4) = wd b 4 := by rw [IntKind.wrap_u32]; omega
    have r5 : IntKind.u32.wrap (wd b 4 * 65536) = wd b 4 * 65536 := by rw [IntKind.wrap_u32]; omega
    have r6 : IntKind.u32.wrap (wd b 6) = wd b 6 := by rw [IntKind.wrap_u32]; omega
    have r7 : IntKind.u32.wrap (wd b 4 * 65536 + wd b 6) = wd b 4 * 65536 + wd b 6 := by rw [IntKind.wrap_u32]; omega
    have r8 : IntKind.i64.wrap x0 = x0 := IntWalk.i64_in _ ⟨by omega, by omega⟩
    have r9 : IntKind.i64.wrap x1 = x1 := IntWalk.i64_in _ ⟨by omega, by omega⟩
    have hl6b := HD.out.lt
    refine wp_region_held_drew (S := (fun w' => Away [g6] w7 w')) (by kernel_rfl) ((Away.refl [g6] w7).drew) (fun hHeld => ?_)
    have hbx : BoxM w7.drew g6 zeroMg (.slice none 0 0) := HD.out
    generalize w7.drew = yq at *
    refine wpAnyH_take (i := 0) (v := ?_) (by simp only [List.getElem?_toArray, List.getElem?_cons_zero]; rfl) (by kernel_rfl) (by kernel_rfl) (by kernel_rfl) (by exact fun _ _ _ h => h) (Or.inl ⟨by rfl, ?_⟩) (by assumption) ?_
    rotate_left
    · intro wq hSw
      (try dsimp only at hSw)
      go_simp
      all_goals (with_reducible rfl)
    try simp only [Act.put, List.setIfInBounds_toArray, List.set_cons_zero, List.set_cons_succ]
    refine wpAnyH_take (i := 1) (v := ?_) (by simp only [List.getElem?_toArray, List.getElem?_cons_succ, List.getElem?_cons_zero]; rfl) (by kernel_rfl) (by kernel_rfl) (by kernel_rfl) (by exact fun _ _ _ h => h) (Or.inl ⟨by rfl, ?_⟩) (by assumption) ?_
    rotate_left
    · intro wq hSw
      (try dsimp only at hSw)
      go_simp
      all_goals (with_reducible rfl)
    try simp only [Act.put, List.setIfInBounds_toArray, List.set_cons_zero, List.set_cons_succ]
    refine wpAnyH_take (i := 2) (by simp only [List.getElem?_toArray, List.getElem?_cons_succ, List.getElem?_cons_zero]; rfl) (by kernel_rfl) (by kernel_rfl) (by kernel_rfl) (by exact fun _ _ _ h => h) (yields_ix (by rfl) _ _ rfl (0) rfl (by rfl) (by omega)) (by assumption) ?_
    try simp only [Act.put, List.setIfInBounds_toArray, List.set_cons_zero, List.set_cons_succ]
    refine wpAnyH_take (i := 3) (by simp only [List.getElem?_toArray, List.getElem?_cons_succ, List.getElem?_cons_zero]; rfl) (by kernel_rfl) (by kernel_rfl) (by kernel_rfl) (by exact fun _ _ _ h => h) (yields_ld (ad := ⟨bk, off + 0, none⟩) (by rfl) _ rfl rfl (fun w' h => ld5 (HC0.out _ (HA.out.next h (fun x hx => .inr (by simp at hx; omega)))))) (by assumption) ?_
    try simp only [Act.put, List.setIfInBounds_toArray, List.set_cons_zero, List.set_cons_succ]
    refine wpAnyH_take (i := 4) (v := ?_) (by simp only [List.getElem?_toArray, List.getElem?_cons_succ, List.getElem?_cons_zero]; rfl) (by kernel_rfl) (by kernel_rfl) (by kernel_rfl) (by exact fun _ _ _ h => h) (Or.inl ⟨by rfl, ?_⟩) (by assumption) ?_
    rotate_left
    · intro wq hSw
      (try dsimp only at hSw)
      go_simp
      all_goals (with_reducible rfl)
    try simp only [Act.put, List.setIfInBounds_toArray, List.set_cons_zero, List.set_cons_succ]
    refine wpAnyH_take (i := 5) (v := ?_) (by simp only [List.getElem?_toArray, List.getElem?_cons_succ, List.getElem?_cons_zero]; rfl) (by kernel_rfl) (by kernel_rfl) (by kernel_rfl) (by exact fun _ _ _ h => h) (Or.inl ⟨by rfl, ?_⟩) (by assumption) ?_
    rotate_left
    · intro wq hSw
      (try dsimp only at hSw)
      go_simp
      all_goals (with_reducible rfl)
    try simp only [Act.put, List.setIfInBounds_toArray, List.set_cons_zero, List.set_cons_succ]
    refine wpAnyH_take (i := 6) (by simp only [List.getElem?_toArray, List.getElem?_cons_succ, List.getElem?_cons_zero]; rfl) (by kernel_rfl) (by kernel_rfl) (by kernel_rfl) (by exact fun _ _ _ h => h) (yields_ix (by rfl) _ _ rfl (1) rfl (by rfl) (by omega)) (by assumption) ?_
    try simp only [Act.put, List.setIfInBounds_toArray, List.set_cons_zero, List.set_cons_succ]
    refine wpAnyH_take (i := 7) (by simp only [List.getElem?_toArray, List.getElem?_cons_succ, List.getElem?_cons_zero]; rfl) (by kernel_rfl) (by kernel_rfl) (by kernel_rfl) (by exact fun _ _ _ h => h) (yields_ld (ad := ⟨bk, off + 1, none⟩) (by rfl) _ rfl rfl (fun w' h => ld5 (HC1.out _ (HA.out.next h (fun x hx => .inr (by simp at hx; omega)))))) (by assumption) ?_
    try simp only [Act.put, List.setIfInBounds_toArray, List.set_cons_zero, List.set_cons_succ]
    refine wpAnyH_take (i := 8) (v := ?_) (by simp only [List.getElem?_toArray, List.getElem?_cons_succ, List.getElem?_cons_zero]; rfl) (by kernel_rfl) (by kernel_rfl) (by kernel_rfl) (by exact fun _ _ _ h => h) (Or.inl ⟨by rfl, ?_⟩) (by assumption) ?_
    rotate_left
    · intro wq hSw
      (try dsimp only at hSw)
      go_simp
      all_goals (with_reducible rfl)
    try simp only [Act.put, List.setIfInBounds_toArray, List.set_cons_zero, List.set_cons_succ]
    refine wpAnyH_take (i := 9) (v := ?_) (by simp only [List.getElem?_toArray, List.getElem?_cons_succ, List.getElem?_cons_zero]; rfl) (by kernel_rfl) (by kernel_rfl) (by kernel_rfl) (by exact fun _ _ _ h => h) (Or.inl ⟨by rfl, ?_⟩) (by assumption) ?_
    rotate_left
    · intro wq hSw
      (try dsimp only at hSw)
      go_simp
      all_goals (with_reducible rfl)
    try simp only [Act.put, List.setIfInBounds_toArray, List.set_cons_zero, List.set_cons_succ]
    refine wpAnyH_take (i := 13) (v := ?_) (by simp only [List.getElem?_toArray, List.getElem?_cons_succ, List.getElem?_cons_zero]; rfl) (by kernel_rfl) (by kernel_rfl) (by kernel_rfl) (by exact fun _ _ _ h => h) (Or.inl ⟨by rfl, ?_⟩) (by assumption) ?_
    rotate_left
    · intro wq hSw
      (try dsimp only at hSw)
      go_simp
      all_goals (with_reducible rfl)
    try simp only [Act.put, List.setIfInBounds_toArray, List.set_cons_zero, List.set_cons_succ]
    refine wpAnyH_take (i := 17) (v := ?_) (by simp only [List.getElem?_toArray, List.getElem?_cons_succ, List.getElem?_cons_zero]; rfl) (by kernel_rfl) (by kernel_rfl) (by kernel_rfl) (by exact fun _ _ _ h => h) (Or.inl ⟨by rfl, ?_⟩) (by assumption) ?_
    rotate_left
    · intro wq hSw
      (try dsimp only at hSw)
      go_simp
      all_goals (with_reducible rfl)
    try simp only [Act.put, List.setIfInBounds_toArray, List.set_cons_zero, List.set_cons_succ]
    refine wpAnyH_take (i := 18) (by simp only [List.getElem?_toArray, List.getElem?_cons_succ, List.getElem?_cons_zero]; rfl) (by kernel_rfl) (by kernel_rfl) (by kernel_rfl) (by exact fun _ _ _ h => h) (yields_sll (by rfl) _ _ rfl rfl rfl s8) (by assumption) ?_
    try simp only [Act.put, List.setIfInBounds_toArray, List.set_cons_zero, List.set_cons_succ]
    refine wpAnyH_ready (rs := [10]) (by kernel_rfl) (by simp) ?_
    refine AllReadyH.cons (by simp only [List.getElem?_toArray, List.getElem?_cons_succ, List.getElem?_cons_zero]; rfl) (fun K hK => ?_) AllReadyH.nil
    go_simp
    refine (KG4.out _ (HA.out.next hHeld (fun x hx => .inr (by simp at hx; omega)))).mono ?_
    rintro E y1 ⟨rfl, haw⟩
    have hS : Away [g6] w7 y1 := hHeld.trans (haw.mono (by simp))
    replace hbx := hbx.on haw
    clear haw
    go_wp2_with fail
    refine hK.out _ _ hS (fun hHeld => ?_)
    clear hK K
    try simp only [Act.put, List.setIfInBounds_toArray, List.set_cons_zero, List.set_cons_succ]
    refine wpAnyH_take (i := 11) (v := ?_) (by simp only [List.getElem?_toArray, List.getElem?_cons_succ, List.getElem?_cons_zero]; rfl) (by kernel_rfl) (by kernel_rfl) (by kernel_rfl) (by exact fun _ _ _ h => h) (Or.inl ⟨by rfl, ?_⟩) (by assumption) ?_
    rotate_left
    · intro wq hSw
      (try dsimp only at hSw)
      go_simp
      all_goals (with_reducible rfl)
    try simp only [Act.put, List.setIfInBounds_toArray, List.set_cons_zero, List.set_cons_succ]
    refine wpAnyH_take (i := 12) (v := ?_) (by simp only [List.getElem?_toArray, List.getElem?_cons_succ, List.getElem?_cons_zero]; rfl) (by kernel_rfl) (by kernel_rfl) (by kernel_rfl) (by exact fun _ _ _ h => h) (Or.inl ⟨by rfl, ?_⟩) (by assumption) ?_
    rotate_left
    · intro wq hSw
      (try dsimp only at hSw)
      go_simp
      all_goals (with_reducible rfl)
    try simp only [Act.put, List.setIfInBounds_toArray, List.set_cons_zero, List.set_cons_succ]
    refine wpAnyH_ready (rs := [14]) (by kernel_rfl) (by simp) ?_
    refine AllReadyH.cons (by simp only [List.getElem?_toArray, List.getElem?_cons_succ, List.getElem?_cons_zero]; rfl) (fun K hK => ?_) AllReadyH.nil
    go_simp
    refine (KG6.out _ (HA.out.next hHeld (fun x hx => .inr (by simp at hx; omega)))).mono ?_
    rintro E y2 ⟨rfl, haw⟩
    have hS : Away [g6] w7 y2 := hHeld.trans (haw.mono (by simp))
    replace hbx := hbx.on haw
    clear haw
    go_wp2_with fail
    refine hK.out _ _ hS (fun hHeld => ?_)
    clear hK K
    try simp only [Act.put, List.setIfInBounds_toArray, List.set_cons_zero, List.set_cons_succ]
    refine wpAnyH_take (i := 15) (v := ?_) (by simp only [List.getElem?_toArray, List.getElem?_cons_succ, List.getElem?_cons_zero]; rfl) (by kernel_rfl) (by kernel_rfl) (by kernel_rfl) (by exact fun _ _ _ h => h) (Or.inl ⟨by rfl, ?_⟩) (by assumption) ?_
    rotate_left
    · intro wq hSw
      (try dsimp only at hSw)
      go_simp
      all_goals (with_reducible rfl)
    try simp only [Act.put, List.setIfInBounds_toArray, List.set_cons_zero, List.set_cons_succ]
    refine wpAnyH_take (i := 16) (v := ?_) (by simp only [List.getElem?_toArray, List.getElem?_cons_succ, List.getElem?_cons_zero]; rfl) (by kernel_rfl) (by kernel_rfl) (by kernel_rfl) (by exact fun _ _ _ h => h) (Or.inl ⟨by rfl, ?_⟩) (by assumption) ?_
    rotate_left
    · intro wq hSw
      (try dsimp only at hSw)
      go_simp
      all_goals (with_reducible rfl)
    try simp only [Act.put, List.setIfInBounds_toArray, List.set_cons_zero, List.set_cons_succ]
    refine wpAnyH_ready (rs := [19]) (by kernel_rfl) (by simp) ?_
    refine AllReadyH.cons (by simp only [List.getElem?_toArray, List.getElem?_cons_succ, List.getElem?_cons_zero]; rfl) (fun K hK => ?_) AllReadyH.nil
    go_simp
    refine (rown_c A (b.drop 8) _ (cap - 8) _ HBD.out HAN.out (by exact HTL.out _ (HA.out.next hHeld (fun x hx => .inr (by simp at hx; omega))))).mono ?_
    rintro E y3 ⟨vo, rfl, hown, hnwo, haw⟩
    have hS : Away [g6] w7 y3 := hHeld.trans (haw.mono (by simp))
    have hzo := hHeld.size
    replace hbx := hbx.on haw
    clear haw
    obtain ⟨va, vn, vc, rfl⟩ := hown.shp
    go_wp2_with fail
    refine hK.out _ _ hS (fun hHeld => ?_)
    clear hK K
    try simp only [Act.put, List.setIfInBounds_toArray, List.set_cons_zero, List.set_cons_succ]
    refine wpAnyH_take (i := 20) (v := ?_) (by simp only [List.getElem?_toArray, List.getElem?_cons_succ, List.getElem?_cons_zero]; rfl) (by kernel_rfl) (by kernel_rfl) (by kernel_rfl) (by exact fun _ _ _ h => h) (Or.inl ⟨by rfl, ?_⟩) (by assumption) ?_
    rotate_left
    · intro wq hSw
      (try dsimp only at hSw)
      go_simp
      all_goals (with_reducible rfl)
    try simp only [Act.put, List.setIfInBounds_toArray, List.set_cons_zero, List.set_cons_succ]
    refine wpAnyH_ready (rs := [21]) (by kernel_rfl) (by simp) ?_
    refine AllReadyH.cons (by simp only [List.getElem?_toArray, List.getElem?_cons_succ, List.getElem?_cons_zero]; rfl) (fun K hK => ?_) AllReadyH.nil
    rw [if_pos (by rfl)]
    refine wp_storeM (.tmp 6) (.tmp 61) rfl g6 rfl ⟨s.v, x0, x1, wd b 4 * 65536 + wd b 6, b.drop 8⟩ (.slice va vn vc) rfl zeroMg (.slice none 0 0) (by exact hbx) rfl ?_
    intro y4 hb2 haw
    have hown2 := hown.away haw (fun k hk => by have := hnwo k hk; simp; omega)
    have hS : Away [g6] w7 y4 := hHeld.trans haw
    clear haw
    refine hK.out _ _ hS (fun hHeld => ?_)
    clear hK K
    try simp only [Act.put]
    refine wpAnyH_take (i := 22) (v := ?_) (by simp only [List.getElem?_toArray, List.getElem?_cons_succ, List.getElem?_cons_zero]; rfl) (by kernel_rfl) (by kernel_rfl) (by kernel_rfl) (by exact fun _ _ _ h => h) (Or.inl ⟨by rfl, ?_⟩) (by assumption) ?_
    rotate_left
    · intro wq hSw
      (try dsimp only at hSw)
      go_simp
      all_goals (with_reducible rfl)
    try simp only [Act.put, List.setIfInBounds_toArray, List.set_cons_zero, List.set_cons_succ]
    refine wpAnyH_done (by kernel_rfl) ?_ _
    have HZ := Lib.hid hb2
    have HO := Lib.hid hown2
    have HA9 : Hid (Away [] w y4) := HA.out.next hHeld (fun x hx => .inr (by simp at hx; omega))
    have HN := Lib.hid hnwo
    clear hb2 hown2 hHeld hS hnwo
    go_wp2_with fail
    refine bodyPost_ret (resultMt rfl _ _ _ _ _ _ rfl rfl HZ.out) rfl ?_
    rw [HY.out]
    exact ⟨_, rfl, HO.out, fun k hk => by have := HN.out k hk; omega, HA9.out⟩
  · rw [if_neg hk] at HY
    have hk' : (wd b 2 != ck) = true := by simpa using hk
    have HK := Lib.hid hk
    clear hk
    go_upto_region 9 with fail
    go_wp2_with (refine wpList_storeM rfl _ _ rfl g6 rfl zeroMg (.slice none 0 0) rfl zeroMg (.slice none 0 0) (by exact HD.out) rfl ?_; refine Hid.out ?_)
    refine Lib.hid ?_
    intro wz hb haw
    have HZ := Lib.hid hb
    replace HA : Hid (Away [] w wz) := HA.out.next haw (fun x hx => .inr (by simp at hx; omega))
    clear hb haw
    go_wp2_with fail
    refine bodyPost_ret (resultMt rfl _ _ _ _ _ _ rfl rfl HZ.out) rfl ?_
    rw [HY.out]
    exact ⟨_, rfl, Owns.nil _, New.nil _, HA.out⟩
theorem rparse_c (s t : Ax) (a : Option Addr) (b : List Int) (cap : Nat) (w : World) (hs : WfA s) (ht : WfA t) (hr : Row w a b) (hcap : b.length ≤ cap) (hn : a = none → cap = 0) :
    Calls Try.prog 18 #[.agg (csA s.v s.l), .agg (csA t.v t.l), .slice a b.length cap] w fun E w' => ParseOut w (mparseP s t b) E w' := by
  have hp := adrv_pair s t
  cases hz1 : adrvP s s.v
  · rw [show mparseP s t b = (zeroMg, 1) from by unfold mparseP; rw [if_neg (by rw [← hp, hz1]; simp)]]
    exact rparse_no1 s t a b cap w hs ht hr hcap hn hz1
  · cases hz2 : adrvP t s.v
    · rw [show mparseP s t b = (zeroMg, 1) from by unfold mparseP; rw [if_neg (by rw [← hp, hz2]; simp)]]
      exact rparse_no2 s t a b cap w hs ht hr hcap hn hz1 hz2
    · have hpt : pairP s t = true := by rw [← hp, hz1, hz2]; rfl
      by_cases h8 : b.length < 8
      · rw [show mparseP s t b = (zeroMg, 20) from by unfold mparseP; rw [if_pos hpt, if_pos h8]]
        exact rparse_no3 s t a b cap w hs ht hr hcap hn hz1 hz2 h8
      · by_cases hm : (b.length : Int) ≤ mostP s.v
        · exact rparse_long s t a b cap w hs ht hr hcap hn hz1 hz2 (by omega) hm
        · rw [show mparseP s t b = (zeroMg, 3) from by unfold mparseP; rw [if_pos hpt, if_neg h8, if_pos (by omega)]]
          exact rparse_no4 s t a b cap w hs ht hr hcap hn hz1 hz2 (by omega) (by omega)
#print axioms rparse_c
end Go.Proofs.Ytbgpjhekohabiaa
