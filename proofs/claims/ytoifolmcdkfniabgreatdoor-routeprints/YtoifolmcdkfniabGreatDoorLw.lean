/-
  The law's own functions: own, same, net4, bit, lies.
-/
import Derived.Test.YtoifolmcdkfniabGreatDoorTb
namespace Go.Proofs.YtoifolmcdkfniabGreatDoor
open Go.ChangeShapes Go.WideShapes Go.ChangeAt Go.RowKit
set_option linter.unusedVariables false
set_option linter.unusedSimpArgs false
set_option maxRecDepth 100000

theorem heldR : Tryz.prog.stoodInHeld 39 = false := by kernel_rfl
theorem guardR : Tryz.prog.eqGuardType Tryz.prog.depth 39 = false := by kernel_rfl
theorem fieldsR : (Tryz.prog.fieldsOf 39).toList.map (fun f => (f.name, f.type, f.offset)) = [("Net", 37, 0), ("Bits", 3, 17), ("Link", 3, 18)] := by kernel_rfl
theorem part_net (x : Rt) (hx : Okr x) (w : World) : (part 37 (csD x) 0).run Tryz.prog w = .ok (.agg (csA x.v x.l)) w := by
  have e : (csD x).extract 0 17 = csA x.v x.l := by
    apply Array.ext'
    have := listD_a hx
    simpa [csD, csA] using this
  have h22 : (isAgg 37).run Tryz.prog w = .ok true w := by kernel_rfl
  have hs : (sizeOf 37).run Tryz.prog w = .ok 17 w := by kernel_rfl
  simp [part, h22, hs, e, csD_size hx]
theorem eqR_self (x : Rt) (hx : Okr x) (w : World) : (Op.equalIn 10000 39 (.agg (csD x)) (.agg (csD x))).run Tryz.prog w = .ok true w := by
  have hf : ∃ f1 f2 f3 : Field, (Tryz.prog.fieldsOf 39).toList = [f1, f2, f3] ∧ f1.name ≠ "_" ∧ f2.name ≠ "_" ∧ f3.name ≠ "_" ∧ f1.type = 37 ∧ f2.type = 3 ∧ f3.type = 3 ∧ f1.offset = 0 ∧ f2.offset = 17 ∧ f3.offset = 18 := by
    have h := fieldsR
    generalize (Tryz.prog.fieldsOf 39).toList = fs at h
    rcases fs with _ | ⟨f1, _ | ⟨f2, _ | ⟨f3, _ | ⟨f4, fs⟩⟩⟩⟩
    · simp at h
    · simp at h
    · simp at h
    · simp at h
      obtain ⟨⟨h1, h2, h3⟩, ⟨h4, h5, h6⟩, h7, h8, h9⟩ := h
      exact ⟨f1, f2, f3, rfl, by rw [h1]; decide, by rw [h4]; decide, by rw [h7]; decide, h2, h5, h8, h3, h6, h9⟩
    · simp at h
  obtain ⟨f1, f2, f3, hfs, hn1, hn2, hn3, ht1, ht2, ht3, ho1, ho2, ho3⟩ := hf
  have p1 := part_net x hx w
  have p2 := part_int 3 .i64 Tryz.underlying3 (csD x) 17 x.b (by simpa [csD] using listD_b hx) w
  have p3 := part_int 3 .i64 Tryz.underlying3 (csD x) 18 x.k (by simpa [csD] using listD_k hx) w
  have e1 := eq24' 9996 x.v x.v x.l x.l hx.1 hx.1 w
  have e2 := run_equalIn_int w 9998 3 .i64 .i64 x.b x.b Tryz.underlying3
  have e3 := run_equalIn_int w 9998 3 .i64 .i64 x.k x.k Tryz.underlying3
  rw [show (10000 : Nat) = 9999 + 1 from rfl, run_equalIn_struct w 9999 39 _ _ (by kernel_rfl) heldR, hfs]
  rw [Op.eqFields, if_pos hn1, ht1, ho1, Sem.run_bind, p1, Result.andThen_ok, Sem.run_bind, p1, Result.andThen_ok, Sem.run_bind, e1, Result.andThen_ok]
  rw [if_neg (by simp [eqL]), Op.eqFields, if_pos hn2, ht2, ho2, Sem.run_bind, p2, Result.andThen_ok, Sem.run_bind, p2, Result.andThen_ok, Sem.run_bind, e2, Result.andThen_ok]
  rw [if_neg (by simp), Op.eqFields, if_pos hn3, ht3, ho3, Sem.run_bind, p3, Result.andThen_ok, Sem.run_bind, p3, Result.andThen_ok, Sem.run_bind, e3, Result.andThen_ok]
  rw [if_neg (by simp)]; simp [Op.eqFields]
theorem wpList_appnil {ops : Array Oper} {rest : List Oper} {o : Oper} {a : Act} {w : World} {Q : Exit → Act → World → Prop} (hgd : o.guard = none) (s t : Operand)
    (ho : o.op = .call { callee := .builtin .append, args := #[s, t], argTypes := #[22, 22] }) (v : Value) (L : List Rt) (hs : a.eval s = .slice none 0 0) (ht : a.eval t = v) (h : Rd w v L) (hl : L.length ≤ 3518437208790)
    (k : ∀ v' w', LstD w' v' L → New w.heap.size v' → Away [] w w' → wpList Tryz.prog ops Q rest (a.put o.dst v') w') : wpList Tryz.prog ops Q (o :: rest) a w := by
  obtain ⟨v', w', hrun, r1, r2, r3⟩ := run_appnil w o.type L v h hl
  refine wpList_plain hgd fun _ hK => ?_
  unfold Oper.wp
  simp [execOp, ho, resolve, invoke, builtin, hs, ht, hrun, Result.andThen]
  exact hK _ _ (k v' w' r1 r2 r3)
set_option maxHeartbeats 4000000 in
theorem own_c {w : World} {v : Value} {L : List Rt} (h : Rd w v L) (hl : L.length ≤ 3518437208790) : Calls Tryz.prog 5 #[v] w (OwnOut w L) := by
  have H := Lib.hid h
  have HLL := Lib.hid hl
  clear h hl
  go_enter Tryz.func5, Tryz.ntmps5
  go_wp2_with (refine wpList_appnil rfl _ _ rfl v L rfl rfl H.out HLL.out ?_; refine Hid.out ?_)
  refine Lib.hid ?_
  intro v' w2 hl hn haw
  have HO : Hid (OwnOut w L (.returned v') w2) := ⟨v', rfl, hl, hn, haw⟩
  clear hl hn haw
  go_wp2_with fail
  go_ret
  exact HO.out
set_option maxHeartbeats 4000000 in
theorem same_yes {w : World} {v v' : Value} {L : List Rt} (h : Rd w v L) (h' : Rd w v' L) (hl : L.length ≤ 3518437208790) : Calls Tryz.prog 21 #[v, v'] w fun E w' => E = .returned (.bool true) ∧ Away [] w w' := by
  obtain ⟨a, cap, rfl, hcap, hsh⟩ := h.shp
  obtain ⟨a', cap', rfl, hcap', hsh'⟩ := h'.shp
  have HOK := Lib.hid h.ok
  have HSH := Lib.hid hsh
  have HSH' := Lib.hid hsh'
  obtain ⟨n, hn⟩ : ∃ n, n = L.length := ⟨_, rfl⟩
  rw [← hn] at hcap hcap' hl ⊢
  have HN := Lib.hid hn
  clear h h' hsh hsh' hn
  go_enter Tryz.func21, Tryz.ntmps21
  go_wp2_with fail
  go_loopw [5] (fun i wr => ∃ k : Nat, i = .int .i64 (k : Int) ∧ k ≤ n ∧ Away [] w wr) (fun i _ => n - (intOf i).toNat)
  case atStart => exact ⟨0, rfl, Nat.zero_le _, Away.refl _ _⟩
  case round =>
    obtain ⟨k, rfl, hk, haw⟩ := hrel
    have HA := Lib.hid haw
    clear haw
    by_cases hkn : k < n
    · have j1 : decide (k < n) = true := by simp; omega
      have j0 : (k : Int) < (n : Int) := by omega
      obtain ⟨x, hx, hxm⟩ := get_of (show k < L.length by rw [← HN.out]; omega)
      have HXO := Lib.hid (HOK.out x hxm)
      rcases HSH.out with he | ⟨b, o, ha, hrg⟩
      · exfalso; rw [he] at hx; simp at hx
      rcases HSH'.out with he | ⟨b', o', ha', hrg'⟩
      · exfalso; rw [he] at hx; simp at hx
      subst ha; subst ha'
      have HC : Hid (∀ w', Away [] w w' → w'.rangeAt b (o + k * 19) (listD x) ∧ w'.rangeAt b' (o' + k * 19) (listD x)) := fun w' hw' => ⟨range_away hw' (by simp) (hrg k x hx), range_away hw' (by simp) (hrg' k x hx)⟩
      clear hrg hrg' hx hxm hkn
      have hqe := fun w => eqR_self x HXO.out w
      have hgd := guardR
      go_wp2_with fail
      refine wp_region_cls (C := fun w' => Away [] w w') (by kernel_rfl) (by kernel_rfl) (by exact HA.out.drew) ?_
      repeat (first
        | go_big_quiet_skip
        | (go_big_quiet_want
           first
             | (refine quiet_ixR _ _ rfl b o n cap k _ rfl rfl rfl (by omega) ?_; go_simp; go_big_quiet_on)
             | (refine quiet_ixR _ _ rfl b' o' n cap' k _ rfl rfl rfl (by omega) ?_; go_simp; go_big_quiet_on)
             | (refine quiet_ldR _ rfl b (o + k * 19) rfl x HXO.out (fun w' h => (HC.out w' h).1) ?_; go_simp; go_big_quiet_on)
             | (refine quiet_ldR _ rfl b' (o' + k * 19) rfl x HXO.out (fun w' h => (HC.out w' h).2) ?_; go_simp; go_big_quiet_on)
             | (go_big_quiet_op; go_big_quiet_on)
             | (refine quiet_val ?_ ?_ ?_
                rotate_left
                · intro w; go_simp; rfl
                go_simp; go_big_quiet_on)))
      refine wpQuiet_nil ?_
      intro V hV
      have HV := Lib.hid hV
      clear hV
      go_wp2_with fail
      go_roundw
      case rel => exact ⟨k + 1, by go_num, by omega, HV.out⟩
      case measure => simp [intOf]; omega
    · have j1 : decide (k < n) = false := by simp; omega
      clear hkn
      go_wp2_with fail
      go_ret
      exact ⟨rfl, HA.out⟩
/-- An IPv4 net. -/
def net4P (a b bits link : Int) : Rt := ⟨4, [a, b, 0, 0, 0, 0, 0, 0, 0, 0, 0, 0, 0, 0, 0, 0], bits, link⟩
theorem run_build29 (a b : Int) (w : World) : (Instr.build 35 #[(0, .int .u8 a), (1, .int .u8 b)]).run Tryz.prog w = .ok (arr .u8 [a, b, 0, 0, 0, 0, 0, 0, 0, 0, 0, 0, 0, 0, 0, 0]) w := by kernel_rfl
theorem run_build31 (v : Int) (l : List Int) (hl : l.length = 16) (w : World) : (Instr.build 37 #[(0, .int .i64 v), (1, arr .u8 l)]).run Tryz.prog w = .ok (.agg (csA v l)) w := by
  obtain ⟨b0, b1, b2, b3, b4, b5, b6, b7, b8, b9, b10, b11, b12, b13, b14, b15, rfl⟩ := list16 hl
  kernel_rfl
end Go.Proofs.YtoifolmcdkfniabGreatDoor
