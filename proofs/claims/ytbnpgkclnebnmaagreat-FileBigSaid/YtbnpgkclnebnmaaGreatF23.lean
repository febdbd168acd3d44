import Derived.Test.YtbnpgkclnebnmaaGreatF2
/- Files: does a way pass a block. -/
namespace Go.Proofs.YtbnpgkclnebnmaaGreat
set_option linter.unusedSimpArgs false
set_option linter.unusedVariables false
open Go.RowKit Go.Maps

theorem Tryz.arrWy : Tryz.prog.underlying 181 = some (.array 3 3) := by kernel_rfl
theorem Tryz.int3 : Tryz.prog.underlying 3 = some (.int .i64) := by kernel_rfl
theorem Tryz.cells3 : Tryz.prog.cellsOf 3 = 1 := by kernel_rfl
theorem Tryz.guardWy : Tryz.prog.eqGuardType Tryz.prog.depth 181 = false := by kernel_rfl
def eqW (a b c x y z : Int) : Bool := (a == x) && ((b == y) && (c == z))
theorem eqWy (a b c x y z : Int) (w : World) : (Op.equalIn 10000 181 (.agg (wyc a b c).toArray) (.agg (wyc x y z).toArray)).run Tryz.prog w = .ok (eqW a b c x y z) w := by
  obtain ⟨i, hi⟩ : ∃ i, Tryz.prog.info? 3 = some i := by
    have := Tryz.isizeInt
    cases h : Tryz.prog.info? 3 with
    | none => simp [h] at this
    | some i => exact ⟨i, rfl⟩
  rw [run_equalIn_array w 9999 (wyc a b c).toArray (wyc x y z).toArray Tryz.arrWy hi, Tryz.cells3]
  have hag : (isAgg 3).run Tryz.prog w = .ok false w := by
    unfold isAgg
    rw [Sem.run_bind, run_underlying Tryz.int3 w]
    rfl
  have p : ∀ (i : Nat) (v : Value) (a b c : Int), (wyc a b c)[i]? = some v → (part 3 (wyc a b c).toArray (i * 1)).run Tryz.prog w = .ok v w := fun i v a b c h => by
    simp [part, Sem.run_bind, hag, h]
  have q : ∀ (i : Nat) (is : List Nat) (u v : Int), (wyc a b c)[i]? = some (.int .i64 u) → (wyc x y z)[i]? = some (.int .i64 v) → (Op.eqItems 9999 3 1 (wyc a b c).toArray (wyc x y z).toArray (i :: is)).run Tryz.prog w = if (u == v) = true then (Op.eqItems 9999 3 1 (wyc a b c).toArray (wyc x y z).toArray is).run Tryz.prog w else .ok false w := fun i is u v h1 h2 => by
    simp only [Op.eqItems, Sem.run_bind, p i _ _ _ _ h1, p i _ _ _ _ h2, Result.andThen_ok, run_equalIn_int w 9998 3 .i64 .i64 _ _ Tryz.int3]
    cases hb : (u == v) <;> simp
  rw [show List.range 3 = [0, 1, 2] from rfl, q 0 _ a x rfl rfl, q 1 _ b y rfl rfl, q 2 _ c z rfl rfl]
  have h0 : (Op.eqItems 9999 3 1 (wyc a b c).toArray (wyc x y z).toArray []).run Tryz.prog w = .ok true w := by simp [Op.eqItems]
  rw [h0]
  unfold eqW
  cases h1 : (a == x) <;> cases h2 : (b == y) <;> cases h3 : (c == z) <;> rfl
set_option maxHeartbeats 8000000 in
set_option maxRecDepth 100000 in
theorem passes_gen (a b c x y z u1 u2 u3 n : Int)
    (hst : ∀ W, Calls Tryz.prog 118 #[.agg (wyc x y z).toArray] W fun e w' => e = .returned (.int .i64 n) ∧ Below W.heap.size W w')
    (hfi : ∀ W, Calls Tryz.prog 129 #[.agg (wyc a b c).toArray, .int .i64 n] W fun e w' => e = .returned (.agg (wyc u1 u2 u3).toArray) ∧ Below W.heap.size W w') (w : World) :
    Calls Tryz.prog 106 #[.agg (wyc a b c).toArray, .agg (wyc x y z).toArray] w fun e w' => e = .returned (.bool (eqW u1 u2 u3 x y z)) ∧ Below w.heap.size w w' := by
  obtain ⟨d, hu, hd⟩ := Tryz.descWy
  have HU := Lib.hid hu
  have HD := Lib.hid hd
  have HST := Lib.hid hst
  have HFI := Lib.hid hfi
  have HEQ := Lib.hid (fun W => eqWy u1 u2 u3 x y z W)
  obtain ⟨eb, heb⟩ : ∃ e, eqW u1 u2 u3 x y z = e := ⟨_, rfl⟩
  rw [heb] at HEQ ⊢
  clear hu hd hst hfi heb
  go_enter Tryz.func106, Tryz.ntmps106
  go_upto_region 1 with (first | (refine wpList_box_list (w := w) rfl 181 _ rfl (wyc a b c) rfl ?_; intro w1 F1 hb1 hz1; have HB1 := Lib.hid hb1; have hq1 : w.heap.size < w1.heap.size := (by omega); clear hb1 hz1) | (refine wpList_box_list (w := w1) rfl 181 _ rfl (wyc x y z) rfl ?_; intro w2 F2 hb2 hz2; have HB2 := Lib.hid hb2; have hq2 : w1.heap.size < w2.heap.size := (by omega); clear hb2 hz2))
  obtain ⟨b1, hb1⟩ : ∃ b, w.heap.size = b := ⟨_, rfl⟩
  obtain ⟨b2, hb2⟩ : ∃ b, w1.heap.size = b := ⟨_, rfl⟩
  have G1 := Lib.hid (F1.out.keep HB2.out)
  have HB := Lib.hid (HB1.out.trans (HB2.out.mono HB1.out.size))
  rw [hb1, hb2] at hq1
  rw [hb2] at hq2
  rw [hb1] at G1 HB
  rw [hb2] at F2
  have HW := Lib.hid hb1
  try rw [hb1]
  try rw [hb2]
  clear hb1 hb2 HB1 HB2 F1
  refine wp_region_held (S := fun W => Vl W b1 (wyc a b c) ∧ Vl W b2 (wyc x y z) ∧ Below b1 w W) (by kernel_rfl) ?_
  change wpAnyH _ _ _ _ _ _ _ _ (World.drew _)
  have hS0 : (fun W => Vl W b1 (wyc a b c) ∧ Vl W b2 (wyc x y z) ∧ Below b1 w W) w2.drew := ⟨G1.out.keep (Below.refl _ _).drew, F2.out.keep (Below.refl _ _).drew, HB.out.drew⟩
  obtain ⟨w3, hw3⟩ : ∃ x, World.drew w2 = x := ⟨_, rfl⟩
  rw [hw3] at hS0 ⊢
  clear hw3
  refine wpAnyH_take (i := 0) (v := .agg (wyc a b c).toArray) rfl (by kernel_rfl) (by kernel_rfl) (by kernel_rfl) (fun _ _ _ h => h) ?_ hS0 ?_
  · exact yieldsIf_load_mid (by rfl) 181 (.tmp 2) rfl b1 0 rfl (wyc a b c) d (fun W hW => hW.1.range0) HU.out HD.out (sizeWy _ _ _)
  simp only [Act.put, List.getElem_toArray, List.getElem_cons_zero, List.getElem_cons_succ, List.setIfInBounds_toArray, List.set_cons_zero, List.set_cons_succ]
  refine wpAnyH_take (i := 1) (v := .agg (wyc x y z).toArray) rfl (by kernel_rfl) (by kernel_rfl) (by kernel_rfl) (fun _ _ _ h => h) ?_ hS0 ?_
  · exact yieldsIf_load_mid (by rfl) 181 (.tmp 3) rfl b2 0 rfl (wyc x y z) d (fun W hW => hW.2.1.range0) HU.out HD.out (sizeWy _ _ _)
  simp only [Act.put, List.getElem_toArray, List.getElem_cons_zero, List.getElem_cons_succ, List.setIfInBounds_toArray, List.set_cons_zero, List.set_cons_succ]
  refine wpAnyH_take (i := 4) (v := .agg (wyc x y z).toArray) rfl (by kernel_rfl) (by kernel_rfl) (by kernel_rfl) (fun _ _ _ h => h) ?_ hS0 ?_
  · exact yieldsIf_load_mid (by rfl) 181 (.tmp 3) rfl b2 0 rfl (wyc x y z) d (fun W hW => hW.2.1.range0) HU.out HD.out (sizeWy _ _ _)
  simp only [Act.put, List.getElem_toArray, List.getElem_cons_zero, List.getElem_cons_succ, List.setIfInBounds_toArray, List.set_cons_zero, List.set_cons_succ]
  refine wpAnyH_ready (rs := [2]) (by kernel_rfl) (by simp) (AllReadyH.cons rfl (fun KK hKK => ?_) AllReadyH.nil)
  go_simp
  refine (HST.out w3).mono ?_
  rintro e w4 ⟨rfl, hb⟩
  replace hS0 : (fun W => Vl W b1 (wyc a b c) ∧ Vl W b2 (wyc x y z) ∧ Below b1 w W) w4 := ⟨hS0.1.keep hb, hS0.2.1.keep hb, hS0.2.2.trans (hb.mono (Nat.le_of_lt hS0.1.lt))⟩
  clear hb
  refine hKK _ _ hS0 ?_
  intro _
  clear hKK KK
  try simp only [Act.put, List.getElem_toArray, List.getElem_cons_zero, List.getElem_cons_succ, List.setIfInBounds_toArray, List.set_cons_zero, List.set_cons_succ]
  refine wpAnyH_ready (rs := [3]) (by kernel_rfl) (by simp) (AllReadyH.cons rfl (fun KK hKK => ?_) AllReadyH.nil)
  go_simp
  refine (HFI.out w4).mono ?_
  rintro e w5 ⟨rfl, hb⟩
  replace hS0 : (fun W => Vl W b1 (wyc a b c) ∧ Vl W b2 (wyc x y z) ∧ Below b1 w W) w5 := ⟨hS0.1.keep hb, hS0.2.1.keep hb, hS0.2.2.trans (hb.mono (Nat.le_of_lt hS0.1.lt))⟩
  clear hb
  refine hKK _ _ hS0 ?_
  intro _
  clear hKK KK
  try simp only [Act.put, List.getElem_toArray, List.getElem_cons_zero, List.getElem_cons_succ, List.setIfInBounds_toArray, List.set_cons_zero, List.set_cons_succ]
  refine wpAnyH_take (i := 5) (v := .bool eb) rfl (by kernel_rfl) (by kernel_rfl) (by kernel_rfl) (fun _ _ _ h => h) ?_ hS0 ?_
  · exact yields_eql (by rfl) 181 181 (.tmp 8) (.tmp 9) rfl (wyc u1 u2 u3).toArray (wyc x y z).toArray rfl rfl eb Tryz.guardWy (fun W _ => HEQ.out W)
  simp only [Act.put, List.getElem_toArray, List.getElem_cons_zero, List.getElem_cons_succ, List.setIfInBounds_toArray, List.set_cons_zero, List.set_cons_succ]
  refine wpAnyH_take (i := 6) (v := ?_) rfl (by kernel_rfl) (by kernel_rfl) (by kernel_rfl) (fun _ _ _ h => h) (Or.inl ⟨by rfl, ?_⟩) hS0 ?_
  rotate_left 1
  · intro W hW
    go_simp
    try with_reducible rfl
  simp only [Act.put, List.getElem_toArray, List.getElem_cons_zero, List.getElem_cons_succ, List.setIfInBounds_toArray, List.set_cons_zero, List.set_cons_succ]
  refine wpAnyH_done (by kernel_rfl) ?_ _
  have HBz := Lib.hid hS0.2.2
  clear hS0
  go_wp2_with fail
  go_ret
  exact ⟨rfl, by rw [HW.out]; exact HBz.out⟩
theorem passes0 (a b c : Int) (w : World) : Calls Tryz.prog 106 #[.agg (wyc a b c).toArray, .agg (wyc 0 0 0).toArray] w fun e w' => e = .returned (.bool true) ∧ Below w.heap.size w w' :=
  passes_gen a b c 0 0 0 0 0 0 0 (fun W => steps0 W) (fun W => first0 a b c W) w
theorem passes1 (a b c x : Int) (hx : 0 < x) (w : World) : Calls Tryz.prog 106 #[.agg (wyc a b c).toArray, .agg (wyc x 0 0).toArray] w fun e w' => e = .returned (.bool (decide (a = x))) ∧ Below w.heap.size w w' := by
  have := passes_gen a b c x 0 0 a 0 0 1 (fun W => steps1 x hx W) (fun W => first1 a b c W) w
  rwa [show eqW a 0 0 x 0 0 = decide (a = x) from by unfold eqW; simp; rfl] at this
theorem passes2 (a b c x y : Int) (hx : 0 < x) (hy : 0 < y) (w : World) : Calls Tryz.prog 106 #[.agg (wyc a b c).toArray, .agg (wyc x y 0).toArray] w fun e w' => e = .returned (.bool (decide (a = x ∧ b = y))) ∧ Below w.heap.size w w' := by
  have := passes_gen a b c x y 0 a b 0 2 (fun W => steps2 x y hx hy W) (fun W => first2 a b c W) w
  rwa [show eqW a b 0 x y 0 = decide (a = x ∧ b = y) from by unfold eqW; rw [Bool.eq_iff_iff]; simp] at this
theorem passes3 (a b c x y z : Int) (hx : 0 < x) (hy : 0 < y) (hz : 0 < z) (w : World) : Calls Tryz.prog 106 #[.agg (wyc a b c).toArray, .agg (wyc x y z).toArray] w fun e w' => e = .returned (.bool (decide (a = x ∧ b = y ∧ c = z))) ∧ Below w.heap.size w w' := by
  have := passes_gen a b c x y z a b c 3 (fun W => steps3 x y z hx hy hz W) (fun W => first3 a b c W) w
  rwa [show eqW a b c x y z = decide (a = x ∧ b = y ∧ c = z) from by unfold eqW; rw [Bool.eq_iff_iff]; simp] at this
end Go.Proofs.YtbnpgkclnebnmaaGreat
