import Derived.Test.YtbnpgkclnebnmaaGreatF1
/- Files: ways: first, up, passes. -/
namespace Go.Proofs.YtbnpgkclnebnmaaGreat
set_option linter.unusedSimpArgs false
set_option linter.unusedVariables false
open Go.RowKit Go.Maps

theorem Tryz.slInt : Tryz.prog.underlying 153 = some (.slice 3) := Tryz.underlying153
theorem Tryz.isizeInt : (Tryz.prog.info? 3).map (·.size) = some 1 := by kernel_rfl
set_option maxHeartbeats 8000000 in
set_option maxRecDepth 100000 in
theorem first0 (a b c : Int) (w : World) : Calls Tryz.prog 129 #[.agg (wyc a b c).toArray, .int .i64 0] w fun e w' => e = .returned (.agg (wyc 0 0 0).toArray) ∧ Below w.heap.size w w' := by
  obtain ⟨d, hu, hd⟩ := Tryz.descWy
  have HU := Lib.hid hu
  have HD := Lib.hid hd
  clear hu hd
  go_enter Tryz.func129, Tryz.ntmps129
  go_upto_region 2 with (first | (refine wpList_box_list (w := w) rfl 181 _ rfl (wyc a b c) rfl ?_; intro w1 F1 hb1 hz1; have HB1 := Lib.hid hb1; have hq1 : w.heap.size < w1.heap.size := (by omega); clear hb1 hz1) | (refine wpList_alloc_list (w := w1) rfl 181 rfl (wyc 0 0 0) Tryz.zeroWy ?_; intro w2 F2 hb2 hz2; have HB2 := Lib.hid hb2; have hq2 : w1.heap.size < w2.heap.size := (by omega); clear hb2 hz2) | (refine wpList_alloc_list (w := w2) rfl 181 rfl (wyc 0 0 0) Tryz.zeroWy ?_; intro w3 F3 hb3 hz3; have HB3 := Lib.hid hb3; have hq3 : w2.heap.size < w3.heap.size := (by omega); clear hb3 hz3))
  obtain ⟨b1, hb1⟩ : ∃ b, w.heap.size = b := ⟨_, rfl⟩
  obtain ⟨b2, hb2⟩ : ∃ b, w1.heap.size = b := ⟨_, rfl⟩
  obtain ⟨b3, hb3⟩ : ∃ b, w2.heap.size = b := ⟨_, rfl⟩
  have G1 := Lib.hid ((F1.out.keep HB2.out).keep HB3.out)
  have G2 := Lib.hid (F2.out.keep HB3.out)
  have HB := Lib.hid ((HB1.out.trans (HB2.out.mono HB1.out.size)).trans (HB3.out.mono (Nat.le_trans HB1.out.size HB2.out.size)))
  rw [hb1, hb2] at hq1
  rw [hb2, hb3] at hq2
  rw [hb3] at hq3
  rw [hb1] at G1 HB
  rw [hb2] at G2
  rw [hb3] at F3
  have HW := Lib.hid hb1
  try rw [hb1]
  try rw [hb2]
  try rw [hb3]
  clear hb1 hb2 hb3 HB1 HB2 HB3 F1 F2
  go_still_tail 3, (by kernel_rfl)
  have D1 := Lib.hid (G1.out.keep (Below.refl w3.heap.size w3).drew)
  have D2 := Lib.hid (G2.out.keep (Below.refl w3.heap.size w3).drew)
  have D3 := Lib.hid (F3.out.keep (Below.refl w3.heap.size w3).drew)
  have DB := Lib.hid (HB.out.drew)
  change wpList _ _ _ _ _ (World.drew w3)
  have hq4 : b3 < (World.drew w3).heap.size := hq3
  obtain ⟨w4, hw4⟩ : ∃ x, World.drew w3 = x := ⟨_, rfl⟩
  rw [hw4] at D1 D2 D3 DB hq4 ⊢
  clear hw4 G1 G2 F3 HB hq3
  refine wpList_copy_mid rfl (.tmp 7) (.tmp 8) 153 153 rfl 3 Tryz.slInt 1 Tryz.isizeInt b3 0 0 3 (some ⟨b1, 0, none⟩) 3 3 rfl rfl [] rfl (fun hh => ⟨_, rfl, fun j v hj => ?_⟩) ?_ (fun v hv => ?_) ?_
  · rw [Addr.add_mid, Nat.zero_add]
    exact D1.out.c j v (by
      match j, hj with

      | (n + 0), hj => cases hj)
  · exact fun j hj => D3.out.there0 3 rfl j (Nat.lt_of_lt_of_le hj (by show 0 ≤ 3; decide))
  · cases hv
  have E3 : Hid (Vl (w4.setCells b3 0 []) b3 (wyc 0 0 0)) := D3
  have hk : Kp w4 (w4.setCells b3 0 []) b3 b3 := (Kp.refl w4 b3 b3).setCells b3 0 (.inl rfl) _
  have E2 := Lib.hid (D2.out.kp hk (by omega) (by omega))
  have EB := Lib.hid (DB.out.trans (hk.below (by omega) (by omega) (by omega)))
  obtain ⟨w5, hw5⟩ : ∃ x, w4.setCells b3 0 [] = x := ⟨_, rfl⟩
  rw [hw5] at E2 E3 EB hk ⊢
  have hq5 := hk.size
  clear hw5 hk D1 D2 D3 DB
  have HR := Lib.hid E3.out.range0
  have PF := Lib.hid (E2.out.stored (wyc 0 0 0) rfl)
  go_wp2_with (first | (refine wpList_load_mid rfl 181 _ rfl b3 0 rfl (wyc 0 0 0) d HR.out HU.out HD.out (sizeWy _ _ _) ?_) | (refine wpList_store_mid rfl 181 _ _ rfl b2 0 (wyc 0 0 0).toArray rfl rfl (E2.out.there0 3 rfl) (sizeWy _ _ _) (all_oneCell_toArray (wyc_one _ _ _)) ?_))
  exact bodyPost_ret_by (results_mid rfl _ _ b2 _ d rfl PF.out.range0 HU.out HD.out (sizeWy _ _ _)) rfl ⟨rfl, by rw [HW.out]; exact below_setCells EB.out b2 0 (by omega) _⟩
set_option maxHeartbeats 8000000 in
set_option maxRecDepth 100000 in
theorem first1 (a b c : Int) (w : World) : Calls Tryz.prog 129 #[.agg (wyc a b c).toArray, .int .i64 1] w fun e w' => e = .returned (.agg (wyc a 0 0).toArray) ∧ Below w.heap.size w w' := by
  obtain ⟨d, hu, hd⟩ := Tryz.descWy
  have HU := Lib.hid hu
  have HD := Lib.hid hd
  clear hu hd
  go_enter Tryz.func129, Tryz.ntmps129
  go_upto_region 2 with (first | (refine wpList_box_list (w := w) rfl 181 _ rfl (wyc a b c) rfl ?_; intro w1 F1 hb1 hz1; have HB1 := Lib.hid hb1; have hq1 : w.heap.size < w1.heap.size := (by omega); clear hb1 hz1) | (refine wpList_alloc_list (w := w1) rfl 181 rfl (wyc 0 0 0) Tryz.zeroWy ?_; intro w2 F2 hb2 hz2; have HB2 := Lib.hid hb2; have hq2 : w1.heap.size < w2.heap.size := (by omega); clear hb2 hz2) | (refine wpList_alloc_list (w := w2) rfl 181 rfl (wyc 0 0 0) Tryz.zeroWy ?_; intro w3 F3 hb3 hz3; have HB3 := Lib.hid hb3; have hq3 : w2.heap.size < w3.heap.size := (by omega); clear hb3 hz3))
  obtain ⟨b1, hb1⟩ : ∃ b, w.heap.size = b := ⟨_, rfl⟩
  obtain ⟨b2, hb2⟩ : ∃ b, w1.heap.size = b := ⟨_, rfl⟩
  obtain ⟨b3, hb3⟩ : ∃ b, w2.heap.size = b := ⟨_, rfl⟩
  have G1 := Lib.hid ((F1.out.keep HB2.out).keep HB3.out)
  have G2 := Lib.hid (F2.out.keep HB3.out)
  have HB := Lib.hid ((HB1.out.trans (HB2.out.mono HB1.out.size)).trans (HB3.out.mono (Nat.le_trans HB1.out.size HB2.out.size)))
  rw [hb1, hb2] at hq1
  rw [hb2, hb3] at hq2
  rw [hb3] at hq3
  rw [hb1] at G1 HB
  rw [hb2] at G2
  rw [hb3] at F3
  have HW := Lib.hid hb1
  try rw [hb1]
  try rw [hb2]
  try rw [hb3]
  clear hb1 hb2 hb3 HB1 HB2 HB3 F1 F2
  go_still_tail 3, (by kernel_rfl)
  have D1 := Lib.hid (G1.out.keep (Below.refl w3.heap.size w3).drew)
  have D2 := Lib.hid (G2.out.keep (Below.refl w3.heap.size w3).drew)
  have D3 := Lib.hid (F3.out.keep (Below.refl w3.heap.size w3).drew)
  have DB := Lib.hid (HB.out.drew)
  change wpList _ _ _ _ _ (World.drew w3)
  have hq4 : b3 < (World.drew w3).heap.size := hq3
  obtain ⟨w4, hw4⟩ : ∃ x, World.drew w3 = x := ⟨_, rfl⟩
  rw [hw4] at D1 D2 D3 DB hq4 ⊢
  clear hw4 G1 G2 F3 HB hq3
  refine wpList_copy_mid rfl (.tmp 7) (.tmp 8) 153 153 rfl 3 Tryz.slInt 1 Tryz.isizeInt b3 0 1 3 (some ⟨b1, 0, none⟩) 3 3 rfl rfl [.int .i64 a] rfl (fun hh => ⟨_, rfl, fun j v hj => ?_⟩) ?_ (fun v hv => ?_) ?_
  · rw [Addr.add_mid, Nat.zero_add]
    exact D1.out.c j v (by
      match j, hj with
      | 0, hj => exact hj
      | (n + 1), hj => cases hj)
  · exact fun j hj => D3.out.there0 3 rfl j (Nat.lt_of_lt_of_le hj (by show 1 ≤ 3; decide))
  · simp only [List.mem_cons, List.not_mem_nil, or_false] at hv
    rcases hv with rfl <;> rfl
  have E3 : Hid (Vl (w4.setCells b3 0 [.int .i64 a]) b3 (wyc a 0 0)) := Lib.hid (D3.out.set 0 (by show 0 < 3; decide) (.int .i64 a))
  have hk : Kp w4 (w4.setCells b3 0 [.int .i64 a]) b3 b3 := (Kp.refl w4 b3 b3).setCells b3 0 (.inl rfl) _
  have E2 := Lib.hid (D2.out.kp hk (by omega) (by omega))
  have EB := Lib.hid (DB.out.trans (hk.below (by omega) (by omega) (by omega)))
  obtain ⟨w5, hw5⟩ : ∃ x, w4.setCells b3 0 [.int .i64 a] = x := ⟨_, rfl⟩
  rw [hw5] at E2 E3 EB hk ⊢
  have hq5 := hk.size
  clear hw5 hk D1 D2 D3 DB
  have HR := Lib.hid E3.out.range0
  have PF := Lib.hid (E2.out.stored (wyc a 0 0) rfl)
  go_wp2_with (first | (refine wpList_load_mid rfl 181 _ rfl b3 0 rfl (wyc a 0 0) d HR.out HU.out HD.out (sizeWy _ _ _) ?_) | (refine wpList_store_mid rfl 181 _ _ rfl b2 0 (wyc a 0 0).toArray rfl rfl (E2.out.there0 3 rfl) (sizeWy _ _ _) (all_oneCell_toArray (wyc_one _ _ _)) ?_))
  exact bodyPost_ret_by (results_mid rfl _ _ b2 _ d rfl PF.out.range0 HU.out HD.out (sizeWy _ _ _)) rfl ⟨rfl, by rw [HW.out]; exact below_setCells EB.out b2 0 (by omega) _⟩
set_option maxHeartbeats 8000000 in
set_option maxRecDepth 100000 in
theorem first2 (a b c : Int) (w : World) : Calls Tryz.prog 129 #[.agg (wyc a b c).toArray, .int .i64 2] w fun e w' => e = .returned (.agg (wyc a b 0).toArray) ∧ Below w.heap.size w w' := by
  obtain ⟨d, hu, hd⟩ := Tryz.descWy
  have HU := Lib.hid hu
  have HD := Lib.hid hd
  clear hu hd
  go_enter Tryz.func129, Tryz.ntmps129
  go_upto_region 2 with (first | (refine wpList_box_list (w := w) rfl 181 _ rfl (wyc a b c) rfl ?_; intro w1 F1 hb1 hz1; have HB1 := Lib.hid hb1; have hq1 : w.heap.size < w1.heap.size := (by omega); clear hb1 hz1) | (refine wpList_alloc_list (w := w1) rfl 181 rfl (wyc 0 0 0) Tryz.zeroWy ?_; intro w2 F2 hb2 hz2; have HB2 := Lib.hid hb2; have hq2 : w1.heap.size < w2.heap.size := (by omega); clear hb2 hz2) | (refine wpList_alloc_list (w := w2) rfl 181 rfl (wyc 0 0 0) Tryz.zeroWy ?_; intro w3 F3 hb3 hz3; have HB3 := Lib.hid hb3; have hq3 : w2.heap.size < w3.heap.size := (by omega); clear hb3 hz3))
  obtain ⟨b1, hb1⟩ : ∃ b, w.heap.size = b := ⟨_, rfl⟩
  obtain ⟨b2, hb2⟩ : ∃ b, w1.heap.size = b := ⟨_, rfl⟩
  obtain ⟨b3, hb3⟩ : ∃ b, w2.heap.size = b := ⟨_, rfl⟩
  have G1 := Lib.hid ((F1.out.keep HB2.out).keep HB3.out)
  have G2 := Lib.hid (F2.out.keep HB3.out)
  have HB := Lib.hid ((HB1.out.trans (HB2.out.mono HB1.out.size)).trans (HB3.out.mono (Nat.le_trans HB1.out.size HB2.out.size)))
  rw [hb1, hb2] at hq1
  rw [hb2, hb3] at hq2
  rw [hb3] at hq3
  rw [hb1] at G1 HB
  rw [hb2] at G2
  rw [hb3] at F3
  have HW := Lib.hid hb1
  try rw [hb1]
  try rw [hb2]
  try rw [hb3]
  clear hb1 hb2 hb3 HB1 HB2 HB3 F1 F2
  go_still_tail 3, (by kernel_rfl)
  have D1 := Lib.hid (G1.out.keep (Below.refl w3.heap.size w3).drew)
  have D2 := Lib.hid (G2.out.keep (Below.refl w3.heap.size w3).drew)
  have D3 := Lib.hid (F3.out.keep (Below.refl w3.heap.size w3).drew)
  have DB := Lib.hid (HB.out.drew)
  change wpList _ _ _ _ _ (World.drew w3)
  have hq4 : b3 < (World.drew w3).heap.size := hq3
  obtain ⟨w4, hw4⟩ : ∃ x, World.drew w3 = x := ⟨_, rfl⟩
  rw [hw4] at D1 D2 D3 DB hq4 ⊢
  clear hw4 G1 G2 F3 HB hq3
  refine wpList_copy_mid rfl (.tmp 7) (.tmp 8) 153 153 rfl 3 Tryz.slInt 1 Tryz.isizeInt b3 0 2 3 (some ⟨b1, 0, none⟩) 3 3 rfl rfl [.int .i64 a, .int .i64 b] rfl (fun hh => ⟨_, rfl, fun j v hj => ?_⟩) ?_ (fun v hv => ?_) ?_
  · rw [Addr.add_mid, Nat.zero_add]
    exact D1.out.c j v (by
      match j, hj with
      | 0, hj => exact hj
      | 1, hj => exact hj
      | (n + 2), hj => cases hj)
  · exact fun j hj => D3.out.there0 3 rfl j (Nat.lt_of_lt_of_le hj (by show 2 ≤ 3; decide))
  · simp only [List.mem_cons, List.not_mem_nil, or_false] at hv
    rcases hv with rfl | rfl <;> rfl
  have E3 : Hid (Vl (w4.setCells b3 0 [.int .i64 a, .int .i64 b]) b3 (wyc a b 0)) := Lib.hid ((D3.out.set 0 (by show 0 < 3; decide) (.int .i64 a)).set 1 (by show 1 < 3; decide) (.int .i64 b))
  have hk : Kp w4 (w4.setCells b3 0 [.int .i64 a, .int .i64 b]) b3 b3 := (Kp.refl w4 b3 b3).setCells b3 0 (.inl rfl) _
  have E2 := Lib.hid (D2.out.kp hk (by omega) (by omega))
  have EB := Lib.hid (DB.out.trans (hk.below (by omega) (by omega) (by omega)))
  obtain ⟨w5, hw5⟩ : ∃ x, w4.setCells b3 0 [.int .i64 a, .int .i64 b] = x := ⟨_, rfl⟩
  rw [hw5] at E2 E3 EB hk ⊢
  have hq5 := hk.size
  clear hw5 hk D1 D2 D3 DB
  have HR := Lib.hid E3.out.range0
  have PF := Lib.hid (E2.out.stored (wyc a b 0) rfl)
  go_wp2_with (first | (refine wpList_load_mid rfl 181 _ rfl b3 0 rfl (wyc a b 0) d HR.out HU.out HD.out (sizeWy _ _ _) ?_) | (refine wpList_store_mid rfl 181 _ _ rfl b2 0 (wyc a b 0).toArray rfl rfl (E2.out.there0 3 rfl) (sizeWy _ _ _) (all_oneCell_toArray (wyc_one _ _ _)) ?_))
  exact bodyPost_ret_by (results_mid rfl _ _ b2 _ d rfl PF.out.range0 HU.out HD.out (sizeWy _ _ _)) rfl ⟨rfl, by rw [HW.out]; exact below_setCells EB.out b2 0 (by omega) _⟩
set_option maxHeartbeats 8000000 in
set_option maxRecDepth 100000 in
theorem first3 (a b c : Int) (w : World) : Calls Tryz.prog 129 #[.agg (wyc a b c).toArray, .int .i64 3] w fun e w' => e = .returned (.agg (wyc a b c).toArray) ∧ Below w.heap.size w w' := by
  obtain ⟨d, hu, hd⟩ := Tryz.descWy
  have HU := Lib.hid hu
  have HD := Lib.hid hd
  clear hu hd
  go_enter Tryz.func129, Tryz.ntmps129
  go_upto_region 2 with (first | (refine wpList_box_list (w := w) rfl 181 _ rfl (wyc a b c) rfl ?_; intro w1 F1 hb1 hz1; have HB1 := Lib.hid hb1; have hq1 : w.heap.size < w1.heap.size := (by omega); clear hb1 hz1) | (refine wpList_alloc_list (w := w1) rfl 181 rfl (wyc 0 0 0) Tryz.zeroWy ?_; intro w2 F2 hb2 hz2; have HB2 := Lib.hid hb2; have hq2 : w1.heap.size < w2.heap.size := (by omega); clear hb2 hz2) | (refine wpList_alloc_list (w := w2) rfl 181 rfl (wyc 0 0 0) Tryz.zeroWy ?_; intro w3 F3 hb3 hz3; have HB3 := Lib.hid hb3; have hq3 : w2.heap.size < w3.heap.size := (by omega); clear hb3 hz3))
  obtain ⟨b1, hb1⟩ : ∃ b, w.heap.size = b := ⟨_, rfl⟩
  obtain ⟨b2, hb2⟩ : ∃ b, w1.heap.size = b := ⟨_, rfl⟩
  obtain ⟨b3, hb3⟩ : ∃ b, w2.heap.size = b := ⟨_, rfl⟩
  have G1 := Lib.hid ((F1.out.keep HB2.out).keep HB3.out)
  have G2 := Lib.hid (F2.out.keep HB3.out)
  have HB := Lib.hid ((HB1.out.trans (HB2.out.mono HB1.out.size)).trans (HB3.out.mono (Nat.le_trans HB1.out.size HB2.out.size)))
  rw [hb1, hb2] at hq1
  rw [hb2, hb3] at hq2
  rw [hb3] at hq3
  rw [hb1] at G1 HB
  rw [hb2] at G2
  rw [hb3] at F3
  have HW := Lib.hid hb1
  try rw [hb1]
  try rw [hb2]
  try rw [hb3]
  clear hb1 hb2 hb3 HB1 HB2 HB3 F1 F2
  go_still_tail 3, (by kernel_rfl)
  have D1 := Lib.hid (G1.out.keep (Below.refl w3.heap.size w3).drew)
  have D2 := Lib.hid (G2.out.keep (Below.refl w3.heap.size w3).drew)
  have D3 := Lib.hid (F3.out.keep (Below.refl w3.heap.size w3).drew)
  have DB := Lib.hid (HB.out.drew)
  change wpList _ _ _ _ _ (World.drew w3)
  have hq4 : b3 < (World.drew w3).heap.size := hq3
  obtain ⟨w4, hw4⟩ : ∃ x, World.drew w3 = x := ⟨_, rfl⟩
  rw [hw4] at D1 D2 D3 DB hq4 ⊢
  clear hw4 G1 G2 F3 HB hq3
  refine wpList_copy_mid rfl (.tmp 7) (.tmp 8) 153 153 rfl 3 Tryz.slInt 1 Tryz.isizeInt b3 0 3 3 (some ⟨b1, 0, none⟩) 3 3 rfl rfl [.int .i64 a, .int .i64 b, .int .i64 c] rfl (fun hh => ⟨_, rfl, fun j v hj => ?_⟩) ?_ (fun v hv => ?_) ?_
  · rw [Addr.add_mid, Nat.zero_add]
    exact D1.out.c j v (by
      match j, hj with
      | 0, hj => exact hj
      | 1, hj => exact hj
      | 2, hj => exact hj
      | (n + 3), hj => cases hj)
  · exact fun j hj => D3.out.there0 3 rfl j (Nat.lt_of_lt_of_le hj (by show 3 ≤ 3; decide))
  · simp only [List.mem_cons, List.not_mem_nil, or_false] at hv
    rcases hv with rfl | rfl | rfl <;> rfl
  have E3 : Hid (Vl (w4.setCells b3 0 [.int .i64 a, .int .i64 b, .int .i64 c]) b3 (wyc a b c)) := Lib.hid (((D3.out.set 0 (by show 0 < 3; decide) (.int .i64 a)).set 1 (by show 1 < 3; decide) (.int .i64 b)).set 2 (by show 2 < 3; decide) (.int .i64 c))
  have hk : Kp w4 (w4.setCells b3 0 [.int .i64 a, .int .i64 b, .int .i64 c]) b3 b3 := (Kp.refl w4 b3 b3).setCells b3 0 (.inl rfl) _
  have E2 := Lib.hid (D2.out.kp hk (by omega) (by omega))
  have EB := Lib.hid (DB.out.trans (hk.below (by omega) (by omega) (by omega)))
  obtain ⟨w5, hw5⟩ : ∃ x, w4.setCells b3 0 [.int .i64 a, .int .i64 b, .int .i64 c] = x := ⟨_, rfl⟩
  rw [hw5] at E2 E3 EB hk ⊢
  have hq5 := hk.size
  clear hw5 hk D1 D2 D3 DB
  have HR := Lib.hid E3.out.range0
  have PF := Lib.hid (E2.out.stored (wyc a b c) rfl)
  go_wp2_with (first | (refine wpList_load_mid rfl 181 _ rfl b3 0 rfl (wyc a b c) d HR.out HU.out HD.out (sizeWy _ _ _) ?_) | (refine wpList_store_mid rfl 181 _ _ rfl b2 0 (wyc a b c).toArray rfl rfl (E2.out.there0 3 rfl) (sizeWy _ _ _) (all_oneCell_toArray (wyc_one _ _ _)) ?_))
  exact bodyPost_ret_by (results_mid rfl _ _ b2 _ d rfl PF.out.range0 HU.out HD.out (sizeWy _ _ _)) rfl ⟨rfl, by rw [HW.out]; exact below_setCells EB.out b2 0 (by omega) _⟩
set_option maxHeartbeats 8000000 in
set_option maxRecDepth 100000 in
theorem up1 (a : Int) (ha : 0 < a) (w : World) : Calls Tryz.prog 107 #[.agg (wyc a 0 0).toArray] w fun e w' => e = .returned (.agg (wyc 0 0 0).toArray) ∧ Below w.heap.size w w' := by
  obtain ⟨d, hu, hd⟩ := Tryz.descWy
  have HU := Lib.hid hu
  have HD := Lib.hid hd
  have HST := Lib.hid (fun W => steps1 a ha W)
  have HFI := Lib.hid (fun W => first0 a 0 0 W)
  clear hu hd ha
  go_enter Tryz.func107, Tryz.ntmps107
  go_upto_region 1 with (first | (refine wpList_box_list (w := w) rfl 181 _ rfl (wyc a 0 0) rfl ?_; intro w1 F1 hb1 hz1; have HB1 := Lib.hid hb1; have hq1 : w.heap.size < w1.heap.size := (by omega); clear hb1 hz1) | (refine wpList_alloc_list (w := w1) rfl 181 rfl (wyc 0 0 0) Tryz.zeroWy ?_; intro w2 F2 hb2 hz2; have HB2 := Lib.hid hb2; have hq2 : w1.heap.size < w2.heap.size := (by omega); clear hb2 hz2))
  obtain ⟨b1, hb1⟩ : ∃ b, w.heap.size = b := ⟨_, rfl⟩
  obtain ⟨b2, hb2⟩ : ∃ b, w1.heap.size = b := ⟨_, rfl⟩
  have G1 := Lib.hid (F1.out.keep HB2.out)
  have HB := Lib.hid (HB1.out.trans (HB2.out.mono HB1.out.size))
  rw [hb1, hb2] at hq1
  rw [hb2] at hq2
  rw [hb1] at G1 HB
  rw [hb2] at F2
  have HW := Lib.hid hb1
  try rw [hb1]
  try rw [hb2]
  clear hb1 hb2 HB1 HB2 F1
  refine wp_region_held (S := fun W => Vl W b1 (wyc a 0 0) ∧ (∃ cs, cs.length = 3 ∧ Vl W b2 cs) ∧ Below b1 w W) (by kernel_rfl) ?_
  change wpAnyH _ _ _ _ _ _ _ _ (World.drew _)
  have hS0 : (fun W => Vl W b1 (wyc a 0 0) ∧ (∃ cs, cs.length = 3 ∧ Vl W b2 cs) ∧ Below b1 w W) w2.drew := ⟨G1.out.keep (Below.refl _ _).drew, ⟨_, rfl, F2.out.keep (Below.refl _ _).drew⟩, HB.out.drew⟩
  obtain ⟨w3, hw3⟩ : ∃ x, World.drew w2 = x := ⟨_, rfl⟩
  rw [hw3] at hS0  ⊢
  clear hw3
  refine wpAnyH_take (i := 0) (v := .agg (wyc a 0 0).toArray) rfl (by kernel_rfl) (by kernel_rfl) (by kernel_rfl) (fun _ _ _ h => h) ?_ hS0 ?_
  · exact yieldsIf_load_mid (by rfl) 181 (.tmp 1) rfl b1 0 rfl (wyc a 0 0) d (fun W hW => hW.1.range0) HU.out HD.out (sizeWy _ _ _)
  simp only [Act.put, List.getElem_toArray, List.getElem_cons_zero, List.getElem_cons_succ, List.setIfInBounds_toArray, List.set_cons_zero, List.set_cons_succ]
  refine wpAnyH_take (i := 1) (v := .agg (wyc a 0 0).toArray) rfl (by kernel_rfl) (by kernel_rfl) (by kernel_rfl) (fun _ _ _ h => h) ?_ hS0 ?_
  · exact yieldsIf_load_mid (by rfl) 181 (.tmp 1) rfl b1 0 rfl (wyc a 0 0) d (fun W hW => hW.1.range0) HU.out HD.out (sizeWy _ _ _)
  simp only [Act.put, List.getElem_toArray, List.getElem_cons_zero, List.getElem_cons_succ, List.setIfInBounds_toArray, List.set_cons_zero, List.set_cons_succ]
  refine wpAnyH_ready (rs := [2]) (by kernel_rfl) (by simp) (AllReadyH.cons rfl (fun KK hKK => ?_) AllReadyH.nil)
  go_simp
  refine (HST.out w3).mono ?_
  rintro e w4 ⟨rfl, hb⟩
  replace hS0 : (fun W => Vl W b1 (wyc a 0 0) ∧ (∃ cs, cs.length = 3 ∧ Vl W b2 cs) ∧ Below b1 w W) w4 := ⟨hS0.1.keep hb, hS0.2.1.imp fun _ h => ⟨h.1, h.2.keep hb⟩, hS0.2.2.trans (hb.mono (Nat.le_of_lt hS0.1.lt))⟩
  clear hb
  refine hKK _ _ hS0 ?_
  intro _
  clear hKK KK
  try simp only [Act.put, List.getElem_toArray, List.getElem_cons_zero, List.getElem_cons_succ, List.setIfInBounds_toArray, List.set_cons_zero, List.set_cons_succ]
  refine wpAnyH_take (i := 3) (v := ?_) rfl (by kernel_rfl) (by kernel_rfl) (by kernel_rfl) (fun _ _ _ h => h) (Or.inl ⟨by rfl, ?_⟩) hS0 ?_
  rotate_left 1
  · intro W hW
    go_simp
    try with_reducible rfl
  simp only [Act.put, List.getElem_toArray, List.getElem_cons_zero, List.getElem_cons_succ, List.setIfInBounds_toArray, List.set_cons_zero, List.set_cons_succ]
  refine wpAnyH_ready (rs := [4]) (by kernel_rfl) (by simp) (AllReadyH.cons rfl (fun KK hKK => ?_) AllReadyH.nil)
  go_simp
  refine (HFI.out w4).mono ?_
  rintro e w5 ⟨rfl, hb⟩
  replace hS0 : (fun W => Vl W b1 (wyc a 0 0) ∧ (∃ cs, cs.length = 3 ∧ Vl W b2 cs) ∧ Below b1 w W) w5 := ⟨hS0.1.keep hb, hS0.2.1.imp fun _ h => ⟨h.1, h.2.keep hb⟩, hS0.2.2.trans (hb.mono (Nat.le_of_lt hS0.1.lt))⟩
  clear hb
  refine hKK _ _ hS0 ?_
  intro _
  clear hKK KK
  try simp only [Act.put, List.getElem_toArray, List.getElem_cons_zero, List.getElem_cons_succ, List.setIfInBounds_toArray, List.set_cons_zero, List.set_cons_succ]
  obtain ⟨cs, hcl, hVb⟩ := hS0.2.1
  have PF := Lib.hid (hVb.stored (wyc 0 0 0) (by rw [hcl]; rfl))
  refine wpAnyH_ready (rs := [5]) (by kernel_rfl) (by simp) (AllReadyH.cons rfl (fun KK hKK => ?_) AllReadyH.nil)
  refine step_store_mid rfl 181 _ _ rfl b2 0 (wyc 0 0 0).toArray rfl rfl (hVb.there0 3 (by rw [hcl])) (sizeWy _ _ _) (all_oneCell_toArray (wyc_one _ _ _)) ?_
  have hk : Kp w5 (w5.setCells b2 0 (wyc 0 0 0)) b2 b2 := (Kp.refl w5 b2 b2).setCells b2 0 (.inl rfl) _
  have hS1 : (fun W => Vl W b1 (wyc a 0 0) ∧ (∃ cs, cs.length = 3 ∧ Vl W b2 cs) ∧ Below b1 w W) (w5.setCells b2 0 (wyc 0 0 0)) := ⟨hS0.1.kp hk (by omega) (by omega), ⟨_, rfl, PF.out⟩, hS0.2.2.trans (hk.below (by omega) (by omega) (Nat.le_of_lt hS0.1.lt))⟩
  obtain ⟨w6, hw6⟩ : ∃ x, w5.setCells b2 0 (wyc 0 0 0) = x := ⟨_, rfl⟩
  change KK _ (w5.setCells b2 0 (wyc 0 0 0))
  rw [hw6] at hS1 PF ⊢
  clear hS0 hw6 hk
  refine hKK _ _ hS1 ?_
  intro _
  clear hKK KK
  try simp only [Act.put, List.getElem_toArray, List.getElem_cons_zero, List.getElem_cons_succ, List.setIfInBounds_toArray, List.set_cons_zero, List.set_cons_succ]
  refine wpAnyH_done (by kernel_rfl) ?_ _
  have HBz := Lib.hid hS1.2.2
  clear hS1
  go_wp2_with fail
  exact bodyPost_ret_by (results_mid rfl _ _ b2 _ d rfl PF.out.range0 HU.out HD.out (sizeWy _ _ _)) rfl ⟨rfl, by rw [HW.out]; exact HBz.out⟩
set_option maxHeartbeats 8000000 in
set_option maxRecDepth 100000 in
theorem up2 (a b : Int) (ha : 0 < a) (hb : 0 < b) (w : World) : Calls Tryz.prog 107 #[.agg (wyc a b 0).toArray] w fun e w' => e = .returned (.agg (wyc a 0 0).toArray) ∧ Below w.heap.size w w' := by
  obtain ⟨d, hu, hd⟩ := Tryz.descWy
  have HU := Lib.hid hu
  have HD := Lib.hid hd
  have HST := Lib.hid (fun W => steps2 a b ha hb W)
  have HFI := Lib.hid (fun W => first1 a b 0 W)
  clear hu hd ha hb
  go_enter Tryz.func107, Tryz.ntmps107
  go_upto_region 1 with (first | (refine wpList_box_list (w := w) rfl 181 _ rfl (wyc a b 0) rfl ?_; intro w1 F1 hb1 hz1; have HB1 := Lib.hid hb1; have hq1 : w.heap.size < w1.heap.size := (by omega); clear hb1 hz1) | (refine wpList_alloc_list (w := w1) rfl 181 rfl (wyc 0 0 0) Tryz.zeroWy ?_; intro w2 F2 hb2 hz2; have HB2 := Lib.hid hb2; have hq2 : w1.heap.size < w2.heap.size := (by omega); clear hb2 hz2))
  obtain ⟨b1, hb1⟩ : ∃ b, w.heap.size = b := ⟨_, rfl⟩
  obtain ⟨b2, hb2⟩ : ∃ b, w1.heap.size = b := ⟨_, rfl⟩
  have G1 := Lib.hid (F1.out.keep HB2.out)
  have HB := Lib.hid (HB1.out.trans (HB2.out.mono HB1.out.size))
  rw [hb1, hb2] at hq1
  rw [hb2] at hq2
  rw [hb1] at G1 HB
  rw [hb2] at F2
  have HW := Lib.hid hb1
  try rw [hb1]
  try rw [hb2]
  clear hb1 hb2 HB1 HB2 F1
  refine wp_region_held (S := fun W => Vl W b1 (wyc a b 0) ∧ (∃ cs, cs.length = 3 ∧ Vl W b2 cs) ∧ Below b1 w W) (by kernel_rfl) ?_
  change wpAnyH _ _ _ _ _ _ _ _ (World.drew _)
  have hS0 : (fun W => Vl W b1 (wyc a b 0) ∧ (∃ cs, cs.length = 3 ∧ Vl W b2 cs) ∧ Below b1 w W) w2.drew := ⟨G1.out.keep (Below.refl _ _).drew, ⟨_, rfl, F2.out.keep (Below.refl _ _).drew⟩, HB.out.drew⟩
  obtain ⟨w3, hw3⟩ : ∃ x, World.drew w2 = x := ⟨_, rfl⟩
  rw [hw3] at hS0  ⊢
  clear hw3
  refine wpAnyH_take (i := 0) (v := .agg (wyc a b 0).toArray) rfl (by kernel_rfl) (by kernel_rfl) (by kernel_rfl) (fun _ _ _ h => h) ?_ hS0 ?_
  · exact yieldsIf_load_mid (by rfl) 181 (.tmp 1) rfl b1 0 rfl (wyc a b 0) d (fun W hW => hW.1.range0) HU.out HD.out (sizeWy _ _ _)
  simp only [Act.put, List.getElem_toArray, List.getElem_cons_zero, List.getElem_cons_succ, List.setIfInBounds_toArray, List.set_cons_zero, List.set_cons_succ]
  refine wpAnyH_take (i := 1) (v := .agg (wyc a b 0).toArray) rfl (by kernel_rfl) (by kernel_rfl) (by kernel_rfl) (fun _ _ _ h => h) ?_ hS0 ?_
  · exact yieldsIf_load_mid (by rfl) 181 (.tmp 1) rfl b1 0 rfl (wyc a b 0) d (fun W hW => hW.1.range0) HU.out HD.out (sizeWy _ _ _)
  simp only [Act.put, List.getElem_toArray, List.getElem_cons_zero, List.getElem_cons_succ, List.setIfInBounds_toArray, List.set_cons_zero, List.set_cons_succ]
  refine wpAnyH_ready (rs := [2]) (by kernel_rfl) (by simp) (AllReadyH.cons rfl (fun KK hKK => ?_) AllReadyH.nil)
  go_simp
  refine (HST.out w3).mono ?_
  rintro e w4 ⟨rfl, hb⟩
  replace hS0 : (fun W => Vl W b1 (wyc a b 0) ∧ (∃ cs, cs.length = 3 ∧ Vl W b2 cs) ∧ Below b1 w W) w4 := ⟨hS0.1.keep hb, hS0.2.1.imp fun _ h => ⟨h.1, h.2.keep hb⟩, hS0.2.2.trans (hb.mono (Nat.le_of_lt hS0.1.lt))⟩
  clear hb
  refine hKK _ _ hS0 ?_
  intro _
  clear hKK KK
  try simp only [Act.put, List.getElem_toArray, List.getElem_cons_zero, List.getElem_cons_succ, List.setIfInBounds_toArray, List.set_cons_zero, List.set_cons_succ]
  refine wpAnyH_take (i := 3) (v := ?_) rfl (by kernel_rfl) (by kernel_rfl) (by kernel_rfl) (fun _ _ _ h => h) (Or.inl ⟨by rfl, ?_⟩) hS0 ?_
  rotate_left 1
  · intro W hW
    go_simp
    try with_reducible rfl
  simp only [Act.put, List.getElem_toArray, List.getElem_cons_zero, List.getElem_cons_succ, List.setIfInBounds_toArray, List.set_cons_zero, List.set_cons_succ]
  refine wpAnyH_ready (rs := [4]) (by kernel_rfl) (by simp) (AllReadyH.cons rfl (fun KK hKK => ?_) AllReadyH.nil)
  go_simp
  refine (HFI.out w4).mono ?_
  rintro e w5 ⟨rfl, hb⟩
  replace hS0 : (fun W => Vl W b1 (wyc a b 0) ∧ (∃ cs, cs.length = 3 ∧ Vl W b2 cs) ∧ Below b1 w W) w5 := ⟨hS0.1.keep hb, hS0.2.1.imp fun _ h => ⟨h.1, h.2.keep hb⟩, hS0.2.2.trans (hb.mono (Nat.le_of_lt hS0.1.lt))⟩
  clear hb
  refine hKK _ _ hS0 ?_
  intro _
  clear hKK KK
  try simp only [Act.put, List.getElem_toArray, List.getElem_cons_zero, List.getElem_cons_succ, List.setIfInBounds_toArray, List.set_cons_zero, List.set_cons_succ]
  obtain ⟨cs, hcl, hVb⟩ := hS0.2.1
  have PF := Lib.hid (hVb.stored (wyc a 0 0) (by rw [hcl]; rfl))
  refine wpAnyH_ready (rs := [5]) (by kernel_rfl) (by simp) (AllReadyH.cons rfl (fun KK hKK => ?_) AllReadyH.nil)
  refine step_store_mid rfl 181 _ _ rfl b2 0 (wyc a 0 0).toArray rfl rfl (hVb.there0 3 (by rw [hcl])) (sizeWy _ _ _) (all_oneCell_toArray (wyc_one _ _ _)) ?_
  have hk : Kp w5 (w5.setCells b2 0 (wyc a 0 0)) b2 b2 := (Kp.refl w5 b2 b2).setCells b2 0 (.inl rfl) _
  have hS1 : (fun W => Vl W b1 (wyc a b 0) ∧ (∃ cs, cs.length = 3 ∧ Vl W b2 cs) ∧ Below b1 w W) (w5.setCells b2 0 (wyc a 0 0)) := ⟨hS0.1.kp hk (by omega) (by omega), ⟨_, rfl, PF.out⟩, hS0.2.2.trans (hk.below (by omega) (by omega) (Nat.le_of_lt hS0.1.lt))⟩
  obtain ⟨w6, hw6⟩ : ∃ x, w5.setCells b2 0 (wyc a 0 0) = x := ⟨_, rfl⟩
  change KK _ (w5.setCells b2 0 (wyc a 0 0))
  rw [hw6] at hS1 PF ⊢
  clear hS0 hw6 hk
  refine hKK _ _ hS1 ?_
  intro _
  clear hKK KK
  try simp only [Act.put, List.getElem_toArray, List.getElem_cons_zero, List.getElem_cons_succ, List.setIfInBounds_toArray, List.set_cons_zero, List.set_cons_succ]
  refine wpAnyH_done (by kernel_rfl) ?_ _
  have HBz := Lib.hid hS1.2.2
  clear hS1
  go_wp2_with fail
  exact bodyPost_ret_by (results_mid rfl _ _ b2 _ d rfl PF.out.range0 HU.out HD.out (sizeWy _ _ _)) rfl ⟨rfl, by rw [HW.out]; exact HBz.out⟩
set_option maxHeartbeats 8000000 in
set_option maxRecDepth 100000 in
theorem up3 (a b c : Int) (ha : 0 < a) (hb : 0 < b) (hc : 0 < c) (w : World) : Calls Tryz.prog 107 #[.agg (wyc a b c).toArray] w fun e w' => e = .returned (.agg (wyc a b 0).toArray) ∧ Below w.heap.size w w' := by
  obtain ⟨d, hu, hd⟩ := Tryz.descWy
  have HU := Lib.hid hu
  have HD := Lib.hid hd
  have HST := Lib.hid (fun W => steps3 a b c ha hb hc W)
  have HFI := Lib.hid (fun W => first2 a b c W)
  clear hu hd ha hb hc
  go_enter Tryz.func107, Tryz.ntmps107
  go_upto_region 1 with (first | (refine wpList_box_list (w := w) rfl 181 _ rfl (wyc a b c) rfl ?_; intro w1 F1 hb1 hz1; have HB1 := Lib.hid hb1; have hq1 : w.heap.size < w1.heap.size := (by omega); clear hb1 hz1) | (refine wpList_alloc_list (w := w1) rfl 181 rfl (wyc 0 0 0) Tryz.zeroWy ?_; intro w2 F2 hb2 hz2; have HB2 := Lib.hid hb2; have hq2 : w1.heap.size < w2.heap.size := (by omega); clear hb2 hz2))
  obtain ⟨b1, hb1⟩ : ∃ b, w.heap.size = b := ⟨_, rfl⟩
  obtain ⟨b2, hb2⟩ : ∃ b, w1.heap.size = b := ⟨_, rfl⟩
  have G1 := Lib.hid (F1.out.keep HB2.out)
  have HB := Lib.hid (HB1.out.trans (HB2.out.mono HB1.out.size))
  rw [hb1, hb2] at hq1
  rw [hb2] at hq2
  rw [hb1] at G1 HB
  rw [hb2] at F2
  have HW := Lib.hid hb1
  try rw [hb1]
  try rw [hb2]
  clear hb1 hb2 HB1 HB2 F1
  refine wp_region_held (S := fun W => Vl W b1 (wyc a b c) ∧ (∃ cs, cs.length = 3 ∧ Vl W b2 cs) ∧ Below b1 w W) (by kernel_rfl) ?_
  change wpAnyH _ _ _ _ _ _ _ _ (World.drew _)
  have hS0 : (fun W => Vl W b1 (wyc a b c) ∧ (∃ cs, cs.length = 3 ∧ Vl W b2 cs) ∧ Below b1 w W) w2.drew := ⟨G1.out.keep (Below.refl _ _).drew, ⟨_, rfl, F2.out.keep (Below.refl _ _).drew⟩, HB.out.drew⟩
  obtain ⟨w3, hw3⟩ : ∃ x, World.drew w2 = x := ⟨_, rfl⟩
  rw [hw3] at hS0  ⊢
  clear hw3
  refine wpAnyH_take (i := 0) (v := .agg (wyc a b c).toArray) rfl (by kernel_rfl) (by kernel_rfl) (by kernel_rfl) (fun _ _ _ h => h) ?_ hS0 ?_
  · exact yieldsIf_load_mid (by rfl) 181 (.tmp 1) rfl b1 0 rfl (wyc a b c) d (fun W hW => hW.1.range0) HU.out HD.out (sizeWy _ _ _)
  simp only [Act.put, List.getElem_toArray, List.getElem_cons_zero, List.getElem_cons_succ, List.setIfInBounds_toArray, List.set_cons_zero, List.set_cons_succ]
  refine wpAnyH_take (i := 1) (v := .agg (wyc a b c).toArray) rfl (by kernel_rfl) (by kernel_rfl) (by kernel_rfl) (fun _ _ _ h => h) ?_ hS0 ?_
  · exact yieldsIf_load_mid (by rfl) 181 (.tmp 1) rfl b1 0 rfl (wyc a b c) d (fun W hW => hW.1.range0) HU.out HD.out (sizeWy _ _ _)
  simp only [Act.put, List.getElem_toArray, List.getElem_cons_zero, List.getElem_cons_succ, List.setIfInBounds_toArray, List.set_cons_zero, List.set_cons_succ]
  refine wpAnyH_ready (rs := [2]) (by kernel_rfl) (by simp) (AllReadyH.cons rfl (fun KK hKK => ?_) AllReadyH.nil)
  go_simp
  refine (HST.out w3).mono ?_
  rintro e w4 ⟨rfl, hb⟩
  replace hS0 : (fun W => Vl W b1 (wyc a b c) ∧ (∃ cs, cs.length = 3 ∧ Vl W b2 cs) ∧ Below b1 w W) w4 := ⟨hS0.1.keep hb, hS0.2.1.imp fun _ h => ⟨h.1, h.2.keep hb⟩, hS0.2.2.trans (hb.mono (Nat.le_of_lt hS0.1.lt))⟩
  clear hb
  refine hKK _ _ hS0 ?_
  intro _
  clear hKK KK
  try simp only [Act.put, List.getElem_toArray, List.getElem_cons_zero, List.getElem_cons_succ, List.setIfInBounds_toArray, List.set_cons_zero, List.set_cons_succ]
  refine wpAnyH_take (i := 3) (v := ?_) rfl (by kernel_rfl) (by kernel_rfl) (by kernel_rfl) (fun _ _ _ h => h) (Or.inl ⟨by rfl, ?_⟩) hS0 ?_
  rotate_left 1
  · intro W hW
    go_simp
    try with_reducible rfl
  simp only [Act.put, List.getElem_toArray, List.getElem_cons_zero, List.getElem_cons_succ, List.setIfInBounds_toArray, List.set_cons_zero, List.set_cons_succ]
  refine wpAnyH_ready (rs := [4]) (by kernel_rfl) (by simp) (AllReadyH.cons rfl (fun KK hKK => ?_) AllReadyH.nil)
  go_simp
  refine (HFI.out w4).mono ?_
  rintro e w5 ⟨rfl, hb⟩
  replace hS0 : (fun W => Vl W b1 (wyc a b c) ∧ (∃ cs, cs.length = 3 ∧ Vl W b2 cs) ∧ Below b1 w W) w5 := ⟨hS0.1.keep hb, hS0.2.1.imp fun _ h => ⟨h.1, h.2.keep hb⟩, hS0.2.2.trans (hb.mono (Nat.le_of_lt hS0.1.lt))⟩
  clear hb
  refine hKK _ _ hS0 ?_
  intro _
  clear hKK KK
  try simp only [Act.put, List.getElem_toArray, List.getElem_cons_zero, List.getElem_cons_succ, List.setIfInBounds_toArray, List.set_cons_zero, List.set_cons_succ]
  obtain ⟨cs, hcl, hVb⟩ := hS0.2.1
  have PF := Lib.hid (hVb.stored (wyc a b 0) (by rw [hcl]; rfl))
  refine wpAnyH_ready (rs := [5]) (by kernel_rfl) (by simp) (AllReadyH.cons rfl (fun KK hKK => ?_) AllReadyH.nil)
  refine step_store_mid rfl 181 _ _ rfl b2 0 (wyc a b 0).toArray rfl rfl (hVb.there0 3 (by rw [hcl])) (sizeWy _ _ _) (all_oneCell_toArray (wyc_one _ _ _)) ?_
  have hk : Kp w5 (w5.setCells b2 0 (wyc a b 0)) b2 b2 := (Kp.refl w5 b2 b2).setCells b2 0 (.inl rfl) _
  have hS1 : (fun W => Vl W b1 (wyc a b c) ∧ (∃ cs, cs.length = 3 ∧ Vl W b2 cs) ∧ Below b1 w W) (w5.setCells b2 0 (wyc a b 0)) := ⟨hS0.1.kp hk (by omega) (by omega), ⟨_, rfl, PF.out⟩, hS0.2.2.trans (hk.below (by omega) (by omega) (Nat.le_of_lt hS0.1.lt))⟩
  obtain ⟨w6, hw6⟩ : ∃ x, w5.setCells b2 0 (wyc a b 0) = x := ⟨_, rfl⟩
  change KK _ (w5.setCells b2 0 (wyc a b 0))
  rw [hw6] at hS1 PF ⊢
  clear hS0 hw6 hk
  refine hKK _ _ hS1 ?_
  intro _
  clear hKK KK
  try simp only [Act.put, List.getElem_toArray, List.getElem_cons_zero, List.getElem_cons_succ, List.setIfInBounds_toArray, List.set_cons_zero, List.set_cons_succ]
  refine wpAnyH_done (by kernel_rfl) ?_ _
  have HBz := Lib.hid hS1.2.2
  clear hS1
  go_wp2_with fail
  exact bodyPost_ret_by (results_mid rfl _ _ b2 _ d rfl PF.out.range0 HU.out HD.out (sizeWy _ _ _)) rfl ⟨rfl, by rw [HW.out]; exact HBz.out⟩
end Go.Proofs.YtbnpgkclnebnmaaGreat
