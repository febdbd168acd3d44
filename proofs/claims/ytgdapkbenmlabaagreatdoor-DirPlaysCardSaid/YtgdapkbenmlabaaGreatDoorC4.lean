import Derived.Test.YtgdapkbenmlabaaGreatDoorC3
import Derived.Shelf.Strings.Trim
import Derived.Shelf.Small.Utf8
import Derived.Shelf.Small.Strs
import Derived.Shelf.Strings.Search1
import Derived.Shelf.Strings.Search2
import Derived.Shelf.Strings.Search3
import Derived.Shelf.Strings.Cut
import Derived.Shelf.Strings.Count
import Derived.Shelf.LaysM
import Derived.Shelf.Strings.Shaped
import Derived.Shelf.Sort.Plain
import Derived.Shelf.Strings.Split
import Derived.Shelf.Strings.SplitShaped
import Derived.Shelf.Strings.Runes
import Derived.Shelf.Strings.AsciiSet
import Derived.Shelf.Unicode.DecodeSlow
import Derived.Test.YtgdapkbenmlabaaGreatDoorProg
/- Files: ways: first, up, passes. -/
set_option linter.unusedSimpArgs false
set_option linter.unusedVariables false
set_option maxHeartbeats 40000000
set_option maxRecDepth 100000
namespace Go.Proofs.YtgdapkbenmlabaaGreatDoor
open Go.RowKit Go.Maps
theorem Tryz.slInt : Tryz.prog.underlying 120 = some (.slice 3) := Tryz.underlying120
theorem Tryz.isizeInt : (Tryz.prog.info? 3).map (·.size) = some 1 := by kernel_rfl
theorem first0 (a b c : Int) (w : World) : Calls Tryz.prog 228 #[.agg (wyc a b c).toArray, .int .i64 0] w fun e w' => e = .returned (.agg (wyc 0 0 0).toArray) ∧ Below w.heap.size w w' := by
 obtain ⟨d, hu, hd⟩ := Tryz.descWy;have HU := jh hu;have HD := jh hd;clear hu hd
 go_enter Tryz.func228, Tryz.ntmps228
 go_upto_region 2 with (first | (refine wpList_box_list (w := w) rfl 325 _ rfl (wyc a b c) rfl ?_; intro w1 F1 hb1 hz1; have HB1 := jh hb1; have hq1 : w.heap.size < w1.heap.size := (by omega); clear hb1 hz1) | (refine wpList_alloc_list (w := w1) rfl 325 rfl (wyc 0 0 0) Tryz.zeroWy ?_; intro w2 F2 hb2 hz2; have HB2 := jh hb2; have hq2 : w1.heap.size < w2.heap.size := (by omega); clear hb2 hz2) | (refine wpList_alloc_list (w := w2) rfl 325 rfl (wyc 0 0 0) Tryz.zeroWy ?_; intro w3 F3 hb3 hz3; have HB3 := jh hb3; have hq3 : w2.heap.size < w3.heap.size := (by omega); clear hb3 hz3))
 obtain ⟨b1, hb1⟩ : ∃ b, w.heap.size = b := ⟨_, rfl⟩
 obtain ⟨b2, hb2⟩ : ∃ b, w1.heap.size = b := ⟨_, rfl⟩
 obtain ⟨b3, hb3⟩ : ∃ b, w2.heap.size = b := ⟨_, rfl⟩
 have G1 := jh ((F1.out.keep HB2.out).keep HB3.out);have G2 := jh (F2.out.keep HB3.out);have HB := jh ((HB1.out.trans (HB2.out.mono HB1.out.size)).trans (HB3.out.mono (Nat.le_trans HB1.out.size HB2.out.size)));rw [hb1, hb2] at hq1;rw [hb2, hb3] at hq2;rw [hb3] at hq3;rw [hb1] at G1 HB;rw [hb2] at G2;rw [hb3] at F3;have HW := jh hb1
 try rw [hb1]
 try rw [hb2]
 try rw [hb3]
 clear hb1 hb2 hb3 HB1 HB2 HB3 F1 F2
 go_still_tail 3, (by kernel_rfl)
 have D1 := jh (G1.out.keep (Below.refl w3.heap.size w3).drew);have D2 := jh (G2.out.keep (Below.refl w3.heap.size w3).drew);have D3 := jh (F3.out.keep (Below.refl w3.heap.size w3).drew);have DB := jh (HB.out.drew);change wpList _ _ _ _ _ (World.drew w3);have hq4 : b3 < (World.drew w3).heap.size := hq3
 obtain ⟨w4, hw4⟩ : ∃ x, World.drew w3 = x := ⟨_, rfl⟩
 rw [hw4] at D1 D2 D3 DB hq4 ⊢;clear hw4 G1 G2 F3 HB hq3;refine wpList_copy_mid rfl (.tmp 7) (.tmp 8) 120 120 rfl 3 Tryz.slInt 1 Tryz.isizeInt b3 0 0 3 (some ⟨b1, 0, none⟩) 3 3 rfl rfl [] rfl (fun hh => ⟨_, rfl, fun j v hj => ?_⟩) ?_ (fun v hv => ?_) ?_
 ·rw [Addr.add_mid, Nat.zero_add]
  exact D1.out.c j v (by
   match j, hj with
   | (n + 0), hj => cases hj)
 ·exact fun j hj => D3.out.there0 3 rfl j (Nat.lt_of_lt_of_le hj (by show 0 ≤ 3; decide))
 ·cases hv
 have E3 : Hid (Vl (w4.setCells b3 0 []) b3 (wyc 0 0 0)) := D3;have hk : Kp w4 (w4.setCells b3 0 []) b3 b3 := (Kp.refl w4 b3 b3).setCells b3 0 (.inl rfl) _;have E2 := jh (D2.out.kp hk (by omega) (by omega));have EB := jh (DB.out.trans (hk.below (by omega) (by omega) (by omega)))
 obtain ⟨w5, hw5⟩ : ∃ x, w4.setCells b3 0 [] = x := ⟨_, rfl⟩
 rw [hw5] at E2 E3 EB hk ⊢;have hq5 := hk.size;clear hw5 hk D1 D2 D3 DB;have HR := jh E3.out.range0;have PF := jh (E2.out.stored (wyc 0 0 0) rfl)
 go_wp2_with (first | (refine wpList_load_mid rfl 325 _ rfl b3 0 rfl (wyc 0 0 0) d HR.out HU.out HD.out (sizeWy _ _ _) ?_) | (refine wpList_store_mid rfl 325 _ _ rfl b2 0 (wyc 0 0 0).toArray rfl rfl (E2.out.there0 3 rfl) (sizeWy _ _ _) (all_oneCell_toArray (wyc_one _ _ _)) ?_))
 exact bodyPost_ret_by (results_mid rfl _ _ b2 _ d rfl PF.out.range0 HU.out HD.out (sizeWy _ _ _)) rfl ⟨rfl, by rw [HW.out]; exact below_setCells EB.out b2 0 (by omega) _⟩
theorem first1 (a b c : Int) (w : World) : Calls Tryz.prog 228 #[.agg (wyc a b c).toArray, .int .i64 1] w fun e w' => e = .returned (.agg (wyc a 0 0).toArray) ∧ Below w.heap.size w w' := by
 obtain ⟨d, hu, hd⟩ := Tryz.descWy;have HU := jh hu;have HD := jh hd;clear hu hd
 go_enter Tryz.func228, Tryz.ntmps228
 go_upto_region 2 with (first | (refine wpList_box_list (w := w) rfl 325 _ rfl (wyc a b c) rfl ?_; intro w1 F1 hb1 hz1; have HB1 := jh hb1; have hq1 : w.heap.size < w1.heap.size := (by omega); clear hb1 hz1) | (refine wpList_alloc_list (w := w1) rfl 325 rfl (wyc 0 0 0) Tryz.zeroWy ?_; intro w2 F2 hb2 hz2; have HB2 := jh hb2; have hq2 : w1.heap.size < w2.heap.size := (by omega); clear hb2 hz2) | (refine wpList_alloc_list (w := w2) rfl 325 rfl (wyc 0 0 0) Tryz.zeroWy ?_; intro w3 F3 hb3 hz3; have HB3 := jh hb3; have hq3 : w2.heap.size < w3.heap.size := (by omega); clear hb3 hz3))
 obtain ⟨b1, hb1⟩ : ∃ b, w.heap.size = b := ⟨_, rfl⟩
 obtain ⟨b2, hb2⟩ : ∃ b, w1.heap.size = b := ⟨_, rfl⟩
 obtain ⟨b3, hb3⟩ : ∃ b, w2.heap.size = b := ⟨_, rfl⟩
 have G1 := jh ((F1.out.keep HB2.out).keep HB3.out);have G2 := jh (F2.out.keep HB3.out);have HB := jh ((HB1.out.trans (HB2.out.mono HB1.out.size)).trans (HB3.out.mono (Nat.le_trans HB1.out.size HB2.out.size)));rw [hb1, hb2] at hq1;rw [hb2, hb3] at hq2;rw [hb3] at hq3;rw [hb1] at G1 HB;rw [hb2] at G2;rw [hb3] at F3;have HW := jh hb1
 try rw [hb1]
 try rw [hb2]
 try rw [hb3]
 clear hb1 hb2 hb3 HB1 HB2 HB3 F1 F2
 go_still_tail 3, (by kernel_rfl)
 have D1 := jh (G1.out.keep (Below.refl w3.heap.size w3).drew);have D2 := jh (G2.out.keep (Below.refl w3.heap.size w3).drew);have D3 := jh (F3.out.keep (Below.refl w3.heap.size w3).drew);have DB := jh (HB.out.drew);change wpList _ _ _ _ _ (World.drew w3);have hq4 : b3 < (World.drew w3).heap.size := hq3
 obtain ⟨w4, hw4⟩ : ∃ x, World.drew w3 = x := ⟨_, rfl⟩
 rw [hw4] at D1 D2 D3 DB hq4 ⊢;clear hw4 G1 G2 F3 HB hq3;refine wpList_copy_mid rfl (.tmp 7) (.tmp 8) 120 120 rfl 3 Tryz.slInt 1 Tryz.isizeInt b3 0 1 3 (some ⟨b1, 0, none⟩) 3 3 rfl rfl [.int .i64 a] rfl (fun hh => ⟨_, rfl, fun j v hj => ?_⟩) ?_ (fun v hv => ?_) ?_
 ·rw [Addr.add_mid, Nat.zero_add]
  exact D1.out.c j v (by
   match j, hj with
   | 0, hj => exact hj
   | (n + 1), hj => cases hj)
 ·exact fun j hj => D3.out.there0 3 rfl j (Nat.lt_of_lt_of_le hj (by show 1 ≤ 3; decide))
 ·simp only [List.mem_cons, List.not_mem_nil, or_false] at hv
  rcases hv with rfl <;> rfl
 have E3 : Hid (Vl (w4.setCells b3 0 [.int .i64 a]) b3 (wyc a 0 0)) := jh (D3.out.set 0 (by show 0 < 3; decide) (.int .i64 a));have hk : Kp w4 (w4.setCells b3 0 [.int .i64 a]) b3 b3 := (Kp.refl w4 b3 b3).setCells b3 0 (.inl rfl) _;have E2 := jh (D2.out.kp hk (by omega) (by omega));have EB := jh (DB.out.trans (hk.below (by omega) (by omega) (by omega)))
 obtain ⟨w5, hw5⟩ : ∃ x, w4.setCells b3 0 [.int .i64 a] = x := ⟨_, rfl⟩
 rw [hw5] at E2 E3 EB hk ⊢;have hq5 := hk.size;clear hw5 hk D1 D2 D3 DB;have HR := jh E3.out.range0;have PF := jh (E2.out.stored (wyc a 0 0) rfl)
 go_wp2_with (first | (refine wpList_load_mid rfl 325 _ rfl b3 0 rfl (wyc a 0 0) d HR.out HU.out HD.out (sizeWy _ _ _) ?_) | (refine wpList_store_mid rfl 325 _ _ rfl b2 0 (wyc a 0 0).toArray rfl rfl (E2.out.there0 3 rfl) (sizeWy _ _ _) (all_oneCell_toArray (wyc_one _ _ _)) ?_))
 exact bodyPost_ret_by (results_mid rfl _ _ b2 _ d rfl PF.out.range0 HU.out HD.out (sizeWy _ _ _)) rfl ⟨rfl, by rw [HW.out]; exact below_setCells EB.out b2 0 (by omega) _⟩
theorem first2 (a b c : Int) (w : World) : Calls Tryz.prog 228 #[.agg (wyc a b c).toArray, .int .i64 2] w fun e w' => e = .returned (.agg (wyc a b 0).toArray) ∧ Below w.heap.size w w' := by
 obtain ⟨d, hu, hd⟩ := Tryz.descWy;have HU := jh hu;have HD := jh hd;clear hu hd
 go_enter Tryz.func228, Tryz.ntmps228
 go_upto_region 2 with (first | (refine wpList_box_list (w := w) rfl 325 _ rfl (wyc a b c) rfl ?_; intro w1 F1 hb1 hz1; have HB1 := jh hb1; have hq1 : w.heap.size < w1.heap.size := (by omega); clear hb1 hz1) | (refine wpList_alloc_list (w := w1) rfl 325 rfl (wyc 0 0 0) Tryz.zeroWy ?_; intro w2 F2 hb2 hz2; have HB2 := jh hb2; have hq2 : w1.heap.size < w2.heap.size := (by omega); clear hb2 hz2) | (refine wpList_alloc_list (w := w2) rfl 325 rfl (wyc 0 0 0) Tryz.zeroWy ?_; intro w3 F3 hb3 hz3; have HB3 := jh hb3; have hq3 : w2.heap.size < w3.heap.size := (by omega); clear hb3 hz3))
 obtain ⟨b1, hb1⟩ : ∃ b, w.heap.size = b := ⟨_, rfl⟩
 obtain ⟨b2, hb2⟩ : ∃ b, w1.heap.size = b := ⟨_, rfl⟩
 obtain ⟨b3, hb3⟩ : ∃ b, w2.heap.size = b := ⟨_, rfl⟩
 have G1 := jh ((F1.out.keep HB2.out).keep HB3.out);have G2 := jh (F2.out.keep HB3.out);have HB := jh ((HB1.out.trans (HB2.out.mono HB1.out.size)).trans (HB3.out.mono (Nat.le_trans HB1.out.size HB2.out.size)));rw [hb1, hb2] at hq1;rw [hb2, hb3] at hq2;rw [hb3] at hq3;rw [hb1] at G1 HB;rw [hb2] at G2;rw [hb3] at F3;have HW := jh hb1
 try rw [hb1]
 try rw [hb2]
 try rw [hb3]
 clear hb1 hb2 hb3 HB1 HB2 HB3 F1 F2
 go_still_tail 3, (by kernel_rfl)
 have D1 := jh (G1.out.keep (Below.refl w3.heap.size w3).drew);have D2 := jh (G2.out.keep (Below.refl w3.heap.size w3).drew);have D3 := jh (F3.out.keep (Below.refl w3.heap.size w3).drew);have DB := jh (HB.out.drew);change wpList _ _ _ _ _ (World.drew w3);have hq4 : b3 < (World.drew w3).heap.size := hq3
 obtain ⟨w4, hw4⟩ : ∃ x, World.drew w3 = x := ⟨_, rfl⟩
 rw [hw4] at D1 D2 D3 DB hq4 ⊢;clear hw4 G1 G2 F3 HB hq3;refine wpList_copy_mid rfl (.tmp 7) (.tmp 8) 120 120 rfl 3 Tryz.slInt 1 Tryz.isizeInt b3 0 2 3 (some ⟨b1, 0, none⟩) 3 3 rfl rfl [.int .i64 a, .int .i64 b] rfl (fun hh => ⟨_, rfl, fun j v hj => ?_⟩) ?_ (fun v hv => ?_) ?_
 ·rw [Addr.add_mid, Nat.zero_add]
  exact D1.out.c j v (by
   match j, hj with
   | 0, hj => exact hj
   | 1, hj => exact hj
   | (n + 2), hj => cases hj)
 ·exact fun j hj => D3.out.there0 3 rfl j (Nat.lt_of_lt_of_le hj (by show 2 ≤ 3; decide))
 ·simp only [List.mem_cons, List.not_mem_nil, or_false] at hv
  rcases hv with rfl | rfl <;> rfl
 have E3 : Hid (Vl (w4.setCells b3 0 [.int .i64 a, .int .i64 b]) b3 (wyc a b 0)) := jh ((D3.out.set 0 (by show 0 < 3; decide) (.int .i64 a)).set 1 (by show 1 < 3; decide) (.int .i64 b));have hk : Kp w4 (w4.setCells b3 0 [.int .i64 a, .int .i64 b]) b3 b3 := (Kp.refl w4 b3 b3).setCells b3 0 (.inl rfl) _;have E2 := jh (D2.out.kp hk (by omega) (by omega));have EB := jh (DB.out.trans (hk.below (by omega) (by omega) (by omega)))
 obtain ⟨w5, hw5⟩ : ∃ x, w4.setCells b3 0 [.int .i64 a, .int .i64 b] = x := ⟨_, rfl⟩
 rw [hw5] at E2 E3 EB hk ⊢;have hq5 := hk.size;clear hw5 hk D1 D2 D3 DB;have HR := jh E3.out.range0;have PF := jh (E2.out.stored (wyc a b 0) rfl)
 go_wp2_with (first | (refine wpList_load_mid rfl 325 _ rfl b3 0 rfl (wyc a b 0) d HR.out HU.out HD.out (sizeWy _ _ _) ?_) | (refine wpList_store_mid rfl 325 _ _ rfl b2 0 (wyc a b 0).toArray rfl rfl (E2.out.there0 3 rfl) (sizeWy _ _ _) (all_oneCell_toArray (wyc_one _ _ _)) ?_))
 exact bodyPost_ret_by (results_mid rfl _ _ b2 _ d rfl PF.out.range0 HU.out HD.out (sizeWy _ _ _)) rfl ⟨rfl, by rw [HW.out]; exact below_setCells EB.out b2 0 (by omega) _⟩
theorem first3 (a b c : Int) (w : World) : Calls Tryz.prog 228 #[.agg (wyc a b c).toArray, .int .i64 3] w fun e w' => e = .returned (.agg (wyc a b c).toArray) ∧ Below w.heap.size w w' := by
 obtain ⟨d, hu, hd⟩ := Tryz.descWy;have HU := jh hu;have HD := jh hd;clear hu hd
 go_enter Tryz.func228, Tryz.ntmps228
 go_upto_region 2 with (first | (refine wpList_box_list (w := w) rfl 325 _ rfl (wyc a b c) rfl ?_; intro w1 F1 hb1 hz1; have HB1 := jh hb1; have hq1 : w.heap.size < w1.heap.size := (by omega); clear hb1 hz1) | (refine wpList_alloc_list (w := w1) rfl 325 rfl (wyc 0 0 0) Tryz.zeroWy ?_; intro w2 F2 hb2 hz2; have HB2 := jh hb2; have hq2 : w1.heap.size < w2.heap.size := (by omega); clear hb2 hz2) | (refine wpList_alloc_list (w := w2) rfl 325 rfl (wyc 0 0 0) Tryz.zeroWy ?_; intro w3 F3 hb3 hz3; have HB3 := jh hb3; have hq3 : w2.heap.size < w3.heap.size := (by omega); clear hb3 hz3))
 obtain ⟨b1, hb1⟩ : ∃ b, w.heap.size = b := ⟨_, rfl⟩
 obtain ⟨b2, hb2⟩ : ∃ b, w1.heap.size = b := ⟨_, rfl⟩
 obtain ⟨b3, hb3⟩ : ∃ b, w2.heap.size = b := ⟨_, rfl⟩
 have G1 := jh ((F1.out.keep HB2.out).keep HB3.out);have G2 := jh (F2.out.keep HB3.out);have HB := jh ((HB1.out.trans (HB2.out.mono HB1.out.size)).trans (HB3.out.mono (Nat.le_trans HB1.out.size HB2.out.size)));rw [hb1, hb2] at hq1;rw [hb2, hb3] at hq2;rw [hb3] at hq3;rw [hb1] at G1 HB;rw [hb2] at G2;rw [hb3] at F3;have HW := jh hb1
 try rw [hb1]
 try rw [hb2]
 try rw [hb3]
 clear hb1 hb2 hb3 HB1 HB2 HB3 F1 F2
 go_still_tail 3, (by kernel_rfl)
 have D1 := jh (G1.out.keep (Below.refl w3.heap.size w3).drew);have D2 := jh (G2.out.keep (Below.refl w3.heap.size w3).drew);have D3 := jh (F3.out.keep (Below.refl w3.heap.size w3).drew);have DB := jh (HB.out.drew);change wpList _ _ _ _ _ (World.drew w3);have hq4 : b3 < (World.drew w3).heap.size := hq3
 obtain ⟨w4, hw4⟩ : ∃ x, World.drew w3 = x := ⟨_, rfl⟩
 rw [hw4] at D1 D2 D3 DB hq4 ⊢;clear hw4 G1 G2 F3 HB hq3;refine wpList_copy_mid rfl (.tmp 7) (.tmp 8) 120 120 rfl 3 Tryz.slInt 1 Tryz.isizeInt b3 0 3 3 (some ⟨b1, 0, none⟩) 3 3 rfl rfl [.int .i64 a, .int .i64 b, .int .i64 c] rfl (fun hh => ⟨_, rfl, fun j v hj => ?_⟩) ?_ (fun v hv => ?_) ?_
 ·rw [Addr.add_mid, Nat.zero_add]
  exact D1.out.c j v (by
   match j, hj with
   | 0, hj => exact hj
   | 1, hj => exact hj
   | 2, hj => exact hj
   | (n + 3), hj => cases hj)
 ·exact fun j hj => D3.out.there0 3 rfl j (Nat.lt_of_lt_of_le hj (by show 3 ≤ 3; decide))
 ·simp only [List.mem_cons, List.not_mem_nil, or_false] at hv
  rcases hv with rfl | rfl | rfl <;> rfl
 have E3 : Hid (Vl (w4.setCells b3 0 [.int .i64 a, .int .i64 b, .int .i64 c]) b3 (wyc a b c)) := jh (((D3.out.set 0 (by show 0 < 3; decide) (.int .i64 a)).set 1 (by show 1 < 3; decide) (.int .i64 b)).set 2 (by show 2 < 3; decide) (.int .i64 c));have hk : Kp w4 (w4.setCells b3 0 [.int .i64 a, .int .i64 b, .int .i64 c]) b3 b3 := (Kp.refl w4 b3 b3).setCells b3 0 (.inl rfl) _;have E2 := jh (D2.out.kp hk (by omega) (by omega));have EB := jh (DB.out.trans (hk.below (by omega) (by omega) (by omega)))
 obtain ⟨w5, hw5⟩ : ∃ x, w4.setCells b3 0 [.int .i64 a, .int .i64 b, .int .i64 c] = x := ⟨_, rfl⟩
 rw [hw5] at E2 E3 EB hk ⊢;have hq5 := hk.size;clear hw5 hk D1 D2 D3 DB;have HR := jh E3.out.range0;have PF := jh (E2.out.stored (wyc a b c) rfl)
 go_wp2_with (first | (refine wpList_load_mid rfl 325 _ rfl b3 0 rfl (wyc a b c) d HR.out HU.out HD.out (sizeWy _ _ _) ?_) | (refine wpList_store_mid rfl 325 _ _ rfl b2 0 (wyc a b c).toArray rfl rfl (E2.out.there0 3 rfl) (sizeWy _ _ _) (all_oneCell_toArray (wyc_one _ _ _)) ?_))
 exact bodyPost_ret_by (results_mid rfl _ _ b2 _ d rfl PF.out.range0 HU.out HD.out (sizeWy _ _ _)) rfl ⟨rfl, by rw [HW.out]; exact below_setCells EB.out b2 0 (by omega) _⟩
theorem up1 (a : Int) (ha : 0 < a) (w : World) : Calls Tryz.prog 201 #[.agg (wyc a 0 0).toArray] w fun e w' => e = .returned (.agg (wyc 0 0 0).toArray) ∧ Below w.heap.size w w' := by
 obtain ⟨d, hu, hd⟩ := Tryz.descWy;have HU := jh hu;have HD := jh hd;have HST := jh (fun W => steps1 a ha W);have HFI := jh (fun W => first0 a 0 0 W);clear hu hd ha
 go_enter Tryz.func201, Tryz.ntmps201
 go_upto_region 1 with (first | (refine wpList_box_list (w := w) rfl 325 _ rfl (wyc a 0 0) rfl ?_; intro w1 F1 hb1 hz1; have HB1 := jh hb1; have hq1 : w.heap.size < w1.heap.size := (by omega); clear hb1 hz1) | (refine wpList_alloc_list (w := w1) rfl 325 rfl (wyc 0 0 0) Tryz.zeroWy ?_; intro w2 F2 hb2 hz2; have HB2 := jh hb2; have hq2 : w1.heap.size < w2.heap.size := (by omega); clear hb2 hz2))
 obtain ⟨b1, hb1⟩ : ∃ b, w.heap.size = b := ⟨_, rfl⟩
 obtain ⟨b2, hb2⟩ : ∃ b, w1.heap.size = b := ⟨_, rfl⟩
 have G1 := jh (F1.out.keep HB2.out);have HB := jh (HB1.out.trans (HB2.out.mono HB1.out.size));rw [hb1, hb2] at hq1;rw [hb2] at hq2;rw [hb1] at G1 HB;rw [hb2] at F2;have HW := jh hb1
 try rw [hb1]
 try rw [hb2]
 clear hb1 hb2 HB1 HB2 F1;refine wp_region_held (S := fun W => Vl W b1 (wyc a 0 0) ∧ (∃ cs, cs.length = 3 ∧ Vl W b2 cs) ∧ Below b1 w W) (by kernel_rfl) ?_;change wpAnyH _ _ _ _ _ _ _ _ (World.drew _)
 have hS0 : (fun W => Vl W b1 (wyc a 0 0) ∧ (∃ cs, cs.length = 3 ∧ Vl W b2 cs) ∧ Below b1 w W) w2.drew := ⟨G1.out.keep (Below.refl _ _).drew, ⟨_, rfl, F2.out.keep (Below.refl _ _).drew⟩, HB.out.drew⟩
 obtain ⟨w3, hw3⟩ : ∃ x, World.drew w2 = x := ⟨_, rfl⟩
 rw [hw3] at hS0  ⊢;clear hw3;refine jx 0 (v := .agg (wyc a 0 0).toArray) rfl (by kernel_rfl) (fun _ _ _=>id) ?_ hS0 ?_
 ·exact yieldsIf_load_mid (by rfl) 325 (.tmp 1) rfl b1 0 rfl (wyc a 0 0) d (fun W hW => hW.1.range0) HU.out HD.out (sizeWy _ _ _)
 simp only [Act.put,j1,j2,j3,j4,j5,j6];refine jx 1 (v := .agg (wyc a 0 0).toArray) rfl (by kernel_rfl) (fun _ _ _=>id) ?_ hS0 ?_
 ·exact yieldsIf_load_mid (by rfl) 325 (.tmp 1) rfl b1 0 rfl (wyc a 0 0) d (fun W hW => hW.1.range0) HU.out HD.out (sizeWy _ _ _)
 simp only [Act.put,j1,j2,j3,j4,j5,j6];refine wpAnyH_ready (rs := [2]) (by kernel_rfl) (by simp) (AllReadyH.cons rfl (fun KK hKK => ?_) AllReadyH.nil);go_simp;refine (HST.out w3).mono ?_;rintro e w4 ⟨rfl, hb⟩
 replace hS0 : (fun W => Vl W b1 (wyc a 0 0) ∧ (∃ cs, cs.length = 3 ∧ Vl W b2 cs) ∧ Below b1 w W) w4 := ⟨hS0.1.keep hb, hS0.2.1.imp fun _ h => ⟨h.1, h.2.keep hb⟩, hS0.2.2.trans (hb.mono (Nat.le_of_lt hS0.1.lt))⟩
 clear hb;refine hKK _ _ hS0 ?_;intro _;clear hKK KK
 try simp only [Act.put,j1,j2,j3,j4,j5,j6]
 refine jk 3 (v:=?_) rfl (by kernel_rfl) (fun _ _ _=>id) (by rfl) ?_ hS0 ?_;rotate_left
 ·intro W hW;go_simp;try with_reducible rfl
 simp only [Act.put,j1,j2,j3,j4,j5,j6];refine wpAnyH_ready (rs := [4]) (by kernel_rfl) (by simp) (AllReadyH.cons rfl (fun KK hKK => ?_) AllReadyH.nil);go_simp;refine (HFI.out w4).mono ?_;rintro e w5 ⟨rfl, hb⟩
 replace hS0 : (fun W => Vl W b1 (wyc a 0 0) ∧ (∃ cs, cs.length = 3 ∧ Vl W b2 cs) ∧ Below b1 w W) w5 := ⟨hS0.1.keep hb, hS0.2.1.imp fun _ h => ⟨h.1, h.2.keep hb⟩, hS0.2.2.trans (hb.mono (Nat.le_of_lt hS0.1.lt))⟩
 clear hb;refine hKK _ _ hS0 ?_;intro _;clear hKK KK
 try simp only [Act.put,j1,j2,j3,j4,j5,j6]
 obtain ⟨cs, hcl, hVb⟩ := hS0.2.1;have PF := jh (hVb.stored (wyc 0 0 0) (by rw [hcl]; rfl));refine wpAnyH_ready (rs := [5]) (by kernel_rfl) (by simp) (AllReadyH.cons rfl (fun KK hKK => ?_) AllReadyH.nil);refine step_store_mid rfl 325 _ _ rfl b2 0 (wyc 0 0 0).toArray rfl rfl (hVb.there0 3 (by rw [hcl])) (sizeWy _ _ _) (all_oneCell_toArray (wyc_one _ _ _)) ?_;have hk : Kp w5 (w5.setCells b2 0 (wyc 0 0 0)) b2 b2 := (Kp.refl w5 b2 b2).setCells b2 0 (.inl rfl) _
 have hS1 : (fun W => Vl W b1 (wyc a 0 0) ∧ (∃ cs, cs.length = 3 ∧ Vl W b2 cs) ∧ Below b1 w W) (w5.setCells b2 0 (wyc 0 0 0)) := ⟨hS0.1.kp hk (by omega) (by omega), ⟨_, rfl, PF.out⟩, hS0.2.2.trans (hk.below (by omega) (by omega) (Nat.le_of_lt hS0.1.lt))⟩
 obtain ⟨w6, hw6⟩ : ∃ x, w5.setCells b2 0 (wyc 0 0 0) = x := ⟨_, rfl⟩
 change KK _ (w5.setCells b2 0 (wyc 0 0 0));rw [hw6] at hS1 PF ⊢;clear hS0 hw6 hk;refine hKK _ _ hS1 ?_;intro _;clear hKK KK
 try simp only [Act.put,j1,j2,j3,j4,j5,j6]
 refine wpAnyH_done (by kernel_rfl) ?_ _;have HBz := jh hS1.2.2;clear hS1
 go_wp2_with fail
 exact bodyPost_ret_by (results_mid rfl _ _ b2 _ d rfl PF.out.range0 HU.out HD.out (sizeWy _ _ _)) rfl ⟨rfl, by rw [HW.out]; exact HBz.out⟩
theorem up2 (a b : Int) (ha : 0 < a) (hb : 0 < b) (w : World) : Calls Tryz.prog 201 #[.agg (wyc a b 0).toArray] w fun e w' => e = .returned (.agg (wyc a 0 0).toArray) ∧ Below w.heap.size w w' := by
 obtain ⟨d, hu, hd⟩ := Tryz.descWy;have HU := jh hu;have HD := jh hd;have HST := jh (fun W => steps2 a b ha hb W);have HFI := jh (fun W => first1 a b 0 W);clear hu hd ha hb
 go_enter Tryz.func201, Tryz.ntmps201
 go_upto_region 1 with (first | (refine wpList_box_list (w := w) rfl 325 _ rfl (wyc a b 0) rfl ?_; intro w1 F1 hb1 hz1; have HB1 := jh hb1; have hq1 : w.heap.size < w1.heap.size := (by omega); clear hb1 hz1) | (refine wpList_alloc_list (w := w1) rfl 325 rfl (wyc 0 0 0) Tryz.zeroWy ?_; intro w2 F2 hb2 hz2; have HB2 := jh hb2; have hq2 : w1.heap.size < w2.heap.size := (by omega); clear hb2 hz2))
 obtain ⟨b1, hb1⟩ : ∃ b, w.heap.size = b := ⟨_, rfl⟩
 obtain ⟨b2, hb2⟩ : ∃ b, w1.heap.size = b := ⟨_, rfl⟩
 have G1 := jh (F1.out.keep HB2.out);have HB := jh (HB1.out.trans (HB2.out.mono HB1.out.size));rw [hb1, hb2] at hq1;rw [hb2] at hq2;rw [hb1] at G1 HB;rw [hb2] at F2;have HW := jh hb1
 try rw [hb1]
 try rw [hb2]
 clear hb1 hb2 HB1 HB2 F1;refine wp_region_held (S := fun W => Vl W b1 (wyc a b 0) ∧ (∃ cs, cs.length = 3 ∧ Vl W b2 cs) ∧ Below b1 w W) (by kernel_rfl) ?_;change wpAnyH _ _ _ _ _ _ _ _ (World.drew _)
 have hS0 : (fun W => Vl W b1 (wyc a b 0) ∧ (∃ cs, cs.length = 3 ∧ Vl W b2 cs) ∧ Below b1 w W) w2.drew := ⟨G1.out.keep (Below.refl _ _).drew, ⟨_, rfl, F2.out.keep (Below.refl _ _).drew⟩, HB.out.drew⟩
 obtain ⟨w3, hw3⟩ : ∃ x, World.drew w2 = x := ⟨_, rfl⟩
 rw [hw3] at hS0  ⊢;clear hw3;refine jx 0 (v := .agg (wyc a b 0).toArray) rfl (by kernel_rfl) (fun _ _ _=>id) ?_ hS0 ?_
 ·exact yieldsIf_load_mid (by rfl) 325 (.tmp 1) rfl b1 0 rfl (wyc a b 0) d (fun W hW => hW.1.range0) HU.out HD.out (sizeWy _ _ _)
 simp only [Act.put,j1,j2,j3,j4,j5,j6];refine jx 1 (v := .agg (wyc a b 0).toArray) rfl (by kernel_rfl) (fun _ _ _=>id) ?_ hS0 ?_
 ·exact yieldsIf_load_mid (by rfl) 325 (.tmp 1) rfl b1 0 rfl (wyc a b 0) d (fun W hW => hW.1.range0) HU.out HD.out (sizeWy _ _ _)
 simp only [Act.put,j1,j2,j3,j4,j5,j6];refine wpAnyH_ready (rs := [2]) (by kernel_rfl) (by simp) (AllReadyH.cons rfl (fun KK hKK => ?_) AllReadyH.nil);go_simp;refine (HST.out w3).mono ?_;rintro e w4 ⟨rfl, hb⟩
 replace hS0 : (fun W => Vl W b1 (wyc a b 0) ∧ (∃ cs, cs.length = 3 ∧ Vl W b2 cs) ∧ Below b1 w W) w4 := ⟨hS0.1.keep hb, hS0.2.1.imp fun _ h => ⟨h.1, h.2.keep hb⟩, hS0.2.2.trans (hb.mono (Nat.le_of_lt hS0.1.lt))⟩
 clear hb;refine hKK _ _ hS0 ?_;intro _;clear hKK KK
 try simp only [Act.put,j1,j2,j3,j4,j5,j6]
 refine jk 3 (v:=?_) rfl (by kernel_rfl) (fun _ _ _=>id) (by rfl) ?_ hS0 ?_;rotate_left
 ·intro W hW;go_simp;try with_reducible rfl
 simp only [Act.put,j1,j2,j3,j4,j5,j6];refine wpAnyH_ready (rs := [4]) (by kernel_rfl) (by simp) (AllReadyH.cons rfl (fun KK hKK => ?_) AllReadyH.nil);go_simp;refine (HFI.out w4).mono ?_;rintro e w5 ⟨rfl, hb⟩
 replace hS0 : (fun W => Vl W b1 (wyc a b 0) ∧ (∃ cs, cs.length = 3 ∧ Vl W b2 cs) ∧ Below b1 w W) w5 := ⟨hS0.1.keep hb, hS0.2.1.imp fun _ h => ⟨h.1, h.2.keep hb⟩, hS0.2.2.trans (hb.mono (Nat.le_of_lt hS0.1.lt))⟩
 clear hb;refine hKK _ _ hS0 ?_;intro _;clear hKK KK
 try simp only [Act.put,j1,j2,j3,j4,j5,j6]
 obtain ⟨cs, hcl, hVb⟩ := hS0.2.1;have PF := jh (hVb.stored (wyc a 0 0) (by rw [hcl]; rfl));refine wpAnyH_ready (rs := [5]) (by kernel_rfl) (by simp) (AllReadyH.cons rfl (fun KK hKK => ?_) AllReadyH.nil);refine step_store_mid rfl 325 _ _ rfl b2 0 (wyc a 0 0).toArray rfl rfl (hVb.there0 3 (by rw [hcl])) (sizeWy _ _ _) (all_oneCell_toArray (wyc_one _ _ _)) ?_;have hk : Kp w5 (w5.setCells b2 0 (wyc a 0 0)) b2 b2 := (Kp.refl w5 b2 b2).setCells b2 0 (.inl rfl) _
 have hS1 : (fun W => Vl W b1 (wyc a b 0) ∧ (∃ cs, cs.length = 3 ∧ Vl W b2 cs) ∧ Below b1 w W) (w5.setCells b2 0 (wyc a 0 0)) := ⟨hS0.1.kp hk (by omega) (by omega), ⟨_, rfl, PF.out⟩, hS0.2.2.trans (hk.below (by omega) (by omega) (Nat.le_of_lt hS0.1.lt))⟩
 obtain ⟨w6, hw6⟩ : ∃ x, w5.setCells b2 0 (wyc a 0 0) = x := ⟨_, rfl⟩
 change KK _ (w5.setCells b2 0 (wyc a 0 0));rw [hw6] at hS1 PF ⊢;clear hS0 hw6 hk;refine hKK _ _ hS1 ?_;intro _;clear hKK KK
 try simp only [Act.put,j1,j2,j3,j4,j5,j6]
 refine wpAnyH_done (by kernel_rfl) ?_ _;have HBz := jh hS1.2.2;clear hS1
 go_wp2_with fail
 exact bodyPost_ret_by (results_mid rfl _ _ b2 _ d rfl PF.out.range0 HU.out HD.out (sizeWy _ _ _)) rfl ⟨rfl, by rw [HW.out]; exact HBz.out⟩
theorem up3 (a b c : Int) (ha : 0 < a) (hb : 0 < b) (hc : 0 < c) (w : World) : Calls Tryz.prog 201 #[.agg (wyc a b c).toArray] w fun e w' => e = .returned (.agg (wyc a b 0).toArray) ∧ Below w.heap.size w w' := by
 obtain ⟨d, hu, hd⟩ := Tryz.descWy;have HU := jh hu;have HD := jh hd;have HST := jh (fun W => steps3 a b c ha hb hc W);have HFI := jh (fun W => first2 a b c W);clear hu hd ha hb hc
 go_enter Tryz.func201, Tryz.ntmps201
 go_upto_region 1 with (first | (refine wpList_box_list (w := w) rfl 325 _ rfl (wyc a b c) rfl ?_; intro w1 F1 hb1 hz1; have HB1 := jh hb1; have hq1 : w.heap.size < w1.heap.size := (by omega); clear hb1 hz1) | (refine wpList_alloc_list (w := w1) rfl 325 rfl (wyc 0 0 0) Tryz.zeroWy ?_; intro w2 F2 hb2 hz2; have HB2 := jh hb2; have hq2 : w1.heap.size < w2.heap.size := (by omega); clear hb2 hz2))
 obtain ⟨b1, hb1⟩ : ∃ b, w.heap.size = b := ⟨_, rfl⟩
 obtain ⟨b2, hb2⟩ : ∃ b, w1.heap.size = b := ⟨_, rfl⟩
 have G1 := jh (F1.out.keep HB2.out);have HB := jh (HB1.out.trans (HB2.out.mono HB1.out.size));rw [hb1, hb2] at hq1;rw [hb2] at hq2;rw [hb1] at G1 HB;rw [hb2] at F2;have HW := jh hb1
 try rw [hb1]
 try rw [hb2]
 clear hb1 hb2 HB1 HB2 F1;refine wp_region_held (S := fun W => Vl W b1 (wyc a b c) ∧ (∃ cs, cs.length = 3 ∧ Vl W b2 cs) ∧ Below b1 w W) (by kernel_rfl) ?_;change wpAnyH _ _ _ _ _ _ _ _ (World.drew _)
 have hS0 : (fun W => Vl W b1 (wyc a b c) ∧ (∃ cs, cs.length = 3 ∧ Vl W b2 cs) ∧ Below b1 w W) w2.drew := ⟨G1.out.keep (Below.refl _ _).drew, ⟨_, rfl, F2.out.keep (Below.refl _ _).drew⟩, HB.out.drew⟩
 obtain ⟨w3, hw3⟩ : ∃ x, World.drew w2 = x := ⟨_, rfl⟩
 rw [hw3] at hS0  ⊢;clear hw3;refine jx 0 (v := .agg (wyc a b c).toArray) rfl (by kernel_rfl) (fun _ _ _=>id) ?_ hS0 ?_
 ·exact yieldsIf_load_mid (by rfl) 325 (.tmp 1) rfl b1 0 rfl (wyc a b c) d (fun W hW => hW.1.range0) HU.out HD.out (sizeWy _ _ _)
 simp only [Act.put,j1,j2,j3,j4,j5,j6];refine jx 1 (v := .agg (wyc a b c).toArray) rfl (by kernel_rfl) (fun _ _ _=>id) ?_ hS0 ?_
 ·exact yieldsIf_load_mid (by rfl) 325 (.tmp 1) rfl b1 0 rfl (wyc a b c) d (fun W hW => hW.1.range0) HU.out HD.out (sizeWy _ _ _)
 simp only [Act.put,j1,j2,j3,j4,j5,j6];refine wpAnyH_ready (rs := [2]) (by kernel_rfl) (by simp) (AllReadyH.cons rfl (fun KK hKK => ?_) AllReadyH.nil);go_simp;refine (HST.out w3).mono ?_;rintro e w4 ⟨rfl, hb⟩
 replace hS0 : (fun W => Vl W b1 (wyc a b c) ∧ (∃ cs, cs.length = 3 ∧ Vl W b2 cs) ∧ Below b1 w W) w4 := ⟨hS0.1.keep hb, hS0.2.1.imp fun _ h => ⟨h.1, h.2.keep hb⟩, hS0.2.2.trans (hb.mono (Nat.le_of_lt hS0.1.lt))⟩
 clear hb;refine hKK _ _ hS0 ?_;intro _;clear hKK KK
 try simp only [Act.put,j1,j2,j3,j4,j5,j6]
 refine jk 3 (v:=?_) rfl (by kernel_rfl) (fun _ _ _=>id) (by rfl) ?_ hS0 ?_;rotate_left
 ·intro W hW;go_simp;try with_reducible rfl
 simp only [Act.put,j1,j2,j3,j4,j5,j6];refine wpAnyH_ready (rs := [4]) (by kernel_rfl) (by simp) (AllReadyH.cons rfl (fun KK hKK => ?_) AllReadyH.nil);go_simp;refine (HFI.out w4).mono ?_;rintro e w5 ⟨rfl, hb⟩
 replace hS0 : (fun W => Vl W b1 (wyc a b c) ∧ (∃ cs, cs.length = 3 ∧ Vl W b2 cs) ∧ Below b1 w W) w5 := ⟨hS0.1.keep hb, hS0.2.1.imp fun _ h => ⟨h.1, h.2.keep hb⟩, hS0.2.2.trans (hb.mono (Nat.le_of_lt hS0.1.lt))⟩
 clear hb;refine hKK _ _ hS0 ?_;intro _;clear hKK KK
 try simp only [Act.put,j1,j2,j3,j4,j5,j6]
 obtain ⟨cs, hcl, hVb⟩ := hS0.2.1;have PF := jh (hVb.stored (wyc a b 0) (by rw [hcl]; rfl));refine wpAnyH_ready (rs := [5]) (by kernel_rfl) (by simp) (AllReadyH.cons rfl (fun KK hKK => ?_) AllReadyH.nil);refine step_store_mid rfl 325 _ _ rfl b2 0 (wyc a b 0).toArray rfl rfl (hVb.there0 3 (by rw [hcl])) (sizeWy _ _ _) (all_oneCell_toArray (wyc_one _ _ _)) ?_;have hk : Kp w5 (w5.setCells b2 0 (wyc a b 0)) b2 b2 := (Kp.refl w5 b2 b2).setCells b2 0 (.inl rfl) _
 have hS1 : (fun W => Vl W b1 (wyc a b c) ∧ (∃ cs, cs.length = 3 ∧ Vl W b2 cs) ∧ Below b1 w W) (w5.setCells b2 0 (wyc a b 0)) := ⟨hS0.1.kp hk (by omega) (by omega), ⟨_, rfl, PF.out⟩, hS0.2.2.trans (hk.below (by omega) (by omega) (Nat.le_of_lt hS0.1.lt))⟩
 obtain ⟨w6, hw6⟩ : ∃ x, w5.setCells b2 0 (wyc a b 0) = x := ⟨_, rfl⟩
 change KK _ (w5.setCells b2 0 (wyc a b 0));rw [hw6] at hS1 PF ⊢;clear hS0 hw6 hk;refine hKK _ _ hS1 ?_;intro _;clear hKK KK
 try simp only [Act.put,j1,j2,j3,j4,j5,j6]
 refine wpAnyH_done (by kernel_rfl) ?_ _;have HBz := jh hS1.2.2;clear hS1
 go_wp2_with fail
 exact bodyPost_ret_by (results_mid rfl _ _ b2 _ d rfl PF.out.range0 HU.out HD.out (sizeWy _ _ _)) rfl ⟨rfl, by rw [HW.out]; exact HBz.out⟩
end Go.Proofs.YtgdapkbenmlabaaGreatDoor
namespace Go.Proofs
open Go.Shelf
def Tryz.lays162_ren : Go.Shelf.Ren := ⟨fun | 162 => 198 | 232 => 231 | 227 => 232 | 234 => 233 | 236 => 234 | 228 => 263 | 271 => 264 | 151 => 265 | 120 => 279 | 197 => 274 | 152 => 280 | 260 => 282 | 137 => 289 | 119 => 290 | 224 => 285 | 225 => 284 | 217 => 283 | 266 => 291 | n => n, fun | 9 => 9 | 4 => 4 | 3 => 3 | 5 => 5 | 117 => 373 | 116 => 372 | 0 => 0 | 124 => 376 | 21 => 21 | 105 => 405 | 46 => 343 | 119 => 426 | 139 => 429 | 138 => 428 | n => n, fun | 3 => 1 | 4 => 2 | n => n⟩
theorem Tryz.lays162 : Go.Proofs.Lays.n162 Tryz.prog Tryz.lays162_ren := {
 mixed := by kernel_rfl
 f119 := Tryz.func290.trans (congrArg some (by kernel_rfl))
 f120 := Tryz.func279.trans (congrArg some (by kernel_rfl))
 f137 := Tryz.func289.trans (congrArg some (by kernel_rfl))
 f151 := Tryz.func265.trans (congrArg some (by kernel_rfl))
 f152 := Tryz.func280.trans (congrArg some (by kernel_rfl))
 f162 := Tryz.func198.trans (congrArg some (by kernel_rfl))
 f197 := Tryz.func274.trans (congrArg some (by kernel_rfl))
 f217 := Tryz.func283.trans (congrArg some (by kernel_rfl))
 f224 := Tryz.func285.trans (congrArg some (by kernel_rfl))
 f225 := Tryz.func284.trans (congrArg some (by kernel_rfl))
 f227 := Tryz.func232.trans (congrArg some (by kernel_rfl))
 f228 := Tryz.func263.trans (congrArg some (by kernel_rfl))
 f232 := Tryz.func231.trans (congrArg some (by kernel_rfl))
 f234 := Tryz.func233.trans (congrArg some (by kernel_rfl))
 f236 := Tryz.func234.trans (congrArg some (by kernel_rfl))
 f260 := Tryz.func282.trans (congrArg some (by kernel_rfl))
 f266 := Tryz.func291.trans (congrArg some (by kernel_rfl))
 f271 := Tryz.func264.trans (congrArg some (by kernel_rfl))
 t0 := Tryz.underlying0
 a0 := Tryz.isAgg0
 z0 := Tryz.sizeOf0
 v0 := Tryz.zeroValue0
 t3 := Tryz.underlying3
 a3 := Tryz.isAgg3
 z3 := Tryz.sizeOf3
 v3 := Tryz.zeroValue3
 t4 := Tryz.underlying4
 a4 := Tryz.isAgg4
 z4 := Tryz.sizeOf4
 v4 := Tryz.zeroValue4
 t5 := Tryz.underlying5
 a5 := Tryz.isAgg5
 z5 := Tryz.sizeOf5
 v5 := Tryz.zeroValue5
 t9 := Tryz.underlying9
 a9 := Tryz.isAgg9
 z9 := Tryz.sizeOf9
 v9 := Tryz.zeroValue9
 t21 := Tryz.underlying21
 a21 := Tryz.isAgg21
 z21 := Tryz.sizeOf21
 v21 := Tryz.zeroValue21
 t46 := Tryz.underlying343
 a46 := Tryz.isAgg343
 z46 := Tryz.sizeOf343
 v46 := Tryz.zeroValue343
 t105 := Tryz.underlying405
 a105 := Tryz.isAgg405
 z105 := Tryz.sizeOf405
 v105 := Tryz.zeroValue405
 t116 := Tryz.underlying372
 a116 := Tryz.isAgg372
 z116 := Tryz.sizeOf372
 t117 := Tryz.underlying373
 a117 := Tryz.isAgg373
 z117 := Tryz.sizeOf373
 v117 := Tryz.zeroValue373
 t119 := Tryz.underlying426
 a119 := Tryz.isAgg426
 z119 := Tryz.sizeOf426
 t124 := Tryz.underlying376
 a124 := Tryz.isAgg376
 z124 := Tryz.sizeOf376
 v124 := Tryz.zeroValue376
 t138 := Tryz.underlying428
 a138 := Tryz.isAgg428
 z138 := Tryz.sizeOf428
 v138 := Tryz.zeroValue428
 t139 := Tryz.underlying429
 a139 := Tryz.isAgg429
 z139 := Tryz.sizeOf429
 v139 := Tryz.zeroValue429
 g3 := by kernel_rfl
 g4 := by kernel_rfl }
open Go.RowKit in
theorem Tryz.strings_TrimRight_one (s : ByteArray) (c : UInt8) (hc : c.toNat < 128) (w : World) (hs : s.size ≤ 9223372036854775807) :
  Calls Tryz.prog 198 #[.string s, .string ⟨#[c]⟩] w fun e w' => e = .returned (.string ⟨(Lib.trimRightB s.data.toList c).toArray⟩) ∧ w' = w := Any.strings_TrimRight_one Tryz.lays162 s c hc w hs
def Tryz.lays189_ren : Go.Shelf.Ren := ⟨fun | 189 => 150 | 125 => 204 | 257 => 203 | 128 => 244 | 129 => 245 | 294 => 235 | 295 => 236 | 296 => 237 | 297 => 238 | 298 => 239 | 299 => 240 | 216 => 241 | 300 => 242 | 301 => 243 | 328 => 266 | 329 => 267 | 330 => 268 | 331 => 269 | 332 => 270 | 215 => 271 | 343 => 281 | n => n, fun | 28 => 120 | 3 => 3 | 46 => 343 | 0 => 0 | 51 => 74 | 53 => 386 | 4 => 4 | 183 => 379 | 182 => 378 | 131 => 222 | 5 => 5 | 9 => 9 | 218 => 408 | 222 => 412 | 228 => 420 | 229 => 65 | n => n, fun | n => n⟩
theorem Tryz.lays189 : Go.Proofs.Lays.n189 Tryz.prog Tryz.lays189_ren := {
 mixed := by kernel_rfl
 f125 := Tryz.func204.trans (congrArg some (by kernel_rfl))
 f128 := Tryz.func244.trans (congrArg some (by kernel_rfl))
 f129 := Tryz.func245.trans (congrArg some (by kernel_rfl))
 f189 := Tryz.func150.trans (congrArg some (by kernel_rfl))
 f215 := Tryz.func271.trans (congrArg some (by kernel_rfl))
 f216 := Tryz.func241.trans (congrArg some (by kernel_rfl))
 f257 := Tryz.func203.trans (congrArg some (by kernel_rfl))
 f294 := Tryz.func235.trans (congrArg some (by kernel_rfl))
 f295 := Tryz.func236.trans (congrArg some (by kernel_rfl))
 f296 := Tryz.func237.trans (congrArg some (by kernel_rfl))
 f297 := Tryz.func238.trans (congrArg some (by kernel_rfl))
 f298 := Tryz.func239.trans (congrArg some (by kernel_rfl))
 f299 := Tryz.func240.trans (congrArg some (by kernel_rfl))
 f300 := Tryz.func242.trans (congrArg some (by kernel_rfl))
 f301 := Tryz.func243.trans (congrArg some (by kernel_rfl))
 f328 := Tryz.func266.trans (congrArg some (by kernel_rfl))
 f329 := Tryz.func267.trans (congrArg some (by kernel_rfl))
 f330 := Tryz.func268.trans (congrArg some (by kernel_rfl))
 f331 := Tryz.func269.trans (congrArg some (by kernel_rfl))
 f332 := Tryz.func270.trans (congrArg some (by kernel_rfl))
 f343 := Tryz.func281.trans (congrArg some (by kernel_rfl))
 t0 := Tryz.underlying0
 a0 := Tryz.isAgg0
 z0 := Tryz.sizeOf0
 v0 := Tryz.zeroValue0
 t3 := Tryz.underlying3
 a3 := Tryz.isAgg3
 z3 := Tryz.sizeOf3
 v3 := Tryz.zeroValue3
 t4 := Tryz.underlying4
 a4 := Tryz.isAgg4
 z4 := Tryz.sizeOf4
 v4 := Tryz.zeroValue4
 t5 := Tryz.underlying5
 a5 := Tryz.isAgg5
 z5 := Tryz.sizeOf5
 v5 := Tryz.zeroValue5
 t9 := Tryz.underlying9
 a9 := Tryz.isAgg9
 z9 := Tryz.sizeOf9
 v9 := Tryz.zeroValue9
 t28 := Tryz.underlying120
 a28 := Tryz.isAgg120
 z28 := Tryz.sizeOf120
 v28 := Tryz.zeroValue120
 t46 := Tryz.underlying343
 a46 := Tryz.isAgg343
 z46 := Tryz.sizeOf343
 v46 := Tryz.zeroValue343
 t51 := Tryz.underlying74
 a51 := Tryz.isAgg74
 z51 := Tryz.sizeOf74
 v51 := Tryz.zeroValue74
 t53 := Tryz.underlying386
 a53 := Tryz.isAgg386
 z53 := Tryz.sizeOf386
 v53 := Tryz.zeroValue386
 t131 := Tryz.underlying222
 a131 := Tryz.isAgg222
 z131 := Tryz.sizeOf222
 v131 := Tryz.zeroValue222
 t182 := Tryz.underlying378
 a182 := Tryz.isAgg378
 z182 := Tryz.sizeOf378
 v182 := Tryz.zeroValue378
 t183 := Tryz.underlying379
 a183 := Tryz.isAgg379
 z183 := Tryz.sizeOf379
 v183 := Tryz.zeroValue379
 t218 := Tryz.underlying408
 a218 := Tryz.isAgg408
 z218 := Tryz.sizeOf408
 v218 := Tryz.zeroValue408
 t222 := Tryz.underlying412
 a222 := Tryz.isAgg412
 z222 := Tryz.sizeOf412
 v222 := Tryz.zeroValue412
 t228 := Tryz.underlying420
 a228 := Tryz.isAgg420
 z228 := Tryz.sizeOf420
 v228 := Tryz.zeroValue420
 t229 := Tryz.underlying65
 a229 := Tryz.isAgg65
 z229 := Tryz.sizeOf65
 v229 := Tryz.zeroValue65 }
open Go.Sort Go.RowKit in
theorem Tryz.slices_Sort_int (blk off cap : Nat) (zs : List Int) (w : World) (hH : Holds (Value.int .i64) w blk off zs.toArray) (hblk : blk < w.heap.size) (hsz : zs.length < 4611686018427387904) :
  Calls Tryz.prog 150 #[.slice (some ⟨blk, off, none⟩) zs.length cap] w fun e w' =>
   e = .returned (.tuple #[]) ∧ ∃ n os, w' = grow (putRow (Value.int .i64) (Sort.ahead w n) blk off (zs.mergeSort fun x y => decide (x ≤ y)).toArray) os := Any.slices_Sort_int Tryz.lays189 blk off cap zs w hH hblk hsz
end Go.Proofs
