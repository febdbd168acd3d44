import Derived.Test.YtdebkifnaiohcaaG8
import Derived.StillTailTactics
import Derived.Deep.CutBlock
import Derived.Deep.DeepCutAuto
/- A node's pointers. -/
namespace Go.Proofs.Ytdebkifnaiohcaa
set_option linter.unusedSimpArgs false
set_option linter.unusedVariables false
open Go.RowKit Go.Maps


def zpt : Nat → Int := fun _ => 0
theorem Try.zero70 : (Try.prog.info? 70).map (fun i => i.zero) = some (some (.agg (ptc zpt).toArray)) := by kernel_rfl
theorem Try.isize70 : (Try.prog.info? 70).map (·.size) = some 8 := by kernel_rfl
theorem size70 (f : Nat → Int) : (Try.prog.info? 70).map (·.size) = some (ptc f).length := Try.isize70
theorem size70' (f : Nat → Int) : (Try.prog.info? 70).map (·.size) = some (ptc f).toArray.size := Try.isize70
theorem Try.desc70 : ∃ d, Try.prog.underlying 70 = some d ∧ d.isRow = true := ⟨_, Try.underlying70, rfl⟩
theorem Try.sl101 : Try.prog.underlying 101 = some (.slice 23) := Try.underlying101
theorem Try.isize23 : (Try.prog.info? 23).map (·.size) = some 1 := by kernel_rfl
theorem drc_one (f : Nat → Int) : ∀ v ∈ drc f, v.oneCell' = true := by
  intro v hv
  simp only [drc, List.mem_cons, List.not_mem_nil, or_false] at hv
  rcases hv with rfl | rfl | rfl | rfl | rfl | rfl <;> rfl
/-- six of eight pointers laid over -/
theorem Vl.six {w : World} {g : Nat} {p : Nat → Int} (h : Vl w g (ptc p)) (f : Nat → Int) : Vl (w.setCells g 0 (drc f)) g (ptc fun i => if i < 6 then f (4 + i) else p i) := by
  have ht : w.there g 0 6 := fun j hj => h.there0 8 rfl j (by omega)
  refine ⟨by rw [size_setCells]; exact h.lt, fun j v hj => ?_, fun j hj => by rw [World.frozen?_setCells]; exact h.z j hj⟩
  have hj8 : j < 8 := (List.getElem?_eq_some_iff.1 hj).1
  by_cases h6 : j < 6
  · have := World.rangeAt_setCells_same w g 0 (drc f) ht j v (by
      match j, h6 with
      | 0, _ | 1, _ | 2, _ | 3, _ | 4, _ | 5, _ => exact hj)
    rwa [Nat.zero_add] at this
  · rw [World.cell?_setCells_out g (drc f) 0 w _ (fun _ _ => by show j < 0 ∨ 0 + 6 ≤ j; omega)]
    refine h.c j v ?_
    match j, hj8, h6 with
    | 6, _, _ => exact hj
    | 7, _, _ => exact hj
def ptOf (f : Nat → Int) : Nat → Int := fun i => f (4 + i)
set_option maxHeartbeats 4000000 in
set_option maxRecDepth 100000 in
theorem pointersof_any (f : Nat → Int) (w : World) : Calls Try.prog 24 #[.agg (ndc f).toArray] w fun e w' => e = .returned (.agg (ptc (ptOf f)).toArray) ∧ Below w.heap.size w w' := by
  obtain ⟨d, hu, hd⟩ := Try.desc70
  have HU := Lib.hid hu
  have HD := Lib.hid hd
  clear hu hd
  go_enter Try.func24, Try.ntmps24
  go_upto_region 2 with (first | (refine wpList_box_list (w := w) rfl 27 _ rfl (ndc f) rfl ?_; intro w1 F1 hb1 hz1; have HB1 := Lib.hid hb1; have hq1 : w.heap.size < w1.heap.size := (by omega); clear hb1 hz1) | (refine wpList_alloc_list (w := w1) rfl 70 rfl (ptc zpt) Try.zero70 ?_; intro w2 F2 hb2 hz2; have HB2 := Lib.hid hb2; have hq2 : w1.heap.size < w2.heap.size := (by omega); clear hb2 hz2) | (refine wpList_alloc_list (w := w2) rfl 70 rfl (ptc zpt) Try.zero70 ?_; intro w3 F3 hb3 hz3; have HB3 := Lib.hid hb3; have hq3 : w2.heap.size < w3.heap.size := (by omega); clear hb3 hz3))
  obtain ⟨b1, hb1⟩ : ∃ b, w.heap.size = b := ⟨_, rfl⟩
  obtain ⟨b2, hb2⟩ : ∃ b, w1.heap.size = b := ⟨_, rfl⟩
  obtain ⟨b3, hb3⟩ : ∃ b, w2.heap.size = b := ⟨_, rfl⟩
  have G1 := Lib.hid ((F1.out.keep HB2.out).keep HB3.out)
  have G2 := Lib.hid (F2.out.keep HB3.out)
  have HB := Lib.hid ((HB1.out.trans (HB2.out.mono HB1.out.size)).trans (HB3.out.mono (Nat.le_trans HB1.out.size HB2.out.size)))
  rw [hb1, hb2] at hq1
  rw [hb2, hb3] at hq2
  rw [hb3] at hq3
  rw [hb1] at G1 HB
  rw [hb2] at G2
  rw [hb3] at F3
  have HW := Lib.hid hb1
  try rw [hb1]
  try rw [hb2]
  try rw [hb3]
  clear hb1 hb2 hb3 HB1 HB2 HB3 F1 F2
  go_still_tail 3, (by kernel_rfl)
  have D1 := Lib.hid (G1.out.keep (Below.refl w3.heap.size w3).drew)
  have D2 := Lib.hid (G2.out.keep (Below.refl w3.heap.size w3).drew)
  have D3 := Lib.hid (F3.out.keep (Below.refl w3.heap.size w3).drew)
  have DB := Lib.hid (HB.out.drew)
  change wpList _ _ _ _ _ (World.drew w3)
  have hq4 : b3 < (World.drew w3).heap.size := hq3
  obtain ⟨w4, hw4⟩ : ∃ x, World.drew w3 = x := ⟨_, rfl⟩
  rw [hw4] at D1 D2 D3 DB hq4 ⊢
  clear hw4 G1 G2 F3 HB hq3
  refine wpList_copy_mid rfl (.tmp 4) (.tmp 6) 101 101 rfl 23 Try.sl101 1 Try.isize23 b3 0 8 8 (some ⟨b1, 4, none⟩) 6 6 rfl rfl (drc f) rfl (fun _ => ⟨_, rfl, fun j v hj => ?_⟩) ?_ (drc_one f) ?_
  · rw [Addr.add_mid]
    exact D1.out.range4 j v hj
  · exact fun j hj => D3.out.there0 8 rfl j (Nat.lt_of_lt_of_le hj (by show 6 ≤ 8; decide))
  have E3 := Lib.hid (D3.out.six f)
  have hk : Kp w4 (w4.setCells b3 0 (drc f)) b3 b3 := (Kp.refl w4 b3 b3).setCells b3 0 (.inl rfl) _
  have E1 := Lib.hid (D1.out.kp hk (by omega) (by omega))
  have E2 := Lib.hid (D2.out.kp hk (by omega) (by omega))
  have EB := Lib.hid (DB.out.trans (hk.below (by omega) (by omega) (by omega)))
  obtain ⟨w5, hw5⟩ : ∃ x, w4.setCells b3 0 (drc f) = x := ⟨_, rfl⟩
  rw [hw5] at E1 E2 E3 EB hk ⊢
  have hq5 := hk.size
  clear hw5 hk D1 D2 D3 DB
  have c10 := E1.out.c 10 _ rfl
  have c6 := E3.out.c 6 _ rfl
  have z6 := E3.out.z 6 (by show 6 < 8; decide)
  go_upto_region 4 with fail
  have N3 := Lib.hid (E3.out.set 6 (by show 6 < 8; decide) (.int .u16 (f 10)))
  have hk : Kp w5 (w5.setCell ⟨b3, 6, none⟩ (.int .u16 (f 10))) b3 b3 := (Kp.refl _ _ _).setA 6 _
  have N1 := Lib.hid (E1.out.kp hk (by omega) (by omega))
  have N2 := Lib.hid (E2.out.kp hk (by omega) (by omega))
  have NB := Lib.hid (EB.out.trans (hk.below (by omega) (by omega) (by omega)))
  obtain ⟨w6, hw6⟩ : ∃ x, w5.setCell ⟨b3, 6, none⟩ (.int .u16 (f 10)) = x := ⟨_, rfl⟩
  rw [hw6] at N1 N2 N3 NB hk ⊢
  have hq6 := hk.size
  clear hw6 hk E1 E2 E3 EB c10 c6 z6
  have c11 := N1.out.c 11 _ rfl
  have c7 := N3.out.c 7 _ rfl
  have z7 := N3.out.z 7 (by show 7 < 8; decide)
  go_upto_region 5 with fail
  have P3 := Lib.hid (N3.out.set 7 (by show 7 < 8; decide) (.int .u16 (f 11)))
  have hk : Kp w6 (w6.setCell ⟨b3, 7, none⟩ (.int .u16 (f 11))) b3 b3 := (Kp.refl _ _ _).setA 7 _
  have P2 := Lib.hid (N2.out.kp hk (by omega) (by omega))
  have PB := Lib.hid (NB.out.trans (hk.below (by omega) (by omega) (by omega)))
  obtain ⟨w7, hw7⟩ : ∃ x, w6.setCell ⟨b3, 7, none⟩ (.int .u16 (f 11)) = x := ⟨_, rfl⟩
  rw [hw7] at P2 P3 PB hk ⊢
  have hq7 := hk.size
  clear hw7 hk N1 N2 N3 NB c11 c7 z7
  have hP : ((ptc fun i => if i < 6 then f (4 + i) else zpt i).set 6 (.int .u16 (f 10))).set 7 (.int .u16 (f 11)) = ptc (ptOf f) := rfl
  rw [hP] at P3
  have HR := Lib.hid P3.out.range0
  have PF := Lib.hid (P2.out.stored (ptc (ptOf f)) rfl)
  go_wp2_with (first | (refine wpList_load_mid rfl 70 _ rfl b3 0 rfl (ptc (ptOf f)) d HR.out HU.out HD.out (size70 _) ?_) | (refine wpList_store_mid rfl 70 _ _ rfl b2 0 (ptc (ptOf f)).toArray rfl rfl (P2.out.there0 8 rfl) (size70' _) (all_oneCell_toArray (ptc_one _)) ?_))
  exact bodyPost_ret_by (results_mid rfl _ _ b2 _ d rfl PF.out.range0 HU.out HD.out (size70 _)) rfl ⟨rfl, by rw [HW.out]; exact below_setCells PB.out b2 0 (by omega) _⟩
end Go.Proofs.Ytdebkifnaiohcaa
