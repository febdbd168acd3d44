import Derived.Test.YtdebkifnaiohcaaG10
import Derived.Test.YtdebkifnaiohcaaE6
import Derived.Deep.RegionHeld
/- point: a node is given its pointers. -/
namespace Go.Proofs.Ytdebkifnaiohcaa
set_option linter.unusedSimpArgs false
set_option linter.unusedVariables false
open Go.RowKit Go.Maps


/-- a node with these pointers -/
def ptN (f p : Nat → Int) : Nat → Int := fun i => if i < 4 then f i else p (i - 4)
theorem Vl.lay6 {w : World} {g : Nat} {f : Nat → Int} (h : Vl w g (ndc f)) (q : Nat → Int) : Vl (w.setCells g 4 (drc q)) g (ndc fun i => if 4 ≤ i ∧ i < 10 then q i else f i) := by
  have ht : w.there g 4 6 := fun j hj => by
    have := h.there0 12 rfl (4 + j) (by omega)
    rwa [Nat.zero_add] at this
  refine ⟨by rw [size_setCells]; exact h.lt, fun j v hj => ?_, fun j hj => by rw [World.frozen?_setCells]; exact h.z j hj⟩
  have hj12 : j < 12 := (List.getElem?_eq_some_iff.1 hj).1
  by_cases h6 : 4 ≤ j ∧ j < 10
  · have := World.rangeAt_setCells_same w g 4 (drc q) ht (j - 4) v (by
      match j, hj12, h6 with
      | 4, _, _ | 5, _, _ | 6, _, _ | 7, _, _ | 8, _, _ | 9, _, _ => exact hj)
    rwa [show 4 + (j - 4) = j by omega] at this
  · rw [World.cell?_setCells_out g (drc q) 4 w _ (fun _ _ => by show j < 4 ∨ 4 + 6 ≤ j; omega)]
    refine h.c j v ?_
    match j, hj12, h6 with
    | 0, _, _ | 1, _, _ | 2, _, _ | 3, _, _ | 10, _, _ | 11, _, _ => exact hj
set_option maxHeartbeats 4000000 in
set_option maxRecDepth 100000 in
theorem point_any26 (gn : Nat) (f p : Nat → Int) (w : World) (F : Vl w gn (ndc f)) : Calls Try.prog 26 #[.pointer (some ⟨gn, 0, none⟩), .agg (ptc p).toArray] w fun e w' => e = .returned (.tuple #[]) ∧ Vl w' gn (ndc (ptN f p)) ∧ Kp w w' gn gn := by
  have HF := Lib.hid F
  have hlt := F.lt
  clear F
  go_enter Try.func26, Try.ntmps26
  go_upto_region 1 with (refine wpList_box_list (w := w) rfl 70 _ rfl (ptc p) rfl ?_; intro w1 F1 hb1 hz1; have HB1 := Lib.hid hb1; have hq1 : w.heap.size < w1.heap.size := (by omega); clear hb1 hz1)
  have HK := Lib.hid (Kp.of_below HB1.out gn gn)
  have HG := Lib.hid (HF.out.keep HB1.out)
  obtain ⟨b1, hb1⟩ : ∃ b, w.heap.size = b := ⟨_, rfl⟩
  rw [hb1] at F1 hq1 hlt ⊢
  have HW := Lib.hid hb1
  clear hb1 HF HB1
  go_still_tail 5, (by kernel_rfl)
  have D1 := Lib.hid (F1.out.keep (Below.refl w1.heap.size w1).drew)
  have D2 := Lib.hid (HG.out.keep (Below.refl w1.heap.size w1).drew)
  have DK := Lib.hid (HK.out.drew)
  have hq2 : b1 < (World.drew w1).heap.size := hq1
  change wpList _ _ _ _ _ (World.drew w1)
  obtain ⟨w2, hw⟩ : ∃ x, World.drew w1 = x := ⟨_, rfl⟩
  rw [hw] at D1 D2 DK hq2 ⊢
  clear hw F1 HG HK hq1
  refine wpList_copy_mid rfl (.tmp 7) (.tmp 8) 101 101 rfl 23 Try.sl101 1 Try.isize23 gn 4 6 6 (some ⟨b1, 0, none⟩) 8 8 rfl rfl (drc fun i => p (i - 4)) rfl (fun _ => ⟨_, rfl, fun j v hj => ?_⟩) ?_ (drc_one _) ?_
  · rw [Addr.add_mid, Nat.zero_add]
    refine D1.out.c j v ?_
    have hj6 : j < 6 := (List.getElem?_eq_some_iff.1 hj).1
    match j, hj6 with
    | 0, _ | 1, _ | 2, _ | 3, _ | 4, _ | 5, _ => exact hj
  · intro j hj
    have := D2.out.there0 12 rfl (4 + j) (by have : j < 6 := hj; omega)
    rwa [Nat.zero_add] at this
  have E2 := Lib.hid (D2.out.lay6 fun i => p (i - 4))
  have hk : Kp w2 (w2.setCells gn 4 (drc fun i => p (i - 4))) gn gn := (Kp.refl w2 gn gn).setCells gn 4 (.inl rfl) _
  have E1 := Lib.hid (D1.out.kp hk (by omega) (by omega))
  have EK := Lib.hid (DK.out.trans hk)
  obtain ⟨w3, hw⟩ : ∃ x, w2.setCells gn 4 (drc fun i => p (i - 4)) = x := ⟨_, rfl⟩
  rw [hw] at E1 E2 EK hk ⊢
  have hq3 := hk.size
  clear hw hk D1 D2 DK
  have c6 := E1.out.c 6 _ rfl
  have c10 := E2.out.c 10 _ rfl
  have z10 := E2.out.z 10 (by show 10 < 12; decide)
  go_upto_region 3 with fail
  have N2 := Lib.hid (E2.out.set 10 (by show 10 < 12; decide) (.int .u16 (p 6)))
  have hk : Kp w3 (w3.setCell ⟨gn, 10, none⟩ (.int .u16 (p 6))) gn gn := (Kp.refl _ _ _).setA 10 _
  have N1 := Lib.hid (E1.out.kp hk (by omega) (by omega))
  have NK := Lib.hid (EK.out.trans hk)
  obtain ⟨w4, hw⟩ : ∃ x, w3.setCell ⟨gn, 10, none⟩ (.int .u16 (p 6)) = x := ⟨_, rfl⟩
  rw [hw] at N1 N2 NK hk ⊢
  clear hw hk E1 E2 EK c6 c10 z10
  have c7 := N1.out.c 7 _ rfl
  have c11 := N2.out.c 11 _ rfl
  have z11 := N2.out.z 11 (by show 11 < 12; decide)
  have P2 := Lib.hid (N2.out.set 11 (by show 11 < 12; decide) (.int .u16 (p 7)))
  have PK := Lib.hid (NK.out.trans ((Kp.refl w4 gn gn).setA 11 (.int .u16 (p 7))))
  have hP : ((ndc fun i => if 4 ≤ i ∧ i < 10 then (fun i => p (i - 4)) i else f i).set 10 (.int .u16 (p 6))).set 11 (.int .u16 (p 7)) = ndc (ptN f p) := rfl
  rw [hP] at P2
  clear N1 N2 NK hP
  go_wp2_with fail
  go_end0
  exact ⟨rfl, P2.out, PK.out⟩
end Go.Proofs.Ytdebkifnaiohcaa
