import Derived.Test.YtnfadmifdncjoaaGreatQ4
/- The fixed fact; GroupNone: the walk. -/
namespace Go.Proofs.YtnfadmifdncjoaaGreat
set_option linter.unusedSimpArgs false
set_option linter.unusedVariables false
open Go.RowKit Go.Maps

variable {ln : Lm}
theorem Tryz.buildSize0 (w : World) : (Instr.build 26 #[]).run Tryz.prog w = .ok (Cf.sizeVal 0 (fun _ _ => 0) (.slice none 0 0)) w := by kernel_rfl
theorem u8s_none (w : World) : Cf.U8s w (.slice none 0 0) [] := .inl ⟨none, 0, rfl, rfl⟩
theorem hok0 : Cf.Hok fun _ _ => 0 := fun _ _ _ _ => ⟨Int.le_refl _, (by show (0 : Int) < 256; decide)⟩
theorem zero_byt (x : Nat) : Byt ((fun _ _ => 0 : Nat → Nat → Int) x) := fun j _ => ⟨Int.le_refl _, (by show (0 : Int) < 256; decide)⟩
theorem fr_of {b : Nat → Bool} {n i : Nat} (hi : i < n) (h0 : b i = false) (h1 : ∀ j, j < i → b j = true) : Fr b n i := .inr ⟨i, hi, rfl, h0, h1⟩
set_option maxHeartbeats 20000000 in
set_option maxRecDepth 100000 in
theorem awake_any (w : World) : Calls Tryz.prog 7 #[] w fun e w' => e = .returned (.bool true) ∧ Below w.heap.size w w' := by
  have hM4 : (2 : Nat) = 2 ∨ 2 = 3 ∨ 2 = 4 ∨ 2 = 5 := .inl rfl
  have hP := Lib.hid (fun W => Cf.sizeconf_two 0 (by decide) (by decide) (fun _ _ => 0) hok0 (.slice none 0 0) [] (fun x hx => by cases hx) W (u8s_none W) (by decide) rfl)
  have HLEN := Lib.hid (Cf.sizeRs_len 2 hM4 fun _ _ => 0)
  have HSM := Lib.hid (Cf.size_small 2 hM4 (fun _ _ => 0) hok0)
  have HBS := Lib.hid Tryz.buildSize0
  obtain ⟨R, hR⟩ : ∃ x, Cf.sizeRs 2 (fun _ _ => 0) = x := ⟨_, rfl⟩
  obtain ⟨MS, hMS⟩ : ∃ x, Cf.sizeMs 2 [] = x := ⟨_, rfl⟩
  rw [hR] at hP HLEN HSM
  rw [hMS] at hP
  have hR5 : 2 ≤ R.length ∧ R.length ≤ 5 := by rw [HLEN.out]; omega
  obtain ⟨sv, hsv⟩ : ∃ sv : Array Value, Cf.sizeVal 0 (fun _ _ => 0) (.slice none 0 0) = .agg sv := ⟨_, rfl⟩
  rw [hsv] at hP HBS
  have hT := Cf.layF_range R HSM.out R.length (Nat.le_refl _)
  rw [List.take_length] at hT
  obtain ⟨N, hN⟩ := Int.eq_ofNat_of_zero_le (show 0 ≤ (Cf.layF R).2 by omega)
  have hN0 : 32 ≤ N := by omega
  have hN1 : N ≤ 65536 := by omega
  obtain ⟨g, hgi⟩ : ∃ g, (Cf.layF R).1[0]'(by rw [Cf.lay_len]; omega) = g := ⟨_, rfl⟩
  obtain ⟨B0, P0, M, DA, NB, hg, -, -⟩ := geo_gg R HSM.out (by omega) N hN 0 (by omega) g hgi
  have HN := Lib.hid hN
  have HGI := Lib.hid hgi
  have HG := Lib.hid hg
  have hD : B0 < DA := by have := hg.bp; have := hg.pd; omega
  have hNB : 4 ≤ NB := hg.n4
  have hN5 : NB ≤ 512 := hg.n512
  clear hM4 hR hMS hsv hT hN hgi hg HLEN
  go_enter Tryz.func7, Tryz.ntmps7
  go_wp2_with (first | (refine wpList_yields (.agg sv) (yields_bld0 (by rfl) 26 rfl _ HBS.out) ?_))
  refine (hP.out w).mono ?_
  rintro e w2 ⟨n, vr, vm, vg, rfl, hn, hb2, hCF⟩
  have HB2 := Lib.hid hb2
  have HCF := Lib.hid hCF
  clear hb2 hCF hP hn HBS
  go_wp2_with fail
  refine (begun_any n vr vm vg R MS HSM.out (by omega) (by omega) N HN.out hN0 hN1 w2 HCF.out).mono ?_
  rintro e w3 ⟨t, mm, dd, gg, l, rfl, hFr, hll, hln, hLg, hRd, hb3⟩
  have HFr := Lib.hid (show From w.heap.size t mm dd gg from ⟨Nat.le_trans HB2.out.size hFr.1, Nat.le_trans HB2.out.size hFr.2.1, Nat.le_trans HB2.out.size hFr.2.2.1, Nat.le_trans HB2.out.size hFr.2.2.2⟩)
  have HR3 := Lib.hid hRd
  have HCF3 := Lib.hid (HCF.out.below hb3)
  have HB3 := Lib.hid (HB2.out.trans (hb3.mono HB2.out.size))
  clear hFr hll hln hLg hRd hb3 HCF HB2
  have HO := Lib.hid (gopen_in t mm dd gg n B0 P0 M DA NB N 1 _ vr vm vg R MS 0 (by omega) g HGI.out HG.out w3 HCF3.out (HR3.out.wide (Lm.nil_le [B0, DA, DA + 1] _)))
  go_wp2_with fail
  refine HO.out.mono ?_
  rintro e w4 ⟨q, p, rfl, hq, hp, hG, hb⟩
  have HG4 := Lib.hid hG
  have HB4 := Lib.hid (HB3.out.trans (hb.mono HB3.out.size))
  clear hq hp hG hb HO HR3 HCF3 HB3
  have HT1 := Lib.hid (gtake7 q p t mm dd gg 0 B0 P0 M DA NB N 1 g _ 0 1 rfl (by omega) (fr_of (by omega) (bt_zero _ _) (fun j hj => absurd hj (by omega))) ⟨by simp, by simp⟩ ⟨by simp, by simp⟩ (by omega) HG.out w4 HG4.out)
  obtain ⟨Y1, hY1⟩ : ∃ Y, vput (DA + 0) (fun _ => 0) (setV (fun _ _ => 0) B0 0 true) = Y := ⟨_, rfl⟩
  have HBt1 : Hid (∀ j, j < 512 → bt Y1 B0 j = if 0 = j then true else false) := fun j hj => by rw [← hY1, bt_take zero_byt B0 DA 0 j _ hD (by decide) hj, bt_zero]
  rw [hY1] at HT1
  clear hY1
  go_wp2_with fail
  refine HT1.out.mono ?_
  rintro e w5 ⟨rfl, hG, hk⟩
  have HG5 := Lib.hid hG
  have HB5 := Lib.hid (hk.after HB4.out HFr.out HB4.out.size)
  have HV1 := Lib.hid hG.rd.vb
  clear hG hk HT1 HG4 HB4
  have HT2 := Lib.hid (gtake7 q p t mm dd gg 0 B0 P0 M DA NB N _ g Y1 1 2 rfl (by omega) (fr_of (by omega) (HBt1.out 1 (by omega)) (fun j hj => by obtain rfl : j = 0 := (by omega); exact HBt1.out 0 (by omega))) ⟨by simp, by simp⟩ ⟨by simp, by simp⟩ (by omega) HG.out w5 HG5.out)
  obtain ⟨Y2, hY2⟩ : ∃ Y, vput (DA + 1) (fun _ => 0) (setV Y1 B0 1 true) = Y := ⟨_, rfl⟩
  have HBt2 : Hid (∀ j, j < 512 → bt Y2 B0 j = if 1 = j then true else if 0 = j then true else false) := fun j hj => by rw [← hY2, bt_take HV1.out B0 DA 1 j _ hD (by decide) hj, HBt1.out j hj]
  rw [hY2] at HT2
  clear hY2 HBt1 HV1
  go_wp2_with fail
  refine HT2.out.mono ?_
  rintro e w6 ⟨rfl, hG, hk⟩
  have HG6 := Lib.hid hG
  have HB6 := Lib.hid (hk.after HB5.out HFr.out HB5.out.size)
  have HV2 := Lib.hid hG.rd.vb
  clear hG hk HT2 HG5 HB5
  have HT3 := Lib.hid (ggive_ok q p t mm dd gg 0 B0 P0 M DA NB N _ g Y2 1 (by omega) (by omega) (HBt2.out 0 (by omega)) ⟨by simp, by simp⟩ (by omega) HG.out w6 HG6.out)
  obtain ⟨Y3, hY3⟩ : ∃ Y, setV Y2 B0 (1 - 1) false = Y := ⟨_, rfl⟩
  have HBt3 : bt Y3 B0 0 = false := by rw [← hY3, bt_on HV2.out B0 (1 - 1) 0 false (by decide)]; rfl
  have HBt3 := Lib.hid HBt3
  rw [hY3] at HT3
  clear hY3 HBt2 HV2
  go_wp2_with fail
  refine HT3.out.mono ?_
  rintro e w7 ⟨rfl, hG, hk⟩
  have HG7 := Lib.hid hG
  have HB7 := Lib.hid (hk.after HB6.out HFr.out HB6.out.size)
  clear hG hk HT3 HG6 HB6
  have HT4 := Lib.hid (gtake7 q p t mm dd gg 0 B0 P0 M DA NB N _ g Y3 0 1 rfl (by omega) (fr_of (by omega) HBt3.out (fun j hj => absurd hj (by omega))) ⟨by simp, by simp⟩ ⟨by simp, by simp⟩ (by omega) HG.out w7 HG7.out)
  go_wp2_with fail
  refine HT4.out.mono ?_
  rintro e w8 ⟨rfl, hG, hk⟩
  have HB8 := Lib.hid (hk.after HB7.out HFr.out HB7.out.size)
  clear hG hk HT4 HG7 HB7
  go_wp2_with fail
  go_ret
  exact ⟨rfl, HB8.out⟩
theorem Tryz.eqBlk0 (w : World) : (Op.equalIn 10000 59 (.agg (byts 64 fun _ => 0).toArray) (.agg (byts 64 fun _ => 0).toArray)).run Tryz.prog w = .ok true w := by kernel_rfl
theorem Tryz.eqNode0 (w : World) : (Op.equalIn 10000 68 (.agg (ndc zpt).toArray) (.agg (ndc zpt).toArray)).run Tryz.prog w = .ok true w := by kernel_rfl
theorem Tryz.eqIno0 (w : World) : (Op.equalIn 10000 157 (.agg (inc 0 0 0).toArray) (.agg (inc 0 0 0).toArray)).run Tryz.prog w = .ok true w := by kernel_rfl
theorem Tryz.guardBlk : Tryz.prog.eqGuardType Tryz.prog.depth 59 = false := by kernel_rfl
theorem Tryz.guardIno : Tryz.prog.eqGuardType Tryz.prog.depth 157 = false := by kernel_rfl
end Go.Proofs.YtnfadmifdncjoaaGreat
