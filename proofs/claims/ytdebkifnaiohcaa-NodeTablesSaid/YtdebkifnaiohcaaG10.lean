import Derived.Test.YtdebkifnaiohcaaG9
/- Encode: a node as bytes. -/
namespace Go.Proofs.Ytdebkifnaiohcaa
set_option linter.unusedSimpArgs false
set_option linter.unusedVariables false
open Go.RowKit Go.Maps


def zby : Nat → Int := fun _ => 0
theorem Try.zero28 : (Try.prog.info? 28).map (fun i => i.zero) = some (some (.agg (byts 32 fun _ => 0).toArray)) := by kernel_rfl
theorem Try.isize28 : (Try.prog.info? 28).map (·.size) = some 32 := by kernel_rfl
theorem size28 (f : Nat → Int) : (Try.prog.info? 28).map (·.size) = some (byts 32 f).length := by rw [Try.isize28, byts_len]
theorem size28' (f : Nat → Int) : (Try.prog.info? 28).map (·.size) = some (byts 32 f).toArray.size := by rw [Try.isize28, byts_size]
theorem Try.arr28 : Try.prog.underlying 28 = some (.array 32 5) := Try.underlying28
/-- a node's bytes -/
def encF (f : Nat → Int) : Nat → Int := fun j => if j = 0 then f 0 else if j = 1 then f 1 else if j < 4 then dig (f 2) (j - 2) else if j < 8 then dig (f 3) (j - 4) else if j < 24 then dig (f (4 + (j - 8) / 2)) ((j - 8) % 2) else 0
theorem enc_first (f : Nat → Int) (j : Nat) : upd (upd (fun j => if j = 1 then f 1 else (fun j => if j = 0 then f 0 else 0) j) 2 2 (dig (f 2))) 4 4 (dig (f 3)) j = if j < 8 + 2 * 0 then encF f j else 0 := by
  unfold upd encF
  by_cases h0 : j = 0
  · subst h0; rfl
  by_cases h1 : j = 1
  · subst h1; rfl
  simp only [h0, h1, if_false]
  by_cases h4 : j < 4
  · rw [if_neg (by omega), if_pos (by omega), if_pos (by omega), if_pos h4]
  · by_cases h8 : j < 8
    · rw [if_pos (by omega), if_pos (by omega), if_neg h4, if_pos h8]
    · rw [if_neg (by omega), if_neg (by omega), if_neg (by omega)]
theorem enc_step (f : Nat → Int) (k : Nat) (hk : k < 8) (j : Nat) : upd (fun j => if j < 8 + 2 * k then encF f j else 0) (8 + 2 * k) 2 (dig (f (4 + k))) j = if j < 8 + 2 * (k + 1) then encF f j else 0 := by
  unfold upd
  by_cases h : 8 + 2 * k ≤ j ∧ j < 8 + 2 * k + 2
  · rw [if_pos h, if_pos (by omega)]
    unfold encF
    rw [if_neg (by omega), if_neg (by omega), if_neg (by omega), if_neg (by omega), if_pos (by omega), show (j - 8) / 2 = k by omega, show (j - 8) % 2 = j - (8 + 2 * k) by omega]
  · rw [if_neg h]
    show (if j < 8 + 2 * k then encF f j else 0) = _
    by_cases h2 : j < 8 + 2 * k
    · rw [if_pos h2, if_pos (by omega)]
    · rw [if_neg h2, if_neg (by omega)]
theorem enc_last (f : Nat → Int) (j : Nat) : (if j < 8 + 2 * 8 then encF f j else 0) = encF f j := by
  by_cases h : j < 8 + 2 * 8
  · rw [if_pos h]
  · rw [if_neg h]
    unfold encF
    rw [if_neg (by omega), if_neg (by omega), if_neg (by omega), if_neg (by omega), if_neg (by omega)]
set_option maxHeartbeats 20000000 in
set_option maxRecDepth 100000 in
theorem encode_any (f : Nat → Int) (hf : NdOk f) (w : World) : Calls Try.prog 8 #[.agg (ndc f).toArray] w fun e w' => e = .returned (.agg (byts 32 (encF f)).toArray) ∧ Below w.heap.size w w' := by
  obtain ⟨d27, hu27, hd27⟩ := Try.desc27
  have HU27 := Lib.hid hu27
  have HD27 := Lib.hid hd27
  obtain ⟨g0, g1⟩ := hf.g
  obtain ⟨s0, s1⟩ := hf.s
  have HP := Lib.hid hf.p
  have HPt := Lib.hid (fun W => pointersof_any f W)
  have HS2 : Hid (∀ g F W, Fl W g 32 F → Calls Try.prog 23 #[.slice (some ⟨g, 2, none⟩) 2 30, .int .u32 (f 2)] W fun e w' => e = .returned (.tuple #[]) ∧ Fl w' g 32 (upd F 2 2 (dig (f 2))) ∧ Kp W w' g g) := fun g F W h => putnum_any g 2 2 30 32 (f 2) g0 (by omega) (by omega) (by omega) F W h
  have HS4 : Hid (∀ g F W, Fl W g 32 F → Calls Try.prog 23 #[.slice (some ⟨g, 4, none⟩) 4 28, .int .u32 (f 3)] W fun e w' => e = .returned (.tuple #[]) ∧ Fl w' g 32 (upd F 4 4 (dig (f 3))) ∧ Kp W w' g g) := fun g F W h => putnum_any g 4 4 28 32 (f 3) s0 s1 (by omega) (by omega) F W h
  have hF1 : Hid (∀ j, upd (upd (fun j => if j = 1 then f 1 else (fun j => if j = 0 then f 0 else 0) j) 2 2 (dig (f 2))) 4 4 (dig (f 3)) j = if j < 8 + 2 * 0 then encF f j else 0) := enc_first f
  clear hu27 hd27 hf
  go_enter Try.func8, Try.ntmps8
  go_upto_region 2 with (first | (refine wpList_box_list (w := w) rfl 27 _ rfl (ndc f) rfl ?_; intro w1 F1 hb1 hz1; have HB1 := Lib.hid hb1; have hq1 : w.heap.size < w1.heap.size := (by omega); clear hb1 hz1) | (refine wpList_alloc_byts (w := w1) rfl 28 32 rfl Try.zero28 ?_; intro w2 F2 hb2 hz2; have HB2 := Lib.hid hb2; have hq2 : w1.heap.size < w2.heap.size := (by omega); clear hb2 hz2) | (refine wpList_alloc_byts (w := w2) rfl 28 32 rfl Try.zero28 ?_; intro w3 F3 hb3 hz3; have HB3 := Lib.hid hb3; have hq3 : w2.heap.size < w3.heap.size := (by omega); clear hb3 hz3))
  obtain ⟨b1, hb1⟩ : ∃ b, w.heap.size = b := ⟨_, rfl⟩
  obtain ⟨b2, hb2⟩ : ∃ b, w1.heap.size = b := ⟨_, rfl⟩
  obtain ⟨b3, hb3⟩ : ∃ b, w2.heap.size = b := ⟨_, rfl⟩
  have G1 := Lib.hid ((F1.out.keep HB2.out).keep HB3.out)
  have G2 := Lib.hid (F2.out.below HB3.out F2.out.lt)
  have HB := Lib.hid ((HB1.out.trans (HB2.out.mono HB1.out.size)).trans (HB3.out.mono (Nat.le_trans HB1.out.size HB2.out.size)))
  rw [hb1, hb2] at hq1
  rw [hb2, hb3] at hq2
  rw [hb3] at hq3
  rw [hb1] at G1 HB
  rw [hb2] at G2
  rw [hb3] at F3
  have HW := Lib.hid hb1
  try rw [hb1]
  try rw [hb2]
  try rw [hb3]
  clear hb1 hb2 hb3 HB1 HB2 HB3 F1 F2
  have c0 := G1.out.c 0 _ rfl
  have e0 := F3.out.c 0 (by decide)
  have z0 := F3.out.z 0 (by decide)
  go_upto_region 3 with fail
  have GB := HB
  have G3 := F3
  clear HB F3
  have M3 := Lib.hid (G3.out.set 0 (by decide) (f 0))
  have hk : Kp w3 (w3.setCell ⟨b3, 0, none⟩ (.int .u8 (f 0))) b3 b3 := (Kp.refl _ _ _).setA 0 _
  have M1 := Lib.hid (G1.out.kp hk (by omega) (by omega))
  have M2 := Lib.hid (G2.out.kp hk (by omega) (by omega))
  have MB := Lib.hid (GB.out.trans (hk.below (by omega) (by omega) (by omega)))
  obtain ⟨w4, hw⟩ : ∃ x, w3.setCell ⟨b3, 0, none⟩ (.int .u8 (f 0)) = x := ⟨_, rfl⟩
  rw [hw] at M1 M2 M3 MB hk ⊢
  have hq_w4 := hk.size
  clear hw hk G1 G2 G3 GB c0 e0 z0
  have c1 := M1.out.c 1 _ rfl
  have e1 := M3.out.c 1 (by decide)
  have z1 := M3.out.z 1 (by decide)
  go_upto_region 4 with fail
  have N3 := Lib.hid (M3.out.set 1 (by decide) (f 1))
  have hk : Kp w4 (w4.setCell ⟨b3, 1, none⟩ (.int .u8 (f 1))) b3 b3 := (Kp.refl _ _ _).setA 1 _
  have N1 := Lib.hid (M1.out.kp hk (by omega) (by omega))
  have N2 := Lib.hid (M2.out.kp hk (by omega) (by omega))
  have NB := Lib.hid (MB.out.trans (hk.below (by omega) (by omega) (by omega)))
  obtain ⟨w5, hw⟩ : ∃ x, w4.setCell ⟨b3, 1, none⟩ (.int .u8 (f 1)) = x := ⟨_, rfl⟩
  rw [hw] at N1 N2 N3 NB hk ⊢
  have hq_w5 := hk.size
  clear hw hk M1 M2 M3 MB c1 e1 z1
  have c2 := N1.out.c 2 _ rfl
  go_still_tail 4, (by kernel_rfl)
  have P1 := Lib.hid (N1.out.keep (Below.refl w5.heap.size w5).drew)
  have P2 := Lib.hid (N2.out.below (Below.refl w5.heap.size w5).drew N2.out.lt)
  have P3 := Lib.hid (N3.out.below (Below.refl w5.heap.size w5).drew N3.out.lt)
  have PB := Lib.hid (NB.out.drew)
  have hq_w6 : b3 < (World.drew w5).heap.size := N3.out.lt
  change wpList _ _ _ _ _ (World.drew w5)
  obtain ⟨w6, hw⟩ : ∃ x, World.drew w5 = x := ⟨_, rfl⟩
  rw [hw] at P1 P2 P3 PB hq_w6 ⊢
  clear hw
  clear N1 N2 N3 NB c2
  go_wp2_with fail
  refine (HS2.out b3 _ w6 P3.out).mono ?_
  rintro e w7 ⟨rfl, hF, hk⟩
  have R3 := Lib.hid hF
  have R1 := Lib.hid (P1.out.kp hk (by omega) (by omega))
  have R2 := Lib.hid (P2.out.kp hk (by omega) (by omega))
  have RB := Lib.hid (PB.out.trans (hk.below (by omega) (by omega) (by omega)))
  have hq_w7 := hk.size
  clear hF hk P1 P2 P3 PB
  have c3 := R1.out.c 3 _ rfl
  go_upto_region 5 with fail
  go_still_tail 3, (by kernel_rfl)
  have S1 := Lib.hid (R1.out.keep (Below.refl w7.heap.size w7).drew)
  have S2 := Lib.hid (R2.out.below (Below.refl w7.heap.size w7).drew R2.out.lt)
  have S3 := Lib.hid (R3.out.below (Below.refl w7.heap.size w7).drew R3.out.lt)
  have SB := Lib.hid (RB.out.drew)
  have hq_w8 : b3 < (World.drew w7).heap.size := R3.out.lt
  change wpList _ _ _ _ _ (World.drew w7)
  obtain ⟨w8, hw⟩ : ∃ x, World.drew w7 = x := ⟨_, rfl⟩
  rw [hw] at S1 S2 S3 SB hq_w8 ⊢
  clear hw
  clear R1 R2 R3 RB c3
  go_wp2_with fail
  refine (HS4.out b3 _ w8 S3.out).mono ?_
  rintro e w9 ⟨rfl, hF, hk⟩
  have T3 := Lib.hid hF
  have T1 := Lib.hid (S1.out.kp hk (by omega) (by omega))
  have T2 := Lib.hid (S2.out.kp hk (by omega) (by omega))
  have TB := Lib.hid (SB.out.trans (hk.below (by omega) (by omega) (by omega)))
  have hq_w9 := hk.size
  have T3' := Lib.hid (T3.out.congr fun j _ => hF1.out j)
  clear hF hk S1 S2 S3 SB T3 hF1 HS2 HS4
  go_wp2_with (refine wpList_load_mid rfl 27 _ rfl b1 0 rfl (ndc f) d27 T1.out.range0 HU27.out HD27.out (size27 f) ?_)
  refine (HPt.out w9).mono ?_
  rintro e w10 ⟨rfl, hb⟩
  have V1 := Lib.hid (T1.out.keep hb)
  have V2 := Lib.hid (T2.out.below hb T2.out.lt)
  have V3 := Lib.hid (T3'.out.below hb T3'.out.lt)
  have VB := Lib.hid (TB.out.trans (hb.mono (by omega)))
  have hq_w10 := hb.size
  clear hb T1 T2 T3' TB HPt
  go_wp2_with fail
  have hbw : b1 ≤ w.heap.size := Nat.le_of_eq HW.out.symm
  go_loopw [24] (fun i wr => ∃ k : Nat, k ≤ 8 ∧ i = .int .i64 k ∧ Fl wr b3 32 (fun j => if j < 8 + 2 * k then encF f j else 0) ∧ Fl wr b2 32 (fun _ => 0) ∧ Below b1 w wr) (fun i _ => 8 - (intOf i).toNat)
  case atStart => exact ⟨0, by omega, rfl, V3.out, V2.out, VB.out⟩
  case round =>
    obtain ⟨k, hk, rfl, hF, hG, hBB⟩ := hrel
    have X3 := Lib.hid hF
    have X2 := Lib.hid hG
    have XB := Lib.hid hBB
    clear hF hG hBB V1 V2 V3 VB
    by_cases hlt : k < 8
    · have hk8 : k = 0 ∨ k = 1 ∨ k = 2 ∨ k = 3 ∨ k = 4 ∨ k = 5 ∨ k = 6 ∨ k = 7 := by omega
      rcases hk8 with rfl | rfl | rfl | rfl | rfl | rfl | rfl | rfl
      · obtain ⟨x, hx⟩ : ∃ x, f 4 = x := ⟨_, rfl⟩
        obtain ⟨hx0, hx1⟩ : 0 ≤ x ∧ x < 65536 := by rw [← hx]; exact HP.out 4 (by decide) (by decide)
        have hI : ∀ W, (Instr.index 70 (.agg (ptc (ptOf f)).toArray) (.int .i64 0)).run Try.prog W = .ok (.int .u16 x) W := fun W => by
          rw [← hx]; kernel_rfl
        have HS : Hid (∀ F W, Fl W b3 32 F → Calls Try.prog 23 #[.slice (some ⟨b3, 8, none⟩) 2 24, .int .u32 x] W fun e w' => e = .returned (.tuple #[]) ∧ Fl w' b3 32 (upd F 8 2 (dig x)) ∧ Kp W w' b3 b3) := fun F W h => putnum_any b3 8 2 24 32 x hx0 (by omega) (by omega) (by omega) F W h
        have HX := Lib.hid hx
        clear hx
        go_wp2_with fail
        refine (HS.out _ wr X3.out).mono ?_
        rintro e wn ⟨rfl, hF, hk⟩
        have hE := enc_step f 0 (by decide)
        rw [show f (4 + 0) = x from HX.out] at hE
        have Y3 : Hid (Fl wn b3 32 (fun j => if j < 8 + 2 * (0 + 1) then encF f j else 0)) := Lib.hid (hF.congr fun j _ => hE j)
        clear hE
        have Y2 := Lib.hid (X2.out.kp hk (by omega) (by omega))
        have YB := Lib.hid (XB.out.trans (hk.below (by omega) (by omega) (by have := XB.out.size; omega)))
        clear hF hk X3 X2 XB HS hI
        go_wp2_with fail
        go_roundw
        case rel => exact ⟨1, by decide, rfl, Y3.out, Y2.out, YB.out⟩
        case measure => simp [intOf]
      · obtain ⟨x, hx⟩ : ∃ x, f 5 = x := ⟨_, rfl⟩
        obtain ⟨hx0, hx1⟩ : 0 ≤ x ∧ x < 65536 := by rw [← hx]; exact HP.out 5 (by decide) (by decide)
        have hI : ∀ W, (Instr.index 70 (.agg (ptc (ptOf f)).toArray) (.int .i64 1)).run Try.prog W = .ok (.int .u16 x) W := fun W => by
          rw [← hx]; kernel_rfl
        have HS : Hid (∀ F W, Fl W b3 32 F → Calls Try.prog 23 #[.slice (some ⟨b3, 10, none⟩) 2 22, .int .u32 x] W fun e w' => e = .returned (.tuple #[]) ∧ Fl w' b3 32 (upd F 10 2 (dig x)) ∧ Kp W w' b3 b3) := fun F W h => putnum_any b3 10 2 22 32 x hx0 (by omega) (by omega) (by omega) F W h
        have HX := Lib.hid hx
        clear hx
        go_wp2_with fail
        refine (HS.out _ wr X3.out).mono ?_
        rintro e wn ⟨rfl, hF, hk⟩
        have hE := enc_step f 1 (by decide)
        rw [show f (4 + 1) = x from HX.out] at hE
        have Y3 : Hid (Fl wn b3 32 (fun j => if j < 8 + 2 * (1 + 1) then encF f j else 0)) := Lib.hid (hF.congr fun j _ => hE j)
        clear hE
        have Y2 := Lib.hid (X2.out.kp hk (by omega) (by omega))
        have YB := Lib.hid (XB.out.trans (hk.below (by omega) (by omega) (by have := XB.out.size; omega)))
        clear hF hk X3 X2 XB HS hI
        go_wp2_with fail
        go_roundw
        case rel => exact ⟨2, by decide, rfl, Y3.out, Y2.out, YB.out⟩
        case measure => simp [intOf]
      · obtain ⟨x, hx⟩ : ∃ x, f 6 = x := ⟨_, rfl⟩
        obtain ⟨hx0, hx1⟩ : 0 ≤ x ∧ x < 65536 := by rw [← hx]; exact HP.out 6 (by decide) (by decide)
        have hI : ∀ W, (Instr.index 70 (.agg (ptc (ptOf f)).toArray) (.int .i64 2)).run Try.prog W = .ok (.int .u16 x) W := fun W => by
          rw [← hx]; kernel_rfl
        have HS : Hid (∀ F W, Fl W b3 32 F → Calls Try.prog 23 #[.slice (some ⟨b3, 12, none⟩) 2 20, .int .u32 x] W fun e w' => e = .returned (.tuple #[]) ∧ Fl w' b3 32 (upd F 12 2 (dig x)) ∧ Kp W w' b3 b3) := fun F W h => putnum_any b3 12 2 20 32 x hx0 (by omega) (by omega) (by omega) F W h
        have HX := Lib.hid hx
        clear hx
        go_wp2_with fail
        refine (HS.out _ wr X3.out).mono ?_
        rintro e wn ⟨rfl, hF, hk⟩
        have hE := enc_step f 2 (by decide)
        rw [show f (4 + 2) = x from HX.out] at hE
        have Y3 : Hid (Fl wn b3 32 (fun j => if j < 8 + 2 * (2 + 1) then encF f j else 0)) := Lib.hid (hF.congr fun j _ => hE j)
        clear hE
        have Y2 := Lib.hid (X2.out.kp hk (by omega) (by omega))
        have YB := Lib.hid (XB.out.trans (hk.below (by omega) (by omega) (by have := XB.out.size; omega)))
        clear hF hk X3 X2 XB HS hI
        go_wp2_with fail
        go_roundw
        case rel => exact ⟨3, by decide, rfl, Y3.out, Y2.out, YB.out⟩
        case measure => simp [intOf]
      · obtain ⟨x, hx⟩ : ∃ x, f 7 = x := ⟨_, rfl⟩
        obtain ⟨hx0, hx1⟩ : 0 ≤ x ∧ x < 65536 := by rw [← hx]; exact HP.out 7 (by decide) (by decide)
        have hI : ∀ W, (Instr.index 70 (.agg (ptc (ptOf f)).toArray) (.int .i64 3)).run Try.prog W = .ok (.int .u16 x) W := fun W => by
          rw [← hx]; kernel_rfl
        have HS : Hid (∀ F W, Fl W b3 32 F → Calls Try.prog 23 #[.slice (some ⟨b3, 14, none⟩) 2 18, .int .u32 x] W fun e w' => e = .returned (.tuple #[]) ∧ Fl w' b3 32 (upd F 14 2 (dig x)) ∧ Kp W w' b3 b3) := fun F W h => putnum_any b3 14 2 18 32 x hx0 (by omega) (by omega) (by omega) F W h
        have HX := Lib.hid hx
        clear hx
        go_wp2_with fail
        refine (HS.out _ wr X3.out).mono ?_
        rintro e wn ⟨rfl, hF, hk⟩
        have hE := enc_step f 3 (by decide)
        rw [show f (4 + 3) = x from HX.out] at hE
        have Y3 : Hid (Fl wn b3 32 (fun j => if j < 8 + 2 * (3 + 1) then encF f j else 0)) := Lib.hid (hF.congr fun j _ => hE j)
        clear hE
        have Y2 := Lib.hid (X2.out.kp hk (by omega) (by omega))
        have YB := Lib.hid (XB.out.trans (hk.below (by omega) (by omega) (by have := XB.out.size; omega)))
        clear hF hk X3 X2 XB HS hI
        go_wp2_with fail
        go_roundw
        case rel => exact ⟨4, by decide, rfl, Y3.out, Y2.out, YB.out⟩
        case measure => simp [intOf]
      · obtain ⟨x, hx⟩ : ∃ x, f 8 = x := ⟨_, rfl⟩
        obtain ⟨hx0, hx1⟩ : 0 ≤ x ∧ x < 65536 := by rw [← hx]; exact HP.out 8 (by decide) (by decide)
        have hI : ∀ W, (Instr.index 70 (.agg (ptc (ptOf f)).toArray) (.int .i64 4)).run Try.prog W = .ok (.int .u16 x) W := fun W => by
          rw [← hx]; kernel_rfl
        have HS : Hid (∀ F W, Fl W b3 32 F → Calls Try.prog 23 #[.slice (some ⟨b3, 16, none⟩) 2 16, .int .u32 x] W fun e w' => e = .returned (.tuple #[]) ∧ Fl w' b3 32 (upd F 16 2 (dig x)) ∧ Kp W w' b3 b3) := fun F W h => putnum_any b3 16 2 16 32 x hx0 (by omega) (by omega) (by omega) F W h
        have HX := Lib.hid hx
        clear hx
        go_wp2_with fail
        refine (HS.out _ wr X3.out).mono ?_
        rintro e wn ⟨rfl, hF, hk⟩
        have hE := enc_step f 4 (by decide)
        rw [show f (4 + 4) = x from HX.out] at hE
        have Y3 : Hid (Fl wn b3 32 (fun j => if j < 8 + 2 * (4 + 1) then encF f j else 0)) := Lib.hid (hF.congr fun j _ => hE j)
        clear hE
        have Y2 := Lib.hid (X2.out.kp hk (by omega) (by omega))
        have YB := Lib.hid (XB.out.trans (hk.below (by omega) (by omega) (by have := XB.out.size; omega)))
        clear hF hk X3 X2 XB HS hI
        go_wp2_with fail
        go_roundw
        case rel => exact ⟨5, by decide, rfl, Y3.out, Y2.out, YB.out⟩
        case measure => simp [intOf]
      · obtain ⟨x, hx⟩ : ∃ x, f 9 = x := ⟨_, rfl⟩
        obtain ⟨hx0, hx1⟩ : 0 ≤ x ∧ x < 65536 := by rw [← hx]; exact HP.out 9 (by decide) (by decide)
        have hI : ∀ W, (Instr.index 70 (.agg (ptc (ptOf f)).toArray) (.int .i64 5)).run Try.prog W = .ok (.int .u16 x) W := fun W => by
          rw [← hx]; kernel_rfl
        have HS : Hid (∀ F W, Fl W b3 32 F → Calls Try.prog 23 #[.slice (some ⟨b3, 18, none⟩) 2 14, .int .u32 x] W fun e w' => e = .returned (.tuple #[]) ∧ Fl w' b3 32 (upd F 18 2 (dig x)) ∧ Kp W w' b3 b3) := fun F W h => putnum_any b3 18 2 14 32 x hx0 (by omega) (by omega) (by omega) F W h
        have HX := Lib.hid hx
        clear hx
        go_wp2_with fail
        refine (HS.out _ wr X3.out).mono ?_
        rintro e wn ⟨rfl, hF, hk⟩
        have hE := enc_step f 5 (by decide)
        rw [show f (4 + 5) = x from HX.out] at hE
        have Y3 : Hid (Fl wn b3 32 (fun j => if j < 8 + 2 * (5 + 1) then encF f j else 0)) := Lib.hid (hF.congr fun j _ => hE j)
        clear hE
        have Y2 := Lib.hid (X2.out.kp hk (by omega) (by omega))
        have YB := Lib.hid (XB.out.trans (hk.below (by omega) (by omega) (by have := XB.out.size; omega)))
        clear hF hk X3 X2 XB HS hI
        go_wp2_with fail
        go_roundw
        case rel => exact ⟨6, by decide, rfl, Y3.out, Y2.out, YB.out⟩
        case measure => simp [intOf]
      · obtain ⟨x, hx⟩ : ∃ x, f 10 = x := ⟨_, rfl⟩
        obtain ⟨hx0, hx1⟩ : 0 ≤ x ∧ x < 65536 := by rw [← hx]; exact HP.out 10 (by decide) (by decide)
        have hI : ∀ W, (Instr.index 70 (.agg (ptc (ptOf f)).toArray) (.int .i64 6)).run Try.prog W = .ok (.int .u16 x) W := fun W => by
          rw [← hx]; kernel_rfl
        have HS : Hid (∀ F W, Fl W b3 32 F → Calls Try.prog 23 #[.slice (some ⟨b3, 20, none⟩) 2 12, .int .u32 x] W fun e w' => e = .returned (.tuple #[]) ∧ Fl w' b3 32 (upd F 20 2 (dig x)) ∧ Kp W w' b3 b3) := fun F W h => putnum_any b3 20 2 12 32 x hx0 (by omega) (by omega) (by omega) F W h
        have HX := Lib.hid hx
        clear hx
        go_wp2_with fail
        refine (HS.out _ wr X3.out).mono ?_
        rintro e wn ⟨rfl, hF, hk⟩
        have hE := enc_step f 6 (by decide)
        rw [show f (4 + 6) = x from HX.out] at hE
        have Y3 : Hid (Fl wn b3 32 (fun j => if j < 8 + 2 * (6 + 1) then encF f j else 0)) := Lib.hid (hF.congr fun j _ => hE j)
        clear hE
        have Y2 := Lib.hid (X2.out.kp hk (by omega) (by omega))
        have YB := Lib.hid (XB.out.trans (hk.below (by omega) (by omega) (by have := XB.out.size; omega)))
        clear hF hk X3 X2 XB HS hI
        go_wp2_with fail
        go_roundw
        case rel => exact ⟨7, by decide, rfl, Y3.out, Y2.out, YB.out⟩
        case measure => simp [intOf]
      · obtain ⟨x, hx⟩ : ∃ x, f 11 = x := ⟨_, rfl⟩
        obtain ⟨hx0, hx1⟩ : 0 ≤ x ∧ x < 65536 := by rw [← hx]; exact HP.out 11 (by decide) (by decide)
        have hI : ∀ W, (Instr.index 70 (.agg (ptc (ptOf f)).toArray) (.int .i64 7)).run Try.prog W = .ok (.int .u16 x) W := fun W => by
          rw [← hx]; kernel_rfl
        have HS : Hid (∀ F W, Fl W b3 32 F → Calls Try.prog 23 #[.slice (some ⟨b3, 22, none⟩) 2 10, .int .u32 x] W fun e w' => e = .returned (.tuple #[]) ∧ Fl w' b3 32 (upd F 22 2 (dig x)) ∧ Kp W w' b3 b3) := fun F W h => putnum_any b3 22 2 10 32 x hx0 (by omega) (by omega) (by omega) F W h
        have HX := Lib.hid hx
        clear hx
        go_wp2_with fail
        refine (HS.out _ wr X3.out).mono ?_
        rintro e wn ⟨rfl, hF, hk⟩
        have hE := enc_step f 7 (by decide)
        rw [show f (4 + 7) = x from HX.out] at hE
        have Y3 : Hid (Fl wn b3 32 (fun j => if j < 8 + 2 * (7 + 1) then encF f j else 0)) := Lib.hid (hF.congr fun j _ => hE j)
        clear hE
        have Y2 := Lib.hid (X2.out.kp hk (by omega) (by omega))
        have YB := Lib.hid (XB.out.trans (hk.below (by omega) (by omega) (by have := XB.out.size; omega)))
        clear hF hk X3 X2 XB HS hI
        go_wp2_with fail
        go_roundw
        case rel => exact ⟨8, by decide, rfl, Y3.out, Y2.out, YB.out⟩
        case measure => simp [intOf]
    · obtain rfl : k = 8 := by omega
      have Z3 := Lib.hid (X3.out.congr fun j _ => enc_last f j)
      have HR := Lib.hid Z3.out.range0
      clear X3
      go_wp2_with (first | (refine wpList_load_mid rfl 28 _ rfl b3 0 rfl (byts 32 (encF f)) (.array 32 5) HR.out Try.arr28 rfl (size28 _) ?_) | (refine wpList_store_mid rfl 28 _ _ rfl b2 0 (byts 32 (encF f)).toArray rfl rfl (by rw [byts_size]; exact X2.out.there 0 32 (Nat.le_refl _)) (size28' _) (byts_all _ _) ?_))
      exact bodyPost_ret_by (results_mid rfl _ _ b2 _ (.array 32 5) rfl (X2.out.stored (encF f)).range0 Try.arr28 rfl (size28 _)) rfl ⟨rfl, by rw [HW.out]; exact below_setCells XB.out b2 0 (by omega) _⟩
end Go.Proofs.Ytdebkifnaiohcaa
