import Derived.Test.YtnfadmifdncjoaaGreatR1
import Derived.StillTailTactics
/- A node of a table: Read, Write. -/
namespace Go.Proofs.YtnfadmifdncjoaaGreat
set_option linter.unusedSimpArgs false
set_option linter.unusedVariables false
open Go.RowKit Go.Maps
variable {ln : Lm}
theorem Tryz.desc53 : ∃ d, Tryz.prog.underlying 133 = some d ∧ d.isRow = true := ⟨_, Tryz.underlying133, rfl⟩
theorem Tryz.isize53 : (Tryz.prog.info? 133).map (·.size) = some 6 := by kernel_rfl
theorem size53 (g : Cf.Ge) : (Tryz.prog.info? 133).map (·.size) = some g.cells.length := Tryz.isize53
theorem Tryz.sl34 : Tryz.prog.underlying 24 = some (.slice 5) := Tryz.underlying24
theorem Tryz.isize5 : (Tryz.prog.info? 5).map (·.size) = some 1 := by kernel_rfl
set_option maxHeartbeats 20000000 in
set_option maxRecDepth 100000 in
theorem read_in0 (g : Cf.Ge) (x : Int) (t m d gg N K kB : Nat) (Y : Nat → Nat → Int) (hx : inP g x) (hb0 : 0 ≤ g.base) (hb1 : g.base < 100000) (hm0 : 0 ≤ g.bm) (hm1 : g.bm < 100000) (hn1 : g.nd ≤ 128) (hkB : g.base + g.bm + (x - 1) / 2 = kB) (ha : (x - 1) % 2 * 32 = 0) (hk : kB < N) (hk32 : 32 ≤ kB) (hN : N ≤ 65536) (hK : K < 600000000) (F : Nat → Int) (hB : Byt32 F) (hF : ∀ j, j < 32 → Y kB (0 + j) = F j) (w : World) (h : Rd w t m d gg N ln Y K) :
    Calls Tryz.prog 95 #[.pointer (some ⟨t, 0, none⟩), g.val, .int .i64 x] w fun e w' => e = .returned (.tuple #[.agg (ndc (decV F)).toArray, .int .i64 (decE F)]) ∧ Rd w' t m d gg N ln Y (K + 1) ∧ Kf w w' [t, m, d, gg] := by
  obtain ⟨d27, hu27, hd27⟩ := Tryz.desc27
  obtain ⟨d53, hu53, hd53⟩ := Tryz.desc53
  have HU27 := Lib.hid hu27
  have HD27 := Lib.hid hd27
  have HU53 := Lib.hid hu53
  have HD53 := Lib.hid hd53
  have HP : Hid (∀ W, Calls Tryz.prog 97 #[g.val, .int .i64 x] W fun e w' => e = .returned (.tuple #[.int .i64 kB, .int .i64 0, .bool true]) ∧ Below W.heap.size W w') := fun W => by
    have := place_in g x hx hb0 hb1 hm0 hm1 hn1 W
    rwa [hkB, ha] at this
  have HG := Lib.hid (fun W (h : Rd W t m d gg N ln Y K) => get6 t m d gg K Y kB hk32 hk (by omega) W h)
  have HC := Lib.hid (fun W => decode_any F hB W)
  obtain ⟨V, hV⟩ : ∃ V, Y kB = V := ⟨_, rfl⟩
  rw [hV] at HG hF
  have HFj := Lib.hid hF
  obtain ⟨lt1, lt2, lt3, lt4⟩ := h.lts
  have HR := Lib.hid h
  clear hu27 hd27 hu53 hd53 hx hb0 hb1 hm0 hm1 hn1 hkB ha hk hN hK hB hV hF h
  change Calls _ _ #[_, .agg g.cells.toArray, _] _ _
  have HP : Hid (∀ W, Calls Tryz.prog 97 #[.agg g.cells.toArray, .int .i64 x] W fun e w' => e = .returned (.tuple #[.int .i64 kB, .int .i64 0, .bool true]) ∧ Below W.heap.size W w') := HP
  obtain ⟨gs, hgs⟩ : ∃ gs, g.cells = gs := ⟨_, rfl⟩
  have HS53 : Hid ((Tryz.prog.info? 133).map (·.size) = some gs.length) := by rw [← hgs]; exact size53 g
  rw [hgs] at HP ⊢
  clear hgs
  go_enter Tryz.func95, Tryz.ntmps95
  go_upto_region 1 with (first | (refine wpList_box_list (w := w) rfl 133 _ rfl gs rfl ?_; intro w1 F1 hb1 hz1; have HB1 := Lib.hid hb1; have hq1 : w.heap.size < w1.heap.size := (by omega); clear hb1 hz1) | (refine wpList_alloc_list (w := w1) rfl 68 rfl (ndc zpt) Tryz.zero27 ?_; intro w2 F2 hb2 hz2; have HB2 := Lib.hid hb2; have hq2 : w1.heap.size < w2.heap.size := (by omega); clear hb2 hz2))
  obtain ⟨b1, hb1⟩ : ∃ b, w.heap.size = b := ⟨_, rfl⟩
  obtain ⟨b2, hb2⟩ : ∃ b, w1.heap.size = b := ⟨_, rfl⟩
  have G1 := Lib.hid (F1.out.keep HB2.out)
  have G2 := F2
  have HB := Lib.hid (HB1.out.trans (HB2.out.mono HB1.out.size))
  have R2 := Lib.hid (HR.out.keep HB.out)
  have HK := Lib.hid (Kf.of_below HB.out [t, m, d, gg])
  rw [hb1, hb2] at hq1
  rw [hb2] at hq2
  rw [hb1] at G1 HB lt1 lt2 lt3 lt4
  rw [hb2] at G2
  have HW := Lib.hid hb1
  have hwb : w.heap.size ≤ b1 := Nat.le_of_eq hb1
  try rw [hb1]
  try rw [hb2]
  clear hb1 hb2 HB1 HB2 F1 F2 HR HB
  have N2 := Lib.hid (nin4 lt1 lt2 lt3 lt4 (b := b2) (by omega))
  have HR1 := Lib.hid G1.out.range0
  go_wp2_with (refine wpList_load_mid rfl 133 _ rfl b1 0 rfl gs d53 HR1.out HU53.out HD53.out HS53.out ?_)
  refine (HP.out w2).mono ?_
  rintro e w3 ⟨rfl, hb⟩
  have G3 := Lib.hid (G2.out.keep hb)
  have R3 := Lib.hid (R2.out.keep hb)
  have K3 := Lib.hid (HK.out.low hb (by omega))
  have hq3 : b2 < w3.heap.size := G3.out.lt
  clear hb HR1 G1 G2 R2 HK HP
  go_wp2_with fail
  refine (HG.out w3 R3.out).mono ?_
  rintro e w4 ⟨rfl, hR, hk⟩
  have R4 := Lib.hid hR
  have G4 := Lib.hid (G3.out.kf hk N2.out)
  have K4 := Lib.hid (K3.out.trans hk)
  have hq4 : b2 < w4.heap.size := G4.out.lt
  clear hR hk G3 R3 K3 HG
  go_upto_region 5 with (first | (refine wpList_alloc_byts (w := w4) rfl 59 64 rfl Tryz.zero36 ?_; intro w5 F5 hb5 hz5; simp only [Act.put, List.getElem_toArray, List.getElem_cons_zero, List.getElem_cons_succ, List.setIfInBounds_toArray, List.set_cons_zero, List.set_cons_succ]; refine wpList_store_blk rfl (.tmp 11) (.tmp 28) rfl w4.heap.size 0 64 (fun _ => 0) V F5.out (by omega) rfl rfl ?_; intro w6 F6 HK6; have HB5 := Lib.hid hb5; clear hb5 F5))
  obtain ⟨b5, hb5⟩ : ∃ b, w4.heap.size = b := ⟨_, rfl⟩
  have R5 := Lib.hid (R4.out.keep HB5.out)
  have G5 := Lib.hid (G4.out.keep HB5.out)
  have K5 := Lib.hid (K4.out.low HB5.out (by omega))
  have hq5 : b5 < w5.heap.size := by omega
  rw [hb5] at hq4 F6 HK6
  try rw [hb5]
  clear hb5 hz5 HB5 R4 G4 K4
  have N5 := Lib.hid (nin4 lt1 lt2 lt3 lt4 (b := b5) (by omega))
  have R6 := Lib.hid (R5.out.kp HK6.out N5.out N5.out)
  have G6 := Lib.hid (G5.out.kp HK6.out (by omega) (by omega))
  have K6 := Lib.hid (K5.out.fresh HK6.out (by omega))
  have F6' := Lib.hid (F6.out.congr (fun j hj => upd_zero 64 V j hj _))
  have hq6 := HK6.out.size
  clear F6 R5 G5 K5 HK6
  go_upto_region 8 with (first | (refine wpList_alloc_byts (w := w6) rfl 203 32 rfl Tryz.zero28 ?_; intro w7 F7 hb7 hz7; have HB7 := Lib.hid hb7; have hq7 : w6.heap.size < w7.heap.size := (by omega); clear hb7 hz7))
  obtain ⟨b7, hb7⟩ : ∃ b, w6.heap.size = b := ⟨_, rfl⟩
  have R7 := Lib.hid (R6.out.keep HB7.out)
  have G7 := Lib.hid (G6.out.keep HB7.out)
  have K7 := Lib.hid (K6.out.low HB7.out (by omega))
  have E7 := Lib.hid (F6'.out.below HB7.out F6'.out.lt)
  have hq8 : b5 < b7 := by rw [← hb7]; exact F6'.out.lt
  rw [hb7] at F7 hq6 hq7
  try rw [hb7]
  clear hb7 HB7 R6 G6 K6 F6'
  go_still_tail 3, (by kernel_rfl)
  have R8 := Lib.hid (R7.out.keep (Below.refl w7.heap.size w7).drew)
  have G8 := Lib.hid (G7.out.keep (Below.refl w7.heap.size w7).drew)
  have E8 := Lib.hid (E7.out.below (Below.refl w7.heap.size w7).drew E7.out.lt)
  have F8 := Lib.hid (F7.out.below (Below.refl w7.heap.size w7).drew F7.out.lt)
  have K8 := Lib.hid (K7.out.low (Below.refl w7.heap.size w7).drew (by omega))
  change wpList _ _ _ _ _ (World.drew w7)
  have hq9 : b7 < (World.drew w7).heap.size := hq7
  obtain ⟨w8, hw8⟩ : ∃ x, World.drew w7 = x := ⟨_, rfl⟩
  rw [hw8] at R8 G8 E8 F8 K8 hq9 ⊢
  clear hw8 R7 G7 E7 F7 K7 hq7
  refine wpList_copy_mid rfl (.tmp 34) (.tmp 36) 24 24 rfl 5 Tryz.sl34 1 Tryz.isize5 b7 0 32 32 (some ⟨b5, 0, none⟩) 64 64 rfl rfl (byts 32 F) rfl (fun _ => ⟨_, rfl, fun j v hj => ?_⟩) ?_ (byts_one _ _) ?_
  · obtain ⟨hjl, rfl⟩ := byts_of hj
    rw [Addr.add_mid, ← HFj.out j hjl]
    exact E8.out.c (0 + j) (by omega)
  · rw [byts_len]
    exact F8.out.there 0 32 (Nat.le_refl _)
  have hk9 : Kp w8 (w8.setCells b7 0 (byts 32 F)) b7 b7 := (Kp.refl w8 b7 b7).setCells b7 0 (.inl rfl) _
  have N7 := Lib.hid (nin4 lt1 lt2 lt3 lt4 (b := b7) (by omega))
  have R9 := Lib.hid (R8.out.kp hk9 N7.out N7.out)
  have G9 := Lib.hid (G8.out.kp hk9 (by omega) (by omega))
  have F9 := Lib.hid ((F8.out.store 0 32 (Nat.le_refl _) F).congr (fun j hj => upd_zero 32 F j hj _))
  have K9 := Lib.hid (K8.out.fresh hk9 (by omega))
  obtain ⟨w9, hw9⟩ : ∃ x, w8.setCells b7 0 (byts 32 F) = x := ⟨_, rfl⟩
  have hqA := hk9.size
  rw [hw9] at R9 G9 F9 K9 hqA ⊢
  clear hw9 hk9 R8 G8 E8 F8 K8
  have HR9 := Lib.hid (F9.out.range 0 32 (Nat.le_refl _))
  have HRF : Hid (w9.rangeAt b7 0 (byts 32 F)) := Lib.hid (by
    have := HR9.out
    simp only [Nat.zero_add] at this
    exact this)
  go_wp2_with (refine wpList_load_mid rfl 203 _ rfl b7 0 rfl (byts 32 F) (.array 32 5) HRF.out Tryz.arr28 rfl (size28 _) ?_)
  refine (HC.out w9).mono ?_
  rintro e wa ⟨rfl, hb⟩
  have Ra := Lib.hid (R9.out.keep hb)
  have Ga := Lib.hid (G9.out.keep hb)
  have Ka := Lib.hid (K9.out.low hb (by omega))
  clear hb R9 G9 K9 F9 HR9 HRF HC
  go_wp2_with (refine wpList_store_mid rfl 68 _ _ rfl b2 0 (ndc (decV F)).toArray rfl rfl (Ga.out.there0 12 rfl) (size27' _) (all_oneCell_toArray (ndc_one _)) ?_)
  have hkb : Kp wa (wa.setCells b2 0 (ndc (decV F))) b2 b2 := (Kp.refl wa b2 b2).setCells b2 0 (.inl rfl) _
  exact bodyPost_ret_by (results_mid_tmp rfl _ _ b2 (ndc (decV F)) d27 rfl (Ga.out.stored (ndc (decV F)) rfl).range0 HU27.out HD27.out (size27 _)) rfl ⟨rfl, Ra.out.kp hkb N2.out N2.out, Ka.out.fresh hkb (by omega)⟩

set_option maxHeartbeats 20000000 in
set_option maxRecDepth 100000 in
theorem read_in32 (g : Cf.Ge) (x : Int) (t m d gg N K kB : Nat) (Y : Nat → Nat → Int) (hx : inP g x) (hb0 : 0 ≤ g.base) (hb1 : g.base < 100000) (hm0 : 0 ≤ g.bm) (hm1 : g.bm < 100000) (hn1 : g.nd ≤ 128) (hkB : g.base + g.bm + (x - 1) / 2 = kB) (ha : (x - 1) % 2 * 32 = 32) (hk : kB < N) (hk32 : 32 ≤ kB) (hN : N ≤ 65536) (hK : K < 600000000) (F : Nat → Int) (hB : Byt32 F) (hF : ∀ j, j < 32 → Y kB (32 + j) = F j) (w : World) (h : Rd w t m d gg N ln Y K) :
    Calls Tryz.prog 95 #[.pointer (some ⟨t, 0, none⟩), g.val, .int .i64 x] w fun e w' => e = .returned (.tuple #[.agg (ndc (decV F)).toArray, .int .i64 (decE F)]) ∧ Rd w' t m d gg N ln Y (K + 1) ∧ Kf w w' [t, m, d, gg] := by
  obtain ⟨d27, hu27, hd27⟩ := Tryz.desc27
  obtain ⟨d53, hu53, hd53⟩ := Tryz.desc53
  have HU27 := Lib.hid hu27
  have HD27 := Lib.hid hd27
  have HU53 := Lib.hid hu53
  have HD53 := Lib.hid hd53
  have HP : Hid (∀ W, Calls Tryz.prog 97 #[g.val, .int .i64 x] W fun e w' => e = .returned (.tuple #[.int .i64 kB, .int .i64 32, .bool true]) ∧ Below W.heap.size W w') := fun W => by
    have := place_in g x hx hb0 hb1 hm0 hm1 hn1 W
    rwa [hkB, ha] at this
  have HG := Lib.hid (fun W (h : Rd W t m d gg N ln Y K) => get6 t m d gg K Y kB hk32 hk (by omega) W h)
  have HC := Lib.hid (fun W => decode_any F hB W)
  obtain ⟨V, hV⟩ : ∃ V, Y kB = V := ⟨_, rfl⟩
  rw [hV] at HG hF
  have HFj := Lib.hid hF
  obtain ⟨lt1, lt2, lt3, lt4⟩ := h.lts
  have HR := Lib.hid h
  clear hu27 hd27 hu53 hd53 hx hb0 hb1 hm0 hm1 hn1 hkB ha hk hN hK hB hV hF h
  change Calls _ _ #[_, .agg g.cells.toArray, _] _ _
  have HP : Hid (∀ W, Calls Tryz.prog 97 #[.agg g.cells.toArray, .int .i64 x] W fun e w' => e = .returned (.tuple #[.int .i64 kB, .int .i64 32, .bool true]) ∧ Below W.heap.size W w') := HP
  obtain ⟨gs, hgs⟩ : ∃ gs, g.cells = gs := ⟨_, rfl⟩
  have HS53 : Hid ((Tryz.prog.info? 133).map (·.size) = some gs.length) := by rw [← hgs]; exact size53 g
  rw [hgs] at HP ⊢
  clear hgs
  go_enter Tryz.func95, Tryz.ntmps95
  go_upto_region 1 with (first | (refine wpList_box_list (w := w) rfl 133 _ rfl gs rfl ?_; intro w1 F1 hb1 hz1; have HB1 := Lib.hid hb1; have hq1 : w.heap.size < w1.heap.size := (by omega); clear hb1 hz1) | (refine wpList_alloc_list (w := w1) rfl 68 rfl (ndc zpt) Tryz.zero27 ?_; intro w2 F2 hb2 hz2; have HB2 := Lib.hid hb2; have hq2 : w1.heap.size < w2.heap.size := (by omega); clear hb2 hz2))
  obtain ⟨b1, hb1⟩ : ∃ b, w.heap.size = b := ⟨_, rfl⟩
  obtain ⟨b2, hb2⟩ : ∃ b, w1.heap.size = b := ⟨_, rfl⟩
  have G1 := Lib.hid (F1.out.keep HB2.out)
  have G2 := F2
  have HB := Lib.hid (HB1.out.trans (HB2.out.mono HB1.out.size))
  have R2 := Lib.hid (HR.out.keep HB.out)
  have HK := Lib.hid (Kf.of_below HB.out [t, m, d, gg])
  rw [hb1, hb2] at hq1
  rw [hb2] at hq2
  rw [hb1] at G1 HB lt1 lt2 lt3 lt4
  rw [hb2] at G2
  have HW := Lib.hid hb1
  have hwb : w.heap.size ≤ b1 := Nat.le_of_eq hb1
  try rw [hb1]
  try rw [hb2]
  clear hb1 hb2 HB1 HB2 F1 F2 HR HB
  have N2 := Lib.hid (nin4 lt1 lt2 lt3 lt4 (b := b2) (by omega))
  have HR1 := Lib.hid G1.out.range0
  go_wp2_with (refine wpList_load_mid rfl 133 _ rfl b1 0 rfl gs d53 HR1.out HU53.out HD53.out HS53.out ?_)
  refine (HP.out w2).mono ?_
  rintro e w3 ⟨rfl, hb⟩
  have G3 := Lib.hid (G2.out.keep hb)
  have R3 := Lib.hid (R2.out.keep hb)
  have K3 := Lib.hid (HK.out.low hb (by omega))
  have hq3 : b2 < w3.heap.size := G3.out.lt
  clear hb HR1 G1 G2 R2 HK HP
  go_wp2_with fail
  refine (HG.out w3 R3.out).mono ?_
  rintro e w4 ⟨rfl, hR, hk⟩
  have R4 := Lib.hid hR
  have G4 := Lib.hid (G3.out.kf hk N2.out)
  have K4 := Lib.hid (K3.out.trans hk)
  have hq4 : b2 < w4.heap.size := G4.out.lt
  clear hR hk G3 R3 K3 HG
  go_upto_region 5 with (first | (refine wpList_alloc_byts (w := w4) rfl 59 64 rfl Tryz.zero36 ?_; intro w5 F5 hb5 hz5; simp only [Act.put, List.getElem_toArray, List.getElem_cons_zero, List.getElem_cons_succ, List.setIfInBounds_toArray, List.set_cons_zero, List.set_cons_succ]; refine wpList_store_blk rfl (.tmp 11) (.tmp 28) rfl w4.heap.size 0 64 (fun _ => 0) V F5.out (by omega) rfl rfl ?_; intro w6 F6 HK6; have HB5 := Lib.hid hb5; clear hb5 F5))
  obtain ⟨b5, hb5⟩ : ∃ b, w4.heap.size = b := ⟨_, rfl⟩
  have R5 := Lib.hid (R4.out.keep HB5.out)
  have G5 := Lib.hid (G4.out.keep HB5.out)
  have K5 := Lib.hid (K4.out.low HB5.out (by omega))
  have hq5 : b5 < w5.heap.size := by omega
  rw [hb5] at hq4 F6 HK6
  try rw [hb5]
  clear hb5 hz5 HB5 R4 G4 K4
  have N5 := Lib.hid (nin4 lt1 lt2 lt3 lt4 (b := b5) (by omega))
  have R6 := Lib.hid (R5.out.kp HK6.out N5.out N5.out)
  have G6 := Lib.hid (G5.out.kp HK6.out (by omega) (by omega))
  have K6 := Lib.hid (K5.out.fresh HK6.out (by omega))
  have F6' := Lib.hid (F6.out.congr (fun j hj => upd_zero 64 V j hj _))
  have hq6 := HK6.out.size
  clear F6 R5 G5 K5 HK6
  go_upto_region 8 with (first | (refine wpList_alloc_byts (w := w6) rfl 203 32 rfl Tryz.zero28 ?_; intro w7 F7 hb7 hz7; have HB7 := Lib.hid hb7; have hq7 : w6.heap.size < w7.heap.size := (by omega); clear hb7 hz7))
  obtain ⟨b7, hb7⟩ : ∃ b, w6.heap.size = b := ⟨_, rfl⟩
  have R7 := Lib.hid (R6.out.keep HB7.out)
  have G7 := Lib.hid (G6.out.keep HB7.out)
  have K7 := Lib.hid (K6.out.low HB7.out (by omega))
  have E7 := Lib.hid (F6'.out.below HB7.out F6'.out.lt)
  have hq8 : b5 < b7 := by rw [← hb7]; exact F6'.out.lt
  rw [hb7] at F7 hq6 hq7
  try rw [hb7]
  clear hb7 HB7 R6 G6 K6 F6'
  go_still_tail 3, (by kernel_rfl)
  have R8 := Lib.hid (R7.out.keep (Below.refl w7.heap.size w7).drew)
  have G8 := Lib.hid (G7.out.keep (Below.refl w7.heap.size w7).drew)
  have E8 := Lib.hid (E7.out.below (Below.refl w7.heap.size w7).drew E7.out.lt)
  have F8 := Lib.hid (F7.out.below (Below.refl w7.heap.size w7).drew F7.out.lt)
  have K8 := Lib.hid (K7.out.low (Below.refl w7.heap.size w7).drew (by omega))
  change wpList _ _ _ _ _ (World.drew w7)
  have hq9 : b7 < (World.drew w7).heap.size := hq7
  obtain ⟨w8, hw8⟩ : ∃ x, World.drew w7 = x := ⟨_, rfl⟩
  rw [hw8] at R8 G8 E8 F8 K8 hq9 ⊢
  clear hw8 R7 G7 E7 F7 K7 hq7
  refine wpList_copy_mid rfl (.tmp 34) (.tmp 36) 24 24 rfl 5 Tryz.sl34 1 Tryz.isize5 b7 0 32 32 (some ⟨b5, 32, none⟩) 32 32 rfl rfl (byts 32 F) rfl (fun _ => ⟨_, rfl, fun j v hj => ?_⟩) ?_ (byts_one _ _) ?_
  · obtain ⟨hjl, rfl⟩ := byts_of hj
    rw [Addr.add_mid, ← HFj.out j hjl]
    exact E8.out.c (32 + j) (by omega)
  · rw [byts_len]
    exact F8.out.there 0 32 (Nat.le_refl _)
  have hk9 : Kp w8 (w8.setCells b7 0 (byts 32 F)) b7 b7 := (Kp.refl w8 b7 b7).setCells b7 0 (.inl rfl) _
  have N7 := Lib.hid (nin4 lt1 lt2 lt3 lt4 (b := b7) (by omega))
  have R9 := Lib.hid (R8.out.kp hk9 N7.out N7.out)
  have G9 := Lib.hid (G8.out.kp hk9 (by omega) (by omega))
  have F9 := Lib.hid ((F8.out.store 0 32 (Nat.le_refl _) F).congr (fun j hj => upd_zero 32 F j hj _))
  have K9 := Lib.hid (K8.out.fresh hk9 (by omega))
  obtain ⟨w9, hw9⟩ : ∃ x, w8.setCells b7 0 (byts 32 F) = x := ⟨_, rfl⟩
  have hqA := hk9.size
  rw [hw9] at R9 G9 F9 K9 hqA ⊢
  clear hw9 hk9 R8 G8 E8 F8 K8
  have HR9 := Lib.hid (F9.out.range 0 32 (Nat.le_refl _))
  have HRF : Hid (w9.rangeAt b7 0 (byts 32 F)) := Lib.hid (by
    have := HR9.out
    simp only [Nat.zero_add] at this
    exact this)
  go_wp2_with (refine wpList_load_mid rfl 203 _ rfl b7 0 rfl (byts 32 F) (.array 32 5) HRF.out Tryz.arr28 rfl (size28 _) ?_)
  refine (HC.out w9).mono ?_
  rintro e wa ⟨rfl, hb⟩
  have Ra := Lib.hid (R9.out.keep hb)
  have Ga := Lib.hid (G9.out.keep hb)
  have Ka := Lib.hid (K9.out.low hb (by omega))
  clear hb R9 G9 K9 F9 HR9 HRF HC
  go_wp2_with (refine wpList_store_mid rfl 68 _ _ rfl b2 0 (ndc (decV F)).toArray rfl rfl (Ga.out.there0 12 rfl) (size27' _) (all_oneCell_toArray (ndc_one _)) ?_)
  have hkb : Kp wa (wa.setCells b2 0 (ndc (decV F))) b2 b2 := (Kp.refl wa b2 b2).setCells b2 0 (.inl rfl) _
  exact bodyPost_ret_by (results_mid_tmp rfl _ _ b2 (ndc (decV F)) d27 rfl (Ga.out.stored (ndc (decV F)) rfl).range0 HU27.out HD27.out (size27 _)) rfl ⟨rfl, Ra.out.kp hkb N2.out N2.out, Ka.out.fresh hkb (by omega)⟩
/-- a block's node laid over -/
def wrB (V : Nat → Int) (a : Nat) (f : Nat → Int) : Nat → Int := upd V a 32 (encF f)
theorem wrB_byt {V : Nat → Int} (h : Byt V) {f : Nat → Int} (hf : NdOk f) (a : Nat) (ha : a + 32 ≤ 64) : Byt (wrB V a f) := by
  intro j hj
  unfold wrB upd
  split
  · exact encF_byt hf _ (by omega)
  · exact h j hj
set_option maxHeartbeats 20000000 in
set_option maxRecDepth 100000 in
theorem write_out6 (g : Cf.Ge) (x : Int) (tv : Value) (f : Nat → Int) (hx : ¬ inP g x) (hn0 : 0 ≤ g.nd) (hn1 : g.nd ≤ 128) (w : World) :
    Calls Tryz.prog 59 #[tv, g.val, .int .i64 x, .agg (ndc f).toArray] w fun e w' => e = .returned (.int .i64 27) ∧ Below w.heap.size w w' := by
  obtain ⟨d27, hu27, hd27⟩ := Tryz.desc27
  obtain ⟨d53, hu53, hd53⟩ := Tryz.desc53
  have HU27 := Lib.hid hu27
  have HD27 := Lib.hid hd27
  have HU53 := Lib.hid hu53
  have HD53 := Lib.hid hd53
  have HP : Hid (∀ W, Calls Tryz.prog 97 #[.agg g.cells.toArray, .int .i64 x] W fun e w' => e = .returned (.tuple #[.int .i64 0, .int .i64 0, .bool false]) ∧ Below W.heap.size W w') := fun W => place_out g x hx hn0 hn1 W
  clear hu27 hd27 hu53 hd53 hx hn0 hn1
  change Calls _ _ #[_, .agg g.cells.toArray, _, _] _ _
  obtain ⟨gs, hgs⟩ : ∃ gs, g.cells = gs := ⟨_, rfl⟩
  have HS53 : Hid ((Tryz.prog.info? 133).map (·.size) = some gs.length) := by rw [← hgs]; exact size53 g
  rw [hgs] at HP ⊢
  clear hgs
  go_enter Tryz.func59, Tryz.ntmps59
  go_upto_region 1 with (first | (refine wpList_box_list (w := w) rfl 133 _ rfl gs rfl ?_; intro w1 F1 hb1 hz1; have HB1 := Lib.hid hb1; have hq1 : w.heap.size < w1.heap.size := (by omega); clear hb1 hz1) | (refine wpList_box_list (w := w1) rfl 68 _ rfl (ndc f) rfl ?_; intro w2 F2 hb2 hz2; have HB2 := Lib.hid hb2; have hq2 : w1.heap.size < w2.heap.size := (by omega); clear hb2 hz2))
  obtain ⟨b1, hb1⟩ : ∃ b, w.heap.size = b := ⟨_, rfl⟩
  obtain ⟨b2, hb2⟩ : ∃ b, w1.heap.size = b := ⟨_, rfl⟩
  have G1 := Lib.hid (F1.out.keep HB2.out)
  have G2 := F2
  have HB := Lib.hid (HB1.out.trans (HB2.out.mono HB1.out.size))
  rw [hb1] at G1
  try rw [hb1]
  try rw [hb2]
  have hq3 : b1 < w2.heap.size := by omega
  clear hb2 HB1 HB2 F1 F2 hq1 hq2
  have HR1 := Lib.hid G1.out.range0
  go_wp2_with (refine wpList_load_mid rfl 133 _ rfl b1 0 rfl gs d53 HR1.out HU53.out HD53.out HS53.out ?_)
  refine (HP.out w2).mono ?_
  rintro e w3 ⟨rfl, hb⟩
  have B3 := Lib.hid (HB.out.trans (hb.mono HB.out.size))
  clear hb HR1 G1 G2 HB HP
  go_wp2_with fail
  go_ret
  exact ⟨rfl, B3.out⟩

set_option maxHeartbeats 20000000 in
set_option maxRecDepth 100000 in
theorem write_bad6 (g : Cf.Ge) (x : Int) (tv : Value) (f : Nat → Int) (hf : NdOk f) (hcd : codeN f ≠ 0) (hx : inP g x) (hb0 : 0 ≤ g.base) (hb1 : g.base < 100000) (hm0 : 0 ≤ g.bm) (hm1 : g.bm < 100000) (hn1 : g.nd ≤ 128) (w : World) :
    Calls Tryz.prog 59 #[tv, g.val, .int .i64 x, .agg (ndc f).toArray] w fun e w' => e = .returned (.int .i64 (codeN f)) ∧ Below w.heap.size w w' := by
  obtain ⟨d27, hu27, hd27⟩ := Tryz.desc27
  obtain ⟨d53, hu53, hd53⟩ := Tryz.desc53
  have HU27 := Lib.hid hu27
  have HD27 := Lib.hid hd27
  have HU53 := Lib.hid hu53
  have HD53 := Lib.hid hd53
  have HP : Hid (∀ W, Calls Tryz.prog 97 #[.agg g.cells.toArray, .int .i64 x] W fun e w' => e = .returned (.tuple #[.int .i64 (g.base + g.bm + (x - 1) / 2), .int .i64 ((x - 1) % 2 * 32), .bool true]) ∧ Below W.heap.size W w') := fun W => place_in g x hx hb0 hb1 hm0 hm1 hn1 W
  obtain ⟨p1, hp1⟩ : ∃ p, g.base + g.bm + (x - 1) / 2 = p := ⟨_, rfl⟩
  obtain ⟨p2, hp2⟩ : ∃ p, (x - 1) % 2 * 32 = p := ⟨_, rfl⟩
  rw [hp1, hp2] at HP
  have hc28 : codeN f = 28 := (codeN_cases f).resolve_left hcd
  have HCk := Lib.hid (fun W => check_any f hf W)
  rw [hc28] at HCk ⊢
  clear hu27 hd27 hu53 hd53 hx hb0 hb1 hm0 hm1 hn1 hp1 hp2 hf hcd hc28
  change Calls _ _ #[_, .agg g.cells.toArray, _, _] _ _
  obtain ⟨gs, hgs⟩ : ∃ gs, g.cells = gs := ⟨_, rfl⟩
  have HS53 : Hid ((Tryz.prog.info? 133).map (·.size) = some gs.length) := by rw [← hgs]; exact size53 g
  rw [hgs] at HP ⊢
  clear hgs
  go_enter Tryz.func59, Tryz.ntmps59
  go_upto_region 1 with (first | (refine wpList_box_list (w := w) rfl 133 _ rfl gs rfl ?_; intro w1 F1 hb1 hz1; have HB1 := Lib.hid hb1; have hq1 : w.heap.size < w1.heap.size := (by omega); clear hb1 hz1) | (refine wpList_box_list (w := w1) rfl 68 _ rfl (ndc f) rfl ?_; intro w2 F2 hb2 hz2; have HB2 := Lib.hid hb2; have hq2 : w1.heap.size < w2.heap.size := (by omega); clear hb2 hz2))
  obtain ⟨b1, hb1⟩ : ∃ b, w.heap.size = b := ⟨_, rfl⟩
  obtain ⟨b2, hb2⟩ : ∃ b, w1.heap.size = b := ⟨_, rfl⟩
  have G1 := Lib.hid (F1.out.keep HB2.out)
  have G2 := F2
  have HB := Lib.hid (HB1.out.trans (HB2.out.mono HB1.out.size))
  rw [hb1, hb2] at hq1
  rw [hb2] at hq2
  rw [hb1] at G1
  rw [hb2] at G2
  try rw [hb1]
  try rw [hb2]
  have hq3 : b1 < w2.heap.size := by omega
  clear hb2 HB1 HB2 F1 F2
  have HR1 := Lib.hid G1.out.range0
  go_wp2_with (refine wpList_load_mid rfl 133 _ rfl b1 0 rfl gs d53 HR1.out HU53.out HD53.out HS53.out ?_)
  refine (HP.out w2).mono ?_
  rintro e w3 ⟨rfl, hb⟩
  have B3 := Lib.hid (HB.out.trans (hb.mono HB.out.size))
  have G3 := Lib.hid (G2.out.keep hb)
  clear hb HR1 G1 G2 HB HP
  have HR2 := Lib.hid G3.out.range0
  go_wp2_with (refine wpList_load_mid rfl 68 _ rfl b2 0 rfl (ndc f) d27 HR2.out HU27.out HD27.out (size27 _) ?_)
  refine (HCk.out w3).mono ?_
  rintro e w4 ⟨rfl, hb⟩
  have B4 := Lib.hid (B3.out.trans (hb.mono B3.out.size))
  clear hb HR2 G3 B3 HCk
  go_wp2_with fail
  go_ret
  exact ⟨rfl, B4.out⟩

set_option maxHeartbeats 20000000 in
set_option maxRecDepth 100000 in
theorem write_in0 (g : Cf.Ge) (x : Int) (t m d gg N K kB : Nat) (Y : Nat → Nat → Int) (f : Nat → Int) (hf : NdOk f) (hcd : codeN f = 0) (hx : inP g x) (hb0 : 0 ≤ g.base) (hb1 : g.base < 100000) (hm0 : 0 ≤ g.bm) (hm1 : g.bm < 100000) (hn1 : g.nd ≤ 128) (hkB : g.base + g.bm + (x - 1) / 2 = kB) (ha : (x - 1) % 2 * 32 = 0) (hk : kB < N) (hk32 : 32 ≤ kB) (hN : N ≤ 65536) (hT : Has ln kB) (hK : K < 600000000) (w : World) (h : Rd w t m d gg N ln Y K) :
    Calls Tryz.prog 59 #[.pointer (some ⟨t, 0, none⟩), g.val, .int .i64 x, .agg (ndc f).toArray] w fun e w' => e = .returned (.int .i64 0) ∧ Rd w' t m d gg N ln (vput kB (wrB (Y kB) 0 f) Y) (K + 1) ∧ Kf w w' [t, m, d, gg] := by
  obtain ⟨d27, hu27, hd27⟩ := Tryz.desc27
  obtain ⟨d53, hu53, hd53⟩ := Tryz.desc53
  have HU27 := Lib.hid hu27
  have HD27 := Lib.hid hd27
  have HU53 := Lib.hid hu53
  have HD53 := Lib.hid hd53
  have HP : Hid (∀ W, Calls Tryz.prog 97 #[.agg g.cells.toArray, .int .i64 x] W fun e w' => e = .returned (.tuple #[.int .i64 kB, .int .i64 0, .bool true]) ∧ Below W.heap.size W w') := fun W => by
    have := place_in g x hx hb0 hb1 hm0 hm1 hn1 W
    rw [hkB, ha] at this
    exact this
  have HCk := Lib.hid (fun W => check_any f hf W)
  rw [hcd] at HCk
  have HEn := Lib.hid (fun W => encode_any f hf W)
  have HG := Lib.hid (fun W (h : Rd W t m d gg N ln Y K) => get6 t m d gg K Y kB hk32 hk (by omega) W h)
  have HPut := Lib.hid (fun W (h' : Rd W t m d gg N ln Y (K + 1)) => put6 t m d gg (K + 1) Y kB (wrB (Y kB) 0 f) (wrB_byt (h.vb kB) hf 0 (by decide)) hk32 hk hT W h')
  obtain ⟨V, hV⟩ : ∃ V, Y kB = V := ⟨_, rfl⟩
  rw [hV] at HG HPut ⊢
  obtain ⟨F, hF⟩ : ∃ F : Nat → Int, encF f = F := ⟨_, rfl⟩
  have hW : wrB V 0 f = upd V 0 32 F := by unfold wrB; rw [hF]
  rw [hF] at HEn
  rw [hW] at HPut ⊢
  obtain ⟨lt1, lt2, lt3, lt4⟩ := h.lts
  have HR := Lib.hid h
  clear hu27 hd27 hu53 hd53 hx hb0 hb1 hm0 hm1 hn1 hkB ha hk hk32 hN hT hK hV hF hf hcd hW h
  change Calls _ _ #[_, .agg g.cells.toArray, _, _] _ _
  obtain ⟨gs, hgs⟩ : ∃ gs, g.cells = gs := ⟨_, rfl⟩
  have HS53 : Hid ((Tryz.prog.info? 133).map (·.size) = some gs.length) := by rw [← hgs]; exact size53 g
  rw [hgs] at HP ⊢
  clear hgs
  go_enter Tryz.func59, Tryz.ntmps59
  go_upto_region 1 with (first | (refine wpList_box_list (w := w) rfl 133 _ rfl gs rfl ?_; intro w1 F1 hb1 hz1; have HB1 := Lib.hid hb1; have hq1 : w.heap.size < w1.heap.size := (by omega); clear hb1 hz1) | (refine wpList_box_list (w := w1) rfl 68 _ rfl (ndc f) rfl ?_; intro w2 F2 hb2 hz2; have HB2 := Lib.hid hb2; have hq2 : w1.heap.size < w2.heap.size := (by omega); clear hb2 hz2))
  obtain ⟨b1, hb1⟩ : ∃ b, w.heap.size = b := ⟨_, rfl⟩
  obtain ⟨b2, hb2⟩ : ∃ b, w1.heap.size = b := ⟨_, rfl⟩
  have G1 := Lib.hid (F1.out.keep HB2.out)
  have G2 := F2
  have HB := Lib.hid (HB1.out.trans (HB2.out.mono HB1.out.size))
  have R2 := Lib.hid (HR.out.keep HB.out)
  have HK := Lib.hid (Kf.of_below HB.out [t, m, d, gg])
  rw [hb1, hb2] at hq1
  rw [hb2] at hq2
  rw [hb1] at G1 lt1 lt2 lt3 lt4
  rw [hb2] at G2
  have hwb : w.heap.size ≤ b1 := Nat.le_of_eq hb1
  try rw [hb1]
  try rw [hb2]
  clear hb1 hb2 HB1 HB2 F1 F2 HR HB
  have N2 := Lib.hid (nin4 lt1 lt2 lt3 lt4 (b := b2) (by omega))
  have HR1 := Lib.hid G1.out.range0
  go_wp2_with (refine wpList_load_mid rfl 133 _ rfl b1 0 rfl gs d53 HR1.out HU53.out HD53.out HS53.out ?_)
  refine (HP.out w2).mono ?_
  rintro e w3 ⟨rfl, hb⟩
  have G3 := Lib.hid (G2.out.keep hb)
  have R3 := Lib.hid (R2.out.keep hb)
  have K3 := Lib.hid (HK.out.low hb (by omega))
  have hq3 : b2 < w3.heap.size := G3.out.lt
  clear hb HR1 G1 G2 R2 HK HP
  have HR2 := Lib.hid G3.out.range0
  go_wp2_with (refine wpList_load_mid rfl 68 _ rfl b2 0 rfl (ndc f) d27 HR2.out HU27.out HD27.out (size27 _) ?_)
  refine (HCk.out w3).mono ?_
  rintro e w4 ⟨rfl, hb⟩
  have G4 := Lib.hid (G3.out.keep hb)
  have R4 := Lib.hid (R3.out.keep hb)
  have K4 := Lib.hid (K3.out.low hb (by omega))
  have hq4 : b2 < w4.heap.size := G4.out.lt
  clear hb HR2 G3 R3 K3 HCk
  go_wp2_with fail
  refine (HG.out w4 R4.out).mono ?_
  rintro e w5 ⟨rfl, hR, hk⟩
  have R5 := Lib.hid hR
  have G5 := Lib.hid (G4.out.kf hk N2.out)
  have K5 := Lib.hid (K4.out.trans hk)
  have hq5 : b2 < w5.heap.size := G5.out.lt
  clear hR hk G4 R4 K4 HG
  go_upto_region 8 with (first | (refine wpList_alloc_byts (w := w5) rfl 59 64 rfl Tryz.zero36 ?_; intro w6 F6 hb6 hz6; simp only [Act.put, List.getElem_toArray, List.getElem_cons_zero, List.getElem_cons_succ, List.setIfInBounds_toArray, List.set_cons_zero, List.set_cons_succ]; refine wpList_store_blk rfl (.tmp 13) (.tmp 34) rfl w5.heap.size 0 64 (fun _ => 0) V F6.out (by omega) rfl rfl ?_; intro w7 F7 HK7; have HB6 := Lib.hid hb6; clear hb6 F6))
  obtain ⟨b5, hb5⟩ : ∃ b, w5.heap.size = b := ⟨_, rfl⟩
  have R6 := Lib.hid (R5.out.keep HB6.out)
  have G6 := Lib.hid (G5.out.keep HB6.out)
  have K6 := Lib.hid (K5.out.low HB6.out (by omega))
  have hq6 : b5 < w6.heap.size := by omega
  rw [hb5] at hq5 F7 HK7
  try rw [hb5]
  clear hb5 hz6 HB6 R5 G5 K5
  have N5 := Lib.hid (nin4 lt1 lt2 lt3 lt4 (b := b5) (by omega))
  have R7 := Lib.hid (R6.out.kp HK7.out N5.out N5.out)
  have G7 := Lib.hid (G6.out.kp HK7.out (by omega) (by omega))
  have K7 := Lib.hid (K6.out.fresh HK7.out (by omega))
  have E7 := Lib.hid (F7.out.congr (fun j hj => upd_zero 64 V j hj _))
  have hq7 := HK7.out.size
  clear F7 R6 G6 K6 HK7
  have HR2 := Lib.hid G7.out.range0
  go_upto_region 10 with fail
  go_wp2_with (refine wpList_load_mid rfl 68 _ rfl b2 0 rfl (ndc f) d27 HR2.out HU27.out HD27.out (size27 _) ?_)
  refine (HEn.out w7).mono ?_
  rintro e w8 ⟨rfl, hb⟩
  have R8 := Lib.hid (R7.out.keep hb)
  have E8 := Lib.hid (E7.out.below hb E7.out.lt)
  have K8 := Lib.hid (K7.out.low hb (by omega))
  have hq8 : b5 < w8.heap.size := E8.out.lt
  clear hb HR2 G7 R7 K7 E7 HEn
  go_upto_region 11 with (first | (refine wpList_alloc_byts (w := w8) rfl 203 32 rfl Tryz.zero28 ?_; intro w9 F9 hb9 hz9; simp only [Act.put, List.getElem_toArray, List.getElem_cons_zero, List.getElem_cons_succ, List.setIfInBounds_toArray, List.set_cons_zero, List.set_cons_succ]; refine wpList_store_mid rfl 203 _ _ rfl w8.heap.size 0 (byts 32 F).toArray rfl rfl (by rw [byts_size]; exact F9.out.there 0 32 (Nat.le_refl _)) (size28' _) (byts_all _ _) ?_; have HB9 := Lib.hid hb9; clear hb9))
  obtain ⟨b8, hb8⟩ : ∃ b, w8.heap.size = b := ⟨_, rfl⟩
  have R9 := Lib.hid (R8.out.keep HB9.out)
  have E9 := Lib.hid (E8.out.below HB9.out E8.out.lt)
  have K9 := Lib.hid (K8.out.low HB9.out (by omega))
  have hq9 : b8 < w9.heap.size := by omega
  rw [hb8] at hq8 F9
  try rw [hb8]
  clear hb8 hz9 HB9 R8 E8 K8
  try rw [List.toList_toArray]
  have hkA : Kp w9 (w9.setCells b8 0 (byts 32 F)) b8 b8 := (Kp.refl w9 b8 b8).setCells b8 0 (.inl rfl) _
  have N8 := Lib.hid (nin4 lt1 lt2 lt3 lt4 (b := b8) (by omega))
  have RA := Lib.hid (R9.out.kp hkA N8.out N8.out)
  have EA := Lib.hid (E9.out.kp hkA (by omega) (by omega))
  have FA := Lib.hid ((F9.out.store 0 32 (Nat.le_refl _) F).congr (fun j hj => upd_zero 32 F j hj _))
  have KA := Lib.hid (K9.out.fresh hkA (by omega))
  have hqA := hkA.size
  obtain ⟨wA, hwA⟩ : ∃ x, w9.setCells b8 0 (byts 32 F) = x := ⟨_, rfl⟩
  rw [hwA] at RA EA FA KA hqA ⊢
  clear hwA hkA R9 E9 F9 K9
  go_still_tail 3, (by kernel_rfl)
  have RB := Lib.hid (RA.out.keep (Below.refl wA.heap.size wA).drew)
  have EB := Lib.hid (EA.out.below (Below.refl wA.heap.size wA).drew EA.out.lt)
  have FB := Lib.hid (FA.out.below (Below.refl wA.heap.size wA).drew FA.out.lt)
  have KB := Lib.hid (KA.out.low (Below.refl wA.heap.size wA).drew (by omega))
  change wpList _ _ _ _ _ (World.drew wA)
  have hqB : b8 < (World.drew wA).heap.size := FA.out.lt
  obtain ⟨wB, hwB⟩ : ∃ x, World.drew wA = x := ⟨_, rfl⟩
  rw [hwB] at RB EB FB KB hqB ⊢
  clear hwB RA EA FA KA
  refine wpList_copy_mid rfl (.tmp 42) (.tmp 43) 24 24 rfl 5 Tryz.sl34 1 Tryz.isize5 b5 0 64 64 (some ⟨b8, 0, none⟩) 32 32 rfl rfl (byts 32 F) rfl (fun _ => ⟨_, rfl, fun j v hj => ?_⟩) ?_ (byts_one _ _) ?_
  · obtain ⟨hjl, rfl⟩ := byts_of hj
    rw [Addr.add_mid, Nat.zero_add]
    exact FB.out.c j hjl
  · rw [byts_len]
    exact EB.out.there 0 32 (by decide)
  have hkC : Kp wB (wB.setCells b5 0 (byts 32 F)) b5 b5 := (Kp.refl wB b5 b5).setCells b5 0 (.inl rfl) _
  have RC := Lib.hid (RB.out.kp hkC N5.out N5.out)
  have EC := Lib.hid (EB.out.store 0 32 (by decide) F)
  have KC := Lib.hid (KB.out.fresh hkC (by omega))
  have hqC := hkC.size
  obtain ⟨wC, hwC⟩ : ∃ x, wB.setCells b5 0 (byts 32 F) = x := ⟨_, rfl⟩
  rw [hwC] at RC EC KC hqC ⊢
  clear hwC hkC RB EB FB KB
  have HRF : Hid (wC.rangeAt b5 0 (byts 64 (upd V 0 32 F))) := Lib.hid (by
    have := EC.out.range 0 64 (Nat.le_refl _)
    simp only [Nat.zero_add] at this
    exact this)
  obtain ⟨V', hV'⟩ : ∃ V', upd V 0 32 F = V' := ⟨_, rfl⟩
  rw [hV'] at HRF HPut
  clear EC
  go_wp2_with (refine wpList_load_mid rfl 59 _ rfl b5 0 rfl (byts 64 V') (.array 64 5) HRF.out Tryz.arr36 rfl (size36 _) ?_)
  refine (HPut.out wC RC.out).mono ?_
  rintro e wD ⟨rfl, hR, hk⟩
  have RD := Lib.hid hR
  have KD := Lib.hid (KC.out.trans hk)
  clear hR hk RC KC HRF HPut
  go_wp2_with fail
  go_ret
  rw [hV']
  exact ⟨rfl, RD.out, KD.out⟩

set_option maxHeartbeats 20000000 in
set_option maxRecDepth 100000 in
theorem write_in32 (g : Cf.Ge) (x : Int) (t m d gg N K kB : Nat) (Y : Nat → Nat → Int) (f : Nat → Int) (hf : NdOk f) (hcd : codeN f = 0) (hx : inP g x) (hb0 : 0 ≤ g.base) (hb1 : g.base < 100000) (hm0 : 0 ≤ g.bm) (hm1 : g.bm < 100000) (hn1 : g.nd ≤ 128) (hkB : g.base + g.bm + (x - 1) / 2 = kB) (ha : (x - 1) % 2 * 32 = 32) (hk : kB < N) (hk32 : 32 ≤ kB) (hN : N ≤ 65536) (hT : Has ln kB) (hK : K < 600000000) (w : World) (h : Rd w t m d gg N ln Y K) :
    Calls Tryz.prog 59 #[.pointer (some ⟨t, 0, none⟩), g.val, .int .i64 x, .agg (ndc f).toArray] w fun e w' => e = .returned (.int .i64 0) ∧ Rd w' t m d gg N ln (vput kB (wrB (Y kB) 32 f) Y) (K + 1) ∧ Kf w w' [t, m, d, gg] := by
  obtain ⟨d27, hu27, hd27⟩ := Tryz.desc27
  obtain ⟨d53, hu53, hd53⟩ := Tryz.desc53
  have HU27 := Lib.hid hu27
  have HD27 := Lib.hid hd27
  have HU53 := Lib.hid hu53
  have HD53 := Lib.hid hd53
  have HP : Hid (∀ W, Calls Tryz.prog 97 #[.agg g.cells.toArray, .int .i64 x] W fun e w' => e = .returned (.tuple #[.int .i64 kB, .int .i64 32, .bool true]) ∧ Below W.heap.size W w') := fun W => by
    have := place_in g x hx hb0 hb1 hm0 hm1 hn1 W
    rw [hkB, ha] at this
    exact this
  have HCk := Lib.hid (fun W => check_any f hf W)
  rw [hcd] at HCk
  have HEn := Lib.hid (fun W => encode_any f hf W)
  have HG := Lib.hid (fun W (h : Rd W t m d gg N ln Y K) => get6 t m d gg K Y kB hk32 hk (by omega) W h)
  have HPut := Lib.hid (fun W (h' : Rd W t m d gg N ln Y (K + 1)) => put6 t m d gg (K + 1) Y kB (wrB (Y kB) 32 f) (wrB_byt (h.vb kB) hf 32 (by decide)) hk32 hk hT W h')
  obtain ⟨V, hV⟩ : ∃ V, Y kB = V := ⟨_, rfl⟩
  rw [hV] at HG HPut ⊢
  obtain ⟨F, hF⟩ : ∃ F : Nat → Int, encF f = F := ⟨_, rfl⟩
  have hW : wrB V 32 f = upd V 32 32 F := by unfold wrB; rw [hF]
  rw [hF] at HEn
  rw [hW] at HPut ⊢
  obtain ⟨lt1, lt2, lt3, lt4⟩ := h.lts
  have HR := Lib.hid h
  clear hu27 hd27 hu53 hd53 hx hb0 hb1 hm0 hm1 hn1 hkB ha hk hk32 hN hT hK hV hF hf hcd hW h
  change Calls _ _ #[_, .agg g.cells.toArray, _, _] _ _
  obtain ⟨gs, hgs⟩ : ∃ gs, g.cells = gs := ⟨_, rfl⟩
  have HS53 : Hid ((Tryz.prog.info? 133).map (·.size) = some gs.length) := by rw [← hgs]; exact size53 g
  rw [hgs] at HP ⊢
  clear hgs
  go_enter Tryz.func59, Tryz.ntmps59
  go_upto_region 1 with (first | (refine wpList_box_list (w := w) rfl 133 _ rfl gs rfl ?_; intro w1 F1 hb1 hz1; have HB1 := Lib.hid hb1; have hq1 : w.heap.size < w1.heap.size := (by omega); clear hb1 hz1) | (refine wpList_box_list (w := w1) rfl 68 _ rfl (ndc f) rfl ?_; intro w2 F2 hb2 hz2; have HB2 := Lib.hid hb2; have hq2 : w1.heap.size < w2.heap.size := (by omega); clear hb2 hz2))
  obtain ⟨b1, hb1⟩ : ∃ b, w.heap.size = b := ⟨_, rfl⟩
  obtain ⟨b2, hb2⟩ : ∃ b, w1.heap.size = b := ⟨_, rfl⟩
  have G1 := Lib.hid (F1.out.keep HB2.out)
  have G2 := F2
  have HB := Lib.hid (HB1.out.trans (HB2.out.mono HB1.out.size))
  have R2 := Lib.hid (HR.out.keep HB.out)
  have HK := Lib.hid (Kf.of_below HB.out [t, m, d, gg])
  rw [hb1, hb2] at hq1
  rw [hb2] at hq2
  rw [hb1] at G1 lt1 lt2 lt3 lt4
  rw [hb2] at G2
  have hwb : w.heap.size ≤ b1 := Nat.le_of_eq hb1
  try rw [hb1]
  try rw [hb2]
  clear hb1 hb2 HB1 HB2 F1 F2 HR HB
  have N2 := Lib.hid (nin4 lt1 lt2 lt3 lt4 (b := b2) (by omega))
  have HR1 := Lib.hid G1.out.range0
  go_wp2_with (refine wpList_load_mid rfl 133 _ rfl b1 0 rfl gs d53 HR1.out HU53.out HD53.out HS53.out ?_)
  refine (HP.out w2).mono ?_
  rintro e w3 ⟨rfl, hb⟩
  have G3 := Lib.hid (G2.out.keep hb)
  have R3 := Lib.hid (R2.out.keep hb)
  have K3 := Lib.hid (HK.out.low hb (by omega))
  have hq3 : b2 < w3.heap.size := G3.out.lt
  clear hb HR1 G1 G2 R2 HK HP
  have HR2 := Lib.hid G3.out.range0
  go_wp2_with (refine wpList_load_mid rfl 68 _ rfl b2 0 rfl (ndc f) d27 HR2.out HU27.out HD27.out (size27 _) ?_)
  refine (HCk.out w3).mono ?_
  rintro e w4 ⟨rfl, hb⟩
  have G4 := Lib.hid (G3.out.keep hb)
  have R4 := Lib.hid (R3.out.keep hb)
  have K4 := Lib.hid (K3.out.low hb (by omega))
  have hq4 : b2 < w4.heap.size := G4.out.lt
  clear hb HR2 G3 R3 K3 HCk
  go_wp2_with fail
  refine (HG.out w4 R4.out).mono ?_
  rintro e w5 ⟨rfl, hR, hk⟩
  have R5 := Lib.hid hR
  have G5 := Lib.hid (G4.out.kf hk N2.out)
  have K5 := Lib.hid (K4.out.trans hk)
  have hq5 : b2 < w5.heap.size := G5.out.lt
  clear hR hk G4 R4 K4 HG
  go_upto_region 8 with (first | (refine wpList_alloc_byts (w := w5) rfl 59 64 rfl Tryz.zero36 ?_; intro w6 F6 hb6 hz6; simp only [Act.put, List.getElem_toArray, List.getElem_cons_zero, List.getElem_cons_succ, List.setIfInBounds_toArray, List.set_cons_zero, List.set_cons_succ]; refine wpList_store_blk rfl (.tmp 13) (.tmp 34) rfl w5.heap.size 0 64 (fun _ => 0) V F6.out (by omega) rfl rfl ?_; intro w7 F7 HK7; have HB6 := Lib.hid hb6; clear hb6 F6))
  obtain ⟨b5, hb5⟩ : ∃ b, w5.heap.size = b := ⟨_, rfl⟩
  have R6 := Lib.hid (R5.out.keep HB6.out)
  have G6 := Lib.hid (G5.out.keep HB6.out)
  have K6 := Lib.hid (K5.out.low HB6.out (by omega))
  have hq6 : b5 < w6.heap.size := by omega
  rw [hb5] at hq5 F7 HK7
  try rw [hb5]
  clear hb5 hz6 HB6 R5 G5 K5
  have N5 := Lib.hid (nin4 lt1 lt2 lt3 lt4 (b := b5) (by omega))
  have R7 := Lib.hid (R6.out.kp HK7.out N5.out N5.out)
  have G7 := Lib.hid (G6.out.kp HK7.out (by omega) (by omega))
  have K7 := Lib.hid (K6.out.fresh HK7.out (by omega))
  have E7 := Lib.hid (F7.out.congr (fun j hj => upd_zero 64 V j hj _))
  have hq7 := HK7.out.size
  clear F7 R6 G6 K6 HK7
  have HR2 := Lib.hid G7.out.range0
  go_upto_region 10 with fail
  go_wp2_with (refine wpList_load_mid rfl 68 _ rfl b2 0 rfl (ndc f) d27 HR2.out HU27.out HD27.out (size27 _) ?_)
  refine (HEn.out w7).mono ?_
  rintro e w8 ⟨rfl, hb⟩
  have R8 := Lib.hid (R7.out.keep hb)
  have E8 := Lib.hid (E7.out.below hb E7.out.lt)
  have K8 := Lib.hid (K7.out.low hb (by omega))
  have hq8 : b5 < w8.heap.size := E8.out.lt
  clear hb HR2 G7 R7 K7 E7 HEn
  go_upto_region 11 with (first | (refine wpList_alloc_byts (w := w8) rfl 203 32 rfl Tryz.zero28 ?_; intro w9 F9 hb9 hz9; simp only [Act.put, List.getElem_toArray, List.getElem_cons_zero, List.getElem_cons_succ, List.setIfInBounds_toArray, List.set_cons_zero, List.set_cons_succ]; refine wpList_store_mid rfl 203 _ _ rfl w8.heap.size 0 (byts 32 F).toArray rfl rfl (by rw [byts_size]; exact F9.out.there 0 32 (Nat.le_refl _)) (size28' _) (byts_all _ _) ?_; have HB9 := Lib.hid hb9; clear hb9))
  obtain ⟨b8, hb8⟩ : ∃ b, w8.heap.size = b := ⟨_, rfl⟩
  have R9 := Lib.hid (R8.out.keep HB9.out)
  have E9 := Lib.hid (E8.out.below HB9.out E8.out.lt)
  have K9 := Lib.hid (K8.out.low HB9.out (by omega))
  have hq9 : b8 < w9.heap.size := by omega
  rw [hb8] at hq8 F9
  try rw [hb8]
  clear hb8 hz9 HB9 R8 E8 K8
  try rw [List.toList_toArray]
  have hkA : Kp w9 (w9.setCells b8 0 (byts 32 F)) b8 b8 := (Kp.refl w9 b8 b8).setCells b8 0 (.inl rfl) _
  have N8 := Lib.hid (nin4 lt1 lt2 lt3 lt4 (b := b8) (by omega))
  have RA := Lib.hid (R9.out.kp hkA N8.out N8.out)
  have EA := Lib.hid (E9.out.kp hkA (by omega) (by omega))
  have FA := Lib.hid ((F9.out.store 0 32 (Nat.le_refl _) F).congr (fun j hj => upd_zero 32 F j hj _))
  have KA := Lib.hid (K9.out.fresh hkA (by omega))
  have hqA := hkA.size
  obtain ⟨wA, hwA⟩ : ∃ x, w9.setCells b8 0 (byts 32 F) = x := ⟨_, rfl⟩
  rw [hwA] at RA EA FA KA hqA ⊢
  clear hwA hkA R9 E9 F9 K9
  go_still_tail 3, (by kernel_rfl)
  have RB := Lib.hid (RA.out.keep (Below.refl wA.heap.size wA).drew)
  have EB := Lib.hid (EA.out.below (Below.refl wA.heap.size wA).drew EA.out.lt)
  have FB := Lib.hid (FA.out.below (Below.refl wA.heap.size wA).drew FA.out.lt)
  have KB := Lib.hid (KA.out.low (Below.refl wA.heap.size wA).drew (by omega))
  change wpList _ _ _ _ _ (World.drew wA)
  have hqB : b8 < (World.drew wA).heap.size := FA.out.lt
  obtain ⟨wB, hwB⟩ : ∃ x, World.drew wA = x := ⟨_, rfl⟩
  rw [hwB] at RB EB FB KB hqB ⊢
  clear hwB RA EA FA KA
  refine wpList_copy_mid rfl (.tmp 42) (.tmp 43) 24 24 rfl 5 Tryz.sl34 1 Tryz.isize5 b5 32 32 32 (some ⟨b8, 0, none⟩) 32 32 rfl rfl (byts 32 F) rfl (fun _ => ⟨_, rfl, fun j v hj => ?_⟩) ?_ (byts_one _ _) ?_
  · obtain ⟨hjl, rfl⟩ := byts_of hj
    rw [Addr.add_mid, Nat.zero_add]
    exact FB.out.c j hjl
  · rw [byts_len]
    exact EB.out.there 32 32 (by decide)
  have hkC : Kp wB (wB.setCells b5 32 (byts 32 F)) b5 b5 := (Kp.refl wB b5 b5).setCells b5 32 (.inl rfl) _
  have RC := Lib.hid (RB.out.kp hkC N5.out N5.out)
  have EC := Lib.hid (EB.out.store 32 32 (by decide) F)
  have KC := Lib.hid (KB.out.fresh hkC (by omega))
  have hqC := hkC.size
  obtain ⟨wC, hwC⟩ : ∃ x, wB.setCells b5 32 (byts 32 F) = x := ⟨_, rfl⟩
  rw [hwC] at RC EC KC hqC ⊢
  clear hwC hkC RB EB FB KB
  have HRF : Hid (wC.rangeAt b5 0 (byts 64 (upd V 32 32 F))) := Lib.hid (by
    have := EC.out.range 0 64 (Nat.le_refl _)
    simp only [Nat.zero_add] at this
    exact this)
  obtain ⟨V', hV'⟩ : ∃ V', upd V 32 32 F = V' := ⟨_, rfl⟩
  rw [hV'] at HRF HPut
  clear EC
  go_wp2_with (refine wpList_load_mid rfl 59 _ rfl b5 0 rfl (byts 64 V') (.array 64 5) HRF.out Tryz.arr36 rfl (size36 _) ?_)
  refine (HPut.out wC RC.out).mono ?_
  rintro e wD ⟨rfl, hR, hk⟩
  have RD := Lib.hid hR
  have KD := Lib.hid (KC.out.trans hk)
  clear hR hk RC KC HRF HPut
  go_wp2_with fail
  go_ret
  rw [hV']
  exact ⟨rfl, RD.out, KD.out⟩
theorem codeN_zero : codeN zpt = 0 := by kernel_rfl
theorem encF_zero (j : Nat) : encF zpt j = 0 := by
  have hd : ∀ i, dig 0 i = 0 := fun i => by simp [dig]
  unfold encF
  have hz : ∀ i, zpt i = 0 := fun _ => rfl
  simp only [hz, hd]
  split <;> (try rfl)
  split <;> (try rfl)
  split <;> (try rfl)
  split <;> (try rfl)
  split <;> rfl
theorem half {x : Int} {n : Nat} (hx : x = n) (h1 : 1 ≤ n) : (x - 1) % 2 * 32 = 0 ∧ (n - 1) % 2 * 32 = 0 ∨ (x - 1) % 2 * 32 = 32 ∧ (n - 1) % 2 * 32 = 32 := by omega
/-- the table's bytes say those nodes -/
def Tab (P0 M : Nat) (Y : Nat → Nat → Int) (V : Nat → Nat → Int) : Prop := ∀ n, 1 ≤ n → n ≤ M → (∀ j, j < 32 → Y (P0 + (n - 1) / 2) ((n - 1) % 2 * 32 + j) = encF (V n) j) ∧ NdOk (V n) ∧ codeN (V n) = 0
theorem Tab.new (P0 M : Nat) : Tab P0 M (fun _ _ => 0) (fun _ => zpt) := fun n _ _ => ⟨fun j _ => (encF_zero j).symm, zpt_ok, codeN_zero⟩
theorem Tab.congr {P0 M : Nat} {Y Y' V : Nat → Nat → Int} (h : Tab P0 M Y V) (hY : ∀ x, P0 ≤ x → x < P0 + (M + 1) / 2 → Y' x = Y x) : Tab P0 M Y' V := fun n h1 h2 => by
  obtain ⟨g1, g2, g3⟩ := h n h1 h2
  exact ⟨fun j hj => by rw [hY _ (by omega) (by omega)]; exact g1 j hj, g2, g3⟩
theorem Tab.put {P0 M : Nat} {Y V : Nat → Nat → Int} (h : Tab P0 M Y V) (n : Nat) (h1 : 1 ≤ n) (h2 : n ≤ M) (f : Nat → Int) (hf : NdOk f) (hc : codeN f = 0) (kB A : Nat) (hkB : kB = P0 + (n - 1) / 2) (hA : A = (n - 1) % 2 * 32) :
    Tab P0 M (vput kB (wrB (Y kB) A f) Y) (vput n f V) := fun k k1 k2 => by
  obtain ⟨g1, g2, g3⟩ := h k k1 k2
  by_cases e : n = k
  · subst e
    rw [vput_at]
    refine ⟨fun j hj => ?_, hf, hc⟩
    rw [← hkB, vput_at, hA]
    unfold wrB upd
    rw [if_pos (by omega)]
    congr 1
    omega
  · rw [vput_ne _ _ e]
    refine ⟨fun j hj => ?_, g2, g3⟩
    rw [← g1 j hj]
    by_cases eb : kB = P0 + (k - 1) / 2
    · rw [← eb, vput_at]
      unfold wrB upd
      rw [if_neg (by omega)]
    · rw [vput_ne _ _ eb]
/-! ### a table's calls, whatever half -/
theorem read_any6 (g : Cf.Ge) (n : Nat) (t m d gg N K P0 M : Nat) (Y V : Nat → Nat → Int) (h1 : 1 ≤ n) (h2 : n ≤ M) (hM : g.nd = M) (hP : g.base + g.bm = P0) (hb0 : 0 ≤ g.base) (hb1 : g.base < 100000) (hm0 : 0 ≤ g.bm) (hm1 : g.bm < 100000) (hn1 : g.nd ≤ 128) (hk : P0 + (M + 1) / 2 ≤ N) (hk32 : 32 ≤ P0) (hK : K < 600000000) (hI : Tab P0 M Y V) (w : World) (h : Rd w t m d gg N ln Y K) :
    Calls Tryz.prog 95 #[.pointer (some ⟨t, 0, none⟩), g.val, .int .i64 n] w fun e w' => e = .returned (.tuple #[.agg (ndc (V n)).toArray, .int .i64 0]) ∧ Rd w' t m d gg N ln Y (K + 1) ∧ Kf w w' [t, m, d, gg] := by
  obtain ⟨g1, g2, g3⟩ := hI n h1 h2
  have hN := h.hN
  have hx : inP g n := ⟨by omega, by omega⟩
  have hkB : g.base + g.bm + ((n : Int) - 1) / 2 = ((P0 + (n - 1) / 2 : Nat) : Int) := by omega
  have hE := decE_enc g2
  rw [g3] at hE
  have hV := ndc_dec g2 g3
  rcases half (x := n) rfl h1 with ⟨ha, ha'⟩ | ⟨ha, ha'⟩
  · have := read_in0 g n t m d gg N K (P0 + (n - 1) / 2) Y hx hb0 hb1 hm0 hm1 hn1 hkB ha (by omega) (by omega) hN hK (encF (V n)) (encF_byt g2) (fun j hj => by have := g1 j hj; rwa [ha'] at this) w h
    rwa [hE, hV] at this
  · have := read_in32 g n t m d gg N K (P0 + (n - 1) / 2) Y hx hb0 hb1 hm0 hm1 hn1 hkB ha (by omega) (by omega) hN hK (encF (V n)) (encF_byt g2) (fun j hj => by have := g1 j hj; rwa [ha'] at this) w h
    rwa [hE, hV] at this
/-- a block of the table, behind a write -/
def tabW (P0 n : Nat) (f : Nat → Int) (Y : Nat → Nat → Int) : Nat → Nat → Int := vput (P0 + (n - 1) / 2) (wrB (Y (P0 + (n - 1) / 2)) ((n - 1) % 2 * 32) f) Y
theorem write_any6 (g : Cf.Ge) (n : Nat) (t m d gg N K P0 M : Nat) (Y : Nat → Nat → Int) (f : Nat → Int) (hf : NdOk f) (hcd : codeN f = 0) (h1 : 1 ≤ n) (h2 : n ≤ M) (hM : g.nd = M) (hP : g.base + g.bm = P0) (hb0 : 0 ≤ g.base) (hb1 : g.base < 100000) (hm0 : 0 ≤ g.bm) (hm1 : g.bm < 100000) (hn1 : g.nd ≤ 128) (hk : P0 + (M + 1) / 2 ≤ N) (hk32 : 32 ≤ P0) (hT : Has ln (P0 + (n - 1) / 2)) (hK : K < 600000000) (w : World) (h : Rd w t m d gg N ln Y K) :
    Calls Tryz.prog 59 #[.pointer (some ⟨t, 0, none⟩), g.val, .int .i64 n, .agg (ndc f).toArray] w fun e w' => e = .returned (.int .i64 0) ∧ Rd w' t m d gg N ln (tabW P0 n f Y) (K + 1) ∧ Kf w w' [t, m, d, gg] := by
  have hN := h.hN
  have hx : inP g n := ⟨by omega, by omega⟩
  have hkB : g.base + g.bm + ((n : Int) - 1) / 2 = ((P0 + (n - 1) / 2 : Nat) : Int) := by omega
  unfold tabW
  rcases half (x := n) rfl h1 with ⟨ha, ha'⟩ | ⟨ha, ha'⟩
  · rw [ha']
    exact write_in0 g n t m d gg N K (P0 + (n - 1) / 2) Y f hf hcd hx hb0 hb1 hm0 hm1 hn1 hkB ha (by omega) (by omega) hN hT hK w h
  · rw [ha']
    exact write_in32 g n t m d gg N K (P0 + (n - 1) / 2) Y f hf hcd hx hb0 hb1 hm0 hm1 hn1 hkB ha (by omega) (by omega) hN hT hK w h
theorem Tab.wr {P0 M : Nat} {Y V : Nat → Nat → Int} (h : Tab P0 M Y V) (n : Nat) (h1 : 1 ≤ n) (h2 : n ≤ M) (f : Nat → Int) (hf : NdOk f) (hc : codeN f = 0) : Tab P0 M (tabW P0 n f Y) (vput n f V) :=
  h.put n h1 h2 f hf hc _ _ rfl rfl
theorem tabW_ne (P0 n : Nat) (f : Nat → Int) (Y : Nat → Nat → Int) (x : Nat) (h : x ≠ P0 + (n - 1) / 2) : tabW P0 n f Y x = Y x := vput_ne _ _ (Ne.symm h)
end Go.Proofs.YtnfadmifdncjoaaGreat
