import Derived.Test.YtbnpgkclnebnmaaGreatZ12
import Derived.StillTailTactics
import Derived.Test.YtbnpgkclnebnmaaGreatZ14
/- A node of a table: Read, Write. -/
/- A group: its block, its short calls, Get, Put. -/

namespace Go.Proofs.YtbnpgkclnebnmaaGreat
set_option linter.unusedSimpArgs false
set_option linter.unusedVariables false
open Go.RowKit Go.Maps
variable {ln : Lm}
theorem Tryz.desc53 : ∃ d, Tryz.prog.underlying 133 = some d ∧ d.isRow = true := ⟨_, Tryz.underlying133, rfl⟩
theorem Tryz.isize53 : (Tryz.prog.info? 133).map (·.size) = some 6 := by kernel_rfl
theorem size53 (g : Cf.Ge) : (Tryz.prog.info? 133).map (·.size) = some g.cells.length := Tryz.isize53
theorem Tryz.sl34 : Tryz.prog.underlying 24 = some (.slice 5) := Tryz.underlying24
theorem Tryz.isize5 : (Tryz.prog.info? 5).map (·.size) = some 1 := by kernel_rfl
set_option maxHeartbeats 20000000 in
set_option maxRecDepth 100000 in
theorem read_in0 (g : Cf.Ge) (x : Int) (t m d gg N K kB : Nat) (Y : Nat → Nat → Int) (hx : inP g x) (hb0 : 0 ≤ g.base) (hb1 : g.base < 100000) (hm0 : 0 ≤ g.bm) (hm1 : g.bm < 100000) (hn1 : g.nd ≤ 128) (hkB : g.base + g.bm + (x - 1) / 2 = kB) (ha : (x - 1) % 2 * 32 = 0) (hk : kB < N) (hk32 : 32 ≤ kB) (hN : N ≤ 65536) (hK : K < 600000000) (F : Nat → Int) (hB : Byt32 F) (hF : ∀ j, j < 32 → Y kB (0 + j) = F j) (w : World) (h : Rd w t m d gg N ln Y K) :
    Calls Tryz.prog 95 #[.pointer (some ⟨t, 0, none⟩), g.val, .int .i64 x] w fun e w' => e = .returned (.tuple #[.agg (ndc (decV F)).toArray, .int .i64 (decE F)]) ∧ Rd w' t m d gg N ln Y (K + 1) ∧ Kf w w' [t, m, d, gg] := by
  obtain ⟨d27, hu27, hd27⟩ := Tryz.desc27
  obtain ⟨d53, hu53, hd53⟩ := Tryz.desc53
  have HU27 := Lib.hid hu27
  have HD27 := Lib.hid hd27
  have HU53 := Lib.hid hu53
  have HD53 := Lib.hid hd53
  have HP : Hid (∀ W, Calls Tryz.prog 97 #[g.val, .int .i64 x] W fun e w' => e = .returned (.tuple #[.int .i64 kB, .int .i64 0, .bool true]) ∧ Below W.heap.size W w') := fun W => by
    have := place_in g x hx hb0 hb1 hm0 hm1 hn1 W
    rwa [hkB, ha] at this
  have HG := Lib.hid (fun W (h : Rd W t m d gg N ln Y K) => get6 t m d gg K Y kB hk32 hk (by omega) W h)
  have HC := Lib.hid (fun W => decode_any F hB W)
  obtain ⟨V, hV⟩ : ∃ V, Y kB = V := ⟨_, rfl⟩
  rw [hV] at HG hF
  have HFj := Lib.hid hF
  obtain ⟨lt1, lt2, lt3, lt4⟩ := h.lts
  have HR := Lib.hid h
  clear hu27 hd27 hu53 hd53 hx hb0 hb1 hm0 hm1 hn1 hkB ha hk hN hK hB hV hF h
  change Calls _ _ #[_, .agg g.cells.toArray, _] _ _
  have HP : Hid (∀ W, Calls Tryz.prog 97 #[.agg g.cells.toArray, .int .i64 x] W fun e w' => e = .returned (.tuple #[.int .i64 kB, .int .i64 0, .bool true]) ∧ Below W.heap.size W w') := HP
  obtain ⟨gs, hgs⟩ : ∃ gs, g.cells = gs := ⟨_, rfl⟩
  have HS53 : Hid ((Tryz.prog.info? 133).map (·.size) = some gs.length) := by rw [← hgs]; exact size53 g
  rw [hgs] at HP ⊢
  clear hgs
  go_enter Tryz.func95, Tryz.ntmps95
  go_upto_region 1 with (first | (refine wpList_box_list (w := w) rfl 133 _ rfl gs rfl ?_; intro w1 F1 hb1 hz1; have HB1 := Lib.hid hb1; have hq1 : w.heap.size < w1.heap.size := (by omega); clear hb1 hz1) | (refine wpList_alloc_list (w := w1) rfl 68 rfl (ndc zpt) Tryz.zero27 ?_; intro w2 F2 hb2 hz2; have HB2 := Lib.hid hb2; have hq2 : w1.heap.size < w2.heap.size := (by omega); clear hb2 hz2))
  obtain ⟨b1, hb1⟩ : ∃ b, w.heap.size = b := ⟨_, rfl⟩
  obtain ⟨b2, hb2⟩ : ∃ b, w1.heap.size = b := ⟨_, rfl⟩
  have G1 := Lib.hid (F1.out.keep HB2.out)
  have G2 := F2
  have HB := Lib.hid (HB1.out.trans (HB2.out.mono HB1.out.size))
  have R2 := Lib.hid (HR.out.keep HB.out)
  have HK := Lib.hid (Kf.of_below HB.out [t, m, d, gg])
  rw [hb1, hb2] at hq1
  rw [hb2] at hq2
  rw [hb1] at G1 HB lt1 lt2 lt3 lt4
  rw [hb2] at G2
  have HW := Lib.hid hb1
  have hwb : w.heap.size ≤ b1 := Nat.le_of_eq hb1
  try rw [hb1]
  try rw [hb2]
  clear hb1 hb2 HB1 HB2 F1 F2 HR HB
  have N2 := Lib.hid (nin4 lt1 lt2 lt3 lt4 (b := b2) (by omega))
  have HR1 := Lib.hid G1.out.range0
  go_wp2_with (refine wpList_load_mid rfl 133 _ rfl b1 0 rfl gs d53 HR1.out HU53.out HD53.out HS53.out ?_)
  refine (HP.out w2).mono ?_
  rintro e w3 ⟨rfl, hb⟩
  have G3 := Lib.hid (G2.out.keep hb)
  have R3 := Lib.hid (R2.out.keep hb)
  have K3 := Lib.hid (HK.out.low hb (by omega))
  have hq3 : b2 < w3.heap.size := G3.out.lt
  clear hb HR1 G1 G2 R2 HK HP
  go_wp2_with fail
  refine (HG.out w3 R3.out).mono ?_
  rintro e w4 ⟨rfl, hR, hk⟩
  have R4 := Lib.hid hR
  have G4 := Lib.hid (G3.out.kf hk N2.out)
  have K4 := Lib.hid (K3.out.trans hk)
  have hq4 : b2 < w4.heap.size := G4.out.lt
  clear hR hk G3 R3 K3 HG
  go_upto_region 5 with (first | (refine wpList_alloc_byts (w := w4) rfl 59 64 rfl Tryz.zero36 ?_; intro w5 F5 hb5 hz5; simp only [Act.put, List.getElem_toArray, List.getElem_cons_zero, List.getElem_cons_succ, List.setIfInBounds_toArray, List.set_cons_zero, List.set_cons_succ]; refine wpList_store_blk rfl (.tmp 11) (.tmp 28) rfl w4.heap.size 0 64 (fun _ => 0) V F5.out (by omega) rfl rfl ?_; intro w6 F6 HK6; have HB5 := Lib.hid hb5; clear hb5 F5))
  obtain ⟨b5, hb5⟩ : ∃ b, w4.heap.size = b := ⟨_, rfl⟩
  have R5 := Lib.hid (R4.out.keep HB5.out)
  have G5 := Lib.hid (G4.out.keep HB5.out)
  have K5 := Lib.hid (K4.out.low HB5.out (by omega))
  have hq5 : b5 < w5.heap.size := by omega
  rw [hb5] at hq4 F6 HK6
  try rw [hb5]
  clear hb5 hz5 HB5 R4 G4 K4
  have N5 := Lib.hid (nin4 lt1 lt2 lt3 lt4 (b := b5) (by omega))
  have R6 := Lib.hid (R5.out.kp HK6.out N5.out N5.out)
  have G6 := Lib.hid (G5.out.kp HK6.out (by omega) (by omega))
  have K6 := Lib.hid (K5.out.fresh HK6.out (by omega))
  have F6' := Lib.hid (F6.out.congr (fun j hj => upd_zero 64 V j hj _))
  have hq6 := HK6.out.size
  clear F6 R5 G5 K5 HK6
  go_upto_region 8 with (first | (refine wpList_alloc_byts (w := w6) rfl 203 32 rfl Tryz.zero28 ?_; intro w7 F7 hb7 hz7; have HB7 := Lib.hid hb7; have hq7 : w6.heap.size < w7.heap.size := (by omega); clear hb7 hz7))
  obtain ⟨b7, hb7⟩ : ∃ b, w6.heap.size = b := ⟨_, rfl⟩
  have R7 := Lib.hid (R6.out.keep HB7.out)
  have G7 := Lib.hid (G6.out.keep HB7.out)
  have K7 := Lib.hid (K6.out.low HB7.out (by omega))
  have E7 := Lib.hid (F6'.out.below HB7.out F6'.out.lt)
  have hq8 : b5 < b7 := by rw [← hb7]; exact F6'.out.lt
  rw [hb7] at F7 hq6 hq7
  try rw [hb7]
  clear hb7 HB7 R6 G6 K6 F6'
  go_still_tail 3, (by kernel_rfl)
  have R8 := Lib.hid (R7.out.keep (Below.refl w7.heap.size w7).drew)
  have G8 := Lib.hid (G7.out.keep (Below.refl w7.heap.size w7).drew)
  have E8 := Lib.hid (E7.out.below (Below.refl w7.heap.size w7).drew E7.out.lt)
  have F8 := Lib.hid (F7.out.below (Below.refl w7.heap.size w7).drew F7.out.lt)
  have K8 := Lib.hid (K7.out.low (Below.refl w7.heap.size w7).drew (by omega))
  change wpList _ _ _ _ _ (World.drew w7)
  have hq9 : b7 < (World.drew w7).heap.size := hq7
  obtain ⟨w8, hw8⟩ : ∃ x, World.drew w7 = x := ⟨_, rfl⟩
  rw [hw8] at R8 G8 E8 F8 K8 hq9 ⊢
  clear hw8 R7 G7 E7 F7 K7 hq7
  refine wpList_copy_mid rfl (.tmp 34) (.tmp 36) 24 24 rfl 5 Tryz.sl34 1 Tryz.isize5 b7 0 32 32 (some ⟨b5, 0, none⟩) 64 64 rfl rfl (byts 32 F) rfl (fun _ => ⟨_, rfl, fun j v hj => ?_⟩) ?_ (byts_one _ _) ?_
  · obtain ⟨hjl, rfl⟩ := byts_of hj
    rw [Addr.add_mid, ← HFj.out j hjl]
    exact E8.out.c (0 + j) (by omega)
  · rw [byts_len]
    exact F8.out.there 0 32 (Nat.le_refl _)
  have hk9 : Kp w8 (w8.setCells b7 0 (byts 32 F)) b7 b7 := (Kp.refl w8 b7 b7).setCells b7 0 (.inl rfl) _
  have N7 := Lib.hid (nin4 lt1 lt2 lt3 lt4 (b := b7) (by omega))
  have R9 := Lib.hid (R8.out.kp hk9 N7.out N7.out)
  have G9 := Lib.hid (G8.out.kp hk9 (by omega) (by omega))
  have F9 := Lib.hid ((F8.out.store 0 32 (Nat.le_refl _) F).congr (fun j hj => upd_zero 32 F j hj _))
  have K9 := Lib.hid (K8.out.fresh hk9 (by omega))
  obtain ⟨w9, hw9⟩ : ∃ x, w8.setCells b7 0 (byts 32 F) = x := ⟨_, rfl⟩
  have hqA := hk9.size
  rw [hw9] at R9 G9 F9 K9 hqA ⊢
  clear hw9 hk9 R8 G8 E8 F8 K8
  have HR9 := Lib.hid (F9.out.range 0 32 (Nat.le_refl _))
  have HRF : Hid (w9.rangeAt b7 0 (byts 32 F)) := Lib.hid (by
    have := HR9.out
    simp only [Nat.zero_add] at this
    exact this)
  go_wp2_with (refine wpList_load_mid rfl 203 _ rfl b7 0 rfl (byts 32 F) (.array 32 5) HRF.out Tryz.arr28 rfl (size28 _) ?_)
  refine (HC.out w9).mono ?_
  rintro e wa ⟨rfl, hb⟩
  have Ra := Lib.hid (R9.out.keep hb)
  have Ga := Lib.hid (G9.out.keep hb)
  have Ka := Lib.hid (K9.out.low hb (by omega))
  clear hb R9 G9 K9 F9 HR9 HRF HC
  go_wp2_with (refine wpList_store_mid rfl 68 _ _ rfl b2 0 (ndc (decV F)).toArray rfl rfl (Ga.out.there0 12 rfl) (size27' _) (all_oneCell_toArray (ndc_one _)) ?_)
  have hkb : Kp wa (wa.setCells b2 0 (ndc (decV F))) b2 b2 := (Kp.refl wa b2 b2).setCells b2 0 (.inl rfl) _
  exact bodyPost_ret_by (results_mid_tmp rfl _ _ b2 (ndc (decV F)) d27 rfl (Ga.out.stored (ndc (decV F)) rfl).range0 HU27.out HD27.out (size27 _)) rfl ⟨rfl, Ra.out.kp hkb N2.out N2.out, Ka.out.fresh hkb (by omega)⟩

set_option maxHeartbeats 20000000 in
set_option maxRecDepth 100000 in
theorem read_in32 (g : Cf.Ge) (x : Int) (t m d gg N K kB : Nat) (Y : Nat → Nat → Int) (hx : inP g x) (hb0 : 0 ≤ g.base) (hb1 : g.base < 100000) (hm0 : 0 ≤ g.bm) (hm1 : g.bm < 100000) (hn1 : g.nd ≤ 128) (hkB : g.base + g.bm + (x - 1) / 2 = kB) (ha : (x - 1) % 2 * 32 = 32) (hk : kB < N) (hk32 : 32 ≤ kB) (hN : N ≤ 65536) (hK : K < 600000000) (F : Nat → Int) (hB : Byt32 F) (hF : ∀ j, j < 32 → Y kB (32 + j) = F j) (w : World) (h : Rd w t m d gg N ln Y K) :
    Calls Tryz.prog 95 #[.pointer (some ⟨t, 0, none⟩), g.val, .int .i64 x] w fun e w' => e = .returned (.tuple #[.agg (ndc (decV F)).toArray, .int .i64 (decE F)]) ∧ Rd w' t m d gg N ln Y (K + 1) ∧ Kf w w' [t, m, d, gg] := by
  obtain ⟨d27, hu27, hd27⟩ := Tryz.desc27
  obtain ⟨d53, hu53, hd53⟩ := Tryz.desc53
  have HU27 := Lib.hid hu27
  have HD27 := Lib.hid hd27
  have HU53 := Lib.hid hu53
  have HD53 := Lib.hid hd53
  have HP : Hid (∀ W, Calls Tryz.prog 97 #[g.val, .int .i64 x] W fun e w' => e = .returned (.tuple #[.int .i64 kB, .int .i64 32, .bool true]) ∧ Below W.heap.size W w') := fun W => by
    have := place_in g x hx hb0 hb1 hm0 hm1 hn1 W
    rwa [hkB, ha] at this
  have HG := Lib.hid (fun W (h : Rd W t m d gg N ln Y K) => get6 t m d gg K Y kB hk32 hk (by omega) W h)
  have HC := Lib.hid (fun W => decode_any F hB W)
  obtain ⟨V, hV⟩ : ∃ V, Y kB = V := ⟨_, rfl⟩
  rw [hV] at HG hF
  have HFj := Lib.hid hF
  obtain ⟨lt1, lt2, lt3, lt4⟩ := h.lts
  have HR := Lib.hid h
  clear hu27 hd27 hu53 hd53 hx hb0 hb1 hm0 hm1 hn1 hkB ha hk hN hK hB hV hF h
  change Calls _ _ #[_, .agg g.cells.toArray, _] _ _
  have HP : Hid (∀ W, Calls Tryz.prog 97 #[.agg g.cells.toArray, .int .i64 x] W fun e w' => e = .returned (.tuple #[.int .i64 kB, .int .i64 32, .bool true]) ∧ Below W.heap.size W w') := HP
  obtain ⟨gs, hgs⟩ : ∃ gs, g.cells = gs := ⟨_, rfl⟩
  have HS53 : Hid ((Tryz.prog.info? 133).map (·.size) = some gs.length) := by rw [← hgs]; exact size53 g
  rw [hgs] at HP ⊢
  clear hgs
  go_enter Tryz.func95, Tryz.ntmps95
  go_upto_region 1 with (first | (refine wpList_box_list (w := w) rfl 133 _ rfl gs rfl ?_; intro w1 F1 hb1 hz1; have HB1 := Lib.hid hb1; have hq1 : w.heap.size < w1.heap.size := (by omega); clear hb1 hz1) | (refine wpList_alloc_list (w := w1) rfl 68 rfl (ndc zpt) Tryz.zero27 ?_; intro w2 F2 hb2 hz2; have HB2 := Lib.hid hb2; have hq2 : w1.heap.size < w2.heap.size := (by omega); clear hb2 hz2))
  obtain ⟨b1, hb1⟩ : ∃ b, w.heap.size = b := ⟨_, rfl⟩
  obtain ⟨b2, hb2⟩ : ∃ b, w1.heap.size = b := ⟨_, rfl⟩
  have G1 := Lib.hid (F1.out.keep HB2.out)
  have G2 := F2
  have HB := Lib.hid (HB1.out.trans (HB2.out.mono HB1.out.size))
  have R2 := Lib.hid (HR.out.keep HB.out)
  have HK := Lib.hid (Kf.of_below HB.out [t, m, d, gg])
  rw [hb1, hb2] at hq1
  rw [hb2] at hq2
  rw [hb1] at G1 HB lt1 lt2 lt3 lt4
  rw [hb2] at G2
  have HW := Lib.hid hb1
  have hwb : w.heap.size ≤ b1 := Nat.le_of_eq hb1
  try rw [hb1]
  try rw [hb2]
  clear hb1 hb2 HB1 HB2 F1 F2 HR HB
  have N2 := Lib.hid (nin4 lt1 lt2 lt3 lt4 (b := b2) (by omega))
  have HR1 := Lib.hid G1.out.range0
  go_wp2_with (refine wpList_load_mid rfl 133 _ rfl b1 0 rfl gs d53 HR1.out HU53.out HD53.out HS53.out ?_)
  refine (HP.out w2).mono ?_
  rintro e w3 ⟨rfl, hb⟩
  have G3 := Lib.hid (G2.out.keep hb)
  have R3 := Lib.hid (R2.out.keep hb)
  have K3 := Lib.hid (HK.out.low hb (by omega))
  have hq3 : b2 < w3.heap.size := G3.out.lt
  clear hb HR1 G1 G2 R2 HK HP
  go_wp2_with fail
  refine (HG.out w3 R3.out).mono ?_
  rintro e w4 ⟨rfl, hR, hk⟩
  have R4 := Lib.hid hR
  have G4 := Lib.hid (G3.out.kf hk N2.out)
  have K4 := Lib.hid (K3.out.trans hk)
  have hq4 : b2 < w4.heap.size := G4.out.lt
  clear hR hk G3 R3 K3 HG
  go_upto_region 5 with (first | (refine wpList_alloc_byts (w := w4) rfl 59 64 rfl Tryz.zero36 ?_; intro w5 F5 hb5 hz5; simp only [Act.put, List.getElem_toArray, List.getElem_cons_zero, List.getElem_cons_succ, List.setIfInBounds_toArray, List.set_cons_zero, List.set_cons_succ]; refine wpList_store_blk rfl (.tmp 11) (.tmp 28) rfl w4.heap.size 0 64 (fun _ => 0) V F5.out (by omega) rfl rfl ?_; intro w6 F6 HK6; have HB5 := Lib.hid hb5; clear hb5 F5))
  obtain ⟨b5, hb5⟩ : ∃ b, w4.heap.size = b := ⟨_, rfl⟩
  have R5 := Lib.hid (R4.out.keep HB5.out)
  have G5 := Lib.hid (G4.out.keep HB5.out)
  have K5 := Lib.hid (K4.out.low HB5.out (by omega))
  have hq5 : b5 < w5.heap.size := by omega
  rw [hb5] at hq4 F6 HK6
  try rw [hb5]
  clear hb5 hz5 HB5 R4 G4 K4
  have N5 := Lib.hid (nin4 lt1 lt2 lt3 lt4 (b := b5) (by omega))
  have R6 := Lib.hid (R5.out.kp HK6.out N5.out N5.out)
  have G6 := Lib.hid (G5.out.kp HK6.out (by omega) (by omega))
  have K6 := Lib.hid (K5.out.fresh HK6.out (by omega))
  have F6' := Lib.hid (F6.out.congr (fun j hj => upd_zero 64 V j hj _))
  have hq6 := HK6.out.size
  clear F6 R5 G5 K5 HK6
  go_upto_region 8 with (first | (refine wpList_alloc_byts (w := w6) rfl 203 32 rfl Tryz.zero28 ?_; intro w7 F7 hb7 hz7; have HB7 := Lib.hid hb7; have hq7 : w6.heap.size < w7.heap.size := (by omega); clear hb7 hz7))
  obtain ⟨b7, hb7⟩ : ∃ b, w6.heap.size = b := ⟨_, rfl⟩
  have R7 := Lib.hid (R6.out.keep HB7.out)
  have G7 := Lib.hid (G6.out.keep HB7.out)
  have K7 := Lib.hid (K6.out.low HB7.out (by omega))
  have E7 := Lib.hid (F6'.out.below HB7.out F6'.out.lt)
  have hq8 : b5 < b7 := by rw [← hb7]; exact F6'.out.lt
  rw [hb7] at F7 hq6 hq7
  try rw [hb7]
  clear hb7 HB7 R6 G6 K6 F6'
  go_still_tail 3, (by kernel_rfl)
  have R8 := Lib.hid (R7.out.keep (Below.refl w7.heap.size w7).drew)
  have G8 := Lib.hid (G7.out.keep (Below.refl w7.heap.size w7).drew)
  have E8 := Lib.hid (E7.out.below (Below.refl w7.heap.size w7).drew E7.out.lt)
  have F8 := Lib.hid (F7.out.below (Below.refl w7.heap.size w7).drew F7.out.lt)
  have K8 := Lib.hid (K7.out.low (Below.refl w7.heap.size w7).drew (by omega))
  change wpList _ _ _ _ _ (World.drew w7)
  have hq9 : b7 < (World.drew w7).heap.size := hq7
  obtain ⟨w8, hw8⟩ : ∃ x, World.drew w7 = x := ⟨_, rfl⟩
  rw [hw8] at R8 G8 E8 F8 K8 hq9 ⊢
  clear hw8 R7 G7 E7 F7 K7 hq7
  refine wpList_copy_mid rfl (.tmp 34) (.tmp 36) 24 24 rfl 5 Tryz.sl34 1 Tryz.isize5 b7 0 32 32 (some ⟨b5, 32, none⟩) 32 32 rfl rfl (byts 32 F) rfl (fun _ => ⟨_, rfl, fun j v hj => ?_⟩) ?_ (byts_one _ _) ?_
  · obtain ⟨hjl, rfl⟩ := byts_of hj
    rw [Addr.add_mid, ← HFj.out j hjl]
    exact E8.out.c (32 + j) (by omega)
  · rw [byts_len]
    exact F8.out.there 0 32 (Nat.le_refl _)
  have hk9 : Kp w8 (w8.setCells b7 0 (byts 32 F)) b7 b7 := (Kp.refl w8 b7 b7).setCells b7 0 (.inl rfl) _
  have N7 := Lib.hid (nin4 lt1 lt2 lt3 lt4 (b := b7) (by omega))
  have R9 := Lib.hid (R8.out.kp hk9 N7.out N7.out)
  have G9 := Lib.hid (G8.out.kp hk9 (by omega) (by omega))
  have F9 := Lib.hid ((F8.out.store 0 32 (Nat.le_refl _) F).congr (fun j hj => upd_zero 32 F j hj _))
  have K9 := Lib.hid (K8.out.fresh hk9 (by omega))
  obtain ⟨w9, hw9⟩ : ∃ x, w8.setCells b7 0 (byts 32 F) = x := ⟨_, rfl⟩
  have hqA := hk9.size
  rw [hw9] at R9 G9 F9 K9 hqA ⊢
  clear hw9 hk9 R8 G8 E8 F8 K8
  have HR9 := Lib.hid (F9.out.range 0 32 (Nat.le_refl _))
  have HRF : Hid (w9.rangeAt b7 0 (byts 32 F)) := Lib.hid (by
    have := HR9.out
    simp only [Nat.zero_add] at this
    exact this)
  go_wp2_with (refine wpList_load_mid rfl 203 _ rfl b7 0 rfl (byts 32 F) (.array 32 5) HRF.out Tryz.arr28 rfl (size28 _) ?_)
  refine (HC.out w9).mono ?_
  rintro e wa ⟨rfl, hb⟩
  have Ra := Lib.hid (R9.out.keep hb)
  have Ga := Lib.hid (G9.out.keep hb)
  have Ka := Lib.hid (K9.out.low hb (by omega))
  clear hb R9 G9 K9 F9 HR9 HRF HC
  go_wp2_with (refine wpList_store_mid rfl 68 _ _ rfl b2 0 (ndc (decV F)).toArray rfl rfl (Ga.out.there0 12 rfl) (size27' _) (all_oneCell_toArray (ndc_one _)) ?_)
  have hkb : Kp wa (wa.setCells b2 0 (ndc (decV F))) b2 b2 := (Kp.refl wa b2 b2).setCells b2 0 (.inl rfl) _
  exact bodyPost_ret_by (results_mid_tmp rfl _ _ b2 (ndc (decV F)) d27 rfl (Ga.out.stored (ndc (decV F)) rfl).range0 HU27.out HD27.out (size27 _)) rfl ⟨rfl, Ra.out.kp hkb N2.out N2.out, Ka.out.fresh hkb (by omega)⟩
/-- a block's node laid over -/
def wrB (V : Nat → Int) (a : Nat) (f : Nat → Int) : Nat → Int := upd V a 32 (encF f)
theorem wrB_byt {V : Nat → Int} (h : Byt V) {f : Nat → Int} (hf : NdOk f) (a : Nat) (ha : a + 32 ≤ 64) : Byt (wrB V a f) := by
  intro j hj
  unfold wrB upd
  split
  · exact encF_byt hf _ (by omega)
  · exact h j hj
set_option maxHeartbeats 20000000 in
set_option maxRecDepth 100000 in
theorem write_in0 (g : Cf.Ge) (x : Int) (t m d gg N K kB : Nat) (Y : Nat → Nat → Int) (f : Nat → Int) (hf : NdOk f) (hcd : codeN f = 0) (hx : inP g x) (hb0 : 0 ≤ g.base) (hb1 : g.base < 100000) (hm0 : 0 ≤ g.bm) (hm1 : g.bm < 100000) (hn1 : g.nd ≤ 128) (hkB : g.base + g.bm + (x - 1) / 2 = kB) (ha : (x - 1) % 2 * 32 = 0) (hk : kB < N) (hk32 : 32 ≤ kB) (hN : N ≤ 65536) (hT : Has ln kB) (hK : K < 600000000) (w : World) (h : Rd w t m d gg N ln Y K) :
    Calls Tryz.prog 59 #[.pointer (some ⟨t, 0, none⟩), g.val, .int .i64 x, .agg (ndc f).toArray] w fun e w' => e = .returned (.int .i64 0) ∧ Rd w' t m d gg N ln (vput kB (wrB (Y kB) 0 f) Y) (K + 1) ∧ Kf w w' [t, m, d, gg] := by
  obtain ⟨d27, hu27, hd27⟩ := Tryz.desc27
  obtain ⟨d53, hu53, hd53⟩ := Tryz.desc53
  have HU27 := Lib.hid hu27
  have HD27 := Lib.hid hd27
  have HU53 := Lib.hid hu53
  have HD53 := Lib.hid hd53
  have HP : Hid (∀ W, Calls Tryz.prog 97 #[.agg g.cells.toArray, .int .i64 x] W fun e w' => e = .returned (.tuple #[.int .i64 kB, .int .i64 0, .bool true]) ∧ Below W.heap.size W w') := fun W => by
    have := place_in g x hx hb0 hb1 hm0 hm1 hn1 W
    rw [hkB, ha] at this
    exact this
  have HCk := Lib.hid (fun W => check_any f hf W)
  rw [hcd] at HCk
  have HEn := Lib.hid (fun W => encode_any f hf W)
  have HG := Lib.hid (fun W (h : Rd W t m d gg N ln Y K) => get6 t m d gg K Y kB hk32 hk (by omega) W h)
  have HPut := Lib.hid (fun W (h' : Rd W t m d gg N ln Y (K + 1)) => put6 t m d gg (K + 1) Y kB (wrB (Y kB) 0 f) (wrB_byt (h.vb kB) hf 0 (by decide)) hk32 hk hT W h')
  obtain ⟨V, hV⟩ : ∃ V, Y kB = V := ⟨_, rfl⟩
  rw [hV] at HG HPut ⊢
  obtain ⟨F, hF⟩ : ∃ F : Nat → Int, encF f = F := ⟨_, rfl⟩
  have hW : wrB V 0 f = upd V 0 32 F := by unfold wrB; rw [hF]
  rw [hF] at HEn
  rw [hW] at HPut ⊢
  obtain ⟨lt1, lt2, lt3, lt4⟩ := h.lts
  have HR := Lib.hid h
  clear hu27 hd27 hu53 hd53 hx hb0 hb1 hm0 hm1 hn1 hkB ha hk hk32 hN hT hK hV hF hf hcd hW h
  change Calls _ _ #[_, .agg g.cells.toArray, _, _] _ _
  obtain ⟨gs, hgs⟩ : ∃ gs, g.cells = gs := ⟨_, rfl⟩
  have HS53 : Hid ((Tryz.prog.info? 133).map (·.size) = some gs.length) := by rw [← hgs]; exact size53 g
  rw [hgs] at HP ⊢
  clear hgs
  go_enter Tryz.func59, Tryz.ntmps59
  go_upto_region 1 with (first | (refine wpList_box_list (w := w) rfl 133 _ rfl gs rfl ?_; intro w1 F1 hb1 hz1; have HB1 := Lib.hid hb1; have hq1 : w.heap.size < w1.heap.size := (by omega); clear hb1 hz1) | (refine wpList_box_list (w := w1) rfl 68 _ rfl (ndc f) rfl ?_; intro w2 F2 hb2 hz2; have HB2 := Lib.hid hb2; have hq2 : w1.heap.size < w2.heap.size := (by omega); clear hb2 hz2))
  obtain ⟨b1, hb1⟩ : ∃ b, w.heap.size = b := ⟨_, rfl⟩
  obtain ⟨b2, hb2⟩ : ∃ b, w1.heap.size = b := ⟨_, rfl⟩
  have G1 := Lib.hid (F1.out.keep HB2.out)
  have G2 := F2
  have HB := Lib.hid (HB1.out.trans (HB2.out.mono HB1.out.size))
  have R2 := Lib.hid (HR.out.keep HB.out)
  have HK := Lib.hid (Kf.of_below HB.out [t, m, d, gg])
  rw [hb1, hb2] at hq1
  rw [hb2] at hq2
  rw [hb1] at G1 lt1 lt2 lt3 lt4
  rw [hb2] at G2
  have hwb : w.heap.size ≤ b1 := Nat.le_of_eq hb1
  try rw [hb1]
  try rw [hb2]
  clear hb1 hb2 HB1 HB2 F1 F2 HR HB
  have N2 := Lib.hid (nin4 lt1 lt2 lt3 lt4 (b := b2) (by omega))
  have HR1 := Lib.hid G1.out.range0
  go_wp2_with (refine wpList_load_mid rfl 133 _ rfl b1 0 rfl gs d53 HR1.out HU53.out HD53.out HS53.out ?_)
  refine (HP.out w2).mono ?_
  rintro e w3 ⟨rfl, hb⟩
  have G3 := Lib.hid (G2.out.keep hb)
  have R3 := Lib.hid (R2.out.keep hb)
  have K3 := Lib.hid (HK.out.low hb (by omega))
  have hq3 : b2 < w3.heap.size := G3.out.lt
  clear hb HR1 G1 G2 R2 HK HP
  have HR2 := Lib.hid G3.out.range0
  go_wp2_with (refine wpList_load_mid rfl 68 _ rfl b2 0 rfl (ndc f) d27 HR2.out HU27.out HD27.out (size27 _) ?_)
  refine (HCk.out w3).mono ?_
  rintro e w4 ⟨rfl, hb⟩
  have G4 := Lib.hid (G3.out.keep hb)
  have R4 := Lib.hid (R3.out.keep hb)
  have K4 := Lib.hid (K3.out.low hb (by omega))
  have hq4 : b2 < w4.heap.size := G4.out.lt
  clear hb HR2 G3 R3 K3 HCk
  go_wp2_with fail
  refine (HG.out w4 R4.out).mono ?_
  rintro e w5 ⟨rfl, hR, hk⟩
  have R5 := Lib.hid hR
  have G5 := Lib.hid (G4.out.kf hk N2.out)
  have K5 := Lib.hid (K4.out.trans hk)
  have hq5 : b2 < w5.heap.size := G5.out.lt
  clear hR hk G4 R4 K4 HG
  go_upto_region 8 with (first | (refine wpList_alloc_byts (w := w5) rfl 59 64 rfl Tryz.zero36 ?_; intro w6 F6 hb6 hz6; simp only [Act.put, List.getElem_toArray, List.getElem_cons_zero, List.getElem_cons_succ, List.setIfInBounds_toArray, List.set_cons_zero, List.set_cons_succ]; refine wpList_store_blk rfl (.tmp 13) (.tmp 34) rfl w5.heap.size 0 64 (fun _ => 0) V F6.out (by omega) rfl rfl ?_; intro w7 F7 HK7; have HB6 := Lib.hid hb6; clear hb6 F6))
  obtain ⟨b5, hb5⟩ : ∃ b, w5.heap.size = b := ⟨_, rfl⟩
  have R6 := Lib.hid (R5.out.keep HB6.out)
  have G6 := Lib.hid (G5.out.keep HB6.out)
  have K6 := Lib.hid (K5.out.low HB6.out (by omega))
  have hq6 : b5 < w6.heap.size := by omega
  rw [hb5] at hq5 F7 HK7
  try rw [hb5]
  clear hb5 hz6 HB6 R5 G5 K5
  have N5 := Lib.hid (nin4 lt1 lt2 lt3 lt4 (b := b5) (by omega))
  have R7 := Lib.hid (R6.out.kp HK7.out N5.out N5.out)
  have G7 := Lib.hid (G6.out.kp HK7.out (by omega) (by omega))
  have K7 := Lib.hid (K6.out.fresh HK7.out (by omega))
  have E7 := Lib.hid (F7.out.congr (fun j hj => upd_zero 64 V j hj _))
  have hq7 := HK7.out.size
  clear F7 R6 G6 K6 HK7
  have HR2 := Lib.hid G7.out.range0
  go_upto_region 10 with fail
  go_wp2_with (refine wpList_load_mid rfl 68 _ rfl b2 0 rfl (ndc f) d27 HR2.out HU27.out HD27.out (size27 _) ?_)
  refine (HEn.out w7).mono ?_
  rintro e w8 ⟨rfl, hb⟩
  have R8 := Lib.hid (R7.out.keep hb)
  have E8 := Lib.hid (E7.out.below hb E7.out.lt)
  have K8 := Lib.hid (K7.out.low hb (by omega))
  have hq8 : b5 < w8.heap.size := E8.out.lt
  clear hb HR2 G7 R7 K7 E7 HEn
  go_upto_region 11 with (first | (refine wpList_alloc_byts (w := w8) rfl 203 32 rfl Tryz.zero28 ?_; intro w9 F9 hb9 hz9; simp only [Act.put, List.getElem_toArray, List.getElem_cons_zero, List.getElem_cons_succ, List.setIfInBounds_toArray, List.set_cons_zero, List.set_cons_succ]; refine wpList_store_mid rfl 203 _ _ rfl w8.heap.size 0 (byts 32 F).toArray rfl rfl (by rw [byts_size]; exact F9.out.there 0 32 (Nat.le_refl _)) (size28' _) (byts_all _ _) ?_; have HB9 := Lib.hid hb9; clear hb9))
  obtain ⟨b8, hb8⟩ : ∃ b, w8.heap.size = b := ⟨_, rfl⟩
  have R9 := Lib.hid (R8.out.keep HB9.out)
  have E9 := Lib.hid (E8.out.below HB9.out E8.out.lt)
  have K9 := Lib.hid (K8.out.low HB9.out (by omega))
  have hq9 : b8 < w9.heap.size := by omega
  rw [hb8] at hq8 F9
  try rw [hb8]
  clear hb8 hz9 HB9 R8 E8 K8
  try rw [List.toList_toArray]
  have hkA : Kp w9 (w9.setCells b8 0 (byts 32 F)) b8 b8 := (Kp.refl w9 b8 b8).setCells b8 0 (.inl rfl) _
  have N8 := Lib.hid (nin4 lt1 lt2 lt3 lt4 (b := b8) (by omega))
  have RA := Lib.hid (R9.out.kp hkA N8.out N8.out)
  have EA := Lib.hid (E9.out.kp hkA (by omega) (by omega))
  have FA := Lib.hid ((F9.out.store 0 32 (Nat.le_refl _) F).congr (fun j hj => upd_zero 32 F j hj _))
  have KA := Lib.hid (K9.out.fresh hkA (by omega))
  have hqA := hkA.size
  obtain ⟨wA, hwA⟩ : ∃ x, w9.setCells b8 0 (byts 32 F) = x := ⟨_, rfl⟩
  rw [hwA] at RA EA FA KA hqA ⊢
  clear hwA hkA R9 E9 F9 K9
  go_still_tail 3, (by kernel_rfl)
  have RB := Lib.hid (RA.out.keep (Below.refl wA.heap.size wA).drew)
  have EB := Lib.hid (EA.out.below (Below.refl wA.heap.size wA).drew EA.out.lt)
  have FB := Lib.hid (FA.out.below (Below.refl wA.heap.size wA).drew FA.out.lt)
  have KB := Lib.hid (KA.out.low (Below.refl wA.heap.size wA).drew (by omega))
  change wpList _ _ _ _ _ (World.drew wA)
  have hqB : b8 < (World.drew wA).heap.size := FA.out.lt
  obtain ⟨wB, hwB⟩ : ∃ x, World.drew wA = x := ⟨_, rfl⟩
  rw [hwB] at RB EB FB KB hqB ⊢
  clear hwB RA EA FA KA
  refine wpList_copy_mid rfl (.tmp 42) (.tmp 43) 24 24 rfl 5 Tryz.sl34 1 Tryz.isize5 b5 0 64 64 (some ⟨b8, 0, none⟩) 32 32 rfl rfl (byts 32 F) rfl (fun _ => ⟨_, rfl, fun j v hj => ?_⟩) ?_ (byts_one _ _) ?_
  · obtain ⟨hjl, rfl⟩ := byts_of hj
    rw [Addr.add_mid, Nat.zero_add]
    exact FB.out.c j hjl
  · rw [byts_len]
    exact EB.out.there 0 32 (by decide)
  have hkC : Kp wB (wB.setCells b5 0 (byts 32 F)) b5 b5 := (Kp.refl wB b5 b5).setCells b5 0 (.inl rfl) _
  have RC := Lib.hid (RB.out.kp hkC N5.out N5.out)
  have EC := Lib.hid (EB.out.store 0 32 (by decide) F)
  have KC := Lib.hid (KB.out.fresh hkC (by omega))
  have hqC := hkC.size
  obtain ⟨wC, hwC⟩ : ∃ x, wB.setCells b5 0 (byts 32 F) = x := ⟨_, rfl⟩
  rw [hwC] at RC EC KC hqC ⊢
  clear hwC hkC RB EB FB KB
  have HRF : Hid (wC.rangeAt b5 0 (byts 64 (upd V 0 32 F))) := Lib.hid (by
    have := EC.out.range 0 64 (Nat.le_refl _)
    simp only [Nat.zero_add] at this
    exact this)
  obtain ⟨V', hV'⟩ : ∃ V', upd V 0 32 F = V' := ⟨_, rfl⟩
  rw [hV'] at HRF HPut
  clear EC
  go_wp2_with (refine wpList_load_mid rfl 59 _ rfl b5 0 rfl (byts 64 V') (.array 64 5) HRF.out Tryz.arr36 rfl (size36 _) ?_)
  refine (HPut.out wC RC.out).mono ?_
  rintro e wD ⟨rfl, hR, hk⟩
  have RD := Lib.hid hR
  have KD := Lib.hid (KC.out.trans hk)
  clear hR hk RC KC HRF HPut
  go_wp2_with fail
  go_ret
  rw [hV']
  exact ⟨rfl, RD.out, KD.out⟩

set_option maxHeartbeats 20000000 in
set_option maxRecDepth 100000 in
theorem write_in32 (g : Cf.Ge) (x : Int) (t m d gg N K kB : Nat) (Y : Nat → Nat → Int) (f : Nat → Int) (hf : NdOk f) (hcd : codeN f = 0) (hx : inP g x) (hb0 : 0 ≤ g.base) (hb1 : g.base < 100000) (hm0 : 0 ≤ g.bm) (hm1 : g.bm < 100000) (hn1 : g.nd ≤ 128) (hkB : g.base + g.bm + (x - 1) / 2 = kB) (ha : (x - 1) % 2 * 32 = 32) (hk : kB < N) (hk32 : 32 ≤ kB) (hN : N ≤ 65536) (hT : Has ln kB) (hK : K < 600000000) (w : World) (h : Rd w t m d gg N ln Y K) :
    Calls Tryz.prog 59 #[.pointer (some ⟨t, 0, none⟩), g.val, .int .i64 x, .agg (ndc f).toArray] w fun e w' => e = .returned (.int .i64 0) ∧ Rd w' t m d gg N ln (vput kB (wrB (Y kB) 32 f) Y) (K + 1) ∧ Kf w w' [t, m, d, gg] := by
  obtain ⟨d27, hu27, hd27⟩ := Tryz.desc27
  obtain ⟨d53, hu53, hd53⟩ := Tryz.desc53
  have HU27 := Lib.hid hu27
  have HD27 := Lib.hid hd27
  have HU53 := Lib.hid hu53
  have HD53 := Lib.hid hd53
  have HP : Hid (∀ W, Calls Tryz.prog 97 #[.agg g.cells.toArray, .int .i64 x] W fun e w' => e = .returned (.tuple #[.int .i64 kB, .int .i64 32, .bool true]) ∧ Below W.heap.size W w') := fun W => by
    have := place_in g x hx hb0 hb1 hm0 hm1 hn1 W
    rw [hkB, ha] at this
    exact this
  have HCk := Lib.hid (fun W => check_any f hf W)
  rw [hcd] at HCk
  have HEn := Lib.hid (fun W => encode_any f hf W)
  have HG := Lib.hid (fun W (h : Rd W t m d gg N ln Y K) => get6 t m d gg K Y kB hk32 hk (by omega) W h)
  have HPut := Lib.hid (fun W (h' : Rd W t m d gg N ln Y (K + 1)) => put6 t m d gg (K + 1) Y kB (wrB (Y kB) 32 f) (wrB_byt (h.vb kB) hf 32 (by decide)) hk32 hk hT W h')
  obtain ⟨V, hV⟩ : ∃ V, Y kB = V := ⟨_, rfl⟩
  rw [hV] at HG HPut ⊢
  obtain ⟨F, hF⟩ : ∃ F : Nat → Int, encF f = F := ⟨_, rfl⟩
  have hW : wrB V 32 f = upd V 32 32 F := by unfold wrB; rw [hF]
  rw [hF] at HEn
  rw [hW] at HPut ⊢
  obtain ⟨lt1, lt2, lt3, lt4⟩ := h.lts
  have HR := Lib.hid h
  clear hu27 hd27 hu53 hd53 hx hb0 hb1 hm0 hm1 hn1 hkB ha hk hk32 hN hT hK hV hF hf hcd hW h
  change Calls _ _ #[_, .agg g.cells.toArray, _, _] _ _
  obtain ⟨gs, hgs⟩ : ∃ gs, g.cells = gs := ⟨_, rfl⟩
  have HS53 : Hid ((Tryz.prog.info? 133).map (·.size) = some gs.length) := by rw [← hgs]; exact size53 g
  rw [hgs] at HP ⊢
  clear hgs
  go_enter Tryz.func59, Tryz.ntmps59
  go_upto_region 1 with (first | (refine wpList_box_list (w := w) rfl 133 _ rfl gs rfl ?_; intro w1 F1 hb1 hz1; have HB1 := Lib.hid hb1; have hq1 : w.heap.size < w1.heap.size := (by omega); clear hb1 hz1) | (refine wpList_box_list (w := w1) rfl 68 _ rfl (ndc f) rfl ?_; intro w2 F2 hb2 hz2; have HB2 := Lib.hid hb2; have hq2 : w1.heap.size < w2.heap.size := (by omega); clear hb2 hz2))
  obtain ⟨b1, hb1⟩ : ∃ b, w.heap.size = b := ⟨_, rfl⟩
  obtain ⟨b2, hb2⟩ : ∃ b, w1.heap.size = b := ⟨_, rfl⟩
  have G1 := Lib.hid (F1.out.keep HB2.out)
  have G2 := F2
  have HB := Lib.hid (HB1.out.trans (HB2.out.mono HB1.out.size))
  have R2 := Lib.hid (HR.out.keep HB.out)
  have HK := Lib.hid (Kf.of_below HB.out [t, m, d, gg])
  rw [hb1, hb2] at hq1
  rw [hb2] at hq2
  rw [hb1] at G1 lt1 lt2 lt3 lt4
  rw [hb2] at G2
  have hwb : w.heap.size ≤ b1 := Nat.le_of_eq hb1
  try rw [hb1]
  try rw [hb2]
  clear hb1 hb2 HB1 HB2 F1 F2 HR HB
  have N2 := Lib.hid (nin4 lt1 lt2 lt3 lt4 (b := b2) (by omega))
  have HR1 := Lib.hid G1.out.range0
  go_wp2_with (refine wpList_load_mid rfl 133 _ rfl b1 0 rfl gs d53 HR1.out HU53.out HD53.out HS53.out ?_)
  refine (HP.out w2).mono ?_
  rintro e w3 ⟨rfl, hb⟩
  have G3 := Lib.hid (G2.out.keep hb)
  have R3 := Lib.hid (R2.out.keep hb)
  have K3 := Lib.hid (HK.out.low hb (by omega))
  have hq3 : b2 < w3.heap.size := G3.out.lt
  clear hb HR1 G1 G2 R2 HK HP
  have HR2 := Lib.hid G3.out.range0
  go_wp2_with (refine wpList_load_mid rfl 68 _ rfl b2 0 rfl (ndc f) d27 HR2.out HU27.out HD27.out (size27 _) ?_)
  refine (HCk.out w3).mono ?_
  rintro e w4 ⟨rfl, hb⟩
  have G4 := Lib.hid (G3.out.keep hb)
  have R4 := Lib.hid (R3.out.keep hb)
  have K4 := Lib.hid (K3.out.low hb (by omega))
  have hq4 : b2 < w4.heap.size := G4.out.lt
  clear hb HR2 G3 R3 K3 HCk
  go_wp2_with fail
  refine (HG.out w4 R4.out).mono ?_
  rintro e w5 ⟨rfl, hR, hk⟩
  have R5 := Lib.hid hR
  have G5 := Lib.hid (G4.out.kf hk N2.out)
  have K5 := Lib.hid (K4.out.trans hk)
  have hq5 : b2 < w5.heap.size := G5.out.lt
  clear hR hk G4 R4 K4 HG
  go_upto_region 8 with (first | (refine wpList_alloc_byts (w := w5) rfl 59 64 rfl Tryz.zero36 ?_; intro w6 F6 hb6 hz6; simp only [Act.put, List.getElem_toArray, List.getElem_cons_zero, List.getElem_cons_succ, List.setIfInBounds_toArray, List.set_cons_zero, List.set_cons_succ]; refine wpList_store_blk rfl (.tmp 13) (.tmp 34) rfl w5.heap.size 0 64 (fun _ => 0) V F6.out (by omega) rfl rfl ?_; intro w7 F7 HK7; have HB6 := Lib.hid hb6; clear hb6 F6))
  obtain ⟨b5, hb5⟩ : ∃ b, w5.heap.size = b := ⟨_, rfl⟩
  have R6 := Lib.hid (R5.out.keep HB6.out)
  have G6 := Lib.hid (G5.out.keep HB6.out)
  have K6 := Lib.hid (K5.out.low HB6.out (by omega))
  have hq6 : b5 < w6.heap.size := by omega
  rw [hb5] at hq5 F7 HK7
  try rw [hb5]
  clear hb5 hz6 HB6 R5 G5 K5
  have N5 := Lib.hid (nin4 lt1 lt2 lt3 lt4 (b := b5) (by omega))
  have R7 := Lib.hid (R6.out.kp HK7.out N5.out N5.out)
  have G7 := Lib.hid (G6.out.kp HK7.out (by omega) (by omega))
  have K7 := Lib.hid (K6.out.fresh HK7.out (by omega))
  have E7 := Lib.hid (F7.out.congr (fun j hj => upd_zero 64 V j hj _))
  have hq7 := HK7.out.size
  clear F7 R6 G6 K6 HK7
  have HR2 := Lib.hid G7.out.range0
  go_upto_region 10 with fail
  go_wp2_with (refine wpList_load_mid rfl 68 _ rfl b2 0 rfl (ndc f) d27 HR2.out HU27.out HD27.out (size27 _) ?_)
  refine (HEn.out w7).mono ?_
  rintro e w8 ⟨rfl, hb⟩
  have R8 := Lib.hid (R7.out.keep hb)
  have E8 := Lib.hid (E7.out.below hb E7.out.lt)
  have K8 := Lib.hid (K7.out.low hb (by omega))
  have hq8 : b5 < w8.heap.size := E8.out.lt
  clear hb HR2 G7 R7 K7 E7 HEn
  go_upto_region 11 with (first | (refine wpList_alloc_byts (w := w8) rfl 203 32 rfl Tryz.zero28 ?_; intro w9 F9 hb9 hz9; simp only [Act.put, List.getElem_toArray, List.getElem_cons_zero, List.getElem_cons_succ, List.setIfInBounds_toArray, List.set_cons_zero, List.set_cons_succ]; refine wpList_store_mid rfl 203 _ _ rfl w8.heap.size 0 (byts 32 F).toArray rfl rfl (by rw [byts_size]; exact F9.out.there 0 32 (Nat.le_refl _)) (size28' _) (byts_all _ _) ?_; have HB9 := Lib.hid hb9; clear hb9))
  obtain ⟨b8, hb8⟩ : ∃ b, w8.heap.size = b := ⟨_, rfl⟩
  have R9 := Lib.hid (R8.out.keep HB9.out)
  have E9 := Lib.hid (E8.out.below HB9.out E8.out.lt)
  have K9 := Lib.hid (K8.out.low HB9.out (by omega))
  have hq9 : b8 < w9.heap.size := by omega
  rw [hb8] at hq8 F9
  try rw [hb8]
  clear hb8 hz9 HB9 R8 E8 K8
  try rw [List.toList_toArray]
  have hkA : Kp w9 (w9.setCells b8 0 (byts 32 F)) b8 b8 := (Kp.refl w9 b8 b8).setCells b8 0 (.inl rfl) _
  have N8 := Lib.hid (nin4 lt1 lt2 lt3 lt4 (b := b8) (by omega))
  have RA := Lib.hid (R9.out.kp hkA N8.out N8.out)
  have EA := Lib.hid (E9.out.kp hkA (by omega) (by omega))
  have FA := Lib.hid ((F9.out.store 0 32 (Nat.le_refl _) F).congr (fun j hj => upd_zero 32 F j hj _))
  have KA := Lib.hid (K9.out.fresh hkA (by omega))
  have hqA := hkA.size
  obtain ⟨wA, hwA⟩ : ∃ x, w9.setCells b8 0 (byts 32 F) = x := ⟨_, rfl⟩
  rw [hwA] at RA EA FA KA hqA ⊢
  clear hwA hkA R9 E9 F9 K9
  go_still_tail 3, (by kernel_rfl)
  have RB := Lib.hid (RA.out.keep (Below.refl wA.heap.size wA).drew)
  have EB := Lib.hid (EA.out.below (Below.refl wA.heap.size wA).drew EA.out.lt)
  have FB := Lib.hid (FA.out.below (Below.refl wA.heap.size wA).drew FA.out.lt)
  have KB := Lib.hid (KA.out.low (Below.refl wA.heap.size wA).drew (by omega))
  change wpList _ _ _ _ _ (World.drew wA)
  have hqB : b8 < (World.drew wA).heap.size := FA.out.lt
  obtain ⟨wB, hwB⟩ : ∃ x, World.drew wA = x := ⟨_, rfl⟩
  rw [hwB] at RB EB FB KB hqB ⊢
  clear hwB RA EA FA KA
  refine wpList_copy_mid rfl (.tmp 42) (.tmp 43) 24 24 rfl 5 Tryz.sl34 1 Tryz.isize5 b5 32 32 32 (some ⟨b8, 0, none⟩) 32 32 rfl rfl (byts 32 F) rfl (fun _ => ⟨_, rfl, fun j v hj => ?_⟩) ?_ (byts_one _ _) ?_
  · obtain ⟨hjl, rfl⟩ := byts_of hj
    rw [Addr.add_mid, Nat.zero_add]
    exact FB.out.c j hjl
  · rw [byts_len]
    exact EB.out.there 32 32 (by decide)
  have hkC : Kp wB (wB.setCells b5 32 (byts 32 F)) b5 b5 := (Kp.refl wB b5 b5).setCells b5 32 (.inl rfl) _
  have RC := Lib.hid (RB.out.kp hkC N5.out N5.out)
  have EC := Lib.hid (EB.out.store 32 32 (by decide) F)
  have KC := Lib.hid (KB.out.fresh hkC (by omega))
  have hqC := hkC.size
  obtain ⟨wC, hwC⟩ : ∃ x, wB.setCells b5 32 (byts 32 F) = x := ⟨_, rfl⟩
  rw [hwC] at RC EC KC hqC ⊢
  clear hwC hkC RB EB FB KB
  have HRF : Hid (wC.rangeAt b5 0 (byts 64 (upd V 32 32 F))) := Lib.hid (by
    have := EC.out.range 0 64 (Nat.le_refl _)
    simp only [Nat.zero_add] at this
    exact this)
  obtain ⟨V', hV'⟩ : ∃ V', upd V 32 32 F = V' := ⟨_, rfl⟩
  rw [hV'] at HRF HPut
  clear EC
  go_wp2_with (refine wpList_load_mid rfl 59 _ rfl b5 0 rfl (byts 64 V') (.array 64 5) HRF.out Tryz.arr36 rfl (size36 _) ?_)
  refine (HPut.out wC RC.out).mono ?_
  rintro e wD ⟨rfl, hR, hk⟩
  have RD := Lib.hid hR
  have KD := Lib.hid (KC.out.trans hk)
  clear hR hk RC KC HRF HPut
  go_wp2_with fail
  go_ret
  rw [hV']
  exact ⟨rfl, RD.out, KD.out⟩
theorem codeN_zero : codeN zpt = 0 := by kernel_rfl
theorem encF_zero (j : Nat) : encF zpt j = 0 := by
  have hd : ∀ i, dig 0 i = 0 := fun i => by simp [dig]
  unfold encF
  have hz : ∀ i, zpt i = 0 := fun _ => rfl
  simp only [hz, hd]
  split <;> (try rfl)
  split <;> (try rfl)
  split <;> (try rfl)
  split <;> (try rfl)
  split <;> rfl
theorem half {x : Int} {n : Nat} (hx : x = n) (h1 : 1 ≤ n) : (x - 1) % 2 * 32 = 0 ∧ (n - 1) % 2 * 32 = 0 ∨ (x - 1) % 2 * 32 = 32 ∧ (n - 1) % 2 * 32 = 32 := by omega
/-- the table's bytes say those nodes -/
def Tab (P0 M : Nat) (Y : Nat → Nat → Int) (V : Nat → Nat → Int) : Prop := ∀ n, 1 ≤ n → n ≤ M → (∀ j, j < 32 → Y (P0 + (n - 1) / 2) ((n - 1) % 2 * 32 + j) = encF (V n) j) ∧ NdOk (V n) ∧ codeN (V n) = 0
theorem Tab.new (P0 M : Nat) : Tab P0 M (fun _ _ => 0) (fun _ => zpt) := fun n _ _ => ⟨fun j _ => (encF_zero j).symm, zpt_ok, codeN_zero⟩
theorem Tab.congr {P0 M : Nat} {Y Y' V : Nat → Nat → Int} (h : Tab P0 M Y V) (hY : ∀ x, P0 ≤ x → x < P0 + (M + 1) / 2 → Y' x = Y x) : Tab P0 M Y' V := fun n h1 h2 => by
  obtain ⟨g1, g2, g3⟩ := h n h1 h2
  exact ⟨fun j hj => by rw [hY _ (by omega) (by omega)]; exact g1 j hj, g2, g3⟩
theorem Tab.put {P0 M : Nat} {Y V : Nat → Nat → Int} (h : Tab P0 M Y V) (n : Nat) (h1 : 1 ≤ n) (h2 : n ≤ M) (f : Nat → Int) (hf : NdOk f) (hc : codeN f = 0) (kB A : Nat) (hkB : kB = P0 + (n - 1) / 2) (hA : A = (n - 1) % 2 * 32) :
    Tab P0 M (vput kB (wrB (Y kB) A f) Y) (vput n f V) := fun k k1 k2 => by
  obtain ⟨g1, g2, g3⟩ := h k k1 k2
  by_cases e : n = k
  · subst e
    rw [vput_at]
    refine ⟨fun j hj => ?_, hf, hc⟩
    rw [← hkB, vput_at, hA]
    unfold wrB upd
    rw [if_pos (by omega)]
    congr 1
    omega
  · rw [vput_ne _ _ e]
    refine ⟨fun j hj => ?_, g2, g3⟩
    rw [← g1 j hj]
    by_cases eb : kB = P0 + (k - 1) / 2
    · rw [← eb, vput_at]
      unfold wrB upd
      rw [if_neg (by omega)]
    · rw [vput_ne _ _ eb]
/-! ### a table's calls, whatever half -/
theorem read_any6 (g : Cf.Ge) (n : Nat) (t m d gg N K P0 M : Nat) (Y V : Nat → Nat → Int) (h1 : 1 ≤ n) (h2 : n ≤ M) (hM : g.nd = M) (hP : g.base + g.bm = P0) (hb0 : 0 ≤ g.base) (hb1 : g.base < 100000) (hm0 : 0 ≤ g.bm) (hm1 : g.bm < 100000) (hn1 : g.nd ≤ 128) (hk : P0 + (M + 1) / 2 ≤ N) (hk32 : 32 ≤ P0) (hK : K < 600000000) (hI : Tab P0 M Y V) (w : World) (h : Rd w t m d gg N ln Y K) :
    Calls Tryz.prog 95 #[.pointer (some ⟨t, 0, none⟩), g.val, .int .i64 n] w fun e w' => e = .returned (.tuple #[.agg (ndc (V n)).toArray, .int .i64 0]) ∧ Rd w' t m d gg N ln Y (K + 1) ∧ Kf w w' [t, m, d, gg] := by
  obtain ⟨g1, g2, g3⟩ := hI n h1 h2
  have hN := h.hN
  have hx : inP g n := ⟨by omega, by omega⟩
  have hkB : g.base + g.bm + ((n : Int) - 1) / 2 = ((P0 + (n - 1) / 2 : Nat) : Int) := by omega
  have hE := decE_enc g2
  rw [g3] at hE
  have hV := ndc_dec g2 g3
  rcases half (x := n) rfl h1 with ⟨ha, ha'⟩ | ⟨ha, ha'⟩
  · have := read_in0 g n t m d gg N K (P0 + (n - 1) / 2) Y hx hb0 hb1 hm0 hm1 hn1 hkB ha (by omega) (by omega) hN hK (encF (V n)) (encF_byt g2) (fun j hj => by have := g1 j hj; rwa [ha'] at this) w h
    rwa [hE, hV] at this
  · have := read_in32 g n t m d gg N K (P0 + (n - 1) / 2) Y hx hb0 hb1 hm0 hm1 hn1 hkB ha (by omega) (by omega) hN hK (encF (V n)) (encF_byt g2) (fun j hj => by have := g1 j hj; rwa [ha'] at this) w h
    rwa [hE, hV] at this
/-- a block of the table, behind a write -/
def tabW (P0 n : Nat) (f : Nat → Int) (Y : Nat → Nat → Int) : Nat → Nat → Int := vput (P0 + (n - 1) / 2) (wrB (Y (P0 + (n - 1) / 2)) ((n - 1) % 2 * 32) f) Y
theorem write_any6 (g : Cf.Ge) (n : Nat) (t m d gg N K P0 M : Nat) (Y : Nat → Nat → Int) (f : Nat → Int) (hf : NdOk f) (hcd : codeN f = 0) (h1 : 1 ≤ n) (h2 : n ≤ M) (hM : g.nd = M) (hP : g.base + g.bm = P0) (hb0 : 0 ≤ g.base) (hb1 : g.base < 100000) (hm0 : 0 ≤ g.bm) (hm1 : g.bm < 100000) (hn1 : g.nd ≤ 128) (hk : P0 + (M + 1) / 2 ≤ N) (hk32 : 32 ≤ P0) (hT : Has ln (P0 + (n - 1) / 2)) (hK : K < 600000000) (w : World) (h : Rd w t m d gg N ln Y K) :
    Calls Tryz.prog 59 #[.pointer (some ⟨t, 0, none⟩), g.val, .int .i64 n, .agg (ndc f).toArray] w fun e w' => e = .returned (.int .i64 0) ∧ Rd w' t m d gg N ln (tabW P0 n f Y) (K + 1) ∧ Kf w w' [t, m, d, gg] := by
  have hN := h.hN
  have hx : inP g n := ⟨by omega, by omega⟩
  have hkB : g.base + g.bm + ((n : Int) - 1) / 2 = ((P0 + (n - 1) / 2 : Nat) : Int) := by omega
  unfold tabW
  rcases half (x := n) rfl h1 with ⟨ha, ha'⟩ | ⟨ha, ha'⟩
  · rw [ha']
    exact write_in0 g n t m d gg N K (P0 + (n - 1) / 2) Y f hf hcd hx hb0 hb1 hm0 hm1 hn1 hkB ha (by omega) (by omega) hN hT hK w h
  · rw [ha']
    exact write_in32 g n t m d gg N K (P0 + (n - 1) / 2) Y f hf hcd hx hb0 hb1 hm0 hm1 hn1 hkB ha (by omega) (by omega) hN hT hK w h
theorem Tab.wr {P0 M : Nat} {Y V : Nat → Nat → Int} (h : Tab P0 M Y V) (n : Nat) (h1 : 1 ≤ n) (h2 : n ≤ M) (f : Nat → Int) (hf : NdOk f) (hc : codeN f = 0) : Tab P0 M (tabW P0 n f Y) (vput n f V) :=
  h.put n h1 h2 f hf hc _ _ rfl rfl
theorem tabW_ne (P0 n : Nat) (f : Nat → Int) (Y : Nat → Nat → Int) (x : Nat) (h : x ≠ P0 + (n - 1) / 2) : tabW P0 n f Y x = Y x := vput_ne _ _ (Ne.symm h)
end Go.Proofs.YtbnpgkclnebnmaaGreat

namespace Go.Proofs.YtbnpgkclnebnmaaGreat
set_option linter.unusedSimpArgs false
set_option linter.unusedVariables false
open Go.RowKit Go.Maps

variable {ln : Lm}
/-- where a group lies, in natural numbers -/
structure GG (g : Cf.Ge) (B0 P0 M DA NB N : Nat) : Prop where
  base : g.base = B0
  tab : g.base + g.bm = P0
  bm0 : 0 ≤ g.bm
  da : g.da = DA
  bl : g.bl = NB
  nd : g.nd = M
  b32 : 32 ≤ B0
  bp : B0 + 1 ≤ P0
  pd : P0 + (M + 1) / 2 ≤ DA
  dn : DA + NB ≤ N
  n4 : 4 ≤ NB
  n512 : NB ≤ 512
  m4 : 4 ≤ M
  m128 : M ≤ 128
/-- a group's block: its transaction, its label, where it lies, its map of bits -/
def gpc (t : Nat) (lab : Int) (g : Cf.Ge) (p : Nat) : List Value := [.pointer (some ⟨t, 0, none⟩), .int .i64 lab, .int .i64 g.base, .int .i64 g.bm, .int .i64 g.tb, .int .i64 g.da, .int .i64 g.bl, .int .i64 g.nd, .pointer (some ⟨p, 0, none⟩)]
structure Gr (w : World) (q p t m d gg : Nat) (lab : Nat) (g : Cf.Ge) (B0 NB N : Nat) (ln : Lm) (Y : Nat → Nat → Int) (K : Nat) : Prop where
  gb : Vl w q (gpc t lab g p)
  mb : Mb w p t B0 NB
  rd : Rd w t m d gg N ln Y K
  nq : q ∉ [t, m, d, gg]
  np : p ∉ [t, m, d, gg]
theorem Gr.keep {w w' : World} {q p t m d gg lab B0 NB N K : Nat} {ln : Lm} {g : Cf.Ge} {Y : Nat → Nat → Int} (h : Gr w q p t m d gg lab g B0 NB N ln Y K) (hb : Below w.heap.size w w') : Gr w' q p t m d gg lab g B0 NB N ln Y K :=
  ⟨h.gb.keep hb, h.mb.keep hb, h.rd.keep hb, h.nq, h.np⟩
theorem Gr.mono {w : World} {q p t m d gg lab B0 NB N K K' : Nat} {ln ln' : Lm} {g : Cf.Ge} {Y : Nat → Nat → Int} (h : Gr w q p t m d gg lab g B0 NB N ln Y K) (hl : Lm.Le ln ln') (hk : K ≤ K') : Gr w q p t m d gg lab g B0 NB N ln' Y K' :=
  ⟨h.gb, h.mb, h.rd.mono2 hl hk, h.nq, h.np⟩
/-- behind a call on its transaction -/
theorem Gr.call {w w' : World} {q p t m d gg lab B0 NB N K K' : Nat} {ln ln' : Lm} {g : Cf.Ge} {Y Y' : Nat → Nat → Int} (h : Gr w q p t m d gg lab g B0 NB N ln Y K) (hR : Rd w' t m d gg N ln' Y' K') (hk : Kf w w' [t, m, d, gg]) : Gr w' q p t m d gg lab g B0 NB N ln' Y' K' :=
  ⟨h.gb.kf hk h.nq, h.mb.kf hk h.np, hR, h.nq, h.np⟩
theorem Gr.kp {w w' : World} {b q p t m d gg lab B0 NB N K : Nat} {ln : Lm} {g : Cf.Ge} {Y : Nat → Nat → Int} (h : Gr w q p t m d gg lab g B0 NB N ln Y K) (hk : Kp w w' b b) (hb : b ∉ [q, p, t, m, d, gg]) : Gr w' q p t m d gg lab g B0 NB N ln Y K := by
  simp only [List.mem_cons, List.not_mem_nil, or_false, not_or] at hb
  have hb4 : b ∉ [t, m, d, gg] := by simp; omega
  exact ⟨h.gb.kp hk (by omega) (by omega), h.mb.kp hk (by omega), h.rd.kp hk hb4 hb4, h.nq, h.np⟩
theorem Gr.lts {w : World} {q p t m d gg lab B0 NB N K : Nat} {ln : Lm} {g : Cf.Ge} {Y : Nat → Nat → Int} (h : Gr w q p t m d gg lab g B0 NB N ln Y K) : q < w.heap.size ∧ p < w.heap.size ∧ t < w.heap.size ∧ m < w.heap.size ∧ d < w.heap.size ∧ gg < w.heap.size :=
  ⟨h.gb.lt, h.mb.lt, h.rd.lts⟩
theorem Gr.notin {w : World} {b q p t m d gg lab B0 NB N K : Nat} {ln : Lm} {g : Cf.Ge} {Y : Nat → Nat → Int} (h : Gr w q p t m d gg lab g B0 NB N ln Y K) (hb : w.heap.size ≤ b) : b ∉ [q, p, t, m, d, gg] := by
  obtain ⟨h1, h2, h3, h4, h5, h6⟩ := h.lts
  simp
  omega
theorem nin6 {B q p t m d g b : Nat} (h0 : q < B) (h0' : p < B) (h1 : t < B) (h2 : m < B) (h3 : d < B) (h4 : g < B) (hb : B ≤ b) : b ∉ [q, p, t, m, d, g] := by
  simp
  omega

/-! ### short calls -/
theorem bit_any (n : Int) (h0 : 0 ≤ n) (h1 : n < 65536) (w : World) : Calls Tryz.prog 51 #[.int .u16 n] w fun e w' => e = .returned (.int .i64 (n - 1)) ∧ w' = w := by
  go_enter Tryz.func51, Tryz.ntmps51
  go_wp2
  go_ret
  exact ⟨rfl, rfl⟩
theorem reach_in (q : Nat) (NB : Int) (x : Int) (h0 : 1 ≤ x) (h1 : x ≤ NB) (w : World) (c6 : w.cell? ⟨q, 6, none⟩ = some (.int .i64 NB)) : Calls Tryz.prog 49 #[.pointer (some ⟨q, 0, none⟩), .int .i64 x] w fun e w' => e = .returned (.int .i64 0) ∧ w' = w := by
  go_enter Tryz.func49, Tryz.ntmps49
  go_wp2
  go_ret
  exact ⟨rfl, rfl⟩
set_option maxHeartbeats 20000000 in
set_option maxRecDepth 100000 in
theorem place7_any (q : Nat) (DA n : Int) (h0 : 0 ≤ n) (h1 : n < 65536) (d0 : 0 ≤ DA) (d1 : DA ≤ 65536) (w : World) (c5 : w.cell? ⟨q, 5, none⟩ = some (.int .i64 DA)) : Calls Tryz.prog 54 #[.pointer (some ⟨q, 0, none⟩), .int .u16 n] w fun e w' => e = .returned (.int .i64 (DA + (n - 1))) ∧ Below w.heap.size w w' := by
  go_enter Tryz.func54, Tryz.ntmps54
  go_wp2_with fail
  go_quiet ((go_at_call 51; exact Calls.quiet_of_same (bit_any _ (by omega) (by omega) _)))
  go_wp2_with fail
  go_ret
  exact ⟨rfl, ⟨rfl, rfl, rfl, Nat.le_refl _, fun _ _ => rfl⟩⟩
set_option maxHeartbeats 20000000 in
set_option maxRecDepth 100000 in
theorem gput_in (q p t m d gg lab B0 P0 M DA NB N K : Nat) (g : Cf.Ge) (Y : Nat → Nat → Int) (n : Nat) (hn0 : 1 ≤ n) (hn : n ≤ NB) (f : Nat → Int) (hf : Byt f) (hT : Has ln (DA + (n - 1))) (hg : GG g B0 P0 M DA NB N) (w : World) (h : Gr w q p t m d gg lab g B0 NB N ln Y K) :
    Calls Tryz.prog 15 #[.pointer (some ⟨q, 0, none⟩), .int .u16 n, .agg (byts 64 f).toArray] w fun e w' => e = .returned (.int .i64 0) ∧ Gr w' q p t m d gg lab g B0 NB N ln (vput (DA + (n - 1)) f Y) K ∧ Kf w w' [t, m, d, gg] := by
  have hN := h.rd.hN
  have HPut := Lib.hid (fun W (hW : Rd W t m d gg N ln Y K) => put6 t m d gg K Y (DA + (n - 1)) f hf (by have := hg.b32; have := hg.bp; have := hg.pd; omega) (by have := hg.dn; omega) hT W hW)
  have hGr := h
  have HG := Lib.hid hGr
  have HR := Lib.hid (show 1 ≤ (n : Int) ∧ (n : Int) ≤ g.bl by have := hg.bl; omega)
  have HP : Hid (∀ W : World, W.cell? ⟨q, 5, none⟩ = some (.int .i64 g.da) → Calls Tryz.prog 54 #[.pointer (some ⟨q, 0, none⟩), .int .u16 n] W fun e w' => e = .returned (.int .i64 ((DA + (n - 1) : Nat) : Int)) ∧ Below W.heap.size W w') := fun W hc => by
    have hda := hg.da
    have h5 := hg.n512
    have hdn := hg.dn
    have := place7_any q g.da n (by omega) (by omega) (by omega) (by omega) W hc
    rwa [show g.da + ((n : Int) - 1) = ((DA + (n - 1) : Nat) : Int) by omega] at this
  obtain ⟨X, hX⟩ : ∃ X, DA + (n - 1) = X := ⟨_, rfl⟩
  rw [hX] at HPut HP ⊢
  have hx1 : (n : Int) < 65536 := by have := hg.n512; omega
  have lts := Lib.hid h.lts
  have hq0 := h.lts.1
  clear hX hN hf hT hn0 hn hGr h
  obtain ⟨x, hx⟩ : ∃ x : Int, (n : Int) = x := ⟨_, rfl⟩
  have hx0 : 0 ≤ x := by omega
  rw [hx] at HR HP hx1 ⊢
  clear hx hg
  go_enter Tryz.func15, Tryz.ntmps15
  go_upto_region 4 with (first | (refine wpList_box_byts rfl 59 _ 64 rfl f rfl ?_; intro w1 F1 hb1 hz1; have HB1 := Lib.hid hb1; have HG1 := Lib.hid (HG.out.keep hb1); clear hb1 hz1) | (go_at_call 49; refine (reach_in q g.bl x HR.out.1 HR.out.2 w1 (HG1.out.gb.c 6 _ rfl)).mono ?_; rintro e w' ⟨rfl, hww⟩; rw [hww]; clear hww))
  obtain ⟨b, hb⟩ : ∃ b, w.heap.size = b := ⟨_, rfl⟩
  have NB6 := Lib.hid (nin6 lts.out.1 lts.out.2.1 lts.out.2.2.1 lts.out.2.2.2.1 lts.out.2.2.2.2.1 lts.out.2.2.2.2.2 (Nat.le_of_eq hb))
  have HK1 := Lib.hid (Kf.of_below HB1.out [t, m, d, gg])
  rw [hb] at F1 hq0
  try rw [hb]
  clear hb lts HB1 HG
  refine wp_region_held (S := fun W => Vl W q (gpc t lab g p) ∧ Fl W b 64 f) (by kernel_rfl) ?_
  change wpAnyH _ _ _ _ _ _ _ _ (World.drew _)
  have hS0 : (fun W => Vl W q (gpc t lab g p) ∧ Fl W b 64 f) w1.drew := ⟨HG1.out.gb.keep (Below.refl _ _).drew, F1.out.below (Below.refl _ _).drew F1.out.lt⟩
  have HG2 := Lib.hid (HG1.out.keep (Below.refl w1.heap.size w1).drew)
  have HK2 := Lib.hid (HK1.out.trans (Kf.of_below (Below.refl w1.heap.size w1).drew _))
  obtain ⟨w2, hw2⟩ : ∃ x, World.drew w1 = x := ⟨_, rfl⟩
  rw [hw2] at hS0 HG2 HK2 ⊢
  clear hw2
  clear HG1 HK1 F1
  refine wpAnyH_take (i := 0) (v := ?_) rfl (by kernel_rfl) (by kernel_rfl) (by kernel_rfl) (fun _ _ _ h => h) (Or.inl ⟨by rfl, ?_⟩) hS0 ?_
  rotate_left 1
  · intro W hW
    go_simp
    try with_reducible rfl
  simp only [Act.put, List.getElem_toArray, List.getElem_cons_zero, List.getElem_cons_succ, List.setIfInBounds_toArray, List.set_cons_zero, List.set_cons_succ]
  refine wpAnyH_take (i := 1) (v := ?_) rfl (by kernel_rfl) (by kernel_rfl) (by kernel_rfl) (fun _ _ _ h => h) (Or.inl ⟨by rfl, ?_⟩) hS0 ?_
  rotate_left 1
  · intro W hW
    go_simp
    try with_reducible rfl
  simp only [Act.put, List.getElem_toArray, List.getElem_cons_zero, List.getElem_cons_succ, List.setIfInBounds_toArray, List.set_cons_zero, List.set_cons_succ]
  refine wpAnyH_take (i := 2) (v := ?_) rfl (by kernel_rfl) (by kernel_rfl) (by kernel_rfl) (fun _ _ _ h => h) (Or.inl ⟨by rfl, ?_⟩) hS0 ?_
  rotate_left 1
  · intro W hW
    go_simp
    try with_reducible rfl
  simp only [Act.put, List.getElem_toArray, List.getElem_cons_zero, List.getElem_cons_succ, List.setIfInBounds_toArray, List.set_cons_zero, List.set_cons_succ]
  refine wpAnyH_take (i := 3) (v := ?_) rfl (by kernel_rfl) (by kernel_rfl) (by kernel_rfl) (fun _ _ _ h => h) (Or.inl ⟨by rfl, ?_⟩) hS0 ?_
  rotate_left 1
  · intro W hW
    have c0 := hW.1.c 0 _ rfl
    go_simp
    try with_reducible rfl
  simp only [Act.put, List.getElem_toArray, List.getElem_cons_zero, List.getElem_cons_succ, List.setIfInBounds_toArray, List.set_cons_zero, List.set_cons_succ]
  refine wpAnyH_take (i := 4) (v := ?_) rfl (by kernel_rfl) (by kernel_rfl) (by kernel_rfl) (fun _ _ _ h => h) (Or.inl ⟨by rfl, ?_⟩) hS0 ?_
  rotate_left 1
  · intro W hW
    go_simp
    try with_reducible rfl
  simp only [Act.put, List.getElem_toArray, List.getElem_cons_zero, List.getElem_cons_succ, List.setIfInBounds_toArray, List.set_cons_zero, List.set_cons_succ]
  refine wpAnyH_take (i := 5) (v := ?_) rfl (by kernel_rfl) (by kernel_rfl) (by kernel_rfl) (fun _ _ _ h => h) (Or.inl ⟨by rfl, ?_⟩) hS0 ?_
  rotate_left 1
  · intro W hW
    go_simp
    try with_reducible rfl
  simp only [Act.put, List.getElem_toArray, List.getElem_cons_zero, List.getElem_cons_succ, List.setIfInBounds_toArray, List.set_cons_zero, List.set_cons_succ]
  refine wpAnyH_take (i := 7) (v := .agg (byts 64 f).toArray) rfl (by kernel_rfl) (by kernel_rfl) (by kernel_rfl) (fun _ _ _ h => h) ?_ hS0 ?_
  · exact yieldsIf_load_mid (by rfl) 59 _ rfl b 0 rfl (byts 64 f) (.array 64 5) (fun _ h => h.2.range0) Tryz.arr36 rfl (size36 _)
  simp only [Act.put, List.getElem_toArray, List.getElem_cons_zero, List.getElem_cons_succ, List.setIfInBounds_toArray, List.set_cons_zero, List.set_cons_succ]
  refine wpAnyH_ready (rs := [6]) (by kernel_rfl) (by simp) (AllReadyH.cons rfl (fun KK hKK => ?_) AllReadyH.nil)
  go_simp
  refine (HP.out w2 (hS0.1.c 5 _ rfl)).mono ?_
  rintro e w3 ⟨rfl, hb3⟩
  have HG3 := Lib.hid (HG2.out.keep hb3)
  have HK3 := Lib.hid (HK2.out.trans (Kf.of_below hb3 _))
  have hS1 : (fun W => Vl W q (gpc t lab g p) ∧ Fl W b 64 f) w3 := ⟨hS0.1.keep hb3, hS0.2.below hb3 hS0.2.lt⟩
  clear hb3 HG2 HK2 hS0
  have hS0 := hS1
  clear hS1
  refine hKK _ _ hS0 ?_
  intro _
  clear hKK KK
  try simp only [Act.put, List.getElem_toArray, List.getElem_cons_zero, List.getElem_cons_succ, List.setIfInBounds_toArray, List.set_cons_zero, List.set_cons_succ]
  refine wpAnyH_ready (rs := [8]) (by kernel_rfl) (by simp) (AllReadyH.cons rfl (fun KK hKK => ?_) AllReadyH.nil)
  go_simp
  refine (HPut.out w3 HG3.out.rd).mono ?_
  rintro e w4 ⟨rfl, hR4, hk4⟩
  have HG4 := Lib.hid (HG3.out.call hR4 hk4)
  have HK4 := Lib.hid (HK3.out.trans hk4)
  have nb4 : b ∉ [t, m, d, gg] := by have := NB6.out; simp at this ⊢; omega
  have hS1 : (fun W => Vl W q (gpc t lab g p) ∧ Fl W b 64 f) w4 := ⟨HG4.out.gb, hS0.2.kf hk4 nb4⟩
  clear hR4 hk4 HG3 HK3 hS0 nb4
  have hS0 := hS1
  clear hS1
  refine hKK _ _ hS0 ?_
  intro _
  clear hKK KK
  try simp only [Act.put, List.getElem_toArray, List.getElem_cons_zero, List.getElem_cons_succ, List.setIfInBounds_toArray, List.set_cons_zero, List.set_cons_succ]
  refine wpAnyH_take (i := 9) (v := ?_) rfl (by kernel_rfl) (by kernel_rfl) (by kernel_rfl) (fun _ _ _ h => h) (Or.inl ⟨by rfl, ?_⟩) hS0 ?_
  rotate_left 1
  · intro W hW
    go_simp
    try with_reducible rfl
  simp only [Act.put, List.getElem_toArray, List.getElem_cons_zero, List.getElem_cons_succ, List.setIfInBounds_toArray, List.set_cons_zero, List.set_cons_succ]
  refine wpAnyH_done (by kernel_rfl) ?_ _
  clear hS0
  go_wp2_with fail
  go_ret
  exact ⟨rfl, HG4.out, HK4.out⟩
end Go.Proofs.YtbnpgkclnebnmaaGreat
