import Derived.Test.YtdebkifnaiohcaaH3
/- A node of a table: Write. -/
namespace Go.Proofs.Ytdebkifnaiohcaa
set_option linter.unusedSimpArgs false
set_option linter.unusedVariables false
open Go.RowKit Go.Maps

/-- a block's node laid over -/
def wrB (V : Nat → Int) (a : Nat) (f : Nat → Int) : Nat → Int := upd V a 32 (encF f)
theorem wrB_byt {V : Nat → Int} (h : Byt V) {f : Nat → Int} (hf : NdOk f) (a : Nat) (ha : a + 32 ≤ 64) : Byt (wrB V a f) := by
  intro j hj
  unfold wrB upd
  split
  · exact encF_byt hf _ (by omega)
  · exact h j hj
set_option maxHeartbeats 20000000 in
set_option maxRecDepth 100000 in
theorem write_out6 (g : Cf.Ge) (x : Int) (tv : Value) (f : Nat → Int) (hx : ¬ inP g x) (hn0 : 0 ≤ g.nd) (hn1 : g.nd ≤ 128) (w : World) :
    Calls Try.prog 18 #[tv, g.val, .int .i64 x, .agg (ndc f).toArray] w fun e w' => e = .returned (.int .i64 27) ∧ Below w.heap.size w w' := by
  obtain ⟨d27, hu27, hd27⟩ := Try.desc27
  obtain ⟨d53, hu53, hd53⟩ := Try.desc53
  have HU27 := Lib.hid hu27
  have HD27 := Lib.hid hd27
  have HU53 := Lib.hid hu53
  have HD53 := Lib.hid hd53
  have HP : Hid (∀ W, Calls Try.prog 19 #[.agg g.cells.toArray, .int .i64 x] W fun e w' => e = .returned (.tuple #[.int .i64 0, .int .i64 0, .bool false]) ∧ Below W.heap.size W w') := fun W => place_out g x hx hn0 hn1 W
  clear hu27 hd27 hu53 hd53 hx hn0 hn1
  change Calls _ _ #[_, .agg g.cells.toArray, _, _] _ _
  obtain ⟨gs, hgs⟩ : ∃ gs, g.cells = gs := ⟨_, rfl⟩
  have HS53 : Hid ((Try.prog.info? 53).map (·.size) = some gs.length) := by rw [← hgs]; exact size53 g
  rw [hgs] at HP ⊢
  clear hgs
  go_enter Try.func18, Try.ntmps18
  go_upto_region 1 with (first | (refine wpList_box_list (w := w) rfl 53 _ rfl gs rfl ?_; intro w1 F1 hb1 hz1; have HB1 := Lib.hid hb1; have hq1 : w.heap.size < w1.heap.size := (by omega); clear hb1 hz1) | (refine wpList_box_list (w := w1) rfl 27 _ rfl (ndc f) rfl ?_; intro w2 F2 hb2 hz2; have HB2 := Lib.hid hb2; have hq2 : w1.heap.size < w2.heap.size := (by omega); clear hb2 hz2))
  obtain ⟨b1, hb1⟩ : ∃ b, w.heap.size = b := ⟨_, rfl⟩
  obtain ⟨b2, hb2⟩ : ∃ b, w1.heap.size = b := ⟨_, rfl⟩
  have G1 := Lib.hid (F1.out.keep HB2.out)
  have G2 := F2
  have HB := Lib.hid (HB1.out.trans (HB2.out.mono HB1.out.size))
  rw [hb1] at G1
  try rw [hb1]
  try rw [hb2]
  have hq3 : b1 < w2.heap.size := by omega
  clear hb2 HB1 HB2 F1 F2 hq1 hq2
  have HR1 := Lib.hid G1.out.range0
  go_wp2_with (refine wpList_load_mid rfl 53 _ rfl b1 0 rfl gs d53 HR1.out HU53.out HD53.out HS53.out ?_)
  refine (HP.out w2).mono ?_
  rintro e w3 ⟨rfl, hb⟩
  have B3 := Lib.hid (HB.out.trans (hb.mono HB.out.size))
  clear hb HR1 G1 G2 HB HP
  go_wp2_with fail
  go_ret
  exact ⟨rfl, B3.out⟩

set_option maxHeartbeats 20000000 in
set_option maxRecDepth 100000 in
theorem write_bad6 (g : Cf.Ge) (x : Int) (tv : Value) (f : Nat → Int) (hf : NdOk f) (hcd : codeN f ≠ 0) (hx : inP g x) (hb0 : 0 ≤ g.base) (hb1 : g.base < 100000) (hm0 : 0 ≤ g.bm) (hm1 : g.bm < 100000) (hn1 : g.nd ≤ 128) (w : World) :
    Calls Try.prog 18 #[tv, g.val, .int .i64 x, .agg (ndc f).toArray] w fun e w' => e = .returned (.int .i64 (codeN f)) ∧ Below w.heap.size w w' := by
  obtain ⟨d27, hu27, hd27⟩ := Try.desc27
  obtain ⟨d53, hu53, hd53⟩ := Try.desc53
  have HU27 := Lib.hid hu27
  have HD27 := Lib.hid hd27
  have HU53 := Lib.hid hu53
  have HD53 := Lib.hid hd53
  have HP : Hid (∀ W, Calls Try.prog 19 #[.agg g.cells.toArray, .int .i64 x] W fun e w' => e = .returned (.tuple #[.int .i64 (g.base + g.bm + (x - 1) / 2), .int .i64 ((x - 1) % 2 * 32), .bool true]) ∧ Below W.heap.size W w') := fun W => place_in g x hx hb0 hb1 hm0 hm1 hn1 W
  obtain ⟨p1, hp1⟩ : ∃ p, g.base + g.bm + (x - 1) / 2 = p := ⟨_, rfl⟩
  obtain ⟨p2, hp2⟩ : ∃ p, (x - 1) % 2 * 32 = p := ⟨_, rfl⟩
  rw [hp1, hp2] at HP
  have hc28 : codeN f = 28 := (codeN_cases f).resolve_left hcd
  have HCk := Lib.hid (fun W => check_any f hf W)
  rw [hc28] at HCk ⊢
  clear hu27 hd27 hu53 hd53 hx hb0 hb1 hm0 hm1 hn1 hp1 hp2 hf hcd hc28
  change Calls _ _ #[_, .agg g.cells.toArray, _, _] _ _
  obtain ⟨gs, hgs⟩ : ∃ gs, g.cells = gs := ⟨_, rfl⟩
  have HS53 : Hid ((Try.prog.info? 53).map (·.size) = some gs.length) := by rw [← hgs]; exact size53 g
  rw [hgs] at HP ⊢
  clear hgs
  go_enter Try.func18, Try.ntmps18
  go_upto_region 1 with (first | (refine wpList_box_list (w := w) rfl 53 _ rfl gs rfl ?_; intro w1 F1 hb1 hz1; have HB1 := Lib.hid hb1; have hq1 : w.heap.size < w1.heap.size := (by omega); clear hb1 hz1) | (refine wpList_box_list (w := w1) rfl 27 _ rfl (ndc f) rfl ?_; intro w2 F2 hb2 hz2; have HB2 := Lib.hid hb2; have hq2 : w1.heap.size < w2.heap.size := (by omega); clear hb2 hz2))
  obtain ⟨b1, hb1⟩ : ∃ b, w.heap.size = b := ⟨_, rfl⟩
  obtain ⟨b2, hb2⟩ : ∃ b, w1.heap.size = b := ⟨_, rfl⟩
  have G1 := Lib.hid (F1.out.keep HB2.out)
  have G2 := F2
  have HB := Lib.hid (HB1.out.trans (HB2.out.mono HB1.out.size))
  rw [hb1, hb2] at hq1
  rw [hb2] at hq2
  rw [hb1] at G1
  rw [hb2] at G2
  try rw [hb1]
  try rw [hb2]
  have hq3 : b1 < w2.heap.size := by omega
  clear hb2 HB1 HB2 F1 F2
  have HR1 := Lib.hid G1.out.range0
  go_wp2_with (refine wpList_load_mid rfl 53 _ rfl b1 0 rfl gs d53 HR1.out HU53.out HD53.out HS53.out ?_)
  refine (HP.out w2).mono ?_
  rintro e w3 ⟨rfl, hb⟩
  have B3 := Lib.hid (HB.out.trans (hb.mono HB.out.size))
  have G3 := Lib.hid (G2.out.keep hb)
  clear hb HR1 G1 G2 HB HP
  have HR2 := Lib.hid G3.out.range0
  go_wp2_with (refine wpList_load_mid rfl 27 _ rfl b2 0 rfl (ndc f) d27 HR2.out HU27.out HD27.out (size27 _) ?_)
  refine (HCk.out w3).mono ?_
  rintro e w4 ⟨rfl, hb⟩
  have B4 := Lib.hid (B3.out.trans (hb.mono B3.out.size))
  clear hb HR2 G3 B3 HCk
  go_wp2_with fail
  go_ret
  exact ⟨rfl, B4.out⟩

set_option maxHeartbeats 20000000 in
set_option maxRecDepth 100000 in
theorem write_in0 (g : Cf.Ge) (x : Int) (t m d gg N K kB : Nat) (T : TS) (f : Nat → Int) (hf : NdOk f) (hcd : codeN f = 0) (hx : inP g x) (hb0 : 0 ≤ g.base) (hb1 : g.base < 100000) (hm0 : 0 ≤ g.bm) (hm1 : g.bm < 100000) (hn1 : g.nd ≤ 128) (hkB : g.base + g.bm + (x - 1) / 2 = kB) (ha : (x - 1) % 2 * 32 = 0) (hk : kB < N) (hk32 : 32 ≤ kB) (hN : N ≤ 65536) (hT : T.length < 30) (hK : K < 600000) (w : World) (h : Rd w t m d gg N T K) :
    Calls Try.prog 18 #[.pointer (some ⟨t, 0, none⟩), g.val, .int .i64 x, .agg (ndc f).toArray] w fun e w' => e = .returned (.int .i64 0) ∧ Rd w' t m d gg N (put kB (wrB (vw T kB) 0 f) T) (K + 1) ∧ Kf w w' [t, m, d, gg] := by
  obtain ⟨d27, hu27, hd27⟩ := Try.desc27
  obtain ⟨d53, hu53, hd53⟩ := Try.desc53
  have HU27 := Lib.hid hu27
  have HD27 := Lib.hid hd27
  have HU53 := Lib.hid hu53
  have HD53 := Lib.hid hd53
  have HP : Hid (∀ W, Calls Try.prog 19 #[.agg g.cells.toArray, .int .i64 x] W fun e w' => e = .returned (.tuple #[.int .i64 kB, .int .i64 0, .bool true]) ∧ Below W.heap.size W w') := fun W => by
    have := place_in g x hx hb0 hb1 hm0 hm1 hn1 W
    rw [hkB, ha] at this
    exact this
  have HCk := Lib.hid (fun W => check_any f hf W)
  rw [hcd] at HCk
  have HEn := Lib.hid (fun W => encode_any f hf W)
  have HG := Lib.hid (fun W (h : Rd W t m d gg N T K) => get6 t m d gg N K T kB hk hN (by omega) W h)
  have HPut := Lib.hid (fun W (h' : Rd W t m d gg N T (K + 1)) => put6 t m d gg N (K + 1) T kB (wrB (vw T kB) 0 f) (wrB_byt (vw_byt h.tb kB) hf 0 (by decide)) hk32 hk hN hT (by omega) W h')
  obtain ⟨V, hV⟩ : ∃ V, vw T kB = V := ⟨_, rfl⟩
  rw [hV] at HG HPut ⊢
  obtain ⟨F, hF⟩ : ∃ F : Nat → Int, encF f = F := ⟨_, rfl⟩
  have hW : wrB V 0 f = upd V 0 32 F := by unfold wrB; rw [hF]
  rw [hF] at HEn
  rw [hW] at HPut ⊢
  obtain ⟨lt1, lt2, lt3, lt4⟩ := h.lts
  have HR := Lib.hid h
  clear hu27 hd27 hu53 hd53 hx hb0 hb1 hm0 hm1 hn1 hkB ha hk hk32 hN hT hK hV hF hf hcd hW h
  change Calls _ _ #[_, .agg g.cells.toArray, _, _] _ _
  obtain ⟨gs, hgs⟩ : ∃ gs, g.cells = gs := ⟨_, rfl⟩
  have HS53 : Hid ((Try.prog.info? 53).map (·.size) = some gs.length) := by rw [← hgs]; exact size53 g
  rw [hgs] at HP ⊢
  clear hgs
  go_enter Try.func18, Try.ntmps18
  go_upto_region 1 with (first | (refine wpList_box_list (w := w) rfl 53 _ rfl gs rfl ?_; intro w1 F1 hb1 hz1; have HB1 := Lib.hid hb1; have hq1 : w.heap.size < w1.heap.size := (by omega); clear hb1 hz1) | (refine wpList_box_list (w := w1) rfl 27 _ rfl (ndc f) rfl ?_; intro w2 F2 hb2 hz2; have HB2 := Lib.hid hb2; have hq2 : w1.heap.size < w2.heap.size := (by omega); clear hb2 hz2))
  obtain ⟨b1, hb1⟩ : ∃ b, w.heap.size = b := ⟨_, rfl⟩
  obtain ⟨b2, hb2⟩ : ∃ b, w1.heap.size = b := ⟨_, rfl⟩
  have G1 := Lib.hid (F1.out.keep HB2.out)
  have G2 := F2
  have HB := Lib.hid (HB1.out.trans (HB2.out.mono HB1.out.size))
  have R2 := Lib.hid (HR.out.keep HB.out)
  have HK := Lib.hid (Kf.of_below HB.out [t, m, d, gg])
  rw [hb1, hb2] at hq1
  rw [hb2] at hq2
  rw [hb1] at G1 lt1 lt2 lt3 lt4
  rw [hb2] at G2
  have hwb : w.heap.size ≤ b1 := Nat.le_of_eq hb1
  try rw [hb1]
  try rw [hb2]
  clear hb1 hb2 HB1 HB2 F1 F2 HR HB
  have N2 := Lib.hid (nin4 lt1 lt2 lt3 lt4 (b := b2) (by omega))
  have HR1 := Lib.hid G1.out.range0
  go_wp2_with (refine wpList_load_mid rfl 53 _ rfl b1 0 rfl gs d53 HR1.out HU53.out HD53.out HS53.out ?_)
  refine (HP.out w2).mono ?_
  rintro e w3 ⟨rfl, hb⟩
  have G3 := Lib.hid (G2.out.keep hb)
  have R3 := Lib.hid (R2.out.keep hb)
  have K3 := Lib.hid (HK.out.low hb (by omega))
  have hq3 : b2 < w3.heap.size := G3.out.lt
  clear hb HR1 G1 G2 R2 HK HP
  have HR2 := Lib.hid G3.out.range0
  go_wp2_with (refine wpList_load_mid rfl 27 _ rfl b2 0 rfl (ndc f) d27 HR2.out HU27.out HD27.out (size27 _) ?_)
  refine (HCk.out w3).mono ?_
  rintro e w4 ⟨rfl, hb⟩
  have G4 := Lib.hid (G3.out.keep hb)
  have R4 := Lib.hid (R3.out.keep hb)
  have K4 := Lib.hid (K3.out.low hb (by omega))
  have hq4 : b2 < w4.heap.size := G4.out.lt
  clear hb HR2 G3 R3 K3 HCk
  go_wp2_with fail
  refine (HG.out w4 R4.out).mono ?_
  rintro e w5 ⟨rfl, hR, hk⟩
  have R5 := Lib.hid hR
  have G5 := Lib.hid (G4.out.kf hk N2.out)
  have K5 := Lib.hid (K4.out.trans hk)
  have hq5 : b2 < w5.heap.size := G5.out.lt
  clear hR hk G4 R4 K4 HG
  go_upto_region 8 with (first | (refine wpList_alloc_byts (w := w5) rfl 96 64 rfl Try.zero36 ?_; intro w6 F6 hb6 hz6; simp only [Act.put, List.getElem_toArray, List.getElem_cons_zero, List.getElem_cons_succ, List.setIfInBounds_toArray, List.set_cons_zero, List.set_cons_succ]; refine wpList_store_blk rfl (.tmp 13) (.tmp 34) rfl w5.heap.size 0 64 (fun _ => 0) V F6.out (by omega) rfl rfl ?_; intro w7 F7 HK7; have HB6 := Lib.hid hb6; clear hb6 F6))
  obtain ⟨b5, hb5⟩ : ∃ b, w5.heap.size = b := ⟨_, rfl⟩
  have R6 := Lib.hid (R5.out.keep HB6.out)
  have G6 := Lib.hid (G5.out.keep HB6.out)
  have K6 := Lib.hid (K5.out.low HB6.out (by omega))
  have hq6 : b5 < w6.heap.size := by omega
  rw [hb5] at hq5 F7 HK7
  try rw [hb5]
  clear hb5 hz6 HB6 R5 G5 K5
  have N5 := Lib.hid (nin4 lt1 lt2 lt3 lt4 (b := b5) (by omega))
  have R7 := Lib.hid (R6.out.kp HK7.out N5.out N5.out)
  have G7 := Lib.hid (G6.out.kp HK7.out (by omega) (by omega))
  have K7 := Lib.hid (K6.out.fresh HK7.out (by omega))
  have E7 := Lib.hid (F7.out.congr (fun j hj => upd_zero 64 V j hj _))
  have hq7 := HK7.out.size
  clear F7 R6 G6 K6 HK7
  have HR2 := Lib.hid G7.out.range0
  go_upto_region 10 with fail
  go_wp2_with (refine wpList_load_mid rfl 27 _ rfl b2 0 rfl (ndc f) d27 HR2.out HU27.out HD27.out (size27 _) ?_)
  refine (HEn.out w7).mono ?_
  rintro e w8 ⟨rfl, hb⟩
  have R8 := Lib.hid (R7.out.keep hb)
  have E8 := Lib.hid (E7.out.below hb E7.out.lt)
  have K8 := Lib.hid (K7.out.low hb (by omega))
  have hq8 : b5 < w8.heap.size := E8.out.lt
  clear hb HR2 G7 R7 K7 E7 HEn
  go_upto_region 11 with (first | (refine wpList_alloc_byts (w := w8) rfl 28 32 rfl Try.zero28 ?_; intro w9 F9 hb9 hz9; simp only [Act.put, List.getElem_toArray, List.getElem_cons_zero, List.getElem_cons_succ, List.setIfInBounds_toArray, List.set_cons_zero, List.set_cons_succ]; refine wpList_store_mid rfl 28 _ _ rfl w8.heap.size 0 (byts 32 F).toArray rfl rfl (by rw [byts_size]; exact F9.out.there 0 32 (Nat.le_refl _)) (size28' _) (byts_all _ _) ?_; have HB9 := Lib.hid hb9; clear hb9))
  obtain ⟨b8, hb8⟩ : ∃ b, w8.heap.size = b := ⟨_, rfl⟩
  have R9 := Lib.hid (R8.out.keep HB9.out)
  have E9 := Lib.hid (E8.out.below HB9.out E8.out.lt)
  have K9 := Lib.hid (K8.out.low HB9.out (by omega))
  have hq9 : b8 < w9.heap.size := by omega
  rw [hb8] at hq8 F9
  try rw [hb8]
  clear hb8 hz9 HB9 R8 E8 K8
  try rw [List.toList_toArray]
  have hkA : Kp w9 (w9.setCells b8 0 (byts 32 F)) b8 b8 := (Kp.refl w9 b8 b8).setCells b8 0 (.inl rfl) _
  have N8 := Lib.hid (nin4 lt1 lt2 lt3 lt4 (b := b8) (by omega))
  have RA := Lib.hid (R9.out.kp hkA N8.out N8.out)
  have EA := Lib.hid (E9.out.kp hkA (by omega) (by omega))
  have FA := Lib.hid ((F9.out.store 0 32 (Nat.le_refl _) F).congr (fun j hj => upd_zero 32 F j hj _))
  have KA := Lib.hid (K9.out.fresh hkA (by omega))
  have hqA := hkA.size
  obtain ⟨wA, hwA⟩ : ∃ x, w9.setCells b8 0 (byts 32 F) = x := ⟨_, rfl⟩
  rw [hwA] at RA EA FA KA hqA ⊢
  clear hwA hkA R9 E9 F9 K9
  go_still_tail 3, (by kernel_rfl)
  have RB := Lib.hid (RA.out.keep (Below.refl wA.heap.size wA).drew)
  have EB := Lib.hid (EA.out.below (Below.refl wA.heap.size wA).drew EA.out.lt)
  have FB := Lib.hid (FA.out.below (Below.refl wA.heap.size wA).drew FA.out.lt)
  have KB := Lib.hid (KA.out.low (Below.refl wA.heap.size wA).drew (by omega))
  change wpList _ _ _ _ _ (World.drew wA)
  have hqB : b8 < (World.drew wA).heap.size := FA.out.lt
  obtain ⟨wB, hwB⟩ : ∃ x, World.drew wA = x := ⟨_, rfl⟩
  rw [hwB] at RB EB FB KB hqB ⊢
  clear hwB RA EA FA KA
  refine wpList_copy_mid rfl (.tmp 42) (.tmp 43) 34 34 rfl 5 Try.sl34 1 Try.isize5 b5 0 64 64 (some ⟨b8, 0, none⟩) 32 32 rfl rfl (byts 32 F) rfl (fun _ => ⟨_, rfl, fun j v hj => ?_⟩) ?_ (byts_one _ _) ?_
  · obtain ⟨hjl, rfl⟩ := byts_of hj
    rw [Addr.add_mid, Nat.zero_add]
    exact FB.out.c j hjl
  · rw [byts_len]
    exact EB.out.there 0 32 (by decide)
  have hkC : Kp wB (wB.setCells b5 0 (byts 32 F)) b5 b5 := (Kp.refl wB b5 b5).setCells b5 0 (.inl rfl) _
  have RC := Lib.hid (RB.out.kp hkC N5.out N5.out)
  have EC := Lib.hid (EB.out.store 0 32 (by decide) F)
  have KC := Lib.hid (KB.out.fresh hkC (by omega))
  have hqC := hkC.size
  obtain ⟨wC, hwC⟩ : ∃ x, wB.setCells b5 0 (byts 32 F) = x := ⟨_, rfl⟩
  rw [hwC] at RC EC KC hqC ⊢
  clear hwC hkC RB EB FB KB
  have HRF : Hid (wC.rangeAt b5 0 (byts 64 (upd V 0 32 F))) := Lib.hid (by
    have := EC.out.range 0 64 (Nat.le_refl _)
    simp only [Nat.zero_add] at this
    exact this)
  obtain ⟨V', hV'⟩ : ∃ V', upd V 0 32 F = V' := ⟨_, rfl⟩
  rw [hV'] at HRF HPut
  clear EC
  go_wp2_with (refine wpList_load_mid rfl 96 _ rfl b5 0 rfl (byts 64 V') (.array 64 5) HRF.out Try.arr36 rfl (size36 _) ?_)
  refine (HPut.out wC RC.out).mono ?_
  rintro e wD ⟨rfl, hR, hk⟩
  have RD := Lib.hid hR
  have KD := Lib.hid (KC.out.trans hk)
  clear hR hk RC KC HRF HPut
  go_wp2_with fail
  go_ret
  rw [hV']
  exact ⟨rfl, RD.out, KD.out⟩

set_option maxHeartbeats 20000000 in
set_option maxRecDepth 100000 in
theorem write_in32 (g : Cf.Ge) (x : Int) (t m d gg N K kB : Nat) (T : TS) (f : Nat → Int) (hf : NdOk f) (hcd : codeN f = 0) (hx : inP g x) (hb0 : 0 ≤ g.base) (hb1 : g.base < 100000) (hm0 : 0 ≤ g.bm) (hm1 : g.bm < 100000) (hn1 : g.nd ≤ 128) (hkB : g.base + g.bm + (x - 1) / 2 = kB) (ha : (x - 1) % 2 * 32 = 32) (hk : kB < N) (hk32 : 32 ≤ kB) (hN : N ≤ 65536) (hT : T.length < 30) (hK : K < 600000) (w : World) (h : Rd w t m d gg N T K) :
    Calls Try.prog 18 #[.pointer (some ⟨t, 0, none⟩), g.val, .int .i64 x, .agg (ndc f).toArray] w fun e w' => e = .returned (.int .i64 0) ∧ Rd w' t m d gg N (put kB (wrB (vw T kB) 32 f) T) (K + 1) ∧ Kf w w' [t, m, d, gg] := by
  obtain ⟨d27, hu27, hd27⟩ := Try.desc27
  obtain ⟨d53, hu53, hd53⟩ := Try.desc53
  have HU27 := Lib.hid hu27
  have HD27 := Lib.hid hd27
  have HU53 := Lib.hid hu53
  have HD53 := Lib.hid hd53
  have HP : Hid (∀ W, Calls Try.prog 19 #[.agg g.cells.toArray, .int .i64 x] W fun e w' => e = .returned (.tuple #[.int .i64 kB, .int .i64 32, .bool true]) ∧ Below W.heap.size W w') := fun W => by
    have := place_in g x hx hb0 hb1 hm0 hm1 hn1 W
    rw [hkB, ha] at this
    exact this
  have HCk := Lib.hid (fun W => check_any f hf W)
  rw [hcd] at HCk
  have HEn := Lib.hid (fun W => encode_any f hf W)
  have HG := Lib.hid (fun W (h : Rd W t m d gg N T K) => get6 t m d gg N K T kB hk hN (by omega) W h)
  have HPut := Lib.hid (fun W (h' : Rd W t m d gg N T (K + 1)) => put6 t m d gg N (K + 1) T kB (wrB (vw T kB) 32 f) (wrB_byt (vw_byt h.tb kB) hf 32 (by decide)) hk32 hk hN hT (by omega) W h')
  obtain ⟨V, hV⟩ : ∃ V, vw T kB = V := ⟨_, rfl⟩
  rw [hV] at HG HPut ⊢
  obtain ⟨F, hF⟩ : ∃ F : Nat → Int, encF f = F := ⟨_, rfl⟩
  have hW : wrB V 32 f = upd V 32 32 F := by unfold wrB; rw [hF]
  rw [hF] at HEn
  rw [hW] at HPut ⊢
  obtain ⟨lt1, lt2, lt3, lt4⟩ := h.lts
  have HR := Lib.hid h
  clear hu27 hd27 hu53 hd53 hx hb0 hb1 hm0 hm1 hn1 hkB ha hk hk32 hN hT hK hV hF hf hcd hW h
  change Calls _ _ #[_, .agg g.cells.toArray, _, _] _ _
  obtain ⟨gs, hgs⟩ : ∃ gs, g.cells = gs := ⟨_, rfl⟩
  have HS53 : Hid ((Try.prog.info? 53).map (·.size) = some gs.length) := by rw [← hgs]; exact size53 g
  rw [hgs] at HP ⊢
  clear hgs
  go_enter Try.func18, Try.ntmps18
  go_upto_region 1 with (first | (refine wpList_box_list (w := w) rfl 53 _ rfl gs rfl ?_; intro w1 F1 hb1 hz1; have HB1 := Lib.hid hb1; have hq1 : w.heap.size < w1.heap.size := (by omega); clear hb1 hz1) | (refine wpList_box_list (w := w1) rfl 27 _ rfl (ndc f) rfl ?_; intro w2 F2 hb2 hz2; have HB2 := Lib.hid hb2; have hq2 : w1.heap.size < w2.heap.size := (by omega); clear hb2 hz2))
  obtain ⟨b1, hb1⟩ : ∃ b, w.heap.size = b := ⟨_, rfl⟩
  obtain ⟨b2, hb2⟩ : ∃ b, w1.heap.size = b := ⟨_, rfl⟩
  have G1 := Lib.hid (F1.out.keep HB2.out)
  have G2 := F2
  have HB := Lib.hid (HB1.out.trans (HB2.out.mono HB1.out.size))
  have R2 := Lib.hid (HR.out.keep HB.out)
  have HK := Lib.hid (Kf.of_below HB.out [t, m, d, gg])
  rw [hb1, hb2] at hq1
  rw [hb2] at hq2
  rw [hb1] at G1 lt1 lt2 lt3 lt4
  rw [hb2] at G2
  have hwb : w.heap.size ≤ b1 := Nat.le_of_eq hb1
  try rw [hb1]
  try rw [hb2]
  clear hb1 hb2 HB1 HB2 F1 F2 HR HB
  have N2 := Lib.hid (nin4 lt1 lt2 lt3 lt4 (b := b2) (by omega))
  have HR1 := Lib.hid G1.out.range0
  go_wp2_with (refine wpList_load_mid rfl 53 _ rfl b1 0 rfl gs d53 HR1.out HU53.out HD53.out HS53.out ?_)
  refine (HP.out w2).mono ?_
  rintro e w3 ⟨rfl, hb⟩
  have G3 := Lib.hid (G2.out.keep hb)
  have R3 := Lib.hid (R2.out.keep hb)
  have K3 := Lib.hid (HK.out.low hb (by omega))
  have hq3 : b2 < w3.heap.size := G3.out.lt
  clear hb HR1 G1 G2 R2 HK HP
  have HR2 := Lib.hid G3.out.range0
  go_wp2_with (refine wpList_load_mid rfl 27 _ rfl b2 0 rfl (ndc f) d27 HR2.out HU27.out HD27.out (size27 _) ?_)
  refine (HCk.out w3).mono ?_
  rintro e w4 ⟨rfl, hb⟩
  have G4 := Lib.hid (G3.out.keep hb)
  have R4 := Lib.hid (R3.out.keep hb)
  have K4 := Lib.hid (K3.out.low hb (by omega))
  have hq4 : b2 < w4.heap.size := G4.out.lt
  clear hb HR2 G3 R3 K3 HCk
  go_wp2_with fail
  refine (HG.out w4 R4.out).mono ?_
  rintro e w5 ⟨rfl, hR, hk⟩
  have R5 := Lib.hid hR
  have G5 := Lib.hid (G4.out.kf hk N2.out)
  have K5 := Lib.hid (K4.out.trans hk)
  have hq5 : b2 < w5.heap.size := G5.out.lt
  clear hR hk G4 R4 K4 HG
  go_upto_region 8 with (first | (refine wpList_alloc_byts (w := w5) rfl 96 64 rfl Try.zero36 ?_; intro w6 F6 hb6 hz6; simp only [Act.put, List.getElem_toArray, List.getElem_cons_zero, List.getElem_cons_succ, List.setIfInBounds_toArray, List.set_cons_zero, List.set_cons_succ]; refine wpList_store_blk rfl (.tmp 13) (.tmp 34) rfl w5.heap.size 0 64 (fun _ => 0) V F6.out (by omega) rfl rfl ?_; intro w7 F7 HK7; have HB6 := Lib.hid hb6; clear hb6 F6))
  obtain ⟨b5, hb5⟩ : ∃ b, w5.heap.size = b := ⟨_, rfl⟩
  have R6 := Lib.hid (R5.out.keep HB6.out)
  have G6 := Lib.hid (G5.out.keep HB6.out)
  have K6 := Lib.hid (K5.out.low HB6.out (by omega))
  have hq6 : b5 < w6.heap.size := by omega
  rw [hb5] at hq5 F7 HK7
  try rw [hb5]
  clear hb5 hz6 HB6 R5 G5 K5
  have N5 := Lib.hid (nin4 lt1 lt2 lt3 lt4 (b := b5) (by omega))
  have R7 := Lib.hid (R6.out.kp HK7.out N5.out N5.out)
  have G7 := Lib.hid (G6.out.kp HK7.out (by omega) (by omega))
  have K7 := Lib.hid (K6.out.fresh HK7.out (by omega))
  have E7 := Lib.hid (F7.out.congr (fun j hj => upd_zero 64 V j hj _))
  have hq7 := HK7.out.size
  clear F7 R6 G6 K6 HK7
  have HR2 := Lib.hid G7.out.range0
  go_upto_region 10 with fail
  go_wp2_with (refine wpList_load_mid rfl 27 _ rfl b2 0 rfl (ndc f) d27 HR2.out HU27.out HD27.out (size27 _) ?_)
  refine (HEn.out w7).mono ?_
  rintro e w8 ⟨rfl, hb⟩
  have R8 := Lib.hid (R7.out.keep hb)
  have E8 := Lib.hid (E7.out.below hb E7.out.lt)
  have K8 := Lib.hid (K7.out.low hb (by omega))
  have hq8 : b5 < w8.heap.size := E8.out.lt
  clear hb HR2 G7 R7 K7 E7 HEn
  go_upto_region 11 with (first | (refine wpList_alloc_byts (w := w8) rfl 28 32 rfl Try.zero28 ?_; intro w9 F9 hb9 hz9; simp only [Act.put, List.getElem_toArray, List.getElem_cons_zero, List.getElem_cons_succ, List.setIfInBounds_toArray, List.set_cons_zero, List.set_cons_succ]; refine wpList_store_mid rfl 28 _ _ rfl w8.heap.size 0 (byts 32 F).toArray rfl rfl (by rw [byts_size]; exact F9.out.there 0 32 (Nat.le_refl _)) (size28' _) (byts_all _ _) ?_; have HB9 := Lib.hid hb9; clear hb9))
  obtain ⟨b8, hb8⟩ : ∃ b, w8.heap.size = b := ⟨_, rfl⟩
  have R9 := Lib.hid (R8.out.keep HB9.out)
  have E9 := Lib.hid (E8.out.below HB9.out E8.out.lt)
  have K9 := Lib.hid (K8.out.low HB9.out (by omega))
  have hq9 : b8 < w9.heap.size := by omega
  rw [hb8] at hq8 F9
  try rw [hb8]
  clear hb8 hz9 HB9 R8 E8 K8
  try rw [List.toList_toArray]
  have hkA : Kp w9 (w9.setCells b8 0 (byts 32 F)) b8 b8 := (Kp.refl w9 b8 b8).setCells b8 0 (.inl rfl) _
  have N8 := Lib.hid (nin4 lt1 lt2 lt3 lt4 (b := b8) (by omega))
  have RA := Lib.hid (R9.out.kp hkA N8.out N8.out)
  have EA := Lib.hid (E9.out.kp hkA (by omega) (by omega))
  have FA := Lib.hid ((F9.out.store 0 32 (Nat.le_refl _) F).congr (fun j hj => upd_zero 32 F j hj _))
  have KA := Lib.hid (K9.out.fresh hkA (by omega))
  have hqA := hkA.size
  obtain ⟨wA, hwA⟩ : ∃ x, w9.setCells b8 0 (byts 32 F) = x := ⟨_, rfl⟩
  rw [hwA] at RA EA FA KA hqA ⊢
  clear hwA hkA R9 E9 F9 K9
  go_still_tail 3, (by kernel_rfl)
  have RB := Lib.hid (RA.out.keep (Below.refl wA.heap.size wA).drew)
  have EB := Lib.hid (EA.out.below (Below.refl wA.heap.size wA).drew EA.out.lt)
  have FB := Lib.hid (FA.out.below (Below.refl wA.heap.size wA).drew FA.out.lt)
  have KB := Lib.hid (KA.out.low (Below.refl wA.heap.size wA).drew (by omega))
  change wpList _ _ _ _ _ (World.drew wA)
  have hqB : b8 < (World.drew wA).heap.size := FA.out.lt
  obtain ⟨wB, hwB⟩ : ∃ x, World.drew wA = x := ⟨_, rfl⟩
  rw [hwB] at RB EB FB KB hqB ⊢
  clear hwB RA EA FA KA
  refine wpList_copy_mid rfl (.tmp 42) (.tmp 43) 34 34 rfl 5 Try.sl34 1 Try.isize5 b5 32 32 32 (some ⟨b8, 0, none⟩) 32 32 rfl rfl (byts 32 F) rfl (fun _ => ⟨_, rfl, fun j v hj => ?_⟩) ?_ (byts_one _ _) ?_
  · obtain ⟨hjl, rfl⟩ := byts_of hj
    rw [Addr.add_mid, Nat.zero_add]
    exact FB.out.c j hjl
  · rw [byts_len]
    exact EB.out.there 32 32 (by decide)
  have hkC : Kp wB (wB.setCells b5 32 (byts 32 F)) b5 b5 := (Kp.refl wB b5 b5).setCells b5 32 (.inl rfl) _
  have RC := Lib.hid (RB.out.kp hkC N5.out N5.out)
  have EC := Lib.hid (EB.out.store 32 32 (by decide) F)
  have KC := Lib.hid (KB.out.fresh hkC (by omega))
  have hqC := hkC.size
  obtain ⟨wC, hwC⟩ : ∃ x, wB.setCells b5 32 (byts 32 F) = x := ⟨_, rfl⟩
  rw [hwC] at RC EC KC hqC ⊢
  clear hwC hkC RB EB FB KB
  have HRF : Hid (wC.rangeAt b5 0 (byts 64 (upd V 32 32 F))) := Lib.hid (by
    have := EC.out.range 0 64 (Nat.le_refl _)
    simp only [Nat.zero_add] at this
    exact this)
  obtain ⟨V', hV'⟩ : ∃ V', upd V 32 32 F = V' := ⟨_, rfl⟩
  rw [hV'] at HRF HPut
  clear EC
  go_wp2_with (refine wpList_load_mid rfl 96 _ rfl b5 0 rfl (byts 64 V') (.array 64 5) HRF.out Try.arr36 rfl (size36 _) ?_)
  refine (HPut.out wC RC.out).mono ?_
  rintro e wD ⟨rfl, hR, hk⟩
  have RD := Lib.hid hR
  have KD := Lib.hid (KC.out.trans hk)
  clear hR hk RC KC HRF HPut
  go_wp2_with fail
  go_ret
  rw [hV']
  exact ⟨rfl, RD.out, KD.out⟩
end Go.Proofs.Ytdebkifnaiohcaa
