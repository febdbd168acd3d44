import Derived.Test.YtdebkifnaiohcaaG15
import Derived.Test.YtdebkifnaiohcaaH1
/- A node of a table: Read. -/
namespace Go.Proofs.Ytdebkifnaiohcaa
set_option linter.unusedSimpArgs false
set_option linter.unusedVariables false
open Go.RowKit Go.Maps

theorem Kf.low {w w1 w2 : World} {L : List Nat} {B : Nat} (h : Kf w w1 L) (hb : Below B w1 w2) (hB : w.heap.size ≤ B) : Kf w w2 L :=
  ⟨hb.os.trans h.os, hb.tape.trans h.tape, hb.output.trans h.output, Nat.le_trans h.size hb.size, fun k hk hn => (hb.block k (by omega)).trans (h.block k hk hn)⟩
theorem Kf.fresh {w w1 w2 : World} {L : List Nat} {b : Nat} (h : Kf w w1 L) (hk : Kp w1 w2 b b) (hb : w.heap.size ≤ b) : Kf w w2 L :=
  ⟨hk.os.trans h.os, hk.tape.trans h.tape, hk.output.trans h.output, Nat.le_trans h.size hk.size, fun k hk' hn => (hk.block k (Nat.lt_of_lt_of_le hk' h.size) (by omega) (by omega)).trans (h.block k hk' hn)⟩
theorem Try.desc53 : ∃ d, Try.prog.underlying 53 = some d ∧ d.isRow = true := ⟨_, Try.underlying53, rfl⟩
theorem Try.isize53 : (Try.prog.info? 53).map (·.size) = some 6 := by kernel_rfl
theorem size53 (g : Cf.Ge) : (Try.prog.info? 53).map (·.size) = some g.cells.length := Try.isize53
theorem Try.sl34 : Try.prog.underlying 34 = some (.slice 5) := Try.underlying34
theorem Try.isize5 : (Try.prog.info? 5).map (·.size) = some 1 := by kernel_rfl
theorem Rd.low {w w' : World} {t m d g N : Nat} {T : TS} {K : Nat} (h : Rd w t m d g N T K) (hb : Below w.heap.size w w') : Rd w' t m d g N T K := h.keep hb
theorem nin4 {B t m d g b : Nat} (h1 : t < B) (h2 : m < B) (h3 : d < B) (h4 : g < B) (hb : B ≤ b) : b ∉ [t, m, d, g] := by
  simp
  omega
theorem upd_zero (n : Nat) (f : Nat → Int) (j : Nat) (hj : j < n) (z : Nat → Int) : upd z 0 n f j = f j := by
  unfold upd
  rw [if_pos (by omega), Nat.sub_zero]

set_option maxHeartbeats 20000000 in
set_option maxRecDepth 100000 in
theorem read_in0 (g : Cf.Ge) (x : Int) (t m d gg N K kB : Nat) (T : TS) (hx : inP g x) (hb0 : 0 ≤ g.base) (hb1 : g.base < 100000) (hm0 : 0 ≤ g.bm) (hm1 : g.bm < 100000) (hn1 : g.nd ≤ 128) (hkB : g.base + g.bm + (x - 1) / 2 = kB) (ha : (x - 1) % 2 * 32 = 0) (hk : kB < N) (hN : N ≤ 65536) (hK : K < 600000) (F : Nat → Int) (hB : Byt32 F) (hF : ∀ j, j < 32 → vw T kB (0 + j) = F j) (w : World) (h : Rd w t m d gg N T K) :
    Calls Try.prog 20 #[.pointer (some ⟨t, 0, none⟩), g.val, .int .i64 x] w fun e w' => e = .returned (.tuple #[.agg (ndc (decV F)).toArray, .int .i64 (decE F)]) ∧ Rd w' t m d gg N T (K + 1) ∧ Kf w w' [t, m, d, gg] := by
  obtain ⟨d27, hu27, hd27⟩ := Try.desc27
  obtain ⟨d53, hu53, hd53⟩ := Try.desc53
  have HU27 := Lib.hid hu27
  have HD27 := Lib.hid hd27
  have HU53 := Lib.hid hu53
  have HD53 := Lib.hid hd53
  have HP : Hid (∀ W, Calls Try.prog 19 #[g.val, .int .i64 x] W fun e w' => e = .returned (.tuple #[.int .i64 kB, .int .i64 0, .bool true]) ∧ Below W.heap.size W w') := fun W => by
    have := place_in g x hx hb0 hb1 hm0 hm1 hn1 W
    rwa [hkB, ha] at this
  have HG := Lib.hid (fun W (h : Rd W t m d gg N T K) => get6 t m d gg N K T kB hk hN (by omega) W h)
  have HC := Lib.hid (fun W => decode_any F hB W)
  obtain ⟨V, hV⟩ : ∃ V, vw T kB = V := ⟨_, rfl⟩
  rw [hV] at HG hF
  have HFj := Lib.hid hF
  obtain ⟨lt1, lt2, lt3, lt4⟩ := h.lts
  have HR := Lib.hid h
  clear hu27 hd27 hu53 hd53 hx hb0 hb1 hm0 hm1 hn1 hkB ha hk hN hK hB hV hF h
  change Calls _ _ #[_, .agg g.cells.toArray, _] _ _
  have HP : Hid (∀ W, Calls Try.prog 19 #[.agg g.cells.toArray, .int .i64 x] W fun e w' => e = .returned (.tuple #[.int .i64 kB, .int .i64 0, .bool true]) ∧ Below W.heap.size W w') := HP
  obtain ⟨gs, hgs⟩ : ∃ gs, g.cells = gs := ⟨_, rfl⟩
  have HS53 : Hid ((Try.prog.info? 53).map (·.size) = some gs.length) := by rw [← hgs]; exact size53 g
  rw [hgs] at HP ⊢
  clear hgs
  go_enter Try.func20, Try.ntmps20
  go_upto_region 1 with (first | (refine wpList_box_list (w := w) rfl 53 _ rfl gs rfl ?_; intro w1 F1 hb1 hz1; have HB1 := Lib.hid hb1; have hq1 : w.heap.size < w1.heap.size := (by omega); clear hb1 hz1) | (refine wpList_alloc_list (w := w1) rfl 27 rfl (ndc zpt) Try.zero27 ?_; intro w2 F2 hb2 hz2; have HB2 := Lib.hid hb2; have hq2 : w1.heap.size < w2.heap.size := (by omega); clear hb2 hz2))
  obtain ⟨b1, hb1⟩ : ∃ b, w.heap.size = b := ⟨_, rfl⟩
  obtain ⟨b2, hb2⟩ : ∃ b, w1.heap.size = b := ⟨_, rfl⟩
  have G1 := Lib.hid (F1.out.keep HB2.out)
  have G2 := F2
  have HB := Lib.hid (HB1.out.trans (HB2.out.mono HB1.out.size))
  have R2 := Lib.hid (HR.out.keep HB.out)
  have HK := Lib.hid (Kf.of_below HB.out [t, m, d, gg])
  rw [hb1, hb2] at hq1
  rw [hb2] at hq2
  rw [hb1] at G1 HB lt1 lt2 lt3 lt4
  rw [hb2] at G2
  have HW := Lib.hid hb1
  have hwb : w.heap.size ≤ b1 := Nat.le_of_eq hb1
  try rw [hb1]
  try rw [hb2]
  clear hb1 hb2 HB1 HB2 F1 F2 HR HB
  have N2 := Lib.hid (nin4 lt1 lt2 lt3 lt4 (b := b2) (by omega))
  have HR1 := Lib.hid G1.out.range0
  go_wp2_with (refine wpList_load_mid rfl 53 _ rfl b1 0 rfl gs d53 HR1.out HU53.out HD53.out HS53.out ?_)
  refine (HP.out w2).mono ?_
  rintro e w3 ⟨rfl, hb⟩
  have G3 := Lib.hid (G2.out.keep hb)
  have R3 := Lib.hid (R2.out.keep hb)
  have K3 := Lib.hid (HK.out.low hb (by omega))
  have hq3 : b2 < w3.heap.size := G3.out.lt
  clear hb HR1 G1 G2 R2 HK HP
  go_wp2_with fail
  refine (HG.out w3 R3.out).mono ?_
  rintro e w4 ⟨rfl, hR, hk⟩
  have R4 := Lib.hid hR
  have G4 := Lib.hid (G3.out.kf hk N2.out)
  have K4 := Lib.hid (K3.out.trans hk)
  have hq4 : b2 < w4.heap.size := G4.out.lt
  clear hR hk G3 R3 K3 HG
  go_upto_region 5 with (first | (refine wpList_alloc_byts (w := w4) rfl 96 64 rfl Try.zero36 ?_; intro w5 F5 hb5 hz5; simp only [Act.put, List.getElem_toArray, List.getElem_cons_zero, List.getElem_cons_succ, List.setIfInBounds_toArray, List.set_cons_zero, List.set_cons_succ]; refine wpList_store_blk rfl (.tmp 11) (.tmp 28) rfl w4.heap.size 0 64 (fun _ => 0) V F5.out (by omega) rfl rfl ?_; intro w6 F6 HK6; have HB5 := Lib.hid hb5; clear hb5 F5))
  obtain ⟨b5, hb5⟩ : ∃ b, w4.heap.size = b := ⟨_, rfl⟩
  have R5 := Lib.hid (R4.out.keep HB5.out)
  have G5 := Lib.hid (G4.out.keep HB5.out)
  have K5 := Lib.hid (K4.out.low HB5.out (by omega))
  have hq5 : b5 < w5.heap.size := by omega
  rw [hb5] at hq4 F6 HK6
  try rw [hb5]
  clear hb5 hz5 HB5 R4 G4 K4
  have N5 := Lib.hid (nin4 lt1 lt2 lt3 lt4 (b := b5) (by omega))
  have R6 := Lib.hid (R5.out.kp HK6.out N5.out N5.out)
  have G6 := Lib.hid (G5.out.kp HK6.out (by omega) (by omega))
  have K6 := Lib.hid (K5.out.fresh HK6.out (by omega))
  have F6' := Lib.hid (F6.out.congr (fun j hj => upd_zero 64 V j hj _))
  have hq6 := HK6.out.size
  clear F6 R5 G5 K5 HK6
  go_upto_region 8 with (first | (refine wpList_alloc_byts (w := w6) rfl 28 32 rfl Try.zero28 ?_; intro w7 F7 hb7 hz7; have HB7 := Lib.hid hb7; have hq7 : w6.heap.size < w7.heap.size := (by omega); clear hb7 hz7))
  obtain ⟨b7, hb7⟩ : ∃ b, w6.heap.size = b := ⟨_, rfl⟩
  have R7 := Lib.hid (R6.out.keep HB7.out)
  have G7 := Lib.hid (G6.out.keep HB7.out)
  have K7 := Lib.hid (K6.out.low HB7.out (by omega))
  have E7 := Lib.hid (F6'.out.below HB7.out F6'.out.lt)
  have hq8 : b5 < b7 := by rw [← hb7]; exact F6'.out.lt
  rw [hb7] at F7 hq6 hq7
  try rw [hb7]
  clear hb7 HB7 R6 G6 K6 F6'
  go_still_tail 3, (by kernel_rfl)
  have R8 := Lib.hid (R7.out.keep (Below.refl w7.heap.size w7).drew)
  have G8 := Lib.hid (G7.out.keep (Below.refl w7.heap.size w7).drew)
  have E8 := Lib.hid (E7.out.below (Below.refl w7.heap.size w7).drew E7.out.lt)
  have F8 := Lib.hid (F7.out.below (Below.refl w7.heap.size w7).drew F7.out.lt)
  have K8 := Lib.hid (K7.out.low (Below.refl w7.heap.size w7).drew (by omega))
  change wpList _ _ _ _ _ (World.drew w7)
  have hq9 : b7 < (World.drew w7).heap.size := hq7
  obtain ⟨w8, hw8⟩ : ∃ x, World.drew w7 = x := ⟨_, rfl⟩
  rw [hw8] at R8 G8 E8 F8 K8 hq9 ⊢
  clear hw8 R7 G7 E7 F7 K7 hq7
  refine wpList_copy_mid rfl (.tmp 34) (.tmp 36) 34 34 rfl 5 Try.sl34 1 Try.isize5 b7 0 32 32 (some ⟨b5, 0, none⟩) 64 64 rfl rfl (byts 32 F) rfl (fun _ => ⟨_, rfl, fun j v hj => ?_⟩) ?_ (byts_one _ _) ?_
  · obtain ⟨hjl, rfl⟩ := byts_of hj
    rw [Addr.add_mid, ← HFj.out j hjl]
    exact E8.out.c (0 + j) (by omega)
  · rw [byts_len]
    exact F8.out.there 0 32 (Nat.le_refl _)
  have hk9 : Kp w8 (w8.setCells b7 0 (byts 32 F)) b7 b7 := (Kp.refl w8 b7 b7).setCells b7 0 (.inl rfl) _
  have N7 := Lib.hid (nin4 lt1 lt2 lt3 lt4 (b := b7) (by omega))
  have R9 := Lib.hid (R8.out.kp hk9 N7.out N7.out)
  have G9 := Lib.hid (G8.out.kp hk9 (by omega) (by omega))
  have F9 := Lib.hid ((F8.out.store 0 32 (Nat.le_refl _) F).congr (fun j hj => upd_zero 32 F j hj _))
  have K9 := Lib.hid (K8.out.fresh hk9 (by omega))
  obtain ⟨w9, hw9⟩ : ∃ x, w8.setCells b7 0 (byts 32 F) = x := ⟨_, rfl⟩
  have hqA := hk9.size
  rw [hw9] at R9 G9 F9 K9 hqA ⊢
  clear hw9 hk9 R8 G8 E8 F8 K8
  have HR9 := Lib.hid (F9.out.range 0 32 (Nat.le_refl _))
  have HRF : Hid (w9.rangeAt b7 0 (byts 32 F)) := Lib.hid (by
    have := HR9.out
    simp only [Nat.zero_add] at this
    exact this)
  go_wp2_with (refine wpList_load_mid rfl 28 _ rfl b7 0 rfl (byts 32 F) (.array 32 5) HRF.out Try.arr28 rfl (size28 _) ?_)
  refine (HC.out w9).mono ?_
  rintro e wa ⟨rfl, hb⟩
  have Ra := Lib.hid (R9.out.keep hb)
  have Ga := Lib.hid (G9.out.keep hb)
  have Ka := Lib.hid (K9.out.low hb (by omega))
  clear hb R9 G9 K9 F9 HR9 HRF HC
  go_wp2_with (refine wpList_store_mid rfl 27 _ _ rfl b2 0 (ndc (decV F)).toArray rfl rfl (Ga.out.there0 12 rfl) (size27' _) (all_oneCell_toArray (ndc_one _)) ?_)
  have hkb : Kp wa (wa.setCells b2 0 (ndc (decV F))) b2 b2 := (Kp.refl wa b2 b2).setCells b2 0 (.inl rfl) _
  exact bodyPost_ret_by (results_mid_tmp rfl _ _ b2 (ndc (decV F)) d27 rfl (Ga.out.stored (ndc (decV F)) rfl).range0 HU27.out HD27.out (size27 _)) rfl ⟨rfl, Ra.out.kp hkb N2.out N2.out, Ka.out.fresh hkb (by omega)⟩

set_option maxHeartbeats 20000000 in
set_option maxRecDepth 100000 in
theorem read_in32 (g : Cf.Ge) (x : Int) (t m d gg N K kB : Nat) (T : TS) (hx : inP g x) (hb0 : 0 ≤ g.base) (hb1 : g.base < 100000) (hm0 : 0 ≤ g.bm) (hm1 : g.bm < 100000) (hn1 : g.nd ≤ 128) (hkB : g.base + g.bm + (x - 1) / 2 = kB) (ha : (x - 1) % 2 * 32 = 32) (hk : kB < N) (hN : N ≤ 65536) (hK : K < 600000) (F : Nat → Int) (hB : Byt32 F) (hF : ∀ j, j < 32 → vw T kB (32 + j) = F j) (w : World) (h : Rd w t m d gg N T K) :
    Calls Try.prog 20 #[.pointer (some ⟨t, 0, none⟩), g.val, .int .i64 x] w fun e w' => e = .returned (.tuple #[.agg (ndc (decV F)).toArray, .int .i64 (decE F)]) ∧ Rd w' t m d gg N T (K + 1) ∧ Kf w w' [t, m, d, gg] := by
  obtain ⟨d27, hu27, hd27⟩ := Try.desc27
  obtain ⟨d53, hu53, hd53⟩ := Try.desc53
  have HU27 := Lib.hid hu27
  have HD27 := Lib.hid hd27
  have HU53 := Lib.hid hu53
  have HD53 := Lib.hid hd53
  have HP : Hid (∀ W, Calls Try.prog 19 #[g.val, .int .i64 x] W fun e w' => e = .returned (.tuple #[.int .i64 kB, .int .i64 32, .bool true]) ∧ Below W.heap.size W w') := fun W => by
    have := place_in g x hx hb0 hb1 hm0 hm1 hn1 W
    rwa [hkB, ha] at this
  have HG := Lib.hid (fun W (h : Rd W t m d gg N T K) => get6 t m d gg N K T kB hk hN (by omega) W h)
  have HC := Lib.hid (fun W => decode_any F hB W)
  obtain ⟨V, hV⟩ : ∃ V, vw T kB = V := ⟨_, rfl⟩
  rw [hV] at HG hF
  have HFj := Lib.hid hF
  obtain ⟨lt1, lt2, lt3, lt4⟩ := h.lts
  have HR := Lib.hid h
  clear hu27 hd27 hu53 hd53 hx hb0 hb1 hm0 hm1 hn1 hkB ha hk hN hK hB hV hF h
  change Calls _ _ #[_, .agg g.cells.toArray, _] _ _
  have HP : Hid (∀ W, Calls Try.prog 19 #[.agg g.cells.toArray, .int .i64 x] W fun e w' => e = .returned (.tuple #[.int .i64 kB, .int .i64 32, .bool true]) ∧ Below W.heap.size W w') := HP
  obtain ⟨gs, hgs⟩ : ∃ gs, g.cells = gs := ⟨_, rfl⟩
  have HS53 : Hid ((Try.prog.info? 53).map (·.size) = some gs.length) := by rw [← hgs]; exact size53 g
  rw [hgs] at HP ⊢
  clear hgs
  go_enter Try.func20, Try.ntmps20
  go_upto_region 1 with (first | (refine wpList_box_list (w := w) rfl 53 _ rfl gs rfl ?_; intro w1 F1 hb1 hz1; have HB1 := Lib.hid hb1; have hq1 : w.heap.size < w1.heap.size := (by omega); clear hb1 hz1) | (refine wpList_alloc_list (w := w1) rfl 27 rfl (ndc zpt) Try.zero27 ?_; intro w2 F2 hb2 hz2; have HB2 := Lib.hid hb2; have hq2 : w1.heap.size < w2.heap.size := (by omega); clear hb2 hz2))
  obtain ⟨b1, hb1⟩ : ∃ b, w.heap.size = b := ⟨_, rfl⟩
  obtain ⟨b2, hb2⟩ : ∃ b, w1.heap.size = b := ⟨_, rfl⟩
  have G1 := Lib.hid (F1.out.keep HB2.out)
  have G2 := F2
  have HB := Lib.hid (HB1.out.trans (HB2.out.mono HB1.out.size))
  have R2 := Lib.hid (HR.out.keep HB.out)
  have HK := Lib.hid (Kf.of_below HB.out [t, m, d, gg])
  rw [hb1, hb2] at hq1
  rw [hb2] at hq2
  rw [hb1] at G1 HB lt1 lt2 lt3 lt4
  rw [hb2] at G2
  have HW := Lib.hid hb1
  have hwb : w.heap.size ≤ b1 := Nat.le_of_eq hb1
  try rw [hb1]
  try rw [hb2]
  clear hb1 hb2 HB1 HB2 F1 F2 HR HB
  have N2 := Lib.hid (nin4 lt1 lt2 lt3 lt4 (b := b2) (by omega))
  have HR1 := Lib.hid G1.out.range0
  go_wp2_with (refine wpList_load_mid rfl 53 _ rfl b1 0 rfl gs d53 HR1.out HU53.out HD53.out HS53.out ?_)
  refine (HP.out w2).mono ?_
  rintro e w3 ⟨rfl, hb⟩
  have G3 := Lib.hid (G2.out.keep hb)
  have R3 := Lib.hid (R2.out.keep hb)
  have K3 := Lib.hid (HK.out.low hb (by omega))
  have hq3 : b2 < w3.heap.size := G3.out.lt
  clear hb HR1 G1 G2 R2 HK HP
  go_wp2_with fail
  refine (HG.out w3 R3.out).mono ?_
  rintro e w4 ⟨rfl, hR, hk⟩
  have R4 := Lib.hid hR
  have G4 := Lib.hid (G3.out.kf hk N2.out)
  have K4 := Lib.hid (K3.out.trans hk)
  have hq4 : b2 < w4.heap.size := G4.out.lt
  clear hR hk G3 R3 K3 HG
  go_upto_region 5 with (first | (refine wpList_alloc_byts (w := w4) rfl 96 64 rfl Try.zero36 ?_; intro w5 F5 hb5 hz5; simp only [Act.put, List.getElem_toArray, List.getElem_cons_zero, List.getElem_cons_succ, List.setIfInBounds_toArray, List.set_cons_zero, List.set_cons_succ]; refine wpList_store_blk rfl (.tmp 11) (.tmp 28) rfl w4.heap.size 0 64 (fun _ => 0) V F5.out (by omega) rfl rfl ?_; intro w6 F6 HK6; have HB5 := Lib.hid hb5; clear hb5 F5))
  obtain ⟨b5, hb5⟩ : ∃ b, w4.heap.size = b := ⟨_, rfl⟩
  have R5 := Lib.hid (R4.out.keep HB5.out)
  have G5 := Lib.hid (G4.out.keep HB5.out)
  have K5 := Lib.hid (K4.out.low HB5.out (by omega))
  have hq5 : b5 < w5.heap.size := by omega
  rw [hb5] at hq4 F6 HK6
  try rw [hb5]
  clear hb5 hz5 HB5 R4 G4 K4
  have N5 := Lib.hid (nin4 lt1 lt2 lt3 lt4 (b := b5) (by omega))
  have R6 := Lib.hid (R5.out.kp HK6.out N5.out N5.out)
  have G6 := Lib.hid (G5.out.kp HK6.out (by omega) (by omega))
  have K6 := Lib.hid (K5.out.fresh HK6.out (by omega))
  have F6' := Lib.hid (F6.out.congr (fun j hj => upd_zero 64 V j hj _))
  have hq6 := HK6.out.size
  clear F6 R5 G5 K5 HK6
  go_upto_region 8 with (first | (refine wpList_alloc_byts (w := w6) rfl 28 32 rfl Try.zero28 ?_; intro w7 F7 hb7 hz7; have HB7 := Lib.hid hb7; have hq7 : w6.heap.size < w7.heap.size := (by omega); clear hb7 hz7))
  obtain ⟨b7, hb7⟩ : ∃ b, w6.heap.size = b := ⟨_, rfl⟩
  have R7 := Lib.hid (R6.out.keep HB7.out)
  have G7 := Lib.hid (G6.out.keep HB7.out)
  have K7 := Lib.hid (K6.out.low HB7.out (by omega))
  have E7 := Lib.hid (F6'.out.below HB7.out F6'.out.lt)
  have hq8 : b5 < b7 := by rw [← hb7]; exact F6'.out.lt
  rw [hb7] at F7 hq6 hq7
  try rw [hb7]
  clear hb7 HB7 R6 G6 K6 F6'
  go_still_tail 3, (by kernel_rfl)
  have R8 := Lib.hid (R7.out.keep (Below.refl w7.heap.size w7).drew)
  have G8 := Lib.hid (G7.out.keep (Below.refl w7.heap.size w7).drew)
  have E8 := Lib.hid (E7.out.below (Below.refl w7.heap.size w7).drew E7.out.lt)
  have F8 := Lib.hid (F7.out.below (Below.refl w7.heap.size w7).drew F7.out.lt)
  have K8 := Lib.hid (K7.out.low (Below.refl w7.heap.size w7).drew (by omega))
  change wpList _ _ _ _ _ (World.drew w7)
  have hq9 : b7 < (World.drew w7).heap.size := hq7
  obtain ⟨w8, hw8⟩ : ∃ x, World.drew w7 = x := ⟨_, rfl⟩
  rw [hw8] at R8 G8 E8 F8 K8 hq9 ⊢
  clear hw8 R7 G7 E7 F7 K7 hq7
  refine wpList_copy_mid rfl (.tmp 34) (.tmp 36) 34 34 rfl 5 Try.sl34 1 Try.isize5 b7 0 32 32 (some ⟨b5, 32, none⟩) 32 32 rfl rfl (byts 32 F) rfl (fun _ => ⟨_, rfl, fun j v hj => ?_⟩) ?_ (byts_one _ _) ?_
  · obtain ⟨hjl, rfl⟩ := byts_of hj
    rw [Addr.add_mid, ← HFj.out j hjl]
    exact E8.out.c (32 + j) (by omega)
  · rw [byts_len]
    exact F8.out.there 0 32 (Nat.le_refl _)
  have hk9 : Kp w8 (w8.setCells b7 0 (byts 32 F)) b7 b7 := (Kp.refl w8 b7 b7).setCells b7 0 (.inl rfl) _
  have N7 := Lib.hid (nin4 lt1 lt2 lt3 lt4 (b := b7) (by omega))
  have R9 := Lib.hid (R8.out.kp hk9 N7.out N7.out)
  have G9 := Lib.hid (G8.out.kp hk9 (by omega) (by omega))
  have F9 := Lib.hid ((F8.out.store 0 32 (Nat.le_refl _) F).congr (fun j hj => upd_zero 32 F j hj _))
  have K9 := Lib.hid (K8.out.fresh hk9 (by omega))
  obtain ⟨w9, hw9⟩ : ∃ x, w8.setCells b7 0 (byts 32 F) = x := ⟨_, rfl⟩
  have hqA := hk9.size
  rw [hw9] at R9 G9 F9 K9 hqA ⊢
  clear hw9 hk9 R8 G8 E8 F8 K8
  have HR9 := Lib.hid (F9.out.range 0 32 (Nat.le_refl _))
  have HRF : Hid (w9.rangeAt b7 0 (byts 32 F)) := Lib.hid (by
    have := HR9.out
    simp only [Nat.zero_add] at this
    exact this)
  go_wp2_with (refine wpList_load_mid rfl 28 _ rfl b7 0 rfl (byts 32 F) (.array 32 5) HRF.out Try.arr28 rfl (size28 _) ?_)
  refine (HC.out w9).mono ?_
  rintro e wa ⟨rfl, hb⟩
  have Ra := Lib.hid (R9.out.keep hb)
  have Ga := Lib.hid (G9.out.keep hb)
  have Ka := Lib.hid (K9.out.low hb (by omega))
  clear hb R9 G9 K9 F9 HR9 HRF HC
  go_wp2_with (refine wpList_store_mid rfl 27 _ _ rfl b2 0 (ndc (decV F)).toArray rfl rfl (Ga.out.there0 12 rfl) (size27' _) (all_oneCell_toArray (ndc_one _)) ?_)
  have hkb : Kp wa (wa.setCells b2 0 (ndc (decV F))) b2 b2 := (Kp.refl wa b2 b2).setCells b2 0 (.inl rfl) _
  exact bodyPost_ret_by (results_mid_tmp rfl _ _ b2 (ndc (decV F)) d27 rfl (Ga.out.stored (ndc (decV F)) rfl).range0 HU27.out HD27.out (size27 _)) rfl ⟨rfl, Ra.out.kp hkb N2.out N2.out, Ka.out.fresh hkb (by omega)⟩
end Go.Proofs.Ytdebkifnaiohcaa
