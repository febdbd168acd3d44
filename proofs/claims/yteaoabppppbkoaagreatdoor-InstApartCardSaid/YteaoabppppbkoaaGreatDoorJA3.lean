import Derived.Test.YteaoabppppbkoaaGreatDoorJA2
/- I12 -/
namespace Go.Proofs.YteaoabppppbkoaaGreatDoor
set_option linter.unusedSimpArgs false
set_option linter.unusedVariables false
open Go.RowKit Go.Maps

variable {ln : Lm}
theorem ladd_zero (v : Value) (a : Int) (w : World) : Calls Tryz.prog 199 #[v, .int .u16 0, .int .i64 a] w fun e w' => e = .returned (.int .i64 0) ∧ w' = w := by
  go_enter Tryz.func199, Tryz.ntmps199
  go_wp2
  go_ret
  exact ⟨rfl, rfl⟩
theorem Tryz.arr6u : Tryz.prog.underlying 75 = some (.array 6 36) := by kernel_rfl
theorem Tryz.isize6u : (Tryz.prog.info? 75).map (·.size) = some 6 := by kernel_rfl
def z6 : List Value := [.int .u16 0, .int .u16 0, .int .u16 0, .int .u16 0, .int .u16 0, .int .u16 0]
theorem nd_z6 {W : World} {b : Nat} {f : Nat → Int} (h : Vl W b (ndc f)) (hz : ∀ i, 4 ≤ i → i < 12 → f i = 0) : W.rangeAt b 4 z6 := fun j v hj => by
  have hj6 : j < 6 := (List.getElem?_eq_some_iff.1 hj).1
  have h4 := hz 4 (by decide) (by decide)
  have h5 := hz 5 (by decide) (by decide)
  have h6 := hz 6 (by decide) (by decide)
  have h7 := hz 7 (by decide) (by decide)
  have h8 := hz 8 (by decide) (by decide)
  have h9 := hz 9 (by decide) (by decide)
  have hj' : j = 0 ∨ j = 1 ∨ j = 2 ∨ j = 3 ∨ j = 4 ∨ j = 5 := by omega
  rcases hj' with rfl | rfl | rfl | rfl | rfl | rfl
  · exact h.c 4 v (by rw [← hj]; show some (Value.int .u16 (f 4)) = _; rw [h4]; rfl)
  · exact h.c 5 v (by rw [← hj]; show some (Value.int .u16 (f 5)) = _; rw [h5]; rfl)
  · exact h.c 6 v (by rw [← hj]; show some (Value.int .u16 (f 6)) = _; rw [h6]; rfl)
  · exact h.c 7 v (by rw [← hj]; show some (Value.int .u16 (f 7)) = _; rw [h7]; rfl)
  · exact h.c 8 v (by rw [← hj]; show some (Value.int .u16 (f 8)) = _; rw [h8]; rfl)
  · exact h.c 9 v (by rw [← hj]; show some (Value.int .u16 (f 9)) = _; rw [h9]; rfl)
theorem Tryz.idx6_0 (w : World) : (Instr.index 75 (.agg z6.toArray) (.int .i64 0)).run Tryz.prog w = .ok (.int .u16 0) w := by kernel_rfl
theorem Tryz.idx6_1 (w : World) : (Instr.index 75 (.agg z6.toArray) (.int .i64 1)).run Tryz.prog w = .ok (.int .u16 0) w := by kernel_rfl
theorem Tryz.idx6_2 (w : World) : (Instr.index 75 (.agg z6.toArray) (.int .i64 2)).run Tryz.prog w = .ok (.int .u16 0) w := by kernel_rfl
theorem Tryz.idx6_3 (w : World) : (Instr.index 75 (.agg z6.toArray) (.int .i64 3)).run Tryz.prog w = .ok (.int .u16 0) w := by kernel_rfl
theorem Tryz.idx6_4 (w : World) : (Instr.index 75 (.agg z6.toArray) (.int .i64 4)).run Tryz.prog w = .ok (.int .u16 0) w := by kernel_rfl
theorem Tryz.idx6_5 (w : World) : (Instr.index 75 (.agg z6.toArray) (.int .i64 5)).run Tryz.prog w = .ok (.int .u16 0) w := by kernel_rfl
set_option maxHeartbeats 20000000 in
set_option maxRecDepth 200000 in
theorem laddall_none (v : Value) (f : Nat → Int) (hz : ∀ i, 4 ≤ i → i < 12 → f i = 0) (w : World) : Calls Tryz.prog 180 #[v, .agg (ndc f).toArray] w fun e w' => e = .returned (.int .i64 0) ∧ Below w.heap.size w w' := by
  have HA := Lib.hid (fun a W => ladd_zero v a W)
  have HZ := Lib.hid hz
  have hA : Hid ((ndc f)[10]? = some (.int .u16 0) ∧ (ndc f)[11]? = some (.int .u16 0)) := Lib.hid ⟨by rw [← hz 10 (by decide) (by decide)]; rfl, by rw [← hz 11 (by decide) (by decide)]; rfl⟩
  clear hz
  go_enter Tryz.func180, Tryz.ntmps180
  go_upto_region 1 with (first | (refine wpList_box_list (w := w) rfl 77 _ rfl (ndc f) rfl ?_; intro w0 F0 hb0 hz0; have HQ0 := Lib.hid hb0; clear hb0 hz0))
  have HR := Lib.hid (nd_z6 F0.out HZ.out)
  have c10 := F0.out.c 10 _ hA.out.1
  have c11 := F0.out.c 11 _ hA.out.2
  go_wp2_with (refine wpList_load_mid rfl 75 _ rfl w.heap.size 4 rfl z6 (.array 6 36) HR.out Tryz.arr6u rfl Tryz.isize6u ?_)
  go_loopw [6, 7, 11] (fun _ _ iv wr => ∃ k : Nat, k ≤ 6 ∧ iv = .int .i64 k ∧ wr = w0) (fun _ _ iv _ => 6 - (Go.RowKit.intOf iv).toNat)
  case atStart => exact ⟨0, Nat.zero_le _, rfl, rfl⟩
  case round =>
    obtain ⟨k, hk, rfl, rfl⟩ := hrel
    have hk6 : k = 0 ∨ k = 1 ∨ k = 2 ∨ k = 3 ∨ k = 4 ∨ k = 5 ∨ k = 6 := by omega
    rcases hk6 with rfl | rfl | rfl | rfl | rfl | rfl | rfl
    · have hix := Tryz.idx6_0 wr
      go_wp2_with fail
      refine (HA.out 0 _).mono ?_
      rintro e wz ⟨rfl, hwz⟩
      rw [hwz]
      clear hwz
      go_wp2_with fail
      go_roundw
      case rel => exact ⟨1, by decide, by go_num, by trivial⟩
      case measure => decide
    · have hix := Tryz.idx6_1 wr
      go_wp2_with fail
      refine (HA.out 0 _).mono ?_
      rintro e wz ⟨rfl, hwz⟩
      rw [hwz]
      clear hwz
      go_wp2_with fail
      go_roundw
      case rel => exact ⟨2, by decide, by go_num, by trivial⟩
      case measure => decide
    · have hix := Tryz.idx6_2 wr
      go_wp2_with fail
      refine (HA.out 0 _).mono ?_
      rintro e wz ⟨rfl, hwz⟩
      rw [hwz]
      clear hwz
      go_wp2_with fail
      go_roundw
      case rel => exact ⟨3, by decide, by go_num, by trivial⟩
      case measure => decide
    · have hix := Tryz.idx6_3 wr
      go_wp2_with fail
      refine (HA.out 0 _).mono ?_
      rintro e wz ⟨rfl, hwz⟩
      rw [hwz]
      clear hwz
      go_wp2_with fail
      go_roundw
      case rel => exact ⟨4, by decide, by go_num, by trivial⟩
      case measure => decide
    · have hix := Tryz.idx6_4 wr
      go_wp2_with fail
      refine (HA.out 0 _).mono ?_
      rintro e wz ⟨rfl, hwz⟩
      rw [hwz]
      clear hwz
      go_wp2_with fail
      go_roundw
      case rel => exact ⟨5, by decide, by go_num, by trivial⟩
      case measure => decide
    · have hix := Tryz.idx6_5 wr
      go_wp2_with fail
      refine (HA.out 0 _).mono ?_
      rintro e wz ⟨rfl, hwz⟩
      rw [hwz]
      clear hwz
      go_wp2_with fail
      go_roundw
      case rel => exact ⟨6, by decide, by go_num, by trivial⟩
      case measure => decide
    · go_wp2_with fail
      refine (HA.out 1 _).mono ?_
      rintro e wz ⟨rfl, hwz⟩
      rw [hwz]
      clear hwz
      go_wp2_with fail
      refine (HA.out 2 _).mono ?_
      rintro e wz ⟨rfl, hwz⟩
      rw [hwz]
      clear hwz
      go_wp2_with fail
      go_ret
      exact ⟨rfl, HQ0.out⟩
theorem Tryz.zeroLs : (Tryz.prog.info? 304).map (fun i => i.zero) = some (some (.agg [.pointer none, .slice none 0 0, .slice none 0 0].toArray)) := by kernel_rfl
theorem Tryz.isizeLs : (Tryz.prog.info? 304).map (·.size) = some 3 := by kernel_rfl
theorem Tryz.buildLs (q : Nat) (w : World) : (Instr.build 304 #[(0, .pointer (some ⟨q, 0, none⟩))]).run Tryz.prog w = .ok (.agg [.pointer (some ⟨q, 0, none⟩), .slice none 0 0, .slice none 0 0].toArray) w := by kernel_rfl
theorem lsc_one (q : Nat) : ∀ v ∈ [Value.pointer (some ⟨q, 0, none⟩), .slice none 0 0, .slice none 0 0], v.oneCell' = true := by
  intro v hv
  simp only [List.mem_cons, List.not_mem_nil, or_false] at hv
  rcases hv with rfl | rfl | rfl <;> rfl
set_option maxHeartbeats 20000000 in
set_option maxRecDepth 200000 in
theorem blocks_none (q : Nat) (f : Nat → Int) (hz : ∀ i, 4 ≤ i → i < 12 → f i = 0) (w : World) : Calls Tryz.prog 150 #[.pointer (some ⟨q, 0, none⟩), .agg (ndc f).toArray] w fun e w' => e = .returned (.tuple #[.slice none 0 0, .slice none 0 0, .int .i64 0]) ∧ Below w.heap.size w w' := by
  obtain ⟨d27, hu27, hd27⟩ := Tryz.desc27
  have HU27 := Lib.hid hu27
  have HD27 := Lib.hid hd27
  have HA := Lib.hid (fun v W => laddall_none v f hz W)
  clear hu27 hd27 hz
  go_enter Tryz.func150, Tryz.ntmps150
  go_upto_region 4 with (first | (refine wpList_box_list (w := w) rfl 77 _ rfl (ndc f) rfl ?_; intro w0 F0 hb0 hz0; have HQ0 := Lib.hid hb0; have hs0 := hb0.size; clear hb0 hz0) | (refine wpList_yields (.agg [.pointer (some ⟨q, 0, none⟩), .slice none 0 0, .slice none 0 0].toArray) (yields_bld1 (by rfl) 304 0 _ rfl (.pointer (some ⟨q, 0, none⟩)) rfl _ (fun W => Tryz.buildLs q W)) ?_) | (refine wpList_alloc_list (w := w0) rfl 304 rfl [.pointer none, .slice none 0 0, .slice none 0 0] Tryz.zeroLs ?_; intro w1 F1 hb1 hz1; have HQ1 := Lib.hid hb1; clear hb1) | (refine wpList_store_list rfl 304 (.tmp 7) (.tmp 12) rfl w0.heap.size [.pointer none, .slice none 0 0, .slice none 0 0] [.pointer (some ⟨q, 0, none⟩), .slice none 0 0, .slice none 0 0] rfl rfl F1.out rfl Tryz.isizeLs (lsc_one q) ?_; intro w2 F2 HK2; clear F1))
  obtain ⟨bL, hbL⟩ : ∃ y, w0.heap.size = y := ⟨_, rfl⟩
  have hF0 := F0.out.lt
  have F02 := Lib.hid ((F0.out.keep HQ1.out).kp HK2.out (by omega) (by omega))
  have HB2 := Lib.hid ((HQ0.out.trans (HQ1.out.mono hs0)).trans (HK2.out.below hs0 hs0 (Nat.le_trans hs0 HQ1.out.size)))
  rw [hbL] at F2
  try rw [hbL]
  clear HQ1 HK2 HQ0 F0 hbL hz1 hF0
  have HRx := Lib.hid F02.out.range0
  go_wp2_with (refine wpList_load_mid rfl 77 _ rfl w.heap.size 0 rfl (ndc f) d27 HRx.out HU27.out HD27.out (size27 _) ?_)
  refine (HA.out _ w2).mono ?_
  rintro e w3 ⟨rfl, hb⟩
  have F3 := Lib.hid (F2.out.keep hb)
  have HB3 := Lib.hid (HB2.out.trans (hb.mono HB2.out.size))
  clear hb HA HRx F2 F02 HB2
  have c1 := F3.out.c 1 _ rfl
  have c2 := F3.out.c 2 _ rfl
  go_upto_region 7 with fail
  go_quiet (fail)
  go_wp2_with fail
  exact bodyPost_ret (v := .tuple #[.slice none 0 0, .slice none 0 0, .int .i64 0]) (by simp [results, Tryz.results150, go_sem]) rfl ⟨rfl, Cf.below_drewN' HB3.out _⟩
set_option maxHeartbeats 40000000 in
set_option maxRecDepth 2000000 in
/-- a file that has no blocks -/
theorem fremove_none (q p t m d gg lab B0 P0 M DA NB N K : Nat) (g : Cf.Ge) (Y V : Nat → Nat → Int) (num : Nat) (h1 : 1 ≤ num) (h2 : num ≤ M) (hk0 : ¬ V num 0 = 0) (hk4 : ¬ V num 0 = 4) (hz : ∀ i, 4 ≤ i → i < 12 → V num i = 0) (hT : Has ln (P0 + (num - 1) / 2)) (hI : Tab P0 M Y V) (hK : K < 190000000) (hg : GG g B0 P0 M DA NB N) (w : World) (h : Gr w q p t m d gg lab g B0 NB N ln Y K) :
    Calls Tryz.prog 121 #[.pointer (some ⟨q, 0, none⟩), .int .i64 num] w fun r w' => r = .returned (.int .i64 0) ∧ Gr w' q p t m d gg lab g B0 NB N ln (tabW P0 num (genN (V num 2)) Y) (K + 3) ∧ Kf w w' [t, m, d, gg] := by
  obtain ⟨d27, hu27, hd27⟩ := Tryz.desc27
  have HU27 := Lib.hid hu27
  have HD27 := Lib.hid hd27
  have HOp := Lib.hid (fun W hW => fopen_in (ln := ln) q p t m d gg lab B0 P0 M DA NB N K g Y V num h1 h2 hk0 (by omega) hI hg W hW)
  have HWi := Lib.hid (fun W hW => gwipe_in (ln := ln) q p t m d gg lab B0 P0 M DA NB N (K + 1) g Y V num h1 h2 hT (by omega) hI hg W hW)
  obtain ⟨Y1, hY1⟩ : ∃ Y1, tabW P0 num (genN (V num 2)) Y = Y1 := ⟨_, rfl⟩
  rw [hY1] at HWi ⊢
  obtain ⟨f, hf⟩ : ∃ f, V num = f := ⟨_, rfl⟩
  rw [hf] at HOp hk0 hk4 hz
  have HBl := Lib.hid (fun W => blocks_none q f hz W)
  have HG0 := Lib.hid h
  obtain ⟨k0, hkk⟩ : ∃ z, f 0 = z := ⟨_, rfl⟩
  rw [hkk] at hk4
  have e4 : (k0 == 4) = false := beq_eq_false_iff_ne.2 hk4
  have HC0 : Hid ((ndc f)[0]? = some (.int .u8 k0)) := Lib.hid (by rw [← hkk]; rfl)
  have h0lt : ∀ a ∈ [q, p, t, m, d, gg], a < w.heap.size := fun a ha => by
    obtain ⟨l1, l2, l3, l4, l5, l6⟩ := h.lts
    simp only [List.mem_cons, List.not_mem_nil, or_false] at ha
    rcases ha with rfl | rfl | rfl | rfl | rfl | rfl <;> assumption
  have H0 := Lib.hid h0lt
  clear hu27 hd27 hk0 hz hT hI hK hg h h0lt hY1 hf hkk hk4 h1 h2
  go_enter Tryz.func121, Tryz.ntmps121
  go_wp2_with fail
  refine (HOp.out w HG0.out).mono ?_
  rintro e w1 ⟨b, rfl, hb, hG, hVb, hk⟩
  have HG1 := Lib.hid hG
  have HK1 := Lib.hid hk
  have HRb := Lib.hid hVb.node
  clear hG hk hVb HOp HG0
  go_upto_region 5 with (first | (refine wpList_load_mid rfl 77 _ rfl b 1 rfl (ndc f) d27 HRb.out HU27.out HD27.out (size27 _) ?_) | (refine wpList_alloc_list (w := w1) rfl 77 rfl (ndc zpt) Tryz.zero27 ?_; intro w2 F2 hb2 hz2; have HQ2 := Lib.hid hb2; clear hb2) | (refine wpList_store_list rfl 77 (.tmp 7) (.tmp 25) rfl w1.heap.size (ndc zpt) (ndc f) rfl rfl F2.out rfl (size27 _) (ndc_one _) ?_; intro w3 F3 HK3; clear F2))
  obtain ⟨bN, hbN⟩ : ∃ y, w1.heap.size = y := ⟨_, rfl⟩
  have HG3 := Lib.hid ((HG1.out.keep HQ2.out).kp HK3.out (HG1.out.notin (Nat.le_refl _)))
  have HKa := Lib.hid ((HK1.out.more HQ2.out).new HK3.out HK1.out.size)
  rw [hbN] at F3
  try rw [hbN]
  clear HQ2 HK3 HG1 HK1 hbN hz2 HRb
  have c0 := F3.out.c 0 _ HC0.out
  have HRx := Lib.hid F3.out.range0
  go_wp2_with (refine wpList_load_mid rfl 77 _ rfl bN 0 rfl (ndc f) d27 HRx.out HU27.out HD27.out (size27 _) ?_)
  refine (HBl.out w3).mono ?_
  rintro e w4 ⟨rfl, hb⟩
  have HG4 := Lib.hid (HG3.out.keep hb)
  have HK4 := Lib.hid (HKa.out.more hb)
  clear hb HBl HG3 HKa HRx c0 F3
  go_wp2_with fail
  go_loopw [11, 12, 48] (fun _ _ iv wr => iv = .int .i64 0 ∧ wr = w4) (fun _ _ _ _ => 0)
  case atStart => exact ⟨rfl, rfl⟩
  case round =>
    obtain ⟨rfl, rfl⟩ := hrel
    go_wp2_with fail
    refine (HWi.out _ HG4.out).mono ?_
    rintro e w5 ⟨rfl, hG, hk⟩
    have HG5 := Lib.hid hG
    have HK5 := Lib.hid (HK4.out.trans hk)
    clear hG hk
    go_wp2_with fail
    go_ret
    exact ⟨rfl, HG5.out.mono (Lm.le_refl _) (by omega), HK5.out⟩
end Go.Proofs.YteaoabppppbkoaaGreatDoor
