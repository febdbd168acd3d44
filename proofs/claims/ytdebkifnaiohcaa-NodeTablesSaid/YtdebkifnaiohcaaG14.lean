import Derived.Test.YtdebkifnaiohcaaG13
/- The answer's bytes of a node. -/
namespace Go.Proofs.Ytdebkifnaiohcaa
set_option linter.unusedSimpArgs false
set_option linter.unusedVariables false
open Go.RowKit Go.Maps


theorem Try.info5i : ∃ i, Try.prog.info? 5 = some i ∧ i.zero = some (.int .u8 0) ∧ i.size = 1 ∧ i.bytes = 1 := by
  have h : (Try.prog.info? 5).map (fun i => (i.zero, i.size, i.bytes)) = some (some (.int .u8 0), 1, 1) := by kernel_rfl
  obtain ⟨i, hi, he⟩ := Option.map_eq_some_iff.1 h
  simp only [Prod.mk.injEq] at he
  exact ⟨i, hi, he.1, he.2.1, he.2.2⟩
def LK (f : Nat → Int) (k : Nat) : List Value := [.int .u8 (f 0), .int .u8 (f 1)] ++ twoL (f 2) ++ twoL (f 3 % 65536) ++ twoL (f 3 / 65536) ++ (List.range k).flatMap (fun i => twoL (f (4 + i)))
theorem LK_zero (f : Nat → Int) : LK f 0 = [.int .u8 (f 0), .int .u8 (f 1)] ++ twoL (f 2) ++ twoL (f 3 % 65536) ++ twoL (f 3 / 65536) := by simp [LK]
theorem LK_succ (f : Nat → Int) (k : Nat) : LK f k ++ twoL (f (4 + k)) = LK f (k + 1) := by simp [LK, List.range_succ]
theorem LK_end (f : Nat → Int) (h : 0 ≤ f 3 ∧ f 3 < 4294967296) : LK f 6 ++ twoL (f 10) ++ twoL (f 11) ++ (Builtin.zeroCells (Value.int .u8 0).cells 8).toList = byts 32 (encF f) := by
  have e0 : dig (f 3 % 65536) 0 = dig (f 3) 0 := by unfold dig; simp
  have e1 : dig (f 3 % 65536) 1 = dig (f 3) 1 := by unfold dig; simp; omega
  have e2 : dig (f 3 / 65536) 0 = dig (f 3) 2 := by unfold dig; simp
  have e3 : dig (f 3 / 65536) 1 = dig (f 3) 3 := by unfold dig; simp; omega
  have hz : (Builtin.zeroCells (Value.int .u8 0).cells 8).toList = [.int .u8 0, .int .u8 0, .int .u8 0, .int .u8 0, .int .u8 0, .int .u8 0, .int .u8 0, .int .u8 0] := by kernel_rfl
  rw [hz]
  unfold LK twoL
  rw [e0, e1, e2, e3]
  rfl
theorem own_two (w : World) (B : Nat) (hB : B ≤ w.heap.size) (x y : Value) : (w.alloc (.cells #[x, y] 5)).ownsRow B 5 1 (.slice (some ⟨w.heap.size, 0, none⟩) 2 2) 2 [x, y] :=
  ⟨rfl, .inr ⟨w.heap.size, 2, #[x, y], rfl, hB, heap_alloc_new w _, Nat.le_refl _, by unfold maxLen; omega, rfl, rfl⟩⟩
set_option maxHeartbeats 40000000 in
set_option maxRecDepth 100000 in
theorem rencode_any (f : Nat → Int) (hf : NdOk f) (w : World) : Calls Try.prog 11 #[.agg (ndc f).toArray] w fun e w' => ∃ g cap, e = .returned (.slice (some ⟨g, 0, none⟩) 32 cap) ∧ w.heap.size ≤ g ∧ g < w'.heap.size ∧ (∀ j, j < 32 → w'.cell? ⟨g, j, none⟩ = some (.int .u8 (encF f j))) ∧ Below w.heap.size w w' := by
  obtain ⟨i5, hi, hz, hs, hby⟩ := Try.info5i
  have HI := Lib.hid hi
  have HZ := Lib.hid hz
  have HS := Lib.hid hs
  have HY := Lib.hid hby
  obtain ⟨g0, g1⟩ := hf.g
  obtain ⟨s0, s1⟩ := hf.s
  have HP := Lib.hid hf.p
  have HE := Lib.hid (LK_end f hf.s)
  have hlo : (f 3).tmod 65536 = f 3 % 65536 := Int.tmod_eq_emod_of_nonneg s0
  have hlo0 : 0 ≤ f 3 % 65536 ∧ f 3 % 65536 < 65536 := by omega
  have hhi0 : 0 ≤ f 3 / 65536 ∧ f 3 / 65536 < 65536 := by omega
  obtain ⟨lo, hlo'⟩ : ∃ x, f 3 % 65536 = x := ⟨_, rfl⟩
  obtain ⟨hi', hhi'⟩ : ∃ x, f 3 / 65536 = x := ⟨_, rfl⟩
  have hhi : (f 3).tdiv 65536 = hi' := by rw [Int.tdiv_eq_ediv_of_nonneg s0, hhi']
  have hw32 : IntKind.u32.wrap hi' = hi' := u32_in _ (by omega) (by omega)
  have hw16 : IntKind.u16.wrap hi' = hi' := by simp [IntKind.wrap, IntKind.bits, IntKind.signed]; omega
  have hwlo : IntKind.u16.wrap lo = lo := by simp [IntKind.wrap, IntKind.bits, IntKind.signed]; omega
  rw [hlo'] at hlo hlo0
  rw [hhi'] at hhi0
  obtain ⟨lo0, lo1⟩ := hlo0
  obtain ⟨hi0, hi1⟩ := hhi0
  have HL0 : Hid ([.int .u8 (f 0), .int .u8 (f 1)] ++ twoL (f 2) ++ twoL lo ++ twoL hi' = LK f 0) := by rw [← hlo', ← hhi']; exact (LK_zero f).symm
  clear hi hz hs hby hf hlo' hhi'
  go_enter Try.func11, Try.ntmps11
  go_upto_region 1 with (refine wpList_box_list (w := w) rfl 27 _ rfl (ndc f) rfl ?_; intro w1 F1 hb1 hz1; have HB1 := Lib.hid hb1; have hq1 : w.heap.size < w1.heap.size := (by omega); clear hb1 hz1)
  obtain ⟨b1, hb1⟩ : ∃ b, w.heap.size = b := ⟨_, rfl⟩
  rw [hb1] at F1 HB1 hq1
  have HW := Lib.hid hb1
  try rw [hb1]
  clear hb1
  have hbw : b1 ≤ w.heap.size := Nat.le_of_eq HW.out.symm
  have c0 := F1.out.c 0 _ rfl
  have c1 := F1.out.c 1 _ rfl
  go_upto_region 2 with fail
  obtain ⟨b2, hb2⟩ : ∃ b, w1.heap.size = b := ⟨_, rfl⟩
  have O1 := Lib.hid (own_two w1 b2 (by omega) (.int .u8 (f 0)) (.int .u8 (f 1)))
  have V1 := Lib.hid (F1.out.keep ((Below.refl w1.heap.size w1).alloc (Nat.le_refl _) (.cells #[.int .u8 (f 0), .int .u8 (f 1)] 5)))
  have B1 := Lib.hid (HB1.out.alloc (by have := HB1.out.size; omega) (.cells #[.int .u8 (f 0), .int .u8 (f 1)] 5))
  have hq2 : b2 < (w1.alloc (.cells #[.int .u8 (f 0), .int .u8 (f 1)] 5)).heap.size := by rw [← hb2]; simp
  obtain ⟨w2, hw⟩ : ∃ x, w1.alloc (.cells #[.int .u8 (f 0), .int .u8 (f 1)] 5) = x := ⟨_, rfl⟩
  rw [hw] at O1 V1 B1 hq2
  rw [hb2] at hq1
  obtain ⟨v1, hv1⟩ : ∃ v, Value.slice (some ⟨w1.heap.size, 0, none⟩) 2 2 = v := ⟨_, rfl⟩
  rw [hv1] at O1
  try rw [hw]
  try rw [hv1]
  clear hw hv1 hb2 c0 c1 F1 HB1
  have cc := V1.out.c 2 _ rfl
  go_wp2_with fail
  refine (two_any (f 2) g0 g1 w2).mono ?_
  rintro e w3 ⟨g2, rfl, hcl, hb⟩
  have OO := Lib.hid (own_below O1.out hb)
  have VV := Lib.hid (V1.out.keep hb)
  have BB := Lib.hid (B1.out.trans (hb.mono (by have := B1.out.size; omega)))
  have HCL := Lib.hid hcl
  have hsz := hb.size
  clear cc hcl hb O1 V1 B1
  go_upto_region 3 with (at_builtin; refine wpList_append_own _ rfl (.tmp 10) (.tmp 13) 34 rfl b2 5 i5 _ 1 1 Try.underlying34 HI.out HZ.out HS.out HY.out rfl (by decide) _ _ _ rfl OO.out ⟨g2, 0, none⟩ 2 2 (twoL (f 2)) rfl rfl HCL.out (twoL_one _) (by unfold maxLen; omega) (by omega) (by omega) ?_; intro v2 w3' hown hg _; have O2 := Lib.hid hown; have hbg : Below b2 w3 w3' := Below.of_grown hg (by omega) (fun k hk => (OO.out.lt k hk).1); have V2 := Lib.hid (VV.out.below hbg (by omega)); have B2 := Lib.hid (BB.out.trans (hbg.mono (by omega))); have hsz' := hbg.size; clear hown hg hbg)
  clear OO VV BB HCL
  have cc := V2.out.c 3 _ rfl
  go_wp2_with fail
  refine (two_any lo lo0 lo1 w3').mono ?_
  rintro e w4 ⟨g3, rfl, hcl, hb⟩
  have OO := Lib.hid (own_below O2.out hb)
  have VV := Lib.hid (V2.out.keep hb)
  have BB := Lib.hid (B2.out.trans (hb.mono (by have := B2.out.size; omega)))
  have HCL := Lib.hid hcl
  have hsz := hb.size
  clear cc hcl hb O2 V2 B2
  go_upto_region 4 with (at_builtin; refine wpList_append_own _ rfl (.tmp 15) (.tmp 20) 34 rfl b2 5 i5 _ 1 1 Try.underlying34 HI.out HZ.out HS.out HY.out rfl (by decide) _ _ _ rfl OO.out ⟨g3, 0, none⟩ 2 2 (twoL lo) rfl rfl HCL.out (twoL_one _) (by unfold maxLen; omega) (by omega) (by omega) ?_; intro v3 w4' hown hg _; have O3 := Lib.hid hown; have hbg : Below b2 w4 w4' := Below.of_grown hg (by omega) (fun k hk => (OO.out.lt k hk).1); have V3 := Lib.hid (VV.out.below hbg (by omega)); have B3 := Lib.hid (BB.out.trans (hbg.mono (by omega))); have hsz' := hbg.size; clear hown hg hbg)
  clear OO VV BB HCL
  have cc := V3.out.c 3 _ rfl
  go_wp2_with fail
  refine (two_any hi' hi0 hi1 w4').mono ?_
  rintro e w5 ⟨g4, rfl, hcl, hb⟩
  have OO := Lib.hid (own_below O3.out hb)
  have VV := Lib.hid (V3.out.keep hb)
  have BB := Lib.hid (B3.out.trans (hb.mono (by have := B3.out.size; omega)))
  have HCL := Lib.hid hcl
  have hsz := hb.size
  clear cc hcl hb O3 V3 B3
  go_upto_region 5 with (at_builtin; refine wpList_append_own _ rfl (.tmp 22) (.tmp 27) 34 rfl b2 5 i5 _ 1 1 Try.underlying34 HI.out HZ.out HS.out HY.out rfl (by decide) _ _ _ rfl OO.out ⟨g4, 0, none⟩ 2 2 (twoL hi') rfl rfl HCL.out (twoL_one _) (by unfold maxLen; omega) (by omega) (by omega) ?_; intro v4 w5' hown hg _; have O4 := Lib.hid hown; have hbg : Below b2 w5 w5' := Below.of_grown hg (by omega) (fun k hk => (OO.out.lt k hk).1); have V4 := Lib.hid (VV.out.below hbg (by omega)); have B4 := Lib.hid (BB.out.trans (hbg.mono (by omega))); have hsz' := hbg.size; clear hown hg hbg)
  clear OO VV BB HCL
  rw [HL0.out] at O4
  have hq4 : b2 < w5'.heap.size := by omega
  clear HL0 hw32 hw16 hwlo hlo hhi
  go_wp2_with fail
  go_loopw [3, 4] (fun v i wr => ∃ k : Nat, k ≤ 6 ∧ i = .int .i64 k ∧ wr.ownsRow b2 5 1 v (8 + 2 * k) (LK f k) ∧ Vl wr b1 (ndc f) ∧ Below b1 w wr ∧ b2 < wr.heap.size) (fun _ i _ => 6 - (Go.RowKit.intOf i).toNat)
  case atStart => exact ⟨0, by omega, rfl, O4.out, V4.out, B4.out, hq4⟩
  case round =>
    obtain ⟨k, hk, rfl, hO, hV, hB, hq⟩ := hrel
    have OK := Lib.hid hO
    have VK := Lib.hid hV
    have BK := Lib.hid hB
    clear hO hV hB O4 V4 B4
    by_cases hlt : k < 6
    · have hk6 : k = 0 ∨ k = 1 ∨ k = 2 ∨ k = 3 ∨ k = 4 ∨ k = 5 := by omega
      rcases hk6 with rfl | rfl | rfl | rfl | rfl | rfl
      · have cc := VK.out.c 4 _ rfl
        obtain ⟨x, hx⟩ : ∃ x, f 4 = x := ⟨_, rfl⟩
        obtain ⟨hx0, hx1⟩ : 0 ≤ x ∧ x < 65536 := by rw [← hx]; exact HP.out 4 (by decide) (by decide)
        rw [hx] at cc
        have HX := Lib.hid hx
        clear hx
        go_wp2_with fail
        refine (two_any x hx0 hx1 wr).mono ?_
        rintro e wn ⟨gn, rfl, hcl, hb⟩
        have OO := Lib.hid (own_below OK.out hb)
        have VV := Lib.hid (VK.out.keep hb)
        have BB := Lib.hid (BK.out.trans (hb.mono (by omega)))
        have HCL := Lib.hid hcl
        have hsz := hb.size
        clear cc hcl hb OK VK BK
        go_wp2_with (at_builtin; refine wpList_append_own _ rfl (.tmp 33) (.tmp 38) 34 rfl b2 5 i5 _ 1 1 Try.underlying34 HI.out HZ.out HS.out HY.out rfl (by decide) _ _ _ rfl OO.out ⟨gn, 0, none⟩ 2 2 (twoL x) rfl rfl HCL.out (twoL_one _) (by unfold maxLen; omega) (by omega) (by omega) ?_; intro vn wn' hown hg _; have hL : LK f 0 ++ twoL x = LK f 1 := (by rw [← HX.out]; exact LK_succ f 0); rw [hL] at hown; have ON := Lib.hid hown; have hbg : Below b2 wn wn' := Below.of_grown hg (by omega) (fun k hk => (OO.out.lt k hk).1); have VN := Lib.hid (VV.out.below hbg (by omega)); have BN := Lib.hid (BB.out.trans (hbg.mono (by omega))); have hsz' := hbg.size; have hqn : b2 < wn'.heap.size := (by omega); clear hown hg hbg hL OO VV BB HCL)
        go_roundw
        case rel => exact ⟨1, by decide, rfl, ON.out, VN.out, BN.out, hqn⟩
        case measure => simp [Go.RowKit.intOf]
      · have cc := VK.out.c 5 _ rfl
        obtain ⟨x, hx⟩ : ∃ x, f 5 = x := ⟨_, rfl⟩
        obtain ⟨hx0, hx1⟩ : 0 ≤ x ∧ x < 65536 := by rw [← hx]; exact HP.out 5 (by decide) (by decide)
        rw [hx] at cc
        have HX := Lib.hid hx
        clear hx
        go_wp2_with fail
        refine (two_any x hx0 hx1 wr).mono ?_
        rintro e wn ⟨gn, rfl, hcl, hb⟩
        have OO := Lib.hid (own_below OK.out hb)
        have VV := Lib.hid (VK.out.keep hb)
        have BB := Lib.hid (BK.out.trans (hb.mono (by omega)))
        have HCL := Lib.hid hcl
        have hsz := hb.size
        clear cc hcl hb OK VK BK
        go_wp2_with (at_builtin; refine wpList_append_own _ rfl (.tmp 33) (.tmp 38) 34 rfl b2 5 i5 _ 1 1 Try.underlying34 HI.out HZ.out HS.out HY.out rfl (by decide) _ _ _ rfl OO.out ⟨gn, 0, none⟩ 2 2 (twoL x) rfl rfl HCL.out (twoL_one _) (by unfold maxLen; omega) (by omega) (by omega) ?_; intro vn wn' hown hg _; have hL : LK f 1 ++ twoL x = LK f 2 := (by rw [← HX.out]; exact LK_succ f 1); rw [hL] at hown; have ON := Lib.hid hown; have hbg : Below b2 wn wn' := Below.of_grown hg (by omega) (fun k hk => (OO.out.lt k hk).1); have VN := Lib.hid (VV.out.below hbg (by omega)); have BN := Lib.hid (BB.out.trans (hbg.mono (by omega))); have hsz' := hbg.size; have hqn : b2 < wn'.heap.size := (by omega); clear hown hg hbg hL OO VV BB HCL)
        go_roundw
        case rel => exact ⟨2, by decide, rfl, ON.out, VN.out, BN.out, hqn⟩
        case measure => simp [Go.RowKit.intOf]
      · have cc := VK.out.c 6 _ rfl
        obtain ⟨x, hx⟩ : ∃ x, f 6 = x := ⟨_, rfl⟩
        obtain ⟨hx0, hx1⟩ : 0 ≤ x ∧ x < 65536 := by rw [← hx]; exact HP.out 6 (by decide) (by decide)
        rw [hx] at cc
        have HX := Lib.hid hx
        clear hx
        go_wp2_with fail
        refine (two_any x hx0 hx1 wr).mono ?_
        rintro e wn ⟨gn, rfl, hcl, hb⟩
        have OO := Lib.hid (own_below OK.out hb)
        have VV := Lib.hid (VK.out.keep hb)
        have BB := Lib.hid (BK.out.trans (hb.mono (by omega)))
        have HCL := Lib.hid hcl
        have hsz := hb.size
        clear cc hcl hb OK VK BK
        go_wp2_with (at_builtin; refine wpList_append_own _ rfl (.tmp 33) (.tmp 38) 34 rfl b2 5 i5 _ 1 1 Try.underlying34 HI.out HZ.out HS.out HY.out rfl (by decide) _ _ _ rfl OO.out ⟨gn, 0, none⟩ 2 2 (twoL x) rfl rfl HCL.out (twoL_one _) (by unfold maxLen; omega) (by omega) (by omega) ?_; intro vn wn' hown hg _; have hL : LK f 2 ++ twoL x = LK f 3 := (by rw [← HX.out]; exact LK_succ f 2); rw [hL] at hown; have ON := Lib.hid hown; have hbg : Below b2 wn wn' := Below.of_grown hg (by omega) (fun k hk => (OO.out.lt k hk).1); have VN := Lib.hid (VV.out.below hbg (by omega)); have BN := Lib.hid (BB.out.trans (hbg.mono (by omega))); have hsz' := hbg.size; have hqn : b2 < wn'.heap.size := (by omega); clear hown hg hbg hL OO VV BB HCL)
        go_roundw
        case rel => exact ⟨3, by decide, rfl, ON.out, VN.out, BN.out, hqn⟩
        case measure => simp [Go.RowKit.intOf]
      · have cc := VK.out.c 7 _ rfl
        obtain ⟨x, hx⟩ : ∃ x, f 7 = x := ⟨_, rfl⟩
        obtain ⟨hx0, hx1⟩ : 0 ≤ x ∧ x < 65536 := by rw [← hx]; exact HP.out 7 (by decide) (by decide)
        rw [hx] at cc
        have HX := Lib.hid hx
        clear hx
        go_wp2_with fail
        refine (two_any x hx0 hx1 wr).mono ?_
        rintro e wn ⟨gn, rfl, hcl, hb⟩
        have OO := Lib.hid (own_below OK.out hb)
        have VV := Lib.hid (VK.out.keep hb)
        have BB := Lib.hid (BK.out.trans (hb.mono (by omega)))
        have HCL := Lib.hid hcl
        have hsz := hb.size
        clear cc hcl hb OK VK BK
        go_wp2_with (at_builtin; refine wpList_append_own _ rfl (.tmp 33) (.tmp 38) 34 rfl b2 5 i5 _ 1 1 Try.underlying34 HI.out HZ.out HS.out HY.out rfl (by decide) _ _ _ rfl OO.out ⟨gn, 0, none⟩ 2 2 (twoL x) rfl rfl HCL.out (twoL_one _) (by unfold maxLen; omega) (by omega) (by omega) ?_; intro vn wn' hown hg _; have hL : LK f 3 ++ twoL x = LK f 4 := (by rw [← HX.out]; exact LK_succ f 3); rw [hL] at hown; have ON := Lib.hid hown; have hbg : Below b2 wn wn' := Below.of_grown hg (by omega) (fun k hk => (OO.out.lt k hk).1); have VN := Lib.hid (VV.out.below hbg (by omega)); have BN := Lib.hid (BB.out.trans (hbg.mono (by omega))); have hsz' := hbg.size; have hqn : b2 < wn'.heap.size := (by omega); clear hown hg hbg hL OO VV BB HCL)
        go_roundw
        case rel => exact ⟨4, by decide, rfl, ON.out, VN.out, BN.out, hqn⟩
        case measure => simp [Go.RowKit.intOf]
      · have cc := VK.out.c 8 _ rfl
        obtain ⟨x, hx⟩ : ∃ x, f 8 = x := ⟨_, rfl⟩
        obtain ⟨hx0, hx1⟩ : 0 ≤ x ∧ x < 65536 := by rw [← hx]; exact HP.out 8 (by decide) (by decide)
        rw [hx] at cc
        have HX := Lib.hid hx
        clear hx
        go_wp2_with fail
        refine (two_any x hx0 hx1 wr).mono ?_
        rintro e wn ⟨gn, rfl, hcl, hb⟩
        have OO := Lib.hid (own_below OK.out hb)
        have VV := Lib.hid (VK.out.keep hb)
        have BB := Lib.hid (BK.out.trans (hb.mono (by omega)))
        have HCL := Lib.hid hcl
        have hsz := hb.size
        clear cc hcl hb OK VK BK
        go_wp2_with (at_builtin; refine wpList_append_own _ rfl (.tmp 33) (.tmp 38) 34 rfl b2 5 i5 _ 1 1 Try.underlying34 HI.out HZ.out HS.out HY.out rfl (by decide) _ _ _ rfl OO.out ⟨gn, 0, none⟩ 2 2 (twoL x) rfl rfl HCL.out (twoL_one _) (by unfold maxLen; omega) (by omega) (by omega) ?_; intro vn wn' hown hg _; have hL : LK f 4 ++ twoL x = LK f 5 := (by rw [← HX.out]; exact LK_succ f 4); rw [hL] at hown; have ON := Lib.hid hown; have hbg : Below b2 wn wn' := Below.of_grown hg (by omega) (fun k hk => (OO.out.lt k hk).1); have VN := Lib.hid (VV.out.below hbg (by omega)); have BN := Lib.hid (BB.out.trans (hbg.mono (by omega))); have hsz' := hbg.size; have hqn : b2 < wn'.heap.size := (by omega); clear hown hg hbg hL OO VV BB HCL)
        go_roundw
        case rel => exact ⟨5, by decide, rfl, ON.out, VN.out, BN.out, hqn⟩
        case measure => simp [Go.RowKit.intOf]
      · have cc := VK.out.c 9 _ rfl
        obtain ⟨x, hx⟩ : ∃ x, f 9 = x := ⟨_, rfl⟩
        obtain ⟨hx0, hx1⟩ : 0 ≤ x ∧ x < 65536 := by rw [← hx]; exact HP.out 9 (by decide) (by decide)
        rw [hx] at cc
        have HX := Lib.hid hx
        clear hx
        go_wp2_with fail
        refine (two_any x hx0 hx1 wr).mono ?_
        rintro e wn ⟨gn, rfl, hcl, hb⟩
        have OO := Lib.hid (own_below OK.out hb)
        have VV := Lib.hid (VK.out.keep hb)
        have BB := Lib.hid (BK.out.trans (hb.mono (by omega)))
        have HCL := Lib.hid hcl
        have hsz := hb.size
        clear cc hcl hb OK VK BK
        go_wp2_with (at_builtin; refine wpList_append_own _ rfl (.tmp 33) (.tmp 38) 34 rfl b2 5 i5 _ 1 1 Try.underlying34 HI.out HZ.out HS.out HY.out rfl (by decide) _ _ _ rfl OO.out ⟨gn, 0, none⟩ 2 2 (twoL x) rfl rfl HCL.out (twoL_one _) (by unfold maxLen; omega) (by omega) (by omega) ?_; intro vn wn' hown hg _; have hL : LK f 5 ++ twoL x = LK f 6 := (by rw [← HX.out]; exact LK_succ f 5); rw [hL] at hown; have ON := Lib.hid hown; have hbg : Below b2 wn wn' := Below.of_grown hg (by omega) (fun k hk => (OO.out.lt k hk).1); have VN := Lib.hid (VV.out.below hbg (by omega)); have BN := Lib.hid (BB.out.trans (hbg.mono (by omega))); have hsz' := hbg.size; have hqn : b2 < wn'.heap.size := (by omega); clear hown hg hbg hL OO VV BB HCL)
        go_roundw
        case rel => exact ⟨6, by decide, rfl, ON.out, VN.out, BN.out, hqn⟩
        case measure => simp [Go.RowKit.intOf]
    · obtain rfl : k = 6 := by omega
      obtain ⟨w6, rfl⟩ : ∃ x, x = wr := ⟨wr, rfl⟩
      go_upto_region 9 with fail
      obtain ⟨x10, hx10⟩ : ∃ x, f 10 = x := ⟨_, rfl⟩
      obtain ⟨x11, hx11⟩ : ∃ x, f 11 = x := ⟨_, rfl⟩
      obtain ⟨a0, a1⟩ : 0 ≤ x10 ∧ x10 < 65536 := by rw [← hx10]; exact HP.out 10 (by decide) (by decide)
      obtain ⟨d0, d1⟩ : 0 ≤ x11 ∧ x11 < 65536 := by rw [← hx11]; exact HP.out 11 (by decide) (by decide)
      have HE' := HE
      rw [hx10, hx11] at HE'
      have HX10 := Lib.hid hx10
      have HX11 := Lib.hid hx11
      clear hx10 hx11 HE
      refine wp_region_held (S := fun W => Vl W b1 (ndc f)) (by kernel_rfl) ?_
      change wpAnyH _ _ _ _ _ _ _ _ (World.drew w6)
      have hS0 : Vl w6.drew b1 (ndc f) := VK.out.keep (Below.refl w6.heap.size w6).drew
      have HO0 := Lib.hid (own_below OK.out (Below.refl w6.heap.size w6).drew)
      have HB0 := Lib.hid BK.out.drew
      have hq0 : b2 < w6.drew.heap.size := hq
      obtain ⟨w7, hw⟩ : ∃ x, World.drew w6 = x := ⟨_, rfl⟩
      rw [hw] at hS0 HO0 HB0 hq0 ⊢
      clear hw OK VK BK hq
      refine wpAnyH_take (i := 0) (v := ?_) rfl (by kernel_rfl) (by kernel_rfl) (by kernel_rfl) (fun _ _ _ h => h) (Or.inl ⟨by rfl, ?_⟩) hS0 ?_
      rotate_left 1
      · intro W hW
        go_simp
        try with_reducible rfl
      simp only [Act.put, List.getElem_toArray, List.getElem_cons_zero, List.getElem_cons_succ, List.setIfInBounds_toArray, List.set_cons_zero, List.set_cons_succ]
      refine wpAnyH_take (i := 1) (v := ?_) rfl (by kernel_rfl) (by kernel_rfl) (by kernel_rfl) (fun _ _ _ h => h) (Or.inl ⟨by rfl, ?_⟩) hS0 ?_
      rotate_left 1
      · intro W hW
        go_simp
        try with_reducible rfl
      simp only [Act.put, List.getElem_toArray, List.getElem_cons_zero, List.getElem_cons_succ, List.setIfInBounds_toArray, List.set_cons_zero, List.set_cons_succ]
      refine wpAnyH_take (i := 2) (v := ?_) rfl (by kernel_rfl) (by kernel_rfl) (by kernel_rfl) (fun _ _ _ h => h) (Or.inl ⟨by rfl, ?_⟩) hS0 ?_
      rotate_left 1
      · intro W hW
        have c10 := hW.c 10 _ rfl
        rw [HX10.out] at c10
        go_simp
        try with_reducible rfl
      simp only [Act.put, List.getElem_toArray, List.getElem_cons_zero, List.getElem_cons_succ, List.setIfInBounds_toArray, List.set_cons_zero, List.set_cons_succ]
      refine wpAnyH_take (i := 5) (v := ?_) rfl (by kernel_rfl) (by kernel_rfl) (by kernel_rfl) (fun _ _ _ h => h) (Or.inl ⟨by rfl, ?_⟩) hS0 ?_
      rotate_left 1
      · intro W hW
        go_simp
        try with_reducible rfl
      simp only [Act.put, List.getElem_toArray, List.getElem_cons_zero, List.getElem_cons_succ, List.setIfInBounds_toArray, List.set_cons_zero, List.set_cons_succ]
      refine wpAnyH_take (i := 6) (v := ?_) rfl (by kernel_rfl) (by kernel_rfl) (by kernel_rfl) (fun _ _ _ h => h) (Or.inl ⟨by rfl, ?_⟩) hS0 ?_
      rotate_left 1
      · intro W hW
        have c11 := hW.c 11 _ rfl
        rw [HX11.out] at c11
        go_simp
        try with_reducible rfl
      simp only [Act.put, List.getElem_toArray, List.getElem_cons_zero, List.getElem_cons_succ, List.setIfInBounds_toArray, List.set_cons_zero, List.set_cons_succ]
      refine wpAnyH_ready (rs := [3]) (by kernel_rfl) (by simp) (AllReadyH.cons rfl (fun KK hKK => ?_) AllReadyH.nil)
      go_simp
      refine (two_any x10 a0 a1 w7).mono ?_
      rintro e w8 ⟨gp, rfl, hcl, hb⟩
      have HO0c := Lib.hid (own_below HO0.out hb)
      have HBp := Lib.hid (HB0.out.trans (hb.mono (by omega)))
      have HCp := Lib.hid hcl
      have hS1 : Vl w8 b1 (ndc f) := hS0.keep hb
      have hqp : b2 < w8.heap.size := (by have := hb.size; omega)
      clear hS0 hcl hb HO0 HB0
      have hS0 := hS1
      clear hS1
      refine hKK _ _ hS0 ?_
      intro _
      clear hKK KK
      try simp only [Act.put, List.getElem_toArray, List.getElem_cons_zero, List.getElem_cons_succ, List.setIfInBounds_toArray, List.set_cons_zero, List.set_cons_succ]
      refine wpAnyH_ready (rs := [4]) (by kernel_rfl) (by simp) (AllReadyH.cons rfl (fun KK hKK => ?_) AllReadyH.nil)
      refine step_append_own rfl (.tmp 40) (.tmp 43) 34 rfl b2 5 i5 _ 1 1 Try.underlying34 HI.out HZ.out HS.out HY.out rfl (by decide) _ _ _ rfl HO0c.out ⟨gp, 0, none⟩ 2 2 (twoL x10) rfl rfl HCp.out (twoL_one _) (by unfold maxLen; omega) (by omega) (by omega) ?_
      intro vq w9 hown hg _
      have HOq := Lib.hid hown
      have hbg : Below b2 w8 w9 := Below.of_grown hg (by omega) (fun k hk => (HO0c.out.lt k hk).1)
      have hS1 : Vl w9 b1 (ndc f) := hS0.below hbg (by omega)
      have HBq := Lib.hid (HBp.out.trans (hbg.mono (by omega)))
      have hqq : b2 < w9.heap.size := (by have := hbg.size; omega)
      clear hS0 hown hg hbg HO0c HCp HBp
      have hS0 := hS1
      clear hS1
      refine hKK _ _ hS0 ?_
      intro _
      clear hKK KK
      try simp only [Act.put, List.getElem_toArray, List.getElem_cons_zero, List.getElem_cons_succ, List.setIfInBounds_toArray, List.set_cons_zero, List.set_cons_succ]
      refine wpAnyH_ready (rs := [7]) (by kernel_rfl) (by simp) (AllReadyH.cons rfl (fun KK hKK => ?_) AllReadyH.nil)
      go_simp
      refine (two_any x11 d0 d1 w9).mono ?_
      rintro e w10 ⟨gr, rfl, hcl, hb⟩
      have HOqc := Lib.hid (own_below HOq.out hb)
      have HBr := Lib.hid (HBq.out.trans (hb.mono (by omega)))
      have HCr := Lib.hid hcl
      have hS1 : Vl w10 b1 (ndc f) := hS0.keep hb
      have hqr : b2 < w10.heap.size := (by have := hb.size; omega)
      clear hS0 hcl hb HOq HBq
      have hS0 := hS1
      clear hS1
      refine hKK _ _ hS0 ?_
      intro _
      clear hKK KK
      try simp only [Act.put, List.getElem_toArray, List.getElem_cons_zero, List.getElem_cons_succ, List.setIfInBounds_toArray, List.set_cons_zero, List.set_cons_succ]
      refine wpAnyH_ready (rs := [8]) (by kernel_rfl) (by simp) (AllReadyH.cons rfl (fun KK hKK => ?_) AllReadyH.nil)
      refine step_append_own rfl (.tmp 44) (.tmp 47) 34 rfl b2 5 i5 _ 1 1 Try.underlying34 HI.out HZ.out HS.out HY.out rfl (by decide) _ _ _ rfl HOqc.out ⟨gr, 0, none⟩ 2 2 (twoL x11) rfl rfl HCr.out (twoL_one _) (by unfold maxLen; omega) (by omega) (by omega) ?_
      intro vs w11 hown hg _
      have HOs := Lib.hid hown
      have hbg : Below b2 w10 w11 := Below.of_grown hg (by omega) (fun k hk => (HOqc.out.lt k hk).1)
      have hS1 : Vl w11 b1 (ndc f) := hS0.below hbg (by omega)
      have HBs := Lib.hid (HBr.out.trans (hbg.mono (by omega)))
      have hqs : b2 < w11.heap.size := (by have := hbg.size; omega)
      clear hS0 hown hg hbg HOqc HCr HBr
      have hS0 := hS1
      clear hS1
      refine hKK _ _ hS0 ?_
      intro _
      clear hKK KK
      try simp only [Act.put, List.getElem_toArray, List.getElem_cons_zero, List.getElem_cons_succ, List.setIfInBounds_toArray, List.set_cons_zero, List.set_cons_succ]
      refine wpAnyH_take (i := 9) (v := ?_) rfl (by kernel_rfl) (by kernel_rfl) (by kernel_rfl) (fun _ _ _ h => h) (Or.inl ⟨by rfl, ?_⟩) hS0 ?_
      rotate_left 1
      · intro W hW
        go_simp
        try with_reducible rfl
      simp only [Act.put, List.getElem_toArray, List.getElem_cons_zero, List.getElem_cons_succ, List.setIfInBounds_toArray, List.set_cons_zero, List.set_cons_succ]
      refine wpAnyH_done (by kernel_rfl) ?_ _
      clear hS0
      have hone : ∀ u ∈ (Builtin.zeroCells (Value.int .u8 0).cells 8).toList, u.oneCell' = true := by
        have hz : (Builtin.zeroCells (Value.int .u8 0).cells 8).toList = [.int .u8 0, .int .u8 0, .int .u8 0, .int .u8 0, .int .u8 0, .int .u8 0, .int .u8 0, .int .u8 0] := by kernel_rfl
        rw [hz]; simp [Value.oneCell']
      have HONE := Lib.hid hone
      clear hone
      obtain ⟨av, ac, hform⟩ : ∃ a c, vs = .slice (some a) 24 c := by
        rcases HOs.out.2 with ⟨_, h⟩ | ⟨g, cap, cur, h, _⟩
        · exact absurd h (by decide)
        · exact ⟨_, cap, h⟩
      subst hform
      go_wp2_with (at_builtin; refine wpList_append_zeros rfl (.tmp 49) (.tmp 52) 34 3 rfl b2 5 i5 (.int .u8 0) .i64 .i64 Try.underlying34 Try.underlying3 HI.out HZ.out HS.out HY.out rfl _ 24 _ rfl (by decide) HOs.out 8 (by decide) rfl HONE.out (by decide) (by omega) ?_; intro vz wz hown hg; rw [HE'.out] at hown; have OZ := Lib.hid hown; have hbg : Below b2 w11 wz := Below.of_grown hg (by omega) (fun k hk => (HOs.out.lt k hk).1); have BZ := Lib.hid (HBs.out.trans (hbg.mono (by omega))); have hsz' := hbg.size; clear hown hg hbg)
      rcases OZ.out.2 with ⟨_, h⟩ | ⟨g, cap, cur, hv, hbg, hheap, _⟩
      · exact absurd h (by decide)
      subst hv
      have hcells := OZ.out.cells (g := g) rfl
      have hgl : g < wz.heap.size := (Array.getElem?_eq_some_iff.1 hheap).1
      go_ret
      exact ⟨g, cap, rfl, by rw [HW.out]; omega, hgl, fun j hj => by have := hcells j _ (byts_get (encF f) hj); rwa [Addr.add_mid, Nat.zero_add] at this, by rw [HW.out]; exact BZ.out⟩
end Go.Proofs.Ytdebkifnaiohcaa
