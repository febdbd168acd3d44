import Derived.Test.YtnfadmifdncjoaaGreatQ3
/- A group that is nil: its calls on nodes. -/
namespace Go.Proofs.YtnfadmifdncjoaaGreat
set_option linter.unusedSimpArgs false
set_option linter.unusedVariables false
open Go.RowKit Go.Maps

variable {ln : Lm}
def inc (a b c : Int) : List Value := [.int .u8 a, .int .u16 b, .int .u16 c]
theorem inc_one (a b c : Int) : ∀ v ∈ inc a b c, v.oneCell' = true := by
  intro v hv
  simp [inc] at hv
  rcases hv with rfl | rfl | rfl <;> rfl
theorem Tryz.zeroIno : (Tryz.prog.info? 157).map (fun i => i.zero) = some (some (.agg (inc 0 0 0).toArray)) := by kernel_rfl
theorem Tryz.isizeIno : (Tryz.prog.info? 157).map (·.size) = some 3 := by kernel_rfl
theorem sizeIno (a b c : Int) : (Tryz.prog.info? 157).map (·.size) = some (inc a b c).length := Tryz.isizeIno
theorem Tryz.descIno : ∃ d, Tryz.prog.underlying 157 = some d ∧ d.isRow = true := ⟨_, Tryz.underlying157, rfl⟩
theorem Tryz.buildIno0 (w : World) : (Instr.build 157 #[]).run Tryz.prog w = .ok (.agg (inc 0 0 0).toArray) w := by kernel_rfl
set_option maxHeartbeats 20000000 in
set_option maxRecDepth 100000 in
theorem gnode_nil (x : Int) (w : World) : Calls Tryz.prog 57 #[.pointer none, .int .i64 x] w fun e w' => e = .returned (.tuple #[.agg (ndc zpt).toArray, .int .i64 1]) ∧ Below w.heap.size w w' := by
  obtain ⟨d27, hu27, hd27⟩ := Tryz.desc27
  have HU27 := Lib.hid hu27
  have HD27 := Lib.hid hd27
  clear hu27 hd27
  go_enter Tryz.func57, Tryz.ntmps57
  go_wp2_with (first | (refine wpList_alloc_list (w := w) rfl 68 rfl (ndc zpt) Tryz.zero27 ?_; intro w1 F1 hb1 hz1; have HB1 := Lib.hid hb1; clear hb1 hz1) | (refine wpList_yields (.agg (ndc zpt).toArray) (yields_bld0 (by rfl) 68 rfl _ build27_zero) ?_) | (refine wpList_store_list rfl 68 (.tmp 4) (.tmp 8) rfl w.heap.size (ndc zpt) (ndc zpt) rfl rfl F1.out rfl (size27 _) (ndc_one _) ?_; intro w3 F3 HK3))
  exact bodyPost_ret_by (results_mid_tmp rfl _ _ w.heap.size (ndc zpt) d27 rfl F3.out.range0 HU27.out HD27.out (size27 _)) rfl ⟨rfl, HB1.out.trans (HK3.out.below (Nat.le_refl _) (Nat.le_refl _) HB1.out.size)⟩
theorem gset_nil (x : Int) (f : Nat → Int) (w : World) : Calls Tryz.prog 19 #[.pointer none, .int .i64 x, .agg (ndc f).toArray] w fun e w' => e = .returned (.int .i64 1) ∧ Below w.heap.size w w' := by
  go_enter Tryz.func19, Tryz.ntmps19
  go_wp2_with (first | (refine wpList_box_list rfl 68 _ rfl (ndc f) rfl ?_; intro w1 F1 hb1 hz1; have HB1 := Lib.hid hb1; clear hb1 hz1 F1))
  go_ret
  exact ⟨rfl, HB1.out⟩
theorem gmake_nil (k : Int) (w : World) : Calls Tryz.prog 16 #[.pointer none, .int .u8 k] w fun e w' => e = .returned (.tuple #[.int .i64 0, .int .i64 1]) ∧ w' = w := by
  go_enter Tryz.func16, Tryz.ntmps16
  go_wp2
  exact bodyPost_ret (v := .tuple #[.int .i64 0, .int .i64 1]) (by simp [results, Tryz.results16, go_sem]) rfl ⟨rfl, rfl⟩
theorem gusage_nil (w : World) : Calls Tryz.prog 39 #[.pointer none] w fun e w' => e = .returned (.tuple #[.int .i64 0, .int .i64 0, .int .i64 1]) ∧ w' = w := by
  go_enter Tryz.func39, Tryz.ntmps39
  go_wp2
  exact bodyPost_ret (v := .tuple #[.int .i64 0, .int .i64 0, .int .i64 1]) (by simp [results, Tryz.results39, go_sem]) rfl ⟨rfl, rfl⟩
set_option maxHeartbeats 20000000 in
set_option maxRecDepth 100000 in
theorem gino_nil (x : Int) (w : World) : Calls Tryz.prog 64 #[.pointer none, .int .i64 x] w fun e w' => e = .returned (.tuple #[.agg (inc 0 0 0).toArray, .int .i64 1]) ∧ Below w.heap.size w w' := by
  obtain ⟨dI, huI, hdI⟩ := Tryz.descIno
  have HUI := Lib.hid huI
  have HDI := Lib.hid hdI
  have HN := Lib.hid (fun W => gnode_nil x W)
  clear huI hdI
  go_enter Tryz.func64, Tryz.ntmps64
  go_wp2_with (first | (refine wpList_alloc_list (w := w) rfl 157 rfl (inc 0 0 0) Tryz.zeroIno ?_; intro w1 F1 hb1 hz1; have HB1 := Lib.hid hb1; clear hb1 hz1))
  refine (HN.out w1).mono ?_
  rintro e w2 ⟨rfl, hb⟩
  obtain ⟨b, hb0⟩ : ∃ b, w.heap.size = b := ⟨_, rfl⟩
  have HB2 := Lib.hid (HB1.out.trans (hb.mono HB1.out.size))
  have F2 := Lib.hid (F1.out.keep hb)
  have hwb := Lib.hid (Nat.le_of_eq hb0)
  rw [hb0] at F2
  try rw [hb0]
  clear hb hb0 HN F1 HB1
  go_upto_region 2 with (first | (refine wpList_alloc_list (w := w2) rfl 68 rfl (ndc zpt) Tryz.zero27 ?_; intro w4 F4 hb4 hz4; have HB4 := Lib.hid hb4; clear hb4 hz4) | (refine wpList_yields (.agg (ndc zpt).toArray) (yields_bld0 (by rfl) 68 rfl _ build27_zero) ?_) | (refine wpList_store_list rfl 68 (.tmp 6) (.tmp 12) rfl w2.heap.size (ndc zpt) (ndc zpt) rfl rfl F4.out rfl (size27 _) (ndc_one _) ?_; intro w5 F5 HK5))
  obtain ⟨b4, hb4⟩ : ∃ b, w2.heap.size = b := ⟨_, rfl⟩
  have hl2 : b < b4 := by rw [← hb4]; exact F2.out.lt
  have F4' := Lib.hid (F2.out.keep HB4.out)
  have F6 := Lib.hid (F4'.out.kp HK5.out (by omega) (by omega))
  have HB5 := Lib.hid ((HB2.out.trans (HB4.out.mono HB2.out.size)).trans (HK5.out.below HB2.out.size HB2.out.size (HB2.out.trans (HB4.out.mono HB2.out.size)).size))
  rw [hb4] at F5
  try rw [hb4]
  clear hb4 HB4 HK5 F4' F2 HB2 F4
  go_wp2_with (first | (refine wpList_yields (.agg (inc 0 0 0).toArray) (yields_bld0 (by rfl) 157 rfl _ Tryz.buildIno0) ?_) | (refine wpList_store_list rfl 157 (.tmp 4) (.tmp 16) rfl b (inc 0 0 0) (inc 0 0 0) rfl rfl F6.out rfl (sizeIno _ _ _) (inc_one _ _ _) ?_; intro w7 F7 HK7))
  exact bodyPost_ret_by (results_mid_tmp rfl _ _ b (inc 0 0 0) dI rfl F7.out.range0 HUI.out HDI.out (sizeIno _ _ _)) rfl ⟨rfl, HB5.out.trans (HK7.out.below hwb.out hwb.out HB5.out.size)⟩
set_option maxHeartbeats 20000000 in
set_option maxRecDepth 100000 in
theorem gwipe_nil (x : Int) (w : World) : Calls Tryz.prog 17 #[.pointer none, .int .i64 x] w fun e w' => e = .returned (.int .i64 1) ∧ Below w.heap.size w w' := by
  have HN := Lib.hid (fun W => gnode_nil x W)
  go_enter Tryz.func17, Tryz.ntmps17
  go_wp2_with fail
  refine (HN.out w).mono ?_
  rintro e w2 ⟨rfl, hb⟩
  have HB2 := Lib.hid hb
  clear hb HN
  go_wp2_with (first | (refine wpList_alloc_list (w := w2) rfl 68 rfl (ndc zpt) Tryz.zero27 ?_; intro w4 F4 hb4 hz4; have HB4 := Lib.hid hb4; clear hb4 hz4) | (refine wpList_yields (.agg (ndc zpt).toArray) (yields_bld0 (by rfl) 68 rfl _ build27_zero) ?_) | (refine wpList_store_list rfl 68 (.tmp 5) (.tmp 11) rfl w2.heap.size (ndc zpt) (ndc zpt) rfl rfl F4.out rfl (size27 _) (ndc_one _) ?_; intro w5 F5 HK5))
  go_ret
  exact ⟨rfl, (HB2.out.trans (HB4.out.mono HB2.out.size)).trans (HK5.out.below HB2.out.size HB2.out.size (HB2.out.trans (HB4.out.mono HB2.out.size)).size)⟩
end Go.Proofs.YtnfadmifdncjoaaGreat
