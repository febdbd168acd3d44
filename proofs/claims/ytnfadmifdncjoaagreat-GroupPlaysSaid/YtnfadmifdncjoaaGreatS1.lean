import Derived.Test.YtnfadmifdncjoaaGreatQ10
/- A group: Node out of range, Set that fails, Wipe, Ino. -/
namespace Go.Proofs.YtnfadmifdncjoaaGreat
set_option linter.unusedSimpArgs false
set_option linter.unusedVariables false
open Go.RowKit Go.Maps

variable {ln : Lm}
theorem genN_code (x : Int) : codeN (genN x) = 0 := by
  unfold codeN okN
  rw [show blankB (genN x) = true from by simp [blankB, genN, eqb]]
  rfl
set_option maxHeartbeats 20000000 in
set_option maxRecDepth 100000 in
theorem read_out6 (g : Cf.Ge) (x : Int) (tv : Value) (hx : ¬ inP g x) (hn0 : 0 ≤ g.nd) (hn1 : g.nd ≤ 128) (w : World) :
    Calls Tryz.prog 95 #[tv, g.val, .int .i64 x] w fun e w' => e = .returned (.tuple #[.agg (ndc zpt).toArray, .int .i64 27]) ∧ Below w.heap.size w w' := by
  obtain ⟨d27, hu27, hd27⟩ := Tryz.desc27
  have HU27 := Lib.hid hu27
  have HD27 := Lib.hid hd27
  obtain ⟨d53, hu53, hd53⟩ := Tryz.desc53
  have HU53 := Lib.hid hu53
  have HD53 := Lib.hid hd53
  have HP : Hid (∀ W, Calls Tryz.prog 97 #[.agg g.cells.toArray, .int .i64 x] W fun e w' => e = .returned (.tuple #[.int .i64 0, .int .i64 0, .bool false]) ∧ Below W.heap.size W w') := fun W => place_out g x hx hn0 hn1 W
  clear hu27 hd27 hu53 hd53 hx hn0 hn1
  change Calls _ _ #[_, .agg g.cells.toArray, _] _ _
  obtain ⟨gs, hgs⟩ : ∃ gs, g.cells = gs := ⟨_, rfl⟩
  have HS53 : Hid ((Tryz.prog.info? 133).map (·.size) = some gs.length) := by rw [← hgs]; exact size53 g
  rw [hgs] at HP ⊢
  clear hgs
  go_enter Tryz.func95, Tryz.ntmps95
  go_upto_region 1 with (first | (refine wpList_box_list (w := w) rfl 133 _ rfl gs rfl ?_; intro w1 F1 hb1 hz1; have HB1 := Lib.hid hb1; have hq1 : w.heap.size < w1.heap.size := (by omega); clear hb1 hz1) | (refine wpList_alloc_list (w := w1) rfl 68 rfl (ndc zpt) Tryz.zero27 ?_; intro w2 F2 hb2 hz2; have HB2 := Lib.hid hb2; have hq2 : w1.heap.size < w2.heap.size := (by omega); clear hb2 hz2))
  obtain ⟨b1, hb1⟩ : ∃ b, w.heap.size = b := ⟨_, rfl⟩
  obtain ⟨b2, hb2⟩ : ∃ b, w1.heap.size = b := ⟨_, rfl⟩
  have G1 := Lib.hid (F1.out.keep HB2.out)
  have G2 := F2
  have HB := Lib.hid (HB1.out.trans (HB2.out.mono HB1.out.size))
  rw [hb1, hb2] at hq1
  rw [hb2] at hq2
  rw [hb1] at G1
  rw [hb2] at G2
  have hn0 : w.heap.size ≤ b2 := by omega
  try rw [hb1]
  try rw [hb2]
  clear hb2 HB1 HB2 F1 F2
  have HR1 := Lib.hid G1.out.range0
  go_wp2_with (refine wpList_load_mid rfl 133 _ rfl b1 0 rfl gs d53 HR1.out HU53.out HD53.out HS53.out ?_)
  refine (HP.out w2).mono ?_
  rintro e w3 ⟨rfl, hb⟩
  have B3 := Lib.hid (HB.out.trans (hb.mono HB.out.size))
  have G3 := Lib.hid (G2.out.keep hb)
  clear hb HR1 G1 G2 HB HP
  go_wp2_with (first | (refine wpList_yields (.agg (ndc zpt).toArray) (yields_bld0 (by rfl) 68 rfl _ build27_zero) ?_) | (refine wpList_store_list rfl 68 (.tmp 6) (.tmp 23) rfl b2 (ndc zpt) (ndc zpt) rfl rfl G3.out rfl (size27 _) (ndc_one _) ?_; intro w4 F5 HK4))
  have B4 := Lib.hid (B3.out.trans (HK4.out.below hn0 hn0 B3.out.size))
  exact bodyPost_ret_by (results_mid_tmp rfl _ _ b2 (ndc zpt) d27 rfl F5.out.range0 HU27.out HD27.out (size27 _)) rfl ⟨rfl, B4.out⟩
set_option maxHeartbeats 20000000 in
set_option maxRecDepth 100000 in
theorem gnode_out (q p t m d gg lab B0 P0 M DA NB N K : Nat) (g : Cf.Ge) (Y : Nat → Nat → Int) (x : Int) (hx : ¬ (1 ≤ x ∧ x ≤ M)) (hg : GG g B0 P0 M DA NB N) (w : World) (h : Gr w q p t m d gg lab g B0 NB N ln Y K) :
    Calls Tryz.prog 57 #[.pointer (some ⟨q, 0, none⟩), .int .i64 x] w fun e w' => e = .returned (.tuple #[.agg (ndc zpt).toArray, .int .i64 27]) ∧ Below w.heap.size w w' := by
  obtain ⟨d53, hu53, hd53⟩ := Tryz.desc53
  have HU53 := Lib.hid hu53
  have HD53 := Lib.hid hd53
  obtain ⟨d27, hu27, hd27⟩ := Tryz.desc27
  have HU27 := Lib.hid hu27
  have HD27 := Lib.hid hd27
  have HS53 := Lib.hid (size53 g)
  clear hu53 hd53 hu27 hd27
  have HRd := Lib.hid (fun W => read_out6 g x (.pointer (some ⟨t, 0, none⟩)) (fun h => hx (by have := hg.nd; obtain ⟨h1, h2⟩ := h; omega)) (by have := hg.nd; omega) (by have := hg.nd; have := hg.m128; omega) W)
  have GB := Lib.hid h.gb
  have hq0 := h.lts.1
  clear h hg hx
  go_enter Tryz.func57, Tryz.ntmps57
  go_upto_region 3 with (first | (refine wpList_alloc_list (w := w) rfl 68 rfl (ndc zpt) Tryz.zero27 ?_; intro w1 F1 hb1 hz1; have HB1 := Lib.hid hb1; have GB1 := Lib.hid (GB.out.keep hb1); clear hb1 hz1))
  obtain ⟨b, hb⟩ : ∃ b, w.heap.size = b := ⟨_, rfl⟩
  have HWb := Lib.hid (Nat.le_of_eq hb)
  have nb4 : q ≠ b := by omega
  rw [hb] at F1 hq0
  try rw [hb]
  clear hb GB
  refine wp_region_held (S := fun W => Vl W q (gpc t lab g p)) (by kernel_rfl) ?_
  change wpAnyH _ _ _ _ _ _ _ _ (World.drew _)
  have hS0 : (fun W => Vl W q (gpc t lab g p)) w1.drew := GB1.out.keep (Below.refl _ _).drew
  have HB2 := Lib.hid (HB1.out.trans ((Below.refl w1.heap.size w1).drew.mono HB1.out.size))
  have F2 := Lib.hid (F1.out.keep (Below.refl w1.heap.size w1).drew)
  obtain ⟨w2, hw2⟩ : ∃ x, World.drew w1 = x := ⟨_, rfl⟩
  rw [hw2] at hS0 HB2 F2 ⊢
  clear hw2
  clear HB1 GB1 F1
  refine wpAnyH_take (i := 0) (v := ?_) rfl (by kernel_rfl) (by kernel_rfl) (by kernel_rfl) (fun _ _ _ h => h) (Or.inl ⟨by rfl, ?_⟩) hS0 ?_
  rotate_left 1
  · intro W hW
    go_simp
    try with_reducible rfl
  simp only [Act.put, List.getElem_toArray, List.getElem_cons_zero, List.getElem_cons_succ, List.setIfInBounds_toArray, List.set_cons_zero, List.set_cons_succ]
  refine wpAnyH_take (i := 1) (v := ?_) rfl (by kernel_rfl) (by kernel_rfl) (by kernel_rfl) (fun _ _ _ h => h) (Or.inl ⟨by rfl, ?_⟩) hS0 ?_
  rotate_left 1
  · intro W hW
    go_simp
    try with_reducible rfl
  simp only [Act.put, List.getElem_toArray, List.getElem_cons_zero, List.getElem_cons_succ, List.setIfInBounds_toArray, List.set_cons_zero, List.set_cons_succ]
  refine wpAnyH_take (i := 2) (v := ?_) rfl (by kernel_rfl) (by kernel_rfl) (by kernel_rfl) (fun _ _ _ h => h) (Or.inl ⟨by rfl, ?_⟩) hS0 ?_
  rotate_left 1
  · intro W hW
    go_simp
    try with_reducible rfl
  simp only [Act.put, List.getElem_toArray, List.getElem_cons_zero, List.getElem_cons_succ, List.setIfInBounds_toArray, List.set_cons_zero, List.set_cons_succ]
  refine wpAnyH_take (i := 3) (v := ?_) rfl (by kernel_rfl) (by kernel_rfl) (by kernel_rfl) (fun _ _ _ h => h) (Or.inl ⟨by rfl, ?_⟩) hS0 ?_
  rotate_left 1
  · intro W hW
    have c0 := hW.c 0 _ rfl
    go_simp
    try with_reducible rfl
  simp only [Act.put, List.getElem_toArray, List.getElem_cons_zero, List.getElem_cons_succ, List.setIfInBounds_toArray, List.set_cons_zero, List.set_cons_succ]
  refine wpAnyH_take (i := 4) (v := ?_) rfl (by kernel_rfl) (by kernel_rfl) (by kernel_rfl) (fun _ _ _ h => h) (Or.inl ⟨by rfl, ?_⟩) hS0 ?_
  rotate_left 1
  · intro W hW
    go_simp
    try with_reducible rfl
  simp only [Act.put, List.getElem_toArray, List.getElem_cons_zero, List.getElem_cons_succ, List.setIfInBounds_toArray, List.set_cons_zero, List.set_cons_succ]
  refine wpAnyH_take (i := 5) (v := ?_) rfl (by kernel_rfl) (by kernel_rfl) (by kernel_rfl) (fun _ _ _ h => h) (Or.inl ⟨by rfl, ?_⟩) hS0 ?_
  rotate_left 1
  · intro W hW
    go_simp
    try with_reducible rfl
  simp only [Act.put, List.getElem_toArray, List.getElem_cons_zero, List.getElem_cons_succ, List.setIfInBounds_toArray, List.set_cons_zero, List.set_cons_succ]
  refine wpAnyH_take (i := 6) (v := ?_) rfl (by kernel_rfl) (by kernel_rfl) (by kernel_rfl) (fun _ _ _ h => h) (Or.inl ⟨by rfl, ?_⟩) hS0 ?_
  rotate_left 1
  · intro W hW
    go_simp
    try with_reducible rfl
  simp only [Act.put, List.getElem_toArray, List.getElem_cons_zero, List.getElem_cons_succ, List.setIfInBounds_toArray, List.set_cons_zero, List.set_cons_succ]
  refine wpAnyH_take (i := 7) (v := .agg g.cells.toArray) rfl (by kernel_rfl) (by kernel_rfl) (by kernel_rfl) (fun _ _ _ h => h) ?_ hS0 ?_
  · exact yieldsIf_load_mid (by rfl) 133 _ rfl q 2 rfl g.cells d53 (fun _ h => h.geo) HU53.out HD53.out HS53.out
  simp only [Act.put, List.getElem_toArray, List.getElem_cons_zero, List.getElem_cons_succ, List.setIfInBounds_toArray, List.set_cons_zero, List.set_cons_succ]
  refine wpAnyH_take (i := 8) (v := ?_) rfl (by kernel_rfl) (by kernel_rfl) (by kernel_rfl) (fun _ _ _ h => h) (Or.inl ⟨by rfl, ?_⟩) hS0 ?_
  rotate_left 1
  · intro W hW
    go_simp
    try with_reducible rfl
  simp only [Act.put, List.getElem_toArray, List.getElem_cons_zero, List.getElem_cons_succ, List.setIfInBounds_toArray, List.set_cons_zero, List.set_cons_succ]
  refine wpAnyH_ready (rs := [9]) (by kernel_rfl) (by simp) (AllReadyH.cons rfl (fun KK hKK => ?_) AllReadyH.nil)
  go_simp
  refine (HRd.out w2).mono ?_
  rintro e w3 ⟨rfl, hk⟩
  have HB3 := Lib.hid (HB2.out.trans (hk.mono HB2.out.size))
  have F3 := Lib.hid (F2.out.keep hk)
  replace hS0 : (fun W => Vl W q (gpc t lab g p)) w3 := hS0.keep hk
  clear hk HB2 F2
  refine hKK _ _ hS0 ?_
  intro _
  clear hKK KK
  try simp only [Act.put, List.getElem_toArray, List.getElem_cons_zero, List.getElem_cons_succ, List.setIfInBounds_toArray, List.set_cons_zero, List.set_cons_succ]
  refine wpAnyH_take (i := 10) (v := ?_) rfl (by kernel_rfl) (by kernel_rfl) (by kernel_rfl) (fun _ _ _ h => h) (Or.inl ⟨by rfl, ?_⟩) hS0 ?_
  rotate_left 1
  · intro W hW
    go_simp
    try with_reducible rfl
  simp only [Act.put, List.getElem_toArray, List.getElem_cons_zero, List.getElem_cons_succ, List.setIfInBounds_toArray, List.set_cons_zero, List.set_cons_succ]
  refine wpAnyH_take (i := 11) (v := ?_) rfl (by kernel_rfl) (by kernel_rfl) (by kernel_rfl) (fun _ _ _ h => h) (Or.inl ⟨by rfl, ?_⟩) hS0 ?_
  rotate_left 1
  · intro W hW
    go_simp
    try with_reducible rfl
  simp only [Act.put, List.getElem_toArray, List.getElem_cons_zero, List.getElem_cons_succ, List.setIfInBounds_toArray, List.set_cons_zero, List.set_cons_succ]
  refine wpAnyH_ready (rs := [12]) (by kernel_rfl) (by simp) (AllReadyH.cons rfl (fun KK hKK => ?_) AllReadyH.nil)
  refine step_store_mid rfl 68 _ _ rfl b 0 (ndc zpt).toArray rfl rfl (F3.out.there0 12 rfl) (size27' _) (all_oneCell_toArray (ndc_one _)) ?_
  rw [List.toList_toArray]
  have F5 := Lib.hid (F3.out.stored (ndc zpt) rfl)
  have hk5 : Kp w3 (w3.setCells b 0 (ndc zpt)) b b := (Kp.refl _ _ _).setCells b 0 (.inl rfl) _
  have HB5 := Lib.hid (HB3.out.trans (hk5.below (B := w.heap.size) HWb.out HWb.out HB3.out.size))
  replace hS0 : (fun W => Vl W q (gpc t lab g p)) (w3.setCells b 0 (ndc zpt)) := hS0.kp hk5 nb4 nb4
  obtain ⟨w5, hw5⟩ : ∃ x, w3.setCells b 0 (ndc zpt) = x := ⟨_, rfl⟩
  rw [hw5] at F5 HB5 hS0 ⊢
  clear hk5 hw5 F3 HB3
  refine hKK _ _ hS0 ?_
  intro _
  clear hKK KK
  try simp only [Act.put, List.getElem_toArray, List.getElem_cons_zero, List.getElem_cons_succ, List.setIfInBounds_toArray, List.set_cons_zero, List.set_cons_succ]
  refine wpAnyH_take (i := 13) (v := ?_) rfl (by kernel_rfl) (by kernel_rfl) (by kernel_rfl) (fun _ _ _ h => h) (Or.inl ⟨by rfl, ?_⟩) hS0 ?_
  rotate_left 1
  · intro W hW
    go_simp
    try with_reducible rfl
  simp only [Act.put, List.getElem_toArray, List.getElem_cons_zero, List.getElem_cons_succ, List.setIfInBounds_toArray, List.set_cons_zero, List.set_cons_succ]
  refine wpAnyH_done (by kernel_rfl) ?_ _
  clear hS0
  go_wp2_with fail
  exact bodyPost_ret_by (results_mid_tmp rfl _ _ b (ndc zpt) d27 rfl F5.out.range0 HU27.out HD27.out (size27 _)) rfl ⟨rfl, HB5.out⟩
set_option maxHeartbeats 20000000 in
set_option maxRecDepth 100000 in
theorem gset_err (q p t lab : Nat) (g : Cf.Ge) (E : Int) (f : Nat → Int) (x : Int) (w : World) (hw : ∀ W, Calls Tryz.prog 59 #[.pointer (some ⟨t, 0, none⟩), .agg g.cells.toArray, .int .i64 x, .agg (ndc f).toArray] W fun e w' => e = .returned (.int .i64 E) ∧ Below W.heap.size W w') (h : Vl w q (gpc t lab g p)) :
    Calls Tryz.prog 19 #[.pointer (some ⟨q, 0, none⟩), .int .i64 x, .agg (ndc f).toArray] w fun e w' => e = .returned (.int .i64 E) ∧ Below w.heap.size w w' := by
  obtain ⟨d53, hu53, hd53⟩ := Tryz.desc53
  have HU53 := Lib.hid hu53
  have HD53 := Lib.hid hd53
  obtain ⟨d27, hu27, hd27⟩ := Tryz.desc27
  have HU27 := Lib.hid hu27
  have HD27 := Lib.hid hd27
  have HS53 := Lib.hid (size53 g)
  clear hu53 hd53 hu27 hd27
  have HWr := Lib.hid hw
  have GB := Lib.hid h
  have hq0 := h.lt
  clear h hw
  go_enter Tryz.func19, Tryz.ntmps19
  go_upto_region 3 with (first | (refine wpList_box_list (w := w) rfl 68 _ rfl (ndc f) rfl ?_; intro w1 F1 hb1 hz1; have HB1 := Lib.hid hb1; have GB1 := Lib.hid (GB.out.keep hb1); clear hb1 hz1))
  obtain ⟨b, hb⟩ : ∃ b, w.heap.size = b := ⟨_, rfl⟩
  have HWb := Lib.hid (Nat.le_of_eq hb)
  rw [hb] at F1 hq0
  try rw [hb]
  clear hb GB
  refine wp_region_held (S := fun W => Vl W q (gpc t lab g p) ∧ Vl W b (ndc f)) (by kernel_rfl) ?_
  change wpAnyH _ _ _ _ _ _ _ _ (World.drew _)
  have hS0 : (fun W => Vl W q (gpc t lab g p) ∧ Vl W b (ndc f)) w1.drew := ⟨GB1.out.keep (Below.refl _ _).drew, F1.out.keep (Below.refl _ _).drew⟩
  have HB2 := Lib.hid (HB1.out.trans ((Below.refl w1.heap.size w1).drew.mono HB1.out.size))
  obtain ⟨w2, hw2⟩ : ∃ x, World.drew w1 = x := ⟨_, rfl⟩
  rw [hw2] at hS0 HB2 ⊢
  clear hw2
  clear HB1 GB1 F1
  refine wpAnyH_take (i := 0) (v := ?_) rfl (by kernel_rfl) (by kernel_rfl) (by kernel_rfl) (fun _ _ _ h => h) (Or.inl ⟨by rfl, ?_⟩) hS0 ?_
  rotate_left 1
  · intro W hW
    go_simp
    try with_reducible rfl
  simp only [Act.put, List.getElem_toArray, List.getElem_cons_zero, List.getElem_cons_succ, List.setIfInBounds_toArray, List.set_cons_zero, List.set_cons_succ]
  refine wpAnyH_take (i := 1) (v := ?_) rfl (by kernel_rfl) (by kernel_rfl) (by kernel_rfl) (fun _ _ _ h => h) (Or.inl ⟨by rfl, ?_⟩) hS0 ?_
  rotate_left 1
  · intro W hW
    go_simp
    try with_reducible rfl
  simp only [Act.put, List.getElem_toArray, List.getElem_cons_zero, List.getElem_cons_succ, List.setIfInBounds_toArray, List.set_cons_zero, List.set_cons_succ]
  refine wpAnyH_take (i := 2) (v := ?_) rfl (by kernel_rfl) (by kernel_rfl) (by kernel_rfl) (fun _ _ _ h => h) (Or.inl ⟨by rfl, ?_⟩) hS0 ?_
  rotate_left 1
  · intro W hW
    go_simp
    try with_reducible rfl
  simp only [Act.put, List.getElem_toArray, List.getElem_cons_zero, List.getElem_cons_succ, List.setIfInBounds_toArray, List.set_cons_zero, List.set_cons_succ]
  refine wpAnyH_take (i := 3) (v := ?_) rfl (by kernel_rfl) (by kernel_rfl) (by kernel_rfl) (fun _ _ _ h => h) (Or.inl ⟨by rfl, ?_⟩) hS0 ?_
  rotate_left 1
  · intro W hW
    have c0 := hW.1.c 0 _ rfl
    go_simp
    try with_reducible rfl
  simp only [Act.put, List.getElem_toArray, List.getElem_cons_zero, List.getElem_cons_succ, List.setIfInBounds_toArray, List.set_cons_zero, List.set_cons_succ]
  refine wpAnyH_take (i := 4) (v := ?_) rfl (by kernel_rfl) (by kernel_rfl) (by kernel_rfl) (fun _ _ _ h => h) (Or.inl ⟨by rfl, ?_⟩) hS0 ?_
  rotate_left 1
  · intro W hW
    go_simp
    try with_reducible rfl
  simp only [Act.put, List.getElem_toArray, List.getElem_cons_zero, List.getElem_cons_succ, List.setIfInBounds_toArray, List.set_cons_zero, List.set_cons_succ]
  refine wpAnyH_take (i := 5) (v := ?_) rfl (by kernel_rfl) (by kernel_rfl) (by kernel_rfl) (fun _ _ _ h => h) (Or.inl ⟨by rfl, ?_⟩) hS0 ?_
  rotate_left 1
  · intro W hW
    go_simp
    try with_reducible rfl
  simp only [Act.put, List.getElem_toArray, List.getElem_cons_zero, List.getElem_cons_succ, List.setIfInBounds_toArray, List.set_cons_zero, List.set_cons_succ]
  refine wpAnyH_take (i := 6) (v := ?_) rfl (by kernel_rfl) (by kernel_rfl) (by kernel_rfl) (fun _ _ _ h => h) (Or.inl ⟨by rfl, ?_⟩) hS0 ?_
  rotate_left 1
  · intro W hW
    go_simp
    try with_reducible rfl
  simp only [Act.put, List.getElem_toArray, List.getElem_cons_zero, List.getElem_cons_succ, List.setIfInBounds_toArray, List.set_cons_zero, List.set_cons_succ]
  refine wpAnyH_take (i := 7) (v := .agg g.cells.toArray) rfl (by kernel_rfl) (by kernel_rfl) (by kernel_rfl) (fun _ _ _ h => h) ?_ hS0 ?_
  · exact yieldsIf_load_mid (by rfl) 133 _ rfl q 2 rfl g.cells d53 (fun _ h => h.1.geo) HU53.out HD53.out HS53.out
  simp only [Act.put, List.getElem_toArray, List.getElem_cons_zero, List.getElem_cons_succ, List.setIfInBounds_toArray, List.set_cons_zero, List.set_cons_succ]
  refine wpAnyH_take (i := 8) (v := ?_) rfl (by kernel_rfl) (by kernel_rfl) (by kernel_rfl) (fun _ _ _ h => h) (Or.inl ⟨by rfl, ?_⟩) hS0 ?_
  rotate_left 1
  · intro W hW
    go_simp
    try with_reducible rfl
  simp only [Act.put, List.getElem_toArray, List.getElem_cons_zero, List.getElem_cons_succ, List.setIfInBounds_toArray, List.set_cons_zero, List.set_cons_succ]
  refine wpAnyH_take (i := 9) (v := .agg (ndc f).toArray) rfl (by kernel_rfl) (by kernel_rfl) (by kernel_rfl) (fun _ _ _ h => h) ?_ hS0 ?_
  · exact yieldsIf_load_mid (by rfl) 68 _ rfl b 0 rfl (ndc f) d27 (fun _ h => h.2.range0) HU27.out HD27.out (size27 _)
  simp only [Act.put, List.getElem_toArray, List.getElem_cons_zero, List.getElem_cons_succ, List.setIfInBounds_toArray, List.set_cons_zero, List.set_cons_succ]
  refine wpAnyH_ready (rs := [10]) (by kernel_rfl) (by simp) (AllReadyH.cons rfl (fun KK hKK => ?_) AllReadyH.nil)
  go_simp
  refine (HWr.out w2).mono ?_
  rintro e w3 ⟨rfl, hk⟩
  have HB3 := Lib.hid (HB2.out.trans (hk.mono HB2.out.size))
  replace hS0 : (fun W => Vl W q (gpc t lab g p) ∧ Vl W b (ndc f)) w3 := ⟨hS0.1.keep hk, hS0.2.keep hk⟩
  clear hk HB2
  refine hKK _ _ hS0 ?_
  intro _
  clear hKK KK
  try simp only [Act.put, List.getElem_toArray, List.getElem_cons_zero, List.getElem_cons_succ, List.setIfInBounds_toArray, List.set_cons_zero, List.set_cons_succ]
  refine wpAnyH_take (i := 11) (v := ?_) rfl (by kernel_rfl) (by kernel_rfl) (by kernel_rfl) (fun _ _ _ h => h) (Or.inl ⟨by rfl, ?_⟩) hS0 ?_
  rotate_left 1
  · intro W hW
    go_simp
    try with_reducible rfl
  simp only [Act.put, List.getElem_toArray, List.getElem_cons_zero, List.getElem_cons_succ, List.setIfInBounds_toArray, List.set_cons_zero, List.set_cons_succ]
  refine wpAnyH_done (by kernel_rfl) ?_ _
  clear hS0
  go_wp2_with fail
  go_ret
  exact ⟨rfl, HB3.out⟩
theorem gset_out (q p t m d gg lab B0 P0 M DA NB N K : Nat) (g : Cf.Ge) (Y : Nat → Nat → Int) (f : Nat → Int) (x : Int) (hx : ¬ (1 ≤ x ∧ x ≤ M)) (hg : GG g B0 P0 M DA NB N) (w : World) (h : Gr w q p t m d gg lab g B0 NB N ln Y K) :
    Calls Tryz.prog 19 #[.pointer (some ⟨q, 0, none⟩), .int .i64 x, .agg (ndc f).toArray] w fun e w' => e = .returned (.int .i64 27) ∧ Below w.heap.size w w' :=
  gset_err q p t lab g 27 f x w (fun W => write_out6 g x _ f (fun h => hx (by have := hg.nd; obtain ⟨h1, h2⟩ := h; omega)) (by have := hg.nd; omega) (by have := hg.nd; have := hg.m128; omega) W) h.gb
theorem gset_bad (q p t m d gg lab B0 P0 M DA NB N K : Nat) (g : Cf.Ge) (Y : Nat → Nat → Int) (f : Nat → Int) (hf : NdOk f) (hc : codeN f ≠ 0) (x : Int) (hx : 1 ≤ x ∧ x ≤ M) (hg : GG g B0 P0 M DA NB N) (w : World) (h : Gr w q p t m d gg lab g B0 NB N ln Y K) :
    Calls Tryz.prog 19 #[.pointer (some ⟨q, 0, none⟩), .int .i64 x, .agg (ndc f).toArray] w fun e w' => e = .returned (.int .i64 (codeN f)) ∧ Below w.heap.size w w' := by
  have hN := h.rd.hN
  obtain ⟨g1, g2, g3, g4, g5, g6, g7, g8, g9, g10, g11, g12, g13, g14⟩ := hg
  exact gset_err q p t lab g (codeN f) f x w (fun W => write_bad6 g x _ f hf hc ⟨hx.1, by omega⟩ (by omega) (by omega) g3 (by omega) (by omega) W) h.gb
set_option maxHeartbeats 20000000 in
set_option maxRecDepth 100000 in
theorem gwipe_in (q p t m d gg lab B0 P0 M DA NB N K : Nat) (g : Cf.Ge) (Y : Nat → Nat → Int) (V : Nat → Nat → Int) (n : Nat) (h1 : 1 ≤ n) (h2 : n ≤ M) (hT : Has ln (P0 + (n - 1) / 2)) (hK : K < 500000000) (hI : Tab P0 M Y V) (hg : GG g B0 P0 M DA NB N) (w : World) (h : Gr w q p t m d gg lab g B0 NB N ln Y K) :
    Calls Tryz.prog 17 #[.pointer (some ⟨q, 0, none⟩), .int .i64 n] w fun e w' => e = .returned (.int .i64 0) ∧ Gr w' q p t m d gg lab g B0 NB N ln (tabW P0 n (genN (V n 2)) Y) (K + 2) ∧ Kf w w' [t, m, d, gg] := by
  have HN := Lib.hid (gnode_in q p t m d gg lab B0 P0 M DA NB N K g Y V n h1 h2 (by omega) hI hg w h)
  have hok := (hI n h1 h2).2.1
  have HS := Lib.hid (fun W hW => gset_in (ln := ln) q p t m d gg lab B0 P0 M DA NB N (K + 1) g Y (genN (V n 2)) (genN_ok hok.g) (genN_code _) n h1 h2 hT (by omega) hg W hW)
  obtain ⟨f, hf⟩ : ∃ f, V n = f := ⟨_, rfl⟩
  rw [hf] at HN HS ⊢
  obtain ⟨Z, hZ⟩ : ∃ Z, tabW P0 n (genN (f 2)) Y = Z := ⟨_, rfl⟩
  rw [hZ] at HS ⊢
  have lts := Lib.hid h.lts
  clear hZ hf hok hI h hg h1 h2 hK hT
  go_enter Tryz.func17, Tryz.ntmps17
  go_wp2_with fail
  refine HN.out.mono ?_
  rintro e w2 ⟨rfl, hG, hk⟩
  have HG2 := Lib.hid hG
  have HK2 := Lib.hid hk
  have hww := hk.size
  have NB6 := Lib.hid (hG.notin (Nat.le_refl _))
  clear hG hk HN
  go_upto_region 2 with (first | (refine wpList_alloc_list (w := w2) rfl 68 rfl (ndc zpt) Tryz.zero27 ?_; intro w3 F3 hb3 hz3; have HG3 := Lib.hid (HG2.out.keep hb3); have HK3 := Lib.hid (HK2.out.more hb3); clear hb3 hz3) | (refine wpList_store_list rfl 68 (.tmp 5) (.tmp 11) rfl w2.heap.size (ndc zpt) (ndc f) rfl rfl F3.out rfl (size27 _) (ndc_one _) ?_; intro w4 F4 HK4))
  obtain ⟨b, hb⟩ : ∃ b, w2.heap.size = b := ⟨_, rfl⟩
  rw [hb] at F4 HK4 NB6 hww
  try rw [hb]
  have HG4 := Lib.hid (HG3.out.kp HK4.out NB6.out)
  have HK5 := Lib.hid (HK3.out.fresh HK4.out hww)
  clear hb HG2 HG3 HK2 HK3 HK4 F3
  have c2 := F4.out.c 2 _ rfl
  go_wp2_with (first | (refine wpList_yields (.agg (ndc (genN (f 2))).toArray) (yields_bld1 (by rfl) 68 2 (.tmp 19) rfl (.int .u16 (f 2)) rfl _ (build27_gen _)) ?_))
  refine (HS.out w4 HG4.out).mono ?_
  rintro e w6 ⟨rfl, hG, hk⟩
  have HG6 := Lib.hid hG
  have HK6 := Lib.hid (HK5.out.trans hk)
  clear hG hk HG4 HK5 c2 F4 HS
  go_wp2_with fail
  go_ret
  exact ⟨rfl, HG6.out, HK6.out⟩
set_option maxHeartbeats 20000000 in
set_option maxRecDepth 100000 in
theorem gwipe_out (q p t m d gg lab B0 P0 M DA NB N K : Nat) (g : Cf.Ge) (Y : Nat → Nat → Int) (x : Int) (hx : ¬ (1 ≤ x ∧ x ≤ M)) (hg : GG g B0 P0 M DA NB N) (w : World) (h : Gr w q p t m d gg lab g B0 NB N ln Y K) :
    Calls Tryz.prog 17 #[.pointer (some ⟨q, 0, none⟩), .int .i64 x] w fun e w' => e = .returned (.int .i64 27) ∧ Below w.heap.size w w' := by
  have HN := Lib.hid (gnode_out q p t m d gg lab B0 P0 M DA NB N K g Y x hx hg w h)
  clear h hg hx
  go_enter Tryz.func17, Tryz.ntmps17
  go_wp2_with fail
  refine HN.out.mono ?_
  rintro e w2 ⟨rfl, hb⟩
  have HB2 := Lib.hid hb
  clear hb HN
  go_wp2_with (first | (refine wpList_alloc_list (w := w2) rfl 68 rfl (ndc zpt) Tryz.zero27 ?_; intro w4 F4 hb4 hz4; have HB4 := Lib.hid hb4; clear hb4 hz4) | (refine wpList_store_list rfl 68 (.tmp 5) (.tmp 11) rfl w2.heap.size (ndc zpt) (ndc zpt) rfl rfl F4.out rfl (size27 _) (ndc_one _) ?_; intro w5 F5 HK5))
  go_ret
  exact ⟨rfl, (HB2.out.trans (HB4.out.mono HB2.out.size)).trans (HK5.out.below HB2.out.size HB2.out.size (HB2.out.trans (HB4.out.mono HB2.out.size)).size)⟩
end Go.Proofs.YtnfadmifdncjoaaGreat
