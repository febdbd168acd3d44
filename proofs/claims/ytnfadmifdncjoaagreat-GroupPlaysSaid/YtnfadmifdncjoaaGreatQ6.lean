import Derived.Test.YtnfadmifdncjoaaGreatQ4
import Derived.Test.YtnfadmifdncjoaaGreatQ5
/- A group: Node, Set, the first free node, MakeLink, Make. -/
namespace Go.Proofs.YtnfadmifdncjoaaGreat
set_option linter.unusedSimpArgs false
set_option linter.unusedVariables false
open Go.RowKit Go.Maps

variable {ln : Lm}
theorem Vl.geo {w : World} {q t p : Nat} {lab : Int} {g : Cf.Ge} (h : Vl w q (gpc t lab g p)) : w.rangeAt q 2 g.cells := fun j v hj => h.c (2 + j) v (by
  match j, hj with
  | 0, hj => exact hj
  | 1, hj => exact hj
  | 2, hj => exact hj
  | 3, hj => exact hj
  | 4, hj => exact hj
  | 5, hj => exact hj
  | _ + 6, hj => cases hj)
theorem gread (q p t m d gg lab B0 P0 M DA NB N K : Nat) (g : Cf.Ge) (Y : Nat → Nat → Int) (V : Nat → Nat → Int) (n : Nat) (h1 : 1 ≤ n) (h2 : n ≤ M) (hK : K < 600000000) (hI : Tab P0 M Y V) (hg : GG g B0 P0 M DA NB N) (w : World) (h : Gr w q p t m d gg lab g B0 NB N ln Y K) :
    Calls Tryz.prog 95 #[.pointer (some ⟨t, 0, none⟩), .agg g.cells.toArray, .int .i64 n] w fun e w' => e = .returned (.tuple #[.agg (ndc (V n)).toArray, .int .i64 0]) ∧ Gr w' q p t m d gg lab g B0 NB N ln Y (K + 1) ∧ Kf w w' [t, m, d, gg] := by
  have hN := h.rd.hN
  obtain ⟨g1, g2, g3, g4, g5, g6, g7, g8, g9, g10, g11, g12, g13, g14⟩ := hg
  refine (read_any6 g n t m d gg N K P0 M Y V h1 h2 g6 g2 (by omega) (by omega) g3 (by omega) (by omega) (by omega) (by omega) hK hI w h.rd).mono ?_
  rintro e w' ⟨he, hR, hk⟩
  exact ⟨he, h.call hR hk, hk⟩
theorem gwrite (q p t m d gg lab B0 P0 M DA NB N K : Nat) (g : Cf.Ge) (Y : Nat → Nat → Int) (f : Nat → Int) (hf : NdOk f) (hc : codeN f = 0) (n : Nat) (h1 : 1 ≤ n) (h2 : n ≤ M) (hT : Has ln (P0 + (n - 1) / 2)) (hK : K < 600000000) (hg : GG g B0 P0 M DA NB N) (w : World) (h : Gr w q p t m d gg lab g B0 NB N ln Y K) :
    Calls Tryz.prog 59 #[.pointer (some ⟨t, 0, none⟩), .agg g.cells.toArray, .int .i64 n, .agg (ndc f).toArray] w fun e w' => e = .returned (.int .i64 0) ∧ Gr w' q p t m d gg lab g B0 NB N ln (tabW P0 n f Y) (K + 1) ∧ Kf w w' [t, m, d, gg] := by
  have hN := h.rd.hN
  obtain ⟨g1, g2, g3, g4, g5, g6, g7, g8, g9, g10, g11, g12, g13, g14⟩ := hg
  refine (write_any6 g n t m d gg N K P0 M Y f hf hc h1 h2 g6 g2 (by omega) (by omega) g3 (by omega) (by omega) (by omega) (by omega) hT hK w h.rd).mono ?_
  rintro e w' ⟨he, hR, hk⟩
  exact ⟨he, h.call hR hk, hk⟩
set_option maxHeartbeats 20000000 in
set_option maxRecDepth 100000 in
theorem gnode_in (q p t m d gg lab B0 P0 M DA NB N K : Nat) (g : Cf.Ge) (Y : Nat → Nat → Int) (V : Nat → Nat → Int) (n : Nat) (h1 : 1 ≤ n) (h2 : n ≤ M) (hK : K < 600000000) (hI : Tab P0 M Y V) (hg : GG g B0 P0 M DA NB N) (w : World) (h : Gr w q p t m d gg lab g B0 NB N ln Y K) :
    Calls Tryz.prog 57 #[.pointer (some ⟨q, 0, none⟩), .int .i64 n] w fun e w' => e = .returned (.tuple #[.agg (ndc (V n)).toArray, .int .i64 0]) ∧ Gr w' q p t m d gg lab g B0 NB N ln Y (K + 1) ∧ Kf w w' [t, m, d, gg] := by
  obtain ⟨d53, hu53, hd53⟩ := Tryz.desc53
  have HU53 := Lib.hid hu53
  have HD53 := Lib.hid hd53
  obtain ⟨d27, hu27, hd27⟩ := Tryz.desc27
  have HU27 := Lib.hid hu27
  have HD27 := Lib.hid hd27
  have HS53 := Lib.hid (size53 g)
  clear hu53 hd53 hu27 hd27
  have HRd := Lib.hid (fun W hW => gread (ln := ln) q p t m d gg lab B0 P0 M DA NB N K g Y V n h1 h2 hK hI hg W hW)
  have HG := Lib.hid h
  have lts := Lib.hid h.lts
  obtain ⟨f, hf⟩ : ∃ f, V n = f := ⟨_, rfl⟩
  rw [hf] at HRd ⊢
  have hq0 := h.lts.1
  clear hf hI h hg h1 h2 hK
  go_enter Tryz.func57, Tryz.ntmps57
  go_upto_region 3 with (first | (refine wpList_alloc_list (w := w) rfl 68 rfl (ndc zpt) Tryz.zero27 ?_; intro w1 F1 hb1 hz1; have HB1 := Lib.hid hb1; have HG1 := Lib.hid (HG.out.keep hb1); clear hb1 hz1))
  obtain ⟨b, hb⟩ : ∃ b, w.heap.size = b := ⟨_, rfl⟩
  have NB6 := Lib.hid (nin6 lts.out.1 lts.out.2.1 lts.out.2.2.1 lts.out.2.2.2.1 lts.out.2.2.2.2.1 lts.out.2.2.2.2.2 (Nat.le_of_eq hb))
  have HK1 := Lib.hid (Kf.of_below HB1.out [t, m, d, gg])
  have HWb := Lib.hid (Nat.le_of_eq hb)
  rw [hb] at F1 hq0
  try rw [hb]
  clear hb lts HB1 HG
  refine wp_region_held (S := fun W => Vl W q (gpc t lab g p)) (by kernel_rfl) ?_
  change wpAnyH _ _ _ _ _ _ _ _ (World.drew _)
  have hS0 : (fun W => Vl W q (gpc t lab g p)) w1.drew := HG1.out.gb.keep (Below.refl _ _).drew
  have HG2 := Lib.hid (HG1.out.keep (Below.refl w1.heap.size w1).drew)
  have HK2 := Lib.hid (HK1.out.trans (Kf.of_below (Below.refl w1.heap.size w1).drew _))
  have F2 := Lib.hid (F1.out.keep (Below.refl w1.heap.size w1).drew)
  obtain ⟨w2, hw2⟩ : ∃ x, World.drew w1 = x := ⟨_, rfl⟩
  rw [hw2] at hS0 HG2 HK2 F2 ⊢
  clear hw2
  clear HG1 HK1 F1
  refine wpAnyH_take (i := 0) (v := ?_) rfl (by kernel_rfl) (by kernel_rfl) (by kernel_rfl) (fun _ _ _ h => h) (Or.inl ⟨by rfl, ?_⟩) hS0 ?_
  rotate_left 1
  · intro W hW
    go_simp
    try with_reducible rfl
  simp only [Act.put, List.getElem_toArray, List.getElem_cons_zero, List.getElem_cons_succ, List.setIfInBounds_toArray, List.set_cons_zero, List.set_cons_succ]
  refine wpAnyH_take (i := 1) (v := ?_) rfl (by kernel_rfl) (by kernel_rfl) (by kernel_rfl) (fun _ _ _ h => h) (Or.inl ⟨by rfl, ?_⟩) hS0 ?_
  rotate_left 1
  · intro W hW
    go_simp
    try with_reducible rfl
  simp only [Act.put, List.getElem_toArray, List.getElem_cons_zero, List.getElem_cons_succ, List.setIfInBounds_toArray, List.set_cons_zero, List.set_cons_succ]
  refine wpAnyH_take (i := 2) (v := ?_) rfl (by kernel_rfl) (by kernel_rfl) (by kernel_rfl) (fun _ _ _ h => h) (Or.inl ⟨by rfl, ?_⟩) hS0 ?_
  rotate_left 1
  · intro W hW
    go_simp
    try with_reducible rfl
  simp only [Act.put, List.getElem_toArray, List.getElem_cons_zero, List.getElem_cons_succ, List.setIfInBounds_toArray, List.set_cons_zero, List.set_cons_succ]
  refine wpAnyH_take (i := 3) (v := ?_) rfl (by kernel_rfl) (by kernel_rfl) (by kernel_rfl) (fun _ _ _ h => h) (Or.inl ⟨by rfl, ?_⟩) hS0 ?_
  rotate_left 1
  · intro W hW
    have c0 := hW.c 0 _ rfl
    go_simp
    try with_reducible rfl
  simp only [Act.put, List.getElem_toArray, List.getElem_cons_zero, List.getElem_cons_succ, List.setIfInBounds_toArray, List.set_cons_zero, List.set_cons_succ]
  refine wpAnyH_take (i := 4) (v := ?_) rfl (by kernel_rfl) (by kernel_rfl) (by kernel_rfl) (fun _ _ _ h => h) (Or.inl ⟨by rfl, ?_⟩) hS0 ?_
  rotate_left 1
  · intro W hW
    go_simp
    try with_reducible rfl
  simp only [Act.put, List.getElem_toArray, List.getElem_cons_zero, List.getElem_cons_succ, List.setIfInBounds_toArray, List.set_cons_zero, List.set_cons_succ]
  refine wpAnyH_take (i := 5) (v := ?_) rfl (by kernel_rfl) (by kernel_rfl) (by kernel_rfl) (fun _ _ _ h => h) (Or.inl ⟨by rfl, ?_⟩) hS0 ?_
  rotate_left 1
  · intro W hW
    go_simp
    try with_reducible rfl
  simp only [Act.put, List.getElem_toArray, List.getElem_cons_zero, List.getElem_cons_succ, List.setIfInBounds_toArray, List.set_cons_zero, List.set_cons_succ]
  refine wpAnyH_take (i := 6) (v := ?_) rfl (by kernel_rfl) (by kernel_rfl) (by kernel_rfl) (fun _ _ _ h => h) (Or.inl ⟨by rfl, ?_⟩) hS0 ?_
  rotate_left 1
  · intro W hW
    go_simp
    try with_reducible rfl
  simp only [Act.put, List.getElem_toArray, List.getElem_cons_zero, List.getElem_cons_succ, List.setIfInBounds_toArray, List.set_cons_zero, List.set_cons_succ]
  refine wpAnyH_take (i := 7) (v := .agg g.cells.toArray) rfl (by kernel_rfl) (by kernel_rfl) (by kernel_rfl) (fun _ _ _ h => h) ?_ hS0 ?_
  · exact yieldsIf_load_mid (by rfl) 133 _ rfl q 2 rfl g.cells d53 (fun _ h => h.geo) HU53.out HD53.out HS53.out
  simp only [Act.put, List.getElem_toArray, List.getElem_cons_zero, List.getElem_cons_succ, List.setIfInBounds_toArray, List.set_cons_zero, List.set_cons_succ]
  refine wpAnyH_take (i := 8) (v := ?_) rfl (by kernel_rfl) (by kernel_rfl) (by kernel_rfl) (fun _ _ _ h => h) (Or.inl ⟨by rfl, ?_⟩) hS0 ?_
  rotate_left 1
  · intro W hW
    go_simp
    try with_reducible rfl
  simp only [Act.put, List.getElem_toArray, List.getElem_cons_zero, List.getElem_cons_succ, List.setIfInBounds_toArray, List.set_cons_zero, List.set_cons_succ]
  refine wpAnyH_ready (rs := [9]) (by kernel_rfl) (by simp) (AllReadyH.cons rfl (fun KK hKK => ?_) AllReadyH.nil)
  go_simp
  refine (HRd.out w2 HG2.out).mono ?_
  rintro e w3 ⟨rfl, hG, hk⟩
  have HG3 := Lib.hid hG
  have HK3 := Lib.hid (HK2.out.trans hk)
  have nb4 : b ∉ [t, m, d, gg] := by have := NB6.out; simp at this ⊢; omega
  have F3 := Lib.hid (F2.out.kf hk nb4)
  replace hS0 : (fun W => Vl W q (gpc t lab g p)) w3 := HG3.out.gb
  clear hG hk HG2 HK2 F2 nb4
  refine hKK _ _ hS0 ?_
  intro _
  clear hKK KK
  try simp only [Act.put, List.getElem_toArray, List.getElem_cons_zero, List.getElem_cons_succ, List.setIfInBounds_toArray, List.set_cons_zero, List.set_cons_succ]
  refine wpAnyH_take (i := 10) (v := ?_) rfl (by kernel_rfl) (by kernel_rfl) (by kernel_rfl) (fun _ _ _ h => h) (Or.inl ⟨by rfl, ?_⟩) hS0 ?_
  rotate_left 1
  · intro W hW
    go_simp
    try with_reducible rfl
  simp only [Act.put, List.getElem_toArray, List.getElem_cons_zero, List.getElem_cons_succ, List.setIfInBounds_toArray, List.set_cons_zero, List.set_cons_succ]
  refine wpAnyH_take (i := 11) (v := ?_) rfl (by kernel_rfl) (by kernel_rfl) (by kernel_rfl) (fun _ _ _ h => h) (Or.inl ⟨by rfl, ?_⟩) hS0 ?_
  rotate_left 1
  · intro W hW
    go_simp
    try with_reducible rfl
  simp only [Act.put, List.getElem_toArray, List.getElem_cons_zero, List.getElem_cons_succ, List.setIfInBounds_toArray, List.set_cons_zero, List.set_cons_succ]
  refine wpAnyH_ready (rs := [12]) (by kernel_rfl) (by simp) (AllReadyH.cons rfl (fun KK hKK => ?_) AllReadyH.nil)
  refine step_store_mid rfl 68 _ _ rfl b 0 (ndc f).toArray rfl rfl (F3.out.there0 12 rfl) (size27' _) (all_oneCell_toArray (ndc_one _)) ?_
  rw [List.toList_toArray]
  have F5 := Lib.hid (F3.out.stored (ndc f) rfl)
  have hk5 : Kp w3 (w3.setCells b 0 (ndc f)) b b := (Kp.refl _ _ _).setCells b 0 (.inl rfl) _
  have HG5 := Lib.hid (HG3.out.kp hk5 NB6.out)
  have HK5 := Lib.hid (HK3.out.fresh hk5 HWb.out)
  obtain ⟨w5, hw5⟩ : ∃ x, w3.setCells b 0 (ndc f) = x := ⟨_, rfl⟩
  rw [hw5] at F5 HG5 HK5 ⊢
  clear hS0 hk5 hw5 F3 HG3 HK3
  have hS0 : (fun W => Vl W q (gpc t lab g p)) w5 := HG5.out.gb
  refine hKK _ _ hS0 ?_
  intro _
  clear hKK KK
  try simp only [Act.put, List.getElem_toArray, List.getElem_cons_zero, List.getElem_cons_succ, List.setIfInBounds_toArray, List.set_cons_zero, List.set_cons_succ]
  refine wpAnyH_take (i := 13) (v := ?_) rfl (by kernel_rfl) (by kernel_rfl) (by kernel_rfl) (fun _ _ _ h => h) (Or.inl ⟨by rfl, ?_⟩) hS0 ?_
  rotate_left 1
  · intro W hW
    go_simp
    try with_reducible rfl
  simp only [Act.put, List.getElem_toArray, List.getElem_cons_zero, List.getElem_cons_succ, List.setIfInBounds_toArray, List.set_cons_zero, List.set_cons_succ]
  refine wpAnyH_done (by kernel_rfl) ?_ _
  clear hS0
  go_wp2_with fail
  exact bodyPost_ret_by (results_mid_tmp rfl _ _ b (ndc f) d27 rfl F5.out.range0 HU27.out HD27.out (size27 _)) rfl ⟨rfl, HG5.out, HK5.out⟩
set_option maxHeartbeats 20000000 in
set_option maxRecDepth 100000 in
theorem gset_in (q p t m d gg lab B0 P0 M DA NB N K : Nat) (g : Cf.Ge) (Y : Nat → Nat → Int) (f : Nat → Int) (hf : NdOk f) (hc : codeN f = 0) (n : Nat) (h1 : 1 ≤ n) (h2 : n ≤ M) (hT : Has ln (P0 + (n - 1) / 2)) (hK : K < 600000000) (hg : GG g B0 P0 M DA NB N) (w : World) (h : Gr w q p t m d gg lab g B0 NB N ln Y K) :
    Calls Tryz.prog 19 #[.pointer (some ⟨q, 0, none⟩), .int .i64 n, .agg (ndc f).toArray] w fun e w' => e = .returned (.int .i64 0) ∧ Gr w' q p t m d gg lab g B0 NB N ln (tabW P0 n f Y) (K + 1) ∧ Kf w w' [t, m, d, gg] := by
  obtain ⟨d53, hu53, hd53⟩ := Tryz.desc53
  have HU53 := Lib.hid hu53
  have HD53 := Lib.hid hd53
  obtain ⟨d27, hu27, hd27⟩ := Tryz.desc27
  have HU27 := Lib.hid hu27
  have HD27 := Lib.hid hd27
  have HS53 := Lib.hid (size53 g)
  clear hu53 hd53 hu27 hd27
  have HWr := Lib.hid (fun W hW => gwrite (ln := ln) q p t m d gg lab B0 P0 M DA NB N K g Y f hf hc n h1 h2 hT hK hg W hW)
  have HG := Lib.hid h
  have lts := Lib.hid h.lts
  obtain ⟨Z, hZ⟩ : ∃ Z, tabW P0 n f Y = Z := ⟨_, rfl⟩
  rw [hZ] at HWr ⊢
  have hq0 := h.lts.1
  clear hZ hf hc h hg h1 h2 hK hT
  go_enter Tryz.func19, Tryz.ntmps19
  go_upto_region 3 with (first | (refine wpList_box_list (w := w) rfl 68 _ rfl (ndc f) rfl ?_; intro w1 F1 hb1 hz1; have HB1 := Lib.hid hb1; have HG1 := Lib.hid (HG.out.keep hb1); clear hb1 hz1))
  obtain ⟨b, hb⟩ : ∃ b, w.heap.size = b := ⟨_, rfl⟩
  have NB6 := Lib.hid (nin6 lts.out.1 lts.out.2.1 lts.out.2.2.1 lts.out.2.2.2.1 lts.out.2.2.2.2.1 lts.out.2.2.2.2.2 (Nat.le_of_eq hb))
  have HK1 := Lib.hid (Kf.of_below HB1.out [t, m, d, gg])
  rw [hb] at F1 hq0
  try rw [hb]
  clear hb lts HB1 HG
  refine wp_region_held (S := fun W => Vl W q (gpc t lab g p) ∧ Vl W b (ndc f)) (by kernel_rfl) ?_
  change wpAnyH _ _ _ _ _ _ _ _ (World.drew _)
  have hS0 : (fun W => Vl W q (gpc t lab g p) ∧ Vl W b (ndc f)) w1.drew := ⟨HG1.out.gb.keep (Below.refl _ _).drew, F1.out.keep (Below.refl _ _).drew⟩
  have HG2 := Lib.hid (HG1.out.keep (Below.refl w1.heap.size w1).drew)
  have HK2 := Lib.hid (HK1.out.trans (Kf.of_below (Below.refl w1.heap.size w1).drew _))
  obtain ⟨w2, hw2⟩ : ∃ x, World.drew w1 = x := ⟨_, rfl⟩
  rw [hw2] at hS0 HG2 HK2 ⊢
  clear hw2
  clear HG1 HK1 F1
  refine wpAnyH_take (i := 0) (v := ?_) rfl (by kernel_rfl) (by kernel_rfl) (by kernel_rfl) (fun _ _ _ h => h) (Or.inl ⟨by rfl, ?_⟩) hS0 ?_
  rotate_left 1
  · intro W hW
    go_simp
    try with_reducible rfl
  simp only [Act.put, List.getElem_toArray, List.getElem_cons_zero, List.getElem_cons_succ, List.setIfInBounds_toArray, List.set_cons_zero, List.set_cons_succ]
  refine wpAnyH_take (i := 1) (v := ?_) rfl (by kernel_rfl) (by kernel_rfl) (by kernel_rfl) (fun _ _ _ h => h) (Or.inl ⟨by rfl, ?_⟩) hS0 ?_
  rotate_left 1
  · intro W hW
    go_simp
    try with_reducible rfl
  simp only [Act.put, List.getElem_toArray, List.getElem_cons_zero, List.getElem_cons_succ, List.setIfInBounds_toArray, List.set_cons_zero, List.set_cons_succ]
  refine wpAnyH_take (i := 2) (v := ?_) rfl (by kernel_rfl) (by kernel_rfl) (by kernel_rfl) (fun _ _ _ h => h) (Or.inl ⟨by rfl, ?_⟩) hS0 ?_
  rotate_left 1
  · intro W hW
    go_simp
    try with_reducible rfl
  simp only [Act.put, List.getElem_toArray, List.getElem_cons_zero, List.getElem_cons_succ, List.setIfInBounds_toArray, List.set_cons_zero, List.set_cons_succ]
  refine wpAnyH_take (i := 3) (v := ?_) rfl (by kernel_rfl) (by kernel_rfl) (by kernel_rfl) (fun _ _ _ h => h) (Or.inl ⟨by rfl, ?_⟩) hS0 ?_
  rotate_left 1
  · intro W hW
    have c0 := hW.1.c 0 _ rfl
    go_simp
    try with_reducible rfl
  simp only [Act.put, List.getElem_toArray, List.getElem_cons_zero, List.getElem_cons_succ, List.setIfInBounds_toArray, List.set_cons_zero, List.set_cons_succ]
  refine wpAnyH_take (i := 4) (v := ?_) rfl (by kernel_rfl) (by kernel_rfl) (by kernel_rfl) (fun _ _ _ h => h) (Or.inl ⟨by rfl, ?_⟩) hS0 ?_
  rotate_left 1
  · intro W hW
    go_simp
    try with_reducible rfl
  simp only [Act.put, List.getElem_toArray, List.getElem_cons_zero, List.getElem_cons_succ, List.setIfInBounds_toArray, List.set_cons_zero, List.set_cons_succ]
  refine wpAnyH_take (i := 5) (v := ?_) rfl (by kernel_rfl) (by kernel_rfl) (by kernel_rfl) (fun _ _ _ h => h) (Or.inl ⟨by rfl, ?_⟩) hS0 ?_
  rotate_left 1
  · intro W hW
    go_simp
    try with_reducible rfl
  simp only [Act.put, List.getElem_toArray, List.getElem_cons_zero, List.getElem_cons_succ, List.setIfInBounds_toArray, List.set_cons_zero, List.set_cons_succ]
  refine wpAnyH_take (i := 6) (v := ?_) rfl (by kernel_rfl) (by kernel_rfl) (by kernel_rfl) (fun _ _ _ h => h) (Or.inl ⟨by rfl, ?_⟩) hS0 ?_
  rotate_left 1
  · intro W hW
    go_simp
    try with_reducible rfl
  simp only [Act.put, List.getElem_toArray, List.getElem_cons_zero, List.getElem_cons_succ, List.setIfInBounds_toArray, List.set_cons_zero, List.set_cons_succ]
  refine wpAnyH_take (i := 7) (v := .agg g.cells.toArray) rfl (by kernel_rfl) (by kernel_rfl) (by kernel_rfl) (fun _ _ _ h => h) ?_ hS0 ?_
  · exact yieldsIf_load_mid (by rfl) 133 _ rfl q 2 rfl g.cells d53 (fun _ h => h.1.geo) HU53.out HD53.out HS53.out
  simp only [Act.put, List.getElem_toArray, List.getElem_cons_zero, List.getElem_cons_succ, List.setIfInBounds_toArray, List.set_cons_zero, List.set_cons_succ]
  refine wpAnyH_take (i := 8) (v := ?_) rfl (by kernel_rfl) (by kernel_rfl) (by kernel_rfl) (fun _ _ _ h => h) (Or.inl ⟨by rfl, ?_⟩) hS0 ?_
  rotate_left 1
  · intro W hW
    go_simp
    try with_reducible rfl
  simp only [Act.put, List.getElem_toArray, List.getElem_cons_zero, List.getElem_cons_succ, List.setIfInBounds_toArray, List.set_cons_zero, List.set_cons_succ]
  refine wpAnyH_take (i := 9) (v := .agg (ndc f).toArray) rfl (by kernel_rfl) (by kernel_rfl) (by kernel_rfl) (fun _ _ _ h => h) ?_ hS0 ?_
  · exact yieldsIf_load_mid (by rfl) 68 _ rfl b 0 rfl (ndc f) d27 (fun _ h => h.2.range0) HU27.out HD27.out (size27 _)
  simp only [Act.put, List.getElem_toArray, List.getElem_cons_zero, List.getElem_cons_succ, List.setIfInBounds_toArray, List.set_cons_zero, List.set_cons_succ]
  refine wpAnyH_ready (rs := [10]) (by kernel_rfl) (by simp) (AllReadyH.cons rfl (fun KK hKK => ?_) AllReadyH.nil)
  go_simp
  refine (HWr.out w2 HG2.out).mono ?_
  rintro e w3 ⟨rfl, hG, hk⟩
  have HG3 := Lib.hid hG
  have HK3 := Lib.hid (HK2.out.trans hk)
  have nb4 : b ∉ [t, m, d, gg] := by have := NB6.out; simp at this ⊢; omega
  replace hS0 : (fun W => Vl W q (gpc t lab g p) ∧ Vl W b (ndc f)) w3 := ⟨HG3.out.gb, hS0.2.kf hk nb4⟩
  clear hG hk HG2 HK2 nb4
  refine hKK _ _ hS0 ?_
  intro _
  clear hKK KK
  try simp only [Act.put, List.getElem_toArray, List.getElem_cons_zero, List.getElem_cons_succ, List.setIfInBounds_toArray, List.set_cons_zero, List.set_cons_succ]
  refine wpAnyH_take (i := 11) (v := ?_) rfl (by kernel_rfl) (by kernel_rfl) (by kernel_rfl) (fun _ _ _ h => h) (Or.inl ⟨by rfl, ?_⟩) hS0 ?_
  rotate_left 1
  · intro W hW
    go_simp
    try with_reducible rfl
  simp only [Act.put, List.getElem_toArray, List.getElem_cons_zero, List.getElem_cons_succ, List.setIfInBounds_toArray, List.set_cons_zero, List.set_cons_succ]
  refine wpAnyH_done (by kernel_rfl) ?_ _
  clear hS0
  go_wp2_with fail
  go_ret
  exact ⟨rfl, HG3.out, HK3.out⟩
/-- a node of another generation -/
def setG (f : Nat → Int) (x : Int) : Nat → Int := fun i => if i = 2 then x else f i
theorem setG_set (f : Nat → Int) (x : Int) : (ndc f).set 2 (.int .u16 x) = ndc (setG f x) := rfl
theorem setG_ok {f : Nat → Int} (hf : NdOk f) {x : Int} (h0 : 0 ≤ x) (h1 : x < 65536) : NdOk (setG f x) := by
  obtain ⟨a, b, c, d, e⟩ := hf
  refine ⟨a, b, ⟨h0, h1⟩, d, fun i h2 h3 => ?_⟩
  unfold setG
  rw [if_neg (by omega)]
  exact e i h2 h3
theorem code_of {f : Nat → Int} (h1 : 0 < f 1) (hm : mbl (f 0) (f 3) = true) : codeN f = 0 := by
  unfold codeN okN
  rw [if_pos (by rw [hm, decide_eq_true h1]; simp)]
theorem setG_code {f : Nat → Int} (x : Int) (h1 : 0 < f 1) (hm : mbl (f 0) (f 3) = true) : codeN (setG f x) = 0 := code_of h1 hm
set_option maxHeartbeats 20000000 in
set_option maxRecDepth 100000 in
theorem gadd_in (q p t m d gg lab B0 P0 M DA NB N K : Nat) (g : Cf.Ge) (Y : Nat → Nat → Int) (V : Nat → Nat → Int) (f : Nat → Int) (hf : NdOk f) (n0 : Nat) (k1 : 1 ≤ n0) (k2 : n0 ≤ M) (hz : V n0 0 = 0) (hnz : ∀ j, 1 ≤ j → j < n0 → V j 0 ≠ 0) (x : Int) (hx : IntKind.u16.wrap (V n0 2 + 1) = x) (x0 : 0 ≤ x) (x1 : x < 65536) (f1 : 0 < f 1) (f2 : mbl (f 0) (f 3) = true) (hT : Has ln (P0 + (n0 - 1) / 2)) (hK : K < 500000000) (hI : Tab P0 M Y V) (hg : GG g B0 P0 M DA NB N) (w : World) (h : Gr w q p t m d gg lab g B0 NB N ln Y K) :
    Calls Tryz.prog 56 #[.pointer (some ⟨q, 0, none⟩), .agg (ndc f).toArray] w fun e w' => e = .returned (.tuple #[.int .i64 n0, .int .i64 0]) ∧ Gr w' q p t m d gg lab g B0 NB N ln (tabW P0 n0 (setG f x) Y) (K + 200) ∧ Kf w w' [t, m, d, gg] := by
  obtain ⟨d27, hu27, hd27⟩ := Tryz.desc27
  have HU27 := Lib.hid hu27
  have HD27 := Lib.hid hd27
  have HG := Lib.hid h
  have HI := Lib.hid hI
  have HNZ := Lib.hid hnz
  have lts := Lib.hid h.lts
  have hq0 := h.lts.1
  have hM := hg.nd
  have hM4 := hg.m4
  have hM8 := hg.m128
  have HGG := Lib.hid hg
  have HZ := Lib.hid hz
  have HX := Lib.hid hx
  have HF1 := Lib.hid f1
  have HF2 := Lib.hid f2
  clear hz hx f1 f2
  have HNd := Lib.hid hM
  have HF := Lib.hid hf
  clear hu27 hd27 h hI hnz hg hM hf
  go_enter Tryz.func56, Tryz.ntmps56
  go_wp2_with (first | (refine wpList_box_list (w := w) rfl 68 _ rfl (ndc f) rfl ?_; intro w1 F1 hb1 hz1; have HB1 := Lib.hid hb1; have HG1 := Lib.hid (HG.out.keep hb1); clear hb1 hz1))
  obtain ⟨b, hb⟩ : ∃ b, w.heap.size = b := ⟨_, rfl⟩
  have NB6 := Lib.hid (nin6 lts.out.1 lts.out.2.1 lts.out.2.2.1 lts.out.2.2.2.1 lts.out.2.2.2.2.1 lts.out.2.2.2.2.2 (Nat.le_of_eq hb))
  have HK1 := Lib.hid (Kf.of_below HB1.out [t, m, d, gg])
  have HWb := Lib.hid (Nat.le_of_eq hb)
  have hbl := F1.out.lt
  rw [hb] at F1 hq0 hbl
  try rw [hb]
  have nb4 : b ∉ [t, m, d, gg] := by have := NB6.out; simp at this ⊢; omega
  have NB4 := Lib.hid nb4
  clear hb lts HB1 HG nb4
  go_loopw [6] (fun y wr => ∃ k : Nat, 1 ≤ k ∧ k ≤ n0 ∧ y = .int .i64 k ∧ Gr wr q p t m d gg lab g B0 NB N ln Y (K + k) ∧ Kf w wr [t, m, d, gg] ∧ Vl wr b (ndc f)) (fun y _ => 200 - (Go.RowKit.intOf y).toNat)
  case atStart => exact ⟨1, Nat.le_refl _, by omega, rfl, HG1.out.mono (Lm.le_refl _) (by omega), HK1.out, F1.out⟩
  case round =>
    obtain ⟨k, hk1, hk2, rfl, hGr, hkf, hFb⟩ := hrel
    have HGr := Lib.hid hGr
    have HKf := Lib.hid hkf
    have HFb := Lib.hid hFb
    have c7 := hGr.gb.c 7 _ rfl
    rw [HNd.out] at c7
    have hbs := hFb.lt
    have hqs := hGr.gb.lt
    clear hGr hkf hFb HG1 HK1 F1
    by_cases hlt : k < n0
    · have HNo := Lib.hid (gnode_in (ln := ln) q p t m d gg lab B0 P0 M DA NB N (K + k) g Y V k hk1 (by omega) (by omega) HI.out HGG.out wr HGr.out)
      have hv := HNZ.out k hk1 (by omega)
      obtain ⟨v, hvn⟩ : ∃ v, V k = v := ⟨_, rfl⟩
      rw [hvn] at HNo hv
      have hkM : (k : Int) ≤ M := by omega
      have hk0 : (0 : Int) ≤ k := by omega
      have HV := Lib.hid hv
      have HVn := Lib.hid hvn
      clear hv hvn
      go_wp2_with fail
      refine HNo.out.mono ?_
      rintro e u1 ⟨rfl, hGr, hk⟩
      have HG2 := Lib.hid hGr
      have HK2 := Lib.hid (HKf.out.trans hk)
      have FB2 := Lib.hid (HFb.out.kf hk NB4.out)
      clear hGr hk HNo HGr HKf HFb c7
      go_upto_region 5 with (first | (refine wpList_alloc_list (w := u1) rfl 68 rfl (ndc zpt) Tryz.zero27 ?_; intro u2 G2 hb2 hz2; simp only [Act.put, List.getElem_toArray, List.getElem_cons_zero, List.getElem_cons_succ, List.setIfInBounds_toArray, List.set_cons_zero, List.set_cons_succ]; refine wpList_store_list rfl 68 (.tmp 7) (.tmp 23) rfl u1.heap.size (ndc zpt) (ndc v) rfl rfl G2.out rfl (size27 _) (ndc_one _) ?_; intro u3 F3 HP3; have HQ2 := Lib.hid hb2; clear hb2 hz2 G2))
      obtain ⟨c, hc⟩ : ∃ c, u1.heap.size = c := ⟨_, rfl⟩
      have hcb : b < c := by rw [← hc]; exact FB2.out.lt
      have HK3 := Lib.hid ((HK2.out.more HQ2.out).new HP3.out HK2.out.size)
      have HG3 := Lib.hid ((HG2.out.keep HQ2.out).kp HP3.out (HG2.out.notin (Nat.le_refl _)))
      have FB3' := Lib.hid (FB2.out.keep HQ2.out)
      have FB3 := Lib.hid (FB3'.out.kp HP3.out (by omega) (by omega))
      rw [hc] at F3
      try rw [hc]
      clear hc HQ2 HP3 HK2 HG2 FB2 FB3'
      have e0 := F3.out.c 0 _ rfl
      have hv0 : ¬ v 0 = 0 := HV.out
      go_wp2_with fail
      go_roundw
      case rel => exact ⟨k + 1, by omega, by omega, by go_num, HG3.out.mono (Lm.le_refl _) (by omega), HK3.out, FB3.out⟩
      case measure => simp [Go.RowKit.intOf]; omega
    · obtain rfl : k = n0 := by omega
      have HNo := Lib.hid (gnode_in (ln := ln) q p t m d gg lab B0 P0 M DA NB N (K + k) g Y V k hk1 (by omega) (by omega) HI.out HGG.out wr HGr.out)
      have hv := HZ.out
      obtain ⟨v, hvn⟩ : ∃ v, V k = v := ⟨_, rfl⟩
      rw [hvn] at HNo hv
      have HX2 := HX.out
      rw [hvn] at HX2
      have hkM : (k : Int) ≤ M := by omega
      have hk0 : (0 : Int) ≤ k := by omega
      have HV := Lib.hid hv
      have HVn := Lib.hid hvn
      clear hv hvn
      go_wp2_with fail
      refine HNo.out.mono ?_
      rintro e u1 ⟨rfl, hGr, hk⟩
      have HG2 := Lib.hid hGr
      have HK2 := Lib.hid (HKf.out.trans hk)
      have FB2 := Lib.hid (HFb.out.kf hk NB4.out)
      clear hGr hk HNo HGr HKf HFb c7
      go_upto_region 5 with (first | (refine wpList_alloc_list (w := u1) rfl 68 rfl (ndc zpt) Tryz.zero27 ?_; intro u2 G2 hb2 hz2; simp only [Act.put, List.getElem_toArray, List.getElem_cons_zero, List.getElem_cons_succ, List.setIfInBounds_toArray, List.set_cons_zero, List.set_cons_succ]; refine wpList_store_list rfl 68 (.tmp 7) (.tmp 23) rfl u1.heap.size (ndc zpt) (ndc v) rfl rfl G2.out rfl (size27 _) (ndc_one _) ?_; intro u3 F3 HP3; have HQ2 := Lib.hid hb2; clear hb2 hz2 G2))
      obtain ⟨c, hc⟩ : ∃ c, u1.heap.size = c := ⟨_, rfl⟩
      have hcb : b < c := by rw [← hc]; exact FB2.out.lt
      have HK3 := Lib.hid ((HK2.out.more HQ2.out).new HP3.out HK2.out.size)
      have HG3 := Lib.hid ((HG2.out.keep HQ2.out).kp HP3.out (HG2.out.notin (Nat.le_refl _)))
      have FB3' := Lib.hid (FB2.out.keep HQ2.out)
      have FB3 := Lib.hid (FB3'.out.kp HP3.out (by omega) (by omega))
      rw [hc] at F3
      try rw [hc]
      clear hc HQ2 HP3 HK2 HG2 FB2 FB3'
      have e0 := F3.out.c 0 _ rfl
      rw [HV.out] at e0
      have e2 := F3.out.c 2 _ rfl
      have g2 := FB3.out.c 2 _ rfl
      have z2 := FB3.out.z 2 (show 2 < 12 by decide)
      go_upto_region 9 with fail
      have hkx : Kp u3 (u3.setCell ⟨b, 2, none⟩ (.int .u16 x)) b b := (Kp.refl u3 b b).setCell (p := ⟨b, 2, none⟩) (.inl rfl) _
      have HG4 := Lib.hid (HG3.out.kp hkx NB6.out)
      have HK4 := Lib.hid (HK3.out.new hkx HWb.out)
      have F4 := Lib.hid (FB3.out.set 2 (show 2 < 12 by decide) (.int .u16 x))
      obtain ⟨u4, hu4⟩ : ∃ z, u3.setCell ⟨b, 2, none⟩ (.int .u16 x) = z := ⟨_, rfl⟩
      rw [hu4] at HG4 HK4 F4 ⊢
      rw [setG_set] at F4
      clear hu4 hkx HG3 HK3 FB3 F3 e0 e2 g2 z2 HX2
      have HSe := Lib.hid (gset_in (ln := ln) q p t m d gg lab B0 P0 M DA NB N (K + k + 1) g Y (setG f x) (setG_ok HF.out x0 x1) (setG_code x HF1.out HF2.out) k hk1 k2 hT (by omega) HGG.out u4 HG4.out)
      go_wp2_with (first | (refine wpList_load_mid rfl 68 (.tmp 3) rfl b 0 rfl (ndc (setG f x)) d27 F4.out.range0 HU27.out HD27.out (size27 _) ?_))
      refine HSe.out.mono ?_
      rintro e u5 ⟨rfl, hGr, hk⟩
      have HG5 := Lib.hid (hGr.mono (Lm.le_refl _) (show K + k + 1 + 1 ≤ K + 200 by omega))
      have HK5 := Lib.hid (HK4.out.trans hk)
      clear hGr hk HSe HG4 HK4
      go_wp2_with fail
      exact bodyPost_ret (v := .tuple #[.int .i64 k, .int .i64 0]) (by simp [results, Tryz.results56, go_sem]) rfl ⟨rfl, HG5.out, HK5.out⟩
set_option maxHeartbeats 20000000 in
set_option maxRecDepth 100000 in
theorem gadd_full (q p t m d gg lab B0 P0 M DA NB N K : Nat) (g : Cf.Ge) (Y : Nat → Nat → Int) (V : Nat → Nat → Int) (f : Nat → Int) (hf : NdOk f) (hnz : ∀ j, 1 ≤ j → j < M + 1 → V j 0 ≠ 0) (hK : K < 500000000) (hI : Tab P0 M Y V) (hg : GG g B0 P0 M DA NB N) (w : World) (h : Gr w q p t m d gg lab g B0 NB N ln Y K) :
    Calls Tryz.prog 56 #[.pointer (some ⟨q, 0, none⟩), .agg (ndc f).toArray] w fun e w' => e = .returned (.tuple #[.int .i64 0, .int .i64 10]) ∧ Gr w' q p t m d gg lab g B0 NB N ln Y (K + 200) ∧ Kf w w' [t, m, d, gg] := by
  obtain ⟨d27, hu27, hd27⟩ := Tryz.desc27
  have HU27 := Lib.hid hu27
  have HD27 := Lib.hid hd27
  have HG := Lib.hid h
  have HI := Lib.hid hI
  have HNZ := Lib.hid hnz
  have lts := Lib.hid h.lts
  have hq0 := h.lts.1
  have hM := hg.nd
  have hM4 := hg.m4
  have hM8 := hg.m128
  have HGG := Lib.hid hg
  have HNd := Lib.hid hM
  have HF := Lib.hid hf
  clear hu27 hd27 h hI hnz hg hM hf
  go_enter Tryz.func56, Tryz.ntmps56
  go_wp2_with (first | (refine wpList_box_list (w := w) rfl 68 _ rfl (ndc f) rfl ?_; intro w1 F1 hb1 hz1; have HB1 := Lib.hid hb1; have HG1 := Lib.hid (HG.out.keep hb1); clear hb1 hz1))
  obtain ⟨b, hb⟩ : ∃ b, w.heap.size = b := ⟨_, rfl⟩
  have NB6 := Lib.hid (nin6 lts.out.1 lts.out.2.1 lts.out.2.2.1 lts.out.2.2.2.1 lts.out.2.2.2.2.1 lts.out.2.2.2.2.2 (Nat.le_of_eq hb))
  have HK1 := Lib.hid (Kf.of_below HB1.out [t, m, d, gg])
  have HWb := Lib.hid (Nat.le_of_eq hb)
  have hbl := F1.out.lt
  rw [hb] at F1 hq0 hbl
  try rw [hb]
  have nb4 : b ∉ [t, m, d, gg] := by have := NB6.out; simp at this ⊢; omega
  have NB4 := Lib.hid nb4
  clear hb lts HB1 HG nb4
  go_loopw [6] (fun y wr => ∃ k : Nat, 1 ≤ k ∧ k ≤ M + 1 ∧ y = .int .i64 k ∧ Gr wr q p t m d gg lab g B0 NB N ln Y (K + k) ∧ Kf w wr [t, m, d, gg] ∧ Vl wr b (ndc f)) (fun y _ => 200 - (Go.RowKit.intOf y).toNat)
  case atStart => exact ⟨1, Nat.le_refl _, by omega, rfl, HG1.out.mono (Lm.le_refl _) (by omega), HK1.out, F1.out⟩
  case round =>
    obtain ⟨k, hk1, hk2, rfl, hGr, hkf, hFb⟩ := hrel
    have HGr := Lib.hid hGr
    have HKf := Lib.hid hkf
    have HFb := Lib.hid hFb
    have c7 := hGr.gb.c 7 _ rfl
    rw [HNd.out] at c7
    have hbs := hFb.lt
    have hqs := hGr.gb.lt
    clear hGr hkf hFb HG1 HK1 F1
    by_cases hlt : k < M + 1
    · have HNo := Lib.hid (gnode_in (ln := ln) q p t m d gg lab B0 P0 M DA NB N (K + k) g Y V k hk1 (by omega) (by omega) HI.out HGG.out wr HGr.out)
      have hv := HNZ.out k hk1 (by omega)
      obtain ⟨v, hvn⟩ : ∃ v, V k = v := ⟨_, rfl⟩
      rw [hvn] at HNo hv
      have hkM : (k : Int) ≤ M := by omega
      have hk0 : (0 : Int) ≤ k := by omega
      have HV := Lib.hid hv
      have HVn := Lib.hid hvn
      clear hv hvn
      go_wp2_with fail
      refine HNo.out.mono ?_
      rintro e u1 ⟨rfl, hGr, hk⟩
      have HG2 := Lib.hid hGr
      have HK2 := Lib.hid (HKf.out.trans hk)
      have FB2 := Lib.hid (HFb.out.kf hk NB4.out)
      clear hGr hk HNo HGr HKf HFb c7
      go_upto_region 5 with (first | (refine wpList_alloc_list (w := u1) rfl 68 rfl (ndc zpt) Tryz.zero27 ?_; intro u2 G2 hb2 hz2; simp only [Act.put, List.getElem_toArray, List.getElem_cons_zero, List.getElem_cons_succ, List.setIfInBounds_toArray, List.set_cons_zero, List.set_cons_succ]; refine wpList_store_list rfl 68 (.tmp 7) (.tmp 23) rfl u1.heap.size (ndc zpt) (ndc v) rfl rfl G2.out rfl (size27 _) (ndc_one _) ?_; intro u3 F3 HP3; have HQ2 := Lib.hid hb2; clear hb2 hz2 G2))
      obtain ⟨c, hc⟩ : ∃ c, u1.heap.size = c := ⟨_, rfl⟩
      have hcb : b < c := by rw [← hc]; exact FB2.out.lt
      have HK3 := Lib.hid ((HK2.out.more HQ2.out).new HP3.out HK2.out.size)
      have HG3 := Lib.hid ((HG2.out.keep HQ2.out).kp HP3.out (HG2.out.notin (Nat.le_refl _)))
      have FB3' := Lib.hid (FB2.out.keep HQ2.out)
      have FB3 := Lib.hid (FB3'.out.kp HP3.out (by omega) (by omega))
      rw [hc] at F3
      try rw [hc]
      clear hc HQ2 HP3 HK2 HG2 FB2 FB3'
      have e0 := F3.out.c 0 _ rfl
      have hv0 : ¬ v 0 = 0 := HV.out
      go_wp2_with fail
      go_roundw
      case rel => exact ⟨k + 1, by omega, by omega, by go_num, HG3.out.mono (Lm.le_refl _) (by omega), HK3.out, FB3.out⟩
      case measure => simp [Go.RowKit.intOf]; omega
    · have hk3 : (M : Int) < k := by omega
      go_wp2_with fail
      exact bodyPost_ret (v := .tuple #[.int .i64 0, .int .i64 10]) (by simp [results, Tryz.results56, go_sem]) rfl ⟨rfl, HGr.out.mono (Lm.le_refl _) (by omega), HKf.out⟩
end Go.Proofs.YtnfadmifdncjoaaGreat
