import Derived.Test.YteaoabppppbkoaaGreatDoorJ16
import Derived.Test.YteaoabppppbkoaaGreatDoorJ14
/- A group: Node, Set, the first free node, MakeLink, Make. -/
/- Files: a body in its group; at. -/
/- Files: which blocks a node has (slots): the pure side of taking one. -/
/- Files: at and point, by slots. -/

namespace Go.Proofs.YteaoabppppbkoaaGreatDoor
set_option linter.unusedSimpArgs false
set_option linter.unusedVariables false
open Go.RowKit Go.Maps

variable {ln : Lm}
theorem Vl.geo {w : World} {q t p : Nat} {lab : Int} {g : Cf.Ge} (h : Vl w q (gpc t lab g p)) : w.rangeAt q 2 g.cells := fun j v hj => h.c (2 + j) v (by
  match j, hj with
  | 0, hj => exact hj
  | 1, hj => exact hj
  | 2, hj => exact hj
  | 3, hj => exact hj
  | 4, hj => exact hj
  | 5, hj => exact hj
  | _ + 6, hj => cases hj)
theorem gread (q p t m d gg lab B0 P0 M DA NB N K : Nat) (g : Cf.Ge) (Y : Nat → Nat → Int) (V : Nat → Nat → Int) (n : Nat) (h1 : 1 ≤ n) (h2 : n ≤ M) (hK : K < 600000000) (hI : Tab P0 M Y V) (hg : GG g B0 P0 M DA NB N) (w : World) (h : Gr w q p t m d gg lab g B0 NB N ln Y K) :
    Calls Tryz.prog 71 #[.pointer (some ⟨t, 0, none⟩), .agg g.cells.toArray, .int .i64 n] w fun e w' => e = .returned (.tuple #[.agg (ndc (V n)).toArray, .int .i64 0]) ∧ Gr w' q p t m d gg lab g B0 NB N ln Y (K + 1) ∧ Kf w w' [t, m, d, gg] := by
  have hN := h.rd.hN
  obtain ⟨g1, g2, g3, g4, g5, g6, g7, g8, g9, g10, g11, g12, g13, g14⟩ := hg
  refine (read_any6 g n t m d gg N K P0 M Y V h1 h2 g6 g2 (by omega) (by omega) g3 (by omega) (by omega) (by omega) (by omega) hK hI w h.rd).mono ?_
  rintro e w' ⟨he, hR, hk⟩
  exact ⟨he, h.call hR hk, hk⟩
theorem gwrite (q p t m d gg lab B0 P0 M DA NB N K : Nat) (g : Cf.Ge) (Y : Nat → Nat → Int) (f : Nat → Int) (hf : NdOk f) (hc : codeN f = 0) (n : Nat) (h1 : 1 ≤ n) (h2 : n ≤ M) (hT : Has ln (P0 + (n - 1) / 2)) (hK : K < 600000000) (hg : GG g B0 P0 M DA NB N) (w : World) (h : Gr w q p t m d gg lab g B0 NB N ln Y K) :
    Calls Tryz.prog 55 #[.pointer (some ⟨t, 0, none⟩), .agg g.cells.toArray, .int .i64 n, .agg (ndc f).toArray] w fun e w' => e = .returned (.int .i64 0) ∧ Gr w' q p t m d gg lab g B0 NB N ln (tabW P0 n f Y) (K + 1) ∧ Kf w w' [t, m, d, gg] := by
  have hN := h.rd.hN
  obtain ⟨g1, g2, g3, g4, g5, g6, g7, g8, g9, g10, g11, g12, g13, g14⟩ := hg
  refine (write_any6 g n t m d gg N K P0 M Y f hf hc h1 h2 g6 g2 (by omega) (by omega) g3 (by omega) (by omega) (by omega) (by omega) hT hK w h.rd).mono ?_
  rintro e w' ⟨he, hR, hk⟩
  exact ⟨he, h.call hR hk, hk⟩
set_option maxHeartbeats 20000000 in
set_option maxRecDepth 100000 in
theorem gnode_in (q p t m d gg lab B0 P0 M DA NB N K : Nat) (g : Cf.Ge) (Y : Nat → Nat → Int) (V : Nat → Nat → Int) (n : Nat) (h1 : 1 ≤ n) (h2 : n ≤ M) (hK : K < 600000000) (hI : Tab P0 M Y V) (hg : GG g B0 P0 M DA NB N) (w : World) (h : Gr w q p t m d gg lab g B0 NB N ln Y K) :
    Calls Tryz.prog 27 #[.pointer (some ⟨q, 0, none⟩), .int .i64 n] w fun e w' => e = .returned (.tuple #[.agg (ndc (V n)).toArray, .int .i64 0]) ∧ Gr w' q p t m d gg lab g B0 NB N ln Y (K + 1) ∧ Kf w w' [t, m, d, gg] := by
  obtain ⟨d53, hu53, hd53⟩ := Tryz.desc53
  have HU53 := Lib.hid hu53
  have HD53 := Lib.hid hd53
  obtain ⟨d27, hu27, hd27⟩ := Tryz.desc27
  have HU27 := Lib.hid hu27
  have HD27 := Lib.hid hd27
  have HS53 := Lib.hid (size53 g)
  clear hu53 hd53 hu27 hd27
  have HRd := Lib.hid (fun W hW => gread (ln := ln) q p t m d gg lab B0 P0 M DA NB N K g Y V n h1 h2 hK hI hg W hW)
  have HG := Lib.hid h
  have lts := Lib.hid h.lts
  obtain ⟨f, hf⟩ : ∃ f, V n = f := ⟨_, rfl⟩
  rw [hf] at HRd ⊢
  have hq0 := h.lts.1
  clear hf hI h hg h1 h2 hK
  go_enter Tryz.func27, Tryz.ntmps27
  go_upto_region 3 with (first | (refine wpList_alloc_list (w := w) rfl 77 rfl (ndc zpt) Tryz.zero27 ?_; intro w1 F1 hb1 hz1; have HB1 := Lib.hid hb1; have HG1 := Lib.hid (HG.out.keep hb1); clear hb1 hz1))
  obtain ⟨b, hb⟩ : ∃ b, w.heap.size = b := ⟨_, rfl⟩
  have NB6 := Lib.hid (nin6 lts.out.1 lts.out.2.1 lts.out.2.2.1 lts.out.2.2.2.1 lts.out.2.2.2.2.1 lts.out.2.2.2.2.2 (Nat.le_of_eq hb))
  have HK1 := Lib.hid (Kf.of_below HB1.out [t, m, d, gg])
  have HWb := Lib.hid (Nat.le_of_eq hb)
  rw [hb] at F1 hq0
  try rw [hb]
  clear hb lts HB1 HG
  refine wp_region_held (S := fun W => Vl W q (gpc t lab g p)) (by kernel_rfl) ?_
  change wpAnyH _ _ _ _ _ _ _ _ (World.drew _)
  have hS0 : (fun W => Vl W q (gpc t lab g p)) w1.drew := HG1.out.gb.keep (Below.refl _ _).drew
  have HG2 := Lib.hid (HG1.out.keep (Below.refl w1.heap.size w1).drew)
  have HK2 := Lib.hid (HK1.out.trans (Kf.of_below (Below.refl w1.heap.size w1).drew _))
  have F2 := Lib.hid (F1.out.keep (Below.refl w1.heap.size w1).drew)
  obtain ⟨w2, hw2⟩ : ∃ x, World.drew w1 = x := ⟨_, rfl⟩
  rw [hw2] at hS0 HG2 HK2 F2 ⊢
  clear hw2
  clear HG1 HK1 F1
  refine wpAnyH_take (i := 0) (v := ?_) rfl (by kernel_rfl) (by kernel_rfl) (by kernel_rfl) (fun _ _ _ h => h) (Or.inl ⟨by rfl, ?_⟩) hS0 ?_
  rotate_left 1
  · intro W hW
    go_simp
    try with_reducible rfl
  simp only [Act.put, List.getElem_toArray, List.getElem_cons_zero, List.getElem_cons_succ, List.setIfInBounds_toArray, List.set_cons_zero, List.set_cons_succ]
  refine wpAnyH_take (i := 1) (v := ?_) rfl (by kernel_rfl) (by kernel_rfl) (by kernel_rfl) (fun _ _ _ h => h) (Or.inl ⟨by rfl, ?_⟩) hS0 ?_
  rotate_left 1
  · intro W hW
    go_simp
    try with_reducible rfl
  simp only [Act.put, List.getElem_toArray, List.getElem_cons_zero, List.getElem_cons_succ, List.setIfInBounds_toArray, List.set_cons_zero, List.set_cons_succ]
  refine wpAnyH_take (i := 2) (v := ?_) rfl (by kernel_rfl) (by kernel_rfl) (by kernel_rfl) (fun _ _ _ h => h) (Or.inl ⟨by rfl, ?_⟩) hS0 ?_
  rotate_left 1
  · intro W hW
    go_simp
    try with_reducible rfl
  simp only [Act.put, List.getElem_toArray, List.getElem_cons_zero, List.getElem_cons_succ, List.setIfInBounds_toArray, List.set_cons_zero, List.set_cons_succ]
  refine wpAnyH_take (i := 3) (v := ?_) rfl (by kernel_rfl) (by kernel_rfl) (by kernel_rfl) (fun _ _ _ h => h) (Or.inl ⟨by rfl, ?_⟩) hS0 ?_
  rotate_left 1
  · intro W hW
    have c0 := hW.c 0 _ rfl
    go_simp
    try with_reducible rfl
  simp only [Act.put, List.getElem_toArray, List.getElem_cons_zero, List.getElem_cons_succ, List.setIfInBounds_toArray, List.set_cons_zero, List.set_cons_succ]
  refine wpAnyH_take (i := 4) (v := ?_) rfl (by kernel_rfl) (by kernel_rfl) (by kernel_rfl) (fun _ _ _ h => h) (Or.inl ⟨by rfl, ?_⟩) hS0 ?_
  rotate_left 1
  · intro W hW
    go_simp
    try with_reducible rfl
  simp only [Act.put, List.getElem_toArray, List.getElem_cons_zero, List.getElem_cons_succ, List.setIfInBounds_toArray, List.set_cons_zero, List.set_cons_succ]
  refine wpAnyH_take (i := 5) (v := ?_) rfl (by kernel_rfl) (by kernel_rfl) (by kernel_rfl) (fun _ _ _ h => h) (Or.inl ⟨by rfl, ?_⟩) hS0 ?_
  rotate_left 1
  · intro W hW
    go_simp
    try with_reducible rfl
  simp only [Act.put, List.getElem_toArray, List.getElem_cons_zero, List.getElem_cons_succ, List.setIfInBounds_toArray, List.set_cons_zero, List.set_cons_succ]
  refine wpAnyH_take (i := 6) (v := ?_) rfl (by kernel_rfl) (by kernel_rfl) (by kernel_rfl) (fun _ _ _ h => h) (Or.inl ⟨by rfl, ?_⟩) hS0 ?_
  rotate_left 1
  · intro W hW
    go_simp
    try with_reducible rfl
  simp only [Act.put, List.getElem_toArray, List.getElem_cons_zero, List.getElem_cons_succ, List.setIfInBounds_toArray, List.set_cons_zero, List.set_cons_succ]
  refine wpAnyH_take (i := 7) (v := .agg g.cells.toArray) rfl (by kernel_rfl) (by kernel_rfl) (by kernel_rfl) (fun _ _ _ h => h) ?_ hS0 ?_
  · exact yieldsIf_load_mid (by rfl) 130 _ rfl q 2 rfl g.cells d53 (fun _ h => h.geo) HU53.out HD53.out HS53.out
  simp only [Act.put, List.getElem_toArray, List.getElem_cons_zero, List.getElem_cons_succ, List.setIfInBounds_toArray, List.set_cons_zero, List.set_cons_succ]
  refine wpAnyH_take (i := 8) (v := ?_) rfl (by kernel_rfl) (by kernel_rfl) (by kernel_rfl) (fun _ _ _ h => h) (Or.inl ⟨by rfl, ?_⟩) hS0 ?_
  rotate_left 1
  · intro W hW
    go_simp
    try with_reducible rfl
  simp only [Act.put, List.getElem_toArray, List.getElem_cons_zero, List.getElem_cons_succ, List.setIfInBounds_toArray, List.set_cons_zero, List.set_cons_succ]
  refine wpAnyH_ready (rs := [9]) (by kernel_rfl) (by simp) (AllReadyH.cons rfl (fun KK hKK => ?_) AllReadyH.nil)
  go_simp
  refine (HRd.out w2 HG2.out).mono ?_
  rintro e w3 ⟨rfl, hG, hk⟩
  have HG3 := Lib.hid hG
  have HK3 := Lib.hid (HK2.out.trans hk)
  have nb4 : b ∉ [t, m, d, gg] := by have := NB6.out; simp at this ⊢; omega
  have F3 := Lib.hid (F2.out.kf hk nb4)
  replace hS0 : (fun W => Vl W q (gpc t lab g p)) w3 := HG3.out.gb
  clear hG hk HG2 HK2 F2 nb4
  refine hKK _ _ hS0 ?_
  intro _
  clear hKK KK
  try simp only [Act.put, List.getElem_toArray, List.getElem_cons_zero, List.getElem_cons_succ, List.setIfInBounds_toArray, List.set_cons_zero, List.set_cons_succ]
  refine wpAnyH_take (i := 10) (v := ?_) rfl (by kernel_rfl) (by kernel_rfl) (by kernel_rfl) (fun _ _ _ h => h) (Or.inl ⟨by rfl, ?_⟩) hS0 ?_
  rotate_left 1
  · intro W hW
    go_simp
    try with_reducible rfl
  simp only [Act.put, List.getElem_toArray, List.getElem_cons_zero, List.getElem_cons_succ, List.setIfInBounds_toArray, List.set_cons_zero, List.set_cons_succ]
  refine wpAnyH_take (i := 11) (v := ?_) rfl (by kernel_rfl) (by kernel_rfl) (by kernel_rfl) (fun _ _ _ h => h) (Or.inl ⟨by rfl, ?_⟩) hS0 ?_
  rotate_left 1
  · intro W hW
    go_simp
    try with_reducible rfl
  simp only [Act.put, List.getElem_toArray, List.getElem_cons_zero, List.getElem_cons_succ, List.setIfInBounds_toArray, List.set_cons_zero, List.set_cons_succ]
  refine wpAnyH_ready (rs := [12]) (by kernel_rfl) (by simp) (AllReadyH.cons rfl (fun KK hKK => ?_) AllReadyH.nil)
  refine step_store_mid rfl 77 _ _ rfl b 0 (ndc f).toArray rfl rfl (F3.out.there0 12 rfl) (size27' _) (all_oneCell_toArray (ndc_one _)) ?_
  rw [List.toList_toArray]
  have F5 := Lib.hid (F3.out.stored (ndc f) rfl)
  have hk5 : Kp w3 (w3.setCells b 0 (ndc f)) b b := (Kp.refl _ _ _).setCells b 0 (.inl rfl) _
  have HG5 := Lib.hid (HG3.out.kp hk5 NB6.out)
  have HK5 := Lib.hid (HK3.out.fresh hk5 HWb.out)
  obtain ⟨w5, hw5⟩ : ∃ x, w3.setCells b 0 (ndc f) = x := ⟨_, rfl⟩
  rw [hw5] at F5 HG5 HK5 ⊢
  clear hS0 hk5 hw5 F3 HG3 HK3
  have hS0 : (fun W => Vl W q (gpc t lab g p)) w5 := HG5.out.gb
  refine hKK _ _ hS0 ?_
  intro _
  clear hKK KK
  try simp only [Act.put, List.getElem_toArray, List.getElem_cons_zero, List.getElem_cons_succ, List.setIfInBounds_toArray, List.set_cons_zero, List.set_cons_succ]
  refine wpAnyH_take (i := 13) (v := ?_) rfl (by kernel_rfl) (by kernel_rfl) (by kernel_rfl) (fun _ _ _ h => h) (Or.inl ⟨by rfl, ?_⟩) hS0 ?_
  rotate_left 1
  · intro W hW
    go_simp
    try with_reducible rfl
  simp only [Act.put, List.getElem_toArray, List.getElem_cons_zero, List.getElem_cons_succ, List.setIfInBounds_toArray, List.set_cons_zero, List.set_cons_succ]
  refine wpAnyH_done (by kernel_rfl) ?_ _
  clear hS0
  go_wp2_with fail
  exact bodyPost_ret_by (results_mid_tmp rfl _ _ b (ndc f) d27 rfl F5.out.range0 HU27.out HD27.out (size27 _)) rfl ⟨rfl, HG5.out, HK5.out⟩
set_option maxHeartbeats 20000000 in
set_option maxRecDepth 100000 in
theorem gset_in (q p t m d gg lab B0 P0 M DA NB N K : Nat) (g : Cf.Ge) (Y : Nat → Nat → Int) (f : Nat → Int) (hf : NdOk f) (hc : codeN f = 0) (n : Nat) (h1 : 1 ≤ n) (h2 : n ≤ M) (hT : Has ln (P0 + (n - 1) / 2)) (hK : K < 600000000) (hg : GG g B0 P0 M DA NB N) (w : World) (h : Gr w q p t m d gg lab g B0 NB N ln Y K) :
    Calls Tryz.prog 72 #[.pointer (some ⟨q, 0, none⟩), .int .i64 n, .agg (ndc f).toArray] w fun e w' => e = .returned (.int .i64 0) ∧ Gr w' q p t m d gg lab g B0 NB N ln (tabW P0 n f Y) (K + 1) ∧ Kf w w' [t, m, d, gg] := by
  obtain ⟨d53, hu53, hd53⟩ := Tryz.desc53
  have HU53 := Lib.hid hu53
  have HD53 := Lib.hid hd53
  obtain ⟨d27, hu27, hd27⟩ := Tryz.desc27
  have HU27 := Lib.hid hu27
  have HD27 := Lib.hid hd27
  have HS53 := Lib.hid (size53 g)
  clear hu53 hd53 hu27 hd27
  have HWr := Lib.hid (fun W hW => gwrite (ln := ln) q p t m d gg lab B0 P0 M DA NB N K g Y f hf hc n h1 h2 hT hK hg W hW)
  have HG := Lib.hid h
  have lts := Lib.hid h.lts
  obtain ⟨Z, hZ⟩ : ∃ Z, tabW P0 n f Y = Z := ⟨_, rfl⟩
  rw [hZ] at HWr ⊢
  have hq0 := h.lts.1
  clear hZ hf hc h hg h1 h2 hK hT
  go_enter Tryz.func72, Tryz.ntmps72
  go_upto_region 3 with (first | (refine wpList_box_list (w := w) rfl 77 _ rfl (ndc f) rfl ?_; intro w1 F1 hb1 hz1; have HB1 := Lib.hid hb1; have HG1 := Lib.hid (HG.out.keep hb1); clear hb1 hz1))
  obtain ⟨b, hb⟩ : ∃ b, w.heap.size = b := ⟨_, rfl⟩
  have NB6 := Lib.hid (nin6 lts.out.1 lts.out.2.1 lts.out.2.2.1 lts.out.2.2.2.1 lts.out.2.2.2.2.1 lts.out.2.2.2.2.2 (Nat.le_of_eq hb))
  have HK1 := Lib.hid (Kf.of_below HB1.out [t, m, d, gg])
  rw [hb] at F1 hq0
  try rw [hb]
  clear hb lts HB1 HG
  refine wp_region_held (S := fun W => Vl W q (gpc t lab g p) ∧ Vl W b (ndc f)) (by kernel_rfl) ?_
  change wpAnyH _ _ _ _ _ _ _ _ (World.drew _)
  have hS0 : (fun W => Vl W q (gpc t lab g p) ∧ Vl W b (ndc f)) w1.drew := ⟨HG1.out.gb.keep (Below.refl _ _).drew, F1.out.keep (Below.refl _ _).drew⟩
  have HG2 := Lib.hid (HG1.out.keep (Below.refl w1.heap.size w1).drew)
  have HK2 := Lib.hid (HK1.out.trans (Kf.of_below (Below.refl w1.heap.size w1).drew _))
  obtain ⟨w2, hw2⟩ : ∃ x, World.drew w1 = x := ⟨_, rfl⟩
  rw [hw2] at hS0 HG2 HK2 ⊢
  clear hw2
  clear HG1 HK1 F1
  refine wpAnyH_take (i := 0) (v := ?_) rfl (by kernel_rfl) (by kernel_rfl) (by kernel_rfl) (fun _ _ _ h => h) (Or.inl ⟨by rfl, ?_⟩) hS0 ?_
  rotate_left 1
  · intro W hW
    go_simp
    try with_reducible rfl
  simp only [Act.put, List.getElem_toArray, List.getElem_cons_zero, List.getElem_cons_succ, List.setIfInBounds_toArray, List.set_cons_zero, List.set_cons_succ]
  refine wpAnyH_take (i := 1) (v := ?_) rfl (by kernel_rfl) (by kernel_rfl) (by kernel_rfl) (fun _ _ _ h => h) (Or.inl ⟨by rfl, ?_⟩) hS0 ?_
  rotate_left 1
  · intro W hW
    go_simp
    try with_reducible rfl
  simp only [Act.put, List.getElem_toArray, List.getElem_cons_zero, List.getElem_cons_succ, List.setIfInBounds_toArray, List.set_cons_zero, List.set_cons_succ]
  refine wpAnyH_take (i := 2) (v := ?_) rfl (by kernel_rfl) (by kernel_rfl) (by kernel_rfl) (fun _ _ _ h => h) (Or.inl ⟨by rfl, ?_⟩) hS0 ?_
  rotate_left 1
  · intro W hW
    go_simp
    try with_reducible rfl
  simp only [Act.put, List.getElem_toArray, List.getElem_cons_zero, List.getElem_cons_succ, List.setIfInBounds_toArray, List.set_cons_zero, List.set_cons_succ]
  refine wpAnyH_take (i := 3) (v := ?_) rfl (by kernel_rfl) (by kernel_rfl) (by kernel_rfl) (fun _ _ _ h => h) (Or.inl ⟨by rfl, ?_⟩) hS0 ?_
  rotate_left 1
  · intro W hW
    have c0 := hW.1.c 0 _ rfl
    go_simp
    try with_reducible rfl
  simp only [Act.put, List.getElem_toArray, List.getElem_cons_zero, List.getElem_cons_succ, List.setIfInBounds_toArray, List.set_cons_zero, List.set_cons_succ]
  refine wpAnyH_take (i := 4) (v := ?_) rfl (by kernel_rfl) (by kernel_rfl) (by kernel_rfl) (fun _ _ _ h => h) (Or.inl ⟨by rfl, ?_⟩) hS0 ?_
  rotate_left 1
  · intro W hW
    go_simp
    try with_reducible rfl
  simp only [Act.put, List.getElem_toArray, List.getElem_cons_zero, List.getElem_cons_succ, List.setIfInBounds_toArray, List.set_cons_zero, List.set_cons_succ]
  refine wpAnyH_take (i := 5) (v := ?_) rfl (by kernel_rfl) (by kernel_rfl) (by kernel_rfl) (fun _ _ _ h => h) (Or.inl ⟨by rfl, ?_⟩) hS0 ?_
  rotate_left 1
  · intro W hW
    go_simp
    try with_reducible rfl
  simp only [Act.put, List.getElem_toArray, List.getElem_cons_zero, List.getElem_cons_succ, List.setIfInBounds_toArray, List.set_cons_zero, List.set_cons_succ]
  refine wpAnyH_take (i := 6) (v := ?_) rfl (by kernel_rfl) (by kernel_rfl) (by kernel_rfl) (fun _ _ _ h => h) (Or.inl ⟨by rfl, ?_⟩) hS0 ?_
  rotate_left 1
  · intro W hW
    go_simp
    try with_reducible rfl
  simp only [Act.put, List.getElem_toArray, List.getElem_cons_zero, List.getElem_cons_succ, List.setIfInBounds_toArray, List.set_cons_zero, List.set_cons_succ]
  refine wpAnyH_take (i := 7) (v := .agg g.cells.toArray) rfl (by kernel_rfl) (by kernel_rfl) (by kernel_rfl) (fun _ _ _ h => h) ?_ hS0 ?_
  · exact yieldsIf_load_mid (by rfl) 130 _ rfl q 2 rfl g.cells d53 (fun _ h => h.1.geo) HU53.out HD53.out HS53.out
  simp only [Act.put, List.getElem_toArray, List.getElem_cons_zero, List.getElem_cons_succ, List.setIfInBounds_toArray, List.set_cons_zero, List.set_cons_succ]
  refine wpAnyH_take (i := 8) (v := ?_) rfl (by kernel_rfl) (by kernel_rfl) (by kernel_rfl) (fun _ _ _ h => h) (Or.inl ⟨by rfl, ?_⟩) hS0 ?_
  rotate_left 1
  · intro W hW
    go_simp
    try with_reducible rfl
  simp only [Act.put, List.getElem_toArray, List.getElem_cons_zero, List.getElem_cons_succ, List.setIfInBounds_toArray, List.set_cons_zero, List.set_cons_succ]
  refine wpAnyH_take (i := 9) (v := .agg (ndc f).toArray) rfl (by kernel_rfl) (by kernel_rfl) (by kernel_rfl) (fun _ _ _ h => h) ?_ hS0 ?_
  · exact yieldsIf_load_mid (by rfl) 77 _ rfl b 0 rfl (ndc f) d27 (fun _ h => h.2.range0) HU27.out HD27.out (size27 _)
  simp only [Act.put, List.getElem_toArray, List.getElem_cons_zero, List.getElem_cons_succ, List.setIfInBounds_toArray, List.set_cons_zero, List.set_cons_succ]
  refine wpAnyH_ready (rs := [10]) (by kernel_rfl) (by simp) (AllReadyH.cons rfl (fun KK hKK => ?_) AllReadyH.nil)
  go_simp
  refine (HWr.out w2 HG2.out).mono ?_
  rintro e w3 ⟨rfl, hG, hk⟩
  have HG3 := Lib.hid hG
  have HK3 := Lib.hid (HK2.out.trans hk)
  have nb4 : b ∉ [t, m, d, gg] := by have := NB6.out; simp at this ⊢; omega
  replace hS0 : (fun W => Vl W q (gpc t lab g p) ∧ Vl W b (ndc f)) w3 := ⟨HG3.out.gb, hS0.2.kf hk nb4⟩
  clear hG hk HG2 HK2 nb4
  refine hKK _ _ hS0 ?_
  intro _
  clear hKK KK
  try simp only [Act.put, List.getElem_toArray, List.getElem_cons_zero, List.getElem_cons_succ, List.setIfInBounds_toArray, List.set_cons_zero, List.set_cons_succ]
  refine wpAnyH_take (i := 11) (v := ?_) rfl (by kernel_rfl) (by kernel_rfl) (by kernel_rfl) (fun _ _ _ h => h) (Or.inl ⟨by rfl, ?_⟩) hS0 ?_
  rotate_left 1
  · intro W hW
    go_simp
    try with_reducible rfl
  simp only [Act.put, List.getElem_toArray, List.getElem_cons_zero, List.getElem_cons_succ, List.setIfInBounds_toArray, List.set_cons_zero, List.set_cons_succ]
  refine wpAnyH_done (by kernel_rfl) ?_ _
  clear hS0
  go_wp2_with fail
  go_ret
  exact ⟨rfl, HG3.out, HK3.out⟩
/-- a node of another generation -/
def setG (f : Nat → Int) (x : Int) : Nat → Int := fun i => if i = 2 then x else f i
theorem setG_set (f : Nat → Int) (x : Int) : (ndc f).set 2 (.int .u16 x) = ndc (setG f x) := rfl
theorem setG_ok {f : Nat → Int} (hf : NdOk f) {x : Int} (h0 : 0 ≤ x) (h1 : x < 65536) : NdOk (setG f x) := by
  obtain ⟨a, b, c, d, e⟩ := hf
  refine ⟨a, b, ⟨h0, h1⟩, d, fun i h2 h3 => ?_⟩
  unfold setG
  rw [if_neg (by omega)]
  exact e i h2 h3
theorem code_of {f : Nat → Int} (h1 : 0 < f 1) (hm : mbl (f 0) (f 3) = true) : codeN f = 0 := by
  unfold codeN okN
  rw [if_pos (by rw [hm, decide_eq_true h1]; simp)]
theorem setG_code {f : Nat → Int} (x : Int) (h1 : 0 < f 1) (hm : mbl (f 0) (f 3) = true) : codeN (setG f x) = 0 := code_of h1 hm
set_option maxHeartbeats 20000000 in
set_option maxRecDepth 100000 in
theorem gadd_in (q p t m d gg lab B0 P0 M DA NB N K : Nat) (g : Cf.Ge) (Y : Nat → Nat → Int) (V : Nat → Nat → Int) (f : Nat → Int) (hf : NdOk f) (n0 : Nat) (k1 : 1 ≤ n0) (k2 : n0 ≤ M) (hz : V n0 0 = 0) (hnz : ∀ j, 1 ≤ j → j < n0 → V j 0 ≠ 0) (x : Int) (hx : IntKind.u16.wrap (V n0 2 + 1) = x) (x0 : 0 ≤ x) (x1 : x < 65536) (f1 : 0 < f 1) (f2 : mbl (f 0) (f 3) = true) (hT : Has ln (P0 + (n0 - 1) / 2)) (hK : K < 500000000) (hI : Tab P0 M Y V) (hg : GG g B0 P0 M DA NB N) (w : World) (h : Gr w q p t m d gg lab g B0 NB N ln Y K) :
    Calls Tryz.prog 80 #[.pointer (some ⟨q, 0, none⟩), .agg (ndc f).toArray] w fun e w' => e = .returned (.tuple #[.int .i64 n0, .int .i64 0]) ∧ Gr w' q p t m d gg lab g B0 NB N ln (tabW P0 n0 (setG f x) Y) (K + 200) ∧ Kf w w' [t, m, d, gg] := by
  obtain ⟨d27, hu27, hd27⟩ := Tryz.desc27
  have HU27 := Lib.hid hu27
  have HD27 := Lib.hid hd27
  have HG := Lib.hid h
  have HI := Lib.hid hI
  have HNZ := Lib.hid hnz
  have lts := Lib.hid h.lts
  have hq0 := h.lts.1
  have hM := hg.nd
  have hM4 := hg.m4
  have hM8 := hg.m128
  have HGG := Lib.hid hg
  have HZ := Lib.hid hz
  have HX := Lib.hid hx
  have HF1 := Lib.hid f1
  have HF2 := Lib.hid f2
  clear hz hx f1 f2
  have HNd := Lib.hid hM
  have HF := Lib.hid hf
  clear hu27 hd27 h hI hnz hg hM hf
  go_enter Tryz.func80, Tryz.ntmps80
  go_wp2_with (first | (refine wpList_box_list (w := w) rfl 77 _ rfl (ndc f) rfl ?_; intro w1 F1 hb1 hz1; have HB1 := Lib.hid hb1; have HG1 := Lib.hid (HG.out.keep hb1); clear hb1 hz1))
  obtain ⟨b, hb⟩ : ∃ b, w.heap.size = b := ⟨_, rfl⟩
  have NB6 := Lib.hid (nin6 lts.out.1 lts.out.2.1 lts.out.2.2.1 lts.out.2.2.2.1 lts.out.2.2.2.2.1 lts.out.2.2.2.2.2 (Nat.le_of_eq hb))
  have HK1 := Lib.hid (Kf.of_below HB1.out [t, m, d, gg])
  have HWb := Lib.hid (Nat.le_of_eq hb)
  have hbl := F1.out.lt
  rw [hb] at F1 hq0 hbl
  try rw [hb]
  have nb4 : b ∉ [t, m, d, gg] := by have := NB6.out; simp at this ⊢; omega
  have NB4 := Lib.hid nb4
  clear hb lts HB1 HG nb4
  go_loopw [6] (fun y wr => ∃ k : Nat, 1 ≤ k ∧ k ≤ n0 ∧ y = .int .i64 k ∧ Gr wr q p t m d gg lab g B0 NB N ln Y (K + k) ∧ Kf w wr [t, m, d, gg] ∧ Vl wr b (ndc f)) (fun y _ => 200 - (Go.RowKit.intOf y).toNat)
  case atStart => exact ⟨1, Nat.le_refl _, by omega, rfl, HG1.out.mono (Lm.le_refl _) (by omega), HK1.out, F1.out⟩
  case round =>
    obtain ⟨k, hk1, hk2, rfl, hGr, hkf, hFb⟩ := hrel
    have HGr := Lib.hid hGr
    have HKf := Lib.hid hkf
    have HFb := Lib.hid hFb
    have c7 := hGr.gb.c 7 _ rfl
    rw [HNd.out] at c7
    have hbs := hFb.lt
    have hqs := hGr.gb.lt
    clear hGr hkf hFb HG1 HK1 F1
    by_cases hlt : k < n0
    · have HNo := Lib.hid (gnode_in (ln := ln) q p t m d gg lab B0 P0 M DA NB N (K + k) g Y V k hk1 (by omega) (by omega) HI.out HGG.out wr HGr.out)
      have hv := HNZ.out k hk1 (by omega)
      obtain ⟨v, hvn⟩ : ∃ v, V k = v := ⟨_, rfl⟩
      rw [hvn] at HNo hv
      have hkM : (k : Int) ≤ M := by omega
      have hk0 : (0 : Int) ≤ k := by omega
      have HV := Lib.hid hv
      have HVn := Lib.hid hvn
      clear hv hvn
      go_wp2_with fail
      refine HNo.out.mono ?_
      rintro e u1 ⟨rfl, hGr, hk⟩
      have HG2 := Lib.hid hGr
      have HK2 := Lib.hid (HKf.out.trans hk)
      have FB2 := Lib.hid (HFb.out.kf hk NB4.out)
      clear hGr hk HNo HGr HKf HFb c7
      go_upto_region 5 with (first | (refine wpList_alloc_list (w := u1) rfl 77 rfl (ndc zpt) Tryz.zero27 ?_; intro u2 G2 hb2 hz2; simp only [Act.put, List.getElem_toArray, List.getElem_cons_zero, List.getElem_cons_succ, List.setIfInBounds_toArray, List.set_cons_zero, List.set_cons_succ]; refine wpList_store_list rfl 77 (.tmp 7) (.tmp 23) rfl u1.heap.size (ndc zpt) (ndc v) rfl rfl G2.out rfl (size27 _) (ndc_one _) ?_; intro u3 F3 HP3; have HQ2 := Lib.hid hb2; clear hb2 hz2 G2))
      obtain ⟨c, hc⟩ : ∃ c, u1.heap.size = c := ⟨_, rfl⟩
      have hcb : b < c := by rw [← hc]; exact FB2.out.lt
      have HK3 := Lib.hid ((HK2.out.more HQ2.out).new HP3.out HK2.out.size)
      have HG3 := Lib.hid ((HG2.out.keep HQ2.out).kp HP3.out (HG2.out.notin (Nat.le_refl _)))
      have FB3' := Lib.hid (FB2.out.keep HQ2.out)
      have FB3 := Lib.hid (FB3'.out.kp HP3.out (by omega) (by omega))
      rw [hc] at F3
      try rw [hc]
      clear hc HQ2 HP3 HK2 HG2 FB2 FB3'
      have e0 := F3.out.c 0 _ rfl
      have hv0 : ¬ v 0 = 0 := HV.out
      go_wp2_with fail
      go_roundw
      case rel => exact ⟨k + 1, by omega, by omega, by go_num, HG3.out.mono (Lm.le_refl _) (by omega), HK3.out, FB3.out⟩
      case measure => simp [Go.RowKit.intOf]; omega
    · obtain rfl : k = n0 := by omega
      have HNo := Lib.hid (gnode_in (ln := ln) q p t m d gg lab B0 P0 M DA NB N (K + k) g Y V k hk1 (by omega) (by omega) HI.out HGG.out wr HGr.out)
      have hv := HZ.out
      obtain ⟨v, hvn⟩ : ∃ v, V k = v := ⟨_, rfl⟩
      rw [hvn] at HNo hv
      have HX2 := HX.out
      rw [hvn] at HX2
      have hkM : (k : Int) ≤ M := by omega
      have hk0 : (0 : Int) ≤ k := by omega
      have HV := Lib.hid hv
      have HVn := Lib.hid hvn
      clear hv hvn
      go_wp2_with fail
      refine HNo.out.mono ?_
      rintro e u1 ⟨rfl, hGr, hk⟩
      have HG2 := Lib.hid hGr
      have HK2 := Lib.hid (HKf.out.trans hk)
      have FB2 := Lib.hid (HFb.out.kf hk NB4.out)
      clear hGr hk HNo HGr HKf HFb c7
      go_upto_region 5 with (first | (refine wpList_alloc_list (w := u1) rfl 77 rfl (ndc zpt) Tryz.zero27 ?_; intro u2 G2 hb2 hz2; simp only [Act.put, List.getElem_toArray, List.getElem_cons_zero, List.getElem_cons_succ, List.setIfInBounds_toArray, List.set_cons_zero, List.set_cons_succ]; refine wpList_store_list rfl 77 (.tmp 7) (.tmp 23) rfl u1.heap.size (ndc zpt) (ndc v) rfl rfl G2.out rfl (size27 _) (ndc_one _) ?_; intro u3 F3 HP3; have HQ2 := Lib.hid hb2; clear hb2 hz2 G2))
      obtain ⟨c, hc⟩ : ∃ c, u1.heap.size = c := ⟨_, rfl⟩
      have hcb : b < c := by rw [← hc]; exact FB2.out.lt
      have HK3 := Lib.hid ((HK2.out.more HQ2.out).new HP3.out HK2.out.size)
      have HG3 := Lib.hid ((HG2.out.keep HQ2.out).kp HP3.out (HG2.out.notin (Nat.le_refl _)))
      have FB3' := Lib.hid (FB2.out.keep HQ2.out)
      have FB3 := Lib.hid (FB3'.out.kp HP3.out (by omega) (by omega))
      rw [hc] at F3
      try rw [hc]
      clear hc HQ2 HP3 HK2 HG2 FB2 FB3'
      have e0 := F3.out.c 0 _ rfl
      rw [HV.out] at e0
      have e2 := F3.out.c 2 _ rfl
      have g2 := FB3.out.c 2 _ rfl
      have z2 := FB3.out.z 2 (show 2 < 12 by decide)
      go_upto_region 9 with fail
      have hkx : Kp u3 (u3.setCell ⟨b, 2, none⟩ (.int .u16 x)) b b := (Kp.refl u3 b b).setCell (p := ⟨b, 2, none⟩) (.inl rfl) _
      have HG4 := Lib.hid (HG3.out.kp hkx NB6.out)
      have HK4 := Lib.hid (HK3.out.new hkx HWb.out)
      have F4 := Lib.hid (FB3.out.set 2 (show 2 < 12 by decide) (.int .u16 x))
      obtain ⟨u4, hu4⟩ : ∃ z, u3.setCell ⟨b, 2, none⟩ (.int .u16 x) = z := ⟨_, rfl⟩
      rw [hu4] at HG4 HK4 F4 ⊢
      rw [setG_set] at F4
      clear hu4 hkx HG3 HK3 FB3 F3 e0 e2 g2 z2 HX2
      have HSe := Lib.hid (gset_in (ln := ln) q p t m d gg lab B0 P0 M DA NB N (K + k + 1) g Y (setG f x) (setG_ok HF.out x0 x1) (setG_code x HF1.out HF2.out) k hk1 k2 hT (by omega) HGG.out u4 HG4.out)
      go_wp2_with (first | (refine wpList_load_mid rfl 77 (.tmp 3) rfl b 0 rfl (ndc (setG f x)) d27 F4.out.range0 HU27.out HD27.out (size27 _) ?_))
      refine HSe.out.mono ?_
      rintro e u5 ⟨rfl, hGr, hk⟩
      have HG5 := Lib.hid (hGr.mono (Lm.le_refl _) (show K + k + 1 + 1 ≤ K + 200 by omega))
      have HK5 := Lib.hid (HK4.out.trans hk)
      clear hGr hk HSe HG4 HK4
      go_wp2_with fail
      exact bodyPost_ret (v := .tuple #[.int .i64 k, .int .i64 0]) (by simp [results, Tryz.results80, go_sem]) rfl ⟨rfl, HG5.out, HK5.out⟩
end Go.Proofs.YteaoabppppbkoaaGreatDoor

namespace Go.Proofs.YteaoabppppbkoaaGreatDoor
set_option linter.unusedSimpArgs false
set_option linter.unusedVariables false
open Go.RowKit Go.Maps

variable {ln : Lm}
/-- a body b of an opened group, as it was, from world w0 on, but for what is of the transaction, and the body -/
structure Bo (w0 w : World) (b q p t m d gg lab : Nat) (g : Cf.Ge) (B0 NB N : Nat) (ln : Lm) (Y : Nat → Nat → Int) (K : Nat) (f : Nat → Int) : Prop where
  gr : Gr w q p t m d gg lab g B0 NB N ln Y K
  bd : Vl w b (bdc q f)
  nb : b ∉ [q, p, t, m, d, gg]
  kf : Kf w0 w [t, m, d, gg, b]
  lt : ∀ a ∈ [b, q, p, t, m, d, gg], a < w0.heap.size
theorem Bo.keep {w0 w w' : World} {b q p t m d gg lab B0 NB N K : Nat} {ln : Lm} {g : Cf.Ge} {Y : Nat → Nat → Int} {f : Nat → Int} (h : Bo w0 w b q p t m d gg lab g B0 NB N ln Y K f) (hb : Below w.heap.size w w') : Bo w0 w' b q p t m d gg lab g B0 NB N ln Y K f :=
  ⟨h.gr.keep hb, h.bd.keep hb, h.nb, h.kf.trans (Kf.of_below hb _), h.lt⟩
theorem Bo.self {w0 w : World} {b q p t m d gg lab B0 NB N K : Nat} {ln : Lm} {g : Cf.Ge} {Y : Nat → Nat → Int} {f : Nat → Int} (h : Bo w0 w b q p t m d gg lab g B0 NB N ln Y K f) : Bo w w b q p t m d gg lab g B0 NB N ln Y K f :=
  ⟨h.gr, h.bd, h.nb, Kf.refl _ _, fun a ha => Nat.lt_of_lt_of_le (h.lt a ha) h.kf.size⟩
theorem Bo.trans {w0 w w' : World} {b q p t m d gg lab B0 NB N K : Nat} {ln : Lm} {g : Cf.Ge} {Y : Nat → Nat → Int} {f : Nat → Int} {Y' : Nat → Nat → Int} {f' : Nat → Int} {K' : Nat} {ln' : Lm} (h : Bo w0 w b q p t m d gg lab g B0 NB N ln Y K f) (k : Bo w w' b q p t m d gg lab g B0 NB N ln' Y' K' f') : Bo w0 w' b q p t m d gg lab g B0 NB N ln' Y' K' f' :=
  ⟨k.gr, k.bd, h.nb, h.kf.trans k.kf, h.lt⟩
theorem Bo.nin {w0 w : World} {b q p t m d gg lab B0 NB N K : Nat} {ln : Lm} {g : Cf.Ge} {Y : Nat → Nat → Int} {f : Nat → Int} (h : Bo w0 w b q p t m d gg lab g B0 NB N ln Y K f) {x : Nat} (hx : w0.heap.size ≤ x) : x ∉ [b, q, p, t, m, d, gg] := fun ha => by
  have := h.lt x ha
  omega
theorem Bo.call {w0 w w' : World} {b q p t m d gg lab B0 NB N K : Nat} {ln : Lm} {g : Cf.Ge} {Y : Nat → Nat → Int} {f : Nat → Int} {Y' : Nat → Nat → Int} {K' : Nat} {ln' : Lm} (h : Bo w0 w b q p t m d gg lab g B0 NB N ln Y K f) (hG : Gr w' q p t m d gg lab g B0 NB N ln' Y' K') (hk : Kf w w' [t, m, d, gg]) : Bo w0 w' b q p t m d gg lab g B0 NB N ln' Y' K' f := by
  have hn := h.nb
  simp only [List.mem_cons, List.not_mem_nil, or_false, not_or] at hn
  refine ⟨hG, h.bd.kf hk (by simp only [List.mem_cons, List.not_mem_nil, or_false]; omega), h.nb, h.kf.trans (hk.wide fun k hk => ?_), h.lt⟩
  simp only [List.mem_cons, List.not_mem_nil, or_false] at hk ⊢
  omega
theorem Bo.new {w0 w w' : World} {b q p t m d gg lab B0 NB N K : Nat} {ln : Lm} {g : Cf.Ge} {Y : Nat → Nat → Int} {f : Nat → Int} (h : Bo w0 w b q p t m d gg lab g B0 NB N ln Y K f) {x : Nat} (hk : Kp w w' x x) (hx : w0.heap.size ≤ x) : Bo w0 w' b q p t m d gg lab g B0 NB N ln Y K f := by
  have hn := h.nin hx
  simp only [List.mem_cons, List.not_mem_nil, or_false, not_or] at hn
  exact ⟨h.gr.kp hk (by simp only [List.mem_cons, List.not_mem_nil, or_false]; omega), h.bd.kp hk (by omega) (by omega), h.nb, h.kf.new hk hx, h.lt⟩
theorem Bo.mono {w0 w : World} {b q p t m d gg lab B0 NB N K : Nat} {ln : Lm} {g : Cf.Ge} {Y : Nat → Nat → Int} {f : Nat → Int} {K' : Nat} {ln' : Lm} (h : Bo w0 w b q p t m d gg lab g B0 NB N ln Y K f) (hl : Lm.Le ln ln') (hk : K ≤ K') : Bo w0 w b q p t m d gg lab g B0 NB N ln' Y K' f :=
  ⟨h.gr.mono hl hk, h.bd, h.nb, h.kf, h.lt⟩
theorem Bo.set {w0 w : World} {b q p t m d gg lab B0 NB N K : Nat} {ln : Lm} {g : Cf.Ge} {Y : Nat → Nat → Int} {f : Nat → Int} (h : Bo w0 w b q p t m d gg lab g B0 NB N ln Y K f) (i : Nat) (hi : i < 12) (v : Value) (f' : Nat → Int) (hv : (bdc q f).set (1 + i) v = bdc q f') : Bo w0 (w.setCell ⟨b, 1 + i, none⟩ v) b q p t m d gg lab g B0 NB N ln Y K f' := by
  have hk : Kp w (w.setCell ⟨b, 1 + i, none⟩ v) b b := (Kp.refl w b b).setA (1 + i) v
  have hb := h.bd.set (1 + i) (by show 1 + i < 13; omega) v
  rw [hv] at hb
  exact ⟨h.gr.kp hk h.nb, hb, h.nb, h.kf.trans (Kf.of_kp hk (by simp) (by simp)), h.lt⟩
theorem run0 (pv : Nat → Nat) (n : Nat) (h : ∀ k, k < n → pv k = 0 → pv (k + 1) = 0) (k : Nat) (hk : pv k = 0) : ∀ j, k + j ≤ n → pv (k + j) = 0
  | 0, _ => hk
  | j + 1, hj => h (k + j) (by omega) (run0 pv n h k hk j (by omega))
theorem Tryz.descBlk : ∃ d, Tryz.prog.underlying 116 = some d ∧ d.isRow = true := ⟨_, Tryz.arr36, rfl⟩
set_option maxRecDepth 100000 in
theorem Tryz.sliceWy (b n : Nat) (hn : n ≤ 2) (w : World) : (Instr.sliceAt 255 (.pointer (some ⟨b, 0, none⟩)) (some (.int .i64 1)) (some (.int .i64 ((n : Int) + 1))) none).run Tryz.prog w = .ok (.slice (some ⟨b, 1, none⟩) n 2) w := by
  have hc : n = 0 ∨ n = 1 ∨ n = 2 := by omega
  rcases hc with rfl | rfl | rfl <;> rfl
set_option maxHeartbeats 20000000 in
set_option maxRecDepth 100000 in
theorem at_gen (b q p t m d gg lab B0 P0 M DA NB N K : Nat) (g : Cf.Ge) (Y : Nat → Nat → Int) (f : Nat → Int) (a o : Nat) (n : Nat) (hn : n ≤ 2) (s1 s2 : Int) (sk pv : Nat → Nat)
    (HOW : ∀ W, Calls Tryz.prog 186 #[.pointer (some ⟨b, 0, none⟩), .int .i64 a] W fun e w' => e = .returned (.pointer (some ⟨b, 1 + o, none⟩)) ∧ w' = W)
    (HST : ∀ W, Calls Tryz.prog 163 #[.agg (wyc a s1 s2).toArray] W fun e w' => e = .returned (.int .i64 (n + 1)) ∧ Below W.heap.size W w')
    (ho : (ndc f)[o]? = some (.int .u16 (pv 0))) (hs : ∀ k, k < n → (wyc a s1 s2)[1 + k]? = some (.int .i64 (sk k + 1)) ∧ sk k < 32)
    (hpv : ∀ k, k < n → (pv k = 0 → pv (k + 1) = 0) ∧ (pv k ≠ 0 → pv k ≤ NB ∧ (pv (k + 1) : Int) = wd (Y (DA + (pv k - 1))) (sk k)))
    (hK : K < 600000000) (hg : GG g B0 P0 M DA NB N) (w : World) (h : Bo w w b q p t m d gg lab g B0 NB N ln Y K f) :
    Calls Tryz.prog 155 #[.pointer (some ⟨b, 0, none⟩), .agg (wyc a s1 s2).toArray] w fun e w' => e = .returned (.tuple #[.int .u16 (pv n), .int .i64 0]) ∧ Bo w w' b q p t m d gg lab g B0 NB N ln Y (K + 2) f := by
  obtain ⟨dB, hu, hd⟩ := Tryz.descBlk
  have HUB := Lib.hid hu
  have HDB := Lib.hid hd
  clear hu hd
  obtain ⟨dW, hu, hd⟩ := Tryz.descWy
  have HU := Lib.hid hu
  have HD := Lib.hid hd
  have HB := Lib.hid h
  have HO := Lib.hid HOW
  have HS := Lib.hid HST
  have HC := Lib.hid ho
  have HN := Lib.hid hs
  have HP := Lib.hid hpv
  have HG := Lib.hid hg
  have hN5 := hg.n512
  clear hu hd h HOW HST ho hs hpv hg
  go_enter Tryz.func155, Tryz.ntmps155
  go_upto_region 1 with (first | (refine wpList_box_list (w := w) rfl 255 _ rfl (wyc a s1 s2) rfl ?_; intro w1 F1 hb1 hz1; have HQ1 := Lib.hid hb1; clear hb1))
  obtain ⟨bW, hbW⟩ : ∃ x, w.heap.size = x := ⟨_, rfl⟩
  have HB1 := Lib.hid (HB.out.keep HQ1.out)
  have hW0 : w.heap.size ≤ bW := Nat.le_of_eq hbW
  have hW1 : bW < w1.heap.size := by omega
  rw [hbW] at F1
  try rw [hbW]
  clear hz1 HQ1 HB hbW
  have c0 := F1.out.c 0 _ rfl
  go_wp2_with fail
  refine (HO.out w1).mono ?_
  rintro e wz ⟨rfl, hwz⟩
  rw [hwz]
  clear hwz c0 HO
  have cb : w1.cell? ⟨b, 1 + o, none⟩ = some (.int .u16 (pv 0)) := HB1.out.bd.c (1 + o) _ (by rw [Nat.add_comm]; exact HC.out)
  have HR1 := Lib.hid F1.out.range0
  go_wp2_with (refine wpList_load_mid rfl 255 _ rfl bW 0 rfl (wyc a s1 s2) dW HR1.out HU.out HD.out (sizeWy _ _ _) ?_)
  clear cb
  refine (HS.out w1).mono ?_
  rintro e w2 ⟨rfl, hb⟩
  have HB2 := Lib.hid (HB1.out.keep hb)
  have F2 := Lib.hid (F1.out.keep hb)
  clear hb HS HR1 F1 HB1 HC
  have hn0 : (0 : Int) ≤ n := by omega
  have hn2 : (n : Int) ≤ 2 := by omega
  have hsl := Tryz.sliceWy bW n hn w2
  go_wp2_with fail
  clear hsl
  go_loopw [6, 8, 9, 10, 21] (fun v _ _ _ i wr => ∃ k : Nat, k ≤ n ∧ i = .int .i64 k ∧ v = .int .u16 (pv k) ∧ Bo w wr b q p t m d gg lab g B0 NB N ln Y (K + k) f ∧ Vl wr bW (wyc a s1 s2)) (fun _ _ _ _ i _ => n - (Go.RowKit.intOf i).toNat)
  case atStart => exact ⟨0, Nat.zero_le _, rfl, rfl, HB2.out, F2.out⟩
  case round =>
    obtain ⟨k, hk, rfl, rfl, hB, hF⟩ := hrel
    have HBr := Lib.hid hB
    have HFr := Lib.hid hF
    clear hB hF HB2 F2
    by_cases hlt : k < n
    · have hk0 : (0 : Int) ≤ k := by omega
      have hkk : (k : Int) < n := by omega
      have ck := HFr.out.c (1 + k) _ (HN.out k hlt).1
      have hsk := (HN.out k hlt).2
      by_cases hz : pv k = 0
      · have hR : pv n = 0 := by
          have := run0 pv n (fun j hj => (HP.out j hj).1) k hz (n - k) (by omega)
          rwa [show k + (n - k) = n by omega] at this
        have HR := Lib.hid hR
        have HZ := Lib.hid hz
        rw [hz]
        clear hR hz
        go_wp2_with fail
        go_ret2
        exact ⟨by rw [HR.out]; rfl, HBr.out.mono (Lm.le_refl _) (by omega)⟩
      · obtain ⟨hp1, hp2⟩ := (HP.out k hlt).2 hz
        obtain ⟨x, hx⟩ : ∃ x, pv k = x := ⟨_, rfl⟩
        obtain ⟨y, hy⟩ : ∃ y, pv (k + 1) = y := ⟨_, rfl⟩
        rw [hx] at hz hp1 hp2
        rw [hy] at hp2
        have hby := HBr.out.gr.rd.vb (DA + (x - 1))
        obtain ⟨V, hV⟩ : ∃ V, Y (DA + (x - 1)) = V := ⟨_, rfl⟩
        rw [hV] at hp2 hby
        have HGt := Lib.hid (gget_in q p t m d gg lab B0 P0 M DA NB N (K + k) g Y x (by omega) hp1 (by omega) HG.out wr HBr.out.gr)
        rw [hV] at HGt
        have HNu := Lib.hid (fun W => num_any V hby (sk k) hsk (sk k + 1) rfl W)
        rw [← hp2] at HNu
        rw [hx]
        have HY := Lib.hid hy
        have hx0 : ¬ ((x : Int) = 0) := by omega
        have hx1 : (0 : Int) ≤ x := by omega
        have hx2 : (x : Int) < 65536 := by omega
        have hqe := HBr.out.bd.c 0 _ rfl
        have HX := Lib.hid hx
        obtain ⟨xi, hxi⟩ : ∃ xi : Int, (x : Int) = xi := ⟨_, rfl⟩
        rw [hxi] at hx0 hx1 hx2 HGt ⊢
        clear hp2 hby hV hx hy hsk hxi hp1 hz
        go_wp2_with fail
        refine HGt.out.mono ?_
        rintro e w3 ⟨rfl, hG, hkk2⟩
        have HB3 := Lib.hid (HBr.out.call hG hkk2)
        have HF3 : Hid (Vl w3 bW (wyc a s1 s2)) := Lib.hid (HFr.out.kf hkk2 (fun ha => by have := HBr.out.nin hW0; simp only [List.mem_cons, List.not_mem_nil, or_false, not_or] at this ha; omega))
        have hs3 : w.heap.size ≤ w3.heap.size := HB3.out.kf.size
        clear hG hkk2 HGt HBr HFr hqe ck
        go_upto_region 7 with (first | (refine wpList_alloc_byts (w := w3) rfl 116 64 rfl Tryz.zero36 ?_; intro w5 F5 hb5 hz5; simp only [Act.put, List.getElem_toArray, List.getElem_cons_zero, List.getElem_cons_succ, List.setIfInBounds_toArray, List.set_cons_zero, List.set_cons_succ]; refine wpList_store_blk rfl (.tmp 9) (.tmp 34) rfl w3.heap.size 0 64 (fun _ => 0) V F5.out (by omega) rfl rfl ?_; intro w6 F6 HK6; have HB5 := Lib.hid hb5; clear hb5 F5))
        obtain ⟨bB, hbB⟩ : ∃ x, w3.heap.size = x := ⟨_, rfl⟩
        have hB0 : w.heap.size ≤ bB := by omega
        have HB6 := Lib.hid ((HB3.out.keep HB5.out).new HK6.out (by omega))
        have HF6 := Lib.hid ((HF3.out.keep HB5.out).kp HK6.out (by have := HF3.out.lt; omega) (by have := HF3.out.lt; omega))
        have F6' := Lib.hid (F6.out.congr (fun j hj => upd_zero 64 V j hj _))
        rw [hbB] at F6'
        try rw [hbB]
        have HR6 := Lib.hid F6'.out.range0
        clear F6 HK6 HB5 HB3 HF3 hbB hz5 hs3 F6'
        go_wp2_with (refine wpList_load_mid rfl 116 _ rfl bB 0 rfl (byts 64 V) dB HR6.out HUB.out HDB.out (size36 _) ?_)
        refine (HNu.out w6).mono ?_
        rintro e w7 ⟨rfl, hb⟩
        have HB7 := Lib.hid (HB6.out.keep hb)
        have HF7 := Lib.hid (HF6.out.keep hb)
        clear hb HNu HB6 HF6 HR6
        go_wp2_with fail
        go_roundw
        case rel => exact ⟨k + 1, by omega, by go_num, by rw [HY.out], HB7.out.mono (Lm.le_refl _) (by omega), HF7.out⟩
        case measure => simp [Go.RowKit.intOf]; omega
    · obtain rfl : k = n := by omega
      go_wp2_with fail
      go_ret2
      exact ⟨rfl, HBr.out.mono (Lm.le_refl _) (by omega)⟩
end Go.Proofs.YteaoabppppbkoaaGreatDoor

namespace Go.Proofs.YteaoabppppbkoaaGreatDoor
set_option linter.unusedSimpArgs false
set_option linter.unusedVariables false
open Go.RowKit Go.Maps

/-- slots: data blocks from 0 on; 2000: Single; 2001: Double; from 2002 on: the rows of Double -/
def isR (c : Nat) : Bool := decide (c < 6) || decide (c = 2000) || decide (c = 2001)
def rtI (c : Nat) : Nat := if c = 2000 then 10 else if c = 2001 then 11 else 4 + c
def parS (c : Nat) : Nat := if c < 38 then 2000 else if c < 1062 then 2002 + (c - 38) / 32 else 2001
def idxS (c : Nat) : Nat := if c < 38 then c - 6 else if c < 1062 then (c - 38) % 32 else c - 2002
def okS (c : Nat) : Bool := decide (c < 1062) || (decide (2000 ≤ c) && decide (c < 2034))
theorem isR_iff (c : Nat) : isR c = true ↔ c < 6 ∨ c = 2000 ∨ c = 2001 := by
  unfold isR
  simp [or_assoc]
theorem isR_no (c : Nat) : isR c = false ↔ ¬ (c < 6 ∨ c = 2000 ∨ c = 2001) := by
  rw [← isR_iff]
  simp
theorem okS_iff (c : Nat) : okS c = true ↔ c < 1062 ∨ 2000 ≤ c ∧ c < 2034 := by
  unfold okS
  simp
theorem parS_ok (c : Nat) (h : okS c = true) (hr : isR c = false) : okS (parS c) = true ∧ 2000 ≤ parS c ∧ parS c ≠ c := by
  rw [okS_iff] at h ⊢
  rw [isR_no] at hr
  unfold parS
  split
  · omega
  · split <;> omega
theorem idxS_lt (c : Nat) (h : okS c = true) (hr : isR c = false) : idxS c < 32 := by
  rw [okS_iff] at h
  rw [isR_no] at hr
  unfold idxS
  split
  · omega
  · split <;> omega
theorem slot_inj (c c' : Nat) (h : okS c = true) (hr : isR c = false) (h' : okS c' = true) (hr' : isR c' = false) (hp : parS c = parS c') (hi : idxS c = idxS c') : c = c' := by
  rw [okS_iff] at h h'
  rw [isR_no] at hr hr'
  unfold parS at hp
  unfold idxS at hi
  split at hp <;> split at hp <;> (try split at hp) <;> (try split at hp) <;> simp_all <;> omega
theorem rtI_inj (c c' : Nat) (hr : isR c = true) (hr' : isR c' = true) (h : rtI c = rtI c') : c = c' := by
  rw [isR_iff] at hr hr'
  unfold rtI at h
  split at h <;> split at h <;> (try split at h) <;> (try split at h) <;> omega
theorem rtI_lt (c : Nat) (hr : isR c = true) : 4 ≤ rtI c ∧ rtI c < 12 := by
  rw [isR_iff] at hr
  unfold rtI
  split
  · omega
  · split <;> omega
theorem putN_wd (f : Nat → Int) (k q : Nat) (hq : q < 65536) (k' : Nat) : wd (putN f (2 * k) q) k' = if k' = k then (q : Int) else wd f k' := by
  unfold wd putN
  by_cases e : k' = k
  · subst e
    rw [if_pos rfl, if_neg (by omega), if_pos rfl, if_pos rfl]
    omega
  · rw [if_neg e, if_neg (by omega), if_neg (by omega), if_neg (by omega), if_neg (by omega)]
theorem putN_byt {f : Nat → Int} (hf : Byt f) (k q : Nat) : Byt (putN f k q) := fun j hj => by
  unfold putN
  split
  · omega
  · split
    · omega
    · exact hf j hj
/-- what a node with the numbers f has: the slots N, slot c's block b c; its blocks of pointers say so -/
structure Fi (DA NB : Nat) (Y : Nat → Nat → Int) (f : Nat → Int) (N : Nat → Bool) (b : Nat → Nat) : Prop where
  ok : ∀ c, N c = true → okS c = true
  root : ∀ c, isR c = true → f (rtI c) = if N c = true then (b c : Int) else 0
  wrd : ∀ c, okS c = true → isR c = false → N (parS c) = true → wd (Y (DA + (b (parS c) - 1))) (idxS c) = if N c = true then (b c : Int) else 0
  cl : ∀ c, isR c = false → N c = true → N (parS c) = true
  rng : ∀ c, N c = true → 1 ≤ b c ∧ b c ≤ NB
  inj : ∀ c c', N c = true → N c' = true → b c = b c' → c = c'
def addN (N : Nat → Bool) (c : Nat) : Nat → Bool := fun c' => decide (c' = c) || N c'
def addB (b : Nat → Nat) (c x : Nat) : Nat → Nat := fun c' => if c' = c then x else b c'
def addF (f : Nat → Int) (c x : Nat) : Nat → Int := if isR c = true then fun i => if i = rtI c then (x : Int) else f i else f
def addY (DA : Nat) (Y : Nat → Nat → Int) (b : Nat → Nat) (c x : Nat) : Nat → Nat → Int := if isR c = true then Y else vput (DA + (b (parS c) - 1)) (putN (Y (DA + (b (parS c) - 1))) (2 * idxS c) x) Y
theorem addN_self (N : Nat → Bool) (c : Nat) : addN N c c = true := by
  unfold addN
  simp
theorem addN_ne (N : Nat → Bool) {c c' : Nat} (h : c' ≠ c) : addN N c c' = N c' := by
  unfold addN
  rw [decide_eq_false h]
  rfl
theorem addN_of (N : Nat → Bool) {c c' : Nat} (h : addN N c c' = true) : c' = c ∨ N c' = true := by
  unfold addN at h
  simpa using h
theorem addN_old (N : Nat → Bool) (c : Nat) {c' : Nat} (h : N c' = true) : addN N c c' = true := by
  unfold addN
  rw [h]
  simp
theorem addB_self (b : Nat → Nat) (c x : Nat) : addB b c x c = x := if_pos rfl
theorem addB_ne (b : Nat → Nat) {c c' : Nat} (x : Nat) (h : c' ≠ c) : addB b c x c' = b c' := if_neg h
theorem Fi.add {DA NB B0 : Nat} {Y Y1 : Nat → Nat → Int} {f : Nat → Int} {N : Nat → Bool} {b : Nat → Nat} (h : Fi DA NB Y f N b) (hB : B0 < DA) (c : Nat) (hok : okS c = true) (hN : N c = false) (hp : isR c = true ∨ N (parS c) = true) (x : Nat) (hx1 : 1 ≤ x) (hx2 : x ≤ NB) (hNB : NB ≤ 512)
    (hfr : ∀ c', N c' = true → b c' ≠ x) (h1 : ∀ z, z ≠ B0 → z ≠ DA + (x - 1) → Y1 z = Y z) (h2 : Y1 (DA + (x - 1)) = fun _ => 0) :
    Fi DA NB (addY DA Y1 b c x) (addF f c x) (addN N c) (addB b c x) := by
  have hd : ∀ c', N c' = true → DA + (b c' - 1) ≠ DA + (x - 1) := fun c' hc => by
    have := hfr c' hc
    have := h.rng c' hc
    omega
  have hY1 : ∀ c', N c' = true → Y1 (DA + (b c' - 1)) = Y (DA + (b c' - 1)) := fun c' hc => h1 _ (by omega) (hd c' hc)
  refine ⟨fun c' hc => ?_, fun c' hc => ?_, fun c' ho hr hq => ?_, fun c' hr hc => ?_, fun c' hc => ?_, fun c1 c2 k1 k2 he => ?_⟩
  · rcases addN_of N hc with rfl | hc
    · exact hok
    · exact h.ok c' hc
  · unfold addF
    by_cases hcr : isR c = true
    · rw [if_pos hcr]
      by_cases e : c' = c
      · subst e
        rw [if_pos rfl, if_pos (addN_self N c'), addB_self]
      · rw [if_neg (fun he => e (rtI_inj c' c hc hcr he)), addN_ne N e, addB_ne b x e]
        exact h.root c' hc
    · rw [if_neg hcr]
      have e : c' ≠ c := fun e => hcr (e ▸ hc)
      rw [addN_ne N e, addB_ne b x e]
      exact h.root c' hc
  · by_cases e : parS c' = c
    · -- below the new one: nothing
      have hne : c' ≠ c := fun e' => (parS_ok c' ho hr).2.2 (e.trans e'.symm)
      have hno : N c' = false := by
        cases hh : N c'
        · rfl
        · have := h.cl c' hr hh
          rw [e, hN] at this
          cases this
      rw [e, addB_self, addN_ne N hne, hno, if_neg (by decide)]
      have : addY DA Y1 b c x (DA + (x - 1)) = fun _ => 0 := by
        unfold addY
        split
        · exact h2
        · rename_i hcr
          have hpc : N (parS c) = true := hp.resolve_left hcr
          rw [vput_ne _ _ (hd (parS c) hpc)]
          exact h2
      rw [this]
      rfl
    · have hpo : N (parS c') = true := by rwa [addN_ne N e] at hq
      rw [addB_ne b x e]
      unfold addY
      by_cases hcr : isR c = true
      · rw [if_pos hcr, hY1 _ hpo]
        have hne : c' ≠ c := fun e' => by rw [e', hcr] at hr; cases hr
        rw [addN_ne N hne, addB_ne b x hne]
        exact h.wrd c' ho hr hpo
      · have hcr' : isR c = false := by simpa using hcr
        have hpc : N (parS c) = true := hp.resolve_left hcr
        rw [if_neg hcr]
        by_cases ep : parS c' = parS c
        · rw [ep, vput_at, putN_wd _ _ _ (by omega), hY1 _ hpc]
          by_cases ei : idxS c' = idxS c
          · obtain rfl := slot_inj c' c ho hr hok hcr' ep ei
            rw [if_pos rfl, if_pos (addN_self N c'), addB_self]
          · have hne : c' ≠ c := fun e' => ei (by rw [e'])
            rw [if_neg ei, addN_ne N hne, addB_ne b x hne, ← ep]
            exact h.wrd c' ho hr hpo
        · have hne : c' ≠ c := fun e' => ep (by rw [e'])
          have hbb : DA + (b (parS c) - 1) ≠ DA + (b (parS c') - 1) := fun he => by
            have r1 := h.rng _ hpc
            have r2 := h.rng _ hpo
            exact ep (h.inj _ _ hpo hpc (by omega))
          rw [vput_ne _ _ hbb, hY1 _ hpo, addN_ne N hne, addB_ne b x hne]
          exact h.wrd c' ho hr hpo
  · rcases addN_of N hc with rfl | hc
    · rcases hp with hp | hp
      · rw [hp] at hr
        cases hr
      · exact addN_old N _ hp
    · exact addN_old N _ (h.cl c' hr hc)
  · by_cases e : c' = c
    · rw [e, addB_self]
      exact ⟨hx1, hx2⟩
    · rw [addB_ne b x e]
      exact h.rng c' (by rwa [addN_ne N e] at hc)
  · by_cases e1 : c1 = c
    · by_cases e2 : c2 = c
      · rw [e1, e2]
      · rw [e1, addB_self, addB_ne b x e2] at he
        exact absurd he.symm (hfr c2 (by rwa [addN_ne N e2] at k2))
    · by_cases e2 : c2 = c
      · rw [e2, addB_self, addB_ne b x e1] at he
        exact absurd he (hfr c1 (by rwa [addN_ne N e1] at k1))
      · rw [addB_ne b x e1, addB_ne b x e2] at he
        exact h.inj c1 c2 (by rwa [addN_ne N e1] at k1) (by rwa [addN_ne N e2] at k2) he
end Go.Proofs.YteaoabppppbkoaaGreatDoor

namespace Go.Proofs.YteaoabppppbkoaaGreatDoor
set_option linter.unusedSimpArgs false
set_option linter.unusedVariables false
open Go.RowKit Go.Maps

variable {ln : Lm}
def wy1 (c : Nat) : Nat := if c < 6 then c + 1 else if c < 38 ∨ c = 2000 then 7 else 8
def wy2 (c : Nat) : Nat := if c < 6 ∨ c = 2000 ∨ c = 2001 then 0 else if c < 38 then c - 5 else if c < 1062 then (c - 38) / 32 + 1 else c - 2002 + 1
def wy3 (c : Nat) : Nat := if 38 ≤ c ∧ c < 1062 then (c - 38) % 32 + 1 else 0
/-- a slot's way -/
def wyS (c : Nat) : Value := .agg (wyc (wy1 c) (wy2 c) (wy3 c)).toArray
def vS (N : Nat → Bool) (b : Nat → Nat) (c : Nat) : Nat := if N c = true then b c else 0
theorem vS_link {DA NB : Nat} {Y : Nat → Nat → Int} {f : Nat → Int} {S : Nat → Bool} {B : Nat → Nat} (h : Fi DA NB Y f S B) (c : Nat) (ho : okS c = true) (hr : isR c = false) :
    (vS S B (parS c) = 0 → vS S B c = 0) ∧ (vS S B (parS c) ≠ 0 → vS S B (parS c) ≤ NB ∧ (vS S B c : Int) = wd (Y (DA + (vS S B (parS c) - 1))) (idxS c)) := by
  unfold vS
  constructor
  · intro h0
    split
    · rename_i hc
      have hp := h.cl c hr hc
      rw [if_pos hp] at h0
      have := h.rng _ hp
      omega
    · rfl
  · intro h0
    have hp : S (parS c) = true := by
      by_cases e : S (parS c) = true
      · exact e
      · rw [if_neg e] at h0
        exact absurd rfl h0
    rw [if_pos hp]
    refine ⟨(h.rng _ hp).2, ?_⟩
    rw [h.wrd c ho hr hp]
    split <;> rfl
theorem ndc_ptr (f : Nat → Int) (i : Nat) (h4 : 4 ≤ i) (h12 : i < 12) : (ndc f)[i]? = some (.int .u16 (f i)) := by
  have hc : i = 4 ∨ i = 5 ∨ i = 6 ∨ i = 7 ∨ i = 8 ∨ i = 9 ∨ i = 10 ∨ i = 11 := by omega
  rcases hc with rfl | rfl | rfl | rfl | rfl | rfl | rfl | rfl <;> rfl
theorem bdc_set (q : Nat) (f : Nat → Int) (i x : Nat) (h4 : 4 ≤ i) (h12 : i < 12) : (bdc q f).set (1 + i) (.int .u16 x) = bdc q (fun j => if j = i then (x : Int) else f j) := by
  have hc : i = 4 ∨ i = 5 ∨ i = 6 ∨ i = 7 ∨ i = 8 ∨ i = 9 ∨ i = 10 ∨ i = 11 := by omega
  rcases hc with rfl | rfl | rfl | rfl | rfl | rfl | rfl | rfl <;> rfl
theorem own_slot (b c : Nat) (hr : isR c = true) (W : World) : Calls Tryz.prog 186 #[.pointer (some ⟨b, 0, none⟩), .int .i64 (wy1 c)] W fun e w' => e = .returned (.pointer (some ⟨b, 1 + rtI c, none⟩)) ∧ w' = W := by
  rw [isR_iff] at hr
  rcases hr with hr | rfl | rfl
  · have := own_dir b (c + 1) (by omega) (by omega) W
    unfold wy1 rtI
    rw [if_pos hr, if_neg (by omega), if_neg (by omega), show 1 + (4 + c) = 5 + (c + 1 - 1) by omega]
    exact this
  · exact own_sin b W
  · exact own_dbl b W
theorem wy_root (c : Nat) (hr : isR c = true) : 1 ≤ wy1 c ∧ wy2 c = 0 ∧ wy3 c = 0 := by
  rw [isR_iff] at hr
  unfold wy1 wy2 wy3
  refine ⟨?_, if_pos hr, if_neg (by omega)⟩
  split
  · omega
  · split <;> decide
theorem at_slot (b q p t m d gg lab B0 P0 M DA NB N K : Nat) (g : Cf.Ge) (Y : Nat → Nat → Int) (f : Nat → Int) (S : Nat → Bool) (B : Nat → Nat) (hF : Fi DA NB Y f S B) (c : Nat) (hc : okS c = true)
    (hK : K < 600000000) (hg : GG g B0 P0 M DA NB N) (w : World) (h : Bo w w b q p t m d gg lab g B0 NB N ln Y K f) :
    Calls Tryz.prog 155 #[.pointer (some ⟨b, 0, none⟩), wyS c] w fun e w' => e = .returned (.tuple #[.int .u16 (vS S B c), .int .i64 0]) ∧ Bo w w' b q p t m d gg lab g B0 NB N ln Y (K + 2) f := by
  have hroot : ∀ c, isR c = true → (ndc f)[rtI c]? = some (.int .u16 (vS S B c)) := fun c hr => by
    have hl := rtI_lt c hr
    rw [ndc_ptr f _ hl.1 hl.2, hF.root c hr]
    unfold vS
    split <;> rfl
  have hoo := okS_iff c
  rw [hc] at hoo
  have hoo := hoo.1 rfl
  cases hr : isR c
  · have hn := (isR_no c).1 hr
    have hl := vS_link hF c hc hr
    by_cases h3 : 38 ≤ c ∧ c < 1062
    · have e1 : wy1 c = 8 := by unfold wy1; rw [if_neg (by omega), if_neg (by omega)]
      have e2 : wy2 c = (c - 38) / 32 + 1 := by unfold wy2; rw [if_neg (by omega), if_neg (by omega), if_pos (by omega)]
      have e3 : wy3 c = (c - 38) % 32 + 1 := by unfold wy3; rw [if_pos h3]
      have ep : parS c = 2002 + (c - 38) / 32 := by unfold parS; rw [if_neg (by omega), if_pos (by omega)]
      have ei : idxS c = (c - 38) % 32 := by unfold idxS; rw [if_neg (by omega), if_pos (by omega)]
      have hpo : okS (2002 + (c - 38) / 32) = true := (okS_iff _).2 (by omega)
      have hpr : isR (2002 + (c - 38) / 32) = false := (isR_no _).2 (by omega)
      have ep2 : parS (2002 + (c - 38) / 32) = 2001 := by unfold parS; rw [if_neg (by omega), if_neg (by omega)]
      have ei2 : idxS (2002 + (c - 38) / 32) = (c - 38) / 32 := by unfold idxS; rw [if_neg (by omega), if_neg (by omega)]; omega
      have hl2 := vS_link hF _ hpo hpr
      rw [ep2, ei2] at hl2
      rw [ep, ei] at hl
      have := at_gen (ln := ln) b q p t m d gg lab B0 P0 M DA NB N K g Y f 8 11 2 (by decide) ((wy2 c : Nat) : Int) ((wy3 c : Nat) : Int) (fun k => if k = 0 then (c - 38) / 32 else (c - 38) % 32) (fun k => if k = 0 then vS S B 2001 else if k = 1 then vS S B (2002 + (c - 38) / 32) else vS S B c)
        (fun W => own_slot b 2001 rfl W) (fun W => steps3 8 _ _ (by decide) (by rw [e2]; omega) (by rw [e3]; omega) W) (hroot 2001 rfl) (fun k hk => by
          have hk2 : k = 0 ∨ k = 1 := by omega
          rcases hk2 with rfl | rfl
          · refine ⟨?_, ?_⟩
            · show some (Value.int .i64 ((wy2 c : Nat) : Int)) = some (.int .i64 (((c - 38) / 32 : Nat) + 1))
              rw [e2]
              rfl
            · show (c - 38) / 32 < 32
              omega
          · refine ⟨?_, ?_⟩
            · show some (Value.int .i64 ((wy3 c : Nat) : Int)) = some (.int .i64 (((c - 38) % 32 : Nat) + 1))
              rw [e3]
              rfl
            · show (c - 38) % 32 < 32
              omega) (fun k hk => by
          have hk2 : k = 0 ∨ k = 1 := by omega
          rcases hk2 with rfl | rfl
          · exact hl2
          · exact hl) hK hg w h
      unfold wyS
      rw [e1]
      exact this
    · have e3 : wy3 c = 0 := by unfold wy3; rw [if_neg h3]
      have e2 : wy2 c = idxS c + 1 := by
        unfold wy2 idxS
        rw [if_neg hn]
        split
        · omega
        · rw [if_neg (by omega), if_neg (by omega)]
      have hpr : isR (parS c) = true := (isR_iff _).2 (by
        unfold parS
        split
        · omega
        · rw [if_neg (by omega)]
          omega)
      have e1 : wy1 c = wy1 (parS c) := by
        unfold wy1 parS
        by_cases e : c < 38
        · rw [if_neg (by omega), if_pos (.inl e), if_pos e]
          rfl
        · rw [if_neg (by omega), if_neg (by omega), if_neg e, if_neg (show ¬ c < 1062 by omega)]
          rfl
      have hwr := wy_root (parS c) hpr
      have := at_gen (ln := ln) b q p t m d gg lab B0 P0 M DA NB N K g Y f (wy1 (parS c)) (rtI (parS c)) 1 (by decide) ((wy2 c : Nat) : Int) 0 (fun _ => idxS c) (fun k => if k = 0 then vS S B (parS c) else vS S B c)
        (fun W => own_slot b (parS c) hpr W) (fun W => steps2 _ _ (by omega) (by rw [e2]; omega) W) (hroot _ hpr) (fun k hk => by
          obtain rfl : k = 0 := by omega
          refine ⟨?_, idxS_lt c hc hr⟩
          show some (Value.int .i64 ((wy2 c : Nat) : Int)) = some (.int .i64 ((idxS c : Nat) + 1))
          rw [e2]
          rfl) (fun k hk => by
          obtain rfl : k = 0 := by omega
          exact hl) hK hg w h
      unfold wyS
      rw [e1, e3]
      exact this
  · have hwr := wy_root c hr
    have := at_gen (ln := ln) b q p t m d gg lab B0 P0 M DA NB N K g Y f (wy1 c) (rtI c) 0 (by decide) 0 0 (fun _ => 0) (fun _ => vS S B c)
      (fun W => own_slot b c hr W) (fun W => steps1 _ (by omega) W) (hroot c hr) (fun k hk => absurd hk (Nat.not_lt_zero _)) (fun k hk => absurd hk (Nat.not_lt_zero _)) hK hg w h
    unfold wyS
    rw [hwr.2.1, hwr.2.2]
    exact this
end Go.Proofs.YteaoabppppbkoaaGreatDoor
