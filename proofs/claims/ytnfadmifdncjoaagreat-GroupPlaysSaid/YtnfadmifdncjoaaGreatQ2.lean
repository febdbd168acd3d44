import Derived.Test.YtnfadmifdncjoaaGreatQ1
/- A group: Get, Take, Give. -/
namespace Go.Proofs.YtnfadmifdncjoaaGreat
set_option linter.unusedSimpArgs false
set_option linter.unusedVariables false
open Go.RowKit Go.Maps

variable {ln : Lm}
set_option maxHeartbeats 20000000 in
set_option maxRecDepth 100000 in
theorem gget_nil (n : Int) (h0 : 0 ≤ n) (h1 : n < 65536) (w : World) : Calls Tryz.prog 18 #[.pointer none, .int .u16 n] w fun e w' => e = .returned (.tuple #[.agg (byts 64 fun _ => 0).toArray, .int .i64 1]) ∧ Below w.heap.size w w' := by
  go_enter Tryz.func18, Tryz.ntmps18
  go_wp2_with (first | (refine wpList_alloc_byts rfl 59 64 rfl Tryz.zero36 ?_; intro w1 F1 hb1 hz1; have HB1 := Lib.hid hb1;  clear hb1 hz1) | (refine wpList_yields _ (yields_build0 rfl rfl) ?_) | (refine wpList_store_mid rfl 59 (.tmp 4) (.tmp 13) rfl w.heap.size 0 (byts 64 fun _ => 0).toArray rfl rfl (by rw [byts_size]; exact F1.out.there 0 64 (Nat.le_refl _)) (size36' _) (byts_all _ _) ?_))
  refine (reach_nil _ _).mono ?_
  rintro e w' ⟨rfl, rfl⟩
  go_wp2_with (first | (refine wpList_alloc_byts rfl 59 64 rfl Tryz.zero36 ?_; intro w1 F1 hb1 hz1; have HB1 := Lib.hid hb1;  clear hb1 hz1) | (refine wpList_yields _ (yields_build0 rfl rfl) ?_) | (refine wpList_store_mid rfl 59 (.tmp 4) (.tmp 13) rfl w.heap.size 0 (byts 64 fun _ => 0).toArray rfl rfl (by rw [byts_size]; exact F1.out.there 0 64 (Nat.le_refl _)) (size36' _) (byts_all _ _) ?_))
  have F2 := F1.out.stored (fun _ => 0)
  exact bodyPost_ret_by (results_mid_tmp rfl _ _ w.heap.size _ (.array 64 5) rfl F2.range0 Tryz.arr36 rfl (size36 _)) rfl ⟨rfl, below_setCells HB1.out _ _ (Nat.le_refl _) _⟩
set_option maxHeartbeats 20000000 in
set_option maxRecDepth 100000 in
theorem gget_out (q p t m d gg lab B0 P0 M DA NB N K : Nat) (g : Cf.Ge) (Y : Nat → Nat → Int) (n : Nat) (h1 : n < 65536) (hn : ¬ (1 ≤ n ∧ n ≤ NB)) (hg : GG g B0 P0 M DA NB N) (w : World) (h : Gr w q p t m d gg lab g B0 NB N ln Y K) : Calls Tryz.prog 18 #[.pointer (some ⟨q, 0, none⟩), .int .u16 n] w fun e w' => e = .returned (.tuple #[.agg (byts 64 fun _ => 0).toArray, .int .i64 27]) ∧ Below w.heap.size w w' := by
  have HV := Lib.hid h.gb
  obtain ⟨x, hx⟩ : ∃ x : Int, (n : Int) = x := ⟨_, rfl⟩
  have hx0 : 0 ≤ x := by omega
  have hx1 : x < 65536 := by omega
  have HX := Lib.hid (show ¬ (1 ≤ x ∧ x ≤ g.bl) by have := hg.bl; omega)
  rw [hx]
  clear h hx hn hg h1
  go_enter Tryz.func18, Tryz.ntmps18
  go_wp2_with (first | (refine wpList_alloc_byts rfl 59 64 rfl Tryz.zero36 ?_; intro w1 F1 hb1 hz1; have HB1 := Lib.hid hb1; have HV1 := Lib.hid (HV.out.keep hb1); clear hb1 hz1) | (refine wpList_yields _ (yields_build0 rfl rfl) ?_) | (refine wpList_store_mid rfl 59 (.tmp 4) (.tmp 13) rfl w.heap.size 0 (byts 64 fun _ => 0).toArray rfl rfl (by rw [byts_size]; exact F1.out.there 0 64 (Nat.le_refl _)) (size36' _) (byts_all _ _) ?_))
  refine (reach_out q g.bl x HX.out w1 (HV1.out.c 6 _ rfl)).mono ?_
  rintro e w' ⟨rfl, hww⟩
  rw [hww]
  clear hww
  go_wp2_with (first | (refine wpList_alloc_byts rfl 59 64 rfl Tryz.zero36 ?_; intro w1 F1 hb1 hz1; have HB1 := Lib.hid hb1;  clear hb1 hz1) | (refine wpList_yields _ (yields_build0 rfl rfl) ?_) | (refine wpList_store_mid rfl 59 (.tmp 4) (.tmp 13) rfl w.heap.size 0 (byts 64 fun _ => 0).toArray rfl rfl (by rw [byts_size]; exact F1.out.there 0 64 (Nat.le_refl _)) (size36' _) (byts_all _ _) ?_))
  have F2 := F1.out.stored (fun _ => 0)
  exact bodyPost_ret_by (results_mid_tmp rfl _ _ w.heap.size _ (.array 64 5) rfl F2.range0 Tryz.arr36 rfl (size36 _)) rfl ⟨rfl, below_setCells HB1.out _ _ (Nat.le_refl _) _⟩
set_option maxHeartbeats 20000000 in
set_option maxRecDepth 100000 in
theorem gget_in (q p t m d gg lab B0 P0 M DA NB N K : Nat) (g : Cf.Ge) (Y : Nat → Nat → Int) (n : Nat) (hn0 : 1 ≤ n) (hn : n ≤ NB) (hK : K < 700000000) (hg : GG g B0 P0 M DA NB N) (w : World) (h : Gr w q p t m d gg lab g B0 NB N ln Y K) :
    Calls Tryz.prog 18 #[.pointer (some ⟨q, 0, none⟩), .int .u16 n] w fun e w' => e = .returned (.tuple #[.agg (byts 64 (Y (DA + (n - 1)))).toArray, .int .i64 0]) ∧ Gr w' q p t m d gg lab g B0 NB N ln Y (K + 1) ∧ Kf w w' [t, m, d, gg] := by
  have hN := h.rd.hN
  have HGet := Lib.hid (fun W (hW : Rd W t m d gg N ln Y K) => get6 t m d gg K Y (DA + (n - 1)) (by have := hg.b32; have := hg.bp; have := hg.pd; omega) (by have := hg.dn; omega) hK W hW)
  have hGr := h
  have HG := Lib.hid hGr
  have HR := Lib.hid (show 1 ≤ (n : Int) ∧ (n : Int) ≤ g.bl by have := hg.bl; omega)
  have HP : Hid (∀ W : World, W.cell? ⟨q, 5, none⟩ = some (.int .i64 g.da) → Calls Tryz.prog 54 #[.pointer (some ⟨q, 0, none⟩), .int .u16 n] W fun e w' => e = .returned (.int .i64 ((DA + (n - 1) : Nat) : Int)) ∧ Below W.heap.size W w') := fun W hc => by
    have hda := hg.da
    have h5 := hg.n512
    have hdn := hg.dn
    have := place7_any q g.da n (by omega) (by omega) (by omega) (by omega) W hc
    rwa [show g.da + ((n : Int) - 1) = ((DA + (n - 1) : Nat) : Int) by omega] at this
  obtain ⟨V, hV⟩ : ∃ V, Y (DA + (n - 1)) = V := ⟨_, rfl⟩
  rw [hV] at HGet ⊢
  obtain ⟨X, hX⟩ : ∃ X, DA + (n - 1) = X := ⟨_, rfl⟩
  rw [hX] at HGet HP
  have hx1 : (n : Int) < 65536 := by have := hg.n512; omega
  have lts := Lib.hid h.lts
  have hq0 := h.lts.1
  clear hX hV hN hn0 hn hGr h
  obtain ⟨x, hx⟩ : ∃ x : Int, (n : Int) = x := ⟨_, rfl⟩
  have hx0 : 0 ≤ x := by omega
  rw [hx] at HR HP hx1 ⊢
  clear hx hg
  go_enter Tryz.func18, Tryz.ntmps18
  go_upto_region 4 with (first | (refine wpList_alloc_byts rfl 59 64 rfl Tryz.zero36 ?_; intro w1 F1 hb1 hz1; have HB1 := Lib.hid hb1; have HG1 := Lib.hid (HG.out.keep hb1); clear hb1 hz1) | (go_at_call 49; refine (reach_in q g.bl x HR.out.1 HR.out.2 w1 (HG1.out.gb.c 6 _ rfl)).mono ?_; rintro e w' ⟨rfl, hww⟩; rw [hww]; clear hww))
  obtain ⟨b, hb⟩ : ∃ b, w.heap.size = b := ⟨_, rfl⟩
  have NB6 := Lib.hid (nin6 lts.out.1 lts.out.2.1 lts.out.2.2.1 lts.out.2.2.2.1 lts.out.2.2.2.2.1 lts.out.2.2.2.2.2 (Nat.le_of_eq hb))
  have HK1 := Lib.hid (Kf.of_below HB1.out [t, m, d, gg])
  have HWb := Lib.hid (Nat.le_of_eq hb)
  rw [hb] at F1 hq0
  try rw [hb]
  clear hb lts HB1 HG
  refine wp_region_held (S := fun W => Vl W q (gpc t lab g p)) (by kernel_rfl) ?_
  change wpAnyH _ _ _ _ _ _ _ _ (World.drew _)
  have hS0 : (fun W => Vl W q (gpc t lab g p)) w1.drew := HG1.out.gb.keep (Below.refl _ _).drew
  have HG2 := Lib.hid (HG1.out.keep (Below.refl w1.heap.size w1).drew)
  have HK2 := Lib.hid (HK1.out.trans (Kf.of_below (Below.refl w1.heap.size w1).drew _))
  have F2 := Lib.hid (F1.out.below (Below.refl w1.heap.size w1).drew F1.out.lt)
  obtain ⟨w2, hw2⟩ : ∃ x, World.drew w1 = x := ⟨_, rfl⟩
  rw [hw2] at hS0 HG2 HK2 F2 ⊢
  clear hw2
  clear HG1 HK1 F1
  refine wpAnyH_take (i := 0) (v := ?_) rfl (by kernel_rfl) (by kernel_rfl) (by kernel_rfl) (fun _ _ _ h => h) (Or.inl ⟨by rfl, ?_⟩) hS0 ?_
  rotate_left 1
  · intro W hW
    go_simp
    try with_reducible rfl
  simp only [Act.put, List.getElem_toArray, List.getElem_cons_zero, List.getElem_cons_succ, List.setIfInBounds_toArray, List.set_cons_zero, List.set_cons_succ]
  refine wpAnyH_take (i := 1) (v := ?_) rfl (by kernel_rfl) (by kernel_rfl) (by kernel_rfl) (fun _ _ _ h => h) (Or.inl ⟨by rfl, ?_⟩) hS0 ?_
  rotate_left 1
  · intro W hW
    go_simp
    try with_reducible rfl
  simp only [Act.put, List.getElem_toArray, List.getElem_cons_zero, List.getElem_cons_succ, List.setIfInBounds_toArray, List.set_cons_zero, List.set_cons_succ]
  refine wpAnyH_take (i := 2) (v := ?_) rfl (by kernel_rfl) (by kernel_rfl) (by kernel_rfl) (fun _ _ _ h => h) (Or.inl ⟨by rfl, ?_⟩) hS0 ?_
  rotate_left 1
  · intro W hW
    go_simp
    try with_reducible rfl
  simp only [Act.put, List.getElem_toArray, List.getElem_cons_zero, List.getElem_cons_succ, List.setIfInBounds_toArray, List.set_cons_zero, List.set_cons_succ]
  refine wpAnyH_take (i := 3) (v := ?_) rfl (by kernel_rfl) (by kernel_rfl) (by kernel_rfl) (fun _ _ _ h => h) (Or.inl ⟨by rfl, ?_⟩) hS0 ?_
  rotate_left 1
  · intro W hW
    have c0 := hW.c 0 _ rfl
    go_simp
    try with_reducible rfl
  simp only [Act.put, List.getElem_toArray, List.getElem_cons_zero, List.getElem_cons_succ, List.setIfInBounds_toArray, List.set_cons_zero, List.set_cons_succ]
  refine wpAnyH_take (i := 4) (v := ?_) rfl (by kernel_rfl) (by kernel_rfl) (by kernel_rfl) (fun _ _ _ h => h) (Or.inl ⟨by rfl, ?_⟩) hS0 ?_
  rotate_left 1
  · intro W hW
    go_simp
    try with_reducible rfl
  simp only [Act.put, List.getElem_toArray, List.getElem_cons_zero, List.getElem_cons_succ, List.setIfInBounds_toArray, List.set_cons_zero, List.set_cons_succ]
  refine wpAnyH_take (i := 5) (v := ?_) rfl (by kernel_rfl) (by kernel_rfl) (by kernel_rfl) (fun _ _ _ h => h) (Or.inl ⟨by rfl, ?_⟩) hS0 ?_
  rotate_left 1
  · intro W hW
    go_simp
    try with_reducible rfl
  simp only [Act.put, List.getElem_toArray, List.getElem_cons_zero, List.getElem_cons_succ, List.setIfInBounds_toArray, List.set_cons_zero, List.set_cons_succ]
  refine wpAnyH_ready (rs := [6]) (by kernel_rfl) (by simp) (AllReadyH.cons rfl (fun KK hKK => ?_) AllReadyH.nil)
  go_simp
  refine (HP.out w2 (hS0.c 5 _ rfl)).mono ?_
  rintro e w3 ⟨rfl, hb3⟩
  have HG3 := Lib.hid (HG2.out.keep hb3)
  have HK3 := Lib.hid (HK2.out.trans (Kf.of_below hb3 _))
  have F3 := Lib.hid (F2.out.below hb3 F2.out.lt)
  replace hS0 : (fun W => Vl W q (gpc t lab g p)) w3 := hS0.keep hb3
  clear hb3 HG2 HK2 F2
  refine hKK _ _ hS0 ?_
  intro _
  clear hKK KK
  try simp only [Act.put, List.getElem_toArray, List.getElem_cons_zero, List.getElem_cons_succ, List.setIfInBounds_toArray, List.set_cons_zero, List.set_cons_succ]
  refine wpAnyH_ready (rs := [7]) (by kernel_rfl) (by simp) (AllReadyH.cons rfl (fun KK hKK => ?_) AllReadyH.nil)
  go_simp
  refine (HGet.out w3 HG3.out.rd).mono ?_
  rintro e w4 ⟨rfl, hR4, hk4⟩
  have HG4 := Lib.hid (HG3.out.call hR4 hk4)
  have HK4 := Lib.hid (HK3.out.trans hk4)
  have nb4 : b ∉ [t, m, d, gg] := by have := NB6.out; simp at this ⊢; omega
  have F4 := Lib.hid (F3.out.kf hk4 nb4)
  replace hS0 : (fun W => Vl W q (gpc t lab g p)) w4 := HG4.out.gb
  clear hR4 hk4 HG3 HK3 F3 nb4
  refine hKK _ _ hS0 ?_
  intro _
  clear hKK KK
  try simp only [Act.put, List.getElem_toArray, List.getElem_cons_zero, List.getElem_cons_succ, List.setIfInBounds_toArray, List.set_cons_zero, List.set_cons_succ]
  refine wpAnyH_take (i := 8) (v := ?_) rfl (by kernel_rfl) (by kernel_rfl) (by kernel_rfl) (fun _ _ _ h => h) (Or.inl ⟨by rfl, ?_⟩) hS0 ?_
  rotate_left 1
  · intro W hW
    go_simp
    try with_reducible rfl
  simp only [Act.put, List.getElem_toArray, List.getElem_cons_zero, List.getElem_cons_succ, List.setIfInBounds_toArray, List.set_cons_zero, List.set_cons_succ]
  refine wpAnyH_take (i := 9) (v := ?_) rfl (by kernel_rfl) (by kernel_rfl) (by kernel_rfl) (fun _ _ _ h => h) (Or.inl ⟨by rfl, ?_⟩) hS0 ?_
  rotate_left 1
  · intro W hW
    go_simp
    try with_reducible rfl
  simp only [Act.put, List.getElem_toArray, List.getElem_cons_zero, List.getElem_cons_succ, List.setIfInBounds_toArray, List.set_cons_zero, List.set_cons_succ]
  refine wpAnyH_ready (rs := [10]) (by kernel_rfl) (by simp) (AllReadyH.cons rfl (fun KK hKK => ?_) AllReadyH.nil)
  refine step_store_mid rfl 59 _ _ rfl b 0 (byts 64 V).toArray rfl rfl (by rw [byts_size]; exact F4.out.there 0 64 (Nat.le_refl _)) (size36' _) (byts_all _ _) ?_
  rw [List.toList_toArray]
  have F5 := Lib.hid (F4.out.stored V)
  have hk5 : Kp w4 (w4.setCells b 0 (byts 64 V)) b b := (Kp.refl _ _ _).setCells b 0 (.inl rfl) _
  have HG5 := Lib.hid (HG4.out.kp hk5 NB6.out)
  have HK5 := Lib.hid (HK4.out.fresh hk5 HWb.out)
  obtain ⟨w5, hw5⟩ : ∃ x, w4.setCells b 0 (byts 64 V) = x := ⟨_, rfl⟩
  rw [hw5] at F5 HG5 HK5 ⊢
  clear hS0 hk5 hw5 F4 HG4 HK4
  have hS0 : (fun W => Vl W q (gpc t lab g p)) w5 := HG5.out.gb
  refine hKK _ _ hS0 ?_
  intro _
  clear hKK KK
  try simp only [Act.put, List.getElem_toArray, List.getElem_cons_zero, List.getElem_cons_succ, List.setIfInBounds_toArray, List.set_cons_zero, List.set_cons_succ]
  refine wpAnyH_take (i := 11) (v := ?_) rfl (by kernel_rfl) (by kernel_rfl) (by kernel_rfl) (fun _ _ _ h => h) (Or.inl ⟨by rfl, ?_⟩) hS0 ?_
  rotate_left 1
  · intro W hW
    go_simp
    try with_reducible rfl
  simp only [Act.put, List.getElem_toArray, List.getElem_cons_zero, List.getElem_cons_succ, List.setIfInBounds_toArray, List.set_cons_zero, List.set_cons_succ]
  refine wpAnyH_done (by kernel_rfl) ?_ _
  clear hS0
  go_wp2_with fail
  exact bodyPost_ret_by (results_mid_tmp rfl _ _ b _ (.array 64 5) rfl F5.out.range0 Tryz.arr36 rfl (size36 _)) rfl ⟨rfl, HG5.out, HK5.out⟩
theorem gtake_nil (w : World) : Calls Tryz.prog 20 #[.pointer none] w fun e w' => e = .returned (.tuple #[.int .u16 0, .int .i64 1]) ∧ w' = w := by
  go_enter Tryz.func20, Tryz.ntmps20
  go_wp2
  exact bodyPost_ret (v := .tuple #[.int .u16 0, .int .i64 1]) (by simp [results, Tryz.results20, go_sem]) rfl ⟨rfl, rfl⟩
theorem gfree (q p t m d gg lab B0 P0 M DA NB N K : Nat) (g : Cf.Ge) (Y : Nat → Nat → Int) (hK : K < 600000000) (hg : GG g B0 P0 M DA NB N) (w : World) (h : Gr w q p t m d gg lab g B0 NB N ln Y K) :
    Calls Tryz.prog 60 #[.pointer (some ⟨p, 0, none⟩)] w fun e w' => ∃ v, e = .returned (.tuple #[.int .i64 v, .int .i64 0]) ∧ Fr (bt Y B0) NB v ∧ Gr w' q p t m d gg lab g B0 NB N ln Y (K + 200) ∧ Kf w w' [t, m, d, gg] := by
  have hN := h.rd.hN
  have h1 := hg.dn
  have h2 := hg.pd
  have h3 := hg.bp
  have h4 := hg.n512
  refine (free_any p t m d gg B0 NB K Y (by omega) (by omega) (fun i hi => by omega) hK w h.mb h.rd h.np).mono ?_
  rintro e w' ⟨v, he, hF, hR, hk⟩
  exact ⟨v, he, hF, h.call hR hk, hk⟩
theorem gset (q p t m d gg lab B0 P0 M DA NB N K : Nat) (g : Cf.Ge) (Y : Nat → Nat → Int) (i : Nat) (hi : i < NB) (on : Bool) (hT : Has ln B0) (hK : K < 700000000) (hg : GG g B0 P0 M DA NB N) (w : World) (h : Gr w q p t m d gg lab g B0 NB N ln Y K) :
    Calls Tryz.prog 52 #[.pointer (some ⟨p, 0, none⟩), .int .i64 i, .bool on] w fun e w' => e = .returned (.int .i64 0) ∧ Gr w' q p t m d gg lab g B0 NB N ln (setV Y B0 i on) (K + 1) ∧ Kf w w' [t, m, d, gg] := by
  have hN := h.rd.hN
  have h1 := hg.dn
  have h2 := hg.pd
  have h3 := hg.bp
  have h4 := hg.n512
  have e0 : B0 + i / 512 = B0 := by omega
  have := set_any p t m d gg B0 NB K i Y on (by omega) (by omega) hi (by omega) (by rw [e0]; exact hT) hK w h.mb h.rd h.np
  rw [e0] at this
  refine this.mono ?_
  rintro e w' ⟨he, hR, hk⟩
  exact ⟨he, h.call hR hk, hk⟩
theorem ghas (q p t m d gg lab B0 P0 M DA NB N K : Nat) (g : Cf.Ge) (Y : Nat → Nat → Int) (i : Nat) (hi : i < NB) (hK : K < 700000000) (hg : GG g B0 P0 M DA NB N) (w : World) (h : Gr w q p t m d gg lab g B0 NB N ln Y K) :
    Calls Tryz.prog 50 #[.pointer (some ⟨p, 0, none⟩), .int .i64 i] w fun e w' => e = .returned (.tuple #[.bool (bt Y B0 i), .int .i64 0]) ∧ Gr w' q p t m d gg lab g B0 NB N ln Y (K + 1) ∧ Kf w w' [t, m, d, gg] := by
  have hN := h.rd.hN
  have h1 := hg.dn
  have h2 := hg.pd
  have h3 := hg.bp
  have h4 := hg.n512
  refine (has_any p t m d gg B0 NB K i Y (by omega) (by omega) hi (by omega) hK w h.mb h.rd h.np).mono ?_
  rintro e w' ⟨he, hR, hk⟩
  exact ⟨he, h.call hR hk, hk⟩
set_option maxHeartbeats 20000000 in
set_option maxRecDepth 100000 in
theorem gtake_none (q p t m d gg lab B0 P0 M DA NB N K : Nat) (g : Cf.Ge) (Y : Nat → Nat → Int) (hF : ∀ j, j < NB → bt Y B0 j = true) (hK : K < 600000000) (hg : GG g B0 P0 M DA NB N) (w : World) (h : Gr w q p t m d gg lab g B0 NB N ln Y K) :
    Calls Tryz.prog 20 #[.pointer (some ⟨q, 0, none⟩)] w fun e w' => e = .returned (.tuple #[.int .u16 0, .int .i64 10]) ∧ Gr w' q p t m d gg lab g B0 NB N ln Y (K + 200) ∧ Kf w w' [t, m, d, gg] := by
  have HC := Lib.hid (gfree q p t m d gg lab B0 P0 M DA NB N K g Y hK hg w h)
  have HF : Hid (Fr (bt Y B0) NB (-1)) := .inl ⟨rfl, hF⟩
  have c8 := h.gb.c 8 _ rfl
  clear hF h hg
  go_enter Tryz.func20, Tryz.ntmps20
  go_wp2_with fail
  refine HC.out.mono ?_
  rintro e w' ⟨v, rfl, hv, hG, hk⟩
  obtain rfl := hv.uniq HF.out
  have HG := Lib.hid hG
  have HK := Lib.hid hk
  clear hv hG hk HC HF c8
  go_wp2_with fail
  exact bodyPost_ret (v := .tuple #[.int .u16 0, .int .i64 10]) (by simp [results, Tryz.results20, go_sem]) rfl ⟨rfl, HG.out, HK.out⟩
set_option maxHeartbeats 20000000 in
set_option maxRecDepth 100000 in
theorem gtake_some (q p t m d gg lab B0 P0 M DA NB N K : Nat) (g : Cf.Ge) (Y : Nat → Nat → Int) (i : Nat) (hi : i < NB) (hF : Fr (bt Y B0) NB i) (hT : Has ln B0) (hT2 : Has ln (DA + i)) (hK : K < 600000000) (hg : GG g B0 P0 M DA NB N) (w : World) (h : Gr w q p t m d gg lab g B0 NB N ln Y K) :
    Calls Tryz.prog 20 #[.pointer (some ⟨q, 0, none⟩)] w fun e w' => e = .returned (.tuple #[.int .u16 ((i : Int) + 1), .int .i64 0]) ∧ Gr w' q p t m d gg lab g B0 NB N ln (vput (DA + i) (fun _ => 0) (setV Y B0 i true)) (K + 201) ∧ Kf w w' [t, m, d, gg] := by
  have HC := Lib.hid (gfree q p t m d gg lab B0 P0 M DA NB N K g Y hK hg w h)
  have HS := Lib.hid (fun W hW => gset (ln := ln) q p t m d gg lab B0 P0 M DA NB N (K + 200) g Y i hi true hT (by omega) hg W hW)
  have HP : Hid (∀ W, Gr W q p t m d gg lab g B0 NB N ln (setV Y B0 i true) (K + 200 + 1) → Calls Tryz.prog 15 #[.pointer (some ⟨q, 0, none⟩), .int .u16 ((i : Int) + 1), .agg (byts 64 fun _ => 0).toArray] W fun e w' => e = .returned (.int .i64 0) ∧ Gr w' q p t m d gg lab g B0 NB N ln (vput (DA + i) (fun _ => 0) (setV Y B0 i true)) (K + 200 + 1) ∧ Kf W w' [t, m, d, gg]) := fun W hW => by
    have := gput_in (ln := ln) q p t m d gg lab B0 P0 M DA NB N (K + 200 + 1) g (setV Y B0 i true) (i + 1) (by omega) (by omega) (fun _ => 0) (fun j _ => ⟨Int.le_refl _, (by show (0 : Int) < 256; decide)⟩) hT2 hg W hW
    rwa [show ((i + 1 : Nat) : Int) = (i : Int) + 1 by omega, show DA + (i + 1 - 1) = DA + i by omega] at this
  have HF := Lib.hid hF
  have c8 := h.gb.c 8 _ rfl
  have hi5 : i < 512 := by have := hg.n512; omega
  clear hF h hg hi hT hT2
  obtain ⟨x, hx⟩ : ∃ x : Int, (i : Int) = x := ⟨_, rfl⟩
  have hx0 : 0 ≤ x := by omega
  have hx1 : x < 512 := by omega
  rw [hx] at HS HP HF ⊢
  clear hx hi5
  go_enter Tryz.func20, Tryz.ntmps20
  go_wp2_with fail
  refine HC.out.mono ?_
  rintro e w2 ⟨v, rfl, hv, hG, hk⟩
  obtain rfl := hv.uniq HF.out
  have HG2 := Lib.hid hG
  have HK2 := Lib.hid hk
  have c8' := hG.gb.c 8 _ rfl
  clear hv hG hk HC HF c8
  go_wp2_with fail
  refine (HS.out w2 HG2.out).mono ?_
  rintro e w3 ⟨rfl, hG, hk⟩
  have HG3 := Lib.hid hG
  have HK3 := Lib.hid (HK2.out.trans hk)
  clear hG hk HS HG2 HK2 c8'
  go_wp2_with (first | (refine wpList_yields _ (yields_build0 rfl rfl) ?_))
  refine (HP.out w3 HG3.out).mono ?_
  rintro e w4 ⟨rfl, hG, hk⟩
  have HG4 := Lib.hid hG
  have HK4 := Lib.hid (HK3.out.trans hk)
  clear hG hk HP HG3 HK3
  go_wp2_with fail
  exact bodyPost_ret (v := .tuple #[.int .u16 (v + 1), .int .i64 0]) (by simp [results, Tryz.results20, go_sem]) rfl ⟨rfl, HG4.out, HK4.out⟩
theorem ggive_nil (n : Int) (h0 : 0 ≤ n) (h1 : n < 65536) (w : World) : Calls Tryz.prog 14 #[.pointer none, .int .u16 n] w fun e w' => e = .returned (.int .i64 1) ∧ w' = w := by
  go_enter Tryz.func14, Tryz.ntmps14
  go_wp2_with fail
  refine (reach_nil _ _).mono ?_
  rintro e w' ⟨rfl, rfl⟩
  go_wp2_with fail
  go_ret
  exact ⟨rfl, rfl⟩
theorem ggive_out (q p t m d gg lab B0 P0 M DA NB N K : Nat) (g : Cf.Ge) (Y : Nat → Nat → Int) (n : Nat) (h1 : n < 65536) (hn : ¬ (1 ≤ n ∧ n ≤ NB)) (hg : GG g B0 P0 M DA NB N) (w : World) (h : Gr w q p t m d gg lab g B0 NB N ln Y K) : Calls Tryz.prog 14 #[.pointer (some ⟨q, 0, none⟩), .int .u16 n] w fun e w' => e = .returned (.int .i64 27) ∧ w' = w := by
  have HV := Lib.hid h.gb
  obtain ⟨x, hx⟩ : ∃ x : Int, (n : Int) = x := ⟨_, rfl⟩
  have hx0 : 0 ≤ x := by omega
  have hx1 : x < 65536 := by omega
  have HX := Lib.hid (show ¬ (1 ≤ x ∧ x ≤ g.bl) by have := hg.bl; omega)
  rw [hx]
  clear h hx hn hg h1
  go_enter Tryz.func14, Tryz.ntmps14
  go_wp2_with fail
  refine (reach_out q g.bl x HX.out w (HV.out.c 6 _ rfl)).mono ?_
  rintro e w' ⟨rfl, rfl⟩
  go_wp2_with fail
  go_ret
  exact ⟨rfl, rfl⟩
set_option maxHeartbeats 20000000 in
set_option maxRecDepth 100000 in
theorem ggive_none (q p t m d gg lab B0 P0 M DA NB N K : Nat) (g : Cf.Ge) (Y : Nat → Nat → Int) (n : Nat) (hn0 : 1 ≤ n) (hn : n ≤ NB) (hbit : bt Y B0 (n - 1) = false) (hK : K < 600000000) (hg : GG g B0 P0 M DA NB N) (w : World) (h : Gr w q p t m d gg lab g B0 NB N ln Y K) :
    Calls Tryz.prog 14 #[.pointer (some ⟨q, 0, none⟩), .int .u16 n] w fun e w' => e = .returned (.int .i64 3) ∧ Gr w' q p t m d gg lab g B0 NB N ln Y (K + 1) ∧ Kf w w' [t, m, d, gg] := by
  have HR := Lib.hid (show 1 ≤ (n : Int) ∧ (n : Int) ≤ g.bl by have := hg.bl; omega)
  have hx1 : (n : Int) < 65536 := by have := hg.n512; omega
  have HH : Hid (∀ W, Gr W q p t m d gg lab g B0 NB N ln Y K → Calls Tryz.prog 50 #[.pointer (some ⟨p, 0, none⟩), .int .i64 ((n : Int) - 1)] W fun e w' => e = .returned (.tuple #[.bool false, .int .i64 0]) ∧ Gr w' q p t m d gg lab g B0 NB N ln Y (K + 1) ∧ Kf W w' [t, m, d, gg]) := fun W hW => by
    have := ghas q p t m d gg lab B0 P0 M DA NB N K g Y (n - 1) (by omega) (by omega) hg W hW
    rwa [hbit, show ((n - 1 : Nat) : Int) = (n : Int) - 1 by omega] at this
  have HG := Lib.hid h
  clear h hbit
  obtain ⟨x, hx⟩ : ∃ x : Int, (n : Int) = x := ⟨_, rfl⟩
  have hx0 : 0 ≤ x := by omega
  rw [hx] at HR HH hx1 ⊢
  
  clear hx hg hn0 hn
  go_enter Tryz.func14, Tryz.ntmps14
  go_upto_region 4 with (first | (go_at_call 49; refine (reach_in q g.bl x HR.out.1 HR.out.2 w (HG.out.gb.c 6 _ rfl)).mono ?_; rintro e w' ⟨rfl, hww⟩; rw [hww]; clear hww))
  refine wp_region_held (S := fun W => Vl W q (gpc t lab g p)) (by kernel_rfl) ?_
  change wpAnyH _ _ _ _ _ _ _ _ (World.drew _)
  have hS0 : (fun W => Vl W q (gpc t lab g p)) w.drew := HG.out.gb.keep (Below.refl _ _).drew
  have HG2 := Lib.hid (HG.out.keep (Below.refl w.heap.size w).drew)
  have HK2 := Lib.hid (Kf.of_below (Below.refl w.heap.size w).drew [t, m, d, gg])
  obtain ⟨w2, hw2⟩ : ∃ x, World.drew w = x := ⟨_, rfl⟩
  rw [hw2] at hS0 HG2 HK2 ⊢
  clear hw2
  clear HG
  refine wpAnyH_take (i := 0) (v := ?_) rfl (by kernel_rfl) (by kernel_rfl) (by kernel_rfl) (fun _ _ _ h => h) (Or.inl ⟨by rfl, ?_⟩) hS0 ?_
  rotate_left 1
  · intro W hW
    go_simp
    try with_reducible rfl
  simp only [Act.put, List.getElem_toArray, List.getElem_cons_zero, List.getElem_cons_succ, List.setIfInBounds_toArray, List.set_cons_zero, List.set_cons_succ]
  refine wpAnyH_take (i := 1) (v := ?_) rfl (by kernel_rfl) (by kernel_rfl) (by kernel_rfl) (fun _ _ _ h => h) (Or.inl ⟨by rfl, ?_⟩) hS0 ?_
  rotate_left 1
  · intro W hW
    go_simp
    try with_reducible rfl
  simp only [Act.put, List.getElem_toArray, List.getElem_cons_zero, List.getElem_cons_succ, List.setIfInBounds_toArray, List.set_cons_zero, List.set_cons_succ]
  refine wpAnyH_take (i := 2) (v := ?_) rfl (by kernel_rfl) (by kernel_rfl) (by kernel_rfl) (fun _ _ _ h => h) (Or.inl ⟨by rfl, ?_⟩) hS0 ?_
  rotate_left 1
  · intro W hW
    go_simp
    try with_reducible rfl
  simp only [Act.put, List.getElem_toArray, List.getElem_cons_zero, List.getElem_cons_succ, List.setIfInBounds_toArray, List.set_cons_zero, List.set_cons_succ]
  refine wpAnyH_take (i := 3) (v := ?_) rfl (by kernel_rfl) (by kernel_rfl) (by kernel_rfl) (fun _ _ _ h => h) (Or.inl ⟨by rfl, ?_⟩) hS0 ?_
  rotate_left 1
  · intro W hW
    have c8 := hW.c 8 _ rfl
    go_simp
    try with_reducible rfl
  simp only [Act.put, List.getElem_toArray, List.getElem_cons_zero, List.getElem_cons_succ, List.setIfInBounds_toArray, List.set_cons_zero, List.set_cons_succ]
  refine wpAnyH_take (i := 4) (v := ?_) rfl (by kernel_rfl) (by kernel_rfl) (by kernel_rfl) (fun _ _ _ h => h) (Or.inl ⟨by rfl, ?_⟩) hS0 ?_
  rotate_left 1
  · intro W hW
    go_simp
    try with_reducible rfl
  simp only [Act.put, List.getElem_toArray, List.getElem_cons_zero, List.getElem_cons_succ, List.setIfInBounds_toArray, List.set_cons_zero, List.set_cons_succ]
  refine wpAnyH_ready (rs := [5]) (by kernel_rfl) (by simp) (AllReadyH.cons rfl (fun KK hKK => ?_) AllReadyH.nil)
  go_simp
  refine (bit_any x hx0 hx1 w2).mono ?_
  rintro e wz ⟨rfl, hwz⟩
  rw [hwz]
  clear hwz
  refine hKK _ _ hS0 ?_
  intro _
  clear hKK KK
  try simp only [Act.put, List.getElem_toArray, List.getElem_cons_zero, List.getElem_cons_succ, List.setIfInBounds_toArray, List.set_cons_zero, List.set_cons_succ]
  refine wpAnyH_ready (rs := [6]) (by kernel_rfl) (by simp) (AllReadyH.cons rfl (fun KK hKK => ?_) AllReadyH.nil)
  go_simp
  refine (HH.out w2 HG2.out).mono ?_
  rintro e w3 ⟨rfl, hG, hk⟩
  have HG3 := Lib.hid hG
  have HK3 := Lib.hid (HK2.out.trans hk)
  replace hS0 : (fun W => Vl W q (gpc t lab g p)) w3 := HG3.out.gb
  clear hG hk HG2 HK2
  refine hKK _ _ hS0 ?_
  intro _
  clear hKK KK
  try simp only [Act.put, List.getElem_toArray, List.getElem_cons_zero, List.getElem_cons_succ, List.setIfInBounds_toArray, List.set_cons_zero, List.set_cons_succ]
  refine wpAnyH_take (i := 7) (v := ?_) rfl (by kernel_rfl) (by kernel_rfl) (by kernel_rfl) (fun _ _ _ h => h) (Or.inl ⟨by rfl, ?_⟩) hS0 ?_
  rotate_left 1
  · intro W hW
    go_simp
    try with_reducible rfl
  simp only [Act.put, List.getElem_toArray, List.getElem_cons_zero, List.getElem_cons_succ, List.setIfInBounds_toArray, List.set_cons_zero, List.set_cons_succ]
  refine wpAnyH_take (i := 8) (v := ?_) rfl (by kernel_rfl) (by kernel_rfl) (by kernel_rfl) (fun _ _ _ h => h) (Or.inl ⟨by rfl, ?_⟩) hS0 ?_
  rotate_left 1
  · intro W hW
    go_simp
    try with_reducible rfl
  simp only [Act.put, List.getElem_toArray, List.getElem_cons_zero, List.getElem_cons_succ, List.setIfInBounds_toArray, List.set_cons_zero, List.set_cons_succ]
  refine wpAnyH_take (i := 9) (v := ?_) rfl (by kernel_rfl) (by kernel_rfl) (by kernel_rfl) (fun _ _ _ h => h) (Or.inl ⟨by rfl, ?_⟩) hS0 ?_
  rotate_left 1
  · intro W hW
    go_simp
    try with_reducible rfl
  simp only [Act.put, List.getElem_toArray, List.getElem_cons_zero, List.getElem_cons_succ, List.setIfInBounds_toArray, List.set_cons_zero, List.set_cons_succ]
  refine wpAnyH_take (i := 10) (v := ?_) rfl (by kernel_rfl) (by kernel_rfl) (by kernel_rfl) (fun _ _ _ h => h) (Or.inl ⟨by rfl, ?_⟩) hS0 ?_
  rotate_left 1
  · intro W hW
    go_simp
    try with_reducible rfl
  simp only [Act.put, List.getElem_toArray, List.getElem_cons_zero, List.getElem_cons_succ, List.setIfInBounds_toArray, List.set_cons_zero, List.set_cons_succ]
  refine wpAnyH_take (i := 11) (v := ?_) rfl (by kernel_rfl) (by kernel_rfl) (by kernel_rfl) (fun _ _ _ h => h) (Or.inl ⟨by rfl, ?_⟩) hS0 ?_
  rotate_left 1
  · intro W hW
    go_simp
    try with_reducible rfl
  simp only [Act.put, List.getElem_toArray, List.getElem_cons_zero, List.getElem_cons_succ, List.setIfInBounds_toArray, List.set_cons_zero, List.set_cons_succ]
  refine wpAnyH_done (by kernel_rfl) ?_ _
  clear hS0 HH
  go_wp2_with fail
  go_ret
  exact ⟨rfl, HG3.out, HK3.out⟩
set_option maxHeartbeats 20000000 in
set_option maxRecDepth 100000 in
theorem ggive_ok (q p t m d gg lab B0 P0 M DA NB N K : Nat) (g : Cf.Ge) (Y : Nat → Nat → Int) (n : Nat) (hn0 : 1 ≤ n) (hn : n ≤ NB) (hbit : bt Y B0 (n - 1) = true) (hT : Has ln B0) (hK : K < 600000000) (hg : GG g B0 P0 M DA NB N) (w : World) (h : Gr w q p t m d gg lab g B0 NB N ln Y K) :
    Calls Tryz.prog 14 #[.pointer (some ⟨q, 0, none⟩), .int .u16 n] w fun e w' => e = .returned (.int .i64 0) ∧ Gr w' q p t m d gg lab g B0 NB N ln (setV Y B0 (n - 1) false) (K + 2) ∧ Kf w w' [t, m, d, gg] := by
  have HR := Lib.hid (show 1 ≤ (n : Int) ∧ (n : Int) ≤ g.bl by have := hg.bl; omega)
  have hx1 : (n : Int) < 65536 := by have := hg.n512; omega
  have HH : Hid (∀ W, Gr W q p t m d gg lab g B0 NB N ln Y K → Calls Tryz.prog 50 #[.pointer (some ⟨p, 0, none⟩), .int .i64 ((n : Int) - 1)] W fun e w' => e = .returned (.tuple #[.bool true, .int .i64 0]) ∧ Gr w' q p t m d gg lab g B0 NB N ln Y (K + 1) ∧ Kf W w' [t, m, d, gg]) := fun W hW => by
    have := ghas q p t m d gg lab B0 P0 M DA NB N K g Y (n - 1) (by omega) (by omega) hg W hW
    rwa [hbit, show ((n - 1 : Nat) : Int) = (n : Int) - 1 by omega] at this
  have HS : Hid (∀ W, Gr W q p t m d gg lab g B0 NB N ln Y (K + 1) → Calls Tryz.prog 52 #[.pointer (some ⟨p, 0, none⟩), .int .i64 ((n : Int) - 1), .bool false] W fun e w' => e = .returned (.int .i64 0) ∧ Gr w' q p t m d gg lab g B0 NB N ln (setV Y B0 (n - 1) false) (K + 1 + 1) ∧ Kf W w' [t, m, d, gg]) := fun W hW => by
    have := gset q p t m d gg lab B0 P0 M DA NB N (K + 1) g Y (n - 1) (by omega) false hT (by omega) hg W hW
    rwa [show ((n - 1 : Nat) : Int) = (n : Int) - 1 by omega] at this
  obtain ⟨Z, hZ⟩ : ∃ Z, setV Y B0 (n - 1) false = Z := ⟨_, rfl⟩
  rw [hZ] at HS ⊢
  clear hZ
  have HG := Lib.hid h
  clear h hbit
  obtain ⟨x, hx⟩ : ∃ x : Int, (n : Int) = x := ⟨_, rfl⟩
  have hx0 : 0 ≤ x := by omega
  rw [hx] at HR HH hx1 ⊢
  rw [hx] at HS
  clear hx hg hn0 hn
  go_enter Tryz.func14, Tryz.ntmps14
  go_upto_region 4 with (first | (go_at_call 49; refine (reach_in q g.bl x HR.out.1 HR.out.2 w (HG.out.gb.c 6 _ rfl)).mono ?_; rintro e w' ⟨rfl, hww⟩; rw [hww]; clear hww))
  refine wp_region_held (S := fun W => Vl W q (gpc t lab g p)) (by kernel_rfl) ?_
  change wpAnyH _ _ _ _ _ _ _ _ (World.drew _)
  have hS0 : (fun W => Vl W q (gpc t lab g p)) w.drew := HG.out.gb.keep (Below.refl _ _).drew
  have HG2 := Lib.hid (HG.out.keep (Below.refl w.heap.size w).drew)
  have HK2 := Lib.hid (Kf.of_below (Below.refl w.heap.size w).drew [t, m, d, gg])
  obtain ⟨w2, hw2⟩ : ∃ x, World.drew w = x := ⟨_, rfl⟩
  rw [hw2] at hS0 HG2 HK2 ⊢
  clear hw2
  clear HG
  refine wpAnyH_take (i := 0) (v := ?_) rfl (by kernel_rfl) (by kernel_rfl) (by kernel_rfl) (fun _ _ _ h => h) (Or.inl ⟨by rfl, ?_⟩) hS0 ?_
  rotate_left 1
  · intro W hW
    go_simp
    try with_reducible rfl
  simp only [Act.put, List.getElem_toArray, List.getElem_cons_zero, List.getElem_cons_succ, List.setIfInBounds_toArray, List.set_cons_zero, List.set_cons_succ]
  refine wpAnyH_take (i := 1) (v := ?_) rfl (by kernel_rfl) (by kernel_rfl) (by kernel_rfl) (fun _ _ _ h => h) (Or.inl ⟨by rfl, ?_⟩) hS0 ?_
  rotate_left 1
  · intro W hW
    go_simp
    try with_reducible rfl
  simp only [Act.put, List.getElem_toArray, List.getElem_cons_zero, List.getElem_cons_succ, List.setIfInBounds_toArray, List.set_cons_zero, List.set_cons_succ]
  refine wpAnyH_take (i := 2) (v := ?_) rfl (by kernel_rfl) (by kernel_rfl) (by kernel_rfl) (fun _ _ _ h => h) (Or.inl ⟨by rfl, ?_⟩) hS0 ?_
  rotate_left 1
  · intro W hW
    go_simp
    try with_reducible rfl
  simp only [Act.put, List.getElem_toArray, List.getElem_cons_zero, List.getElem_cons_succ, List.setIfInBounds_toArray, List.set_cons_zero, List.set_cons_succ]
  refine wpAnyH_take (i := 3) (v := ?_) rfl (by kernel_rfl) (by kernel_rfl) (by kernel_rfl) (fun _ _ _ h => h) (Or.inl ⟨by rfl, ?_⟩) hS0 ?_
  rotate_left 1
  · intro W hW
    have c8 := hW.c 8 _ rfl
    go_simp
    try with_reducible rfl
  simp only [Act.put, List.getElem_toArray, List.getElem_cons_zero, List.getElem_cons_succ, List.setIfInBounds_toArray, List.set_cons_zero, List.set_cons_succ]
  refine wpAnyH_take (i := 4) (v := ?_) rfl (by kernel_rfl) (by kernel_rfl) (by kernel_rfl) (fun _ _ _ h => h) (Or.inl ⟨by rfl, ?_⟩) hS0 ?_
  rotate_left 1
  · intro W hW
    go_simp
    try with_reducible rfl
  simp only [Act.put, List.getElem_toArray, List.getElem_cons_zero, List.getElem_cons_succ, List.setIfInBounds_toArray, List.set_cons_zero, List.set_cons_succ]
  refine wpAnyH_ready (rs := [5]) (by kernel_rfl) (by simp) (AllReadyH.cons rfl (fun KK hKK => ?_) AllReadyH.nil)
  go_simp
  refine (bit_any x hx0 hx1 w2).mono ?_
  rintro e wz ⟨rfl, hwz⟩
  rw [hwz]
  clear hwz
  refine hKK _ _ hS0 ?_
  intro _
  clear hKK KK
  try simp only [Act.put, List.getElem_toArray, List.getElem_cons_zero, List.getElem_cons_succ, List.setIfInBounds_toArray, List.set_cons_zero, List.set_cons_succ]
  refine wpAnyH_ready (rs := [6]) (by kernel_rfl) (by simp) (AllReadyH.cons rfl (fun KK hKK => ?_) AllReadyH.nil)
  go_simp
  refine (HH.out w2 HG2.out).mono ?_
  rintro e w3 ⟨rfl, hG, hk⟩
  have HG3 := Lib.hid hG
  have HK3 := Lib.hid (HK2.out.trans hk)
  replace hS0 : (fun W => Vl W q (gpc t lab g p)) w3 := HG3.out.gb
  clear hG hk HG2 HK2
  refine hKK _ _ hS0 ?_
  intro _
  clear hKK KK
  try simp only [Act.put, List.getElem_toArray, List.getElem_cons_zero, List.getElem_cons_succ, List.setIfInBounds_toArray, List.set_cons_zero, List.set_cons_succ]
  refine wpAnyH_take (i := 7) (v := ?_) rfl (by kernel_rfl) (by kernel_rfl) (by kernel_rfl) (fun _ _ _ h => h) (Or.inl ⟨by rfl, ?_⟩) hS0 ?_
  rotate_left 1
  · intro W hW
    go_simp
    try with_reducible rfl
  simp only [Act.put, List.getElem_toArray, List.getElem_cons_zero, List.getElem_cons_succ, List.setIfInBounds_toArray, List.set_cons_zero, List.set_cons_succ]
  refine wpAnyH_take (i := 8) (v := ?_) rfl (by kernel_rfl) (by kernel_rfl) (by kernel_rfl) (fun _ _ _ h => h) (Or.inl ⟨by rfl, ?_⟩) hS0 ?_
  rotate_left 1
  · intro W hW
    go_simp
    try with_reducible rfl
  simp only [Act.put, List.getElem_toArray, List.getElem_cons_zero, List.getElem_cons_succ, List.setIfInBounds_toArray, List.set_cons_zero, List.set_cons_succ]
  refine wpAnyH_take (i := 9) (v := ?_) rfl (by kernel_rfl) (by kernel_rfl) (by kernel_rfl) (fun _ _ _ h => h) (Or.inl ⟨by rfl, ?_⟩) hS0 ?_
  rotate_left 1
  · intro W hW
    go_simp
    try with_reducible rfl
  simp only [Act.put, List.getElem_toArray, List.getElem_cons_zero, List.getElem_cons_succ, List.setIfInBounds_toArray, List.set_cons_zero, List.set_cons_succ]
  refine wpAnyH_take (i := 10) (v := ?_) rfl (by kernel_rfl) (by kernel_rfl) (by kernel_rfl) (fun _ _ _ h => h) (Or.inl ⟨by rfl, ?_⟩) hS0 ?_
  rotate_left 1
  · intro W hW
    go_simp
    try with_reducible rfl
  simp only [Act.put, List.getElem_toArray, List.getElem_cons_zero, List.getElem_cons_succ, List.setIfInBounds_toArray, List.set_cons_zero, List.set_cons_succ]
  refine wpAnyH_take (i := 11) (v := ?_) rfl (by kernel_rfl) (by kernel_rfl) (by kernel_rfl) (fun _ _ _ h => h) (Or.inl ⟨by rfl, ?_⟩) hS0 ?_
  rotate_left 1
  · intro W hW
    go_simp
    try with_reducible rfl
  simp only [Act.put, List.getElem_toArray, List.getElem_cons_zero, List.getElem_cons_succ, List.setIfInBounds_toArray, List.set_cons_zero, List.set_cons_succ]
  refine wpAnyH_done (by kernel_rfl) ?_ _
  clear hS0 HH
  go_upto_region 9 with fail
  refine wp_region_held (S := fun W => Vl W q (gpc t lab g p)) (by kernel_rfl) ?_
  change wpAnyH _ _ _ _ _ _ _ _ (World.drew _)
  have hS0 : (fun W => Vl W q (gpc t lab g p)) w3.drew := HG3.out.gb.keep (Below.refl _ _).drew
  have HG4 := Lib.hid (HG3.out.keep (Below.refl w3.heap.size w3).drew)
  have HK4 := Lib.hid (HK3.out.trans (Kf.of_below (Below.refl w3.heap.size w3).drew [t, m, d, gg]))
  obtain ⟨w4, hw4⟩ : ∃ x, World.drew w3 = x := ⟨_, rfl⟩
  rw [hw4] at hS0 HG4 HK4 ⊢
  clear hw4
  clear HG3 HK3
  refine wpAnyH_take (i := 0) (v := ?_) rfl (by kernel_rfl) (by kernel_rfl) (by kernel_rfl) (fun _ _ _ h => h) (Or.inl ⟨by rfl, ?_⟩) hS0 ?_
  rotate_left 1
  · intro W hW
    go_simp
    try with_reducible rfl
  simp only [Act.put, List.getElem_toArray, List.getElem_cons_zero, List.getElem_cons_succ, List.setIfInBounds_toArray, List.set_cons_zero, List.set_cons_succ]
  refine wpAnyH_take (i := 1) (v := ?_) rfl (by kernel_rfl) (by kernel_rfl) (by kernel_rfl) (fun _ _ _ h => h) (Or.inl ⟨by rfl, ?_⟩) hS0 ?_
  rotate_left 1
  · intro W hW
    go_simp
    try with_reducible rfl
  simp only [Act.put, List.getElem_toArray, List.getElem_cons_zero, List.getElem_cons_succ, List.setIfInBounds_toArray, List.set_cons_zero, List.set_cons_succ]
  refine wpAnyH_take (i := 2) (v := ?_) rfl (by kernel_rfl) (by kernel_rfl) (by kernel_rfl) (fun _ _ _ h => h) (Or.inl ⟨by rfl, ?_⟩) hS0 ?_
  rotate_left 1
  · intro W hW
    go_simp
    try with_reducible rfl
  simp only [Act.put, List.getElem_toArray, List.getElem_cons_zero, List.getElem_cons_succ, List.setIfInBounds_toArray, List.set_cons_zero, List.set_cons_succ]
  refine wpAnyH_take (i := 3) (v := ?_) rfl (by kernel_rfl) (by kernel_rfl) (by kernel_rfl) (fun _ _ _ h => h) (Or.inl ⟨by rfl, ?_⟩) hS0 ?_
  rotate_left 1
  · intro W hW
    have c8 := hW.c 8 _ rfl
    go_simp
    try with_reducible rfl
  simp only [Act.put, List.getElem_toArray, List.getElem_cons_zero, List.getElem_cons_succ, List.setIfInBounds_toArray, List.set_cons_zero, List.set_cons_succ]
  refine wpAnyH_take (i := 4) (v := ?_) rfl (by kernel_rfl) (by kernel_rfl) (by kernel_rfl) (fun _ _ _ h => h) (Or.inl ⟨by rfl, ?_⟩) hS0 ?_
  rotate_left 1
  · intro W hW
    go_simp
    try with_reducible rfl
  simp only [Act.put, List.getElem_toArray, List.getElem_cons_zero, List.getElem_cons_succ, List.setIfInBounds_toArray, List.set_cons_zero, List.set_cons_succ]
  refine wpAnyH_ready (rs := [5]) (by kernel_rfl) (by simp) (AllReadyH.cons rfl (fun KK hKK => ?_) AllReadyH.nil)
  go_simp
  refine (bit_any x hx0 hx1 w4).mono ?_
  rintro e wz ⟨rfl, hwz⟩
  rw [hwz]
  clear hwz
  refine hKK _ _ hS0 ?_
  intro _
  clear hKK KK
  try simp only [Act.put, List.getElem_toArray, List.getElem_cons_zero, List.getElem_cons_succ, List.setIfInBounds_toArray, List.set_cons_zero, List.set_cons_succ]
  refine wpAnyH_ready (rs := [6]) (by kernel_rfl) (by simp) (AllReadyH.cons rfl (fun KK hKK => ?_) AllReadyH.nil)
  go_simp
  refine (HS.out w4 HG4.out).mono ?_
  rintro e w5 ⟨rfl, hG, hk⟩
  have HG5 := Lib.hid hG
  have HK5 := Lib.hid (HK4.out.trans hk)
  replace hS0 : (fun W => Vl W q (gpc t lab g p)) w5 := HG5.out.gb
  clear hG hk HG4 HK4
  refine hKK _ _ hS0 ?_
  intro _
  clear hKK KK
  try simp only [Act.put, List.getElem_toArray, List.getElem_cons_zero, List.getElem_cons_succ, List.setIfInBounds_toArray, List.set_cons_zero, List.set_cons_succ]
  refine wpAnyH_take (i := 7) (v := ?_) rfl (by kernel_rfl) (by kernel_rfl) (by kernel_rfl) (fun _ _ _ h => h) (Or.inl ⟨by rfl, ?_⟩) hS0 ?_
  rotate_left 1
  · intro W hW
    go_simp
    try with_reducible rfl
  simp only [Act.put, List.getElem_toArray, List.getElem_cons_zero, List.getElem_cons_succ, List.setIfInBounds_toArray, List.set_cons_zero, List.set_cons_succ]
  refine wpAnyH_done (by kernel_rfl) ?_ _
  clear hS0
  go_wp2_with fail
  go_ret
  exact ⟨rfl, HG5.out, HK5.out⟩
end Go.Proofs.YtnfadmifdncjoaaGreat
