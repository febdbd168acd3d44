import Derived.Test.YtbnpgkclnebnmaaGreatZ15
import Derived.Laws.BitsAllLaws
/- A group: Get, Take, Give. -/
/- A group: Open; the fixed fact. -/
/- What loops of transactions carry. -/
/- A group that is nil: its calls on nodes. -/
/- A group: Node, Set, the first free node, MakeLink, Make. -/

namespace Go.Proofs.YtbnpgkclnebnmaaGreat
set_option linter.unusedSimpArgs false
set_option linter.unusedVariables false
open Go.RowKit Go.Maps

variable {ln : Lm}
set_option maxHeartbeats 20000000 in
set_option maxRecDepth 100000 in
theorem gget_in (q p t m d gg lab B0 P0 M DA NB N K : Nat) (g : Cf.Ge) (Y : Nat → Nat → Int) (n : Nat) (hn0 : 1 ≤ n) (hn : n ≤ NB) (hK : K < 700000000) (hg : GG g B0 P0 M DA NB N) (w : World) (h : Gr w q p t m d gg lab g B0 NB N ln Y K) :
    Calls Tryz.prog 18 #[.pointer (some ⟨q, 0, none⟩), .int .u16 n] w fun e w' => e = .returned (.tuple #[.agg (byts 64 (Y (DA + (n - 1)))).toArray, .int .i64 0]) ∧ Gr w' q p t m d gg lab g B0 NB N ln Y (K + 1) ∧ Kf w w' [t, m, d, gg] := by
  have hN := h.rd.hN
  have HGet := Lib.hid (fun W (hW : Rd W t m d gg N ln Y K) => get6 t m d gg K Y (DA + (n - 1)) (by have := hg.b32; have := hg.bp; have := hg.pd; omega) (by have := hg.dn; omega) hK W hW)
  have hGr := h
  have HG := Lib.hid hGr
  have HR := Lib.hid (show 1 ≤ (n : Int) ∧ (n : Int) ≤ g.bl by have := hg.bl; omega)
  have HP : Hid (∀ W : World, W.cell? ⟨q, 5, none⟩ = some (.int .i64 g.da) → Calls Tryz.prog 54 #[.pointer (some ⟨q, 0, none⟩), .int .u16 n] W fun e w' => e = .returned (.int .i64 ((DA + (n - 1) : Nat) : Int)) ∧ Below W.heap.size W w') := fun W hc => by
    have hda := hg.da
    have h5 := hg.n512
    have hdn := hg.dn
    have := place7_any q g.da n (by omega) (by omega) (by omega) (by omega) W hc
    rwa [show g.da + ((n : Int) - 1) = ((DA + (n - 1) : Nat) : Int) by omega] at this
  obtain ⟨V, hV⟩ : ∃ V, Y (DA + (n - 1)) = V := ⟨_, rfl⟩
  rw [hV] at HGet ⊢
  obtain ⟨X, hX⟩ : ∃ X, DA + (n - 1) = X := ⟨_, rfl⟩
  rw [hX] at HGet HP
  have hx1 : (n : Int) < 65536 := by have := hg.n512; omega
  have lts := Lib.hid h.lts
  have hq0 := h.lts.1
  clear hX hV hN hn0 hn hGr h
  obtain ⟨x, hx⟩ : ∃ x : Int, (n : Int) = x := ⟨_, rfl⟩
  have hx0 : 0 ≤ x := by omega
  rw [hx] at HR HP hx1 ⊢
  clear hx hg
  go_enter Tryz.func18, Tryz.ntmps18
  go_upto_region 4 with (first | (refine wpList_alloc_byts rfl 59 64 rfl Tryz.zero36 ?_; intro w1 F1 hb1 hz1; have HB1 := Lib.hid hb1; have HG1 := Lib.hid (HG.out.keep hb1); clear hb1 hz1) | (go_at_call 49; refine (reach_in q g.bl x HR.out.1 HR.out.2 w1 (HG1.out.gb.c 6 _ rfl)).mono ?_; rintro e w' ⟨rfl, hww⟩; rw [hww]; clear hww))
  obtain ⟨b, hb⟩ : ∃ b, w.heap.size = b := ⟨_, rfl⟩
  have NB6 := Lib.hid (nin6 lts.out.1 lts.out.2.1 lts.out.2.2.1 lts.out.2.2.2.1 lts.out.2.2.2.2.1 lts.out.2.2.2.2.2 (Nat.le_of_eq hb))
  have HK1 := Lib.hid (Kf.of_below HB1.out [t, m, d, gg])
  have HWb := Lib.hid (Nat.le_of_eq hb)
  rw [hb] at F1 hq0
  try rw [hb]
  clear hb lts HB1 HG
  refine wp_region_held (S := fun W => Vl W q (gpc t lab g p)) (by kernel_rfl) ?_
  change wpAnyH _ _ _ _ _ _ _ _ (World.drew _)
  have hS0 : (fun W => Vl W q (gpc t lab g p)) w1.drew := HG1.out.gb.keep (Below.refl _ _).drew
  have HG2 := Lib.hid (HG1.out.keep (Below.refl w1.heap.size w1).drew)
  have HK2 := Lib.hid (HK1.out.trans (Kf.of_below (Below.refl w1.heap.size w1).drew _))
  have F2 := Lib.hid (F1.out.below (Below.refl w1.heap.size w1).drew F1.out.lt)
  obtain ⟨w2, hw2⟩ : ∃ x, World.drew w1 = x := ⟨_, rfl⟩
  rw [hw2] at hS0 HG2 HK2 F2 ⊢
  clear hw2
  clear HG1 HK1 F1
  refine wpAnyH_take (i := 0) (v := ?_) rfl (by kernel_rfl) (by kernel_rfl) (by kernel_rfl) (fun _ _ _ h => h) (Or.inl ⟨by rfl, ?_⟩) hS0 ?_
  rotate_left 1
  · intro W hW
    go_simp
    try with_reducible rfl
  simp only [Act.put, List.getElem_toArray, List.getElem_cons_zero, List.getElem_cons_succ, List.setIfInBounds_toArray, List.set_cons_zero, List.set_cons_succ]
  refine wpAnyH_take (i := 1) (v := ?_) rfl (by kernel_rfl) (by kernel_rfl) (by kernel_rfl) (fun _ _ _ h => h) (Or.inl ⟨by rfl, ?_⟩) hS0 ?_
  rotate_left 1
  · intro W hW
    go_simp
    try with_reducible rfl
  simp only [Act.put, List.getElem_toArray, List.getElem_cons_zero, List.getElem_cons_succ, List.setIfInBounds_toArray, List.set_cons_zero, List.set_cons_succ]
  refine wpAnyH_take (i := 2) (v := ?_) rfl (by kernel_rfl) (by kernel_rfl) (by kernel_rfl) (fun _ _ _ h => h) (Or.inl ⟨by rfl, ?_⟩) hS0 ?_
  rotate_left 1
  · intro W hW
    go_simp
    try with_reducible rfl
  simp only [Act.put, List.getElem_toArray, List.getElem_cons_zero, List.getElem_cons_succ, List.setIfInBounds_toArray, List.set_cons_zero, List.set_cons_succ]
  refine wpAnyH_take (i := 3) (v := ?_) rfl (by kernel_rfl) (by kernel_rfl) (by kernel_rfl) (fun _ _ _ h => h) (Or.inl ⟨by rfl, ?_⟩) hS0 ?_
  rotate_left 1
  · intro W hW
    have c0 := hW.c 0 _ rfl
    go_simp
    try with_reducible rfl
  simp only [Act.put, List.getElem_toArray, List.getElem_cons_zero, List.getElem_cons_succ, List.setIfInBounds_toArray, List.set_cons_zero, List.set_cons_succ]
  refine wpAnyH_take (i := 4) (v := ?_) rfl (by kernel_rfl) (by kernel_rfl) (by kernel_rfl) (fun _ _ _ h => h) (Or.inl ⟨by rfl, ?_⟩) hS0 ?_
  rotate_left 1
  · intro W hW
    go_simp
    try with_reducible rfl
  simp only [Act.put, List.getElem_toArray, List.getElem_cons_zero, List.getElem_cons_succ, List.setIfInBounds_toArray, List.set_cons_zero, List.set_cons_succ]
  refine wpAnyH_take (i := 5) (v := ?_) rfl (by kernel_rfl) (by kernel_rfl) (by kernel_rfl) (fun _ _ _ h => h) (Or.inl ⟨by rfl, ?_⟩) hS0 ?_
  rotate_left 1
  · intro W hW
    go_simp
    try with_reducible rfl
  simp only [Act.put, List.getElem_toArray, List.getElem_cons_zero, List.getElem_cons_succ, List.setIfInBounds_toArray, List.set_cons_zero, List.set_cons_succ]
  refine wpAnyH_ready (rs := [6]) (by kernel_rfl) (by simp) (AllReadyH.cons rfl (fun KK hKK => ?_) AllReadyH.nil)
  go_simp
  refine (HP.out w2 (hS0.c 5 _ rfl)).mono ?_
  rintro e w3 ⟨rfl, hb3⟩
  have HG3 := Lib.hid (HG2.out.keep hb3)
  have HK3 := Lib.hid (HK2.out.trans (Kf.of_below hb3 _))
  have F3 := Lib.hid (F2.out.below hb3 F2.out.lt)
  replace hS0 : (fun W => Vl W q (gpc t lab g p)) w3 := hS0.keep hb3
  clear hb3 HG2 HK2 F2
  refine hKK _ _ hS0 ?_
  intro _
  clear hKK KK
  try simp only [Act.put, List.getElem_toArray, List.getElem_cons_zero, List.getElem_cons_succ, List.setIfInBounds_toArray, List.set_cons_zero, List.set_cons_succ]
  refine wpAnyH_ready (rs := [7]) (by kernel_rfl) (by simp) (AllReadyH.cons rfl (fun KK hKK => ?_) AllReadyH.nil)
  go_simp
  refine (HGet.out w3 HG3.out.rd).mono ?_
  rintro e w4 ⟨rfl, hR4, hk4⟩
  have HG4 := Lib.hid (HG3.out.call hR4 hk4)
  have HK4 := Lib.hid (HK3.out.trans hk4)
  have nb4 : b ∉ [t, m, d, gg] := by have := NB6.out; simp at this ⊢; omega
  have F4 := Lib.hid (F3.out.kf hk4 nb4)
  replace hS0 : (fun W => Vl W q (gpc t lab g p)) w4 := HG4.out.gb
  clear hR4 hk4 HG3 HK3 F3 nb4
  refine hKK _ _ hS0 ?_
  intro _
  clear hKK KK
  try simp only [Act.put, List.getElem_toArray, List.getElem_cons_zero, List.getElem_cons_succ, List.setIfInBounds_toArray, List.set_cons_zero, List.set_cons_succ]
  refine wpAnyH_take (i := 8) (v := ?_) rfl (by kernel_rfl) (by kernel_rfl) (by kernel_rfl) (fun _ _ _ h => h) (Or.inl ⟨by rfl, ?_⟩) hS0 ?_
  rotate_left 1
  · intro W hW
    go_simp
    try with_reducible rfl
  simp only [Act.put, List.getElem_toArray, List.getElem_cons_zero, List.getElem_cons_succ, List.setIfInBounds_toArray, List.set_cons_zero, List.set_cons_succ]
  refine wpAnyH_take (i := 9) (v := ?_) rfl (by kernel_rfl) (by kernel_rfl) (by kernel_rfl) (fun _ _ _ h => h) (Or.inl ⟨by rfl, ?_⟩) hS0 ?_
  rotate_left 1
  · intro W hW
    go_simp
    try with_reducible rfl
  simp only [Act.put, List.getElem_toArray, List.getElem_cons_zero, List.getElem_cons_succ, List.setIfInBounds_toArray, List.set_cons_zero, List.set_cons_succ]
  refine wpAnyH_ready (rs := [10]) (by kernel_rfl) (by simp) (AllReadyH.cons rfl (fun KK hKK => ?_) AllReadyH.nil)
  refine step_store_mid rfl 59 _ _ rfl b 0 (byts 64 V).toArray rfl rfl (by rw [byts_size]; exact F4.out.there 0 64 (Nat.le_refl _)) (size36' _) (byts_all _ _) ?_
  rw [List.toList_toArray]
  have F5 := Lib.hid (F4.out.stored V)
  have hk5 : Kp w4 (w4.setCells b 0 (byts 64 V)) b b := (Kp.refl _ _ _).setCells b 0 (.inl rfl) _
  have HG5 := Lib.hid (HG4.out.kp hk5 NB6.out)
  have HK5 := Lib.hid (HK4.out.fresh hk5 HWb.out)
  obtain ⟨w5, hw5⟩ : ∃ x, w4.setCells b 0 (byts 64 V) = x := ⟨_, rfl⟩
  rw [hw5] at F5 HG5 HK5 ⊢
  clear hS0 hk5 hw5 F4 HG4 HK4
  have hS0 : (fun W => Vl W q (gpc t lab g p)) w5 := HG5.out.gb
  refine hKK _ _ hS0 ?_
  intro _
  clear hKK KK
  try simp only [Act.put, List.getElem_toArray, List.getElem_cons_zero, List.getElem_cons_succ, List.setIfInBounds_toArray, List.set_cons_zero, List.set_cons_succ]
  refine wpAnyH_take (i := 11) (v := ?_) rfl (by kernel_rfl) (by kernel_rfl) (by kernel_rfl) (fun _ _ _ h => h) (Or.inl ⟨by rfl, ?_⟩) hS0 ?_
  rotate_left 1
  · intro W hW
    go_simp
    try with_reducible rfl
  simp only [Act.put, List.getElem_toArray, List.getElem_cons_zero, List.getElem_cons_succ, List.setIfInBounds_toArray, List.set_cons_zero, List.set_cons_succ]
  refine wpAnyH_done (by kernel_rfl) ?_ _
  clear hS0
  go_wp2_with fail
  exact bodyPost_ret_by (results_mid_tmp rfl _ _ b _ (.array 64 5) rfl F5.out.range0 Tryz.arr36 rfl (size36 _)) rfl ⟨rfl, HG5.out, HK5.out⟩
theorem gfree (q p t m d gg lab B0 P0 M DA NB N K : Nat) (g : Cf.Ge) (Y : Nat → Nat → Int) (hK : K < 600000000) (hg : GG g B0 P0 M DA NB N) (w : World) (h : Gr w q p t m d gg lab g B0 NB N ln Y K) :
    Calls Tryz.prog 60 #[.pointer (some ⟨p, 0, none⟩)] w fun e w' => ∃ v, e = .returned (.tuple #[.int .i64 v, .int .i64 0]) ∧ Fr (bt Y B0) NB v ∧ Gr w' q p t m d gg lab g B0 NB N ln Y (K + 200) ∧ Kf w w' [t, m, d, gg] := by
  have hN := h.rd.hN
  have h1 := hg.dn
  have h2 := hg.pd
  have h3 := hg.bp
  have h4 := hg.n512
  refine (free_any p t m d gg B0 NB K Y (by omega) (by omega) (fun i hi => by omega) hK w h.mb h.rd h.np).mono ?_
  rintro e w' ⟨v, he, hF, hR, hk⟩
  exact ⟨v, he, hF, h.call hR hk, hk⟩
theorem gset (q p t m d gg lab B0 P0 M DA NB N K : Nat) (g : Cf.Ge) (Y : Nat → Nat → Int) (i : Nat) (hi : i < NB) (on : Bool) (hT : Has ln B0) (hK : K < 700000000) (hg : GG g B0 P0 M DA NB N) (w : World) (h : Gr w q p t m d gg lab g B0 NB N ln Y K) :
    Calls Tryz.prog 52 #[.pointer (some ⟨p, 0, none⟩), .int .i64 i, .bool on] w fun e w' => e = .returned (.int .i64 0) ∧ Gr w' q p t m d gg lab g B0 NB N ln (setV Y B0 i on) (K + 1) ∧ Kf w w' [t, m, d, gg] := by
  have hN := h.rd.hN
  have h1 := hg.dn
  have h2 := hg.pd
  have h3 := hg.bp
  have h4 := hg.n512
  have e0 : B0 + i / 512 = B0 := by omega
  have := set_any p t m d gg B0 NB K i Y on (by omega) (by omega) hi (by omega) (by rw [e0]; exact hT) hK w h.mb h.rd h.np
  rw [e0] at this
  refine this.mono ?_
  rintro e w' ⟨he, hR, hk⟩
  exact ⟨he, h.call hR hk, hk⟩
theorem ghas (q p t m d gg lab B0 P0 M DA NB N K : Nat) (g : Cf.Ge) (Y : Nat → Nat → Int) (i : Nat) (hi : i < NB) (hK : K < 700000000) (hg : GG g B0 P0 M DA NB N) (w : World) (h : Gr w q p t m d gg lab g B0 NB N ln Y K) :
    Calls Tryz.prog 50 #[.pointer (some ⟨p, 0, none⟩), .int .i64 i] w fun e w' => e = .returned (.tuple #[.bool (bt Y B0 i), .int .i64 0]) ∧ Gr w' q p t m d gg lab g B0 NB N ln Y (K + 1) ∧ Kf w w' [t, m, d, gg] := by
  have hN := h.rd.hN
  have h1 := hg.dn
  have h2 := hg.pd
  have h3 := hg.bp
  have h4 := hg.n512
  refine (has_any p t m d gg B0 NB K i Y (by omega) (by omega) hi (by omega) hK w h.mb h.rd h.np).mono ?_
  rintro e w' ⟨he, hR, hk⟩
  exact ⟨he, h.call hR hk, hk⟩
set_option maxHeartbeats 20000000 in
set_option maxRecDepth 100000 in
theorem gtake_none (q p t m d gg lab B0 P0 M DA NB N K : Nat) (g : Cf.Ge) (Y : Nat → Nat → Int) (hF : ∀ j, j < NB → bt Y B0 j = true) (hK : K < 600000000) (hg : GG g B0 P0 M DA NB N) (w : World) (h : Gr w q p t m d gg lab g B0 NB N ln Y K) :
    Calls Tryz.prog 20 #[.pointer (some ⟨q, 0, none⟩)] w fun e w' => e = .returned (.tuple #[.int .u16 0, .int .i64 10]) ∧ Gr w' q p t m d gg lab g B0 NB N ln Y (K + 200) ∧ Kf w w' [t, m, d, gg] := by
  have HC := Lib.hid (gfree q p t m d gg lab B0 P0 M DA NB N K g Y hK hg w h)
  have HF : Hid (Fr (bt Y B0) NB (-1)) := .inl ⟨rfl, hF⟩
  have c8 := h.gb.c 8 _ rfl
  clear hF h hg
  go_enter Tryz.func20, Tryz.ntmps20
  go_wp2_with fail
  refine HC.out.mono ?_
  rintro e w' ⟨v, rfl, hv, hG, hk⟩
  obtain rfl := hv.uniq HF.out
  have HG := Lib.hid hG
  have HK := Lib.hid hk
  clear hv hG hk HC HF c8
  go_wp2_with fail
  exact bodyPost_ret (v := .tuple #[.int .u16 0, .int .i64 10]) (by simp [results, Tryz.results20, go_sem]) rfl ⟨rfl, HG.out, HK.out⟩
set_option maxHeartbeats 20000000 in
set_option maxRecDepth 100000 in
theorem gtake_some (q p t m d gg lab B0 P0 M DA NB N K : Nat) (g : Cf.Ge) (Y : Nat → Nat → Int) (i : Nat) (hi : i < NB) (hF : Fr (bt Y B0) NB i) (hT : Has ln B0) (hT2 : Has ln (DA + i)) (hK : K < 600000000) (hg : GG g B0 P0 M DA NB N) (w : World) (h : Gr w q p t m d gg lab g B0 NB N ln Y K) :
    Calls Tryz.prog 20 #[.pointer (some ⟨q, 0, none⟩)] w fun e w' => e = .returned (.tuple #[.int .u16 ((i : Int) + 1), .int .i64 0]) ∧ Gr w' q p t m d gg lab g B0 NB N ln (vput (DA + i) (fun _ => 0) (setV Y B0 i true)) (K + 201) ∧ Kf w w' [t, m, d, gg] := by
  have HC := Lib.hid (gfree q p t m d gg lab B0 P0 M DA NB N K g Y hK hg w h)
  have HS := Lib.hid (fun W hW => gset (ln := ln) q p t m d gg lab B0 P0 M DA NB N (K + 200) g Y i hi true hT (by omega) hg W hW)
  have HP : Hid (∀ W, Gr W q p t m d gg lab g B0 NB N ln (setV Y B0 i true) (K + 200 + 1) → Calls Tryz.prog 15 #[.pointer (some ⟨q, 0, none⟩), .int .u16 ((i : Int) + 1), .agg (byts 64 fun _ => 0).toArray] W fun e w' => e = .returned (.int .i64 0) ∧ Gr w' q p t m d gg lab g B0 NB N ln (vput (DA + i) (fun _ => 0) (setV Y B0 i true)) (K + 200 + 1) ∧ Kf W w' [t, m, d, gg]) := fun W hW => by
    have := gput_in (ln := ln) q p t m d gg lab B0 P0 M DA NB N (K + 200 + 1) g (setV Y B0 i true) (i + 1) (by omega) (by omega) (fun _ => 0) (fun j _ => ⟨Int.le_refl _, (by show (0 : Int) < 256; decide)⟩) hT2 hg W hW
    rwa [show ((i + 1 : Nat) : Int) = (i : Int) + 1 by omega, show DA + (i + 1 - 1) = DA + i by omega] at this
  have HF := Lib.hid hF
  have c8 := h.gb.c 8 _ rfl
  have hi5 : i < 512 := by have := hg.n512; omega
  clear hF h hg hi hT hT2
  obtain ⟨x, hx⟩ : ∃ x : Int, (i : Int) = x := ⟨_, rfl⟩
  have hx0 : 0 ≤ x := by omega
  have hx1 : x < 512 := by omega
  rw [hx] at HS HP HF ⊢
  clear hx hi5
  go_enter Tryz.func20, Tryz.ntmps20
  go_wp2_with fail
  refine HC.out.mono ?_
  rintro e w2 ⟨v, rfl, hv, hG, hk⟩
  obtain rfl := hv.uniq HF.out
  have HG2 := Lib.hid hG
  have HK2 := Lib.hid hk
  have c8' := hG.gb.c 8 _ rfl
  clear hv hG hk HC HF c8
  go_wp2_with fail
  refine (HS.out w2 HG2.out).mono ?_
  rintro e w3 ⟨rfl, hG, hk⟩
  have HG3 := Lib.hid hG
  have HK3 := Lib.hid (HK2.out.trans hk)
  clear hG hk HS HG2 HK2 c8'
  go_wp2_with (first | (refine wpList_yields _ (yields_build0 rfl rfl) ?_))
  refine (HP.out w3 HG3.out).mono ?_
  rintro e w4 ⟨rfl, hG, hk⟩
  have HG4 := Lib.hid hG
  have HK4 := Lib.hid (HK3.out.trans hk)
  clear hG hk HP HG3 HK3
  go_wp2_with fail
  exact bodyPost_ret (v := .tuple #[.int .u16 (v + 1), .int .i64 0]) (by simp [results, Tryz.results20, go_sem]) rfl ⟨rfl, HG4.out, HK4.out⟩
set_option maxHeartbeats 20000000 in
set_option maxRecDepth 100000 in
theorem ggive_ok (q p t m d gg lab B0 P0 M DA NB N K : Nat) (g : Cf.Ge) (Y : Nat → Nat → Int) (n : Nat) (hn0 : 1 ≤ n) (hn : n ≤ NB) (hbit : bt Y B0 (n - 1) = true) (hT : Has ln B0) (hK : K < 600000000) (hg : GG g B0 P0 M DA NB N) (w : World) (h : Gr w q p t m d gg lab g B0 NB N ln Y K) :
    Calls Tryz.prog 14 #[.pointer (some ⟨q, 0, none⟩), .int .u16 n] w fun e w' => e = .returned (.int .i64 0) ∧ Gr w' q p t m d gg lab g B0 NB N ln (setV Y B0 (n - 1) false) (K + 2) ∧ Kf w w' [t, m, d, gg] := by
  have HR := Lib.hid (show 1 ≤ (n : Int) ∧ (n : Int) ≤ g.bl by have := hg.bl; omega)
  have hx1 : (n : Int) < 65536 := by have := hg.n512; omega
  have HH : Hid (∀ W, Gr W q p t m d gg lab g B0 NB N ln Y K → Calls Tryz.prog 50 #[.pointer (some ⟨p, 0, none⟩), .int .i64 ((n : Int) - 1)] W fun e w' => e = .returned (.tuple #[.bool true, .int .i64 0]) ∧ Gr w' q p t m d gg lab g B0 NB N ln Y (K + 1) ∧ Kf W w' [t, m, d, gg]) := fun W hW => by
    have := ghas q p t m d gg lab B0 P0 M DA NB N K g Y (n - 1) (by omega) (by omega) hg W hW
    rwa [hbit, show ((n - 1 : Nat) : Int) = (n : Int) - 1 by omega] at this
  have HS : Hid (∀ W, Gr W q p t m d gg lab g B0 NB N ln Y (K + 1) → Calls Tryz.prog 52 #[.pointer (some ⟨p, 0, none⟩), .int .i64 ((n : Int) - 1), .bool false] W fun e w' => e = .returned (.int .i64 0) ∧ Gr w' q p t m d gg lab g B0 NB N ln (setV Y B0 (n - 1) false) (K + 1 + 1) ∧ Kf W w' [t, m, d, gg]) := fun W hW => by
    have := gset q p t m d gg lab B0 P0 M DA NB N (K + 1) g Y (n - 1) (by omega) false hT (by omega) hg W hW
    rwa [show ((n - 1 : Nat) : Int) = (n : Int) - 1 by omega] at this
  obtain ⟨Z, hZ⟩ : ∃ Z, setV Y B0 (n - 1) false = Z := ⟨_, rfl⟩
  rw [hZ] at HS ⊢
  clear hZ
  have HG := Lib.hid h
  clear h hbit
  obtain ⟨x, hx⟩ : ∃ x : Int, (n : Int) = x := ⟨_, rfl⟩
  have hx0 : 0 ≤ x := by omega
  rw [hx] at HR HH hx1 ⊢
  rw [hx] at HS
  clear hx hg hn0 hn
  go_enter Tryz.func14, Tryz.ntmps14
  go_upto_region 4 with (first | (go_at_call 49; refine (reach_in q g.bl x HR.out.1 HR.out.2 w (HG.out.gb.c 6 _ rfl)).mono ?_; rintro e w' ⟨rfl, hww⟩; rw [hww]; clear hww))
  refine wp_region_held (S := fun W => Vl W q (gpc t lab g p)) (by kernel_rfl) ?_
  change wpAnyH _ _ _ _ _ _ _ _ (World.drew _)
  have hS0 : (fun W => Vl W q (gpc t lab g p)) w.drew := HG.out.gb.keep (Below.refl _ _).drew
  have HG2 := Lib.hid (HG.out.keep (Below.refl w.heap.size w).drew)
  have HK2 := Lib.hid (Kf.of_below (Below.refl w.heap.size w).drew [t, m, d, gg])
  obtain ⟨w2, hw2⟩ : ∃ x, World.drew w = x := ⟨_, rfl⟩
  rw [hw2] at hS0 HG2 HK2 ⊢
  clear hw2
  clear HG
  refine wpAnyH_take (i := 0) (v := ?_) rfl (by kernel_rfl) (by kernel_rfl) (by kernel_rfl) (fun _ _ _ h => h) (Or.inl ⟨by rfl, ?_⟩) hS0 ?_
  rotate_left 1
  · intro W hW
    go_simp
    try with_reducible rfl
  simp only [Act.put, List.getElem_toArray, List.getElem_cons_zero, List.getElem_cons_succ, List.setIfInBounds_toArray, List.set_cons_zero, List.set_cons_succ]
  refine wpAnyH_take (i := 1) (v := ?_) rfl (by kernel_rfl) (by kernel_rfl) (by kernel_rfl) (fun _ _ _ h => h) (Or.inl ⟨by rfl, ?_⟩) hS0 ?_
  rotate_left 1
  · intro W hW
    go_simp
    try with_reducible rfl
  simp only [Act.put, List.getElem_toArray, List.getElem_cons_zero, List.getElem_cons_succ, List.setIfInBounds_toArray, List.set_cons_zero, List.set_cons_succ]
  refine wpAnyH_take (i := 2) (v := ?_) rfl (by kernel_rfl) (by kernel_rfl) (by kernel_rfl) (fun _ _ _ h => h) (Or.inl ⟨by rfl, ?_⟩) hS0 ?_
  rotate_left 1
  · intro W hW
    go_simp
    try with_reducible rfl
  simp only [Act.put, List.getElem_toArray, List.getElem_cons_zero, List.getElem_cons_succ, List.setIfInBounds_toArray, List.set_cons_zero, List.set_cons_succ]
  refine wpAnyH_take (i := 3) (v := ?_) rfl (by kernel_rfl) (by kernel_rfl) (by kernel_rfl) (fun _ _ _ h => h) (Or.inl ⟨by rfl, ?_⟩) hS0 ?_
  rotate_left 1
  · intro W hW
    have c8 := hW.c 8 _ rfl
    go_simp
    try with_reducible rfl
  simp only [Act.put, List.getElem_toArray, List.getElem_cons_zero, List.getElem_cons_succ, List.setIfInBounds_toArray, List.set_cons_zero, List.set_cons_succ]
  refine wpAnyH_take (i := 4) (v := ?_) rfl (by kernel_rfl) (by kernel_rfl) (by kernel_rfl) (fun _ _ _ h => h) (Or.inl ⟨by rfl, ?_⟩) hS0 ?_
  rotate_left 1
  · intro W hW
    go_simp
    try with_reducible rfl
  simp only [Act.put, List.getElem_toArray, List.getElem_cons_zero, List.getElem_cons_succ, List.setIfInBounds_toArray, List.set_cons_zero, List.set_cons_succ]
  refine wpAnyH_ready (rs := [5]) (by kernel_rfl) (by simp) (AllReadyH.cons rfl (fun KK hKK => ?_) AllReadyH.nil)
  go_simp
  refine (bit_any x hx0 hx1 w2).mono ?_
  rintro e wz ⟨rfl, hwz⟩
  rw [hwz]
  clear hwz
  refine hKK _ _ hS0 ?_
  intro _
  clear hKK KK
  try simp only [Act.put, List.getElem_toArray, List.getElem_cons_zero, List.getElem_cons_succ, List.setIfInBounds_toArray, List.set_cons_zero, List.set_cons_succ]
  refine wpAnyH_ready (rs := [6]) (by kernel_rfl) (by simp) (AllReadyH.cons rfl (fun KK hKK => ?_) AllReadyH.nil)
  go_simp
  refine (HH.out w2 HG2.out).mono ?_
  rintro e w3 ⟨rfl, hG, hk⟩
  have HG3 := Lib.hid hG
  have HK3 := Lib.hid (HK2.out.trans hk)
  replace hS0 : (fun W => Vl W q (gpc t lab g p)) w3 := HG3.out.gb
  clear hG hk HG2 HK2
  refine hKK _ _ hS0 ?_
  intro _
  clear hKK KK
  try simp only [Act.put, List.getElem_toArray, List.getElem_cons_zero, List.getElem_cons_succ, List.setIfInBounds_toArray, List.set_cons_zero, List.set_cons_succ]
  refine wpAnyH_take (i := 7) (v := ?_) rfl (by kernel_rfl) (by kernel_rfl) (by kernel_rfl) (fun _ _ _ h => h) (Or.inl ⟨by rfl, ?_⟩) hS0 ?_
  rotate_left 1
  · intro W hW
    go_simp
    try with_reducible rfl
  simp only [Act.put, List.getElem_toArray, List.getElem_cons_zero, List.getElem_cons_succ, List.setIfInBounds_toArray, List.set_cons_zero, List.set_cons_succ]
  refine wpAnyH_take (i := 8) (v := ?_) rfl (by kernel_rfl) (by kernel_rfl) (by kernel_rfl) (fun _ _ _ h => h) (Or.inl ⟨by rfl, ?_⟩) hS0 ?_
  rotate_left 1
  · intro W hW
    go_simp
    try with_reducible rfl
  simp only [Act.put, List.getElem_toArray, List.getElem_cons_zero, List.getElem_cons_succ, List.setIfInBounds_toArray, List.set_cons_zero, List.set_cons_succ]
  refine wpAnyH_take (i := 9) (v := ?_) rfl (by kernel_rfl) (by kernel_rfl) (by kernel_rfl) (fun _ _ _ h => h) (Or.inl ⟨by rfl, ?_⟩) hS0 ?_
  rotate_left 1
  · intro W hW
    go_simp
    try with_reducible rfl
  simp only [Act.put, List.getElem_toArray, List.getElem_cons_zero, List.getElem_cons_succ, List.setIfInBounds_toArray, List.set_cons_zero, List.set_cons_succ]
  refine wpAnyH_take (i := 10) (v := ?_) rfl (by kernel_rfl) (by kernel_rfl) (by kernel_rfl) (fun _ _ _ h => h) (Or.inl ⟨by rfl, ?_⟩) hS0 ?_
  rotate_left 1
  · intro W hW
    go_simp
    try with_reducible rfl
  simp only [Act.put, List.getElem_toArray, List.getElem_cons_zero, List.getElem_cons_succ, List.setIfInBounds_toArray, List.set_cons_zero, List.set_cons_succ]
  refine wpAnyH_take (i := 11) (v := ?_) rfl (by kernel_rfl) (by kernel_rfl) (by kernel_rfl) (fun _ _ _ h => h) (Or.inl ⟨by rfl, ?_⟩) hS0 ?_
  rotate_left 1
  · intro W hW
    go_simp
    try with_reducible rfl
  simp only [Act.put, List.getElem_toArray, List.getElem_cons_zero, List.getElem_cons_succ, List.setIfInBounds_toArray, List.set_cons_zero, List.set_cons_succ]
  refine wpAnyH_done (by kernel_rfl) ?_ _
  clear hS0 HH
  go_upto_region 9 with fail
  refine wp_region_held (S := fun W => Vl W q (gpc t lab g p)) (by kernel_rfl) ?_
  change wpAnyH _ _ _ _ _ _ _ _ (World.drew _)
  have hS0 : (fun W => Vl W q (gpc t lab g p)) w3.drew := HG3.out.gb.keep (Below.refl _ _).drew
  have HG4 := Lib.hid (HG3.out.keep (Below.refl w3.heap.size w3).drew)
  have HK4 := Lib.hid (HK3.out.trans (Kf.of_below (Below.refl w3.heap.size w3).drew [t, m, d, gg]))
  obtain ⟨w4, hw4⟩ : ∃ x, World.drew w3 = x := ⟨_, rfl⟩
  rw [hw4] at hS0 HG4 HK4 ⊢
  clear hw4
  clear HG3 HK3
  refine wpAnyH_take (i := 0) (v := ?_) rfl (by kernel_rfl) (by kernel_rfl) (by kernel_rfl) (fun _ _ _ h => h) (Or.inl ⟨by rfl, ?_⟩) hS0 ?_
  rotate_left 1
  · intro W hW
    go_simp
    try with_reducible rfl
  simp only [Act.put, List.getElem_toArray, List.getElem_cons_zero, List.getElem_cons_succ, List.setIfInBounds_toArray, List.set_cons_zero, List.set_cons_succ]
  refine wpAnyH_take (i := 1) (v := ?_) rfl (by kernel_rfl) (by kernel_rfl) (by kernel_rfl) (fun _ _ _ h => h) (Or.inl ⟨by rfl, ?_⟩) hS0 ?_
  rotate_left 1
  · intro W hW
    go_simp
    try with_reducible rfl
  simp only [Act.put, List.getElem_toArray, List.getElem_cons_zero, List.getElem_cons_succ, List.setIfInBounds_toArray, List.set_cons_zero, List.set_cons_succ]
  refine wpAnyH_take (i := 2) (v := ?_) rfl (by kernel_rfl) (by kernel_rfl) (by kernel_rfl) (fun _ _ _ h => h) (Or.inl ⟨by rfl, ?_⟩) hS0 ?_
  rotate_left 1
  · intro W hW
    go_simp
    try with_reducible rfl
  simp only [Act.put, List.getElem_toArray, List.getElem_cons_zero, List.getElem_cons_succ, List.setIfInBounds_toArray, List.set_cons_zero, List.set_cons_succ]
  refine wpAnyH_take (i := 3) (v := ?_) rfl (by kernel_rfl) (by kernel_rfl) (by kernel_rfl) (fun _ _ _ h => h) (Or.inl ⟨by rfl, ?_⟩) hS0 ?_
  rotate_left 1
  · intro W hW
    have c8 := hW.c 8 _ rfl
    go_simp
    try with_reducible rfl
  simp only [Act.put, List.getElem_toArray, List.getElem_cons_zero, List.getElem_cons_succ, List.setIfInBounds_toArray, List.set_cons_zero, List.set_cons_succ]
  refine wpAnyH_take (i := 4) (v := ?_) rfl (by kernel_rfl) (by kernel_rfl) (by kernel_rfl) (fun _ _ _ h => h) (Or.inl ⟨by rfl, ?_⟩) hS0 ?_
  rotate_left 1
  · intro W hW
    go_simp
    try with_reducible rfl
  simp only [Act.put, List.getElem_toArray, List.getElem_cons_zero, List.getElem_cons_succ, List.setIfInBounds_toArray, List.set_cons_zero, List.set_cons_succ]
  refine wpAnyH_ready (rs := [5]) (by kernel_rfl) (by simp) (AllReadyH.cons rfl (fun KK hKK => ?_) AllReadyH.nil)
  go_simp
  refine (bit_any x hx0 hx1 w4).mono ?_
  rintro e wz ⟨rfl, hwz⟩
  rw [hwz]
  clear hwz
  refine hKK _ _ hS0 ?_
  intro _
  clear hKK KK
  try simp only [Act.put, List.getElem_toArray, List.getElem_cons_zero, List.getElem_cons_succ, List.setIfInBounds_toArray, List.set_cons_zero, List.set_cons_succ]
  refine wpAnyH_ready (rs := [6]) (by kernel_rfl) (by simp) (AllReadyH.cons rfl (fun KK hKK => ?_) AllReadyH.nil)
  go_simp
  refine (HS.out w4 HG4.out).mono ?_
  rintro e w5 ⟨rfl, hG, hk⟩
  have HG5 := Lib.hid hG
  have HK5 := Lib.hid (HK4.out.trans hk)
  replace hS0 : (fun W => Vl W q (gpc t lab g p)) w5 := HG5.out.gb
  clear hG hk HG4 HK4
  refine hKK _ _ hS0 ?_
  intro _
  clear hKK KK
  try simp only [Act.put, List.getElem_toArray, List.getElem_cons_zero, List.getElem_cons_succ, List.setIfInBounds_toArray, List.set_cons_zero, List.set_cons_succ]
  refine wpAnyH_take (i := 7) (v := ?_) rfl (by kernel_rfl) (by kernel_rfl) (by kernel_rfl) (fun _ _ _ h => h) (Or.inl ⟨by rfl, ?_⟩) hS0 ?_
  rotate_left 1
  · intro W hW
    go_simp
    try with_reducible rfl
  simp only [Act.put, List.getElem_toArray, List.getElem_cons_zero, List.getElem_cons_succ, List.setIfInBounds_toArray, List.set_cons_zero, List.set_cons_succ]
  refine wpAnyH_done (by kernel_rfl) ?_ _
  clear hS0
  go_wp2_with fail
  go_ret
  exact ⟨rfl, HG5.out, HK5.out⟩
end Go.Proofs.YtbnpgkclnebnmaaGreat

namespace Go.Proofs.YtbnpgkclnebnmaaGreat
set_option linter.unusedSimpArgs false
set_option linter.unusedVariables false
open Go.RowKit Go.Maps

variable {ln : Lm}
theorem layF_le (rs : List Cf.Rg) (hs : ∀ r ∈ rs, Cf.Small r) (i : Nat) : ∀ j, i ≤ j → j ≤ rs.length → (Cf.layF (rs.take i)).2 ≤ (Cf.layF (rs.take j)).2
  | 0, h, _ => by
    obtain rfl : i = 0 := by omega
    exact Int.le_refl _
  | j + 1, h, h' => by
    by_cases e : i = j + 1
    · rw [e]; exact Int.le_refl _
    · have h1 := layF_le rs hs i j (by omega) (by omega)
      obtain ⟨s1, s2, s3, s4⟩ := hs rs[j] (List.getElem_mem _)
      rw [Cf.layF_take rs j (by omega), Cf.layStep]
      simp only [Cf.geoAt, Cf.Ge.fin]
      omega
theorem Tryz.zero53 : (Tryz.prog.info? 133).map (fun i => i.zero) = some (some (.agg [.int .i64 0, .int .i64 0, .int .i64 0, .int .i64 0, .int .i64 0, .int .i64 0].toArray)) := by kernel_rfl
theorem geo_one (g : Cf.Ge) : ∀ v ∈ g.cells, v.oneCell' = true := by
  intro v hv
  simp [Cf.Ge.cells] at hv
  rcases hv with rfl | rfl | rfl | rfl | rfl | rfl <;> rfl
theorem wpList_store_list {P : Program} {ops : Array Oper} {rest : List Oper} {op : Oper} {a : Act} {w : World} {Q : Exit → Act → World → Prop} (hgd : op.guard = none) (ty : TypeId) (x y : Operand) (ho : op.op = .store ty x y) (g : Nat) (cs ds : List Value)
    (hx : a.eval x = .pointer (some ⟨g, 0, none⟩)) (hy : a.eval y = .agg ds.toArray) (hV : Vl w g cs) (hl : ds.length = cs.length) (hi : (P.info? ty).map (·.size) = some ds.length) (h1 : ∀ v ∈ ds, v.oneCell' = true)
    (h : ∀ w', Hid (Vl w' g ds) → Hid (Kp w w' g g) → wpList P ops Q rest (a.put op.dst undef) w') : wpList P ops Q (op :: rest) a w := by
  refine wpList_store_mid hgd ty x y ho g 0 ds.toArray hx hy (hV.there0 _ (by simp [hl])) (by simpa using hi) (all_oneCell_toArray h1) ?_
  exact h _ (hV.stored ds hl) ((Kp.refl w g g).setCells g 0 (.inl rfl) _)
/-- each registered label's group, in natural numbers -/
theorem geo_gg (rs : List Cf.Rg) (hs : ∀ r ∈ rs, Cf.Small r) (h64 : rs.length ≤ 64) (N : Nat) (hN : (Cf.layF rs).2 = N) (i : Nat) (hi : i < rs.length) (g : Cf.Ge) (hg : (Cf.layF rs).1[i]'(by rw [Cf.lay_len]; exact hi) = g) :
    ∃ B0 P0 M DA NB : Nat, GG g B0 P0 M DA NB N ∧ rs[i].bl = NB ∧ rs[i].nd = M := by
  have h1 := Cf.lay_nth rs i hi
  have h2 := Cf.lay_fin rs i hi
  rw [hg] at h1 h2
  have h3 := layF_le rs hs (i + 1) rs.length (by omega) (Nat.le_refl _)
  rw [List.take_length, ← h2] at h3
  obtain ⟨s1, s2, s3, s4⟩ := hs rs[i] (List.getElem_mem _)
  obtain ⟨r1, r2⟩ := Cf.layF_range rs hs i (by omega)
  obtain ⟨b, hb⟩ : ∃ b, (Cf.layF (rs.take i)).2 = b := ⟨_, rfl⟩
  obtain ⟨bl, hbl⟩ : ∃ b, rs[i].bl = b := ⟨_, rfl⟩
  obtain ⟨nd, hnd⟩ : ∃ b, rs[i].nd = b := ⟨_, rfl⟩
  unfold Cf.geoAt at h1
  rw [hb] at h1 r1 r2
  rw [hbl, hnd] at h1
  rw [hbl] at s1 s2 ⊢
  rw [hnd] at s3 s4 ⊢
  subst h1
  have e1 : ((bl + 7) / 8 + 63) / 64 = 1 := by omega
  rw [e1] at h3 ⊢
  simp only [Cf.Ge.fin] at h3
  rw [hN] at h3
  clear h2 hg hb hbl hnd hN hs e1
  obtain ⟨NB, rfl⟩ := Int.eq_ofNat_of_zero_le (show 0 ≤ bl by omega)
  obtain ⟨M, rfl⟩ := Int.eq_ofNat_of_zero_le (show 0 ≤ nd by omega)
  obtain ⟨B0, rfl⟩ := Int.eq_ofNat_of_zero_le (show 0 ≤ b by omega)
  refine ⟨B0, B0 + 1, M, B0 + 1 + (M * 32 + 63) / 64, NB, ⟨rfl, by show (B0 : Int) + 1 = _; omega, by show (0 : Int) ≤ 1; decide, by show (B0 : Int) + 1 + _ = _; omega, rfl, rfl, by omega, by omega, by omega, by omega, by omega, by omega, by omega, by omega⟩, rfl, rfl⟩
theorem wpList_bld4 {P : Program} {ops : Array Oper} {rest : List Oper} {op : Oper} {a : Act} {w : World} {Q : Exit → Act → World → Prop} (hgd : op.guard = none) (ty : TypeId) (i0 i1 i2 i3 : Nat) (x0 x1 x2 x3 : Operand) (ho : op.op = .build ty #[(i0, x0), (i1, x1), (i2, x2), (i3, x3)]) (v0 v1 v2 v3 : Value) (h0 : a.eval x0 = v0) (h1 : a.eval x1 = v1) (h2 : a.eval x2 = v2) (h3 : a.eval x3 = v3) (v : Value)
    (hr : (Instr.build ty #[(i0, v0), (i1, v1), (i2, v2), (i3, v3)]).run P w = .ok v w) (h : wpList P ops Q rest (a.put op.dst v) w) : wpList P ops Q (op :: rest) a w := by
  refine wpList_plain hgd fun K' hK' => ?_
  unfold Oper.wp
  simp [execOp, ho, h0, h1, h2, h3, hr, Result.andThen]
  exact hK' _ _ h
theorem Tryz.build107 (t : Nat) (lab : Int) (bs bm tb da bl nd : Int) (p : Nat) (w : World) : (Instr.build 140 #[(0, .pointer (some ⟨t, 0, none⟩)), (1, .int .i64 lab), (2, .agg #[.int .i64 bs, .int .i64 bm, .int .i64 tb, .int .i64 da, .int .i64 bl, .int .i64 nd]), (3, .pointer (some ⟨p, 0, none⟩))]).run Tryz.prog w = .ok (.agg #[.pointer (some ⟨t, 0, none⟩), .int .i64 lab, .int .i64 bs, .int .i64 bm, .int .i64 tb, .int .i64 da, .int .i64 bl, .int .i64 nd, .pointer (some ⟨p, 0, none⟩)]) w := by kernel_rfl
theorem build107g (t : Nat) (lab : Int) (g : Cf.Ge) (p : Nat) (w : World) : (Instr.build 140 #[(0, .pointer (some ⟨t, 0, none⟩)), (1, .int .i64 lab), (2, .agg g.cells.toArray), (3, .pointer (some ⟨p, 0, none⟩))]).run Tryz.prog w = .ok (.agg (gpc t lab g p).toArray) w := Tryz.build107 t lab g.base g.bm g.tb g.da g.bl g.nd p w
set_option maxHeartbeats 20000000 in
set_option maxRecDepth 100000 in
theorem gopen_in (t m d gg n B0 P0 M DA NB N K : Nat) (Y : Nat → Nat → Int) (vr vm vg : Value) (rs : List Cf.Rg) (ms : List (Int × Int)) (i : Nat) (hi : i < rs.length) (g : Cf.Ge) (hgi : (Cf.layF rs).1[i]'(by rw [Cf.lay_len]; exact hi) = g) (hg : GG g B0 P0 M DA NB N) (w : World) (h : Cf.CF n w vr vm vg rs ms) (hr : Rd w t m d gg N ln Y K) :
    Calls Tryz.prog 13 #[.pointer (some ⟨t, 0, none⟩), .pointer (some ⟨n + 3, 0, none⟩), .int .i64 i] w fun e w' => ∃ q p, e = .returned (.tuple #[.pointer (some ⟨q, 0, none⟩), .int .i64 0]) ∧ w.heap.size ≤ q ∧ w.heap.size ≤ p ∧ Gr w' q p t m d gg i g B0 NB N ln Y K ∧ Below w.heap.size w w' := by
  have HGe := Lib.hid (Cf.geo_in n vr vm vg rs ms i hi w h)
  rw [hgi] at HGe
  have HR := Lib.hid hr
  obtain ⟨d53, hu53, hd53⟩ := Tryz.desc53
  have HU53 := Lib.hid hu53
  have HD53 := Lib.hid hd53
  have HB := Lib.hid (build107g t i g)
  have HNew : Hid (∀ (x y : Int), x = B0 → y = NB → ∀ W : World, Calls Tryz.prog 48 #[.pointer (some ⟨t, 0, none⟩), .int .i64 x, .int .i64 y] W fun e w' => ∃ p, e = .returned (.tuple #[.pointer (some ⟨p, 0, none⟩), .int .i64 0]) ∧ W.heap.size ≤ p ∧ Mb w' p t B0 NB ∧ Below W.heap.size W w') := fun x y hx hy W => by
    subst hx hy
    have hN := hr.hN
    have h1 := hg.dn
    have h2 := hg.pd
    have h3 := hg.bp
    have h4 := hg.n512
    exact new5 t B0 NB (by omega) (by omega) hg.b32 W
  have HG0 := Lib.hid (show g.cells[0]? = some (.int .i64 g.base) from rfl)
  have HG4 := Lib.hid (show g.cells[4]? = some (.int .i64 g.bl) from rfl)
  have HGl := Lib.hid (show g.cells.length = 6 from rfl)
  have HGO := Lib.hid (geo_one g)
  have HS53 := Lib.hid (size53 g)
  have HGB := Lib.hid hg.base
  have HGL := Lib.hid hg.bl
  have hval : g.val = .agg g.cells.toArray := rfl
  have hGp := Lib.hid (show ∀ p, gpc t i g p = [.pointer (some ⟨t, 0, none⟩), .int .i64 i] ++ (g.cells ++ [.pointer (some ⟨p, 0, none⟩)]) from fun _ => rfl)
  have HPO : Hid (∀ p, ∀ v ∈ gpc t i g p, v.oneCell' = true) := fun p v hv => by
    simp [gpc] at hv
    rcases hv with rfl | rfl | rfl | rfl | rfl | rfl | rfl | rfl | rfl <;> rfl
  rw [hval] at HGe
  clear hval hu53 hd53 h hr hgi hg
  obtain ⟨gs, hgs⟩ : ∃ gs, g.cells = gs := ⟨_, rfl⟩
  rw [hgs] at HGe HB HG0 HG4 HGl HGO HS53
  clear hgs
  go_enter Tryz.func13, Tryz.ntmps13
  go_wp2_with fail
  refine HGe.out.mono ?_
  rintro e w4 ⟨rfl, hb4⟩
  have HR4 := Lib.hid (HR.out.keep hb4)
  have HB4 := Lib.hid hb4
  clear hb4 HR HGe
  go_upto_region 6 with (first | (refine wpList_alloc_list (w := w4) rfl 133 rfl _ Tryz.zero53 ?_; intro w5 F5 hb5 hz5; simp only [Act.put, List.getElem_toArray, List.getElem_cons_zero, List.getElem_cons_succ, List.setIfInBounds_toArray, List.set_cons_zero, List.set_cons_succ]; refine wpList_store_list rfl 133 (.tmp 8) (.tmp 22) rfl w4.heap.size _ gs rfl rfl F5.out (by rw [HGl.out]; rfl) HS53.out HGO.out ?_; intro w6 HG6 HK6; have HB5 := Lib.hid hb5; clear hb5 F5))
  obtain ⟨b5, hb5⟩ : ∃ b, w4.heap.size = b := ⟨_, rfl⟩
  have hlt4 := HR4.out.lts
  have hbw : w.heap.size ≤ b5 := by rw [← hb5]; exact HB4.out.size
  rw [hb5] at hlt4
  have R5 := Lib.hid (HR4.out.keep HB5.out)
  have B5 := Lib.hid (HB4.out.trans (HB5.out.mono HB4.out.size))
  rw [hb5] at HG6 HK6
  try rw [hb5]
  clear hb5 hz5 HR4 HB4 HB5
  have N5 := Lib.hid (nin4 hlt4.1 hlt4.2.1 hlt4.2.2.1 hlt4.2.2.2 (b := b5) (Nat.le_refl _))
  have HR6 := Lib.hid (R5.out.kp HK6.out N5.out N5.out)
  have HB6 := Lib.hid (B5.out.trans (HK6.out.below hbw hbw B5.out.size))
  have hs6 := HG6.out.lt
  clear R5 B5 HK6
  have e0 := HG6.out.c 0 _ HG0.out
  have e4 := HG6.out.c 4 _ HG4.out
  go_wp2_with fail
  refine (HNew.out g.base g.bl HGB.out HGL.out w6).mono ?_
  rintro e w7 ⟨p, rfl, hp, hM, hb⟩
  have HM7 := Lib.hid hM
  have HR7 := Lib.hid (HR6.out.keep hb)
  have HG7 := Lib.hid (HG6.out.keep hb)
  have HB7 := Lib.hid (HB6.out.trans (hb.mono HB6.out.size))
  have hp7 : w.heap.size ≤ p := Nat.le_trans HB6.out.size hp
  have hpl := HM7.out.lt
  have hp4 := Lib.hid (HR6.out.notin hp)
  clear hM hb HR6 HG6 HB6 e0 e4 HNew
  go_wp2_with (first | (refine wpList_load_mid rfl 133 _ rfl b5 0 rfl gs d53 HG7.out.range0 HU53.out HD53.out HS53.out ?_) | (refine wpList_bld4 rfl 140 0 1 2 3 (.tmp 38) (.tmp 39) (.tmp 40) (.tmp 41) rfl (.pointer (some ⟨t, 0, none⟩)) (.int .i64 i) (.agg gs.toArray) (.pointer (some ⟨p, 0, none⟩)) rfl rfl rfl rfl (.agg (gpc t i g p).toArray) (HB.out p _) ?_) | (refine wpList_box_list (w := w7) rfl 140 _ rfl (gpc t i g p) rfl ?_; intro w8 F8 hb8 hz8; have HB8 := Lib.hid hb8; clear hb8 hz8))
  have hR8 := HR7.out.keep HB8.out
  have hq4 := HR7.out.notin (Nat.le_refl w7.heap.size)
  exact bodyPost_ret (v := .tuple #[.pointer (some ⟨w7.heap.size, 0, none⟩), .int .i64 0]) (by simp [results, Tryz.results13, go_sem]) rfl ⟨w7.heap.size, p, rfl, HB7.out.size, hp7, ⟨F8.out, HM7.out.keep HB8.out, hR8, hq4, hp4.out⟩, HB7.out.trans (HB8.out.mono HB7.out.size)⟩
/-! ### bits behind calls -/
theorem bt_put (fi : Nat) (f : Nat → Int) (Y : Nat → Nat → Int) (x j : Nat) (h : x ≠ fi + j / 512) : bt (vput x f Y) fi j = bt Y fi j := by
  unfold bt
  rw [vput_ne _ _ h]
theorem bt_on {Y : Nat → Nat → Int} (hv : ∀ x, Byt (Y x)) (B0 i j : Nat) (on : Bool) (hi : i < 512) : bt (setV Y B0 i on) B0 j = if i = j then on else bt Y B0 j := by
  have := bt_set hv B0 i j on
  rwa [show B0 + i / 512 = B0 by omega] at this
theorem bt_take {Y : Nat → Nat → Int} (hv : ∀ x, Byt (Y x)) (B0 DA i j : Nat) (f : Nat → Int) (hD : B0 < DA) (hi : i < 512) (hj : j < 512) : bt (vput (DA + i) f (setV Y B0 i true)) B0 j = if i = j then true else bt Y B0 j := by
  rw [bt_put _ _ _ _ _ (by omega), bt_on hv B0 i j true hi]
theorem gtake7 (q p t m d gg lab B0 P0 M DA NB N K : Nat) (g : Cf.Ge) (Y : Nat → Nat → Int) (i : Nat) (x : Int) (hx : x = i + 1) (hi : i < NB) (hF : Fr (bt Y B0) NB i) (hT : Has ln B0) (hT2 : Has ln (DA + i)) (hK : K < 600000000) (hg : GG g B0 P0 M DA NB N) (w : World) (h : Gr w q p t m d gg lab g B0 NB N ln Y K) :
    Calls Tryz.prog 20 #[.pointer (some ⟨q, 0, none⟩)] w fun e w' => e = .returned (.tuple #[.int .u16 x, .int .i64 0]) ∧ Gr w' q p t m d gg lab g B0 NB N ln (vput (DA + i) (fun _ => 0) (setV Y B0 i true)) (K + 201) ∧ Kf w w' [t, m, d, gg] := by
  subst hx
  exact gtake_some q p t m d gg lab B0 P0 M DA NB N K g Y i hi hF hT hT2 hK hg w h
end Go.Proofs.YtbnpgkclnebnmaaGreat

namespace Go.Proofs.YtbnpgkclnebnmaaGreat
set_option linter.unusedSimpArgs false
set_option linter.unusedVariables false
open Go.RowKit Go.Maps

variable {ln : Lm}
theorem Kf.join {w w1 w2 : World} {L L' : List Nat} (h : Kf w w1 L) (k : Kf w1 w2 L') (hL : ∀ a ∈ L', a ∈ L ∨ w.heap.size ≤ a) : Kf w w2 L :=
  ⟨k.os.trans h.os, k.tape.trans h.tape, k.output.trans h.output, Nat.le_trans h.size k.size, fun i hi hn => (k.block i (Nat.lt_of_lt_of_le hi h.size) (fun hm => by rcases hL i hm with h' | h'; exact hn h'; omega)).trans (h.block i hi hn)⟩
theorem Kf.more {w w1 w2 : World} {L : List Nat} (h : Kf w w1 L) (hb : Below w1.heap.size w1 w2) : Kf w w2 L := h.low hb h.size
/-- behind a transaction's call: t, m are younger than w, the disk is d, g -/
theorem Kf.tx {w w1 w2 : World} {t m d g : Nat} (h : Kf w w1 [d, g]) (k : Kf w1 w2 [t, m, d, g]) (ht : w.heap.size ≤ t) (hm : w.heap.size ≤ m) : Kf w w2 [d, g] :=
  h.join k fun a ha => by
    simp only [List.mem_cons, List.not_mem_nil, or_false] at ha ⊢
    rcases ha with rfl | rfl | rfl | rfl
    · exact .inr ht
    · exact .inr hm
    · exact .inl (.inl rfl)
    · exact .inl (.inr rfl)
theorem Kf.new {w w1 w2 : World} {L : List Nat} {b : Nat} (h : Kf w w1 L) (k : Kp w1 w2 b b) (hb : w.heap.size ≤ b) : Kf w w2 L := h.fresh k hb
theorem Lg.kf {w w' : World} {l d fi : Nat} {L : List Nat} (h : Lg w l d fi) (hk : Kf w w' L) (hl : l ∉ L) : Lg w' l d fi :=
  ⟨Nat.lt_of_lt_of_le h.lt hk.size, (hk.cell (p := ⟨l, 0, none⟩) h.lt hl).trans h.c0, (hk.cell (p := ⟨l, 1, none⟩) h.lt hl).trans h.c1⟩
theorem Kf.bel {w w' : World} {B d g : Nat} (h : Kf w w' [d, g]) (hd : B ≤ d) (hg : B ≤ g) (hB : B ≤ w.heap.size) : Below B w w' :=
  h.below (fun a ha => by simp only [List.mem_cons, List.not_mem_nil, or_false] at ha; omega) hB
end Go.Proofs.YtbnpgkclnebnmaaGreat

namespace Go.Proofs.YtbnpgkclnebnmaaGreat
set_option linter.unusedSimpArgs false
set_option linter.unusedVariables false
open Go.RowKit Go.Maps

variable {ln : Lm}
end Go.Proofs.YtbnpgkclnebnmaaGreat

namespace Go.Proofs.YtbnpgkclnebnmaaGreat
set_option linter.unusedSimpArgs false
set_option linter.unusedVariables false
open Go.RowKit Go.Maps

variable {ln : Lm}
theorem Vl.geo {w : World} {q t p : Nat} {lab : Int} {g : Cf.Ge} (h : Vl w q (gpc t lab g p)) : w.rangeAt q 2 g.cells := fun j v hj => h.c (2 + j) v (by
  match j, hj with
  | 0, hj => exact hj
  | 1, hj => exact hj
  | 2, hj => exact hj
  | 3, hj => exact hj
  | 4, hj => exact hj
  | 5, hj => exact hj
  | _ + 6, hj => cases hj)
theorem gread (q p t m d gg lab B0 P0 M DA NB N K : Nat) (g : Cf.Ge) (Y : Nat → Nat → Int) (V : Nat → Nat → Int) (n : Nat) (h1 : 1 ≤ n) (h2 : n ≤ M) (hK : K < 600000000) (hI : Tab P0 M Y V) (hg : GG g B0 P0 M DA NB N) (w : World) (h : Gr w q p t m d gg lab g B0 NB N ln Y K) :
    Calls Tryz.prog 95 #[.pointer (some ⟨t, 0, none⟩), .agg g.cells.toArray, .int .i64 n] w fun e w' => e = .returned (.tuple #[.agg (ndc (V n)).toArray, .int .i64 0]) ∧ Gr w' q p t m d gg lab g B0 NB N ln Y (K + 1) ∧ Kf w w' [t, m, d, gg] := by
  have hN := h.rd.hN
  obtain ⟨g1, g2, g3, g4, g5, g6, g7, g8, g9, g10, g11, g12, g13, g14⟩ := hg
  refine (read_any6 g n t m d gg N K P0 M Y V h1 h2 g6 g2 (by omega) (by omega) g3 (by omega) (by omega) (by omega) (by omega) hK hI w h.rd).mono ?_
  rintro e w' ⟨he, hR, hk⟩
  exact ⟨he, h.call hR hk, hk⟩
theorem gwrite (q p t m d gg lab B0 P0 M DA NB N K : Nat) (g : Cf.Ge) (Y : Nat → Nat → Int) (f : Nat → Int) (hf : NdOk f) (hc : codeN f = 0) (n : Nat) (h1 : 1 ≤ n) (h2 : n ≤ M) (hT : Has ln (P0 + (n - 1) / 2)) (hK : K < 600000000) (hg : GG g B0 P0 M DA NB N) (w : World) (h : Gr w q p t m d gg lab g B0 NB N ln Y K) :
    Calls Tryz.prog 59 #[.pointer (some ⟨t, 0, none⟩), .agg g.cells.toArray, .int .i64 n, .agg (ndc f).toArray] w fun e w' => e = .returned (.int .i64 0) ∧ Gr w' q p t m d gg lab g B0 NB N ln (tabW P0 n f Y) (K + 1) ∧ Kf w w' [t, m, d, gg] := by
  have hN := h.rd.hN
  obtain ⟨g1, g2, g3, g4, g5, g6, g7, g8, g9, g10, g11, g12, g13, g14⟩ := hg
  refine (write_any6 g n t m d gg N K P0 M Y f hf hc h1 h2 g6 g2 (by omega) (by omega) g3 (by omega) (by omega) (by omega) (by omega) hT hK w h.rd).mono ?_
  rintro e w' ⟨he, hR, hk⟩
  exact ⟨he, h.call hR hk, hk⟩
set_option maxHeartbeats 20000000 in
set_option maxRecDepth 100000 in
theorem gnode_in (q p t m d gg lab B0 P0 M DA NB N K : Nat) (g : Cf.Ge) (Y : Nat → Nat → Int) (V : Nat → Nat → Int) (n : Nat) (h1 : 1 ≤ n) (h2 : n ≤ M) (hK : K < 600000000) (hI : Tab P0 M Y V) (hg : GG g B0 P0 M DA NB N) (w : World) (h : Gr w q p t m d gg lab g B0 NB N ln Y K) :
    Calls Tryz.prog 57 #[.pointer (some ⟨q, 0, none⟩), .int .i64 n] w fun e w' => e = .returned (.tuple #[.agg (ndc (V n)).toArray, .int .i64 0]) ∧ Gr w' q p t m d gg lab g B0 NB N ln Y (K + 1) ∧ Kf w w' [t, m, d, gg] := by
  obtain ⟨d53, hu53, hd53⟩ := Tryz.desc53
  have HU53 := Lib.hid hu53
  have HD53 := Lib.hid hd53
  obtain ⟨d27, hu27, hd27⟩ := Tryz.desc27
  have HU27 := Lib.hid hu27
  have HD27 := Lib.hid hd27
  have HS53 := Lib.hid (size53 g)
  clear hu53 hd53 hu27 hd27
  have HRd := Lib.hid (fun W hW => gread (ln := ln) q p t m d gg lab B0 P0 M DA NB N K g Y V n h1 h2 hK hI hg W hW)
  have HG := Lib.hid h
  have lts := Lib.hid h.lts
  obtain ⟨f, hf⟩ : ∃ f, V n = f := ⟨_, rfl⟩
  rw [hf] at HRd ⊢
  have hq0 := h.lts.1
  clear hf hI h hg h1 h2 hK
  go_enter Tryz.func57, Tryz.ntmps57
  go_upto_region 3 with (first | (refine wpList_alloc_list (w := w) rfl 68 rfl (ndc zpt) Tryz.zero27 ?_; intro w1 F1 hb1 hz1; have HB1 := Lib.hid hb1; have HG1 := Lib.hid (HG.out.keep hb1); clear hb1 hz1))
  obtain ⟨b, hb⟩ : ∃ b, w.heap.size = b := ⟨_, rfl⟩
  have NB6 := Lib.hid (nin6 lts.out.1 lts.out.2.1 lts.out.2.2.1 lts.out.2.2.2.1 lts.out.2.2.2.2.1 lts.out.2.2.2.2.2 (Nat.le_of_eq hb))
  have HK1 := Lib.hid (Kf.of_below HB1.out [t, m, d, gg])
  have HWb := Lib.hid (Nat.le_of_eq hb)
  rw [hb] at F1 hq0
  try rw [hb]
  clear hb lts HB1 HG
  refine wp_region_held (S := fun W => Vl W q (gpc t lab g p)) (by kernel_rfl) ?_
  change wpAnyH _ _ _ _ _ _ _ _ (World.drew _)
  have hS0 : (fun W => Vl W q (gpc t lab g p)) w1.drew := HG1.out.gb.keep (Below.refl _ _).drew
  have HG2 := Lib.hid (HG1.out.keep (Below.refl w1.heap.size w1).drew)
  have HK2 := Lib.hid (HK1.out.trans (Kf.of_below (Below.refl w1.heap.size w1).drew _))
  have F2 := Lib.hid (F1.out.keep (Below.refl w1.heap.size w1).drew)
  obtain ⟨w2, hw2⟩ : ∃ x, World.drew w1 = x := ⟨_, rfl⟩
  rw [hw2] at hS0 HG2 HK2 F2 ⊢
  clear hw2
  clear HG1 HK1 F1
  refine wpAnyH_take (i := 0) (v := ?_) rfl (by kernel_rfl) (by kernel_rfl) (by kernel_rfl) (fun _ _ _ h => h) (Or.inl ⟨by rfl, ?_⟩) hS0 ?_
  rotate_left 1
  · intro W hW
    go_simp
    try with_reducible rfl
  simp only [Act.put, List.getElem_toArray, List.getElem_cons_zero, List.getElem_cons_succ, List.setIfInBounds_toArray, List.set_cons_zero, List.set_cons_succ]
  refine wpAnyH_take (i := 1) (v := ?_) rfl (by kernel_rfl) (by kernel_rfl) (by kernel_rfl) (fun _ _ _ h => h) (Or.inl ⟨by rfl, ?_⟩) hS0 ?_
  rotate_left 1
  · intro W hW
    go_simp
    try with_reducible rfl
  simp only [Act.put, List.getElem_toArray, List.getElem_cons_zero, List.getElem_cons_succ, List.setIfInBounds_toArray, List.set_cons_zero, List.set_cons_succ]
  refine wpAnyH_take (i := 2) (v := ?_) rfl (by kernel_rfl) (by kernel_rfl) (by kernel_rfl) (fun _ _ _ h => h) (Or.inl ⟨by rfl, ?_⟩) hS0 ?_
  rotate_left 1
  · intro W hW
    go_simp
    try with_reducible rfl
  simp only [Act.put, List.getElem_toArray, List.getElem_cons_zero, List.getElem_cons_succ, List.setIfInBounds_toArray, List.set_cons_zero, List.set_cons_succ]
  refine wpAnyH_take (i := 3) (v := ?_) rfl (by kernel_rfl) (by kernel_rfl) (by kernel_rfl) (fun _ _ _ h => h) (Or.inl ⟨by rfl, ?_⟩) hS0 ?_
  rotate_left 1
  · intro W hW
    have c0 := hW.c 0 _ rfl
    go_simp
    try with_reducible rfl
  simp only [Act.put, List.getElem_toArray, List.getElem_cons_zero, List.getElem_cons_succ, List.setIfInBounds_toArray, List.set_cons_zero, List.set_cons_succ]
  refine wpAnyH_take (i := 4) (v := ?_) rfl (by kernel_rfl) (by kernel_rfl) (by kernel_rfl) (fun _ _ _ h => h) (Or.inl ⟨by rfl, ?_⟩) hS0 ?_
  rotate_left 1
  · intro W hW
    go_simp
    try with_reducible rfl
  simp only [Act.put, List.getElem_toArray, List.getElem_cons_zero, List.getElem_cons_succ, List.setIfInBounds_toArray, List.set_cons_zero, List.set_cons_succ]
  refine wpAnyH_take (i := 5) (v := ?_) rfl (by kernel_rfl) (by kernel_rfl) (by kernel_rfl) (fun _ _ _ h => h) (Or.inl ⟨by rfl, ?_⟩) hS0 ?_
  rotate_left 1
  · intro W hW
    go_simp
    try with_reducible rfl
  simp only [Act.put, List.getElem_toArray, List.getElem_cons_zero, List.getElem_cons_succ, List.setIfInBounds_toArray, List.set_cons_zero, List.set_cons_succ]
  refine wpAnyH_take (i := 6) (v := ?_) rfl (by kernel_rfl) (by kernel_rfl) (by kernel_rfl) (fun _ _ _ h => h) (Or.inl ⟨by rfl, ?_⟩) hS0 ?_
  rotate_left 1
  · intro W hW
    go_simp
    try with_reducible rfl
  simp only [Act.put, List.getElem_toArray, List.getElem_cons_zero, List.getElem_cons_succ, List.setIfInBounds_toArray, List.set_cons_zero, List.set_cons_succ]
  refine wpAnyH_take (i := 7) (v := .agg g.cells.toArray) rfl (by kernel_rfl) (by kernel_rfl) (by kernel_rfl) (fun _ _ _ h => h) ?_ hS0 ?_
  · exact yieldsIf_load_mid (by rfl) 133 _ rfl q 2 rfl g.cells d53 (fun _ h => h.geo) HU53.out HD53.out HS53.out
  simp only [Act.put, List.getElem_toArray, List.getElem_cons_zero, List.getElem_cons_succ, List.setIfInBounds_toArray, List.set_cons_zero, List.set_cons_succ]
  refine wpAnyH_take (i := 8) (v := ?_) rfl (by kernel_rfl) (by kernel_rfl) (by kernel_rfl) (fun _ _ _ h => h) (Or.inl ⟨by rfl, ?_⟩) hS0 ?_
  rotate_left 1
  · intro W hW
    go_simp
    try with_reducible rfl
  simp only [Act.put, List.getElem_toArray, List.getElem_cons_zero, List.getElem_cons_succ, List.setIfInBounds_toArray, List.set_cons_zero, List.set_cons_succ]
  refine wpAnyH_ready (rs := [9]) (by kernel_rfl) (by simp) (AllReadyH.cons rfl (fun KK hKK => ?_) AllReadyH.nil)
  go_simp
  refine (HRd.out w2 HG2.out).mono ?_
  rintro e w3 ⟨rfl, hG, hk⟩
  have HG3 := Lib.hid hG
  have HK3 := Lib.hid (HK2.out.trans hk)
  have nb4 : b ∉ [t, m, d, gg] := by have := NB6.out; simp at this ⊢; omega
  have F3 := Lib.hid (F2.out.kf hk nb4)
  replace hS0 : (fun W => Vl W q (gpc t lab g p)) w3 := HG3.out.gb
  clear hG hk HG2 HK2 F2 nb4
  refine hKK _ _ hS0 ?_
  intro _
  clear hKK KK
  try simp only [Act.put, List.getElem_toArray, List.getElem_cons_zero, List.getElem_cons_succ, List.setIfInBounds_toArray, List.set_cons_zero, List.set_cons_succ]
  refine wpAnyH_take (i := 10) (v := ?_) rfl (by kernel_rfl) (by kernel_rfl) (by kernel_rfl) (fun _ _ _ h => h) (Or.inl ⟨by rfl, ?_⟩) hS0 ?_
  rotate_left 1
  · intro W hW
    go_simp
    try with_reducible rfl
  simp only [Act.put, List.getElem_toArray, List.getElem_cons_zero, List.getElem_cons_succ, List.setIfInBounds_toArray, List.set_cons_zero, List.set_cons_succ]
  refine wpAnyH_take (i := 11) (v := ?_) rfl (by kernel_rfl) (by kernel_rfl) (by kernel_rfl) (fun _ _ _ h => h) (Or.inl ⟨by rfl, ?_⟩) hS0 ?_
  rotate_left 1
  · intro W hW
    go_simp
    try with_reducible rfl
  simp only [Act.put, List.getElem_toArray, List.getElem_cons_zero, List.getElem_cons_succ, List.setIfInBounds_toArray, List.set_cons_zero, List.set_cons_succ]
  refine wpAnyH_ready (rs := [12]) (by kernel_rfl) (by simp) (AllReadyH.cons rfl (fun KK hKK => ?_) AllReadyH.nil)
  refine step_store_mid rfl 68 _ _ rfl b 0 (ndc f).toArray rfl rfl (F3.out.there0 12 rfl) (size27' _) (all_oneCell_toArray (ndc_one _)) ?_
  rw [List.toList_toArray]
  have F5 := Lib.hid (F3.out.stored (ndc f) rfl)
  have hk5 : Kp w3 (w3.setCells b 0 (ndc f)) b b := (Kp.refl _ _ _).setCells b 0 (.inl rfl) _
  have HG5 := Lib.hid (HG3.out.kp hk5 NB6.out)
  have HK5 := Lib.hid (HK3.out.fresh hk5 HWb.out)
  obtain ⟨w5, hw5⟩ : ∃ x, w3.setCells b 0 (ndc f) = x := ⟨_, rfl⟩
  rw [hw5] at F5 HG5 HK5 ⊢
  clear hS0 hk5 hw5 F3 HG3 HK3
  have hS0 : (fun W => Vl W q (gpc t lab g p)) w5 := HG5.out.gb
  refine hKK _ _ hS0 ?_
  intro _
  clear hKK KK
  try simp only [Act.put, List.getElem_toArray, List.getElem_cons_zero, List.getElem_cons_succ, List.setIfInBounds_toArray, List.set_cons_zero, List.set_cons_succ]
  refine wpAnyH_take (i := 13) (v := ?_) rfl (by kernel_rfl) (by kernel_rfl) (by kernel_rfl) (fun _ _ _ h => h) (Or.inl ⟨by rfl, ?_⟩) hS0 ?_
  rotate_left 1
  · intro W hW
    go_simp
    try with_reducible rfl
  simp only [Act.put, List.getElem_toArray, List.getElem_cons_zero, List.getElem_cons_succ, List.setIfInBounds_toArray, List.set_cons_zero, List.set_cons_succ]
  refine wpAnyH_done (by kernel_rfl) ?_ _
  clear hS0
  go_wp2_with fail
  exact bodyPost_ret_by (results_mid_tmp rfl _ _ b (ndc f) d27 rfl F5.out.range0 HU27.out HD27.out (size27 _)) rfl ⟨rfl, HG5.out, HK5.out⟩
set_option maxHeartbeats 20000000 in
set_option maxRecDepth 100000 in
theorem gset_in (q p t m d gg lab B0 P0 M DA NB N K : Nat) (g : Cf.Ge) (Y : Nat → Nat → Int) (f : Nat → Int) (hf : NdOk f) (hc : codeN f = 0) (n : Nat) (h1 : 1 ≤ n) (h2 : n ≤ M) (hT : Has ln (P0 + (n - 1) / 2)) (hK : K < 600000000) (hg : GG g B0 P0 M DA NB N) (w : World) (h : Gr w q p t m d gg lab g B0 NB N ln Y K) :
    Calls Tryz.prog 19 #[.pointer (some ⟨q, 0, none⟩), .int .i64 n, .agg (ndc f).toArray] w fun e w' => e = .returned (.int .i64 0) ∧ Gr w' q p t m d gg lab g B0 NB N ln (tabW P0 n f Y) (K + 1) ∧ Kf w w' [t, m, d, gg] := by
  obtain ⟨d53, hu53, hd53⟩ := Tryz.desc53
  have HU53 := Lib.hid hu53
  have HD53 := Lib.hid hd53
  obtain ⟨d27, hu27, hd27⟩ := Tryz.desc27
  have HU27 := Lib.hid hu27
  have HD27 := Lib.hid hd27
  have HS53 := Lib.hid (size53 g)
  clear hu53 hd53 hu27 hd27
  have HWr := Lib.hid (fun W hW => gwrite (ln := ln) q p t m d gg lab B0 P0 M DA NB N K g Y f hf hc n h1 h2 hT hK hg W hW)
  have HG := Lib.hid h
  have lts := Lib.hid h.lts
  obtain ⟨Z, hZ⟩ : ∃ Z, tabW P0 n f Y = Z := ⟨_, rfl⟩
  rw [hZ] at HWr ⊢
  have hq0 := h.lts.1
  clear hZ hf hc h hg h1 h2 hK hT
  go_enter Tryz.func19, Tryz.ntmps19
  go_upto_region 3 with (first | (refine wpList_box_list (w := w) rfl 68 _ rfl (ndc f) rfl ?_; intro w1 F1 hb1 hz1; have HB1 := Lib.hid hb1; have HG1 := Lib.hid (HG.out.keep hb1); clear hb1 hz1))
  obtain ⟨b, hb⟩ : ∃ b, w.heap.size = b := ⟨_, rfl⟩
  have NB6 := Lib.hid (nin6 lts.out.1 lts.out.2.1 lts.out.2.2.1 lts.out.2.2.2.1 lts.out.2.2.2.2.1 lts.out.2.2.2.2.2 (Nat.le_of_eq hb))
  have HK1 := Lib.hid (Kf.of_below HB1.out [t, m, d, gg])
  rw [hb] at F1 hq0
  try rw [hb]
  clear hb lts HB1 HG
  refine wp_region_held (S := fun W => Vl W q (gpc t lab g p) ∧ Vl W b (ndc f)) (by kernel_rfl) ?_
  change wpAnyH _ _ _ _ _ _ _ _ (World.drew _)
  have hS0 : (fun W => Vl W q (gpc t lab g p) ∧ Vl W b (ndc f)) w1.drew := ⟨HG1.out.gb.keep (Below.refl _ _).drew, F1.out.keep (Below.refl _ _).drew⟩
  have HG2 := Lib.hid (HG1.out.keep (Below.refl w1.heap.size w1).drew)
  have HK2 := Lib.hid (HK1.out.trans (Kf.of_below (Below.refl w1.heap.size w1).drew _))
  obtain ⟨w2, hw2⟩ : ∃ x, World.drew w1 = x := ⟨_, rfl⟩
  rw [hw2] at hS0 HG2 HK2 ⊢
  clear hw2
  clear HG1 HK1 F1
  refine wpAnyH_take (i := 0) (v := ?_) rfl (by kernel_rfl) (by kernel_rfl) (by kernel_rfl) (fun _ _ _ h => h) (Or.inl ⟨by rfl, ?_⟩) hS0 ?_
  rotate_left 1
  · intro W hW
    go_simp
    try with_reducible rfl
  simp only [Act.put, List.getElem_toArray, List.getElem_cons_zero, List.getElem_cons_succ, List.setIfInBounds_toArray, List.set_cons_zero, List.set_cons_succ]
  refine wpAnyH_take (i := 1) (v := ?_) rfl (by kernel_rfl) (by kernel_rfl) (by kernel_rfl) (fun _ _ _ h => h) (Or.inl ⟨by rfl, ?_⟩) hS0 ?_
  rotate_left 1
  · intro W hW
    go_simp
    try with_reducible rfl
  simp only [Act.put, List.getElem_toArray, List.getElem_cons_zero, List.getElem_cons_succ, List.setIfInBounds_toArray, List.set_cons_zero, List.set_cons_succ]
  refine wpAnyH_take (i := 2) (v := ?_) rfl (by kernel_rfl) (by kernel_rfl) (by kernel_rfl) (fun _ _ _ h => h) (Or.inl ⟨by rfl, ?_⟩) hS0 ?_
  rotate_left 1
  · intro W hW
    go_simp
    try with_reducible rfl
  simp only [Act.put, List.getElem_toArray, List.getElem_cons_zero, List.getElem_cons_succ, List.setIfInBounds_toArray, List.set_cons_zero, List.set_cons_succ]
  refine wpAnyH_take (i := 3) (v := ?_) rfl (by kernel_rfl) (by kernel_rfl) (by kernel_rfl) (fun _ _ _ h => h) (Or.inl ⟨by rfl, ?_⟩) hS0 ?_
  rotate_left 1
  · intro W hW
    have c0 := hW.1.c 0 _ rfl
    go_simp
    try with_reducible rfl
  simp only [Act.put, List.getElem_toArray, List.getElem_cons_zero, List.getElem_cons_succ, List.setIfInBounds_toArray, List.set_cons_zero, List.set_cons_succ]
  refine wpAnyH_take (i := 4) (v := ?_) rfl (by kernel_rfl) (by kernel_rfl) (by kernel_rfl) (fun _ _ _ h => h) (Or.inl ⟨by rfl, ?_⟩) hS0 ?_
  rotate_left 1
  · intro W hW
    go_simp
    try with_reducible rfl
  simp only [Act.put, List.getElem_toArray, List.getElem_cons_zero, List.getElem_cons_succ, List.setIfInBounds_toArray, List.set_cons_zero, List.set_cons_succ]
  refine wpAnyH_take (i := 5) (v := ?_) rfl (by kernel_rfl) (by kernel_rfl) (by kernel_rfl) (fun _ _ _ h => h) (Or.inl ⟨by rfl, ?_⟩) hS0 ?_
  rotate_left 1
  · intro W hW
    go_simp
    try with_reducible rfl
  simp only [Act.put, List.getElem_toArray, List.getElem_cons_zero, List.getElem_cons_succ, List.setIfInBounds_toArray, List.set_cons_zero, List.set_cons_succ]
  refine wpAnyH_take (i := 6) (v := ?_) rfl (by kernel_rfl) (by kernel_rfl) (by kernel_rfl) (fun _ _ _ h => h) (Or.inl ⟨by rfl, ?_⟩) hS0 ?_
  rotate_left 1
  · intro W hW
    go_simp
    try with_reducible rfl
  simp only [Act.put, List.getElem_toArray, List.getElem_cons_zero, List.getElem_cons_succ, List.setIfInBounds_toArray, List.set_cons_zero, List.set_cons_succ]
  refine wpAnyH_take (i := 7) (v := .agg g.cells.toArray) rfl (by kernel_rfl) (by kernel_rfl) (by kernel_rfl) (fun _ _ _ h => h) ?_ hS0 ?_
  · exact yieldsIf_load_mid (by rfl) 133 _ rfl q 2 rfl g.cells d53 (fun _ h => h.1.geo) HU53.out HD53.out HS53.out
  simp only [Act.put, List.getElem_toArray, List.getElem_cons_zero, List.getElem_cons_succ, List.setIfInBounds_toArray, List.set_cons_zero, List.set_cons_succ]
  refine wpAnyH_take (i := 8) (v := ?_) rfl (by kernel_rfl) (by kernel_rfl) (by kernel_rfl) (fun _ _ _ h => h) (Or.inl ⟨by rfl, ?_⟩) hS0 ?_
  rotate_left 1
  · intro W hW
    go_simp
    try with_reducible rfl
  simp only [Act.put, List.getElem_toArray, List.getElem_cons_zero, List.getElem_cons_succ, List.setIfInBounds_toArray, List.set_cons_zero, List.set_cons_succ]
  refine wpAnyH_take (i := 9) (v := .agg (ndc f).toArray) rfl (by kernel_rfl) (by kernel_rfl) (by kernel_rfl) (fun _ _ _ h => h) ?_ hS0 ?_
  · exact yieldsIf_load_mid (by rfl) 68 _ rfl b 0 rfl (ndc f) d27 (fun _ h => h.2.range0) HU27.out HD27.out (size27 _)
  simp only [Act.put, List.getElem_toArray, List.getElem_cons_zero, List.getElem_cons_succ, List.setIfInBounds_toArray, List.set_cons_zero, List.set_cons_succ]
  refine wpAnyH_ready (rs := [10]) (by kernel_rfl) (by simp) (AllReadyH.cons rfl (fun KK hKK => ?_) AllReadyH.nil)
  go_simp
  refine (HWr.out w2 HG2.out).mono ?_
  rintro e w3 ⟨rfl, hG, hk⟩
  have HG3 := Lib.hid hG
  have HK3 := Lib.hid (HK2.out.trans hk)
  have nb4 : b ∉ [t, m, d, gg] := by have := NB6.out; simp at this ⊢; omega
  replace hS0 : (fun W => Vl W q (gpc t lab g p) ∧ Vl W b (ndc f)) w3 := ⟨HG3.out.gb, hS0.2.kf hk nb4⟩
  clear hG hk HG2 HK2 nb4
  refine hKK _ _ hS0 ?_
  intro _
  clear hKK KK
  try simp only [Act.put, List.getElem_toArray, List.getElem_cons_zero, List.getElem_cons_succ, List.setIfInBounds_toArray, List.set_cons_zero, List.set_cons_succ]
  refine wpAnyH_take (i := 11) (v := ?_) rfl (by kernel_rfl) (by kernel_rfl) (by kernel_rfl) (fun _ _ _ h => h) (Or.inl ⟨by rfl, ?_⟩) hS0 ?_
  rotate_left 1
  · intro W hW
    go_simp
    try with_reducible rfl
  simp only [Act.put, List.getElem_toArray, List.getElem_cons_zero, List.getElem_cons_succ, List.setIfInBounds_toArray, List.set_cons_zero, List.set_cons_succ]
  refine wpAnyH_done (by kernel_rfl) ?_ _
  clear hS0
  go_wp2_with fail
  go_ret
  exact ⟨rfl, HG3.out, HK3.out⟩
theorem code_of {f : Nat → Int} (h1 : 0 < f 1) (hm : mbl (f 0) (f 3) = true) : codeN f = 0 := by
  unfold codeN okN
  rw [if_pos (by rw [hm, decide_eq_true h1]; simp)]
end Go.Proofs.YtbnpgkclnebnmaaGreat
