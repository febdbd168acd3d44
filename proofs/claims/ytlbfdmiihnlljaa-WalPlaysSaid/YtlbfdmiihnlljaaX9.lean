import Derived.Test.YtlbfdmiihnlljaaX8
/- The answer's Put: a block that is to be written already: the walk. -/
namespace Go.Proofs.Ytlbfdmiihnlljaa
set_option linter.unusedSimpArgs false
set_option linter.unusedVariables false
open Go.RowKit Go.Maps

set_option maxHeartbeats 8000000 in
set_option maxRecDepth 100000 in
theorem rput_there (x l d g fi N K : Nat) (va vb : Value) (T : TS) (co : Int) (s : DS) (n : Nat) (f f0 : Nat → Int) (hT5 : T.length ≤ 5000) (hr : Rise T) (hf : fi ≤ 65536) (hN : N ≤ 65536) (hs : Sane s N K) (w : World) (h : Rx w x l va vb T co) (hl : Lg w l d fi) (hd : Rk w d g s)
    (hvb : Ns.off vb x x) (hvab : ∀ k, vb.ownBlock = some k → Ns.off va k k) (ho : outB N fi n = true) (hq : find T n = some f0) :
    Calls Try.prog 26 #[.pointer (some ⟨x, 0, none⟩), .int .i64 n, .agg (byts 64 f).toArray] w fun e w' => e = .returned (.int .i64 0) ∧ Rx w' x l va vb (put n f T) co ∧ ∃ b, vb.ownBlock = some b ∧ Kp w w' b b := by
  obtain ⟨a2, cap2, rfl⟩ := h.bv.form
  obtain ⟨j, hj, hp, hj1, _⟩ := pos_some n T 0 f0 hq
  rw [Nat.zero_add] at hp
  obtain ⟨b, rfl, hbl, _⟩ := h.bv.at j hj
  have hj2 : T[j].1 = n := by omega
  rw [put_some n f T j hj hr hj2]
  have hxb : x ≠ b := fun e => (hvb b rfl).1 e.symm
  have HVA := Lib.hid (hvab b rfl)
  have HJ2 := Lib.hid hj2
  have HX := Lib.hid h
  have HL := Lib.hid hl
  have HD := Lib.hid hd
  have hxl := h.lt
  have hll := hl.lt
  have hdl := hd.lt
  have hsn := hs.n
  have HFi : Hid (∀ W, Rx W x l va (.slice (some ⟨b, 0, none⟩) T.length cap2) T co → Calls Try.prog 38 #[.pointer (some ⟨x, 0, none⟩), .int .i64 n] W fun e w' => e = .returned (.int .i64 j) ∧ w' = W) := fun W hW => by
    have := rfind_any x l _ _ T co n hT5 W hW
    rwa [hp] at this
  clear h hl hd hvb hvab hs hq hp hr hj1 hj2
  have hc : n < N ∧ (n < fi ∨ fi ≤ n ∧ fi + 30 < n) := by
    unfold outB at ho
    simp at ho
    omega
  clear ho
  obtain ⟨hc1', hc2'⟩ := hc
  have hc0 : (0 : Int) ≤ n := by omega
  have hc1 : (n : Int) < N := by omega
  have hc2 : (n : Int) < fi ∨ (fi : Int) ≤ n ∧ (fi : Int) + 30 < n := by omega
  clear hc1' hc2'
  have hNn : (N : Int) ≤ 65536 := by omega
  have hff : (fi : Int) ≤ 65536 := by omega
  have h50 : (T.length : Int) ≤ 5000 := by omega
  have hj0 : (0 : Int) ≤ j := by omega
  have hjl : (j : Int) < T.length := by omega
  have hwa : IntKind.i64.wrap ((fi : Int) + 30) = (fi : Int) + 30 := IntWalk.i64_in _ (by omega)
  subst hsn
  rcases hc2 with hc2 | ⟨hc2, hc3⟩
  · go_enter Try.func26, Try.ntmps26
    go_wp2_with (first | (refine wpList_box_byts rfl 50 _ 64 rfl f rfl ?_; intro w1 F1 hb1 hz1; have HX1 := Lib.hid (HX.out.below hb1); have HB1 := Lib.hid hb1; have HF1 := Lib.hid F1.out; have c0 := HX1.out.c0; have b0 := (HL.out.keep hb1).c0; have b1 := (HL.out.keep hb1).c1; have d0 := (HD.out.keep hb1).c0; clear hb1 hz1 F1) | (go_at_call 38; refine (HFi.out w1 HX1.out).mono ?_; rintro e w' ⟨rfl, hww⟩; rw [hww]; clear hww))
    clear c0 b0 b1 d0
    obtain ⟨b5, hb5⟩ : ∃ b5, w.heap.size = b5 := ⟨_, rfl⟩
    rw [hb5] at HF1 ⊢
    have hbb : b ≠ b5 := by omega
    refine wp_region_held (S := fun W => W.cell? ⟨x, 2, none⟩ = some (.slice (some ⟨b, 0, none⟩) T.length cap2) ∧ Fl W b5 64 f) (by kernel_rfl) ?_
    change wpAnyH _ _ _ _ _ _ _ _ (World.drew _)
    have HXd := Lib.hid (HX1.out.below (Below.refl _ _).drew)
    have hS0 : (World.drew w1).cell? ⟨x, 2, none⟩ = some (.slice (some ⟨b, 0, none⟩) T.length cap2) ∧ Fl (World.drew w1) b5 64 f := ⟨HXd.out.c2, HF1.out.below (Below.refl _ _).drew HF1.out.lt⟩
    refine wpAnyH_take (i := 0) (v := ?_) rfl (by kernel_rfl) (by kernel_rfl) (by kernel_rfl) (fun _ _ _ h => h) (Or.inl ⟨by rfl, ?_⟩) hS0 ?_
    rotate_left 1
    · intro W hW
      go_simp
      try with_reducible rfl
    simp only [Act.put, List.getElem_toArray, List.getElem_cons_zero, List.getElem_cons_succ, List.setIfInBounds_toArray, List.set_cons_zero, List.set_cons_succ]
    refine wpAnyH_take (i := 1) (v := ?_) rfl (by kernel_rfl) (by kernel_rfl) (by kernel_rfl) (fun _ _ _ h => h) (Or.inl ⟨by rfl, ?_⟩) hS0 ?_
    rotate_left 1
    · intro W hW
      go_simp
      try with_reducible rfl
    simp only [Act.put, List.getElem_toArray, List.getElem_cons_zero, List.getElem_cons_succ, List.setIfInBounds_toArray, List.set_cons_zero, List.set_cons_succ]
    refine wpAnyH_take (i := 2) (v := ?_) rfl (by kernel_rfl) (by kernel_rfl) (by kernel_rfl) (fun _ _ _ h => h) (Or.inl ⟨by rfl, ?_⟩) hS0 ?_
    rotate_left 1
    · intro W hW
      go_simp
      try with_reducible rfl
    simp only [Act.put, List.getElem_toArray, List.getElem_cons_zero, List.getElem_cons_succ, List.setIfInBounds_toArray, List.set_cons_zero, List.set_cons_succ]
    refine wpAnyH_take (i := 3) (v := ?_) rfl (by kernel_rfl) (by kernel_rfl) (by kernel_rfl) (fun _ _ _ h => h) (Or.inl ⟨by rfl, ?_⟩) hS0 ?_
    rotate_left 1
    · intro W hW
      have c2 := hW.1
      go_simp
      try with_reducible rfl
    simp only [Act.put, List.getElem_toArray, List.getElem_cons_zero, List.getElem_cons_succ, List.setIfInBounds_toArray, List.set_cons_zero, List.set_cons_succ]
    refine wpAnyH_take (i := 4) (v := ?_) rfl (by kernel_rfl) (by kernel_rfl) (by kernel_rfl) (fun _ _ _ h => h) (Or.inl ⟨by rfl, ?_⟩) hS0 ?_
    rotate_left 1
    · intro W hW
      go_simp
      try with_reducible rfl
    simp only [Act.put, List.getElem_toArray, List.getElem_cons_zero, List.getElem_cons_succ, List.setIfInBounds_toArray, List.set_cons_zero, List.set_cons_succ]
    refine wpAnyH_take (i := 5) (v := .agg (byts 64 f).toArray) rfl (by kernel_rfl) (by kernel_rfl) (by kernel_rfl) (fun _ _ _ h => h) ?_ hS0 ?_
    · exact yieldsIf_load_mid (by rfl) 50 _ rfl b5 0 rfl (byts 64 f) (.array 64 5) (fun _ h => h.2.range0) Try.arr36 rfl (size36 _)
    simp only [Act.put, List.getElem_toArray, List.getElem_cons_zero, List.getElem_cons_succ, List.setIfInBounds_toArray, List.set_cons_zero, List.set_cons_succ]
    refine wpAnyH_take (i := 6) (v := ?_) rfl (by kernel_rfl) (by kernel_rfl) (by kernel_rfl) (fun _ _ _ h => h) (Or.inl ⟨by rfl, ?_⟩) hS0 ?_
    rotate_left 1
    · intro W hW
      go_simp
      try with_reducible rfl
    simp only [Act.put, List.getElem_toArray, List.getElem_cons_zero, List.getElem_cons_succ, List.setIfInBounds_toArray, List.set_cons_zero, List.set_cons_succ]
    refine wpAnyH_ready (rs := [7]) (by kernel_rfl) (by simp) (AllReadyH.cons rfl (fun KK hKK => ?_) AllReadyH.nil)
    refine step_store_mid rfl 50 _ _ rfl b (j * 64) (byts 64 f).toArray rfl rfl (by rw [byts_size]; exact HXd.out.bv.there j hj) (size36' _) (byts_all _ _) ?_
    rw [List.toList_toArray]
    have hk2 : Kp (World.drew w1) ((World.drew w1).setCells b (j * 64) (byts 64 f)) b b := (Kp.refl _ b b).setCells b _ (.inl rfl) _
    have HX2 := Lib.hid (HXd.out.set j hj n HJ2.out f hxb HVA.out)
    have HF2 := Lib.hid (hS0.2.kp hk2 hbb.symm hbb.symm)
    have HK2 := Lib.hid ((Kp.of_below HB1.out b b).trans ((Kp.refl w1 b b).drew.trans hk2))
    obtain ⟨w2, hw2⟩ : ∃ x, (World.drew w1).setCells b (j * 64) (byts 64 f) = x := ⟨_, rfl⟩
    rw [hw2] at HX2 HF2 HK2 ⊢
    clear hS0 hk2 hw2
    refine hKK _ _ ⟨HX2.out.c2, HF2.out⟩ ?_
    intro _
    clear hKK KK
    refine wpAnyH_done (by kernel_rfl) ?_ _
    go_wp2_with fail
    go_ret
    exact ⟨rfl, HX2.out, b, rfl, HK2.out⟩
  · go_enter Try.func26, Try.ntmps26
    go_wp2_with (first | (refine wpList_box_byts rfl 50 _ 64 rfl f rfl ?_; intro w1 F1 hb1 hz1; have HX1 := Lib.hid (HX.out.below hb1); have HB1 := Lib.hid hb1; have HF1 := Lib.hid F1.out; have c0 := HX1.out.c0; have b0 := (HL.out.keep hb1).c0; have b1 := (HL.out.keep hb1).c1; have d0 := (HD.out.keep hb1).c0; clear hb1 hz1 F1) | (go_at_call 38; refine (HFi.out w1 HX1.out).mono ?_; rintro e w' ⟨rfl, hww⟩; rw [hww]; clear hww))
    clear c0 b0 b1 d0
    obtain ⟨b5, hb5⟩ : ∃ b5, w.heap.size = b5 := ⟨_, rfl⟩
    rw [hb5] at HF1 ⊢
    have hbb : b ≠ b5 := by omega
    refine wp_region_held (S := fun W => W.cell? ⟨x, 2, none⟩ = some (.slice (some ⟨b, 0, none⟩) T.length cap2) ∧ Fl W b5 64 f) (by kernel_rfl) ?_
    change wpAnyH _ _ _ _ _ _ _ _ (World.drew _)
    have HXd := Lib.hid (HX1.out.below (Below.refl _ _).drew)
    have hS0 : (World.drew w1).cell? ⟨x, 2, none⟩ = some (.slice (some ⟨b, 0, none⟩) T.length cap2) ∧ Fl (World.drew w1) b5 64 f := ⟨HXd.out.c2, HF1.out.below (Below.refl _ _).drew HF1.out.lt⟩
    refine wpAnyH_take (i := 0) (v := ?_) rfl (by kernel_rfl) (by kernel_rfl) (by kernel_rfl) (fun _ _ _ h => h) (Or.inl ⟨by rfl, ?_⟩) hS0 ?_
    rotate_left 1
    · intro W hW
      go_simp
      try with_reducible rfl
    simp only [Act.put, List.getElem_toArray, List.getElem_cons_zero, List.getElem_cons_succ, List.setIfInBounds_toArray, List.set_cons_zero, List.set_cons_succ]
    refine wpAnyH_take (i := 1) (v := ?_) rfl (by kernel_rfl) (by kernel_rfl) (by kernel_rfl) (fun _ _ _ h => h) (Or.inl ⟨by rfl, ?_⟩) hS0 ?_
    rotate_left 1
    · intro W hW
      go_simp
      try with_reducible rfl
    simp only [Act.put, List.getElem_toArray, List.getElem_cons_zero, List.getElem_cons_succ, List.setIfInBounds_toArray, List.set_cons_zero, List.set_cons_succ]
    refine wpAnyH_take (i := 2) (v := ?_) rfl (by kernel_rfl) (by kernel_rfl) (by kernel_rfl) (fun _ _ _ h => h) (Or.inl ⟨by rfl, ?_⟩) hS0 ?_
    rotate_left 1
    · intro W hW
      go_simp
      try with_reducible rfl
    simp only [Act.put, List.getElem_toArray, List.getElem_cons_zero, List.getElem_cons_succ, List.setIfInBounds_toArray, List.set_cons_zero, List.set_cons_succ]
    refine wpAnyH_take (i := 3) (v := ?_) rfl (by kernel_rfl) (by kernel_rfl) (by kernel_rfl) (fun _ _ _ h => h) (Or.inl ⟨by rfl, ?_⟩) hS0 ?_
    rotate_left 1
    · intro W hW
      have c2 := hW.1
      go_simp
      try with_reducible rfl
    simp only [Act.put, List.getElem_toArray, List.getElem_cons_zero, List.getElem_cons_succ, List.setIfInBounds_toArray, List.set_cons_zero, List.set_cons_succ]
    refine wpAnyH_take (i := 4) (v := ?_) rfl (by kernel_rfl) (by kernel_rfl) (by kernel_rfl) (fun _ _ _ h => h) (Or.inl ⟨by rfl, ?_⟩) hS0 ?_
    rotate_left 1
    · intro W hW
      go_simp
      try with_reducible rfl
    simp only [Act.put, List.getElem_toArray, List.getElem_cons_zero, List.getElem_cons_succ, List.setIfInBounds_toArray, List.set_cons_zero, List.set_cons_succ]
    refine wpAnyH_take (i := 5) (v := .agg (byts 64 f).toArray) rfl (by kernel_rfl) (by kernel_rfl) (by kernel_rfl) (fun _ _ _ h => h) ?_ hS0 ?_
    · exact yieldsIf_load_mid (by rfl) 50 _ rfl b5 0 rfl (byts 64 f) (.array 64 5) (fun _ h => h.2.range0) Try.arr36 rfl (size36 _)
    simp only [Act.put, List.getElem_toArray, List.getElem_cons_zero, List.getElem_cons_succ, List.setIfInBounds_toArray, List.set_cons_zero, List.set_cons_succ]
    refine wpAnyH_take (i := 6) (v := ?_) rfl (by kernel_rfl) (by kernel_rfl) (by kernel_rfl) (fun _ _ _ h => h) (Or.inl ⟨by rfl, ?_⟩) hS0 ?_
    rotate_left 1
    · intro W hW
      go_simp
      try with_reducible rfl
    simp only [Act.put, List.getElem_toArray, List.getElem_cons_zero, List.getElem_cons_succ, List.setIfInBounds_toArray, List.set_cons_zero, List.set_cons_succ]
    refine wpAnyH_ready (rs := [7]) (by kernel_rfl) (by simp) (AllReadyH.cons rfl (fun KK hKK => ?_) AllReadyH.nil)
    refine step_store_mid rfl 50 _ _ rfl b (j * 64) (byts 64 f).toArray rfl rfl (by rw [byts_size]; exact HXd.out.bv.there j hj) (size36' _) (byts_all _ _) ?_
    rw [List.toList_toArray]
    have hk2 : Kp (World.drew w1) ((World.drew w1).setCells b (j * 64) (byts 64 f)) b b := (Kp.refl _ b b).setCells b _ (.inl rfl) _
    have HX2 := Lib.hid (HXd.out.set j hj n HJ2.out f hxb HVA.out)
    have HF2 := Lib.hid (hS0.2.kp hk2 hbb.symm hbb.symm)
    have HK2 := Lib.hid ((Kp.of_below HB1.out b b).trans ((Kp.refl w1 b b).drew.trans hk2))
    obtain ⟨w2, hw2⟩ : ∃ x, (World.drew w1).setCells b (j * 64) (byts 64 f) = x := ⟨_, rfl⟩
    rw [hw2] at HX2 HF2 HK2 ⊢
    clear hS0 hk2 hw2
    refine hKK _ _ ⟨HX2.out.c2, HF2.out⟩ ?_
    intro _
    clear hKK KK
    refine wpAnyH_done (by kernel_rfl) ?_ _
    go_wp2_with fail
    go_ret
    exact ⟨rfl, HX2.out, b, rfl, HK2.out⟩
end Go.Proofs.Ytlbfdmiihnlljaa
