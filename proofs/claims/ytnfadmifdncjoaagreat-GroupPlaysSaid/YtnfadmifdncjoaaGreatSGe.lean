import Derived.Test.YtnfadmifdncjoaaGreatSF
/- GroupPlays: Set. -/
namespace Go.Proofs.YtnfadmifdncjoaaGreat
set_option linter.unusedSimpArgs false
set_option linter.unusedVariables false
open Go.RowKit Go.Maps

noncomputable def c_set : Code := (cT (cR (cE (cR (cE (cR (cE (cR (cE (cR (cE (cR (cB c_sw)))))))))))))
set_option maxHeartbeats 40000000 in
set_option maxRecDepth 200000 in
theorem way_set (F : (Nat → Value) → Act) (hFr : Frm 418 F) (f : Nat → Value) (w6 w : World) (q p t m dd gg mo tk yb nd qa bX i B0 P0 M DA NB N L LM K : Nat) (g : Cf.Ge) (Y X V : Nat → Nat → Int) (T : Nat → Bool) (kind xn xb : Int) (raw : Bool) (hL : NB + 1 = L) (hL5 : NB ≤ 512) (hLM : M + 1 = LM) (hM8 : M ≤ 128) (hK : K < 100000000) (hg : GG g B0 P0 M DA NB N) (hx : Cx w6 q p t m dd gg mo tk yb nd qa bX)
    (hG : Gr w q p t m dd gg i g B0 NB N ⟨[], Y⟩ Y K) (hR : Rl B0 P0 M DA NB Y T X V) (hM : Mo w mo tk yb nd L LM T X V) (hkf : Kf w6 w [dd, gg]) (hA : Vl w qa [.int .u8 kind, .int .i64 xn, .int .u8 xb, .bool raw]) (hF : Fl w bX 64 (fun _ => xb))
    (h14 : f 14 = .pointer (some ⟨mo, 0, none⟩)) (h16 : f 16 = .pointer (some ⟨qa, 0, none⟩)) (h18 : f 18 = .pointer (some ⟨q, 0, none⟩)) (h24 : f 24 = .pointer (some ⟨bX, 0, none⟩))
    (x : Int) (bn : Bool) (h20 : f 20 = .int .i64 x) (h22 : f 22 = .bool bn) (hbt : bn = true → 1 ≤ x ∧ x ≤ M) (hbf : bn = false → ¬ (1 ≤ x ∧ x ≤ M)) (hxb : 0 ≤ xb ∧ xb < 256) (Q : Exit → Act → World → Prop) (hQp : ∀ c a a' w, a'.defers = a.defers → Q (.panic c) a w → Q (.panic c) a' w) (hQ : ∀ f' w', Same f f' → Sw w6 w' q p t m dd gg mo tk yb nd i B0 P0 M DA NB N L LM (K + 700) g → Q .normal (F f') w') : c_set.wp Tryz.prog Q (F f) w := by
  have fa1 := hFr.get
  have fa2 := hFr.put
  have fa3 := hFr.fold
  have fa4 := updA_at
  have fa5 := hFr.defers
  have HFr := Lib.hid hFr
  clear hFr
  have HX := Lib.hid hx
  have HG := Lib.hid hG
  have HR := Lib.hid hR
  have HM := Lib.hid hM
  have HK := Lib.hid hkf
  have HA := Lib.hid hA
  have HF := Lib.hid hF
  have HQ := Lib.hid hQ
  have HQp := Lib.hid hQp
  have Hg := Lib.hid hg
  have HL := Lib.hid hL
  have HLM := Lib.hid hLM
  have HKK := Lib.hid hK
  clear hx hG hR hM hkf hA hF hQ hQp hg hL hLM hK
  conv => arg 2; whnf
  obtain ⟨hxb0, hxb1⟩ := hxb
  have HXB := Lib.hid (show 0 ≤ xb ∧ xb < 256 from ⟨hxb0, hxb1⟩)
  obtain ⟨d27, hu, hd⟩ := Tryz.desc27
  have HU := Lib.hid hu
  have HD := Lib.hid hd
  clear hu hd
  have a2 := HA.out.c 2 _ rfl
  obtain ⟨NC, hnc⟩ : ∃ c : Array Value, (ndc (nsF xb)).toArray = c := ⟨_, rfl⟩
  have HNC := Lib.hid hnc
  clear hnc
  go_upto_region 86 with (first | (refine wpList_alloc_list (w := w) rfl 68 rfl (ndc zpt) Tryz.zero27 ?_; intro w4 F4 hb4 hz4; have HQ4 := Lib.hid hb4; clear hb4 hz4) | (refine wpList_store_mid rfl 68 (.tmp 36) (.tmp 385) rfl w.heap.size 0 NC ?_ ?_ ?_ ?_ ?_ ?_))
  · exact HNC.out
  · rw [← HNC.out]; exact F4.out.there0 _ rfl
  · rw [← HNC.out]; exact size27' _
  · rw [← HNC.out]; exact all_oneCell_toArray (ndc_one _)
  have hb5 : Below w.heap.size w (w4.setCells w.heap.size 0 NC.toList) := below_setCells HQ4.out _ _ (Nat.le_refl _) _
  have hF5 : Vl (w4.setCells w.heap.size 0 NC.toList) w.heap.size (ndc (nsF xb)) := by
    have h := F4.out.stored (ndc (nsF xb)) rfl
    rw [← HNC.out, List.toList_toArray]; exact h
  have hnd := HM.out.lts.2.2.2
  have hG5 := HG.out.keep hb5
  have hM5 := HM.out.keep hb5
  have hK5 := HK.out.more hb5
  have hA5 := HA.out.keep hb5
  have hN5 : w.heap.size ∉ [t, m, dd, gg] := fun hm => HG.out.notin (Nat.le_refl _) (by
    simp only [List.mem_cons, List.not_mem_nil, or_false] at hm ⊢
    rcases hm with h | h | h | h <;> simp [h])
  obtain ⟨b36, hb36⟩ : ∃ x, w.heap.size = x := ⟨_, rfl⟩
  rw [hb36] at hF5 hnd hG5 hM5 hK5 hA5 hN5
  try rw [hb36]
  obtain ⟨w5, hw5⟩ : ∃ x, w4.setCells b36 0 NC.toList = x := ⟨_, rfl⟩
  rw [hw5] at hF5 hG5 hM5 hK5 hA5
  try rw [hw5]
  have HF5 := Lib.hid hF5
  have HG5 := Lib.hid hG5
  have HM5 := Lib.hid hM5
  have HK5 := Lib.hid hK5
  have HA5 := Lib.hid hA5
  have HN5 := Lib.hid hN5
  have HND := Lib.hid hnd
  clear hb5 hF5 hnd hG5 hM5 hK5 hA5 hN5 hw5 hb36 HQ4 F4 HNC a2
  cases bn
  · have hno := hbf rfl
    have hno' := Lib.hid hno
    clear hbt hbf hno
    go_wp2_with (refine wpList_load_mid rfl 68 _ rfl b36 0 ?_ (ndc (nsF xb)) d27 HF5.out.range0 HU.out HD.out (size27 _) ?_)
    all_goals try (rw [HFr.out.eval _ _ (by decide)]; simp [updA_at]; done)
    refine (gset_out q p t m dd gg i B0 P0 M DA NB N K g Y (nsF xb) x hno'.out Hg.out w5 HG5.out).mono ?_
    rintro e w' ⟨rfl, hb⟩
    have Hb := Lib.hid hb
    clear hb
    (go_wp2_with fail); repeat ((first | (refine HFr.out.cond_t (by decide) (updA_same _ _ _) ?_) | (refine HFr.out.cond_f (by decide) (updA_same _ _ _) ?_)); (go_wp2_with fail))
    refine hend (P := fun _ w' => Sw w6 w' q p t m dd gg mo tk yb nd i B0 P0 M DA NB N L LM (K + 700) g) HQ.out trivial (by unfold Same; simp [updA_at]) ((Sw.keep HG5.out (by simp) HR.out HM5.out HK5.out Hb.out).mono (by omega))
  · have hskip : True := trivial
    obtain ⟨hx1, hx2⟩ := hbt rfl
    obtain ⟨n, rfl⟩ := Int.eq_ofNat_of_zero_le (show 0 ≤ x by omega)
    have HN1 : Hid (1 ≤ n) := Lib.hid (by omega)
    have HN2 : Hid (n ≤ M) := Lib.hid (by omega)
    have HJL : Hid (n < LM) := Lib.hid (by have := HLM.out; omega)
    have hi1 : (n : Int) < LM := by have := HLM.out; omega
    clear hbt hbf hx1 hx2
    by_cases hz : 0 < xb
    · go_wp2_with (refine wpList_load_mid rfl 68 _ rfl b36 0 ?_ (ndc (nsF xb)) d27 HF5.out.range0 HU.out HD.out (size27 _) ?_)
      all_goals try (rw [HFr.out.eval _ _ (by decide)]; simp [updA_at]; done)
      refine (gset_in q p t m dd gg i B0 P0 M DA NB N K g Y (nsF xb) (nsF_ok HXB.out) (nsF_code hz) n HN1.out HN2.out (Has.of (L := ⟨[P0 + (n - 1) / 2], Y⟩) (by simp) (by simp)) (by have := HKK.out; omega) Hg.out w5 (HG5.out.mono (Lm.nil_le [P0 + (n - 1) / 2] Y) (Nat.le_refl _))).mono ?_
      rintro e w' ⟨rfl, hG', hk⟩
      have HG' := Lib.hid hG'
      have HM' := Lib.hid (HM5.out.kf hk HX.out.ne)
      have HK' := Lib.hid (HK5.out.tx hk HX.out.s5 HX.out.s6)
      have HF' := Lib.hid (HF5.out.kf hk HN5.out)
      have HA' := Lib.hid (HA5.out.kf hk (HX.out.n4 qa (by simp)))
      clear hG' hk
      have a2 := HA'.out.c 2 _ rfl
      (go_wp2_with fail); repeat ((first | (refine HFr.out.cond_t (by decide) (updA_same _ _ _) ?_) | (refine HFr.out.cond_f (by decide) (updA_same _ _ _) ?_)); (go_wp2_with fail))
      clear a2
      refine wp_region_held (S := fun W => Vl W mo [.slice (some ⟨tk, 0, none⟩) L L, .slice (some ⟨yb, 0, none⟩) L L, .slice (some ⟨nd, 0, none⟩) LM LM] ∧ Vl W b36 (ndc (nsF xb))) (by kernel_rfl) ?_
      change wpAnyH _ _ _ _ _ _ _ _ (World.drew w')
      have hS0 : (fun W => Vl W mo [.slice (some ⟨tk, 0, none⟩) L L, .slice (some ⟨yb, 0, none⟩) L L, .slice (some ⟨nd, 0, none⟩) LM LM] ∧ Vl W b36 (ndc (nsF xb))) (World.drew w') := ⟨HM'.out.m.keep (Below.refl _ _).drew, HF'.out.keep (Below.refl _ _).drew⟩
      refine wpAnyH_take (i := 0) (v := ?_) rfl (by kernel_rfl) (by kernel_rfl) (by kernel_rfl) (fun _ a _ h => HQp.out _ _ _ _ (put_defers a _ _).symm h) (Or.inl ⟨by rfl, ?_⟩) hS0 ?_
      rotate_left 1
      · intro W hW
        go_simp
        try with_reducible rfl
      simp only [List.getElem_toArray, List.getElem_cons_zero, List.getElem_cons_succ, fa2, put_none]
      refine wpAnyH_take (i := 1) (v := ?_) rfl (by kernel_rfl) (by kernel_rfl) (by kernel_rfl) (fun _ a _ h => HQp.out _ _ _ _ (put_defers a _ _).symm h) (Or.inl ⟨by rfl, ?_⟩) hS0 ?_
      rotate_left 1
      · intro W hW
        go_simp
        try with_reducible rfl
      simp only [List.getElem_toArray, List.getElem_cons_zero, List.getElem_cons_succ, fa2, put_none]
      refine wpAnyH_take (i := 2) (v := ?_) rfl (by kernel_rfl) (by kernel_rfl) (by kernel_rfl) (fun _ a _ h => HQp.out _ _ _ _ (put_defers a _ _).symm h) (Or.inl ⟨by rfl, ?_⟩) hS0 ?_
      rotate_left 1
      · intro W hW
        go_simp
        try with_reducible rfl
      simp only [List.getElem_toArray, List.getElem_cons_zero, List.getElem_cons_succ, fa2, put_none]
      refine wpAnyH_take (i := 3) (v := ?_) rfl (by kernel_rfl) (by kernel_rfl) (by kernel_rfl) (fun _ a _ h => HQp.out _ _ _ _ (put_defers a _ _).symm h) (Or.inl ⟨by rfl, ?_⟩) hS0 ?_
      rotate_left 1
      · intro W hW
        have c0 := hW.1.c 2 _ rfl
        go_simp
        try with_reducible rfl
      simp only [List.getElem_toArray, List.getElem_cons_zero, List.getElem_cons_succ, fa2, put_none]
      refine wpAnyH_take (i := 4) (v := ?_) rfl (by kernel_rfl) (by kernel_rfl) (by kernel_rfl) (fun _ a _ h => HQp.out _ _ _ _ (put_defers a _ _).symm h) (Or.inl ⟨by rfl, ?_⟩) hS0 ?_
      rotate_left 1
      · intro W hW
        go_simp
        try with_reducible rfl
      simp only [List.getElem_toArray, List.getElem_cons_zero, List.getElem_cons_succ, fa2, put_none]
      refine wpAnyH_take (i := 5) (v := .agg (ndc (nsF xb)).toArray) rfl (by kernel_rfl) (by kernel_rfl) (by kernel_rfl) (fun _ a _ h => HQp.out _ _ _ _ (put_defers a _ _).symm h) ?_ hS0 ?_
      · exact yieldsIf_load_mid (by rfl) 68 _ rfl b36 0 (by rw [HFr.out.eval _ _ (by decide)]; simp [updA_at]) (ndc (nsF xb)) d27 (fun _ h => h.2.range0) HU.out HD.out (size27 _)
      simp only [List.getElem_toArray, List.getElem_cons_zero, List.getElem_cons_succ, fa2, put_none]
      refine wpAnyH_take (i := 6) (v := ?_) rfl (by kernel_rfl) (by kernel_rfl) (by kernel_rfl) (fun _ a _ h => HQp.out _ _ _ _ (put_defers a _ _).symm h) (Or.inl ⟨by rfl, ?_⟩) hS0 ?_
      rotate_left 1
      · intro W hW
        go_simp
        try with_reducible rfl
      simp only [List.getElem_toArray, List.getElem_cons_zero, List.getElem_cons_succ, fa2, put_none]
      refine wpAnyH_ready (rs := [7]) (by kernel_rfl) (by simp) (AllReadyH.cons rfl (fun KK hKK => ?_) AllReadyH.nil)
      have hMd := HM'.out.keep (Below.refl _ _).drew
      have hkp : Kp w' (w'.drew.setCells nd (n * 12) (ndc (nsF xb))) nd nd := ((Kp.refl w' nd nd).drew).setCells nd (n * 12) (.inl rfl) _
      refine step_store_mid rfl 68 (.tmp 407) (.tmp 406) rfl nd (n * 12) (ndc (nsF xb)).toArray (by rw [HFr.out.eval _ _ (by decide)]; simp [updA_at]) (by rw [HFr.out.eval _ _ (by decide)]; simp [updA_at]) (hMd.n.there n HJL.out) (size27' _) (all_oneCell_toArray (ndc_one _)) ?_
      have hM2 := hMd.setN HX.out.mx n HJL.out (nsF xb)
      have hG2 := HG'.out.kp hkp (HX.out.nq nd (by simp))
      have hS1 : (fun W => Vl W mo [.slice (some ⟨tk, 0, none⟩) L L, .slice (some ⟨yb, 0, none⟩) L L, .slice (some ⟨nd, 0, none⟩) LM LM] ∧ Vl W b36 (ndc (nsF xb))) (w'.drew.setCells nd (n * 12) (ndc (nsF xb)).toArray.toList) := by
        rw [List.toList_toArray]
        exact ⟨hM2.m, HF'.out.kp hkp (by have := HND.out; omega) (by have := HND.out; omega)⟩
      refine hKK _ _ hS1 ?_
      rw [List.toList_toArray]
      intro _
      clear hKK KK hS1 hS0
      try simp only [List.getElem_toArray, List.getElem_cons_zero, List.getElem_cons_succ, fa2, put_none]
      refine wpAnyH_done (by kernel_rfl) ?_ _
      have hpu := HR.out.node Hg.out n HN1.out HN2.out (nsF xb) (nsF_ok HXB.out) (nsF_code hz)
      have HE : Hid (Sw w6 (w'.drew.setCells nd (n * 12) (ndc (nsF xb))) q p t m dd gg mo tk yb nd i B0 P0 M DA NB N L LM (K + 700) g) := Lib.hid ⟨⟨_, T, X, _, ⟨[P0 + (n - 1) / 2], Y⟩, hG2.mono (Lm.le_refl _) (by omega), by simp, hpu, hM2⟩, HK'.out.new hkp HX.out.s4⟩
      clear hpu hM2 hG2 hMd hkp
      obtain ⟨wz, hwz⟩ : ∃ x, w'.drew.setCells nd (n * 12) (ndc (nsF xb)) = x := ⟨_, rfl⟩
      rw [hwz] at HE ⊢
      clear hwz
      (go_wp2_with fail); repeat ((first | (refine HFr.out.cond_t (by decide) (updA_same _ _ _) ?_) | (refine HFr.out.cond_f (by decide) (updA_same _ _ _) ?_)); (go_wp2_with fail))
      refine hend (P := fun _ w' => Sw w6 w' q p t m dd gg mo tk yb nd i B0 P0 M DA NB N L LM (K + 700) g) HQ.out trivial (by unfold Same; simp [updA_at]) HE.out
    · have hz0 : xb = 0 := by omega
      have hzd : decide (0 < xb) = false := decide_eq_false hz
      have hne : codeN (nsF xb) ≠ 0 := by rw [hz0]; exact nsF_bad
      have HNE := Lib.hid hne
      clear hz0 hne
      go_wp2_with (refine wpList_load_mid rfl 68 _ rfl b36 0 ?_ (ndc (nsF xb)) d27 HF5.out.range0 HU.out HD.out (size27 _) ?_)
      all_goals try (rw [HFr.out.eval _ _ (by decide)]; simp [updA_at]; done)
      refine (gset_bad q p t m dd gg i B0 P0 M DA NB N K g Y (nsF xb) (nsF_ok HXB.out) HNE.out n ⟨by have := HN1.out; omega, by have := HN2.out; omega⟩ Hg.out w5 HG5.out).mono ?_
      rintro e w' ⟨rfl, hb⟩
      have Hb := Lib.hid hb
      have HA' := Lib.hid (HA5.out.keep hb)
      clear hb
      obtain ⟨E, hE⟩ : ∃ x, codeN (nsF xb) = x := ⟨_, rfl⟩
      have hE0 := HNE.out
      rw [hE] at hE0 ⊢
      have hE1 : (E == 0) = false := beq_eq_false_iff_ne.2 hE0
      clear hE HNE
      have a2 := HA'.out.c 2 _ rfl
      (go_wp2_with fail); repeat ((first | (refine HFr.out.cond_t (by decide) (updA_same _ _ _) ?_) | (refine HFr.out.cond_f (by decide) (updA_same _ _ _) ?_)); (go_wp2_with fail))
      refine hend (P := fun _ w' => Sw w6 w' q p t m dd gg mo tk yb nd i B0 P0 M DA NB N L LM (K + 700) g) HQ.out trivial (by unfold Same; simp [updA_at]) ((Sw.keep HG5.out (by simp) HR.out HM5.out HK5.out Hb.out).mono (by omega))
end Go.Proofs.YtnfadmifdncjoaaGreat
