import Derived.Test.YtnfadmifdncjoaaGreatSF
/- GroupPlays: Take. -/
namespace Go.Proofs.YtnfadmifdncjoaaGreat
set_option linter.unusedSimpArgs false
set_option linter.unusedVariables false
open Go.RowKit Go.Maps

noncomputable def c_take : Code := (cE (cR (cE (cR (cE (cR (cE (cR (cE (cR (cE (cR (cB c_sw)))))))))))))
set_option maxHeartbeats 40000000 in
set_option maxRecDepth 200000 in
theorem way_take (F : (Nat → Value) → Act) (hFr : Frm 418 F) (f : Nat → Value) (w6 w : World) (q p t m dd gg mo tk yb nd qa bX i B0 P0 M DA NB N L LM K : Nat) (g : Cf.Ge) (Y X V : Nat → Nat → Int) (T : Nat → Bool) (kind xn xb : Int) (raw : Bool) (hL : NB + 1 = L) (hL5 : NB ≤ 512) (hLM : M + 1 = LM) (hM8 : M ≤ 128) (hK : K < 100000000) (hg : GG g B0 P0 M DA NB N) (hx : Cx w6 q p t m dd gg mo tk yb nd qa bX)
    (hG : Gr w q p t m dd gg i g B0 NB N ⟨[], Y⟩ Y K) (hR : Rl B0 P0 M DA NB Y T X V) (hM : Mo w mo tk yb nd L LM T X V) (hkf : Kf w6 w [dd, gg]) (hA : Vl w qa [.int .u8 kind, .int .i64 xn, .int .u8 xb, .bool raw]) (hF : Fl w bX 64 (fun _ => xb))
    (h14 : f 14 = .pointer (some ⟨mo, 0, none⟩)) (h16 : f 16 = .pointer (some ⟨qa, 0, none⟩)) (h18 : f 18 = .pointer (some ⟨q, 0, none⟩)) (h24 : f 24 = .pointer (some ⟨bX, 0, none⟩))
     (Q : Exit → Act → World → Prop) (hQp : ∀ c a a' w, a'.defers = a.defers → Q (.panic c) a w → Q (.panic c) a' w) (hQ : ∀ f' w', Same f f' → Sw w6 w' q p t m dd gg mo tk yb nd i B0 P0 M DA NB N L LM (K + 700) g → Q .normal (F f') w') : c_take.wp Tryz.prog Q (F f) w := by
  have fa1 := hFr.get
  have fa2 := hFr.put
  have fa3 := hFr.fold
  have fa4 := updA_at
  have fa5 := hFr.defers
  have HFr := Lib.hid hFr
  clear hFr
  have HX := Lib.hid hx
  have HG := Lib.hid hG
  have HR := Lib.hid hR
  have HM := Lib.hid hM
  have HK := Lib.hid hkf
  have HA := Lib.hid hA
  have HF := Lib.hid hF
  have HQ := Lib.hid hQ
  have HQp := Lib.hid hQp
  have Hg := Lib.hid hg
  have HL := Lib.hid hL
  have HLM := Lib.hid hLM
  have HKK := Lib.hid hK
  clear hx hG hR hM hkf hA hF hQ hQp hg hL hLM hK
  conv => arg 2; whnf
  obtain ⟨v0, hv0⟩ := Fr_ex T L
  rcases id hv0 with ⟨hv1, hall⟩ | ⟨j, hjL, hv1, hTj, hbel⟩
  · have hF : ∀ c, c < NB → bt Y B0 c = true := fun c hc => by rw [← HR.out.t c hc]; exact hall (c + 1) (by have := HL.out; omega)
    have HF1 := Lib.hid hF
    have HV0 := Lib.hid hv0
    clear hF hall hv0
    (go_wp2_with fail); repeat ((first | (refine HFr.out.cond_t (by decide) (updA_same _ _ _) ?_) | (refine HFr.out.cond_f (by decide) (updA_same _ _ _) ?_)); (go_wp2_with fail))
    refine (gtake_none q p t m dd gg i B0 P0 M DA NB N K g Y HF1.out (by have := HKK.out; omega) Hg.out w HG.out).mono ?_
    rintro e w' ⟨rfl, hG', hk⟩
    have HG' := Lib.hid hG'
    have Hk := Lib.hid hk
    have HM' := Lib.hid (HM.out.kf hk HX.out.ne)
    clear hG' hk
    (go_wp2_with fail); repeat ((first | (refine HFr.out.cond_t (by decide) (updA_same _ _ _) ?_) | (refine HFr.out.cond_f (by decide) (updA_same _ _ _) ?_)); (go_wp2_with fail))
    refine (mfree_any mo tk yb nd L LM (by have := HL.out; omega) T X V w' HM'.out).mono ?_
    rintro e w2 ⟨v, rfl, hFr, hw2⟩
    obtain rfl : w' = w2 := hw2.symm
    obtain rfl : v = -1 := (Fr_uniq hFr HV0.out).trans hv1
    clear hFr
    (go_wp2_with fail); repeat ((first | (refine HFr.out.cond_t (by decide) (updA_same _ _ _) ?_) | (refine HFr.out.cond_f (by decide) (updA_same _ _ _) ?_)); (go_wp2_with fail))
    refine hend (P := fun _ w' => Sw w6 w' q p t m dd gg mo tk yb nd i B0 P0 M DA NB N L LM (K + 700) g) HQ.out trivial (by unfold Same; simp [updA_at]) (Sw.kf HX.out (HG'.out.mono (Lm.le_refl _) (by omega)) (by simp) HR.out HM.out HK.out Hk.out)
  · have hj0 : j ≠ 0 := fun e => by rw [e, HR.out.t0] at hTj; cases hTj
    have HJ1 : Hid (j - 1 < NB ∧ j - 1 + 1 = j) := Lib.hid (by have := HL.out; omega)
    have hF : Fr (bt Y B0) NB ((j - 1 : Nat) : Int) := .inr ⟨j - 1, HJ1.out.1, rfl, by rw [← HR.out.t _ HJ1.out.1, HJ1.out.2]; exact hTj, fun c hc => by rw [← HR.out.t c (by have := HJ1.out.1; omega)]; exact hbel (c + 1) (by omega)⟩
    have HF1 := Lib.hid hF
    have HV0 := Lib.hid hv0
    have HJL := Lib.hid hjL
    have HTj := Lib.hid hTj
    have hi1 : (j : Int) < L := by omega
    have hi2 : (L : Int) ≤ 513 := by have := HL.out; omega
    have HJ0 := Lib.hid hj0
    have hnl : ¬ ((j : Int) < 0) := by omega
    clear hF hbel hTj hv0 hj0 hjL
    (go_wp2_with fail); repeat ((first | (refine HFr.out.cond_t (by decide) (updA_same _ _ _) ?_) | (refine HFr.out.cond_f (by decide) (updA_same _ _ _) ?_)); (go_wp2_with fail))
    refine (gtake7 q p t m dd gg i B0 P0 M DA NB N K g Y (j - 1) (j : Int) (by have h1 := HJ1.out.2; omega) HJ1.out.1 HF1.out (Has.of (L := ⟨[B0, DA + (j - 1)], Y⟩) (by simp) (by simp)) (Has.of (L := ⟨[B0, DA + (j - 1)], Y⟩) (by simp) (by simp)) (by have := HKK.out; omega) Hg.out w (HG.out.mono (Lm.nil_le [B0, DA + (j - 1)] Y) (Nat.le_refl _))).mono ?_
    rintro e w' ⟨rfl, hG', hk⟩
    have HG' := Lib.hid hG'
    have HM' := Lib.hid (HM.out.kf hk HX.out.ne)
    have HK' := Lib.hid (HK.out.tx hk HX.out.s5 HX.out.s6)
    clear hG' hk
    (go_wp2_with fail); repeat ((first | (refine HFr.out.cond_t (by decide) (updA_same _ _ _) ?_) | (refine HFr.out.cond_f (by decide) (updA_same _ _ _) ?_)); (go_wp2_with fail))
    refine (mfree_any mo tk yb nd L LM (by have := HL.out; omega) T X V w' HM'.out).mono ?_
    rintro e w2 ⟨v, rfl, hFr, hw2⟩
    obtain rfl : w' = w2 := hw2.symm
    obtain rfl : v = (j : Int) := (Fr_uniq hFr HV0.out).trans hv1
    clear hFr
    have HB0 := Lib.hid build36z
    obtain ⟨ZB, hzb⟩ : ∃ c : Array Value, (byts 64 fun _ => 0).toArray = c := ⟨_, rfl⟩
    have HZB := Lib.hid hzb
    clear hzb
    (go_wp2_with fail); repeat ((first | (refine HFr.out.cond_t (by decide) (updA_same _ _ _) ?_) | (refine HFr.out.cond_f (by decide) (updA_same _ _ _) ?_)); (go_wp2_with fail))
    refine wp_region_held (S := fun W => Vl W mo [.slice (some ⟨tk, 0, none⟩) L L, .slice (some ⟨yb, 0, none⟩) L L, .slice (some ⟨nd, 0, none⟩) LM LM]) (by kernel_rfl) ?_
    change wpAnyH _ _ _ _ _ _ _ _ (World.drew w')
    have hS0 : (fun W => Vl W mo [.slice (some ⟨tk, 0, none⟩) L L, .slice (some ⟨yb, 0, none⟩) L L, .slice (some ⟨nd, 0, none⟩) LM LM]) (World.drew w') := HM'.out.m.keep (Below.refl _ _).drew
    have HMD := Lib.hid (HM'.out.keep (Below.refl w'.heap.size w').drew)
    have HGD := Lib.hid (HG'.out.keep (Below.refl w'.heap.size w').drew)
    have HKD := Lib.hid (HK'.out.more (Below.refl w'.heap.size w').drew)
    obtain ⟨wd, hwd⟩ : ∃ x, World.drew w' = x := ⟨_, rfl⟩
    rw [hwd] at hS0 HMD HGD HKD ⊢
    clear hwd
    refine wpAnyH_take (i := 0) (v := ?_) rfl (by kernel_rfl) (by kernel_rfl) (by kernel_rfl) (fun _ a _ h => HQp.out _ _ _ _ (put_defers a _ _).symm h) (Or.inl ⟨by rfl, ?_⟩) hS0 ?_
    rotate_left 1
    · intro W hW
      go_simp
      try with_reducible rfl
    simp only [List.getElem_toArray, List.getElem_cons_zero, List.getElem_cons_succ, fa2, put_none]
    refine wpAnyH_take (i := 1) (v := ?_) rfl (by kernel_rfl) (by kernel_rfl) (by kernel_rfl) (fun _ a _ h => HQp.out _ _ _ _ (put_defers a _ _).symm h) (Or.inl ⟨by rfl, ?_⟩) hS0 ?_
    rotate_left 1
    · intro W hW
      go_simp
      try with_reducible rfl
    simp only [List.getElem_toArray, List.getElem_cons_zero, List.getElem_cons_succ, fa2, put_none]
    refine wpAnyH_take (i := 2) (v := ?_) rfl (by kernel_rfl) (by kernel_rfl) (by kernel_rfl) (fun _ a _ h => HQp.out _ _ _ _ (put_defers a _ _).symm h) (Or.inl ⟨by rfl, ?_⟩) hS0 ?_
    rotate_left 1
    · intro W hW
      go_simp
      try with_reducible rfl
    simp only [List.getElem_toArray, List.getElem_cons_zero, List.getElem_cons_succ, fa2, put_none]
    refine wpAnyH_take (i := 3) (v := ?_) rfl (by kernel_rfl) (by kernel_rfl) (by kernel_rfl) (fun _ a _ h => HQp.out _ _ _ _ (put_defers a _ _).symm h) (Or.inl ⟨by rfl, ?_⟩) hS0 ?_
    rotate_left 1
    · intro W hW
      have c0 := hW.c 0 _ rfl
      go_simp
      try with_reducible rfl
    simp only [List.getElem_toArray, List.getElem_cons_zero, List.getElem_cons_succ, fa2, put_none]
    refine wpAnyH_take (i := 4) (v := ?_) rfl (by kernel_rfl) (by kernel_rfl) (by kernel_rfl) (fun _ a _ h => HQp.out _ _ _ _ (put_defers a _ _).symm h) (Or.inl ⟨by rfl, ?_⟩) hS0 ?_
    rotate_left 1
    · intro W hW
      go_simp
      try with_reducible rfl
    simp only [List.getElem_toArray, List.getElem_cons_zero, List.getElem_cons_succ, fa2, put_none]
    refine wpAnyH_take (i := 5) (v := ?_) rfl (by kernel_rfl) (by kernel_rfl) (by kernel_rfl) (fun _ a _ h => HQp.out _ _ _ _ (put_defers a _ _).symm h) (Or.inl ⟨by rfl, ?_⟩) hS0 ?_
    rotate_left 1
    · intro W hW
      go_simp
      try with_reducible rfl
    simp only [List.getElem_toArray, List.getElem_cons_zero, List.getElem_cons_succ, fa2, put_none]
    refine wpAnyH_take (i := 6) (v := ?_) rfl (by kernel_rfl) (by kernel_rfl) (by kernel_rfl) (fun _ a _ h => HQp.out _ _ _ _ (put_defers a _ _).symm h) (Or.inl ⟨by rfl, ?_⟩) hS0 ?_
    rotate_left 1
    · intro W hW
      go_simp
      try with_reducible rfl
    simp only [List.getElem_toArray, List.getElem_cons_zero, List.getElem_cons_succ, fa2, put_none]
    refine wpAnyH_take (i := 7) (v := ?_) rfl (by kernel_rfl) (by kernel_rfl) (by kernel_rfl) (fun _ a _ h => HQp.out _ _ _ _ (put_defers a _ _).symm h) (Or.inl ⟨by rfl, ?_⟩) hS0 ?_
    rotate_left 1
    · intro W hW
      go_simp
      try with_reducible rfl
    simp only [List.getElem_toArray, List.getElem_cons_zero, List.getElem_cons_succ, fa2, put_none]
    refine wpAnyH_take (i := 8) (v := ?_) rfl (by kernel_rfl) (by kernel_rfl) (by kernel_rfl) (fun _ a _ h => HQp.out _ _ _ _ (put_defers a _ _).symm h) (Or.inl ⟨by rfl, ?_⟩) hS0 ?_
    rotate_left 1
    · intro W hW
      have c0 := hW.c 1 _ rfl
      go_simp
      try with_reducible rfl
    simp only [List.getElem_toArray, List.getElem_cons_zero, List.getElem_cons_succ, fa2, put_none]
    refine wpAnyH_take (i := 9) (v := ?_) rfl (by kernel_rfl) (by kernel_rfl) (by kernel_rfl) (fun _ a _ h => HQp.out _ _ _ _ (put_defers a _ _).symm h) (Or.inl ⟨by rfl, ?_⟩) hS0 ?_
    rotate_left 1
    · intro W hW
      go_simp
      try with_reducible rfl
    simp only [List.getElem_toArray, List.getElem_cons_zero, List.getElem_cons_succ, fa2, put_none]
    refine wpAnyH_take (i := 10) (v := .agg ZB) rfl (by kernel_rfl) (by kernel_rfl) (by kernel_rfl) (fun _ a _ h => HQp.out _ _ _ _ (put_defers a _ _).symm h) ?_ hS0 ?_
    · exact Or.inl ⟨by rfl, fun W hW => by rw [← HZB.out]; go_simp; rfl⟩
    simp only [List.getElem_toArray, List.getElem_cons_zero, List.getElem_cons_succ, fa2, put_none]
    refine wpAnyH_take (i := 11) (v := ?_) rfl (by kernel_rfl) (by kernel_rfl) (by kernel_rfl) (fun _ a _ h => HQp.out _ _ _ _ (put_defers a _ _).symm h) (Or.inl ⟨by rfl, ?_⟩) hS0 ?_
    rotate_left 1
    · intro W hW
      go_simp
      try with_reducible rfl
    simp only [List.getElem_toArray, List.getElem_cons_zero, List.getElem_cons_succ, fa2, put_none]
    refine wpAnyH_ready (rs := [12]) (by kernel_rfl) (by simp) (AllReadyH.cons rfl (fun KK hKK => ?_) AllReadyH.nil)
    have hMd := HMD.out
    have ct := hMd.t.c j HJL.out
    have zt := hMd.t.z j HJL.out
    go_simp
    have hkp : Kp wd (wd.setCell ⟨tk, j, none⟩ (.bool true)) tk tk := (Kp.refl wd tk tk).setCell (p := ⟨tk, j, none⟩) (.inl rfl) _
    have hM2 := hMd.setT HX.out.mx j HJL.out true
    have hG2 := HGD.out.kp hkp (HX.out.nq tk (by simp))
    have hK2 := HKD.out.new hkp HX.out.s2
    have HM2 := Lib.hid hM2
    have HG2 := Lib.hid hG2
    have HK2 := Lib.hid hK2
    obtain ⟨wt, hwt⟩ : ∃ x, wd.setCell ⟨tk, j, none⟩ (.bool true) = x := ⟨_, rfl⟩
    rw [hwt] at HM2 HG2 HK2
    try rw [hwt]
    refine hKK _ _ (show (fun W => Vl W mo [.slice (some ⟨tk, 0, none⟩) L L, .slice (some ⟨yb, 0, none⟩) L L, .slice (some ⟨nd, 0, none⟩) LM LM]) wt from HM2.out.m) ?_
    intro _
    clear hKK KK hS0 hMd ct zt hkp hM2 hG2 hK2 hwt
    have hS0 : (fun W => Vl W mo [.slice (some ⟨tk, 0, none⟩) L L, .slice (some ⟨yb, 0, none⟩) L L, .slice (some ⟨nd, 0, none⟩) LM LM]) wt := HM2.out.m
    try simp only [List.getElem_toArray, List.getElem_cons_zero, List.getElem_cons_succ, fa2, put_none]
    refine wpAnyH_take (i := 13) (v := ?_) rfl (by kernel_rfl) (by kernel_rfl) (by kernel_rfl) (fun _ a _ h => HQp.out _ _ _ _ (put_defers a _ _).symm h) (Or.inl ⟨by rfl, ?_⟩) hS0 ?_
    rotate_left 1
    · intro W hW
      go_simp
      try with_reducible rfl
    simp only [List.getElem_toArray, List.getElem_cons_zero, List.getElem_cons_succ, fa2, put_none]
    refine wpAnyH_ready (rs := [14]) (by kernel_rfl) (by simp) (AllReadyH.cons rfl (fun KK hKK => ?_) AllReadyH.nil)
    obtain ⟨FF, hFF, -⟩ := HM2.out.b
    have hkp : Kp wt (wt.setCells yb (j * 64) (byts 64 fun _ => 0)) yb yb := (Kp.refl wt yb yb).setCells yb (j * 64) (.inl rfl) _
    refine step_store_mid rfl 59 (.tmp 190) (.tmp 188) rfl yb (j * 64) ZB (by rw [HFr.out.eval _ _ (by decide)]; simp [updA_at]) (by rw [HFr.out.eval _ _ (by decide)]; simp [updA_at]) (by rw [← HZB.out, byts_size]; exact hFF.there (j * 64) 64 (by have := HJL.out; omega)) (by rw [← HZB.out]; exact size36' _) (by rw [← HZB.out]; exact byts_all _ _) ?_
    have hM3 := HM2.out.setX HX.out.mx j HJL.out (fun _ => 0)
    have hG3 := HG2.out.kp hkp (HX.out.nq yb (by simp))
    have hS1 : (fun W => Vl W mo [.slice (some ⟨tk, 0, none⟩) L L, .slice (some ⟨yb, 0, none⟩) L L, .slice (some ⟨nd, 0, none⟩) LM LM]) (wt.setCells yb (j * 64) ZB.toList) := by
      rw [← HZB.out, List.toList_toArray]
      exact hM3.m
    refine hKK _ _ hS1 ?_
    rw [show ZB.toList = byts 64 fun _ => 0 from by rw [← HZB.out, List.toList_toArray]]
    intro _
    clear hKK KK hS1 hS0
    try simp only [List.getElem_toArray, List.getElem_cons_zero, List.getElem_cons_succ, fa2, put_none]
    refine wpAnyH_done (by kernel_rfl) ?_ _
    have hpu := HR.out.take Hg.out HG.out.rd.vb (j - 1) HJ1.out.1
    rw [HJ1.out.2] at hpu
    have HE : Hid (Sw w6 (wt.setCells yb (j * 64) (byts 64 fun _ => 0)) q p t m dd gg mo tk yb nd i B0 P0 M DA NB N L LM (K + 700) g) := Lib.hid ⟨⟨_, _, _, V, ⟨[B0, DA + (j - 1)], Y⟩, hG3.mono (Lm.le_refl _) (by omega), by simp, hpu, hM3⟩, HK2.out.new hkp HX.out.s3⟩
    clear hpu hM3 hG3 hFF hkp
    obtain ⟨wz, hwz⟩ : ∃ x, wt.setCells yb (j * 64) (byts 64 fun _ => 0) = x := ⟨_, rfl⟩
    rw [hwz] at HE ⊢
    clear hwz
    (go_wp2_with fail); repeat ((first | (refine HFr.out.cond_t (by decide) (updA_same _ _ _) ?_) | (refine HFr.out.cond_f (by decide) (updA_same _ _ _) ?_)); (go_wp2_with fail))
    refine hend (P := fun _ w' => Sw w6 w' q p t m dd gg mo tk yb nd i B0 P0 M DA NB N L LM (K + 700) g) HQ.out trivial (by unfold Same; simp [updA_at]) HE.out
end Go.Proofs.YtnfadmifdncjoaaGreat
