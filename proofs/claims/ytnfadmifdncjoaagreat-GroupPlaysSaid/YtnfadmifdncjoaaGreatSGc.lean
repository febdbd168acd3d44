import Derived.Test.YtnfadmifdncjoaaGreatSF
/- GroupPlays: Wipe. -/
namespace Go.Proofs.YtnfadmifdncjoaaGreat
set_option linter.unusedSimpArgs false
set_option linter.unusedVariables false
open Go.RowKit Go.Maps

noncomputable def c_wipe : Code := (cT (cR (cE (cR (cE (cR (cE (cR (cB c_sw)))))))))
set_option maxHeartbeats 40000000 in
set_option maxRecDepth 200000 in
theorem way_wipe (F : (Nat → Value) → Act) (hFr : Frm 418 F) (f : Nat → Value) (w6 w : World) (q p t m dd gg mo tk yb nd qa bX i B0 P0 M DA NB N L LM K : Nat) (g : Cf.Ge) (Y X V : Nat → Nat → Int) (T : Nat → Bool) (kind xn xb : Int) (raw : Bool) (hL : NB + 1 = L) (hL5 : NB ≤ 512) (hLM : M + 1 = LM) (hM8 : M ≤ 128) (hK : K < 100000000) (hg : GG g B0 P0 M DA NB N) (hx : Cx w6 q p t m dd gg mo tk yb nd qa bX)
    (hG : Gr w q p t m dd gg i g B0 NB N ⟨[], Y⟩ Y K) (hR : Rl B0 P0 M DA NB Y T X V) (hM : Mo w mo tk yb nd L LM T X V) (hkf : Kf w6 w [dd, gg]) (hA : Vl w qa [.int .u8 kind, .int .i64 xn, .int .u8 xb, .bool raw]) (hF : Fl w bX 64 (fun _ => xb))
    (h14 : f 14 = .pointer (some ⟨mo, 0, none⟩)) (h16 : f 16 = .pointer (some ⟨qa, 0, none⟩)) (h18 : f 18 = .pointer (some ⟨q, 0, none⟩)) (h24 : f 24 = .pointer (some ⟨bX, 0, none⟩))
    (x : Int) (bn : Bool) (h20 : f 20 = .int .i64 x) (h22 : f 22 = .bool bn) (hbt : bn = true → 1 ≤ x ∧ x ≤ M) (hbf : bn = false → ¬ (1 ≤ x ∧ x ≤ M)) (Q : Exit → Act → World → Prop) (hQp : ∀ c a a' w, a'.defers = a.defers → Q (.panic c) a w → Q (.panic c) a' w) (hQ : ∀ f' w', Same f f' → Sw w6 w' q p t m dd gg mo tk yb nd i B0 P0 M DA NB N L LM (K + 700) g → Q .normal (F f') w') : c_wipe.wp Tryz.prog Q (F f) w := by
  have fa1 := hFr.get
  have fa2 := hFr.put
  have fa3 := hFr.fold
  have fa4 := updA_at
  have fa5 := hFr.defers
  have HFr := Lib.hid hFr
  clear hFr
  have HX := Lib.hid hx
  have HG := Lib.hid hG
  have HR := Lib.hid hR
  have HM := Lib.hid hM
  have HK := Lib.hid hkf
  have HA := Lib.hid hA
  have HF := Lib.hid hF
  have HQ := Lib.hid hQ
  have HQp := Lib.hid hQp
  have Hg := Lib.hid hg
  have HL := Lib.hid hL
  have HLM := Lib.hid hLM
  have HKK := Lib.hid hK
  clear hx hG hR hM hkf hA hF hQ hQp hg hL hLM hK
  conv => arg 2; whnf
  cases bn
  · have hno := hbf rfl
    have hno' := Lib.hid hno
    clear hbt hbf hno
    (go_wp2_with fail); repeat ((first | (refine HFr.out.cond_t (by decide) (updA_same _ _ _) ?_) | (refine HFr.out.cond_f (by decide) (updA_same _ _ _) ?_)); (go_wp2_with fail))
    refine (gwipe_out q p t m dd gg i B0 P0 M DA NB N K g Y x hno'.out Hg.out w HG.out).mono ?_
    rintro e w' ⟨rfl, hb⟩
    have Hb := Lib.hid hb
    clear hb
    (go_wp2_with fail); repeat ((first | (refine HFr.out.cond_t (by decide) (updA_same _ _ _) ?_) | (refine HFr.out.cond_f (by decide) (updA_same _ _ _) ?_)); (go_wp2_with fail))
    refine hend (P := fun _ w' => Sw w6 w' q p t m dd gg mo tk yb nd i B0 P0 M DA NB N L LM (K + 700) g) HQ.out trivial (by unfold Same; simp [updA_at]) ((Sw.keep HG.out (by simp) HR.out HM.out HK.out Hb.out).mono (by omega))
  · have hskip : True := trivial
    obtain ⟨hx1, hx2⟩ := hbt rfl
    obtain ⟨n, rfl⟩ := Int.eq_ofNat_of_zero_le (show 0 ≤ x by omega)
    have HN1 : Hid (1 ≤ n) := Lib.hid (by omega)
    have HN2 : Hid (n ≤ M) := Lib.hid (by omega)
    have HJL : Hid (n < LM) := Lib.hid (by have := HLM.out; omega)
    have hi1 : (n : Int) < LM := by have := HLM.out; omega
    clear hbt hbf hx1 hx2
    (go_wp2_with fail); repeat ((first | (refine HFr.out.cond_t (by decide) (updA_same _ _ _) ?_) | (refine HFr.out.cond_f (by decide) (updA_same _ _ _) ?_)); (go_wp2_with fail))
    refine (gwipe_in q p t m dd gg i B0 P0 M DA NB N K g Y V n HN1.out HN2.out (Has.of (L := ⟨[P0 + (n - 1) / 2], Y⟩) (by simp) (by simp)) (by have := HKK.out; omega) HR.out.v Hg.out w (HG.out.mono (Lm.nil_le [P0 + (n - 1) / 2] Y) (Nat.le_refl _))).mono ?_
    rintro e w' ⟨rfl, hG', hk⟩
    have HG' := Lib.hid hG'
    have HM' := Lib.hid (HM.out.kf hk HX.out.ne)
    have HK' := Lib.hid (HK.out.tx hk HX.out.s5 HX.out.s6)
    clear hG' hk
    have HB2 := Lib.hid (build27_gen (V n 2))
    (go_wp2_with fail); repeat ((first | (refine HFr.out.cond_t (by decide) (updA_same _ _ _) ?_) | (refine HFr.out.cond_f (by decide) (updA_same _ _ _) ?_)); (go_wp2_with fail))
    refine wp_region_held (S := fun W => Vl W mo [.slice (some ⟨tk, 0, none⟩) L L, .slice (some ⟨yb, 0, none⟩) L L, .slice (some ⟨nd, 0, none⟩) LM LM] ∧ W.cell? ⟨nd, n * 12 + 2, none⟩ = some (.int .u16 (V n 2))) (by kernel_rfl) ?_
    change wpAnyH _ _ _ _ _ _ _ _ (World.drew w')
    have hS0 : (fun W => Vl W mo [.slice (some ⟨tk, 0, none⟩) L L, .slice (some ⟨yb, 0, none⟩) L L, .slice (some ⟨nd, 0, none⟩) LM LM] ∧ W.cell? ⟨nd, n * 12 + 2, none⟩ = some (.int .u16 (V n 2))) (World.drew w') := ⟨HM'.out.m.keep (Below.refl _ _).drew, (HM'.out.n.keep (Below.refl _ _).drew).c n HJL.out 2 _ rfl⟩
    refine wpAnyH_take (i := 0) (v := ?_) rfl (by kernel_rfl) (by kernel_rfl) (by kernel_rfl) (fun _ a _ h => HQp.out _ _ _ _ (put_defers a _ _).symm h) (Or.inl ⟨by rfl, ?_⟩) hS0 ?_
    rotate_left 1
    · intro W hW
      go_simp
      try with_reducible rfl
    simp only [List.getElem_toArray, List.getElem_cons_zero, List.getElem_cons_succ, fa2, put_none]
    refine wpAnyH_take (i := 1) (v := ?_) rfl (by kernel_rfl) (by kernel_rfl) (by kernel_rfl) (fun _ a _ h => HQp.out _ _ _ _ (put_defers a _ _).symm h) (Or.inl ⟨by rfl, ?_⟩) hS0 ?_
    rotate_left 1
    · intro W hW
      go_simp
      try with_reducible rfl
    simp only [List.getElem_toArray, List.getElem_cons_zero, List.getElem_cons_succ, fa2, put_none]
    refine wpAnyH_take (i := 2) (v := ?_) rfl (by kernel_rfl) (by kernel_rfl) (by kernel_rfl) (fun _ a _ h => HQp.out _ _ _ _ (put_defers a _ _).symm h) (Or.inl ⟨by rfl, ?_⟩) hS0 ?_
    rotate_left 1
    · intro W hW
      go_simp
      try with_reducible rfl
    simp only [List.getElem_toArray, List.getElem_cons_zero, List.getElem_cons_succ, fa2, put_none]
    refine wpAnyH_take (i := 3) (v := ?_) rfl (by kernel_rfl) (by kernel_rfl) (by kernel_rfl) (fun _ a _ h => HQp.out _ _ _ _ (put_defers a _ _).symm h) (Or.inl ⟨by rfl, ?_⟩) hS0 ?_
    rotate_left 1
    · intro W hW
      have c0 := hW.1.c 2 _ rfl
      go_simp
      try with_reducible rfl
    simp only [List.getElem_toArray, List.getElem_cons_zero, List.getElem_cons_succ, fa2, put_none]
    refine wpAnyH_take (i := 4) (v := ?_) rfl (by kernel_rfl) (by kernel_rfl) (by kernel_rfl) (fun _ a _ h => HQp.out _ _ _ _ (put_defers a _ _).symm h) (Or.inl ⟨by rfl, ?_⟩) hS0 ?_
    rotate_left 1
    · intro W hW
      go_simp
      try with_reducible rfl
    simp only [List.getElem_toArray, List.getElem_cons_zero, List.getElem_cons_succ, fa2, put_none]
    refine wpAnyH_take (i := 5) (v := ?_) rfl (by kernel_rfl) (by kernel_rfl) (by kernel_rfl) (fun _ a _ h => HQp.out _ _ _ _ (put_defers a _ _).symm h) (Or.inl ⟨by rfl, ?_⟩) hS0 ?_
    rotate_left 1
    · intro W hW
      go_simp
      try with_reducible rfl
    simp only [List.getElem_toArray, List.getElem_cons_zero, List.getElem_cons_succ, fa2, put_none]
    refine wpAnyH_take (i := 6) (v := ?_) rfl (by kernel_rfl) (by kernel_rfl) (by kernel_rfl) (fun _ a _ h => HQp.out _ _ _ _ (put_defers a _ _).symm h) (Or.inl ⟨by rfl, ?_⟩) hS0 ?_
    rotate_left 1
    · intro W hW
      go_simp
      try with_reducible rfl
    simp only [List.getElem_toArray, List.getElem_cons_zero, List.getElem_cons_succ, fa2, put_none]
    refine wpAnyH_take (i := 7) (v := ?_) rfl (by kernel_rfl) (by kernel_rfl) (by kernel_rfl) (fun _ a _ h => HQp.out _ _ _ _ (put_defers a _ _).symm h) (Or.inl ⟨by rfl, ?_⟩) hS0 ?_
    rotate_left 1
    · intro W hW
      go_simp
      try with_reducible rfl
    simp only [List.getElem_toArray, List.getElem_cons_zero, List.getElem_cons_succ, fa2, put_none]
    refine wpAnyH_take (i := 8) (v := ?_) rfl (by kernel_rfl) (by kernel_rfl) (by kernel_rfl) (fun _ a _ h => HQp.out _ _ _ _ (put_defers a _ _).symm h) (Or.inl ⟨by rfl, ?_⟩) hS0 ?_
    rotate_left 1
    · intro W hW
      have c0 := hW.1.c 2 _ rfl
      go_simp
      try with_reducible rfl
    simp only [List.getElem_toArray, List.getElem_cons_zero, List.getElem_cons_succ, fa2, put_none]
    refine wpAnyH_take (i := 9) (v := ?_) rfl (by kernel_rfl) (by kernel_rfl) (by kernel_rfl) (fun _ a _ h => HQp.out _ _ _ _ (put_defers a _ _).symm h) (Or.inl ⟨by rfl, ?_⟩) hS0 ?_
    rotate_left 1
    · intro W hW
      go_simp
      try with_reducible rfl
    simp only [List.getElem_toArray, List.getElem_cons_zero, List.getElem_cons_succ, fa2, put_none]
    refine wpAnyH_take (i := 10) (v := ?_) rfl (by kernel_rfl) (by kernel_rfl) (by kernel_rfl) (fun _ a _ h => HQp.out _ _ _ _ (put_defers a _ _).symm h) (Or.inl ⟨by rfl, ?_⟩) hS0 ?_
    rotate_left 1
    · intro W hW
      go_simp
      try with_reducible rfl
    simp only [List.getElem_toArray, List.getElem_cons_zero, List.getElem_cons_succ, fa2, put_none]
    refine wpAnyH_take (i := 11) (v := ?_) rfl (by kernel_rfl) (by kernel_rfl) (by kernel_rfl) (fun _ a _ h => HQp.out _ _ _ _ (put_defers a _ _).symm h) (Or.inl ⟨by rfl, ?_⟩) hS0 ?_
    rotate_left 1
    · intro W hW
      go_simp
      try with_reducible rfl
    simp only [List.getElem_toArray, List.getElem_cons_zero, List.getElem_cons_succ, fa2, put_none]
    refine wpAnyH_take (i := 12) (v := ?_) rfl (by kernel_rfl) (by kernel_rfl) (by kernel_rfl) (fun _ a _ h => HQp.out _ _ _ _ (put_defers a _ _).symm h) (Or.inl ⟨by rfl, ?_⟩) hS0 ?_
    rotate_left 1
    · intro W hW
      have c0 := hW.2
      go_simp
      try with_reducible rfl
    simp only [List.getElem_toArray, List.getElem_cons_zero, List.getElem_cons_succ, fa2, put_none]
    refine wpAnyH_take (i := 13) (v := .agg (ndc (genN (V n 2))).toArray) rfl (by kernel_rfl) (by kernel_rfl) (by kernel_rfl) (fun _ a _ h => HQp.out _ _ _ _ (put_defers a _ _).symm h) ?_ hS0 ?_
    · exact Or.inl ⟨by rfl, fun W hW => by have e := HB2.out; go_simp; rfl⟩
    simp only [List.getElem_toArray, List.getElem_cons_zero, List.getElem_cons_succ, fa2, put_none]
    refine wpAnyH_take (i := 14) (v := ?_) rfl (by kernel_rfl) (by kernel_rfl) (by kernel_rfl) (fun _ a _ h => HQp.out _ _ _ _ (put_defers a _ _).symm h) (Or.inl ⟨by rfl, ?_⟩) hS0 ?_
    rotate_left 1
    · intro W hW
      go_simp
      try with_reducible rfl
    simp only [List.getElem_toArray, List.getElem_cons_zero, List.getElem_cons_succ, fa2, put_none]
    refine wpAnyH_ready (rs := [15]) (by kernel_rfl) (by simp) (AllReadyH.cons rfl (fun KK hKK => ?_) AllReadyH.nil)
    have hMd := HM'.out.keep (Below.refl _ _).drew
    have hkp : Kp w' (w'.drew.setCells nd (n * 12) (ndc (genN (V n 2)))) nd nd := ((Kp.refl w' nd nd).drew).setCells nd (n * 12) (.inl rfl) _
    refine step_store_mid rfl 68 (.tmp 351) (.tmp 350) rfl nd (n * 12) (ndc (genN (V n 2))).toArray (by rw [HFr.out.eval _ _ (by decide)]; simp [updA_at]) (by rw [HFr.out.eval _ _ (by decide)]; simp [updA_at]) (hMd.n.there n HJL.out) (size27' _) (all_oneCell_toArray (ndc_one _)) ?_
    have hM2 := hMd.setN HX.out.mx n HJL.out (genN (V n 2))
    have hG2 := HG'.out.kp hkp (HX.out.nq nd (by simp))
    have hS1 : (fun W => Vl W mo [.slice (some ⟨tk, 0, none⟩) L L, .slice (some ⟨yb, 0, none⟩) L L, .slice (some ⟨nd, 0, none⟩) LM LM] ∧ W.cell? ⟨nd, n * 12 + 2, none⟩ = some (.int .u16 (V n 2))) (w'.drew.setCells nd (n * 12) (ndc (genN (V n 2))).toArray.toList) := by
      rw [List.toList_toArray]
      exact ⟨hM2.m, by have h := hM2.n.c n HJL.out 2 _ rfl; rw [vput_at] at h; exact h⟩
    refine hKK _ _ hS1 ?_
    rw [List.toList_toArray]
    intro _
    clear hKK KK hS1 hS0
    try simp only [List.getElem_toArray, List.getElem_cons_zero, List.getElem_cons_succ, fa2, put_none]
    refine wpAnyH_done (by kernel_rfl) ?_ _
    have hpu := HR.out.node Hg.out n HN1.out HN2.out (genN (V n 2)) (genN_ok (HR.out.v n HN1.out HN2.out).2.1.g) (genN_code _)
    have HE : Hid (Sw w6 (w'.drew.setCells nd (n * 12) (ndc (genN (V n 2)))) q p t m dd gg mo tk yb nd i B0 P0 M DA NB N L LM (K + 700) g) := Lib.hid ⟨⟨_, T, X, _, ⟨[P0 + (n - 1) / 2], Y⟩, hG2.mono (Lm.le_refl _) (by omega), by simp, hpu, hM2⟩, HK'.out.new hkp HX.out.s4⟩
    clear hpu hM2 hG2 hMd hkp
    obtain ⟨wz, hwz⟩ : ∃ x, w'.drew.setCells nd (n * 12) (ndc (genN (V n 2))) = x := ⟨_, rfl⟩
    rw [hwz] at HE ⊢
    clear hwz
    (go_wp2_with fail); repeat ((first | (refine HFr.out.cond_t (by decide) (updA_same _ _ _) ?_) | (refine HFr.out.cond_f (by decide) (updA_same _ _ _) ?_)); (go_wp2_with fail))
    refine hend (P := fun _ w' => Sw w6 w' q p t m dd gg mo tk yb nd i B0 P0 M DA NB N L LM (K + 700) g) HQ.out trivial (by unfold Same; simp [updA_at]) HE.out
end Go.Proofs.YtnfadmifdncjoaaGreat
