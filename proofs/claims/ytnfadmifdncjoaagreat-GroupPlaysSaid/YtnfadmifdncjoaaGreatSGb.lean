import Derived.Test.YtnfadmifdncjoaaGreatSF
/- GroupPlays: Put. -/
namespace Go.Proofs.YtnfadmifdncjoaaGreat
set_option linter.unusedSimpArgs false
set_option linter.unusedVariables false
open Go.RowKit Go.Maps

noncomputable def c_put : Code := (cT (cR (cE (cR (cB c_sw)))))
set_option maxHeartbeats 40000000 in
set_option maxRecDepth 200000 in
theorem way_put (F : (Nat → Value) → Act) (hFr : Frm 418 F) (f : Nat → Value) (w6 w : World) (q p t m dd gg mo tk yb nd qa bX i B0 P0 M DA NB N L LM K : Nat) (g : Cf.Ge) (Y X V : Nat → Nat → Int) (T : Nat → Bool) (kind xn xb : Int) (raw : Bool) (hL : NB + 1 = L) (hL5 : NB ≤ 512) (hLM : M + 1 = LM) (hM8 : M ≤ 128) (hK : K < 100000000) (hg : GG g B0 P0 M DA NB N) (hx : Cx w6 q p t m dd gg mo tk yb nd qa bX)
    (hG : Gr w q p t m dd gg i g B0 NB N ⟨[], Y⟩ Y K) (hR : Rl B0 P0 M DA NB Y T X V) (hM : Mo w mo tk yb nd L LM T X V) (hkf : Kf w6 w [dd, gg]) (hA : Vl w qa [.int .u8 kind, .int .i64 xn, .int .u8 xb, .bool raw]) (hF : Fl w bX 64 (fun _ => xb))
    (h14 : f 14 = .pointer (some ⟨mo, 0, none⟩)) (h16 : f 16 = .pointer (some ⟨qa, 0, none⟩)) (h18 : f 18 = .pointer (some ⟨q, 0, none⟩)) (h24 : f 24 = .pointer (some ⟨bX, 0, none⟩))
    (x z : Int) (bi : Bool) (h20 : f 20 = .int .i64 x) (h21 : f 21 = .bool bi) (h23 : f 23 = .int .u16 z) (z0 : 0 ≤ z) (z1 : z < 65536) (hbt : bi = true → z = x ∧ 1 ≤ x ∧ x ≤ NB) (hbf : bi = false → ¬ (1 ≤ z ∧ z ≤ NB)) (hXb : Byt (fun _ => xb)) (hXY : bX ≠ yb) (Q : Exit → Act → World → Prop) (hQp : ∀ c a a' w, a'.defers = a.defers → Q (.panic c) a w → Q (.panic c) a' w) (hQ : ∀ f' w', Same f f' → Sw w6 w' q p t m dd gg mo tk yb nd i B0 P0 M DA NB N L LM (K + 700) g → Q .normal (F f') w') : c_put.wp Tryz.prog Q (F f) w := by
  have fa1 := hFr.get
  have fa2 := hFr.put
  have fa3 := hFr.fold
  have fa4 := updA_at
  have fa5 := hFr.defers
  have HFr := Lib.hid hFr
  clear hFr
  have HX := Lib.hid hx
  have HG := Lib.hid hG
  have HR := Lib.hid hR
  have HM := Lib.hid hM
  have HK := Lib.hid hkf
  have HA := Lib.hid hA
  have HF := Lib.hid hF
  have HQ := Lib.hid hQ
  have HQp := Lib.hid hQp
  have Hg := Lib.hid hg
  have HL := Lib.hid hL
  have HLM := Lib.hid hLM
  have HKK := Lib.hid hK
  clear hx hG hR hM hkf hA hF hQ hQp hg hL hLM hK
  conv => arg 2; whnf
  have HXb := Lib.hid hXb
  clear hXb
  obtain ⟨zn, rfl⟩ := Int.eq_ofNat_of_zero_le z0
  cases bi
  · have hno := hbf rfl
    have hno' := Lib.hid hno
    clear hbt hbf hno
    go_wp2_with (refine wpList_load_mid rfl 59 _ rfl bX 0 (by rw [HFr.out.eval _ _ (by decide)]; simp [updA_at, h24]) (byts 64 fun _ => xb) (.array 64 5) HF.out.range0 Tryz.arr36 rfl (size36 _) ?_)
    refine (gput_out q p t m dd gg i B0 P0 M DA NB N K g Y zn (by omega) (by have := hno'.out; omega) (fun _ => xb) Hg.out w HG.out).mono ?_
    rintro e w' ⟨rfl, hb⟩
    have Hb := Lib.hid hb
    clear hb
    (go_wp2_with fail); repeat ((first | (refine HFr.out.cond_t (by decide) (updA_same _ _ _) ?_) | (refine HFr.out.cond_f (by decide) (updA_same _ _ _) ?_)); (go_wp2_with fail))
    refine hend (P := fun _ w' => Sw w6 w' q p t m dd gg mo tk yb nd i B0 P0 M DA NB N L LM (K + 700) g) HQ.out trivial (by unfold Same; simp [updA_at]) ((Sw.keep HG.out (by simp) HR.out HM.out HK.out Hb.out).mono (by omega))
  · have hskip : True := trivial
    obtain ⟨hzx, hx1, hx2⟩ := hbt rfl
    subst hzx
    have hn1 : 1 ≤ zn := by omega
    have hn2 : zn ≤ NB := by omega
    have HN1 := Lib.hid hn1
    have HN2 := Lib.hid hn2
    have HE1 : Hid (zn - 1 + 1 = zn) := Lib.hid (by omega)
    have hjL : zn < L := by have := HL.out; omega
    have HJL := Lib.hid hjL
    have hi1 : (zn : Int) < L := by omega
    clear hbt hbf hx1 hx2 hn1 hn2 hjL z0
    go_wp2_with (refine wpList_load_mid rfl 59 _ rfl bX 0 (by rw [HFr.out.eval _ _ (by decide)]; simp [updA_at, h24]) (byts 64 fun _ => xb) (.array 64 5) HF.out.range0 Tryz.arr36 rfl (size36 _) ?_)
    refine (gput_in q p t m dd gg i B0 P0 M DA NB N K g Y zn HN1.out HN2.out (fun _ => xb) HXb.out (Has.of (L := ⟨[DA + (zn - 1)], Y⟩) (by simp) (by simp)) Hg.out w (HG.out.mono (Lm.nil_le [DA + (zn - 1)] Y) (Nat.le_refl _))).mono ?_
    rintro e w' ⟨rfl, hG', hk⟩
    have HG' := Lib.hid hG'
    have HM' := Lib.hid (HM.out.kf hk HX.out.ne)
    have HK' := Lib.hid (HK.out.tx hk HX.out.s5 HX.out.s6)
    have HF' := Lib.hid (HF.out.kf hk (HX.out.n4 bX (by simp)))
    clear hG' hk
    (go_wp2_with fail); repeat ((first | (refine HFr.out.cond_t (by decide) (updA_same _ _ _) ?_) | (refine HFr.out.cond_f (by decide) (updA_same _ _ _) ?_)); (go_wp2_with fail))
    refine wp_region_held (S := fun W => Vl W mo [.slice (some ⟨tk, 0, none⟩) L L, .slice (some ⟨yb, 0, none⟩) L L, .slice (some ⟨nd, 0, none⟩) LM LM] ∧ Fl W bX 64 fun _ => xb) (by kernel_rfl) ?_
    change wpAnyH _ _ _ _ _ _ _ _ (World.drew w')
    have hS0 : (fun W => Vl W mo [.slice (some ⟨tk, 0, none⟩) L L, .slice (some ⟨yb, 0, none⟩) L L, .slice (some ⟨nd, 0, none⟩) LM LM] ∧ Fl W bX 64 fun _ => xb) (World.drew w') := ⟨HM'.out.m.keep (Below.refl _ _).drew, HF'.out.below (Below.refl _ _).drew HF'.out.lt⟩
    refine wpAnyH_take (i := 0) (v := ?_) rfl (by kernel_rfl) (by kernel_rfl) (by kernel_rfl) (fun _ a _ h => HQp.out _ _ _ _ (put_defers a _ _).symm h) (Or.inl ⟨by rfl, ?_⟩) hS0 ?_
    rotate_left 1
    · intro W hW
      go_simp
      try with_reducible rfl
    simp only [List.getElem_toArray, List.getElem_cons_zero, List.getElem_cons_succ, fa2, put_none]
    refine wpAnyH_take (i := 1) (v := ?_) rfl (by kernel_rfl) (by kernel_rfl) (by kernel_rfl) (fun _ a _ h => HQp.out _ _ _ _ (put_defers a _ _).symm h) (Or.inl ⟨by rfl, ?_⟩) hS0 ?_
    rotate_left 1
    · intro W hW
      go_simp
      try with_reducible rfl
    simp only [List.getElem_toArray, List.getElem_cons_zero, List.getElem_cons_succ, fa2, put_none]
    refine wpAnyH_take (i := 2) (v := ?_) rfl (by kernel_rfl) (by kernel_rfl) (by kernel_rfl) (fun _ a _ h => HQp.out _ _ _ _ (put_defers a _ _).symm h) (Or.inl ⟨by rfl, ?_⟩) hS0 ?_
    rotate_left 1
    · intro W hW
      go_simp
      try with_reducible rfl
    simp only [List.getElem_toArray, List.getElem_cons_zero, List.getElem_cons_succ, fa2, put_none]
    refine wpAnyH_take (i := 3) (v := ?_) rfl (by kernel_rfl) (by kernel_rfl) (by kernel_rfl) (fun _ a _ h => HQp.out _ _ _ _ (put_defers a _ _).symm h) (Or.inl ⟨by rfl, ?_⟩) hS0 ?_
    rotate_left 1
    · intro W hW
      have c0 := hW.1.c 1 _ rfl
      go_simp
      try with_reducible rfl
    simp only [List.getElem_toArray, List.getElem_cons_zero, List.getElem_cons_succ, fa2, put_none]
    refine wpAnyH_take (i := 4) (v := ?_) rfl (by kernel_rfl) (by kernel_rfl) (by kernel_rfl) (fun _ a _ h => HQp.out _ _ _ _ (put_defers a _ _).symm h) (Or.inl ⟨by rfl, ?_⟩) hS0 ?_
    rotate_left 1
    · intro W hW
      go_simp
      try with_reducible rfl
    simp only [List.getElem_toArray, List.getElem_cons_zero, List.getElem_cons_succ, fa2, put_none]
    refine wpAnyH_take (i := 5) (v := .agg (byts 64 fun _ => xb).toArray) rfl (by kernel_rfl) (by kernel_rfl) (by kernel_rfl) (fun _ a _ h => HQp.out _ _ _ _ (put_defers a _ _).symm h) ?_ hS0 ?_
    · exact yieldsIf_load_mid (by rfl) 59 _ rfl bX 0 (by rw [HFr.out.eval _ _ (by decide)]; simp [updA_at, h24]) (byts 64 fun _ => xb) (.array 64 5) (fun _ h => h.2.range0) Tryz.arr36 rfl (size36 _)
    simp only [List.getElem_toArray, List.getElem_cons_zero, List.getElem_cons_succ, fa2, put_none]
    refine wpAnyH_take (i := 6) (v := ?_) rfl (by kernel_rfl) (by kernel_rfl) (by kernel_rfl) (fun _ a _ h => HQp.out _ _ _ _ (put_defers a _ _).symm h) (Or.inl ⟨by rfl, ?_⟩) hS0 ?_
    rotate_left 1
    · intro W hW
      go_simp
      try with_reducible rfl
    simp only [List.getElem_toArray, List.getElem_cons_zero, List.getElem_cons_succ, fa2, put_none]
    refine wpAnyH_ready (rs := [7]) (by kernel_rfl) (by simp) (AllReadyH.cons rfl (fun KK hKK => ?_) AllReadyH.nil)
    have hMd := HM'.out.keep (Below.refl _ _).drew
    have hGd := HG'.out.keep (Below.refl _ _).drew
    have hkp : Kp w' (w'.drew.setCells yb (zn * 64) (byts 64 fun _ => xb)) yb yb := ((Kp.refl w' yb yb).drew).setCells yb (zn * 64) (.inl rfl) _
    have hnX : bX ≠ yb := hXY
    obtain ⟨FF, hFF, -⟩ := hMd.b
    refine step_store_mid rfl 59 (.tmp 245) (.tmp 244) rfl yb (zn * 64) (byts 64 fun _ => xb).toArray (by rw [HFr.out.eval _ _ (by decide)]; simp [updA_at]) (by rw [HFr.out.eval _ _ (by decide)]; simp [updA_at]) (by rw [byts_size]; exact hFF.there (zn * 64) 64 (by have := HJL.out; omega)) (size36' _) (byts_all _ _) ?_
    have hM2 := hMd.setX HX.out.mx zn HJL.out (fun _ => xb)
    have hG2 := HG'.out.kp hkp (HX.out.nq yb (by simp))
    have hS1 : (fun W => Vl W mo [.slice (some ⟨tk, 0, none⟩) L L, .slice (some ⟨yb, 0, none⟩) L L, .slice (some ⟨nd, 0, none⟩) LM LM] ∧ Fl W bX 64 fun _ => xb) (w'.drew.setCells yb (zn * 64) (byts 64 fun _ => xb).toArray.toList) := by
      rw [List.toList_toArray]
      exact ⟨hM2.m, HF'.out.kp hkp hnX hnX⟩
    refine hKK _ _ hS1 ?_
    rw [List.toList_toArray]
    intro _
    clear hKK KK hS1 hS0
    try simp only [List.getElem_toArray, List.getElem_cons_zero, List.getElem_cons_succ, fa2, put_none]
    refine wpAnyH_done (by kernel_rfl) ?_ _
    have hpu := HR.out.put Hg.out (zn - 1) (by have h1 := HN1.out; have h2 := HN2.out; omega) (fun _ => xb)
    rw [HE1.out] at hpu
    have HE : Hid (Sw w6 (w'.drew.setCells yb (zn * 64) (byts 64 fun _ => xb)) q p t m dd gg mo tk yb nd i B0 P0 M DA NB N L LM (K + 700) g) := Lib.hid ⟨⟨_, T, _, V, ⟨[DA + (zn - 1)], Y⟩, hG2.mono (Lm.le_refl _) (by omega), by simp, hpu, hM2⟩, HK'.out.new hkp HX.out.s3⟩
    clear hpu hM2 hG2 hMd hGd hFF hkp
    obtain ⟨wz, hwz⟩ : ∃ x, w'.drew.setCells yb (zn * 64) (byts 64 fun _ => xb) = x := ⟨_, rfl⟩
    rw [hwz] at HE ⊢
    clear hwz
    (go_wp2_with fail); repeat ((first | (refine HFr.out.cond_t (by decide) (updA_same _ _ _) ?_) | (refine HFr.out.cond_f (by decide) (updA_same _ _ _) ?_)); (go_wp2_with fail))
    refine hend (P := fun _ w' => Sw w6 w' q p t m dd gg mo tk yb nd i B0 P0 M DA NB N L LM (K + 700) g) HQ.out trivial (by unfold Same; simp [updA_at]) HE.out
end Go.Proofs.YtnfadmifdncjoaaGreat
