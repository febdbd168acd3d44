import Derived.Test.YtnfadmifdncjoaaGreatSF
/- GroupPlays: Give. -/
namespace Go.Proofs.YtnfadmifdncjoaaGreat
set_option linter.unusedSimpArgs false
set_option linter.unusedVariables false
open Go.RowKit Go.Maps

noncomputable def c_give : Code := (cT (cR (cB c_sw)))
set_option maxHeartbeats 40000000 in
set_option maxRecDepth 200000 in
theorem way_give (F : (Nat → Value) → Act) (hFr : Frm 418 F) (f : Nat → Value) (w6 w : World) (q p t m dd gg mo tk yb nd qa bX i B0 P0 M DA NB N L LM K : Nat) (g : Cf.Ge) (Y X V : Nat → Nat → Int) (T : Nat → Bool) (kind xn xb : Int) (raw : Bool) (hL : NB + 1 = L) (hL5 : NB ≤ 512) (hLM : M + 1 = LM) (hM8 : M ≤ 128) (hK : K < 100000000) (hg : GG g B0 P0 M DA NB N) (hx : Cx w6 q p t m dd gg mo tk yb nd qa bX)
    (hG : Gr w q p t m dd gg i g B0 NB N ⟨[], Y⟩ Y K) (hR : Rl B0 P0 M DA NB Y T X V) (hM : Mo w mo tk yb nd L LM T X V) (hkf : Kf w6 w [dd, gg]) (hA : Vl w qa [.int .u8 kind, .int .i64 xn, .int .u8 xb, .bool raw]) (hF : Fl w bX 64 (fun _ => xb))
    (h14 : f 14 = .pointer (some ⟨mo, 0, none⟩)) (h16 : f 16 = .pointer (some ⟨qa, 0, none⟩)) (h18 : f 18 = .pointer (some ⟨q, 0, none⟩)) (h24 : f 24 = .pointer (some ⟨bX, 0, none⟩))
    (x z : Int) (bi : Bool) (h20 : f 20 = .int .i64 x) (h21 : f 21 = .bool bi) (h23 : f 23 = .int .u16 z) (z0 : 0 ≤ z) (z1 : z < 65536) (hbt : bi = true → z = x ∧ 1 ≤ x ∧ x ≤ NB) (hbf : bi = false → ¬ (1 ≤ z ∧ z ≤ NB)) (Q : Exit → Act → World → Prop) (hQp : ∀ c a a' w, a'.defers = a.defers → Q (.panic c) a w → Q (.panic c) a' w) (hQ : ∀ f' w', Same f f' → Sw w6 w' q p t m dd gg mo tk yb nd i B0 P0 M DA NB N L LM (K + 700) g → Q .normal (F f') w') : c_give.wp Tryz.prog Q (F f) w := by
  have fa1 := hFr.get
  have fa2 := hFr.put
  have fa3 := hFr.fold
  have fa4 := updA_at
  have fa5 := hFr.defers
  have HFr := Lib.hid hFr
  clear hFr
  have HX := Lib.hid hx
  have HG := Lib.hid hG
  have HR := Lib.hid hR
  have HM := Lib.hid hM
  have HK := Lib.hid hkf
  have HA := Lib.hid hA
  have HF := Lib.hid hF
  have HQ := Lib.hid hQ
  have HQp := Lib.hid hQp
  have Hg := Lib.hid hg
  have HL := Lib.hid hL
  have HLM := Lib.hid hLM
  have HKK := Lib.hid hK
  clear hx hG hR hM hkf hA hF hQ hQp hg hL hLM hK
  conv => arg 2; whnf
  obtain ⟨zn, rfl⟩ := Int.eq_ofNat_of_zero_le z0
  cases bi
  · have hno := hbf rfl
    have hno' := Lib.hid hno
    clear hbt hbf hno
    (go_wp2_with fail); repeat ((first | (refine HFr.out.cond_t (by decide) (updA_same _ _ _) ?_) | (refine HFr.out.cond_f (by decide) (updA_same _ _ _) ?_)); (go_wp2_with fail))
    refine (ggive_out q p t m dd gg i B0 P0 M DA NB N K g Y zn (by omega) (by have := hno'.out; omega) Hg.out w HG.out).mono ?_
    rintro e w' ⟨rfl, rfl⟩
    (go_wp2_with fail); repeat ((first | (refine HFr.out.cond_t (by decide) (updA_same _ _ _) ?_) | (refine HFr.out.cond_f (by decide) (updA_same _ _ _) ?_)); (go_wp2_with fail))
    refine hend (P := fun _ w' => Sw w6 w' q p t m dd gg mo tk yb nd i B0 P0 M DA NB N L LM (K + 700) g) HQ.out trivial (by unfold Same; simp [updA_at]) ⟨⟨Y, T, X, V, ⟨[], Y⟩, HG.out.mono (Lm.le_refl _) (by omega), by simp, HR.out, HM.out⟩, HK.out⟩
  · obtain ⟨hzx, hx1, hx2⟩ := hbt rfl
    subst hzx
    have hn1 : 1 ≤ zn := by omega
    have hn2 : zn ≤ NB := by omega
    have HN1 := Lib.hid hn1
    have HN2 := Lib.hid hn2
    have HE1 : Hid (zn - 1 + 1 = zn) := Lib.hid (by omega)
    have hjL : zn < L := by have := HL.out; omega
    have HJL := Lib.hid hjL
    have hi1 : (zn : Int) < L := by omega
    have HT1 : Hid (T zn = bt Y B0 (zn - 1)) := Lib.hid (by have h := HR.out.t (zn - 1) (by omega); rw [HE1.out] at h; exact h)
    clear hbt hbf hx1 hx2 hn1 hn2 hjL z0
    cases hT : T zn
    · have HTz := Lib.hid hT
      clear hT
      (go_wp2_with fail); repeat ((first | (refine HFr.out.cond_t (by decide) (updA_same _ _ _) ?_) | (refine HFr.out.cond_f (by decide) (updA_same _ _ _) ?_)); (go_wp2_with fail))
      refine (ggive_none q p t m dd gg i B0 P0 M DA NB N K g Y zn HN1.out HN2.out (HT1.out ▸ HTz.out) (by have := HKK.out; omega) Hg.out w HG.out).mono ?_
      rintro e w' ⟨rfl, hG', hk⟩
      have HG' := Lib.hid hG'
      have Hk := Lib.hid hk
      have HM' := Lib.hid (HM.out.kf hk HX.out.ne)
      clear hG' hk
      have cm := HM'.out.m.c 0 _ rfl
      have ct := HM'.out.t.c zn HJL.out
      rw [HTz.out] at ct
      (go_wp2_with fail); repeat ((first | (refine HFr.out.cond_t (by decide) (updA_same _ _ _) ?_) | (refine HFr.out.cond_f (by decide) (updA_same _ _ _) ?_)); (go_wp2_with fail))
      refine hend (P := fun _ w' => Sw w6 w' q p t m dd gg mo tk yb nd i B0 P0 M DA NB N L LM (K + 700) g) HQ.out trivial (by unfold Same; simp [updA_at]) (Sw.kf HX.out (HG'.out.mono (Lm.le_refl _) (by omega)) (by simp) HR.out HM.out HK.out Hk.out)
    · have HTz := Lib.hid hT
      clear hT
      (go_wp2_with fail); repeat ((first | (refine HFr.out.cond_t (by decide) (updA_same _ _ _) ?_) | (refine HFr.out.cond_f (by decide) (updA_same _ _ _) ?_)); (go_wp2_with fail))
      refine (ggive_ok q p t m dd gg i B0 P0 M DA NB N K g Y zn HN1.out HN2.out (HT1.out ▸ HTz.out) (Has.of (L := ⟨[B0], Y⟩) (by simp) (by simp)) (by have := HKK.out; omega) Hg.out w (HG.out.mono (Lm.nil_le [B0] Y) (Nat.le_refl _))).mono ?_
      rintro e w' ⟨rfl, hG', hk⟩
      have HG' := Lib.hid hG'
      have HM' := Lib.hid (HM.out.kf hk HX.out.ne)
      have HK' := Lib.hid (HK.out.tx hk HX.out.s5 HX.out.s6)
      clear hG' hk
      have cm := HM'.out.m.c 0 _ rfl
      have ct := HM'.out.t.c zn HJL.out
      have zt := HM'.out.t.z zn HJL.out
      rw [HTz.out] at ct
      (go_wp2_with fail); repeat ((first | (refine HFr.out.cond_t (by decide) (updA_same _ _ _) ?_) | (refine HFr.out.cond_f (by decide) (updA_same _ _ _) ?_)); (go_wp2_with fail))
      have hkp : Kp w' (w'.setCell ⟨tk, zn, none⟩ (.bool false)) tk tk := (Kp.refl w' tk tk).setCell (p := ⟨tk, zn, none⟩) (.inl rfl) _
      have hvb := HG.out.rd.vb
      have hgi := HR.out.give Hg.out hvb (zn - 1) (by have h1 := HN1.out; have h2 := HN2.out; omega) false
      rw [HE1.out] at hgi
      refine hend (P := fun _ w' => Sw w6 w' q p t m dd gg mo tk yb nd i B0 P0 M DA NB N L LM (K + 700) g) HQ.out trivial (by unfold Same; simp [updA_at]) ⟨⟨_, _, X, V, ⟨[B0], Y⟩, (HG'.out.kp hkp (HX.out.nq tk (by simp))).mono (Lm.le_refl _) (by omega), by simp, hgi, HM'.out.setT HX.out.mx zn HJL.out false⟩, HK'.out.new hkp HX.out.s2⟩
end Go.Proofs.YtnfadmifdncjoaaGreat
