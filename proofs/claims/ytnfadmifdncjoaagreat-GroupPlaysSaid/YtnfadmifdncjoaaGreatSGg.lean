import Derived.Test.YtnfadmifdncjoaaGreatSF
import Derived.Test.YtnfadmifdncjoaaGreatSGl
/- GroupPlays: Make. -/
namespace Go.Proofs.YtnfadmifdncjoaaGreat
set_option linter.unusedSimpArgs false
set_option linter.unusedVariables false
open Go.RowKit Go.Maps

noncomputable def c_make : Code := (cT (cR (cE (cR (cE (cR (cB c_sw)))))))
set_option maxHeartbeats 40000000 in
set_option maxRecDepth 200000 in
theorem way_make (F : (Nat → Value) → Act) (hFr : Frm 418 F) (f : Nat → Value) (w6 w : World) (q p t m dd gg mo tk yb nd qa bX i B0 P0 M DA NB N L LM K : Nat) (g : Cf.Ge) (Y X V : Nat → Nat → Int) (T : Nat → Bool) (kind xn xb : Int) (raw : Bool) (hL : NB + 1 = L) (hL5 : NB ≤ 512) (hLM : M + 1 = LM) (hM8 : M ≤ 128) (hK : K < 100000000) (hg : GG g B0 P0 M DA NB N) (hx : Cx w6 q p t m dd gg mo tk yb nd qa bX)
    (hG : Gr w q p t m dd gg i g B0 NB N ⟨[], Y⟩ Y K) (hR : Rl B0 P0 M DA NB Y T X V) (hM : Mo w mo tk yb nd L LM T X V) (hkf : Kf w6 w [dd, gg]) (hA : Vl w qa [.int .u8 kind, .int .i64 xn, .int .u8 xb, .bool raw]) (hF : Fl w bX 64 (fun _ => xb))
    (h14 : f 14 = .pointer (some ⟨mo, 0, none⟩)) (h16 : f 16 = .pointer (some ⟨qa, 0, none⟩)) (h18 : f 18 = .pointer (some ⟨q, 0, none⟩)) (h24 : f 24 = .pointer (some ⟨bX, 0, none⟩))
    (hxb : 0 ≤ xb ∧ xb < 256) (Q : Exit → Act → World → Prop) (hQp : ∀ c a a' w, a'.defers = a.defers → Q (.panic c) a w → Q (.panic c) a' w) (hQ : ∀ f' w', Same f f' → Sw w6 w' q p t m dd gg mo tk yb nd i B0 P0 M DA NB N L LM (K + 700) g → Q .normal (F f') w') : c_make.wp Tryz.prog Q (F f) w := by
  have fa1 := hFr.get
  have fa2 := hFr.put
  have fa3 := hFr.fold
  have fa4 := updA_at
  have fa5 := hFr.defers
  have HFr := Lib.hid hFr
  clear hFr
  have HX := Lib.hid hx
  have HG := Lib.hid hG
  have HR := Lib.hid hR
  have HM := Lib.hid hM
  have HK := Lib.hid hkf
  have HA := Lib.hid hA
  have HF := Lib.hid hF
  have HQ := Lib.hid hQ
  have HQp := Lib.hid hQp
  have Hg := Lib.hid hg
  have HL := Lib.hid hL
  have HLM := Lib.hid hLM
  have HKK := Lib.hid hK
  clear hx hG hR hM hkf hA hF hQ hQp hg hL hLM hK
  conv => arg 2; whnf
  obtain ⟨hxb0, hxb1⟩ := hxb
  have a2 := HA.out.c 2 _ rfl
  have hLM1 : (1 : Int) ≤ LM := by have := HLM.out; omega
  have hLM2 : (LM : Int) ≤ 129 := by have := HLM.out; omega
  obtain ⟨kd, hkd⟩ : ∃ x, Int.tmod xb 8 = x := ⟨_, rfl⟩
  have hkd0 : 0 ≤ kd := by rw [← hkd, Int.tmod_eq_emod_of_nonneg hxb0]; omega
  have hkd1 : kd < 8 := by rw [← hkd, Int.tmod_eq_emod_of_nonneg hxb0]; omega
  have HW := Lib.hid (wF_spec V M M (Nat.le_refl _))
  cases hk : kOk kd
  · have hkc : kd = 0 ∨ kd = 4 ∨ kd = 6 ∨ kd = 7 := by
      simp only [kOk, Bool.or_eq_false_iff, decide_eq_false_iff_not] at hk
      omega
    have HKC := Lib.hid hkc
    have HKO := Lib.hid hk
    clear hkc hk
    (go_wp2_with fail); repeat ((first | (refine HFr.out.cond_t (by decide) (updA_same _ _ _) ?_) | (refine HFr.out.cond_f (by decide) (updA_same _ _ _) ?_)); (go_wp2_with fail))
    refine (gmake_bad q kd HKO.out w).mono ?_
    rintro e w' ⟨rfl, hw'⟩
    obtain rfl : w = w' := hw'.symm
    clear hw' hkd HKO
    have cm := HM.out.m.c 2 _ rfl
    go_upto_block 6 with fail
    refine make_loop F HFr.out _ w mo tk yb nd L LM M T X V HM.out HLM.out hM8 (by simp [updA_at, h14]) (by simp [updA_at]) (by simp only [updA_at, Nat.reduceEqDiff, reduceIte]; rw [show ((LM : Int) - 1) = (M : Int) by have := HLM.out; omega]) _ ?_
    intro f1 hag h31
    have HS : Hid (Same f f1) := Lib.hid (by
      refine ⟨?_, ?_, ?_, ?_, ?_, ?_, ?_, ?_, ?_⟩
      all_goals exact (hag _ (by decide) (by decide) (by decide)).trans (by simp [updA_at]))
    have g14 : f1 14 = .pointer (some ⟨mo, 0, none⟩) := (hag 14 (by decide) (by decide) (by decide)).trans (by simp [updA_at, h14])
    have g28 : f1 28 = .int .u8 kd := (hag 28 (by decide) (by decide) (by decide)).trans (by simp [updA_at])
    have g29 : f1 29 = .int .i64 0 := (hag 29 (by decide) (by decide) (by decide)).trans (by simp [updA_at])
    have g30 : f1 30 = .int .i64 27 := (hag 30 (by decide) (by decide) (by decide)).trans (by simp [updA_at])
    clear hag cm h14 h16 h18 h24
    rcases HKC.out with rfl | rfl | rfl | rfl
    all_goals
      (go_wp2_with fail); repeat ((first | (refine HFr.out.cond_t (by decide) (updA_same _ _ _) ?_) | (refine HFr.out.cond_f (by decide) (updA_same _ _ _) ?_)); (go_wp2_with fail))
      refine hend (P := fun _ w' => Sw w6 w' q p t m dd gg mo tk yb nd i B0 P0 M DA NB N L LM (K + 700) g) HQ.out trivial (by have h := HS.out; unfold Same at h ⊢; simp [updA_at]; exact h) ⟨⟨Y, T, X, V, ⟨[], Y⟩, HG.out.mono (Lm.le_refl _) (by omega), by simp, HR.out, HM.out⟩, HK.out⟩
  · have hkc : kd = 1 ∨ kd = 2 ∨ kd = 3 ∨ kd = 5 := by
      simp only [kOk, Bool.or_eq_true, decide_eq_true_eq] at hk
      omega
    have HKC := Lib.hid hkc
    have HKO := Lib.hid hk
    have HK01 := Lib.hid (show 0 ≤ kd ∧ kd < 256 from ⟨hkd0, by omega⟩)
    clear hkc hk
    rcases HW.out with ⟨hw0, hall⟩ | ⟨hn1, hn2, hz, hnz⟩
    · have HALL : Hid (∀ j, 1 ≤ j → j < M + 1 → V j 0 ≠ 0) := Lib.hid (fun j h1 h2 => hall j (by omega) (by omega))
      have HW0 := Lib.hid hw0
      clear hall hw0 HW
      (go_wp2_with fail); repeat ((first | (refine HFr.out.cond_t (by decide) (updA_same _ _ _) ?_) | (refine HFr.out.cond_f (by decide) (updA_same _ _ _) ?_)); (go_wp2_with fail))
      refine (gmake_full q p t m dd gg i B0 P0 M DA NB N K g Y V kd HK01.out.1 HK01.out.2 HKO.out HALL.out (by have := HKK.out; omega) HR.out.v Hg.out w HG.out).mono ?_
      rintro e w' ⟨rfl, hG', hk⟩
      have HG' := Lib.hid hG'
      have Hk := Lib.hid hk
      have HM' := Lib.hid (HM.out.kf hk HX.out.ne)
      clear hG' hk hkd HKO
      have cm := HM'.out.m.c 2 _ rfl
      go_upto_block 6 with fail
      refine make_loop F HFr.out _ w' mo tk yb nd L LM M T X V HM'.out HLM.out hM8 (by simp [updA_at, h14]) (by simp [updA_at]) (by simp only [updA_at, Nat.reduceEqDiff, reduceIte]; rw [show ((LM : Int) - 1) = (M : Int) by have := HLM.out; omega]) _ ?_
      intro f1 hag h31
      have HS : Hid (Same f f1) := Lib.hid (by
        refine ⟨?_, ?_, ?_, ?_, ?_, ?_, ?_, ?_, ?_⟩
        all_goals exact (hag _ (by decide) (by decide) (by decide)).trans (by simp [updA_at]))
      have g14 : f1 14 = .pointer (some ⟨mo, 0, none⟩) := (hag 14 (by decide) (by decide) (by decide)).trans (by simp [updA_at, h14])
      have g28 : f1 28 = .int .u8 kd := (hag 28 (by decide) (by decide) (by decide)).trans (by simp [updA_at])
      have g29 : f1 29 = .int .i64 0 := (hag 29 (by decide) (by decide) (by decide)).trans (by simp [updA_at])
      have g30 : f1 30 = .int .i64 10 := (hag 30 (by decide) (by decide) (by decide)).trans (by simp [updA_at])
      clear hag cm h14 h16 h18 h24
      rw [HW0.out] at h31
      have h31z : f1 31 = .int .i64 0 := h31
      clear h31
      rcases HKC.out with rfl | rfl | rfl | rfl
      all_goals
        (go_wp2_with fail); repeat ((first | (refine HFr.out.cond_t (by decide) (updA_same _ _ _) ?_) | (refine HFr.out.cond_f (by decide) (updA_same _ _ _) ?_)); (go_wp2_with fail))
        refine hend (P := fun _ w' => Sw w6 w' q p t m dd gg mo tk yb nd i B0 P0 M DA NB N L LM (K + 700) g) HQ.out trivial (by have h := HS.out; unfold Same at h ⊢; simp [updA_at]; exact h) (Sw.kf HX.out (HG'.out.mono (Lm.le_refl _) (by omega)) (by simp) HR.out HM.out HK.out Hk.out)
    · obtain ⟨n, hn⟩ : ∃ x, wF V M M = x := ⟨_, rfl⟩
      rw [hn] at hn1 hn2 hz hnz
      have HNn := Lib.hid hn
      have HN1 : Hid (1 ≤ n) := Lib.hid (by omega)
      have HN2 := Lib.hid hn2
      have HZ := Lib.hid hz
      have HNZ : Hid (∀ j, 1 ≤ j → j < n → V j 0 ≠ 0) := Lib.hid (fun j h1 h2 => hnz j (by omega) h2)
      have HJL : Hid (n < LM) := Lib.hid (by have := HLM.out; omega)
      have hi0 : (1 : Int) ≤ n := by omega
      have hi1 : (n : Int) < LM := by have := HLM.out; omega
      have hne : ((n : Int) == 0) = false := beq_eq_false_iff_ne.2 (by omega)
      obtain ⟨x, hx⟩ : ∃ x, IntKind.u16.wrap (V n 2 + 1) = x := ⟨_, rfl⟩
      have hx01 : 0 ≤ x ∧ x < 65536 := by
        rw [← hx]
        simp only [IntKind.wrap, IntKind.bits, IntKind.signed]
        constructor
        · first | omega | (simp; omega)
        · first | omega | (simp; omega)
      have HX01 := Lib.hid hx01
      have HXx := Lib.hid hx
      clear hn hn1 hn2 hz hnz HW hx hx01
      (go_wp2_with fail); repeat ((first | (refine HFr.out.cond_t (by decide) (updA_same _ _ _) ?_) | (refine HFr.out.cond_f (by decide) (updA_same _ _ _) ?_)); (go_wp2_with fail))
      refine (gmake_in q p t m dd gg i B0 P0 M DA NB N K g Y V kd HK01.out.1 HK01.out.2 HKO.out n HN1.out HN2.out HZ.out HNZ.out x HXx.out HX01.out.1 HX01.out.2 (Has.of (L := ⟨[P0 + (n - 1) / 2], Y⟩) (by simp) (by simp)) (by have := HKK.out; omega) HR.out.v Hg.out w (HG.out.mono (Lm.nil_le [P0 + (n - 1) / 2] Y) (Nat.le_refl _))).mono ?_
      rintro e w' ⟨rfl, hG', hk⟩
      have HG' := Lib.hid hG'
      have HM' := Lib.hid (HM.out.kf hk HX.out.ne)
      have HK' := Lib.hid (HK.out.tx hk HX.out.s5 HX.out.s6)
      clear hG' hk hkd
      have cm := HM'.out.m.c 2 _ rfl
      go_upto_block 6 with fail
      refine make_loop F HFr.out _ w' mo tk yb nd L LM M T X V HM'.out HLM.out hM8 (by simp [updA_at, h14]) (by simp [updA_at]) (by simp only [updA_at, Nat.reduceEqDiff, reduceIte]; rw [show ((LM : Int) - 1) = (M : Int) by have := HLM.out; omega]) _ ?_
      intro f1 hag h31
      have HS : Hid (Same f f1) := Lib.hid (by
        refine ⟨?_, ?_, ?_, ?_, ?_, ?_, ?_, ?_, ?_⟩
        all_goals exact (hag _ (by decide) (by decide) (by decide)).trans (by simp [updA_at]))
      have g14 : f1 14 = .pointer (some ⟨mo, 0, none⟩) := (hag 14 (by decide) (by decide) (by decide)).trans (by simp [updA_at, h14])
      have g28 : f1 28 = .int .u8 kd := (hag 28 (by decide) (by decide) (by decide)).trans (by simp [updA_at])
      have g29 : f1 29 = .int .i64 n := (hag 29 (by decide) (by decide) (by decide)).trans (by simp [updA_at])
      have g30 : f1 30 = .int .i64 0 := (hag 30 (by decide) (by decide) (by decide)).trans (by simp [updA_at])
      clear hag cm h14 h16 h18 h24
      rw [HNn.out] at h31
      have hcode : codeN (setG (mkN kd) x) = 0 := setG_code _ (by show (0 : Int) < 1; decide) (by rcases HKC.out with rfl | rfl | rfl | rfl <;> decide)
      have HCO := Lib.hid hcode
      have hok : NdOk (setG (mkN kd) x) := setG_ok (mkN_ok kd HK01.out.1 HK01.out.2) HX01.out.1 HX01.out.2
      have HOK := Lib.hid hok
      clear hcode hok
      have HND : Hid (Sw w6 (w'.setCells nd (n * 12) (ndc (setG (mkN kd) x))) q p t m dd gg mo tk yb nd i B0 P0 M DA NB N L LM (K + 700) g ∧ Sw w6 w' q p t m dd gg mo tk yb nd i B0 P0 M DA NB N L LM (K + 700) g ∨ True) := Lib.hid (.inr trivial)
      have cm := HM'.out.m.c 2 _ rfl
      have cg := HM'.out.n.c n HJL.out 2 _ rfl
      have hxx := HXx.out
      have h31n : f1 31 = .int .i64 n := h31
      clear h31
      have k1 : decide (kd < 1) = false := decide_eq_false (by have := HKC.out; omega)
      have k2 : decide (5 < kd) = false := decide_eq_false (by have := HKC.out; omega)
      have k3 : (kd == 4) = false := beq_eq_false_iff_ne.2 (by have := HKC.out; omega)
      have k4 : ¬ (kd < 1) := by have := HKC.out; omega
      have k5 : ¬ (5 < kd) := by have := HKC.out; omega
      (go_wp2_with fail); repeat ((first | (refine HFr.out.cond_t (by decide) (updA_same _ _ _) ?_) | (refine HFr.out.cond_f (by decide) (updA_same _ _ _) ?_)); (go_wp2_with fail))
      clear k1 k2 k3 k4 k5
      refine Cf.wp_region_split (C := fun w2 => ∃ q, w2 = w'.drewN q) 17 (by kernel_rfl) (of_decide_eq_true (by kernel_rfl)) (by kernel_rfl) (by kernel_rfl) (by kernel_rfl) ⟨1, rfl⟩ ?_
      simp only [List.take_succ_cons, List.take_zero]
      repeat (quiet_step (fail))
      refine wpQuiet_nil ?_
      intro wy hwy
      obtain ⟨qn, rfl⟩ := hwy
      refine Cf.wpAny_last 17 (by kernel_rfl) (by kernel_rfl) (Cf.wpOp_step0 rfl rfl (fun KK hKK => ?_))
      have hbd := Cf.below_drewN' (Below.refl w'.heap.size w') qn
      have hMd := HM'.out.keep hbd
      have hGd := HG'.out.keep hbd
      have hKd := HK'.out.more hbd
      obtain ⟨wd, hwd⟩ : ∃ z, w'.drewN qn = z := ⟨_, rfl⟩
      rw [hwd] at hMd hGd hKd
      try rw [hwd]
      refine wp_store_mid 68 (.tmp 300) (.tmp 299) rfl nd (n * 12) (ndc (setG (mkN kd) x)).toArray (by rw [HFr.out.eval _ _ (by decide)]; simp [updA_at]) (by rw [HFr.out.eval _ _ (by decide)]; simp only [updA_at, Nat.reduceEqDiff, reduceIte]; rfl) (hMd.n.there n HJL.out) (size27' _) (all_oneCell_toArray (ndc_one _)) ?_
      refine hKK _ _ ?_
      rw [List.toList_toArray]
      try simp only [put_none]
      have hkp : Kp wd (wd.setCells nd (n * 12) (ndc (setG (mkN kd) x))) nd nd := (Kp.refl wd nd nd).setCells nd (n * 12) (.inl rfl) _
      have hpu := HR.out.node Hg.out n HN1.out HN2.out (setG (mkN kd) x) HOK.out HCO.out
      have HE : Hid (Sw w6 (wd.setCells nd (n * 12) (ndc (setG (mkN kd) x))) q p t m dd gg mo tk yb nd i B0 P0 M DA NB N L LM (K + 700) g) := Lib.hid ⟨⟨_, T, X, _, ⟨[P0 + (n - 1) / 2], Y⟩, (hGd.kp hkp (HX.out.nq nd (by simp))).mono (Lm.le_refl _) (by omega), by simp, hpu, hMd.setN HX.out.mx n HJL.out (setG (mkN kd) x)⟩, hKd.new hkp HX.out.s4⟩
      clear hpu hkp hMd hGd hKd hwd hKK KK hbd cm cg
      obtain ⟨wz, hwz⟩ : ∃ z, wd.setCells nd (n * 12) (ndc (setG (mkN kd) x)) = z := ⟨_, rfl⟩
      rw [hwz] at HE ⊢
      clear hwz
      (go_wp2_with fail); repeat ((first | (refine HFr.out.cond_t (by decide) (updA_same _ _ _) ?_) | (refine HFr.out.cond_f (by decide) (updA_same _ _ _) ?_)); (go_wp2_with fail))
      refine hend (P := fun _ w' => Sw w6 w' q p t m dd gg mo tk yb nd i B0 P0 M DA NB N L LM (K + 700) g) HQ.out trivial (by have h := HS.out; unfold Same at h ⊢; simp [updA_at]; exact h) HE.out
end Go.Proofs.YtnfadmifdncjoaaGreat
