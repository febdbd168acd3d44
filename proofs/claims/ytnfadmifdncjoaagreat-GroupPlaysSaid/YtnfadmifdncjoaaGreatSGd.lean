import Derived.Test.YtnfadmifdncjoaaGreatSF
/- GroupPlays: Get. -/
namespace Go.Proofs.YtnfadmifdncjoaaGreat
set_option linter.unusedSimpArgs false
set_option linter.unusedVariables false
open Go.RowKit Go.Maps

noncomputable def c_get : Code := (cT (cR (cE (cR (cE (cR (cE (cR (cE (cR (cB c_sw)))))))))))
set_option maxHeartbeats 40000000 in
set_option maxRecDepth 200000 in
theorem way_get (F : (Nat → Value) → Act) (hFr : Frm 418 F) (f : Nat → Value) (w6 w : World) (q p t m dd gg mo tk yb nd qa bX i B0 P0 M DA NB N L LM K : Nat) (g : Cf.Ge) (Y X V : Nat → Nat → Int) (T : Nat → Bool) (kind xn xb : Int) (raw : Bool) (hL : NB + 1 = L) (hL5 : NB ≤ 512) (hLM : M + 1 = LM) (hM8 : M ≤ 128) (hK : K < 100000000) (hg : GG g B0 P0 M DA NB N) (hx : Cx w6 q p t m dd gg mo tk yb nd qa bX)
    (hG : Gr w q p t m dd gg i g B0 NB N ⟨[], Y⟩ Y K) (hR : Rl B0 P0 M DA NB Y T X V) (hM : Mo w mo tk yb nd L LM T X V) (hkf : Kf w6 w [dd, gg]) (hA : Vl w qa [.int .u8 kind, .int .i64 xn, .int .u8 xb, .bool raw]) (hF : Fl w bX 64 (fun _ => xb))
    (h14 : f 14 = .pointer (some ⟨mo, 0, none⟩)) (h16 : f 16 = .pointer (some ⟨qa, 0, none⟩)) (h18 : f 18 = .pointer (some ⟨q, 0, none⟩)) (h24 : f 24 = .pointer (some ⟨bX, 0, none⟩))
    (x z : Int) (bi : Bool) (h20 : f 20 = .int .i64 x) (h21 : f 21 = .bool bi) (h23 : f 23 = .int .u16 z) (z0 : 0 ≤ z) (z1 : z < 65536) (hbt : bi = true → z = x ∧ 1 ≤ x ∧ x ≤ NB) (hbf : bi = false → ¬ (1 ≤ z ∧ z ≤ NB)) (Q : Exit → Act → World → Prop) (hQp : ∀ c a a' w, a'.defers = a.defers → Q (.panic c) a w → Q (.panic c) a' w) (hQ : ∀ f' w', Same f f' → Sw w6 w' q p t m dd gg mo tk yb nd i B0 P0 M DA NB N L LM (K + 700) g → Q .normal (F f') w') : c_get.wp Tryz.prog Q (F f) w := by
  have fa1 := hFr.get
  have fa2 := hFr.put
  have fa3 := hFr.fold
  have fa4 := updA_at
  have fa5 := hFr.defers
  have HFr := Lib.hid hFr
  clear hFr
  have HX := Lib.hid hx
  have HG := Lib.hid hG
  have HR := Lib.hid hR
  have HM := Lib.hid hM
  have HK := Lib.hid hkf
  have HA := Lib.hid hA
  have HF := Lib.hid hF
  have HQ := Lib.hid hQ
  have HQp := Lib.hid hQp
  have Hg := Lib.hid hg
  have HL := Lib.hid hL
  have HLM := Lib.hid hLM
  have HKK := Lib.hid hK
  clear hx hG hR hM hkf hA hF hQ hQp hg hL hLM hK
  conv => arg 2; whnf
  obtain ⟨zn, rfl⟩ := Int.eq_ofNat_of_zero_le z0
  cases bi
  · have hno := hbf rfl
    have hno' := Lib.hid hno
    clear hbt hbf hno
    (go_wp2_with fail); repeat ((first | (refine HFr.out.cond_t (by decide) (updA_same _ _ _) ?_) | (refine HFr.out.cond_f (by decide) (updA_same _ _ _) ?_)); (go_wp2_with fail))
    refine (gget_out q p t m dd gg i B0 P0 M DA NB N K g Y zn (by omega) (by have := hno'.out; omega) Hg.out w HG.out).mono ?_
    rintro e w' ⟨rfl, hb⟩
    have Hb := Lib.hid hb
    clear hb
    obtain ⟨cv, hcv⟩ : ∃ c : Array Value, (byts 64 (fun _ => 0)).toArray = c := ⟨_, rfl⟩
    have HCV := Lib.hid hcv
    try rw [hcv]
    clear hcv
    go_wp2_with (first | (refine wpList_alloc_byts (w := w') rfl 59 64 rfl Tryz.zero36 ?_; intro w4 F4 hb4 hz4; have HQ4 := Lib.hid hb4; clear hb4 hz4) | (refine wpList_store_mid rfl 59 (.tmp 34) (.tmp 358) rfl w'.heap.size 0 cv ?_ ?_ ?_ ?_ ?_ ?_))
    · rw [← HCV.out, byts_size]; exact F4.out.there 0 64 (Nat.le_refl _)
    · rw [← HCV.out]; exact size36' _
    · rw [← HCV.out]; exact byts_all _ _
    rw [← HCV.out, List.toList_toArray]
    have HE : Hid (Below w.heap.size w (w4.setCells w'.heap.size 0 (byts 64 (fun _ => 0)))) := Lib.hid (Hb.out.trans (below_setCells (HQ4.out.mono Hb.out.size) _ _ Hb.out.size _))
    try rw [List.toList_toArray]
    obtain ⟨wz, hwz⟩ : ∃ x, w4.setCells w'.heap.size 0 (byts 64 (fun _ => 0)) = x := ⟨_, rfl⟩
    rw [hwz] at HE ⊢
    clear hwz HQ4 F4
    (go_wp2_with fail); repeat ((first | (refine HFr.out.cond_t (by decide) (updA_same _ _ _) ?_) | (refine HFr.out.cond_f (by decide) (updA_same _ _ _) ?_)); (go_wp2_with fail))
    go_quiet (fail)
    (go_wp2_with fail); repeat ((first | (refine HFr.out.cond_t (by decide) (updA_same _ _ _) ?_) | (refine HFr.out.cond_f (by decide) (updA_same _ _ _) ?_)); (go_wp2_with fail))
    refine hend (P := fun _ w' => Sw w6 w' q p t m dd gg mo tk yb nd i B0 P0 M DA NB N L LM (K + 700) g) HQ.out trivial (by unfold Same; simp [updA_at]) ((Sw.keep HG.out (by simp) HR.out HM.out HK.out (Cf.below_drewN' HE.out _)).mono (by omega))
  · have hskip : True := trivial
    obtain ⟨hzx, hx1, hx2⟩ := hbt rfl
    subst hzx
    have hn1 : 1 ≤ zn := by omega
    have hn2 : zn ≤ NB := by omega
    have HN1 := Lib.hid hn1
    have HN2 := Lib.hid hn2
    have HE1 : Hid (zn - 1 + 1 = zn) := Lib.hid (by omega)
    have hjL : zn < L := by have := HL.out; omega
    have HJL := Lib.hid hjL
    have hi1 : (zn : Int) < L := by omega
    clear hbt hbf hx1 hx2 hn1 hn2 hjL z0
    (go_wp2_with fail); repeat ((first | (refine HFr.out.cond_t (by decide) (updA_same _ _ _) ?_) | (refine HFr.out.cond_f (by decide) (updA_same _ _ _) ?_)); (go_wp2_with fail))
    refine (gget_in q p t m dd gg i B0 P0 M DA NB N K g Y zn HN1.out HN2.out (by have := HKK.out; omega) Hg.out w HG.out).mono ?_
    rintro e w' ⟨rfl, hG', hk⟩
    have HG' := Lib.hid hG'
    have HM' := Lib.hid (HM.out.kf hk HX.out.ne)
    have HK' := Lib.hid (HK.out.tx hk HX.out.s5 HX.out.s6)
    clear hG' hk
    obtain ⟨cv, hcv⟩ : ∃ c : Array Value, (byts 64 (Y (DA + (zn - 1)))).toArray = c := ⟨_, rfl⟩
    have HCV := Lib.hid hcv
    try rw [hcv]
    clear hcv
    go_wp2_with (first | (refine wpList_alloc_byts (w := w') rfl 59 64 rfl Tryz.zero36 ?_; intro w4 F4 hb4 hz4; have HQ4 := Lib.hid hb4; clear hb4 hz4) | (refine wpList_store_mid rfl 59 (.tmp 34) (.tmp 358) rfl w'.heap.size 0 cv ?_ ?_ ?_ ?_ ?_ ?_))
    · rw [← HCV.out, byts_size]; exact F4.out.there 0 64 (Nat.le_refl _)
    · rw [← HCV.out]; exact size36' _
    · rw [← HCV.out]; exact byts_all _ _
    rw [← HCV.out, List.toList_toArray]
    have hbq : Below w'.heap.size w' (w4.setCells w'.heap.size 0 (byts 64 (Y (DA + (zn - 1))))) := below_setCells HQ4.out _ _ (Nat.le_refl _) _
    have hF5 := F4.out.stored (Y (DA + (zn - 1)))
    obtain ⟨bq, hbqe⟩ : ∃ x, w'.heap.size = x := ⟨_, rfl⟩
    have HBq := Lib.hid hbq
    have HF5 := Lib.hid hF5
    rw [hbqe] at HF5
    try rw [hbqe]
    obtain ⟨wz, hwz⟩ : ∃ x, w4.setCells w'.heap.size 0 (byts 64 (Y (DA + (zn - 1)))) = x := ⟨_, rfl⟩
    rw [hwz] at HBq
    rw [hbqe] at hwz
    rw [hwz] at HF5
    try rw [hwz]
    clear hwz hbqe hbq hF5 HQ4 F4 HCV
    have HMz := Lib.hid (HM'.out.keep HBq.out)
    obtain ⟨FF, hFF, hFX⟩ := HMz.out.b
    have HRq : Hid (∀ W, (∃ k, W = wz.drewN k) → W.rangeAt bq 0 (byts 64 (Y (DA + (zn - 1))))) := Lib.hid (fun W ⟨k, hk⟩ => by subst hk; exact (HF5.out.below (Cf.below_drewN' (Below.refl _ wz) k) HF5.out.lt).range0)
    have HRm : Hid (∀ W, (∃ k, W = wz.drewN k) → W.rangeAt yb (zn * 64) (byts 64 (X zn))) := Lib.hid (fun W ⟨k, hk⟩ => by
      subst hk
      intro c v hv
      obtain ⟨hc, rfl⟩ := byts_of hv
      have h1 := (hFF.below (Cf.below_drewN' (Below.refl _ wz) k) hFF.lt).c (zn * 64 + c) (by have := HJL.out; omega)
      rw [hFX zn HJL.out c hc] at h1
      exact h1)
    have hEq : Hid (∀ W, (Op.equalIn 10000 59 (.agg (byts 64 (Y (DA + (zn - 1)))).toArray) (.agg (byts 64 (X zn)).toArray)).run Tryz.prog W = .ok true W) := Lib.hid (fun W => by
      have h1 := eq36 (Y (DA + (zn - 1))) (X zn) W
      rw [eqb_same (fun c hc => by have h2 := HR.out.x (zn - 1) (by have h1 := HN1.out; have h2 := HN2.out; omega) c hc; rw [HE1.out] at h2; exact h2.symm)] at h1
      exact h1)
    clear hFF hFX FF
    obtain ⟨c1v, hc1⟩ : ∃ c : Array Value, (byts 64 (Y (DA + (zn - 1)))).toArray = c := ⟨_, rfl⟩
    obtain ⟨c2v, hc2⟩ : ∃ c : Array Value, (byts 64 (X zn)).toArray = c := ⟨_, rfl⟩
    rw [hc1, hc2] at hEq
    have heq := hEq.out
    have cm := HMz.out.m.c 1 _ rfl
    (go_wp2_with fail); repeat ((first | (refine HFr.out.cond_t (by decide) (updA_same _ _ _) ?_) | (refine HFr.out.cond_f (by decide) (updA_same _ _ _) ?_)); (go_wp2_with fail))
    refine wp_region_quiet_lit (by kernel_rfl) (by kernel_rfl) ?_
    iterate 7 (quiet_step (fail))
    refine wpQuiet_load (by simp [Region.wanted, yielded, fa1, fa4]) 59 (.tmp 34) rfl bq 0 (by rw [HFr.out.eval _ _ (by decide)]; simp [updA_at]) (byts 64 (Y (DA + (zn - 1)))) (.array 64 5) HRq.out Tryz.arr36 rfl (size36 _) ?_
    simp only [fa2]
    rw [hc1]
    iterate 6 (quiet_step (fail))
    refine wpQuiet_load (by simp [Region.wanted, yielded, fa1, fa4]) 59 (.tmp 373) rfl yb (zn * 64) (by rw [HFr.out.eval _ _ (by decide)]; simp [updA_at]) (byts 64 (X zn)) (.array 64 5) HRm.out Tryz.arr36 rfl (size36 _) ?_
    simp only [fa2]
    rw [hc2]
    iterate 3 (quiet_step (fail))
    refine wpQuiet_nil ?_
    intro wy hwy
    obtain ⟨nq, rfl⟩ := hwy
    have HE := Lib.hid (Cf.below_drewN' HBq.out nq)
    clear cm heq hEq hc1 hc2
    (go_wp2_with fail); repeat ((first | (refine HFr.out.cond_t (by decide) (updA_same _ _ _) ?_) | (refine HFr.out.cond_f (by decide) (updA_same _ _ _) ?_)); (go_wp2_with fail))
    refine hend (P := fun _ w' => Sw w6 w' q p t m dd gg mo tk yb nd i B0 P0 M DA NB N L LM (K + 700) g) HQ.out trivial (by unfold Same; simp [updA_at]) (Sw.mono ⟨⟨Y, T, X, V, ⟨[], Y⟩, HG'.out.keep HE.out, by simp, HR.out, HM'.out.keep HE.out⟩, HK'.out.more HE.out⟩ (by omega))
end Go.Proofs.YtnfadmifdncjoaaGreat
