import Derived.Test.YtgfgdfcedmcjeaaGreatDoorA1
/- U8 -/
namespace Go.Proofs.YtgfgdfcedmcjeaaGreatDoor
set_option linter.unusedSimpArgs false
set_option linter.unusedVariables false
open Go.RowKit Go.Maps

/-- a directory stays as it is when another node's blocks move -/
theorem Dir.stay {g : Cf.Ge} {B0 P0 DA NB N TB : Nat} (hg : GG g B0 P0 8 DA NB N) (hTB : TB < P0 + 4) {Y0 Y : Nat → Nat → Int} {n0 n : Nat} {b0 b b' : Nat → Nat} {f' : Nat → Int} {E' : List En} (hM : Mv B0 TB DA NB Y0 n0 b0 Y n b) (hD : Dir B0 DA NB Y0 f' b' E') (hdj : ∀ c c', ndS n0 c = true → ndS (nbE E'.length) c' = true → b0 c ≠ b' c')
    (h0 : ∀ c, ndS n0 c = true → 1 ≤ b0 c) (h1 : ∀ c, ndS n c = true → 1 ≤ b c) : Dir B0 DA NB Y f' b' E' ∧ ∀ c c', ndS n c = true → ndS (nbE E'.length) c' = true → b c ≠ b' c' := by
  have hfu : Fu B0 DA NB Y0 f' (ndS (nbE E'.length)) b' := hD.fu
  have hdj' : ∀ c c', ndS n c = true → ndS (nbE E'.length) c' = true → b c ≠ b' c' := by
    intro c c' hc hc' he
    cases hn : ndS n0 c
    · have k1 := hM.fr c hc hn
      rw [he, hfu.us c' hc'] at k1
      cases k1
    · rw [hM.bb c hn hc] at he
      exact hdj c c' hn hc' he
  have hbp := hg.bp
  have hpd := hg.pd
  have hy : ∀ c', ndS (nbE E'.length) c' = true → Y (DA + (b' c' - 1)) = Y0 (DA + (b' c' - 1)) := by
    intro c' hc'
    have hr := hfu.fi.rng c' hc'
    refine hM.y _ (by omega) (by omega) (fun c hc he => ?_) (fun c hc he => ?_)
    · have := h0 c hc
      exact hdj c c' hc hc' (by omega)
    · have := h1 c hc
      exact hdj' c c' hc hc' (by omega)
  refine ⟨⟨hD.k, hD.l, hD.s, hD.n, ⟨hfu.fi.congr (fun c hc _ => hy c hc), fun c hc => ?_⟩, hD.ok, fun i hi => ?_⟩, hdj'⟩
  · have hr := hfu.fi.rng c hc
    refine (hM.u (b' c - 1) (by omega)).2 (.inl ⟨hfu.us c hc, fun ⟨c2, k1, k2, k3⟩ => ?_⟩)
    exact hdj c2 c k1 hc (by omega)
  · rw [← hD.ct i hi]
    unfold ctF
    rw [hy (i / 64) ((ndS_iff _ _).2 (.inl ⟨by have := hD.n; omega, by unfold nbE; omega⟩))]
/-- the two directories of a group: the one that is worked on, and the other -/
structure S2 (B0 P0 DA NB : Nat) (Y V : Nat → Nat → Int) (num : Nat) (b : Nat → Nat) (E : List En) (num' : Nat) (b' : Nat → Nat) (E' : List En) : Prop where
  tab : Tab P0 8 Y V
  dir : Dir B0 DA NB Y (V num) b E
  oth : Dir B0 DA NB Y (V num') b' E'
  dj : ∀ c c', ndS (nbE E.length) c = true → ndS (nbE E'.length) c' = true → b c ≠ b' c'
  u : ∀ j, j < NB → (bt Y B0 j = true ↔ (∃ c, ndS (nbE E.length) c = true ∧ b c = j + 1) ∨ ∃ c, ndS (nbE E'.length) c = true ∧ b' c = j + 1)
theorem S2.turn {B0 P0 DA NB : Nat} {Y V : Nat → Nat → Int} {num num' : Nat} {b b' : Nat → Nat} {E E' : List En} (h : S2 B0 P0 DA NB Y V num b E num' b' E') : S2 B0 P0 DA NB Y V num' b' E' num b E :=
  ⟨h.tab, h.oth, h.dir, fun c c' h1 h2 he => h.dj c' c h2 h1 he.symm, fun j hj => (h.u j hj).trans Or.comm⟩
theorem S2.move {g : Cf.Ge} {B0 P0 DA NB N TB : Nat} (hg : GG g B0 P0 8 DA NB N) (hTB : TB < P0 + 4) {Y0 V0 Y : Nat → Nat → Int} {f : Nat → Int} {num num' : Nat} {b0 b b' : Nat → Nat} {E0 E E' : List En} (h : S2 B0 P0 DA NB Y0 V0 num b0 E0 num' b' E') (hne : num' ≠ num) (hT : Tab P0 8 Y (vput num f V0)) (hD : Dir B0 DA NB Y f b E) (hM : Mv B0 TB DA NB Y0 (nbE E0.length) b0 Y (nbE E.length) b) : S2 B0 P0 DA NB Y (vput num f V0) num b E num' b' E' := by
  have f0 : Fu B0 DA NB Y0 (V0 num) (ndS (nbE E0.length)) b0 := h.dir.fu
  have f1 : Fu B0 DA NB Y f (ndS (nbE E.length)) b := hD.fu
  obtain ⟨hO, hdj⟩ := Dir.stay hg hTB hM h.oth h.dj (fun c hc => (f0.fi.rng c hc).1) (fun c hc => (f1.fi.rng c hc).1)
  refine ⟨hT, by rw [vput_at]; exact hD, by rw [vput_ne _ _ (fun h => hne h.symm)]; exact hO, hdj, fun j hj => ?_⟩
  rw [hM.u j hj, h.u j hj]
  constructor
  · rintro (⟨⟨c, h1, h2⟩ | ho, h3⟩ | ⟨c, h1, -, h2⟩)
    · cases hn : ndS (nbE E.length) c
      · exact absurd ⟨c, h1, hn, h2⟩ h3
      · exact .inl ⟨c, hn, (hM.bb c h1 hn).trans h2⟩
    · exact .inr ho
    · exact .inl ⟨c, h1, h2⟩
  · rintro (⟨c, h1, h2⟩ | ⟨c, h1, h2⟩)
    · cases hn : ndS (nbE E0.length) c
      · exact .inr ⟨c, h1, hn, h2⟩
      · refine .inl ⟨.inl ⟨c, hn, (hM.bb c hn h1).symm.trans h2⟩, fun ⟨c', k1, k2, k3⟩ => ?_⟩
        have := f0.fi.inj c' c k1 hn (by rw [k3, ← hM.bb c hn h1, h2])
        rw [this, h1] at k2
        cases k2
    · exact .inl ⟨.inr ⟨c, h1, h2⟩, fun ⟨c', k1, k2, k3⟩ => h.dj c' c k1 h1 (by rw [k3, h2])⟩
theorem add2 {N : Nat} {g : Cf.Ge} {B0 P0 DA NB TB : Nat} (hg : GG g B0 P0 8 DA NB N) (hNB : 30 ≤ NB) (q p t m d gg K num num' : Nat) (hn : 1 ≤ num ∧ num ≤ 8) (hTB : TB = P0 + (num - 1) / 2) (hne : num' ≠ num) (Y V D : Nat → Nat → Int) (b b' : Nat → Nat) (E E' : List En) (hS : S2 B0 P0 DA NB Y V num b E num' b' E') (hE : E.length ≤ 99) (hE' : E'.length ≤ 4) (hK : K < 150000000) (x : En) (hx : x.2 < 65536) (w : World) (h : Gr w q p t m d gg 0 g B0 NB N ⟨dl B0 TB DA b (ndS (nbE E.length)) L9, D⟩ Y K) :
    Calls Tryz.prog 22 #[.pointer (some ⟨q, 0, none⟩), .int .i64 num, .agg (enc x).toArray] w fun r w' => r = .returned (.int .i64 (addC E x)) ∧ Kf w w' [t, m, d, gg] ∧ ((¬ addC E x = 0 ∧ Gr w' q p t m d gg 0 g B0 NB N ⟨dl B0 TB DA b (ndS (nbE E.length)) L9, D⟩ Y (K + 30000)) ∨
      (addC E x = 0 ∧ ∃ Y' V' b1, Gr w' q p t m d gg 0 g B0 NB N ⟨dl B0 TB DA b1 (ndS (nbE (setE E (roomN E) x).length)) L9, D⟩ Y' (K + 30000) ∧ S2 B0 P0 DA NB Y' V' num b1 (setE E (roomN E) x) num' b' E')) := by
  have hlts := h.lts
  refine (dadd_any (ln := ⟨dl B0 TB DA b (ndS (nbE E.length)) L9, D⟩) q p t m d gg 0 B0 P0 8 DA NB N K g Y V num hn.1 (by omega) b E hS.dir hS.tab (by omega) hg w h x hx (fun c w' => c = 0 ∧ Kf w w' [t, m, d, gg] ∧ ∃ Y' V' b1, Gr w' q p t m d gg 0 g B0 NB N ⟨dl B0 TB DA b1 (ndS (nbE (setE E (roomN E) x).length)) L9, D⟩ Y' (K + 30000) ∧ S2 B0 P0 DA NB Y' V' num b1 (setE E (roomN E) x) num' b' E') (fun hnc hx0 hno i hi W sb hG hk hsb hF => ?_)).mono ?_
  · have hir := room_eq E i hi
    have hi1 := hi.1
    have hl := setE_len E i x hi1
    have he : okE x := ⟨by omega, hx, hnc⟩
    refine (dwrite_in q p t m d gg 0 B0 P0 8 DA NB N (K + 1001) TB g Y V b L9 D (by rw [L9_len]; decide) num hTB hn.1 (by omega) E hS.dir hS.tab (by omega) hg W hG i hi1 (by omega) x (.inr he) (fun j hj => L9_has (i / 4) (by omega) j hj) sb hF (fun ha => by
      simp only [List.mem_cons, List.not_mem_nil, or_false] at ha
      omega)).mono ?_
    rintro r w' (⟨Y', f, B, rfl, hG', hk', hT, hDd, hMv⟩ | ⟨Y', ln, B, n, -, -, -, -, hall, hn1, -, hB, hu⟩)
    · rw [← hir]
      exact ⟨0, rfl, hk', rfl, hk.trans hk', Y', vput num f V, B, hG'.mono (Lm.le_refl _) (by omega), hS.move hg (by omega) hne hT hDd hMv⟩
    · exfalso
      have hL9 : ∀ c, n c = true → c ∈ L9 := fun c hc => L9_nd _ c (by unfold nbE; omega) (hn1 c hc)
      have hne3 : ∀ c, c ∈ L9 → c ≠ 3000 := fun c hc => by
        rw [L9_mem] at hc
        omega
      have := no_space NB (fun c => if c = 3000 then true else n c) (fun c => if c = 3000 then b' 0 else B c) (3000 :: L9) (fun c hc => by
        by_cases h3 : c = 3000
        · exact h3 ▸ List.mem_cons_self ..
        · rw [if_neg h3] at hc
          exact List.mem_cons_of_mem _ (hL9 c hc)) (fun j hj => by
        have h2 : ∀ c, n c = true → B c = j + 1 → ∃ c, (if c = 3000 then true else n c) = true ∧ (if c = 3000 then b' 0 else B c) = j + 1 := fun c h1 h2 => by
          have := hne3 c (hL9 c h1)
          exact ⟨c, by rw [if_neg this]; exact h1, by rw [if_neg this]; exact h2⟩
        have := (hu j hj).1 (hall j hj)
        rw [hS.u j hj] at this
        rcases this with (⟨c, k1, k2⟩ | ⟨c, k1, k2⟩) | ⟨c, k1, -, k2⟩
        · obtain ⟨h3, h4⟩ := hB c k1
          exact h2 c h3 (by rw [h4]; exact k2)
        · have h0 : c = 0 := by
            rw [ndS_iff] at k1
            unfold nbE at k1
            omega
          subst h0
          exact ⟨3000, by rw [if_pos rfl], by rw [if_pos rfl]; exact k2⟩
        · exact h2 c k1 k2)
      rw [List.length_cons, L9_len] at this
      omega
  · rintro r w' ⟨c, rfl, (⟨h1, h2, h3, h4⟩ | ⟨h1, rfl, h3, h4⟩)⟩
    · exact ⟨by rw [h2], h4, .inl ⟨h1, h3.mono (Lm.le_refl _) (by omega)⟩⟩
    · exact ⟨by rw [h1], h3, .inr ⟨h1, h4⟩⟩
theorem turn0 {N : Nat} {g : Cf.Ge} {B0 P0 DA NB TB : Nat} (hg : GG g B0 P0 8 DA NB N) (q p t m d gg K num : Nat) (hn : 1 ≤ num ∧ num ≤ 8) (hTB : TB = P0 + (num - 1) / 2) (Y V D : Nat → Nat → Int) (b : Nat → Nat) (E : List En) (hD : Dir B0 DA NB Y (V num) b E) (hT : Tab P0 8 Y V) (hE : E.length ≤ 100) (hK : K < 150000000) (x : En) (hx : x.2 < 65536) (w : World) (h : Gr w q p t m d gg 0 g B0 NB N ⟨dl B0 TB DA b (ndS (nbE E.length)) L9, D⟩ Y K) :
    Calls Tryz.prog 18 #[.pointer (some ⟨q, 0, none⟩), .int .i64 num, .agg (enc x).toArray] w fun r w' => r = .returned (.int .i64 (turnC E x)) ∧ Kf w w' [t, m, d, gg] ∧ ((¬ turnC E x = 0 ∧ Gr w' q p t m d gg 0 g B0 NB N ⟨dl B0 TB DA b (ndS (nbE E.length)) L9, D⟩ Y (K + 30000)) ∨
      (turnC E x = 0 ∧ ∃ Y' f b1, Gr w' q p t m d gg 0 g B0 NB N ⟨dl B0 TB DA b1 (ndS (nbE (setE E (findN x.1 E) x).length)) L9, D⟩ Y' (K + 30000) ∧ Tab P0 8 Y' (vput num f V) ∧ Dir B0 DA NB Y' f b1 (setE E (findN x.1 E) x) ∧ Mv B0 TB DA NB Y (nbE E.length) b Y' (nbE (setE E (findN x.1 E) x).length) b1)) := by
  have hlts := h.lts
  refine (dturn_any (ln := ⟨dl B0 TB DA b (ndS (nbE E.length)) L9, D⟩) q p t m d gg 0 B0 P0 8 DA NB N K g Y V num hn.1 (by omega) b E hD hT (by omega) hg w h x hx (fun c w' => c = 0 ∧ Kf w w' [t, m, d, gg] ∧ ∃ Y' f b1, Gr w' q p t m d gg 0 g B0 NB N ⟨dl B0 TB DA b1 (ndS (nbE (setE E (findN x.1 E) x).length)) L9, D⟩ Y' (K + 30000) ∧ Tab P0 8 Y' (vput num f V) ∧ Dir B0 DA NB Y' f b1 (setE E (findN x.1 E) x) ∧ Mv B0 TB DA NB Y (nbE E.length) b Y' (nbE (setE E (findN x.1 E) x).length) b1) (fun hx0 i e hie hme hfi W sb hG hk hsb hF => ?_)).mono ?_
  · have hii := find_eq x.1 E i e hie hme hfi
    have hil : i < E.length := (List.getElem?_eq_some_iff.1 hie).1
    have hnm := mtE_name hme
    have hvz : vacE e = false := by
      unfold mtE at hme
      cases hv : vacE e
      · rfl
      · rw [hv] at hme
        cases hme
    have heok : okE e := (hD.ok e (List.mem_of_getElem? hie)).resolve_left (fun hz => by
      rw [hz, zE_vac] at hvz
      cases hvz)
    have he : okE x := ⟨by omega, hx, hnm ▸ heok.2.2⟩
    have hl : (setE E i x).length = E.length := by rw [setE_len E i x (by omega)]; omega
    refine (dwrite_in q p t m d gg 0 B0 P0 8 DA NB N (K + 1001) TB g Y V b L9 D (by rw [L9_len]; decide) num hTB hn.1 (by omega) E hD hT (by omega) hg W hG i (by omega) (by omega) x (.inr he) (fun j hj => L9_has (i / 4) (by omega) j hj) sb hF (fun ha => by
      simp only [List.mem_cons, List.not_mem_nil, or_false] at ha
      omega)).mono ?_
    rintro r w' (⟨Y', f, B, rfl, hG', hk', hT', hDd, hMv⟩ | ⟨Y', ln, B, n, -, -, -, -, -, -, ⟨c, k1, k2⟩, hB, -⟩)
    · rw [← hii]
      exact ⟨0, rfl, hk', rfl, hk.trans hk', Y', f, B, hG'.mono (Lm.le_refl _) (by omega), hT', hDd, hMv⟩
    · exfalso
      rw [hl] at k2
      rw [(hB c k2).1] at k1
      cases k1
  · rintro r w' ⟨c, rfl, (⟨h1, h2, h3, h4⟩ | ⟨h1, rfl, h3, h4⟩)⟩
    · exact ⟨by rw [h2], h4, .inl ⟨h1, h3.mono (Lm.le_refl _) (by omega)⟩⟩
    · exact ⟨by rw [h1], h3, .inr ⟨h1, h4⟩⟩
theorem turn2 {N : Nat} {g : Cf.Ge} {B0 P0 DA NB TB : Nat} (hg : GG g B0 P0 8 DA NB N) (q p t m d gg K num num' : Nat) (hn : 1 ≤ num ∧ num ≤ 8) (hTB : TB = P0 + (num - 1) / 2) (hne : num' ≠ num) (Y V D : Nat → Nat → Int) (b b' : Nat → Nat) (E E' : List En) (hS : S2 B0 P0 DA NB Y V num b E num' b' E') (hE : E.length ≤ 100) (hK : K < 150000000) (x : En) (hx : x.2 < 65536) (w : World) (h : Gr w q p t m d gg 0 g B0 NB N ⟨dl B0 TB DA b (ndS (nbE E.length)) L9, D⟩ Y K) :
    Calls Tryz.prog 18 #[.pointer (some ⟨q, 0, none⟩), .int .i64 num, .agg (enc x).toArray] w fun r w' => r = .returned (.int .i64 (turnC E x)) ∧ Kf w w' [t, m, d, gg] ∧ ((¬ turnC E x = 0 ∧ Gr w' q p t m d gg 0 g B0 NB N ⟨dl B0 TB DA b (ndS (nbE E.length)) L9, D⟩ Y (K + 30000)) ∨
      (turnC E x = 0 ∧ ∃ Y' V' b1, Gr w' q p t m d gg 0 g B0 NB N ⟨dl B0 TB DA b1 (ndS (nbE (setE E (findN x.1 E) x).length)) L9, D⟩ Y' (K + 30000) ∧ S2 B0 P0 DA NB Y' V' num b1 (setE E (findN x.1 E) x) num' b' E')) := by
  refine (turn0 hg q p t m d gg K num hn hTB Y V D b E hS.dir hS.tab hE hK x hx w h).mono ?_
  rintro r w' ⟨h1, h2, (h3 | ⟨h3, Y', f, b1, h4, h5, h6, h7⟩)⟩
  · exact ⟨h1, h2, .inl h3⟩
  · exact ⟨h1, h2, .inr ⟨h3, Y', vput num f V, b1, h4, hS.move hg (by omega) hne h5 h6 h7⟩⟩
theorem drop2 {N : Nat} {g : Cf.Ge} {B0 P0 DA NB TB : Nat} (hg : GG g B0 P0 8 DA NB N) (q p t m d gg K num num' : Nat) (hn : 1 ≤ num ∧ num ≤ 8) (hTB : TB = P0 + (num - 1) / 2) (hne : num' ≠ num) (Y V D : Nat → Nat → Int) (b b' : Nat → Nat) (E E' : List En) (hS : S2 B0 P0 DA NB Y V num b E num' b' E') (hE : E.length ≤ 100) (hK : K < 150000000) (s : ByteArray) (w : World) (h : Gr w q p t m d gg 0 g B0 NB N ⟨dl B0 TB DA b (ndS (nbE E.length)) L9, D⟩ Y K) :
    Calls Tryz.prog 16 #[.pointer (some ⟨q, 0, none⟩), .int .i64 num, .string s] w fun r w' => Kf w w' [t, m, d, gg] ∧ (((∀ e ∈ E, mtE s e = false) ∧ r = .returned (.int .i64 3) ∧ Gr w' q p t m d gg 0 g B0 NB N ⟨dl B0 TB DA b (ndS (nbE E.length)) L9, D⟩ Y (K + 40000)) ∨
      (E.any (mtE s) = true ∧ r = .returned (.int .i64 0) ∧ ∃ Y' V' b1, Gr w' q p t m d gg 0 g B0 NB N ⟨dl B0 TB DA b1 (ndS (nbE E.length)) L9, D⟩ Y' (K + 40000) ∧ S2 B0 P0 DA NB Y' V' num b1 ((E.set (findN s E) zE).take (usedN (E.set (findN s E) zE))) num' b' E')) := by
  refine (ddrop_in q p t m d gg 0 B0 P0 8 DA NB N K TB g Y V b L9 D (by rw [L9_len]; decide) num hTB hn.1 (by omega) E hS.dir hS.tab hK hg (fun c hc j hj => L9_has c (by omega) j hj) w h s).mono ?_
  rintro r w' ⟨hk, (⟨h1, rfl, h3⟩ | ⟨i, e, u, Y', f, B, hie, hme, hfi, hu, rfl, hG, hT, hDd, hMv⟩)⟩
  · exact ⟨hk, .inl ⟨h1, rfl, h3.mono (Lm.le_refl _) (by omega)⟩⟩
  · have hii := find_eq s E i e hie hme hfi
    have huu := used_eq _ u hu
    have hul := hu.1
    have hlen : ((E.set i zE).take u).length = u := by rw [List.length_take]; omega
    rw [hii] at huu
    rw [← hlen] at hMv
    have := hS.move hg (by omega) hne hT hDd hMv
    rw [hii, huu] at this
    exact ⟨hk, .inr ⟨List.any_eq_true.2 ⟨e, List.mem_of_getElem? hie, hme⟩, rfl, Y', vput num f V, B, hG, this⟩⟩
theorem setG_mk : setG (mkN 2) 1 = own 2 := by
  funext i
  unfold setG mkN own
  by_cases h0 : i = 0
  · rw [if_neg (by omega), if_pos h0, if_pos h0]
  · by_cases h1 : i = 1
    · rw [if_neg (by omega), if_neg h0, if_pos h1, if_neg h0, if_pos h1]
    · by_cases h2 : i = 2
      · rw [if_pos h2, if_neg h0, if_neg h1, if_pos h2]
      · rw [if_neg h2, if_neg h0, if_neg h1, if_neg h0, if_neg h1, if_neg h2]
theorem Dir.fresh (B0 DA NB : Nat) (Y : Nat → Nat → Int) : Dir B0 DA NB Y (own 2) (fun _ => 0) [] := by
  refine ⟨rfl, by decide, rfl, by decide, ?_, (fun e he => by cases he), fun i hi => absurd hi (Nat.not_lt_zero _)⟩
  exact Fu.none B0 DA NB Y (own 2) _ (fun i h4 _ => own_noblocks 2 i h4)
/-- a second directory has been made -/
theorem S2.made {g : Cf.Ge} {B0 P0 DA NB N : Nat} (hg : GG g B0 P0 8 DA NB N) {Y : Nat → Nat → Int} (hT : Tab P0 8 Y (VF 3)) (hb : ∀ j, j < 512 → bt Y B0 j = false) : S2 B0 P0 DA NB (tabW P0 4 (own 2) Y) (vput 4 (own 2) (VF 3)) 4 (fun _ => 0) [] 1 (fun _ => 0) [] := by
  have hV : VF 3 1 = own 2 := by
    unfold VF
    rw [if_pos (by decide)]
    rfl
  have hbp := hg.bp
  have h512 := hg.n512
  have hno : ∀ c, ndS (nbE ([] : List En).length) c = true → False := fun c hc => by
    rw [ndS_iff] at hc
    unfold nbE at hc
    simp at hc
  refine ⟨hT.wr 4 (by decide) (by decide) (own 2) (own_ok 1) (own_code 1), by rw [vput_at]; exact Dir.fresh .., by rw [vput_ne _ _ (by decide), hV]; exact Dir.fresh .., fun c c' h1 => absurd h1 (fun h => hno c h), fun j hj => ?_⟩
  have : bt (tabW P0 4 (own 2) Y) B0 j = bt Y B0 j := by
    unfold bt
    rw [tabW_ne P0 4 (own 2) Y (B0 + j / 512) (by omega)]
  rw [this, hb j (by omega)]
  constructor
  · intro h
    cases h
  · rintro (⟨c, h1, -⟩ | ⟨c, h1, -⟩)
    · exact absurd h1 (fun h => hno c h)
    · exact absurd h1 (fun h => hno c h)
end Go.Proofs.YtgfgdfcedmcjeaaGreatDoor
