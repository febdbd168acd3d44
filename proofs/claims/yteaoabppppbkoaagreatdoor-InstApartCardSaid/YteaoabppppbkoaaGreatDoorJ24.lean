import Derived.Test.YteaoabppppbkoaaGreatDoorJ23
/- Directories: the laws: configurations, the only directory of a group. -/
/- Own directories: the laws: a group with a table. -/
/- Own directories: the laws: their configuration, Awake. -/
/- Own directories: InstNone. -/

namespace Go.Proofs.YteaoabppppbkoaaGreatDoor
set_option linter.unusedSimpArgs false
set_option linter.unusedVariables false
open Go.RowKit Go.Maps

/-- what is known of a configuration of these laws, and of its first label's group -/
structure C9 (R : List Cf.Rg) (NB N : Nat) (g : Cf.Ge) (B0 P0 DA : Nat) : Prop where
  l2 : R.length = 2
  sm : ∀ r ∈ R, Cf.Small r
  hN : (Cf.layF R).2 = N
  n0 : 32 ≤ N
  n1 : N ≤ 65536
  hg : (Cf.layF R).1[0]'(by rw [Cf.lay_len, l2]; decide) = g
  gg : GG g B0 P0 8 DA NB N
/-- the only directory of a group: its table, its places, the bits that are set -/
structure S1 (B0 P0 DA NB : Nat) (Y V : Nat → Nat → Int) (b : Nat → Nat) (E : List En) : Prop where
  tab : Tab P0 8 Y V
  dir : Dir B0 DA NB Y (V 1) b E
  u : ∀ j, j < NB → (bt Y B0 j = true ↔ ∃ c, ndS (nbE E.length) c = true ∧ b c = j + 1)
theorem S1.fresh {B0 P0 DA NB : Nat} {Y : Nat → Nat → Int} (hT : Tab P0 8 Y (VF 3)) (hb : ∀ j, j < 512 → bt Y B0 j = false) (hN : NB ≤ 512) : S1 B0 P0 DA NB Y (VF 3) (fun _ => 0) [] := by
  have hV : VF 3 1 = own 2 := by
    unfold VF
    rw [if_pos (by decide)]
    rfl
  refine ⟨hT, ?_, fun j hj => ?_⟩
  · rw [hV]
    refine ⟨rfl, by decide, rfl, by decide, ?_, (fun e he => by cases he), fun i hi => absurd hi (Nat.not_lt_zero _)⟩
    exact Fu.none B0 DA NB Y (own 2) _ (fun i h4 _ => own_noblocks 2 i h4)
  · rw [hb j (by omega)]
    constructor
    · intro h
      cases h
    · rintro ⟨c, hc, -⟩
      rw [ndS_iff] at hc
      unfold nbE at hc
      simp at hc
theorem S1.move {B0 P0 TB DA NB : Nat} {Y0 V0 Y V : Nat → Nat → Int} {b0 b : Nat → Nat} {E0 E : List En} (h : S1 B0 P0 DA NB Y0 V0 b0 E0) (hT : Tab P0 8 Y V) (hD : Dir B0 DA NB Y (V 1) b E) (hM : Mv B0 TB DA NB Y0 (nbE E0.length) b0 Y (nbE E.length) b) : S1 B0 P0 DA NB Y V b E := by
  refine ⟨hT, hD, fun j hj => ?_⟩
  rw [hM.u j hj, h.u j hj]
  constructor
  · rintro (⟨⟨c, h1, h2⟩, h3⟩ | ⟨c, h1, -, h2⟩)
    · cases hn : ndS (nbE E.length) c
      · exact absurd ⟨c, h1, hn, h2⟩ h3
      · exact ⟨c, hn, (hM.bb c h1 hn).trans h2⟩
    · exact ⟨c, h1, h2⟩
  · rintro ⟨c, h1, h2⟩
    cases hn : ndS (nbE E0.length) c
    · exact .inr ⟨c, h1, hn, h2⟩
    · refine .inl ⟨⟨c, hn, (hM.bb c hn h1).symm.trans h2⟩, fun ⟨c', k1, k2, k3⟩ => ?_⟩
      have := h.dir.fu.fi.inj c' c k1 hn (by rw [k3, ← hM.bb c hn h1, h2])
      rw [this, h1] at k2
      cases k2
end Go.Proofs.YteaoabppppbkoaaGreatDoor

namespace Go.Proofs.YteaoabppppbkoaaGreatDoor
set_option linter.unusedSimpArgs false
set_option linter.unusedVariables false
open Go.RowKit Go.Maps

/-- the slots that a table of some sixty records touches, and blocks of others -/
def LI (X : List Nat) : List Nat := 2000 :: (List.range 8 ++ X.map (3000 + ·))
theorem LI_len (X : List Nat) : (LI X).length = 9 + X.length := by
  unfold LI
  simp
  omega
theorem LI_ext {X : List Nat} {x : Nat} (h : x ∈ X) : 3000 + x ∈ LI X := by
  unfold LI
  exact List.mem_cons_of_mem _ (List.mem_append_right _ (List.mem_map.2 ⟨x, h, rfl⟩))
theorem LI_has (X : List Nat) (c : Nat) (hc : c < 8) (i : Nat) (hi : i ≤ lenC c) : chS c i ∈ LI X := by
  have := (chS_cases c (by omega) (chS c i)).1 ⟨i, hi, rfl⟩
  unfold LI
  simp only [List.mem_cons, List.mem_append, List.mem_range]
  omega
/-- a group whose bits are its table's slots -/
structure T1 (B0 P0 M DA NB : Nat) (Y V : Nat → Nat → Int) (b : Nat → Nat) (E : List Rc) : Prop where
  tab : Tab P0 M Y V
  it : It B0 DA NB Y (V 2) b E
  u : ∀ j, j < NB → (bt Y B0 j = true ↔ ∃ c, ndS (nbT E.length) c = true ∧ b c = j + 1)
theorem It.fresh (B0 DA NB : Nat) (Y : Nat → Nat → Int) : It B0 DA NB Y (own 1) (fun _ => 0) [] := by
  refine ⟨rfl, by decide, rfl, by decide, ?_, (fun e he => by cases he), fun i hi => absurd hi (Nat.not_lt_zero _)⟩
  exact Fu.none B0 DA NB Y (own 1) _ (fun i h4 _ => own_noblocks 1 i h4)
theorem VF32 : VF 3 2 = own 1 := by
  unfold VF
  rw [if_pos (by decide)]
  rfl
theorem T1.fresh {B0 P0 M DA NB : Nat} {Y : Nat → Nat → Int} (hT : Tab P0 M Y (VF 3)) (hb : ∀ j, j < 512 → bt Y B0 j = false) (hN : NB ≤ 512) : T1 B0 P0 M DA NB Y (VF 3) (fun _ => 0) [] := by
  refine ⟨hT, ?_, fun j hj => ?_⟩
  · rw [VF32]
    exact It.fresh ..
  · rw [hb j (by omega)]
    constructor
    · intro h
      cases h
    · rintro ⟨c, hc, -⟩
      rw [ndS_iff] at hc
      unfold nbT at hc
      simp at hc
theorem T1.move {B0 P0 M TB DA NB : Nat} {Y0 V0 Y V : Nat → Nat → Int} {b0 b : Nat → Nat} {E0 E : List Rc} (h : T1 B0 P0 M DA NB Y0 V0 b0 E0) (hT : Tab P0 M Y V) (hD : It B0 DA NB Y (V 2) b E) (hM : Mv B0 TB DA NB Y0 (nbT E0.length) b0 Y (nbT E.length) b) : T1 B0 P0 M DA NB Y V b E := by
  refine ⟨hT, hD, fun j hj => ?_⟩
  rw [hM.u j hj, h.u j hj]
  constructor
  · rintro (⟨⟨c, h1, h2⟩, h3⟩ | ⟨c, h1, -, h2⟩)
    · cases hn : ndS (nbT E.length) c
      · exact absurd ⟨c, h1, hn, h2⟩ h3
      · exact ⟨c, hn, (hM.bb c h1 hn).trans h2⟩
    · exact ⟨c, h1, h2⟩
  · rintro ⟨c, h1, h2⟩
    cases hn : ndS (nbT E0.length) c
    · exact .inr ⟨c, h1, hn, h2⟩
    · refine .inl ⟨⟨c, hn, (hM.bb c hn h1).symm.trans h2⟩, fun ⟨c', k1, k2, k3⟩ => ?_⟩
      have := h.it.fu.fi.inj c' c k1 hn (by rw [k3, ← hM.bb c hn h1, h2])
      rw [this, h1] at k2
      cases k2
/-- another node of the table is put, the table and the bits stay -/
theorem T1.made {g : Cf.Ge} {B0 P0 M DA NB N : Nat} (hg : GG g B0 P0 M DA NB N) {Y V : Nat → Nat → Int} {b : Nat → Nat} {E : List Rc} (h : T1 B0 P0 M DA NB Y V b E) (n0 : Nat) (k1 : 1 ≤ n0) (k2 : n0 ≤ M) (k3 : n0 ≠ 2) (f : Nat → Int) (hf : NdOk f) (hc : codeN f = 0) : T1 B0 P0 M DA NB (tabW P0 n0 f Y) (vput n0 f V) b E := by
  have hpd := hg.pd
  have hbp := hg.bp
  have h512 := hg.n512
  have hne : ∀ z, z < P0 ∨ DA ≤ z → tabW P0 n0 f Y z = Y z := fun z hzz => tabW_ne _ _ _ _ _ (by omega)
  have hbt : ∀ j, j < 512 → bt (tabW P0 n0 f Y) B0 j = bt Y B0 j := fun j hj => by
    unfold bt
    rw [hne _ (.inl (by omega))]
  have hD := h.it
  refine ⟨h.tab.wr n0 k1 k2 f hf hc, ?_, fun j hj => by rw [hbt j (by omega)]; exact h.u j hj⟩
  rw [vput_ne _ _ k3]
  refine ⟨hD.k, hD.l, hD.s, hD.n, ⟨hD.fu.fi.congr (fun c hc _ => hne _ (.inr (by omega))), fun c hc => ?_⟩, hD.ok, fun i hi => ?_⟩
  · have hr := hD.fu.fi.rng c hc
    rw [hbt _ (by omega)]
    exact hD.fu.us c hc
  · rw [← hD.ct i hi]
    unfold ctF
    rw [hne _ (.inr (by omega))]
/-- where a group's own blocks are the same -/
theorem T1.same {B0 P0 M DA NB : Nat} {Y Y' V : Nat → Nat → Int} {b : Nat → Nat} {E : List Rc} (h : T1 B0 P0 M DA NB Y V b E) (hg : B0 + 1 ≤ P0 ∧ P0 + (M + 1) / 2 ≤ DA ∧ NB ≤ 512) (hY : ∀ z, B0 ≤ z → z < DA + NB → Y' z = Y z) : T1 B0 P0 M DA NB Y' V b E := by
  obtain ⟨hbp, hpd, h512⟩ := hg
  have hbt : ∀ j, j < NB → bt Y' B0 j = bt Y B0 j := fun j hj => by
    unfold bt
    rw [hY _ (by omega) (by omega)]
  have hD := h.it
  refine ⟨h.tab.congr (fun z h1 h2 => hY z (by omega) (by omega)), ⟨hD.k, hD.l, hD.s, hD.n, ⟨hD.fu.fi.congr (fun c hc _ => ?_), fun c hc => ?_⟩, hD.ok, fun i hi => ?_⟩, fun j hj => by rw [hbt j hj]; exact h.u j hj⟩
  · have hr := hD.fu.fi.rng c hc
    exact hY _ (by omega) (by omega)
  · have hr := hD.fu.fi.rng c hc
    rw [hbt _ (by omega)]
    exact hD.fu.us c hc
  · rw [← hD.ct i hi]
    unfold ctF
    have hc : ndS ((8 * E.length + 63) / 64) (i / 64) = true := (ndS_iff _ _).2 (by have := hD.n; omega)
    have hr := hD.fu.fi.rng _ hc
    rw [hY _ (by omega) (by omega)]
def roomR : List Rc → Nat
  | [] => 0
  | e :: E => if vacR e = true then 0 else roomR E + 1
theorem roomR_eq : ∀ (E : List Rc) (i : Nat), isRoomR E i → i = roomR E
  | [], i, h => by
    have := h.1
    show i = 0
    simpa using this
  | e :: E, i, ⟨h1, h2, h3⟩ => by
    unfold roomR
    cases hv : vacR e
    · rw [if_neg (by decide)]
      cases i with
      | zero =>
        rcases h3 with h3 | ⟨e', he, hv'⟩
        · simp at h3
        · simp only [List.getElem?_cons_zero, Option.some.injEq] at he
          rw [← he, hv] at hv'
          cases hv'
      | succ i =>
        rw [← roomR_eq E i ⟨by simpa using h1, fun j e' hj he => h2 (j + 1) e' (by omega) (by rw [List.getElem?_cons_succ]; exact he), h3.imp (fun h => by simpa using h) (fun ⟨e', he, hv'⟩ => ⟨e', by rw [List.getElem?_cons_succ] at he; exact he, hv'⟩)⟩]
    · rw [if_pos rfl]
      cases i with
      | zero => rfl
      | succ i =>
        have := h2 0 e (Nat.zero_lt_succ _) rfl
        rw [hv] at this
        cases this
theorem ineed1 {N : Nat} {g : Cf.Ge} {B0 P0 M DA NB : Nat} (hg : GG g B0 P0 M DA NB N) (hNB : 10 ≤ NB) (X : List Nat) (hX : X.length ≤ 19) (q p t m d gg lab n K : Nat) (Y V D : Nat → Nat → Int) (b : Nat → Nat) (E : List Rc) (hS : T1 B0 P0 M DA NB Y V b E) (hE : E.length ≤ 60) (hK : K < 100000000) (x : In) (hx : bdI x) (hx0 : 0 < x.2.1) (hno : ∀ e ∈ E, mtI x e = false) (w : World) (h : Gr w q p t m d gg lab g B0 NB N ⟨dl B0 P0 DA b (ndS (nbT E.length)) (LI X), D⟩ Y K)
    (hal : ∀ e ∈ E, vacR e = false → ∀ W K', K' ≤ K + 5000 → Kf w W [t, m, d, gg] → Rd W t m d gg N ⟨dl B0 P0 DA b (ndS (nbT E.length)) (LI X), D⟩ Y K' → Calls Tryz.prog 49 #[.pointer (some ⟨t, 0, none⟩), .pointer (some ⟨n, 0, none⟩), .agg (ink e.1).toArray] W fun r w' => r = .returned (.tuple #[.bool true, .int .i64 0]) ∧ Rd w' t m d gg N ⟨dl B0 P0 DA b (ndS (nbT E.length)) (LI X), D⟩ Y (K' + 1) ∧ Kf W w' [t, m, d, gg])
    (n0 : Nat) (k1 : 4 ≤ n0) (k2 : n0 ≤ M) (hz : V n0 0 = 0) (hnz : ∀ j, 1 ≤ j → j < n0 → V j 0 ≠ 0) (gn : Int) (hgn : IntKind.u16.wrap (V n0 2 + 1) = gn) (g0 : 0 ≤ gn) (g1 : gn < 65536) (hT : P0 + (n0 - 1) / 2 ∈ X) :
    Calls Tryz.prog 35 #[.pointer (some ⟨t, 0, none⟩), .pointer (some ⟨n, 0, none⟩), .pointer (some ⟨q, 0, none⟩), .agg (ink x).toArray] w fun r w' => r = .returned (.tuple #[.int .i64 n0, .int .i64 0]) ∧ Kf w w' [t, m, d, gg] ∧ ∃ Y' V' b', Gr w' q p t m d gg lab g B0 NB N ⟨dl B0 P0 DA b' (ndS (nbT (setR E (roomR E) (x, n0)).length)) (LI X), D⟩ Y' (K + 40000) ∧ T1 B0 P0 M DA NB Y' V' b' (setR E (roomR E) (x, n0)) ∧ (∀ j, j ≠ 2 → V' j = vput n0 (setG (mkN 2) gn) V j) ∧ ∀ z, z < B0 ∨ DA + NB ≤ z → Y' z = Y z := by
  have hm4 := hg.m4
  have hlenL : (LI X).length ≤ 28 := by rw [LI_len]; omega
  refine (ineed_new (ln := ⟨dl B0 P0 DA b (ndS (nbT E.length)) (LI X), D⟩) q p t m d gg lab B0 P0 M DA NB N K n g Y V (by omega) b E hS.it hS.tab (by omega) hg w h x hx hx0 hno hal n0 k1 k2 hz hnz gn hgn g0 g1 ⟨dl_ext B0 P0 DA b _ _ _ (LI_ext hT), Ly.len _ hlenL B0 P0 DA b _⟩
    (fun c w' => c = 0 ∧ Kf w w' [t, m, d, gg] ∧ ∃ Y' V' b', Gr w' q p t m d gg lab g B0 NB N ⟨dl B0 P0 DA b' (ndS (nbT (setR E (roomR E) (x, n0)).length)) (LI X), D⟩ Y' (K + 40000) ∧ T1 B0 P0 M DA NB Y' V' b' (setR E (roomR E) (x, n0)) ∧ (∀ j, j ≠ 2 → V' j = vput n0 (setG (mkN 2) gn) V j) ∧ ∀ z, z < B0 ∨ DA + NB ≤ z → Y' z = Y z) (fun Y1 hY1 i hi W sb hG hk hsb hF => ?_)).mono ?_
  · have hir := roomR_eq E i hi
    have hi1 := hi.1
    have hl := setR_len E i (x, n0) hi1
    have hm128 := hg.m128
    have hS1 := hS.made hg n0 (by omega) k2 (by omega) (setG (mkN 2) gn) (setG_ok (mkN_ok 2 (by decide) (by decide)) g0 g1) (setG_code gn (by decide) (mkN_mbl 2 rfl))
    rw [hY1] at hS1
    have he : okR (x, n0) := ⟨⟨hx, by show n0 < 65536; omega⟩, hx0, by show 3 < n0; omega⟩
    have hlts := h.lts
    refine (iwrite_in q p t m d gg lab B0 P0 M DA NB N (K + 6000) P0 g Y1 (vput n0 (setG (mkN 2) gn) V) b (LI X) D hlenL (by omega) (by omega) E hS1.it hS1.tab (by omega) hg W hG i hi1 (by omega) (x, n0) (.inr he) (fun j hj => LI_has X (i / 8) (by omega) j hj) sb hF (fun ha => by
      simp only [List.mem_cons, List.not_mem_nil, or_false] at ha
      omega)).mono ?_
    rintro r w' (⟨Y', f, B, rfl, hG', hk', hT', hDd, hMv⟩ | ⟨Y', ln, B, n, -, -, -, -, hall, hn1, -, hB, hu⟩)
    · have hbp := hg.bp
      have hpd := hg.pd
      rw [← hir]
      refine ⟨0, rfl, hk', rfl, hk.trans hk', Y', vput 2 f (vput n0 (setG (mkN 2) gn) V), B, hG'.mono (Lm.le_refl _) (by omega), hS1.move hT' (by rw [vput_at]; exact hDd) hMv, fun j hj => vput_ne _ _ (Ne.symm hj), fun z hz => ?_⟩
      rw [hMv.y z (by omega) (by omega) (fun c hc => by have := hS1.it.fu.fi.rng c hc; omega) (fun c hc => by have := hDd.fu.fi.rng c hc; omega), ← hY1, tabW_ne _ _ _ _ _ (by omega)]
    · exfalso
      have := no_space NB n B (2000 :: List.range 8) (fun c hc => by
        have := hn1 c hc
        rw [ndS_iff] at this
        unfold nbT at this
        simp only [List.mem_cons, List.mem_range]
        omega) (fun j hj => by
        have := (hu j hj).1 (hall j hj)
        rw [hS1.u j hj] at this
        rcases this with ⟨c, h1, h2⟩ | ⟨c, h1, -, h2⟩
        · obtain ⟨h3, h4⟩ := hB c h1
          exact ⟨c, h3, by rw [h4]; exact h2⟩
        · exact ⟨c, h1, h2⟩)
      have h9 : (2000 :: List.range 8).length = 9 := rfl
      rw [h9] at this
      omega
  · rintro r w' ⟨c, ⟨rfl, h2, h3⟩, rfl⟩
    exact ⟨by rw [if_pos rfl], h2, h3⟩
end Go.Proofs.YteaoabppppbkoaaGreatDoor

namespace Go.Proofs.YteaoabppppbkoaaGreatDoor
set_option linter.unusedSimpArgs false
set_option linter.unusedVariables false
open Go.RowKit Go.Maps

def H10 : Nat → Nat → Int := fun i j => if i = 0 then (if j = 0 then 30 else if j = 1 then 10 else 0) else if i = 1 then (if j = 0 then 40 else if j = 1 then 11 else 0) else 0
theorem H10_ok : Cf.Hok H10 := fun i j _ _ => by
  unfold H10
  repeat' split
  all_goals decide
def R10 : List Cf.Rg := Cf.sizeRs 2 H10
theorem R10_len : R10.length = 2 := Cf.sizeRs_len 2 (.inl rfl) H10
theorem R10_small : ∀ r ∈ R10, Cf.Small r := Cf.size_small 2 (.inl rfl) H10 H10_ok
set_option maxHeartbeats 8000000 in
theorem small10 (w : World) : Calls Tryz.prog 31 #[] w fun e w' => ∃ n vr vm vg, e = .returned (.pointer (some ⟨n + 3, 0, none⟩)) ∧ w.heap.size ≤ n ∧ Below w.heap.size w w' ∧ Cf.CF n w' vr vm vg R10 [] := by
  have hP := Lib.hid (fun W => Cf.sizeconf_two 0 (by decide) (by decide) H10 H10_ok (.slice none 0 0) [] (fun x hx => by cases hx) W (u8s_none W) (by decide) rfl)
  have e : Cf.sizeVal 0 H10 (.slice none 0 0) = (.agg #[.int .u8 0, .int .u8 30, .int .u8 10, .int .u8 0, .int .u8 0, .int .u8 0, .int .u8 40, .int .u8 11, .int .u8 0, .int .u8 0, .int .u8 0, .int .u8 0, .int .u8 0, .int .u8 0, .int .u8 0, .int .u8 0, .int .u8 0, .int .u8 0, .int .u8 0, .int .u8 0, .int .u8 0, .int .u8 0, .int .u8 0, .int .u8 0, .int .u8 0, .int .u8 0, .slice none 0 0]) := by kernel_rfl
  rw [e] at hP
  clear e
  go_enter Tryz.func31, Tryz.ntmps31
  go_wp2_with fail
  refine (hP.out w).mono ?_
  rintro e w1 ⟨n, vr, vm, vg, rfl, hn, hb, hCF⟩
  have HCF := Lib.hid hCF
  have HB := Lib.hid hb
  clear hCF hb hP
  go_wp2_with fail
  go_ret
  exact ⟨n, vr, vm, vg, rfl, hn, HB.out, HCF.out⟩
/-- what is known of that configuration, and of its labels' groups -/
structure C10 (N : Nat) (g0 : Cf.Ge) (B0 P0 D0 : Nat) (g1 : Cf.Ge) (B1 P1 D1 : Nat) : Prop where
  hN : (Cf.layF R10).2 = N
  n0 : 32 ≤ N
  n1 : N ≤ 65536
  hg0 : (Cf.layF R10).1[0]'(by rw [Cf.lay_len, R10_len]; decide) = g0
  hg1 : (Cf.layF R10).1[1]'(by rw [Cf.lay_len, R10_len]; decide) = g1
  gg0 : GG g0 B0 P0 28 D0 38 N
  gg1 : GG g1 B1 P1 30 D1 48 N
  ap : D0 + 38 ≤ B1
theorem c10 : ∃ N g0 B0 P0 D0 g1 B1 P1 D1, C10 N g0 B0 P0 D0 g1 B1 P1 D1 := by
  refine ⟨149, ⟨32, 1, 14, 47, 38, 28⟩, 32, 33, 47, ⟨85, 1, 15, 101, 48, 30⟩, 85, 86, 101, ?_⟩
  refine ⟨by kernel_rfl, by decide, by decide, by kernel_rfl, by kernel_rfl, ?_, ?_, by decide⟩
  · exact ⟨by decide, by decide, by decide, by decide, by decide, by decide, by decide, by decide, by decide, by decide, by decide, by decide, by decide, by decide⟩
  · exact ⟨by decide, by decide, by decide, by decide, by decide, by decide, by decide, by decide, by decide, by decide, by decide, by decide, by decide, by decide⟩
variable {N : Nat} {g0 : Cf.Ge} {B0 P0 D0 : Nat} {g1 : Cf.Ge} {B1 P1 D1 : Nat}
theorem fresh10 (hc : C10 N g0 B0 P0 D0 g1 B1 P1 D1) (n : Nat) (vr vm vg : Value) (w : World) (h : Cf.CF n w vr vm vg R10 []) :
    Calls Tryz.prog 9 #[.pointer (some ⟨n + 3, 0, none⟩)] w fun e w' => ∃ t m d g' l Y, e = .returned (.tuple #[.pointer (some ⟨d, 0, none⟩), .pointer (some ⟨l, 0, none⟩), .pointer (some ⟨t, 0, none⟩)]) ∧ From w.heap.size t m d g' ∧ w.heap.size ≤ l ∧ l ∉ [t, m, d, g'] ∧ Lg w' l d 1 ∧ Rd w' t m d g' N ⟨[], Y⟩ Y 7000 ∧ (Tab P0 28 Y (VF 3) ∧ ∀ j, j < 512 → bt Y B0 j = false) ∧ (Tab P1 30 Y (VF 3) ∧ ∀ j, j < 512 → bt Y B1 j = false) ∧ Below w.heap.size w w' := by
  have hl := R10_len
  refine (fresh_any n vr vm vg R10 [] R10_small (by rw [hl]; decide) (by rw [hl]; decide) N hc.hN hc.n0 hc.n1 w h).mono ?_
  rintro e w' ⟨t, m, d, g', l, Y, he, h1, h2, h3, h4, h5, h6, h7⟩
  have h8 := h6.done 0 (by rw [hl]; decide) (by rw [hl]; decide)
  rw [hc.hg0] at h8
  have h9 := h6.done 1 (by rw [hl]; decide) (by rw [hl]; decide)
  rw [hc.hg1] at h9
  exact ⟨t, m, d, g', l, Y, he, h1, h2, h3, h4, h5, h8 B0 P0 28 D0 38 hc.gg0, h9 B1 P1 30 D1 48 hc.gg1, h7⟩
theorem open10a (hc : C10 N g0 B0 P0 D0 g1 B1 P1 D1) (ln : Lm) (t m d gg n K : Nat) (Y : Nat → Nat → Int) (vr vm vg : Value) (w : World) (h : Cf.CF n w vr vm vg R10 []) (hr : Rd w t m d gg N ln Y K) :
    Calls Tryz.prog 13 #[.pointer (some ⟨t, 0, none⟩), .pointer (some ⟨n + 3, 0, none⟩), .int .i64 0] w fun e w' => ∃ q p, e = .returned (.tuple #[.pointer (some ⟨q, 0, none⟩), .int .i64 0]) ∧ w.heap.size ≤ q ∧ w.heap.size ≤ p ∧ Gr w' q p t m d gg 0 g0 B0 38 N ln Y K ∧ Below w.heap.size w w' :=
  gopen_in (ln := ln) t m d gg n B0 P0 28 D0 38 N K Y vr vm vg R10 [] 0 (by rw [R10_len]; decide) g0 hc.hg0 hc.gg0 w h hr
theorem open10b (hc : C10 N g0 B0 P0 D0 g1 B1 P1 D1) (ln : Lm) (t m d gg n K : Nat) (Y : Nat → Nat → Int) (vr vm vg : Value) (w : World) (h : Cf.CF n w vr vm vg R10 []) (hr : Rd w t m d gg N ln Y K) :
    Calls Tryz.prog 13 #[.pointer (some ⟨t, 0, none⟩), .pointer (some ⟨n + 3, 0, none⟩), .int .i64 1] w fun e w' => ∃ q p, e = .returned (.tuple #[.pointer (some ⟨q, 0, none⟩), .int .i64 0]) ∧ w.heap.size ≤ q ∧ w.heap.size ≤ p ∧ Gr w' q p t m d gg 1 g1 B1 48 N ln Y K ∧ Below w.heap.size w w' :=
  gopen_in (ln := ln) t m d gg n B1 P1 30 D1 48 N K Y vr vm vg R10 [] 1 (by rw [R10_len]; decide) g1 hc.hg1 hc.gg1 w h hr
theorem VF34 : VF 3 4 = zpt := by
  unfold VF
  rw [if_neg (by decide)]
theorem VF3_low (j : Nat) (h1 : 1 ≤ j) (h2 : j < 4) : VF 3 j 0 ≠ 0 := by
  unfold VF
  rw [if_pos (by omega)]
  have : j = 1 ∨ j = 2 ∨ j = 3 := by omega
  rcases this with rfl | rfl | rfl <;> decide
theorem gen1 : IntKind.u16.wrap (VF 3 4 2 + 1) = 1 := by
  rw [VF34]
  decide
set_option maxHeartbeats 40000000 in
set_option maxRecDepth 2000000 in
theorem awake10 (w : World) : Calls Tryz.prog 30 #[] w fun e w' => e = .returned (.bool true) ∧ Below w.heap.size w w' := by
  obtain ⟨N, g0, B0, P0, D0, g1, B1, P1, D1, hc⟩ := c10
  have HC := Lib.hid hc
  have HG0 := Lib.hid hc.gg0
  have HG1 := Lib.hid hc.gg1
  have HAp := Lib.hid hc.ap
  clear hc
  obtain ⟨dI, huI, hdI⟩ := Tryz.descIno
  have HUI := Lib.hid huI
  have HDI := Lib.hid hdI
  clear huI hdI
  go_enter Tryz.func30, Tryz.ntmps30
  go_wp2_with fail
  refine (small10 w).mono ?_
  rintro e w2 ⟨n, vr, vm, vg, rfl, -, hb2, hCF⟩
  have HB2 := Lib.hid hb2
  have HCF := Lib.hid hCF
  clear hb2 hCF
  go_wp2_with fail
  refine (fresh10 HC.out n vr vm vg w2 HCF.out).mono ?_
  rintro e w3 ⟨t, mm, dd, gg, l, Y0, rfl, hFr, hll, hln, hLg, hRd, ⟨hT0, hb0⟩, ⟨hT1, hb1⟩, hb3⟩
  obtain ⟨ln, hln0⟩ : ∃ x : Lm, x = ⟨dl B1 P1 D1 (fun _ => 0) (ndS (nbT 0)) (LI [P0 + 1, P1 + 1]), Y0⟩ := ⟨_, rfl⟩
  have HLn := Lib.hid hln0
  have HR3 := Lib.hid (hRd.wide (hln0 ▸ Lm.nil_le _ _) : Rd w3 t mm dd gg N ln Y0 7000)
  have HT0 := Lib.hid hT0
  have HS1 := Lib.hid (T1.fresh (P0 := P1) (DA := D1) hT1 hb1 HG1.out.n512)
  have HCFx : Hid (∀ W, Below w2.heap.size w2 W → Cf.CF n W vr vm vg R10 []) := Lib.hid (fun W hk => HCF.out.below hk)
  have HZ3 := Lib.hid hb3
  have HNX : Hid (From w2.heap.size t mm dd gg) := Lib.hid hFr
  have hw2 : w.heap.size ≤ w2.heap.size := HB2.out.size
  have hw3 := hb3.size
  clear hFr hll hln hLg hRd hT0 hb0 hT1 hb1 hb3 HCF hln0
  go_wp2_with fail
  refine (open10b HC.out ln t mm dd gg n 7000 Y0 vr vm vg w3 (HCFx.out w3 HZ3.out) HR3.out).mono ?_
  rintro e w4 ⟨q, p, rfl, hq, hp, hG, hb⟩
  have HGu := Lib.hid hG
  have HB4 := Lib.hid (HZ3.out.trans (hb.mono hw3))
  have hsz4 := HB4.out.size
  clear hG hb HR3 HZ3
  go_wp2_with fail
  refine (open10a HC.out ln t mm dd gg n 7000 Y0 vr vm vg w4 (HCFx.out w4 HB4.out) HGu.out.rd).mono ?_
  rintro e w5 ⟨q0, p0, rfl, hq0, hp0, hG, hb⟩
  have HGl := Lib.hid hG
  have HGu5 := Lib.hid (HGu.out.keep hb)
  have HB5 := Lib.hid (HB4.out.trans (hb.mono hsz4))
  have hsz5 := HB5.out.size
  clear hG hb HGu HB4
  have hTl : Has ln (P0 + (4 - 1) / 2) := by
    rw [HLn.out]
    exact ⟨dl_ext B1 P1 D1 _ _ _ (P0 + 1) (LI_ext (by simp)), Ly.len _ (by rw [LI_len]; show 9 + 2 ≤ 28; decide) B1 P1 D1 _ _⟩
  have HMk := Lib.hid (gmake_in (ln := ln) q0 p0 t mm dd gg 0 B0 P0 28 D0 38 N 7000 g0 Y0 (VF 3) 3 (by decide) (by decide) rfl 4 (by decide) (by decide) (by rw [VF34]; rfl) VF3_low 1 gen1 (by decide) (by decide) hTl (by decide) HT0.out HG0.out w5 HGl.out)
  clear hTl
  go_wp2_with fail
  refine HMk.out.mono ?_
  rintro e w6 ⟨rfl, hG, hk⟩
  obtain ⟨Y1, hY1⟩ : ∃ Y1, tabW P0 4 (setG (mkN 3) 1) Y0 = Y1 := ⟨_, rfl⟩
  rw [hY1] at hG
  have HGl6 := Lib.hid hG
  have hT6 : Tab P0 28 Y1 (vput 4 (setG (mkN 3) 1) (VF 3)) := by
    rw [← hY1]
    exact HT0.out.wr 4 (by decide) (by decide) _ (setG_ok (mkN_ok 3 (by decide) (by decide)) (by decide) (by decide)) (setG_code 1 (by decide) (mkN_mbl 3 rfl))
  have HT6 := Lib.hid hT6
  have HS6 : Hid (T1 B1 P1 30 D1 48 Y1 (VF 3) (fun _ => 0) []) := Lib.hid (by
    have hpd := HG0.out.pd
    have hap := HAp.out
    refine HS1.out.same ⟨HG1.out.bp, HG1.out.pd, HG1.out.n512⟩ fun z hz _ => ?_
    rw [← hY1]
    exact tabW_ne _ _ _ _ _ (by omega))
  have HGu6 := Lib.hid (HGu5.out.call hG.rd hk)
  have HB6 := Lib.hid (HB5.out.trans (hk.below (B := w2.heap.size) (fun a ha => by
    have := HNX.out
    unfold From at this
    simp only [List.mem_cons, List.not_mem_nil, or_false] at ha
    omega) hsz5))
  have hsz6 := HB6.out.size
  clear hG hk hY1 HMk HGl HGu5 HS1 HT0 HB5 hT6
  have HIn := Lib.hid (gino_used (ln := ln) q0 p0 t mm dd gg 0 B0 P0 28 D0 38 N 7200 g0 Y1 (vput 4 (setG (mkN 3) 1) (VF 3)) 4 (by decide) (by decide) (by rw [vput_at]; decide) (by decide) (by decide) (by decide) HT6.out HG0.out w6 HGl6.out)
  rw [vput_at] at HIn
  go_wp2_with fail
  refine HIn.out.mono ?_
  rintro e w7 ⟨rfl, hG, hk⟩
  have HGu7 := Lib.hid (HGu6.out.call hG.rd hk)
  have HB7 := Lib.hid (HB6.out.trans (hk.below (B := w2.heap.size) (fun a ha => by
    have := HNX.out
    unfold From at this
    simp only [List.mem_cons, List.not_mem_nil, or_false] at ha
    omega) hsz6))
  have hsz7 := HB7.out.size
  clear hG hk HIn HGl6 HGu6 HB6
  go_upto_region 7 with (first | (refine wpList_alloc_list (w := w7) rfl 92 rfl (inc 0 0 0) Tryz.zeroIno ?_; intro w8 F8 hb8 hz8; have HQ8 := Lib.hid hb8; clear hb8) | (refine wpList_store_list rfl 92 (.tmp 11) (.tmp 45) rfl w7.heap.size (inc 0 0 0) (ink (0, 4, 1)) rfl rfl F8.out rfl (sizeIk _) (ink_one _) ?_; intro w9 F9 HK9; clear F8))
  obtain ⟨bI, hbI⟩ : ∃ y, w7.heap.size = y := ⟨_, rfl⟩
  have hwI : w2.heap.size ≤ bI := hbI ▸ hsz7
  have HGu9 := Lib.hid ((HGu7.out.keep HQ8.out).kp HK9.out (HGu7.out.notin (Nat.le_refl _)))
  have HNI : Hid (bI ∉ [t, mm, dd, gg]) := Lib.hid (hbI ▸ HGu7.out.rd.notin (Nat.le_refl _))
  have HB9 := Lib.hid ((HB7.out.trans (HQ8.out.mono hsz7)).trans (HK9.out.below hsz7 hsz7 (Nat.le_trans hsz7 HQ8.out.size)))
  rw [hbI] at F9
  try rw [hbI]
  clear HQ8 HK9 HGu7 HB7 hbI hz8
  have hsz9 := HB9.out.size
  have HGn := Lib.hid (HLn.out ▸ HGu9.out : Gr w9 q p t mm dd gg 1 g1 B1 48 N ⟨dl B1 P1 D1 (fun _ => 0) (ndS (nbT ([] : List Rc).length)) (LI [P0 + 1, P1 + 1]), Y0⟩ Y1 (7200 + 1))
  have HNe := Lib.hid (ineed1 HG1.out (by decide) [P0 + 1, P1 + 1] (by show 2 ≤ 19; decide) q p t mm dd gg 1 (n + 3) (7200 + 1) Y1 (VF 3) Y0 (fun _ => 0) [] HS6.out (by decide) (by decide) (0, 4, 1) ⟨by decide, by decide, by decide⟩ (by decide) (fun e he => by cases he) w9 HGn.out (fun e he => by cases he) 4 (by decide) (by decide) (by rw [VF34]; rfl) VF3_low 1 gen1 (by decide) (by decide) (by simp))
  have hsr : setR [] (roomR []) ((0, 4, 1), 4) = [((0, 4, 1), 4)] := by kernel_rfl
  rw [hsr] at HNe
  clear HGn HGu9 hsr
  have HRx := Lib.hid F9.out.range0
  go_wp2_with (refine wpList_load_mid rfl 92 _ rfl bI 0 rfl (ink (0, 4, 1)) dI HRx.out HUI.out HDI.out (sizeIk _) ?_)
  refine HNe.out.mono ?_
  rintro e wA ⟨rfl, hk, Y2, V2, b2, hG, hS, -, -⟩
  have HGA := Lib.hid hG
  have HSA := Lib.hid hS
  have FA := Lib.hid (F9.out.kf hk HNI.out)
  have HBA := Lib.hid (HB9.out.trans (hk.below (B := w2.heap.size) (fun a ha => by
    have := HNX.out
    unfold From at this
    simp only [List.mem_cons, List.not_mem_nil, or_false] at ha
    omega) hsz9))
  have hszA := HBA.out.size
  clear hG hS hk HNe F9 HB9 HRx HS6
  have HNo := Lib.hid (ineed_old (ln := ⟨dl B1 P1 D1 b2 (ndS (nbT 1)) (LI [P0 + 1, P1 + 1]), Y0⟩) q p t mm dd gg 1 B1 P1 30 D1 48 N (7200 + 1 + 40000) (n + 3) g1 Y2 V2 (by decide) b2 [((0, 4, 1), 4)] HSA.out.it HSA.out.tab (by decide) HG1.out wA HGA.out (0, 4, 1) ⟨by decide, by decide, by decide⟩ ((0, 4, 1), 4) (by simp) (by decide))
  have HRy := Lib.hid FA.out.range0
  go_wp2_with (refine wpList_load_mid rfl 92 _ rfl bI 0 rfl (ink (0, 4, 1)) dI HRy.out HUI.out HDI.out (sizeIk _) ?_)
  refine HNo.out.mono ?_
  rintro e wB ⟨⟨i, e', hie, -, -, rfl⟩, hG, hk⟩
  have he4 : e' = ((0, 4, 1), 4) := by
    have := List.mem_of_getElem? hie
    simpa using this
  subst he4
  have HBB := Lib.hid (HBA.out.trans (hk.below (B := w2.heap.size) (fun a ha => by
    have := HNX.out
    unfold From at this
    simp only [List.mem_cons, List.not_mem_nil, or_false] at ha
    omega) hszA))
  clear hG hk HNo HRy hie
  go_wp2_with fail
  go_ret
  exact ⟨rfl, HB2.out.trans (HBB.out.mono hw2)⟩
end Go.Proofs.YteaoabppppbkoaaGreatDoor

namespace Go.Proofs.YteaoabppppbkoaaGreatDoor
set_option linter.unusedSimpArgs false
set_option linter.unusedVariables false
open Go.RowKit Go.Maps

variable {ln : Lm}
set_option maxHeartbeats 20000000 in
set_option maxRecDepth 2000000 in
/-- a node of which there is no own directory -/
theorem idrop_none (q p t m d gg lab B0 P0 M DA NB N K : Nat) (g : Cf.Ge) (Y V : Nat → Nat → Int) (h2 : 2 ≤ M) (b0 : Nat → Nat) (E : List Rc) (hD : It B0 DA NB Y (V 2) b0 E) (hI : Tab P0 M Y V) (hK : K < 190000000) (hg : GG g B0 P0 M DA NB N) (w : World) (h : Gr w q p t m d gg lab g B0 NB N ln Y K) (x : In) (hx : bdI x) (hno : ∀ e ∈ E, mtI x e = false) :
    Calls Tryz.prog 37 #[.pointer (some ⟨q, 0, none⟩), .agg (ink x).toArray] w fun r w' => r = .returned (.int .i64 0) ∧ Gr w' q p t m d gg lab g B0 NB N ln Y (K + 1001) ∧ Kf w w' [t, m, d, gg] := by
  obtain ⟨dI, huI, hdI⟩ := Tryz.descIno
  have HUI := Lib.hid huI
  have HDI := Lib.hid hdI
  have HOp := Lib.hid (fun W hW => iopen_in (ln := ln) q p t m d gg lab B0 P0 M DA NB N K g Y V h2 b0 E hD hI hK hg W hW)
  have HG0 := Lib.hid h
  have hsm := smR_of hD.ok
  have hl := hD.n
  have h0lt : ∀ a ∈ [q, p, t, m, d, gg], a < w.heap.size := fun a ha => by
    obtain ⟨l1, l2, l3, l4, l5, l6⟩ := h.lts
    simp only [List.mem_cons, List.not_mem_nil, or_false] at ha
    rcases ha with rfl | rfl | rfl | rfl | rfl | rfl <;> assumption
  have H0 := Lib.hid h0lt
  have HFi := Lib.hid (fun bd base v W hV hO => ifind_any q bd base v E hsm x hx hl W hV hO)
  have HNo := Lib.hid hno
  clear h2 hD hI hK hg h hsm hl h0lt hx huI hdI hno
  go_enter Tryz.func37, Tryz.ntmps37
  go_wp2_with (first | (refine wpList_box_list (w := w) rfl 92 _ rfl (ink x) rfl ?_; intro w0 F0 hb0 hz0; have HQ0 := Lib.hid hb0; clear hb0 hz0))
  refine (HOp.out w0 (HG0.out.keep HQ0.out)).mono ?_
  rintro e w1 ⟨bd, v, base, rfl, hbd, hbb, hV, hO, hG, hk⟩
  have HV1 := Lib.hid hV
  have HO1 := Lib.hid hO
  have HG1 := Lib.hid hG
  have HK1 := Lib.hid ((Kf.of_below HQ0.out [t, m, d, gg]).trans hk)
  have hk0 := hk
  clear hV hO hG hk HOp hbd
  have F1 := Lib.hid (F0.out.kf hk0 (fun ha => by
    have := H0.out w.heap.size (by simp only [List.mem_cons, List.not_mem_nil, or_false] at ha ⊢; omega)
    omega))
  clear hk0
  have HRx := Lib.hid F1.out.range0
  go_wp2_with (refine wpList_load_mid rfl 92 _ rfl w.heap.size 0 rfl (ink x) dI HRx.out HUI.out HDI.out (sizeIk _) ?_)
  refine (HFi.out bd base v w1 HV1.out HO1.out).mono ?_
  rintro r w2 ⟨hb, (⟨i, e, hie, hme, hfi, rfl⟩ | ⟨hno, rfl⟩)⟩
  · exact absurd (HNo.out e (List.mem_of_getElem? hie)) (by rw [hme]; decide)
  have HG2 := Lib.hid (HG1.out.keep hb)
  have HK2 := Lib.hid (HK1.out.more hb)
  clear hb hno
  go_wp2_with fail
  go_ret
  exact ⟨rfl, HG2.out, HK2.out⟩
theorem VF3_no (n : Nat) : ¬ VF 3 n 0 = 3 := by
  unfold VF
  split
  · show ¬ kd n = 3
    rcases kd_in n with h | h <;> rw [h] <;> decide
  · decide
theorem alB_no (M : Nat) (x : In) : alB (VF 3) M x = false := by
  unfold alB
  rw [decide_eq_false (VF3_no _), Bool.false_and, Bool.and_false]
set_option maxHeartbeats 40000000 in
set_option maxRecDepth 2000000 in
theorem instnone_walk (x : In) (hx : bdI x) (w : World) : Calls Tryz.prog 6 #[.agg (ink x).toArray] w fun e w' => e = .returned (.bool true) ∧ Below w.heap.size w w' := by
  obtain ⟨N, g0, B0, P0, D0, g1, B1, P1, D1, hc⟩ := c10
  have HC := Lib.hid hc
  have HG0 := Lib.hid hc.gg0
  have HG1 := Lib.hid hc.gg1
  clear hc
  obtain ⟨dI, huI, hdI⟩ := Tryz.descIno
  have HUI := Lib.hid huI
  have HDI := Lib.hid hdI
  have HX := Lib.hid hx
  clear huI hdI hx
  go_enter Tryz.func6, Tryz.ntmps6
  go_wp2_with (first | (refine wpList_box_list (w := w) rfl 92 _ rfl (ink x) rfl ?_; intro w0 F0 hb0 hz0; have HQ0 := Lib.hid hb0; have hs0 := hb0.size; clear hb0 hz0))
  obtain ⟨bX, hbX⟩ : ∃ y, w.heap.size = y := ⟨_, rfl⟩
  have hXw : w.heap.size ≤ bX := Nat.le_of_eq hbX
  rw [hbX] at F0
  try rw [hbX]
  have HBX := Lib.hid hbX
  clear hbX
  refine (awake10 w0).mono ?_
  rintro e w1 ⟨rfl, hb⟩
  have F1 := Lib.hid (F0.out.keep hb)
  have HB1 := Lib.hid (HQ0.out.trans (hb.mono hs0))
  have hs1 := HB1.out.size
  clear hb HQ0 F0
  go_wp2_with fail
  refine (small10 w1).mono ?_
  rintro e w2 ⟨n, vr, vm, vg, rfl, hn, hb2, hCF⟩
  have F2 := Lib.hid (F1.out.keep hb2)
  have HB2 := Lib.hid (HB1.out.trans (hb2.mono hs1))
  have hX2 : bX < w2.heap.size := F2.out.lt
  have HCF := Lib.hid hCF
  have hw2 : w.heap.size ≤ w2.heap.size := HB2.out.size
  clear hb2 hCF F1 HB1
  go_wp2_with fail
  refine (fresh10 HC.out n vr vm vg w2 HCF.out).mono ?_
  rintro e w3 ⟨t, mm, dd, gg, l, Y0, rfl, hFr, hll, hln, hLg, hRd, ⟨hT0, hb0⟩, ⟨hT1, hb1⟩, hb3⟩
  have HR3 := Lib.hid hRd
  have HT0 := Lib.hid hT0
  have HS1 := Lib.hid (T1.fresh (P0 := P1) (DA := D1) hT1 hb1 HG1.out.n512)
  have HCFx : Hid (∀ W, Below w2.heap.size w2 W → Cf.CF n W vr vm vg R10 []) := Lib.hid (fun W hk => HCF.out.below hk)
  have HZ3 := Lib.hid hb3
  have HNX : Hid (From w2.heap.size t mm dd gg) := Lib.hid hFr
  have hw3 := hb3.size
  have F3 := Lib.hid (F2.out.keep hb3)
  have HNb : Hid (bX ∉ [t, mm, dd, gg]) := Lib.hid (fun ha => by
    have := HNX.out
    unfold From at this
    simp only [List.mem_cons, List.not_mem_nil, or_false] at ha
    omega)
  clear hFr hll hln hLg hRd hT0 hb0 hT1 hb1 hb3 HCF F2
  have HAl : Hid (∀ W K, K < 180000000 → Cf.CF n W vr vm vg R10 [] → Rd W t mm dd gg N ⟨[], Y0⟩ Y0 K → Calls Tryz.prog 49 #[.pointer (some ⟨t, 0, none⟩), .pointer (some ⟨n + 3, 0, none⟩), .agg (ink x).toArray] W fun r w' => r = .returned (.tuple #[.bool false, .int .i64 (if 1 < x.1 then 27 else 0)]) ∧ Rd w' t mm dd gg N ⟨[], Y0⟩ Y0 (K + 1) ∧ Kf W w' [t, mm, dd, gg]) := Lib.hid (fun W K hK hCF hR => by
    have hx3 : x.1 = 0 ∨ x.1 = 1 ∨ 2 ≤ x.1 := by omega
    rcases hx3 with h | h | h
    · have := ialive_in (ln := ⟨[], Y0⟩) t mm dd gg n B0 P0 28 D0 38 N K Y0 (VF 3) vr vm vg R10 [] 0 (by rw [R10_len]; decide) g0 HC.out.hg0 HG0.out HT0.out (by omega) x HX.out h W hCF hR
      rw [alB_no] at this
      rw [if_neg (by omega)]
      exact this
    · have := ialive_in (ln := ⟨[], Y0⟩) t mm dd gg n B1 P1 30 D1 48 N K Y0 (VF 3) vr vm vg R10 [] 1 (by rw [R10_len]; decide) g1 HC.out.hg1 HG1.out HS1.out.tab (by omega) x HX.out h W hCF hR
      rw [alB_no] at this
      rw [if_neg (by omega)]
      exact this
    · rw [if_pos (by omega)]
      refine (ialive_out t n vr vm vg R10 [] (by rw [R10_len]; decide) x HX.out (by rw [R10_len]; exact h) W hCF).mono ?_
      rintro r w' ⟨rfl, hb⟩
      exact ⟨rfl, (hR.keep hb).mono (by omega), Kf.of_below hb _⟩)
  obtain ⟨er, her⟩ : ∃ z : Int, (if 1 < x.1 then (27 : Int) else 0) = z := ⟨_, rfl⟩
  rw [her] at HAl
  have HEr := Lib.hid her
  clear her
  go_wp2_with fail
  refine (open10b HC.out ⟨[], Y0⟩ t mm dd gg n 7000 Y0 vr vm vg w3 (HCFx.out w3 HZ3.out) HR3.out).mono ?_
  rintro e w4 ⟨q, p, rfl, hq, hp, hG, hb⟩
  have HGu := Lib.hid hG
  have HB4 := Lib.hid (HZ3.out.trans (hb.mono hw3))
  have hsz4 := HB4.out.size
  have F4 := Lib.hid (F3.out.keep hb)
  clear hG hb HR3 HZ3 F3
  have HR4 := Lib.hid F4.out.range0
  go_wp2_with (refine wpList_load_mid rfl 92 _ rfl bX 0 rfl (ink x) dI HR4.out HUI.out HDI.out (sizeIk _) ?_)
  refine (iFind_any (ln := ⟨[], Y0⟩) q p t mm dd gg 1 B1 P1 30 D1 48 N 7000 g1 Y0 (VF 3) (by decide) (fun _ => 0) [] HS1.out.it HS1.out.tab (by decide) HG1.out w4 HGu.out x HX.out).mono ?_
  rintro r w5 ⟨⟨hG, hk⟩, (⟨i, e, hie, -, -, -⟩ | ⟨-, rfl⟩)⟩
  · simp at hie
  have HG5 := Lib.hid hG
  have HB5 := Lib.hid (HB4.out.trans (hk.below (B := w2.heap.size) (fun a ha => by
    have := HNX.out
    unfold From at this
    simp only [List.mem_cons, List.not_mem_nil, or_false] at ha
    omega) hsz4))
  have hsz5 := HB5.out.size
  have F5 := Lib.hid (F4.out.kf hk HNb.out)
  clear hG hk HGu HB4 F4 HR4
  have HR5 := Lib.hid F5.out.range0
  go_wp2_with (refine wpList_load_mid rfl 92 _ rfl bX 0 rfl (ink x) dI HR5.out HUI.out HDI.out (sizeIk _) ?_)
  refine (HAl.out w5 _ (by decide) (HCFx.out w5 HB5.out) HG5.out.rd).mono ?_
  rintro r w6 ⟨rfl, hR, hk⟩
  have HG6 := Lib.hid (HG5.out.call hR hk)
  have HB6 := Lib.hid (HB5.out.trans (hk.below (B := w2.heap.size) (fun a ha => by
    have := HNX.out
    unfold From at this
    simp only [List.mem_cons, List.not_mem_nil, or_false] at ha
    omega) hsz5))
  have hsz6 := HB6.out.size
  have F6 := Lib.hid (F5.out.kf hk HNb.out)
  clear hR hk HG5 HB5 F5 HR5 HAl
  have HR6 := Lib.hid F6.out.range0
  go_wp2_with (refine wpList_load_mid rfl 92 _ rfl bX 0 rfl (ink x) dI HR6.out HUI.out HDI.out (sizeIk _) ?_)
  refine (iFind_nil x w6).mono ?_
  rintro r w7 ⟨rfl, hb⟩
  have HG7 := Lib.hid (HG6.out.keep hb)
  have HB7 := Lib.hid (HB6.out.trans (hb.mono hsz6))
  have hsz7 := HB7.out.size
  have F7 := Lib.hid (F6.out.keep hb)
  clear hb HG6 HB6 F6 HR6
  have HR7 := Lib.hid F7.out.range0
  go_wp2_with (refine wpList_load_mid rfl 92 _ rfl bX 0 rfl (ink x) dI HR7.out HUI.out HDI.out (sizeIk _) ?_)
  refine (ialive_nil (n + 3) x HX.out w7).mono ?_
  rintro r w8 ⟨rfl, hb⟩
  have HG8 := Lib.hid (HG7.out.keep hb)
  have HB8 := Lib.hid (HB7.out.trans (hb.mono hsz7))
  have hsz8 := HB8.out.size
  have F8 := Lib.hid (F7.out.keep hb)
  clear hb HG7 HB7 F7 HR7
  go_wp2_with fail
  refine (iReap_nil t (n + 3) w8).mono ?_
  rintro r w9 ⟨rfl, hb⟩
  have HG9 := Lib.hid (HG8.out.keep hb)
  have HB9 := Lib.hid (HB8.out.trans (hb.mono hsz8))
  have hsz9 := HB9.out.size
  have F9 := Lib.hid (F8.out.keep hb)
  clear hb HG8 HB8 F8
  have HR9 := Lib.hid F9.out.range0
  go_wp2_with (refine wpList_load_mid rfl 92 _ rfl bX 0 rfl (ink x) dI HR9.out HUI.out HDI.out (sizeIk _) ?_)
  refine (iNeed_nil t (n + 3) x w9).mono ?_
  rintro r wA ⟨rfl, hb⟩
  have HGA := Lib.hid (HG9.out.keep hb)
  have HBA := Lib.hid (HB9.out.trans (hb.mono hsz9))
  have hszA := HBA.out.size
  have FA := Lib.hid (F9.out.keep hb)
  clear hb HG9 HB9 F9 HR9
  have HRA := Lib.hid FA.out.range0
  have c0 : wA.cell? ⟨bX, 0, none⟩ = some (.int .u8 x.1) := FA.out.c 0 _ rfl
  have HDn := Lib.hid (fun W hW => idrop_none (ln := ⟨[], Y0⟩) q p t mm dd gg 1 B1 P1 30 D1 48 N (7000 + 1001 + 1) g1 Y0 (VF 3) (by decide) (fun _ => 0) [] HS1.out.it HS1.out.tab (by decide) HG1.out W hW x HX.out (fun e he => by cases he))
  by_cases hl : (1 : Int) < x.1
  · have he27 : er = 27 := by rw [← HEr.out, if_pos (by omega)]
    subst he27
    go_wp2_with (refine wpList_yields (.agg (ink x).toArray) (yieldsIf_load_mid (by rfl) 92 _ rfl bX 0 rfl (ink x) dI (fun W hW => (hW ▸ HRA.out : W.rangeAt bX 0 (ink x))) HUI.out HDI.out (sizeIk _)) ?_)
    refine (iDrop_nil x wA).mono ?_
    rintro r wB ⟨rfl, hb⟩
    have HGB := Lib.hid (HGA.out.keep hb)
    have HBB := Lib.hid (HBA.out.trans (hb.mono hszA))
    have hszB := HBB.out.size
    have FB := Lib.hid (FA.out.keep hb)
    clear hb HGA HBA FA HRA c0
    have HRB := Lib.hid FB.out.range0
    go_wp2_with (refine wpList_yields (.agg (ink x).toArray) (yieldsIf_load_mid (by rfl) 92 _ rfl bX 0 rfl (ink x) dI (fun W hW => (hW ▸ HRB.out : W.rangeAt bX 0 (ink x))) HUI.out HDI.out (sizeIk _)) ?_)
    refine (HDn.out wB HGB.out).mono ?_
    rintro r wC ⟨rfl, hG, hk⟩
    have HBC := Lib.hid (HBB.out.trans (hk.below (B := w2.heap.size) (fun a ha => by
        have := HNX.out
        unfold From at this
        simp only [List.mem_cons, List.not_mem_nil, or_false] at ha
        omega) hszB))
    clear hG hk HGB HBB FB HRB HDn
    go_wp2_with fail
    go_ret
    exact ⟨rfl, HB2.out.trans (HBC.out.mono hw2)⟩
  · have he0 : er = 0 := by rw [← HEr.out, if_neg (by omega)]
    subst he0
    go_wp2_with (refine wpList_yields (.agg (ink x).toArray) (yieldsIf_load_mid (by rfl) 92 _ rfl bX 0 rfl (ink x) dI (fun W hW => (hW ▸ HRA.out : W.rangeAt bX 0 (ink x))) HUI.out HDI.out (sizeIk _)) ?_)
    refine (iDrop_nil x wA).mono ?_
    rintro r wB ⟨rfl, hb⟩
    have HGB := Lib.hid (HGA.out.keep hb)
    have HBB := Lib.hid (HBA.out.trans (hb.mono hszA))
    have hszB := HBB.out.size
    have FB := Lib.hid (FA.out.keep hb)
    clear hb HGA HBA FA HRA c0
    have HRB := Lib.hid FB.out.range0
    go_wp2_with (refine wpList_yields (.agg (ink x).toArray) (yieldsIf_load_mid (by rfl) 92 _ rfl bX 0 rfl (ink x) dI (fun W hW => (hW ▸ HRB.out : W.rangeAt bX 0 (ink x))) HUI.out HDI.out (sizeIk _)) ?_)
    refine (HDn.out wB HGB.out).mono ?_
    rintro r wC ⟨rfl, hG, hk⟩
    have HBC := Lib.hid (HBB.out.trans (hk.below (B := w2.heap.size) (fun a ha => by
        have := HNX.out
        unfold From at this
        simp only [List.mem_cons, List.not_mem_nil, or_false] at ha
        omega) hszB))
    clear hG hk HGB HBB FB HRB HDn
    go_wp2_with fail
    go_ret
    exact ⟨rfl, HB2.out.trans (HBC.out.mono hw2)⟩
end Go.Proofs.YteaoabppppbkoaaGreatDoor
