import Derived.Test.YtbnpgkclnebnmaaGreatZ19
import Derived.Test.YtbnpgkclnebnmaaGreatZ21
import Derived.Test.YtbnpgkclnebnmaaGreatZ4
/- Files: what giving blocks leaves (pure). -/
/- Files: giveAt. -/
/- Files: the ways while blocks are given. -/
/- Files: giveFrom. -/

namespace Go.Proofs.YtbnpgkclnebnmaaGreat
set_option linter.unusedSimpArgs false
set_option linter.unusedVariables false
open Go.RowKit Go.Maps

/-- a slot that is come to through another one, or is it -/
def dsc (c c' : Nat) : Bool := decide (c' = c) || (!isR c' && (decide (parS c' = c) || (!isR (parS c') && decide (parS (parS c') = c))))
def delN (S : Nat → Bool) (c : Nat) : Nat → Bool := fun c' => S c' && !dsc c c'
theorem dsc_iff (c c' : Nat) : dsc c c' = true ↔ c' = c ∨ (isR c' = false ∧ (parS c' = c ∨ (isR (parS c') = false ∧ parS (parS c') = c))) := by
  unfold dsc
  simp
theorem delN_iff (S : Nat → Bool) (c c' : Nat) : delN S c c' = true ↔ S c' = true ∧ ¬ (c' = c ∨ (isR c' = false ∧ (parS c' = c ∨ (isR (parS c') = false ∧ parS (parS c') = c)))) := by
  unfold delN
  rw [Bool.and_eq_true, Bool.not_eq_true', ← Bool.not_eq_true, dsc_iff]
theorem par_top (c : Nat) (h : okS c = true) (hr : isR c = false) (hr2 : isR (parS c) = false) : isR (parS (parS c)) = true := by
  rw [okS_iff] at h
  rw [isR_no] at hr
  by_cases h1 : c < 38
  · have e : parS c = 2000 := if_pos h1
    rw [e] at hr2
    cases hr2
  · by_cases h2 : c < 1062
    · have e : parS c = 2002 + (c - 38) / 32 := by unfold parS; rw [if_neg h1, if_pos h2]
      rw [e]
      have e2 : parS (2002 + (c - 38) / 32) = 2001 := by unfold parS; rw [if_neg (by omega), if_neg (by omega)]
      rw [e2]
      rfl
    · have e : parS c = 2001 := by unfold parS; rw [if_neg h1, if_neg h2]
      rw [e] at hr2
      cases hr2
theorem Fi.del {DA NB : Nat} {Y : Nat → Nat → Int} {f : Nat → Int} {S : Nat → Bool} {b : Nat → Nat} (h : Fi DA NB Y f S b) (c : Nat) (hS : S c = true) (hNB : NB ≤ 512) :
    Fi DA NB (addY DA Y b c 0) (addF f c 0) (delN S c) b := by
  have hok := h.ok c hS
  refine ⟨fun c' hc => h.ok c' ((delN_iff S c c').1 hc).1, fun c' hc => ?_, fun c' ho hr hq => ?_, fun c' hr hc => ?_, fun c' hc => h.rng c' ((delN_iff S c c').1 hc).1, fun c1 c2 k1 k2 he => h.inj c1 c2 ((delN_iff S c c1).1 k1).1 ((delN_iff S c c2).1 k2).1 he⟩
  · unfold addF
    by_cases hcr : isR c = true
    · rw [if_pos hcr]
      by_cases e : c' = c
      · subst e
        rw [if_pos rfl, if_neg (fun hh => ((delN_iff S c' c').1 hh).2 (.inl rfl))]
        rfl
      · rw [if_neg (fun he => e (rtI_inj c' c hc hcr he)), h.root c' hc]
        have : delN S c c' = S c' := by
          rw [Bool.eq_iff_iff, delN_iff]
          constructor
          · exact fun hh => hh.1
          · refine fun hh => ⟨hh, fun hx => ?_⟩
            rcases hx with hx | ⟨hx, -⟩
            · exact e hx
            · rw [hc] at hx
              cases hx
        rw [this]
    · rw [if_neg hcr]
      have e : c' ≠ c := fun e => hcr (e ▸ hc)
      rw [h.root c' hc]
      have : delN S c c' = S c' := by
        rw [Bool.eq_iff_iff, delN_iff]
        constructor
        · exact fun hh => hh.1
        · refine fun hh => ⟨hh, fun hx => ?_⟩
          rcases hx with hx | ⟨hx, -⟩
          · exact e hx
          · rw [hc] at hx
            cases hx
      rw [this]
  · obtain ⟨hp, hn⟩ := (delN_iff S c (parS c')).1 hq
    have hpc : parS c' ≠ c := fun e => hn (.inl e)
    have hw := h.wrd c' ho hr hp
    have hdl : c' ≠ c → delN S c c' = S c' := fun e => by
      rw [Bool.eq_iff_iff, delN_iff]
      constructor
      · exact fun hh => hh.1
      · refine fun hh => ⟨hh, fun hx => ?_⟩
        rcases hx with hx | ⟨-, hx | ⟨hx1, hx2⟩⟩
        · exact e hx
        · exact hpc hx
        · exact hn (.inr ⟨hx1, .inl hx2⟩)
    unfold addY
    by_cases hcr : isR c = true
    · rw [if_pos hcr, hdl (fun e => by rw [e, hcr] at hr; cases hr)]
      exact hw
    · have hcr' : isR c = false := by simpa using hcr
      have hpS := h.cl c hcr' hS
      rw [if_neg hcr]
      by_cases ep : parS c' = parS c
      · rw [ep, vput_at, putN_wd _ _ _ (by omega)]
        by_cases ei : idxS c' = idxS c
        · obtain rfl := slot_inj c' c ho hr hok hcr' ep ei
          rw [if_pos rfl, if_neg (fun hh => ((delN_iff S c' c').1 hh).2 (.inl rfl))]
          rfl
        · rw [if_neg ei, hdl (fun e' => ei (by rw [e'])), ← ep]
          exact hw
      · have hbb : DA + (b (parS c) - 1) ≠ DA + (b (parS c') - 1) := fun he => by
          have r1 := h.rng _ hpS
          have r2 := h.rng _ hp
          exact ep (h.inj _ _ hp hpS (by omega))
        rw [vput_ne _ _ hbb, hdl (fun e' => ep (by rw [e']))]
        exact hw
  · obtain ⟨h1, h2⟩ := (delN_iff S c c').1 hc
    refine (delN_iff S c (parS c')).2 ⟨h.cl c' hr h1, fun hx => ?_⟩
    rcases hx with hx | ⟨hx1, hx | ⟨hx2, -⟩⟩
    · exact h2 (.inr ⟨hr, .inl hx⟩)
    · exact h2 (.inr ⟨hr, .inr ⟨hx1, hx⟩⟩)
    · have := par_top c' (h.ok c' h1) hr hx1
      rw [this] at hx2
      cases hx2
/-- while blocks are given: R is left, S is what is still told of -/
structure Gv (B0 DA NB : Nat) (Kp : Nat → Bool) (Y0 : Nat → Nat → Int) (f0 : Nat → Int) (S0 : Nat → Bool) (b : Nat → Nat) (Y : Nat → Nat → Int) (f : Nat → Int) (S R : Nat → Bool) : Prop where
  fi : Fi DA NB Y f S b
  rs : ∀ c, R c = true → S c = true
  ss : ∀ c, S c = true → S0 c = true
  st : ∀ c, S c = true → R c = false → isR c = false ∧ Kp (parS c) = false
  kr : ∀ c, Kp c = true → R c = true
  u : ∀ j, j < NB → (bt Y B0 j = true ↔ bt Y0 B0 j = true ∧ ¬ ∃ c, S0 c = true ∧ R c = false ∧ b c = j + 1)
  y : ∀ z, z ≠ B0 → (∀ c, Kp c = true → 2000 ≤ c → z ≠ DA + (b c - 1)) → Y z = Y0 z
  f4 : ∀ i, i < 4 → f i = f0 i
theorem Gv.start {B0 DA NB : Nat} {Kp : Nat → Bool} {Y0 : Nat → Nat → Int} {f0 : Nat → Int} {S0 : Nat → Bool} {b : Nat → Nat} (h : Fi DA NB Y0 f0 S0 b) (hk : ∀ c, Kp c = true → S0 c = true) : Gv B0 DA NB Kp Y0 f0 S0 b Y0 f0 S0 S0 :=
  ⟨h, fun _ h => h, fun _ h => h, fun c h1 h2 => by (rw [h1] at h2; cases h2), hk, fun j _ => ⟨fun h => ⟨h, fun ⟨c, h1, h2, _⟩ => by (rw [h1] at h2; cases h2)⟩, fun h => h.1⟩, fun _ _ _ => rfl, fun _ _ => rfl⟩
theorem Gv.told {B0 DA NB : Nat} {Kp : Nat → Bool} {Y0 : Nat → Nat → Int} {f0 : Nat → Int} {S0 : Nat → Bool} {b : Nat → Nat} {Y : Nat → Nat → Int} {f : Nat → Int} {S R : Nat → Bool} (h : Gv B0 DA NB Kp Y0 f0 S0 b Y f S R) (hus : ∀ c, S0 c = true → bt Y0 B0 (b c - 1) = true) (hinj : ∀ c c', S0 c = true → S0 c' = true → b c = b c' → c = c') (c : Nat) (hc : R c = true) : bt Y B0 (b c - 1) = true := by
  have r := h.fi.rng c (h.rs c hc)
  refine (h.u (b c - 1) (by omega)).2 ⟨hus c (h.ss c (h.rs c hc)), fun ⟨c', h1, h2, h3⟩ => ?_⟩
  obtain rfl := hinj c' c h1 (h.ss c (h.rs c hc)) (by omega)
  rw [hc] at h2
  cases h2
def remN (R : Nat → Bool) (c : Nat) : Nat → Bool := fun c' => R c' && !decide (c' = c)
theorem remN_iff (R : Nat → Bool) (c c' : Nat) : remN R c c' = true ↔ R c' = true ∧ c' ≠ c := by
  unfold remN
  simp
theorem remN_no (R : Nat → Bool) (c c' : Nat) : remN R c c' = false ↔ R c' = false ∨ c' = c := by
  unfold remN
  simp
  cases R c' <;> simp
/-- one block is given; it is told of no more, if what tells of it stays -/
theorem Gv.give {B0 DA NB : Nat} {Kp : Nat → Bool} {Y0 : Nat → Nat → Int} {f0 : Nat → Int} {S0 : Nat → Bool} {b : Nat → Nat} {Y : Nat → Nat → Int} {f : Nat → Int} {S R : Nat → Bool} (h : Gv B0 DA NB Kp Y0 f0 S0 b Y f S R) (hv : ∀ x, Byt (Y x)) (hB : B0 < DA) (hNB : NB ≤ 512) (c : Nat) (hc : R c = true) (hk : Kp c = false) (hch : ∀ c', R c' = true → isR c' = false → parS c' ≠ c) (hcl : ∀ c', R c' = true → isR c' = false → R (parS c') = true)
    (hinj : ∀ c c', S0 c = true → S0 c' = true → b c = b c' → c = c') (hrng : ∀ c, S0 c = true → 1 ≤ b c ∧ b c ≤ NB) (p : Bool) (hp : p = (isR c || Kp (parS c))) :
    Gv B0 DA NB Kp Y0 f0 S0 b (if p = true then addY DA (setV Y B0 (b c - 1) false) b c 0 else setV Y B0 (b c - 1) false) (if p = true then addF f c 0 else f) (if p = true then delN S c else S) (remN R c) := by
  have hS := h.rs c hc
  have r := h.fi.rng c hS
  have hrow : ∀ c', S c' = true → 2000 ≤ c' → setV Y B0 (b c - 1) false (DA + (b c' - 1)) = Y (DA + (b c' - 1)) := fun c' _ _ => setV_ne _ _ _ _ (by omega)
  have hF := h.fi.congr hrow
  have hbit : ∀ j, j < NB → bt (setV Y B0 (b c - 1) false) B0 j = if b c - 1 = j then false else bt Y B0 j := fun j hj => bt_on hv B0 (b c - 1) j false (by omega)
  have hU : ∀ Y', (∀ j, j < NB → bt Y' B0 j = bt (setV Y B0 (b c - 1) false) B0 j) → ∀ j, j < NB → (bt Y' B0 j = true ↔ bt Y0 B0 j = true ∧ ¬ ∃ c', S0 c' = true ∧ remN R c c' = false ∧ b c' = j + 1) := fun Y' hY j hj => by
    rw [hY j hj, hbit j hj]
    by_cases e : b c - 1 = j
    · rw [if_pos e]
      constructor
      · intro hh
        cases hh
      · rintro ⟨-, hh⟩
        exact absurd ⟨c, h.ss c hS, (remN_no R c c).2 (.inr rfl), by omega⟩ hh
    · rw [if_neg e, h.u j hj]
      constructor
      · rintro ⟨h1, h2⟩
        refine ⟨h1, fun ⟨c', k1, k2, k3⟩ => ?_⟩
        rcases (remN_no R c c').1 k2 with k2 | rfl
        · exact h2 ⟨c', k1, k2, k3⟩
        · omega
      · rintro ⟨h1, h2⟩
        exact ⟨h1, fun ⟨c', k1, k2, k3⟩ => h2 ⟨c', k1, (remN_no R c c').2 (.inl k2), k3⟩⟩
  have hkr : ∀ c', Kp c' = true → remN R c c' = true := fun c' hh => (remN_iff R c c').2 ⟨h.kr c' hh, fun e => by rw [e, hk] at hh; cases hh⟩
  have hy1 : ∀ z, z ≠ B0 → (∀ c, Kp c = true → 2000 ≤ c → z ≠ DA + (b c - 1)) → setV Y B0 (b c - 1) false z = Y0 z := fun z h1 h2 => by
    rw [setV_ne _ _ _ _ h1]
    exact h.y z h1 h2
  cases p
  · have hn : isR c = false ∧ Kp (parS c) = false := by simpa using hp.symm
    simp only [Bool.false_eq_true, if_false]
    refine ⟨hF, fun c' hh => h.rs c' ((remN_iff R c c').1 hh).1, h.ss, fun c' h1 h2 => ?_, hkr, hU _ fun _ _ => rfl, hy1, h.f4⟩
    rcases (remN_no R c c').1 h2 with h2 | rfl
    · exact h.st c' h1 h2
    · exact hn
  · simp only [if_true]
    have hbt : ∀ j, j < NB → bt (addY DA (setV Y B0 (b c - 1) false) b c 0) B0 j = bt (setV Y B0 (b c - 1) false) B0 j := fun j hj => by
      unfold addY
      split
      · rfl
      · exact bt_put _ _ _ _ _ (by omega)
    refine ⟨hF.del c hS hNB, fun c' hh => ?_, fun c' hh => h.ss c' ((delN_iff S c c').1 hh).1, fun c' h1 h2 => ?_, hkr, hU _ hbt, fun z h1 h2 => ?_, fun i hi => ?_⟩
    · obtain ⟨h1, h2⟩ := (remN_iff R c c').1 hh
      refine (delN_iff S c c').2 ⟨h.rs c' h1, fun hx => ?_⟩
      rcases hx with hx | ⟨hx1, hx | ⟨hx2, hx3⟩⟩
      · exact h2 hx
      · exact hch c' h1 hx1 hx
      · exact hch _ (hcl c' h1 hx1) hx2 hx3
    · obtain ⟨k1, k2⟩ := (delN_iff S c c').1 h1
      rcases (remN_no R c c').1 h2 with h2 | rfl
      · exact h.st c' k1 h2
      · exact absurd (.inl rfl) k2
    · unfold addY
      split
      · exact hy1 z h1 h2
      · rename_i hcr
        have hcr' : isR c = false := by simpa using hcr
        have hkp : Kp (parS c) = true := by
          rw [hcr'] at hp
          simpa using hp.symm
        have := parS_ok c (h.fi.ok c hS) hcr'
        rw [vput_ne _ _ (fun e => h2 (parS c) hkp this.2.1 e.symm)]
        exact hy1 z h1 h2
    · unfold addF
      split
      · rename_i hcr
        show (if i = rtI c then ((0 : Nat) : Int) else f i) = f0 i
        rw [if_neg (by have := (rtI_lt c hcr).1; omega)]
        exact h.f4 i hi
      · exact h.f4 i hi
end Go.Proofs.YtbnpgkclnebnmaaGreat

namespace Go.Proofs.YtbnpgkclnebnmaaGreat
set_option linter.unusedSimpArgs false
set_option linter.unusedVariables false
open Go.RowKit Go.Maps

variable {ln : Lm}
set_option maxHeartbeats 20000000 in
set_option maxRecDepth 100000 in
theorem giveat_any (b q p t m d gg lab B0 P0 M DA NB N K : Nat) (g : Cf.Ge) (Kp0 : Nat → Bool) (Y0 : Nat → Nat → Int) (f0 : Nat → Int) (S0 : Nat → Bool) (b0 : Nat → Nat) (Y : Nat → Nat → Int) (f : Nat → Int) (S R : Nat → Bool) (hG : Gv B0 DA NB Kp0 Y0 f0 S0 b0 Y f S R) (hus : ∀ c, S0 c = true → bt Y0 B0 (b0 c - 1) = true) (hinj : ∀ c c', S0 c = true → S0 c' = true → b0 c = b0 c' → c = c') (hrng : ∀ c, S0 c = true → 1 ≤ b0 c ∧ b0 c ≤ NB)
    (c : Nat) (hc : R c = true) (hk : Kp0 c = false) (hch : ∀ c', R c' = true → isR c' = false → parS c' ≠ c) (hcl : ∀ c', R c' = true → isR c' = false → R (parS c') = true) (hT0 : Has ln B0) (hT : isR c = false → Kp0 (parS c) = true → Has ln (DA + (b0 (parS c) - 1)))
    (s0 s1 s2 : Int) (up : Array Value) (hup : ∀ W, Calls Tryz.prog 107 #[wyS c] W fun e w' => e = .returned (.agg up) ∧ Below W.heap.size W w') (hps : ∀ W, Calls Tryz.prog 106 #[.agg (wyc s0 s1 s2).toArray, .agg up] W fun e w' => e = .returned (.bool (isR c || Kp0 (parS c))) ∧ Below W.heap.size W w')
    (hK : K < 500000000) (hg : GG g B0 P0 M DA NB N) (w : World) (h : Bo w w b q p t m d gg lab g B0 NB N ln Y K f) :
    Calls Tryz.prog 108 #[.pointer (some ⟨b, 0, none⟩), wyS c, .agg (wyc s0 s1 s2).toArray] w fun e w' => ∃ Y' f' S', e = .returned (.int .i64 0) ∧ Bo w w' b q p t m d gg lab g B0 NB N ln Y' (K + 10) f' ∧ Gv B0 DA NB Kp0 Y0 f0 S0 b0 Y' f' S' (remN R c) := by
  obtain ⟨dW, hu, hd⟩ := Tryz.descWy
  have HU := Lib.hid hu
  have HD := Lib.hid hd
  have hS := hG.rs c hc
  have hok := hG.fi.ok c hS
  have hr := hG.fi.rng c hS
  have hN5 := hg.n512
  have hBD : B0 < DA := by have := hg.bp; have := hg.pd; have := hg.m4; omega
  have HAt := Lib.hid (fun W hW => at_slot (ln := ln) b q p t m d gg lab B0 P0 M DA NB N K g Y f S b0 hG.fi c hok (by omega) hg W hW)
  have hv : vS S b0 c = b0 c := if_pos hS
  rw [hv] at HAt
  have HGi := Lib.hid (fun W hW => ggive_ok (ln := ln) q p t m d gg lab B0 P0 M DA NB N (K + 2) g Y (b0 c) hr.1 hr.2 (hG.told hus hinj c hc) hT0 (by omega) hg W hW)
  have hF1 : Fi DA NB (setV Y B0 (b0 c - 1) false) f S b0 := hG.fi.congr (fun c' h1 _ => setV_ne _ _ _ _ (by omega))
  have HPt := Lib.hid (fun (hp : isR c = true ∨ Kp0 (parS c) = true) W hW => fpoint_any b q p t m d gg lab B0 P0 M DA NB N (K + 4) ln g _ f S b0 hF1 c 0 hok (by omega) (hp.imp id fun h1 => hG.rs _ (hG.kr _ h1)) (fun h1 => hT h1 (hp.resolve_left (by rw [h1]; decide))) (by omega) hg W hW)
  have HGv := Lib.hid (hG.give h.gr.rd.vb hBD hN5 c hc hk hch hcl hinj hrng)
  have HUP := Lib.hid hup
  obtain ⟨pb, hpb⟩ : ∃ x, (isR c || Kp0 (parS c)) = x := ⟨_, rfl⟩
  rw [hpb] at hps
  have HPS := Lib.hid hps
  have HPb := Lib.hid hpb
  have HB := Lib.hid h
  obtain ⟨va, vb, vc, hwv⟩ : ∃ x y z : Int, wyS c = .agg (wyc x y z).toArray := ⟨_, _, _, rfl⟩
  rw [hwv] at HAt HPt HUP ⊢
  obtain ⟨yi, hyi⟩ : ∃ z : Int, (b0 c : Int) = z := ⟨_, rfl⟩
  have hy0 : ¬ (yi = 0) := by omega
  have hy1 : 0 ≤ yi := by omega
  rw [hyi] at HAt HGi
  clear hu hd hG hus hinj hrng hc hk hch hcl hT0 hT hup hps hg h hS hok hr hv hF1 hpb hwv hyi
  go_enter Tryz.func108, Tryz.ntmps108
  go_upto_region 1 with (first | (refine wpList_box_list (w := w) rfl 181 _ rfl (wyc va vb vc) rfl ?_; intro w1 F1 hb1 hz1; have HQ1 := Lib.hid hb1; have hq1 : w.heap.size < w1.heap.size := (by omega); clear hb1 hz1) | (refine wpList_box_list (w := w1) rfl 181 _ rfl (wyc s0 s1 s2) rfl ?_; intro w2 F2 hb2 hz2; have HQ2 := Lib.hid hb2; have hq2 : w1.heap.size < w2.heap.size := (by omega); clear hb2 hz2))
  obtain ⟨b1, hb1⟩ : ∃ b, w.heap.size = b := ⟨_, rfl⟩
  obtain ⟨b2, hb2⟩ : ∃ b, w1.heap.size = b := ⟨_, rfl⟩
  have h1w : w.heap.size ≤ b1 := by omega
  have h2w : w.heap.size ≤ b2 := by omega
  have G1 := Lib.hid (F1.out.keep HQ2.out)
  have HB2 := Lib.hid ((HB.out.keep HQ1.out).keep HQ2.out)
  rw [hb1] at G1
  rw [hb2] at F2
  try rw [hb1]
  try rw [hb2]
  clear hb1 hb2 HQ1 HQ2 F1 HB hq1 hq2
  have HR1 := Lib.hid G1.out.range0
  go_wp2_with (refine wpList_load_mid rfl 181 _ rfl b1 0 rfl (wyc va vb vc) dW HR1.out HU.out HD.out (sizeWy _ _ _) ?_)
  refine (HAt.out w2 HB2.out.self).mono ?_
  rintro e w3 ⟨rfl, hB3⟩
  have G3 := Lib.hid (G1.out.kf hB3.kf (fun ha => by have := HB2.out.nin h1w; simp only [List.mem_cons, List.not_mem_nil, or_false, not_or] at this ha; omega))
  have F3 := Lib.hid (F2.out.kf hB3.kf (fun ha => by have := HB2.out.nin h2w; simp only [List.mem_cons, List.not_mem_nil, or_false, not_or] at this ha; omega))
  have HB3 := Lib.hid (HB2.out.trans hB3)
  clear hB3 HAt HB2 G1 F2 HR1
  have hqe := HB3.out.bd.c 0 _ rfl
  go_wp2_with fail
  refine (HGi.out w3 HB3.out.gr).mono ?_
  rintro e w4 ⟨rfl, hG, hkk⟩
  have G4 := Lib.hid (G3.out.kf hkk (fun ha => by have := HB3.out.nin h1w; simp only [List.mem_cons, List.not_mem_nil, or_false, not_or] at this ha; omega))
  have F4 := Lib.hid (F3.out.kf hkk (fun ha => by have := HB3.out.nin h2w; simp only [List.mem_cons, List.not_mem_nil, or_false, not_or] at this ha; omega))
  have HB4 := Lib.hid (HB3.out.call hG hkk)
  clear hG hkk HGi HB3 hqe G3 F3
  go_upto_region 7 with fail
  refine wp_region_held (S := fun W => Vl W b1 (wyc va vb vc) ∧ Vl W b2 (wyc s0 s1 s2)) (by kernel_rfl) ?_
  change wpAnyH _ _ _ _ _ _ _ _ (World.drew _)
  have hS0 : (fun W => Vl W b1 (wyc va vb vc) ∧ Vl W b2 (wyc s0 s1 s2)) w4.drew := ⟨G4.out.keep (Below.refl _ _).drew, F4.out.keep (Below.refl _ _).drew⟩
  have HB5 := Lib.hid (HB4.out.keep (Below.refl _ _).drew)
  obtain ⟨w5, hw5⟩ : ∃ x, World.drew w4 = x := ⟨_, rfl⟩
  rw [hw5] at hS0 HB5 ⊢
  clear hw5 HB4 G4 F4
  refine wpAnyH_take (i := 0) (v := .agg (wyc s0 s1 s2).toArray) rfl (by kernel_rfl) (by kernel_rfl) (by kernel_rfl) (fun _ _ _ h => h) ?_ hS0 ?_
  · exact yieldsIf_load_mid (by rfl) 181 (.tmp 5) rfl b2 0 rfl (wyc s0 s1 s2) dW (fun W hW => hW.2.range0) HU.out HD.out (sizeWy _ _ _)
  simp only [Act.put, List.getElem_toArray, List.getElem_cons_zero, List.getElem_cons_succ, List.setIfInBounds_toArray, List.set_cons_zero, List.set_cons_succ]
  refine wpAnyH_take (i := 1) (v := .agg (wyc va vb vc).toArray) rfl (by kernel_rfl) (by kernel_rfl) (by kernel_rfl) (fun _ _ _ h => h) ?_ hS0 ?_
  · exact yieldsIf_load_mid (by rfl) 181 (.tmp 4) rfl b1 0 rfl (wyc va vb vc) dW (fun W hW => hW.1.range0) HU.out HD.out (sizeWy _ _ _)
  simp only [Act.put, List.getElem_toArray, List.getElem_cons_zero, List.getElem_cons_succ, List.setIfInBounds_toArray, List.set_cons_zero, List.set_cons_succ]
  refine wpAnyH_ready (rs := [2]) (by kernel_rfl) (by simp) (AllReadyH.cons rfl (fun KK hKK => ?_) AllReadyH.nil)
  go_simp
  refine (HUP.out w5).mono ?_
  rintro e w6 ⟨rfl, hb⟩
  have HB6 := Lib.hid (HB5.out.keep hb)
  replace hS0 : (fun W => Vl W b1 (wyc va vb vc) ∧ Vl W b2 (wyc s0 s1 s2)) w6 := ⟨hS0.1.keep hb, hS0.2.keep hb⟩
  clear hb HB5
  refine hKK _ _ hS0 ?_
  intro _
  clear hKK KK
  try simp only [Act.put, List.getElem_toArray, List.getElem_cons_zero, List.getElem_cons_succ, List.setIfInBounds_toArray, List.set_cons_zero, List.set_cons_succ]
  refine wpAnyH_ready (rs := [3]) (by kernel_rfl) (by simp) (AllReadyH.cons rfl (fun KK hKK => ?_) AllReadyH.nil)
  go_simp
  refine (HPS.out w6).mono ?_
  rintro e w7 ⟨rfl, hb⟩
  have HB7 := Lib.hid (HB6.out.keep hb)
  replace hS0 : (fun W => Vl W b1 (wyc va vb vc) ∧ Vl W b2 (wyc s0 s1 s2)) w7 := ⟨hS0.1.keep hb, hS0.2.keep hb⟩
  clear hb HB6
  refine hKK _ _ hS0 ?_
  intro _
  clear hKK KK
  try simp only [Act.put, List.getElem_toArray, List.getElem_cons_zero, List.getElem_cons_succ, List.setIfInBounds_toArray, List.set_cons_zero, List.set_cons_succ]
  refine wpAnyH_take (i := 4) (v := ?_) rfl (by kernel_rfl) (by kernel_rfl) (by kernel_rfl) (fun _ _ _ h => h) (Or.inl ⟨by rfl, ?_⟩) hS0 ?_
  rotate_left 1
  · intro W hW
    go_simp
    try with_reducible rfl
  simp only [Act.put, List.getElem_toArray, List.getElem_cons_zero, List.getElem_cons_succ, List.setIfInBounds_toArray, List.set_cons_zero, List.set_cons_succ]
  refine wpAnyH_done (by kernel_rfl) ?_ _
  have G7 := Lib.hid hS0.1
  clear hS0
  cases pb
  · go_wp2_with fail
    go_ret
    have := HGv.out false HPb.out.symm
    exact ⟨_, _, _, rfl, HB7.out.mono (Lm.le_refl _) (by omega), this⟩
  · have HR7 := Lib.hid G7.out.range0
    have hor := HPb.out
    rw [Bool.or_eq_true] at hor
    have HPt2 := Lib.hid (HPt.out hor w7 HB7.out.self)
    clear hor
    go_wp2_with (refine wpList_load_mid rfl 181 _ rfl b1 0 rfl (wyc va vb vc) dW HR7.out HU.out HD.out (sizeWy _ _ _) ?_)
    refine HPt2.out.mono ?_
    rintro e w8 ⟨rfl, hB8⟩
    have HB8 := Lib.hid (HB7.out.trans hB8)
    clear hB8
    go_wp2_with fail
    go_ret
    have := HGv.out true HPb.out.symm
    exact ⟨_, _, _, rfl, HB8.out.mono (Lm.le_refl _) (by omega), this⟩
end Go.Proofs.YtbnpgkclnebnmaaGreat

namespace Go.Proofs.YtbnpgkclnebnmaaGreat
set_option linter.unusedSimpArgs false
set_option linter.unusedVariables false
open Go.RowKit Go.Maps

variable {ln : Lm}
/-- the slots on the way to a data block, the last one first -/
def ps (i j : Nat) : Nat := if j = 0 then i else if j = 1 then parS i else 2001
def wvc (i j : Nat) : List Value := if j ≤ lenC i then wyc (wy1 (ps i j)) (wy2 (ps i j)) (wy3 (ps i j)) else wyc 0 0 0
def passV (k i j : Nat) : Bool := decide (lenC i < j) || ndS k (ps i j)
def wP (k : Nat) : List Value := if k = 0 then wyc 0 0 0 else wyc (wy1 (k - 1)) (wy2 (k - 1)) (wy3 (k - 1))
theorem lenC_cases (i : Nat) : (i < 6 ∧ lenC i = 0) ∨ (6 ≤ i ∧ i < 38 ∧ lenC i = 1 ∧ parS i = 2000) ∨ (38 ≤ i ∧ lenC i = 2) := by
  unfold lenC parS
  split
  · omega
  · split <;> omega
theorem wyS_eq (c : Nat) (a b d : Int) (h1 : (wy1 c : Int) = a) (h2 : (wy2 c : Int) = b) (h3 : (wy3 c : Int) = d) : wyS c = .agg (wyc a b d).toArray := by rw [← h1, ← h2, ← h3]; rfl
theorem wy_dir (i : Nat) (h : i < 6) : wy1 i = i + 1 ∧ wy2 i = 0 ∧ wy3 i = 0 := by
  unfold wy1 wy2 wy3
  rw [if_pos h, if_pos (by omega), if_neg (by omega)]
  exact ⟨rfl, rfl, rfl⟩
theorem wy_sin (i : Nat) (h : 6 ≤ i) (h2 : i < 38) : wy1 i = 7 ∧ wy2 i = i - 5 ∧ wy3 i = 0 := by
  unfold wy1 wy2 wy3
  rw [if_neg (by omega), if_pos (.inl h2), if_neg (by omega), if_pos h2, if_neg (by omega)]
  exact ⟨rfl, rfl, rfl⟩
theorem wy_row (r : Nat) (h : r < 32) : wy1 (2002 + r) = 8 ∧ wy2 (2002 + r) = r + 1 ∧ wy3 (2002 + r) = 0 := by
  unfold wy1 wy2 wy3
  rw [if_neg (by omega), if_neg (by omega), if_neg (by omega), if_neg (by omega), if_neg (by omega), if_neg (by omega)]
  omega
/-- the way one step back -/
theorem up_wv (i j : Nat) (hi : i < 256) (hj : j ≤ lenC i) (W : World) : Calls Tryz.prog 107 #[wyS (ps i j)] W fun e w' => e = .returned (.agg (wvc i (j + 1)).toArray) ∧ Below W.heap.size W w' := by
  rcases lenC_cases i with ⟨h, e⟩ | ⟨h, h2, e, ep⟩ | ⟨h, e⟩
  · obtain rfl : j = 0 := by omega
    obtain ⟨e1, e2, e3⟩ := wy_dir i h
    rw [show ps i 0 = i from rfl, wyS_eq i _ 0 0 rfl (by omega) (by omega), show wvc i (0 + 1) = wyc 0 0 0 from if_neg (by omega)]
    exact up1 _ (by omega) W
  · have hc : j = 0 ∨ j = 1 := by omega
    rcases hc with rfl | rfl
    · obtain ⟨e1, e2, e3⟩ := wy_sin i h h2
      have hw : wvc i (0 + 1) = wyc (wy1 i) 0 0 := by
        unfold wvc
        rw [if_pos (by omega), show ps i (0 + 1) = 2000 from ep, e1]
        rfl
      rw [show ps i 0 = i from rfl, wyS_eq i _ _ 0 rfl rfl (by omega), hw]
      exact up2 _ _ (by omega) (by omega) W
    · rw [show ps i 1 = 2000 from ep, show wvc i (1 + 1) = wyc 0 0 0 from if_neg (by omega)]
      exact up1 7 (by decide) W
  · have hc : j = 0 ∨ j = 1 ∨ j = 2 := by omega
    obtain ⟨e1, e2, e3, ep, -⟩ := wy_three i ⟨h, by omega⟩
    obtain ⟨f1, f2, f3⟩ := wy_row ((i - 38) / 32) (by omega)
    rcases hc with rfl | rfl | rfl
    · have hw : wvc i (0 + 1) = wyc (wy1 i) (wy2 i) 0 := by
        unfold wvc
        rw [if_pos (by omega), show ps i (0 + 1) = 2002 + (i - 38) / 32 from ep, f1, f2, f3, e1, e2]
        rfl
      rw [show ps i 0 = i from rfl, hw]
      exact up3 _ _ _ (by omega) (by omega) (by omega) W
    · have hw : wvc i (1 + 1) = wyc 8 0 0 := by
        unfold wvc
        rw [if_pos (by omega)]
        rfl
      rw [show ps i 1 = 2002 + (i - 38) / 32 from ep, wyS_eq _ 8 _ 0 (by omega) rfl (by omega), hw]
      exact up2 8 _ (by decide) (by omega) W
    · rw [show ps i 2 = 2001 from rfl, show wvc i (2 + 1) = wyc 0 0 0 from if_neg (by omega)]
      exact up1 8 (by decide) W
set_option maxHeartbeats 8000000 in
/-- is a block on the way to the last one that stays? -/
theorem passes_wv (k i j : Nat) (hk : k ≤ i) (hi : i < 256) (hj : j ≤ lenC i + 1) (W : World) : Calls Tryz.prog 106 #[.agg (wP k).toArray, .agg (wvc i j).toArray] W fun e w' => e = .returned (.bool (passV k i j)) ∧ Below W.heap.size W w' := by
  obtain ⟨a, b, c, hP, ha0, ha⟩ : ∃ a b c : Int, wP k = wyc a b c ∧ (k = 0 → a = 0 ∧ b = 0 ∧ c = 0) ∧ (0 < k → a = wy1 (k - 1) ∧ b = wy2 (k - 1) ∧ c = wy3 (k - 1)) := by
    unfold wP
    by_cases h : k = 0
    · exact ⟨0, 0, 0, if_pos h, fun _ => ⟨rfl, rfl, rfl⟩, fun hh => by omega⟩
    · exact ⟨_, _, _, if_neg h, fun hh => absurd hh h, fun _ => ⟨rfl, rfl, rfl⟩⟩
  rw [hP]
  by_cases hl : lenC i < j
  · rw [show wvc i j = wyc 0 0 0 from if_neg (by omega), show passV k i j = true from by unfold passV; rw [decide_eq_true hl]; rfl]
    exact passes0 a b c W
  · have hv : passV k i j = ndS k (ps i j) := by unfold passV; rw [decide_eq_false hl]; rfl
    have hw : wvc i j = wyc (wy1 (ps i j)) (wy2 (ps i j)) (wy3 (ps i j)) := if_pos (by omega)
    rw [hv, hw]
    have hk1 : k = 0 ∨ (0 < k ∧ k - 1 < 6) ∨ (0 < k ∧ 6 ≤ k - 1 ∧ k - 1 < 38) ∨ (0 < k ∧ 38 ≤ k - 1) := by omega
    have hab : (k = 0 ∧ a = 0 ∧ b = 0) ∨ (0 < k ∧ k - 1 < 6 ∧ a = k ∧ b = 0) ∨ (6 ≤ k - 1 ∧ k - 1 < 38 ∧ a = 7 ∧ b = ((k - 1 - 5 : Nat) : Int)) ∨ (38 ≤ k - 1 ∧ a = 8 ∧ b = (((k - 1 - 38) / 32 + 1 : Nat) : Int) ∧ c = (((k - 1 - 38) % 32 + 1 : Nat) : Int)) := by
      rcases hk1 with h | ⟨h, h2⟩ | ⟨h, h2, h3⟩ | ⟨h, h2⟩
      · have := ha0 h
        omega
      · have := ha h
        have := wy_dir (k - 1) h2
        omega
      · have := ha h
        have := wy_sin (k - 1) h2 h3
        omega
      · have := ha h
        have := wy_three (k - 1) ⟨h2, by omega⟩
        omega
    rcases lenC_cases i with ⟨h, e⟩ | ⟨h, h2, e, ep⟩ | ⟨h, e⟩
    · obtain rfl : j = 0 := by omega
      obtain ⟨e1, e2, e3⟩ := wy_dir i h
      rw [show ps i 0 = i from rfl, e1, e2, e3]
      have hd : ndS k i = decide (a = ((i + 1 : Nat) : Int)) := by
        rw [Bool.eq_iff_iff, ndS_iff, decide_eq_true_iff]
        omega
      rw [hd]
      exact passes1 a b c _ (by omega) W
    · have hc : j = 0 ∨ j = 1 := by omega
      rcases hc with rfl | rfl
      · obtain ⟨e1, e2, e3⟩ := wy_sin i h h2
        rw [show ps i 0 = i from rfl, e1, e2, e3]
        have hd : ndS k i = decide (a = ((7 : Nat) : Int) ∧ b = ((i - 5 : Nat) : Int)) := by
          rw [Bool.eq_iff_iff, ndS_iff, decide_eq_true_iff]
          omega
        rw [hd]
        exact passes2 a b c _ _ (by omega) (by omega) W
      · rw [show ps i 1 = 2000 from ep]
        have hd : ndS k 2000 = decide (a = ((7 : Nat) : Int)) := by
          rw [Bool.eq_iff_iff, ndS_iff, decide_eq_true_iff]
          omega
        rw [hd]
        exact passes1 a b c 7 (by omega) W
    · have hc : j = 0 ∨ j = 1 ∨ j = 2 := by omega
      obtain ⟨e1, e2, e3, ep, -⟩ := wy_three i ⟨h, by omega⟩
      obtain ⟨f1, f2, f3⟩ := wy_row ((i - 38) / 32) (by omega)
      rcases hc with rfl | rfl | rfl
      · rw [show ps i 0 = i from rfl, e1, e2, e3]
        have hd : ndS k i = decide (a = ((8 : Nat) : Int) ∧ b = (((i - 38) / 32 + 1 : Nat) : Int) ∧ c = (((i - 38) % 32 + 1 : Nat) : Int)) := by
          rw [Bool.eq_iff_iff, ndS_iff, decide_eq_true_iff]
          omega
        rw [hd]
        exact passes3 a b c _ _ _ (by omega) (by omega) (by omega) W
      · rw [show ps i 1 = 2002 + (i - 38) / 32 from ep, f1, f2, f3]
        have hd : ndS k (2002 + (i - 38) / 32) = decide (a = ((8 : Nat) : Int) ∧ b = (((i - 38) / 32 + 1 : Nat) : Int)) := by
          rw [Bool.eq_iff_iff, ndS_iff, decide_eq_true_iff]
          omega
        rw [hd]
        exact passes2 a b c _ _ (by omega) (by omega) W
      · rw [show ps i 2 = 2001 from rfl]
        have hd : ndS k 2001 = decide (a = ((8 : Nat) : Int)) := by
          rw [Bool.eq_iff_iff, ndS_iff, decide_eq_true_iff]
          omega
        rw [hd]
        exact passes1 a b c 8 (by omega) W
/-- what is left behind j steps for data block i -/
def Rk (i : Nat) : Nat → Nat → Bool
  | 0 => ndS (i + 1)
  | j + 1 => remN (Rk i j) (ps i j)
theorem Rk_iff (i : Nat) : ∀ j c, Rk i j c = true ↔ ndS (i + 1) c = true ∧ ∀ j', j' < j → c ≠ ps i j'
  | 0, c => ⟨fun h => ⟨h, fun _ hh => absurd hh (Nat.not_lt_zero _)⟩, fun h => h.1⟩
  | j + 1, c => by
    rw [Rk, remN_iff, Rk_iff i j c]
    constructor
    · rintro ⟨⟨h1, h2⟩, h3⟩
      refine ⟨h1, fun j' hj' => ?_⟩
      by_cases e : j' = j
      · rw [e]
        exact h3
      · exact h2 j' (by omega)
    · rintro ⟨h1, h2⟩
      exact ⟨⟨h1, fun j' hj' => h2 j' (by omega)⟩, h2 j (by omega)⟩
set_option maxHeartbeats 8000000 in
theorem Rk_stop (i j : Nat) (hi : i < 256) (hj : j ≤ lenC i + 1) (hp : passV i i j = true) (hn : ∀ j', j' < j → passV i i j' = false) : Rk i j = ndS i := by
  have hn2 : ∀ j', j' < j → ndS i (ps i j') = false := fun j' hh => by
    have := hn j' hh
    unfold passV at this
    rw [Bool.or_eq_false_iff] at this
    exact this.2
  have hp2 : lenC i < j ∨ ndS i (ps i j) = true := by
    unfold passV at hp
    simpa using hp
  funext c
  rw [Bool.eq_iff_iff, Rk_iff]
  constructor
  · rintro ⟨h1, h2⟩
    rw [ndS_iff] at h1 hp2 ⊢
    rcases lenC_cases i with ⟨h, e⟩ | ⟨h, h', e, ep⟩ | ⟨h, e⟩
    · have q0 : 0 < j → c ≠ i := fun hh => h2 0 hh
      have p0 : j = 0 → ps i j = i := fun hh => by rw [hh]; rfl
      omega
    · have q0 : 0 < j → c ≠ i := fun hh => h2 0 hh
      have q1 : 1 < j → c ≠ 2000 := fun hh => by rw [← ep]; exact h2 1 hh
      have p0 : j = 0 → ps i j = i := fun hh => by rw [hh]; rfl
      have p1 : j = 1 → ps i j = 2000 := fun hh => by rw [hh]; exact ep
      omega
    · have ep := (wy_three i ⟨h, by omega⟩).2.2.2.1
      have q0 : 0 < j → c ≠ i := fun hh => h2 0 hh
      have q1 : 1 < j → c ≠ 2002 + (i - 38) / 32 := fun hh => by rw [← ep]; exact h2 1 hh
      have q2 : 2 < j → c ≠ 2001 := fun hh => h2 2 hh
      have p0 : j = 0 → ps i j = i := fun hh => by rw [hh]; rfl
      have p1 : j = 1 → ps i j = 2002 + (i - 38) / 32 := fun hh => by rw [hh]; exact ep
      have p2 : j = 2 → ps i j = 2001 := fun hh => by rw [hh]; rfl
      omega
  · intro h
    exact ⟨ndS_mono (by omega) c h, fun j' hh he => by rw [he, hn2 j' hh] at h; cases h⟩
set_option maxHeartbeats 8000000 in
/-- one more may be given -/
theorem Rk_step (i j : Nat) (hi : i < 256) (hj : j ≤ lenC i) (hn : ∀ j', j' ≤ j → passV i i j' = false) :
    Rk i j (ps i j) = true ∧ ndS i (ps i j) = false ∧ (∀ c', Rk i j c' = true → isR c' = false → parS c' ≠ ps i j) ∧ (∀ c', Rk i j c' = true → isR c' = false → Rk i j (parS c') = true) := by
  have hn2 : ∀ j', j' ≤ j → ndS i (ps i j') = false := fun j' hh => by
    have := hn j' hh
    unfold passV at this
    rw [Bool.or_eq_false_iff] at this
    exact this.2
  have hpar : ∀ c', ndS (i + 1) c' = true → isR c' = false → (c' < 38 ∧ 6 ≤ c' ∧ parS c' = 2000) ∨ (38 ≤ c' ∧ c' < 2000 ∧ parS c' = 2002 + (c' - 38) / 32) ∨ (2002 ≤ c' ∧ parS c' = 2001) := fun c' h1 h2 => by
    rw [ndS_iff] at h1
    rw [isR_no] at h2
    unfold parS
    split
    · omega
    · split <;> omega
  rcases lenC_cases i with ⟨h, e⟩ | ⟨h, h', e, ep⟩ | ⟨h, e⟩
  · obtain rfl : j = 0 := by omega
    refine ⟨(Rk_iff i 0 _).2 ⟨(ndS_iff _ _).2 (by show _ ∨ _; have : ps i 0 = i := rfl; omega), fun j' hh => by omega⟩, hn2 0 (Nat.le_refl _), fun c' h1 h2 => ?_, fun c' h1 h2 => ?_⟩
    · have := hpar c' ((Rk_iff i 0 c').1 h1).1 h2
      have e0 : ps i 0 = i := rfl
      omega
    · have h3 := ((Rk_iff i 0 c').1 h1).1
      have := hpar c' h3 h2
      rw [ndS_iff] at h3
      omega
  · have n0 : 0 ≤ j → ndS i i = false := fun _ => hn2 0 (Nat.zero_le _)
    have n1 : 1 ≤ j → ndS i 2000 = false := fun hh => by rw [← ep]; exact hn2 1 hh
    rw [ndS_no] at n1
    have hc : j = 0 ∨ j = 1 := by omega
    have hstep : ∀ c', Rk i j c' = true → isR c' = false → 6 ≤ c' ∧ c' < 38 ∧ c' ≤ i ∧ parS c' = 2000 ∧ (j = 1 → c' ≠ i) := fun c' h1 h2 => by
      obtain ⟨h3, h4⟩ := (Rk_iff i j c').1 h1
      have := hpar c' h3 h2
      rw [ndS_iff] at h3
      have : j = 1 → c' ≠ i := fun hh => h4 0 (by omega)
      omega
    refine ⟨(Rk_iff i j _).2 ⟨(ndS_iff _ _).2 ?_, fun j' hh => ?_⟩, hn2 j (Nat.le_refl _), fun c' h1 h2 => ?_, fun c' h1 h2 => ?_⟩
    · rcases hc with rfl | rfl
      · rw [show ps i 0 = i from rfl]
        omega
      · rw [show ps i 1 = 2000 from ep]
        omega
    · obtain rfl : j = 1 := by omega
      obtain rfl : j' = 0 := by omega
      rw [show ps i 1 = 2000 from ep, show ps i 0 = i from rfl]
      omega
    · have := hstep c' h1 h2
      rcases hc with rfl | rfl
      · rw [show ps i 0 = i from rfl]
        omega
      · have := n1 (Nat.le_refl _)
        omega
    · have hs := hstep c' h1 h2
      refine (Rk_iff i j _).2 ⟨(ndS_iff _ _).2 (by omega), fun j' hh => ?_⟩
      obtain rfl : j = 1 := by omega
      obtain rfl : j' = 0 := by omega
      rw [show ps i 0 = i from rfl]
      omega
  · have ep := (wy_three i ⟨h, by omega⟩).2.2.2.1
    have n1 : 1 ≤ j → ndS i (2002 + (i - 38) / 32) = false := fun hh => by rw [← ep]; exact hn2 1 hh
    have n2 : 2 ≤ j → ndS i 2001 = false := fun hh => hn2 2 hh
    rw [ndS_no] at n1 n2
    have hc : j = 0 ∨ j = 1 ∨ j = 2 := by omega
    have hx : ∀ c', Rk i j c' = true → ndS (i + 1) c' = true ∧ (1 ≤ j → c' ≠ i) ∧ (2 ≤ j → c' ≠ 2002 + (i - 38) / 32) := fun c' h1 => by
      obtain ⟨h3, h4⟩ := (Rk_iff i j c').1 h1
      exact ⟨h3, fun hh => h4 0 hh, fun hh => by rw [← ep]; exact h4 1 hh⟩
    refine ⟨(Rk_iff i j _).2 ⟨(ndS_iff _ _).2 ?_, fun j' hh => ?_⟩, hn2 j (Nat.le_refl _), fun c' h1 h2 => ?_, fun c' h1 h2 => ?_⟩
    · rcases hc with rfl | rfl | rfl
      · rw [show ps i 0 = i from rfl]
        omega
      · rw [show ps i 1 = 2002 + (i - 38) / 32 from ep]
        omega
      · rw [show ps i 2 = 2001 from rfl]
        omega
    · have h3 : (j = 1 ∧ j' = 0) ∨ (j = 2 ∧ j' = 0) ∨ (j = 2 ∧ j' = 1) := by omega
      rcases h3 with ⟨rfl, rfl⟩ | ⟨rfl, rfl⟩ | ⟨rfl, rfl⟩
      · rw [show ps i 1 = 2002 + (i - 38) / 32 from ep, show ps i 0 = i from rfl]
        omega
      · rw [show ps i 2 = 2001 from rfl, show ps i 0 = i from rfl]
        omega
      · rw [show ps i 2 = 2001 from rfl, show ps i 1 = 2002 + (i - 38) / 32 from ep]
        omega
    · obtain ⟨k1, k2, k3⟩ := hx c' h1
      have hpc := hpar c' k1 h2
      rw [ndS_iff] at k1
      rcases hc with rfl | rfl | rfl
      · rw [show ps i 0 = i from rfl]
        omega
      · rw [show ps i 1 = 2002 + (i - 38) / 32 from ep]
        have := n1 (Nat.le_refl _)
        have := k2 (Nat.le_refl _)
        omega
      · rw [show ps i 2 = 2001 from rfl]
        have := n2 (Nat.le_refl _)
        have := n1 (by omega)
        have := k3 (Nat.le_refl _)
        omega
    · obtain ⟨k1, k2, k3⟩ := hx c' h1
      have hpc := hpar c' k1 h2
      rw [ndS_iff] at k1
      refine (Rk_iff i j _).2 ⟨(ndS_iff _ _).2 (by omega), fun j' hh => ?_⟩
      have h3 : j' = 0 ∨ (j = 2 ∧ j' = 1) := by omega
      rcases h3 with rfl | ⟨rfl, rfl⟩
      · rw [show ps i 0 = i from rfl]
        omega
      · rw [show ps i 1 = 2002 + (i - 38) / 32 from ep]
        have := n1 (by omega)
        have := k2 (by omega)
        omega
set_option maxHeartbeats 8000000 in
/-- what tells of a block that is given, and stays, is on the way to the last one that stays -/
theorem Rk_par (k i j : Nat) (hk : k ≤ i) (hi : i < 256) (hj : j ≤ lenC i) : (isR (ps i j) || ndS k (parS (ps i j))) = passV k i (j + 1) ∧ (isR (ps i j) = false → ndS k (parS (ps i j)) = true → 0 < k ∧ ∃ i', i' ≤ lenC (k - 1) ∧ parS (ps i j) = chS (k - 1) i') := by
  have hch : ∀ c, 0 < k → (c = k - 1 ∨ (6 ≤ k - 1 ∧ k - 1 < 38 ∧ c = 2000) ∨ (38 ≤ k - 1 ∧ (c = 2001 ∨ c = 2002 + (k - 1 - 38) / 32))) → 0 < k ∧ ∃ i', i' ≤ lenC (k - 1) ∧ c = chS (k - 1) i' := fun c h0 h => ⟨h0, by
    obtain ⟨i', h1, h2⟩ := (chS_cases (k - 1) (by omega) c).2 h
    exact ⟨i', h1, h2⟩⟩
  rcases lenC_cases i with ⟨h, e⟩ | ⟨h, h', e, ep⟩ | ⟨h, e⟩
  · obtain rfl : j = 0 := by omega
    rw [show ps i 0 = i from rfl]
    have hr : isR i = true := (isR_iff i).2 (.inl h)
    refine ⟨?_, fun hh => by rw [hr] at hh; cases hh⟩
    unfold passV
    rw [hr, decide_eq_true (show lenC i < 0 + 1 by omega)]
    simp
  · have hc : j = 0 ∨ j = 1 := by omega
    rcases hc with rfl | rfl
    · have hr : isR i = false := (isR_no i).2 (by omega)
      rw [show ps i 0 = i from rfl, ep]
      refine ⟨?_, fun _ hh => hch 2000 ?_ ?_⟩
      · unfold passV
        rw [hr, decide_eq_false (show ¬ lenC i < 0 + 1 by omega), show ps i (0 + 1) = 2000 from ep]
      · rw [ndS_iff] at hh
        omega
      · rw [ndS_iff] at hh
        omega
    · rw [show ps i 1 = 2000 from ep]
      refine ⟨?_, fun hh => by cases hh⟩
      unfold passV
      rw [decide_eq_true (show lenC i < 1 + 1 by omega)]
      rfl
  · have hc : j = 0 ∨ j = 1 ∨ j = 2 := by omega
    have ep := (wy_three i ⟨h, by omega⟩).2.2.2.1
    rcases hc with rfl | rfl | rfl
    · have hr : isR i = false := (isR_no i).2 (by omega)
      rw [show ps i 0 = i from rfl, ep]
      refine ⟨?_, fun _ hh => hch _ ?_ ?_⟩
      · unfold passV
        rw [hr, decide_eq_false (show ¬ lenC i < 0 + 1 by omega), show ps i (0 + 1) = 2002 + (i - 38) / 32 from ep]
      · rw [ndS_iff] at hh
        omega
      · rw [ndS_iff] at hh
        omega
    · have hr : isR (2002 + (i - 38) / 32) = false := (isR_no _).2 (by omega)
      have hp : parS (2002 + (i - 38) / 32) = 2001 := by unfold parS; rw [if_neg (by omega), if_neg (by omega)]
      rw [show ps i 1 = 2002 + (i - 38) / 32 from ep, hp]
      refine ⟨?_, fun _ hh => hch _ ?_ ?_⟩
      · unfold passV
        rw [hr, decide_eq_false (show ¬ lenC i < 1 + 1 by omega), show ps i (1 + 1) = 2001 from rfl]
      · rw [ndS_iff] at hh
        omega
      · rw [ndS_iff] at hh
        omega
    · rw [show ps i 2 = 2001 from rfl]
      refine ⟨?_, fun hh => by cases hh⟩
      unfold passV
      rw [decide_eq_true (show lenC i < 2 + 1 by omega)]
      rfl
end Go.Proofs.YtbnpgkclnebnmaaGreat

namespace Go.Proofs.YtbnpgkclnebnmaaGreat
set_option linter.unusedSimpArgs false
set_option linter.unusedVariables false
open Go.RowKit Go.Maps

variable {ln : Lm}
def nzc (w : World) (b i : Nat) : Nat := match w.cell? ⟨b, i, none⟩ with
  | some (.int _ n) => if n = 0 then 0 else 1
  | _ => 1
theorem nzc_of {w : World} {b i : Nat} {n : Int} (h : w.cell? ⟨b, i, none⟩ = some (.int .i64 n)) : nzc w b i = if n = 0 then 0 else 1 := by
  unfold nzc
  rw [h]
theorem nz_wv (i j : Nat) (hi : i < 256) (hj : j ≤ lenC i + 1) (w : World) (b : Nat) (hV : Vl w b (wvc i j)) : nzc w b 0 + nzc w b 1 + nzc w b 2 = lenC i + 1 - j := by
  obtain ⟨x, y, z, hx, hc⟩ : ∃ x y z : Int, wvc i j = wyc x y z ∧ ((if x = 0 then 0 else 1) + (if y = 0 then 0 else 1) + (if z = 0 then 0 else 1) = lenC i + 1 - j) := by
    by_cases hl : lenC i < j
    · refine ⟨0, 0, 0, if_neg (by omega), ?_⟩
      simp
      omega
    · refine ⟨_, _, _, if_pos (by omega), ?_⟩
      rcases lenC_cases i with ⟨h, e⟩ | ⟨h, h2, e, ep⟩ | ⟨h, e⟩
      · obtain rfl : j = 0 := by omega
        obtain ⟨e1, e2, e3⟩ := wy_dir i h
        rw [show ps i 0 = i from rfl, e1, e2, e3, e, if_neg (by omega)]
        simp
      · have hc : j = 0 ∨ j = 1 := by omega
        rcases hc with rfl | rfl
        · obtain ⟨e1, e2, e3⟩ := wy_sin i h h2
          rw [show ps i 0 = i from rfl, e1, e2, e3, e, if_neg (by omega), if_neg (by omega)]
          simp
        · rw [show ps i 1 = 2000 from ep, e]
          rfl
      · have hc : j = 0 ∨ j = 1 ∨ j = 2 := by omega
        obtain ⟨e1, e2, e3, ep, -⟩ := wy_three i ⟨h, by omega⟩
        obtain ⟨f1, f2, f3⟩ := wy_row ((i - 38) / 32) (by omega)
        rcases hc with rfl | rfl | rfl
        · rw [show ps i 0 = i from rfl, e1, e2, e3, e, if_neg (by omega), if_neg (by omega), if_neg (by omega)]
        · rw [show ps i 1 = 2002 + (i - 38) / 32 from ep, f1, f2, f3, e, if_neg (by omega), if_neg (by omega)]
          simp
        · rw [show ps i 2 = 2001 from rfl, e]
          rfl
  rw [hx] at hV
  rw [nzc_of (hV.c 0 _ rfl), nzc_of (hV.c 1 _ rfl), nzc_of (hV.c 2 _ rfl)]
  exact hc
def mzP (w : World) (v : Value) : Nat := match v with
  | .pointer (some a) => nzc w a.block 0 + nzc w a.block 1 + nzc w a.block 2
  | _ => 0
theorem wayto_prev (k : Nat) (hk : k ≤ 256) (W : World) : Calls Tryz.prog 83 #[.int .i64 ((k : Int) - 1)] W fun e w' => e = .returned (.agg (wP k).toArray) ∧ Below W.heap.size W w' := by
  by_cases h : k = 0
  · subst h
    exact wayto_out _ (.inl (by decide)) W
  · have := wayto_slot (k - 1) (by omega) ((k : Int) - 1) (by omega) W
    unfold wP
    rw [if_neg h]
    exact this
theorem wyS_ps (i j : Nat) (hj : j ≤ lenC i) : wyS (ps i j) = .agg (wvc i j).toArray := by
  unfold wvc
  rw [if_pos hj]
  rfl
theorem Gv.stop {B0 DA NB : Nat} {Kp : Nat → Bool} {Y0 : Nat → Nat → Int} {f0 : Nat → Int} {S0 : Nat → Bool} {b : Nat → Nat} {Y : Nat → Nat → Int} {f : Nat → Int} {S : Nat → Bool} (h : Gv B0 DA NB Kp Y0 f0 S0 b Y f S Kp) : S = Kp := by
  funext c
  cases hk : Kp c
  · cases hs : S c
    · rfl
    · exfalso
      obtain ⟨h1, h2⟩ := h.st c hs hk
      have h3 := h.fi.cl c h1 hs
      obtain ⟨h4, h5⟩ := h.st _ h3 h2
      have h6 := h.fi.cl _ h4 h3
      have h7 := (h.st _ h6 h5).1
      rw [par_top c (h.fi.ok c hs) h1 h4] at h7
      cases h7
  · exact h.rs c (h.kr c hk)
set_option maxHeartbeats 80000000 in
set_option maxRecDepth 200000 in
theorem givefrom_any (b q p t m d gg lab B0 P0 M DA NB N K : Nat) (g : Cf.Ge) (Y0 : Nat → Nat → Int) (f0 : Nat → Int) (b0 : Nat → Nat) (sz keep n0 : Nat) (hsz : f0 3 = sz) (hsz2 : sz ≤ 16384) (hn0 : (sz + 63) / 64 = n0) (hkp : keep ≤ n0) (hFu : Fu B0 DA NB Y0 f0 (ndS n0) b0) (hT0 : Has ln B0) (hT : 0 < keep → ∀ i, i ≤ lenC (keep - 1) → Has ln (DA + (b0 (chS (keep - 1) i) - 1)))
    (hK : K < 300000000) (hg : GG g B0 P0 M DA NB N) (w : World) (h : Bo w w b q p t m d gg lab g B0 NB N ln Y0 K f0) :
    Calls Tryz.prog 70 #[.pointer (some ⟨b, 0, none⟩), .int .i64 keep] w fun e w' => ∃ Y f, e = .returned (.int .i64 0) ∧ Bo w w' b q p t m d gg lab g B0 NB N ln Y (K + 10300) f ∧ Gv B0 DA NB (ndS keep) Y0 f0 (ndS n0) b0 Y f (ndS keep) (ndS keep) := by
  obtain ⟨dW, hu, hd⟩ := Tryz.descWy
  have HU := Lib.hid hu
  have HD := Lib.hid hd
  have hn256 : n0 ≤ 256 := by omega
  have HSz := Lib.hid (fun W hW => size_any b q f0 (by omega) (by omega) W hW)
  rw [hsz] at HSz
  have HSp : Hid (∀ W, Calls Tryz.prog 69 #[.int .i64 sz] W fun e w' => (∃ x, e = .returned (.tuple #[.int .i64 n0, .int .i64 x])) ∧ w' = W) := Lib.hid (fun W => by
    have hds : dataS sz = (n0 : Int) := by unfold dataS; split <;> omega
    have := spread_any sz (by omega) W
    rw [hds] at this
    exact this.mono (by
      rintro e w' ⟨rfl, hw⟩
      exact ⟨⟨_, rfl⟩, hw⟩))
  obtain ⟨s0, s1, s2, hs⟩ : ∃ x y z : Int, wP keep = wyc x y z := by
    unfold wP
    split
    · exact ⟨_, _, _, rfl⟩
    · exact ⟨_, _, _, rfl⟩
  have HWk := Lib.hid (fun W => wayto_prev keep (by omega) W)
  rw [hs] at HWk
  have HGA : Hid (∀ i, keep ≤ i → i < n0 → ∀ j, j ≤ lenC i → (∀ j', j' ≤ j → passV i i j' = false) → ∀ Y f S K', K' < 500000000 → Gv B0 DA NB (ndS keep) Y0 f0 (ndS n0) b0 Y f S (Rk i j) → ∀ W, Bo W W b q p t m d gg lab g B0 NB N ln Y K' f →
      Calls Tryz.prog 108 #[.pointer (some ⟨b, 0, none⟩), .agg (wvc i j).toArray, .agg (wyc s0 s1 s2).toArray] W fun e w' => ∃ Y' f' S', e = .returned (.int .i64 0) ∧ Bo W w' b q p t m d gg lab g B0 NB N ln Y' (K' + 10) f' ∧ Gv B0 DA NB (ndS keep) Y0 f0 (ndS n0) b0 Y' f' S' (Rk i (j + 1))) := Lib.hid (fun i h1 h2 j hj hn Y f S K' hK' hG W hW => by
    obtain ⟨r1, r2, r3, r4⟩ := Rk_step i j (by omega) hj hn
    obtain ⟨p1, p2⟩ := Rk_par keep i j h1 (by omega) hj
    have hnk : ndS keep (ps i j) = false := by
      cases hh : ndS keep (ps i j)
      · rfl
      · rw [ndS_mono h1 _ hh] at r2
        cases r2
    have := giveat_any (ln := ln) b q p t m d gg lab B0 P0 M DA NB N K' g (ndS keep) Y0 f0 (ndS n0) b0 Y f S (Rk i j) hG hFu.us hFu.fi.inj hFu.fi.rng (ps i j) r1 hnk r3 r4 hT0 (fun k1 k2 => by
      obtain ⟨k3, i', k4, k5⟩ := p2 k1 k2
      rw [k5]
      exact hT k3 i' k4) s0 s1 s2 (wvc i (j + 1)).toArray (fun W => up_wv i j (by omega) hj W) (fun W => by
      rw [p1, ← hs]
      exact passes_wv keep i (j + 1) h1 (by omega) (by omega) W) hK' hg W hW
    rw [wyS_ps i j hj] at this
    exact this)
  have HGs := Lib.hid (Gv.start (B0 := B0) (Kp := ndS keep) hFu.fi (fun c hc => ndS_mono hkp c hc))
  have HB := Lib.hid h
  have hk0 : (0 : Int) ≤ keep := by omega
  have hk1 : (keep : Int) ≤ 256 := by omega
  obtain ⟨zi, hzi⟩ : ∃ z : Int, (sz : Int) = z := ⟨_, rfl⟩
  rw [hzi] at HSz HSp
  have hn0i : (n0 : Int) ≤ 256 := by omega
  clear hu hd hsz hn0 hFu hT0 hT hg h hs hzi
  go_enter Tryz.func70, Tryz.ntmps70
  have HB0 := HB.out.bd
  go_wp2_with fail
  refine (HSz.out w HB0).mono ?_
  rintro e wz ⟨rfl, hwz⟩
  rw [hwz]
  clear hwz HSz HB0
  go_wp2_with fail
  refine (HSp.out w).mono ?_
  rintro e wz ⟨⟨xp, rfl⟩, hwz⟩
  rw [hwz]
  clear hwz HSp
  go_wp2_with fail
  refine (HWk.out w).mono ?_
  rintro e w1 ⟨rfl, hb⟩
  have HB1 := Lib.hid (HB.out.keep hb)
  clear hb HWk HB
  go_upto_region 3 with (first | (refine wpList_alloc_list (w := w1) rfl 181 rfl (wyc 0 0 0) Tryz.zeroWy ?_; intro w2 F2 hb2 hz2; simp only [Act.put, List.getElem_toArray, List.getElem_cons_zero, List.getElem_cons_succ, List.setIfInBounds_toArray, List.set_cons_zero, List.set_cons_succ]; refine wpList_store_list rfl 181 (.tmp 7) (.tmp 20) rfl w1.heap.size (wyc 0 0 0) (wyc s0 s1 s2) rfl rfl F2.out rfl (sizeWy _ _ _) (wyc_one _ _ _) ?_; intro w3 F3 HK3; have HQ2 := Lib.hid hb2; clear hb2 F2))
  obtain ⟨bS, hbS⟩ : ∃ x, w1.heap.size = x := ⟨_, rfl⟩
  have hS0 : w.heap.size ≤ bS := by have := HB1.out.kf.size; omega
  have HB3 := Lib.hid ((HB1.out.keep HQ2.out).new HK3.out (by have := HB1.out.kf.size; omega))
  rw [hbS] at F3
  try rw [hbS]
  clear HQ2 HK3 HB1 hbS hz2
  go_wp2_with fail
  go_loopw [8, 9, 10, 11] (fun iv _ _ _ wr => ∃ k : Nat, keep ≤ k ∧ k ≤ n0 ∧ iv = .int .i64 ((k : Int) - 1) ∧ Vl wr bS (wyc s0 s1 s2) ∧ ∃ Y f S, Bo w wr b q p t m d gg lab g B0 NB N ln Y (K + 40 * (n0 - k)) f ∧ Gv B0 DA NB (ndS keep) Y0 f0 (ndS n0) b0 Y f S (ndS k)) (fun iv _ _ _ _ => (Go.RowKit.intOf iv + 1).toNat)
  case atStart => exact ⟨n0, hkp, Nat.le_refl _, rfl, F3.out, Y0, f0, ndS n0, HB3.out.mono (Lm.le_refl _) (by omega), HGs.out⟩
  case round =>
    obtain ⟨k, hk, hkn, rfl, hVS, Y, f, S, hB, hG⟩ := hrel
    obtain ⟨wX, rfl⟩ : ∃ x, x = wr := ⟨wr, rfl⟩
    have HBr := Lib.hid hB
    have HGr := Lib.hid hG
    have FS := Lib.hid hVS
    clear hB hG hVS HB3 F3 HGs
    by_cases hlt : keep < k
    · obtain ⟨i, rfl⟩ : ∃ i, k = i + 1 := ⟨k - 1, by omega⟩
      have hi1 : (((i + 1 : Nat) : Int) - 1) = (i : Int) := by omega
      rw [hi1]
      have hki : keep ≤ i := by omega
      have hki2 : (keep : Int) ≤ i := by omega
      have hi0 : (0 : Int) ≤ i := by omega
      have hi2 : (i : Int) < 256 := by omega
      have hi256 : i < 256 := by omega
      have HWa := Lib.hid (fun W => wayto_prev i (by omega) W)
      have HWb := Lib.hid (fun W => wayto_slot i hi256 (i : Int) rfl W)
      rw [show wyS i = .agg (wvc i 0).toArray from wyS_ps i 0 (Nat.zero_le _)] at HWb
      obtain ⟨a0, a1, a2, ha⟩ : ∃ x y z : Int, wP i = wyc x y z := by
        unfold wP
        split
        · exact ⟨_, _, _, rfl⟩
        · exact ⟨_, _, _, rfl⟩
      rw [ha] at HWa
      obtain ⟨c0, c1, c2, hc⟩ : ∃ x y z : Int, wvc i 0 = wyc x y z := ⟨_, _, _, if_pos (Nat.zero_le _)⟩
      have HWc := Lib.hid hc
      rw [hc] at HWb
      have HWA := Lib.hid ha
      clear ha hc hlt hi1 hk
      go_wp2_with fail
      refine (HWa.out wX).mono ?_
      rintro e w4 ⟨rfl, hb⟩
      have HB4 := Lib.hid (HBr.out.keep hb)
      have FS4 := Lib.hid (FS.out.keep hb)
      clear hb HWa HBr FS
      go_upto_region 7 with (first | (refine wpList_alloc_list (w := w4) rfl 181 rfl (wyc 0 0 0) Tryz.zeroWy ?_; intro w5 F5 hb5 hz5; simp only [Act.put, List.getElem_toArray, List.getElem_cons_zero, List.getElem_cons_succ, List.setIfInBounds_toArray, List.set_cons_zero, List.set_cons_succ]; refine wpList_store_list rfl 181 (.tmp 9) (.tmp 30) rfl w4.heap.size (wyc 0 0 0) (wyc a0 a1 a2) rfl rfl F5.out rfl (sizeWy _ _ _) (wyc_one _ _ _) ?_; intro w6 F6 HK6; have HQ5 := Lib.hid hb5; clear hb5 F5))
      obtain ⟨bA, hbA⟩ : ∃ x, w4.heap.size = x := ⟨_, rfl⟩
      have hA0 : w.heap.size ≤ bA := by have := HB4.out.kf.size; omega
      have hSA : bS < bA := by have := FS4.out.lt; omega
      have HB6 := Lib.hid ((HB4.out.keep HQ5.out).new HK6.out (by have := HB4.out.kf.size; omega))
      have FS6 := Lib.hid ((FS4.out.keep HQ5.out).kp HK6.out (by omega) (by omega))
      rw [hbA] at F6
      try rw [hbA]
      clear HQ5 HK6 HB4 FS4 hbA hz5
      go_wp2_with fail
      refine (HWb.out w6).mono ?_
      rintro e w7 ⟨rfl, hb⟩
      have HB7 := Lib.hid (HB6.out.keep hb)
      have FS7 := Lib.hid (FS6.out.keep hb)
      have FA7 := Lib.hid (F6.out.keep hb)
      clear hb HWb HB6 FS6 F6
      go_wp2_with (first | (refine wpList_alloc_list (w := w7) rfl 181 rfl (wyc 0 0 0) Tryz.zeroWy ?_; intro w8 F8 hb8 hz8; simp only [Act.put, List.getElem_toArray, List.getElem_cons_zero, List.getElem_cons_succ, List.setIfInBounds_toArray, List.set_cons_zero, List.set_cons_succ]; refine wpList_store_list rfl 181 (.tmp 10) (.tmp 32) rfl w7.heap.size (wyc 0 0 0) (wyc c0 c1 c2) rfl rfl F8.out rfl (sizeWy _ _ _) (wyc_one _ _ _) ?_; intro w9 F9 HK9; have HQ8 := Lib.hid hb8; clear hb8 F8))
      obtain ⟨bW, hbW⟩ : ∃ x, w7.heap.size = x := ⟨_, rfl⟩
      have hW0 : w.heap.size ≤ bW := by have := HB7.out.kf.size; omega
      have hAW : bA < bW := by have := FA7.out.lt; omega
      have HB9 := Lib.hid ((HB7.out.keep HQ8.out).new HK9.out (by have := HB7.out.kf.size; omega))
      have FS9 := Lib.hid ((FS7.out.keep HQ8.out).kp HK9.out (by omega) (by omega))
      have FA9 := Lib.hid ((FA7.out.keep HQ8.out).kp HK9.out (by omega) (by omega))
      rw [hbW] at F9
      try rw [hbW]
      rw [← HWc.out] at F9
      clear HQ8 HK9 HB7 FS7 FA7 hbW hz8 HWc
      try simp only [Act.put, List.getElem_toArray, List.getElem_cons_zero, List.getElem_cons_succ, List.setIfInBounds_toArray, List.set_cons_zero, List.set_cons_succ]
      go_loopw [10, 11] (fun pw _ wr => ∃ j bw : Nat, j ≤ lenC i + 1 ∧ (∀ j', j' < j → passV i i j' = false) ∧ pw = .pointer (some ⟨bw, 0, none⟩) ∧ bA < bw ∧ Vl wr bw (wvc i j) ∧ Vl wr bA (wyc a0 a1 a2) ∧ Vl wr bS (wyc s0 s1 s2) ∧ ∃ Y f S, Bo w wr b q p t m d gg lab g B0 NB N ln Y (K + 40 * (n0 - (i + 1)) + 10 * j) f ∧ Gv B0 DA NB (ndS keep) Y0 f0 (ndS n0) b0 Y f S (Rk i j)) (fun pw _ wr => mzP wr pw)
      case atStart => exact ⟨0, bW, Nat.zero_le _, fun j' hh => absurd hh (Nat.not_lt_zero _), rfl, hAW, F9.out, FA9.out, FS9.out, Y, f, S, HB9.out.mono (Lm.le_refl _) (by omega), HGr.out⟩
      case round =>
        obtain ⟨j, bw, hj, hn, rfl, hbw, hVw, hVA, hVS, Y, f, S, hB, hG⟩ := hrel
        have HBq := Lib.hid hB
        have HGq := Lib.hid hG
        have FWq := Lib.hid hVw
        have FAq := Lib.hid hVA
        have FSq := Lib.hid hVS
        have HNq := Lib.hid hn
        have hb0w : w.heap.size ≤ bw := by omega
        have HMz := Lib.hid (nz_wv i j hi256 hj wr bw hVw)
        clear hB hG hVw hVA hVS hn HB9 FS9 FA9 F9 HGr
        have HPa := Lib.hid (fun W => passes_wv i i j (Nat.le_refl _) hi256 hj W)
        rw [HWA.out] at HPa
        obtain ⟨x0, x1, x2, hx⟩ : ∃ x y z : Int, wvc i j = wyc x y z := by
          unfold wvc
          split
          · exact ⟨_, _, _, rfl⟩
          · exact ⟨_, _, _, rfl⟩
        rw [hx] at HPa FWq
        have HX := Lib.hid hx
        obtain ⟨pv, hpv⟩ : ∃ x, passV i i j = x := ⟨_, rfl⟩
        rw [hpv] at HPa
        have HPv := Lib.hid hpv
        clear hx hpv
        have HRA := Lib.hid FAq.out.range0
        have HRW := Lib.hid FWq.out.range0
        go_wp2_with (first | (refine wpList_load_mid rfl 181 _ rfl bA 0 rfl (wyc a0 a1 a2) dW HRA.out HU.out HD.out (sizeWy _ _ _) ?_) | (refine wpList_load_mid rfl 181 _ rfl bw 0 rfl (wyc x0 x1 x2) dW HRW.out HU.out HD.out (sizeWy _ _ _) ?_))
        refine (HPa.out wr).mono ?_
        rintro e w10 ⟨rfl, hb⟩
        have HBt := Lib.hid (HBq.out.keep hb)
        have FWt := Lib.hid (FWq.out.keep hb)
        have FAt := Lib.hid (FAq.out.keep hb)
        have FSt := Lib.hid (FSq.out.keep hb)
        clear hb HPa HBq FWq FAq FSq HRA HRW
        cases pv
        · have hjl : j ≤ lenC i := by
            have := HPv.out
            unfold passV at this
            rw [Bool.or_eq_false_iff] at this
            have := this.1
            simp at this
            exact this
          have hn2 : ∀ j', j' ≤ j → passV i i j' = false := fun j' hh => by
            by_cases e : j' = j
            · rw [e]
              exact HPv.out
            · exact HNq.out j' (by omega)
          have HGa := Lib.hid (HGA.out i hki (by omega) j hjl hn2 Y f S (K + 40 * (n0 - (i + 1)) + 10 * j) (by have := (lenC_cases i); omega) HGq.out w10 HBt.out.self)
          have HUp := Lib.hid (fun W => up_wv i j hi256 hjl W)
          rw [wyS_ps i j hjl] at HUp
          rw [HX.out] at HGa HUp
          obtain ⟨y0, y1, y2, hy⟩ : ∃ x y z : Int, wvc i (j + 1) = wyc x y z := by
            unfold wvc
            split
            · exact ⟨_, _, _, rfl⟩
            · exact ⟨_, _, _, rfl⟩
          rw [hy] at HUp
          have HY := Lib.hid hy
          have HN2 := Lib.hid hn2
          clear hy hn2
          have HRS := Lib.hid FSt.out.range0
          have HRW := Lib.hid FWt.out.range0
          go_wp2_with (first | (refine wpList_load_mid rfl 181 _ rfl bw 0 rfl (wyc x0 x1 x2) dW HRW.out HU.out HD.out (sizeWy _ _ _) ?_) | (refine wpList_load_mid rfl 181 _ rfl bS 0 rfl (wyc s0 s1 s2) dW HRS.out HU.out HD.out (sizeWy _ _ _) ?_))
          refine HGa.out.mono ?_
          rintro e w11 ⟨Y', f', S', rfl, hB11, hG11⟩
          have FWu := Lib.hid (FWt.out.kf hB11.kf (fun ha => by have := HBt.out.nin hb0w; simp only [List.mem_cons, List.not_mem_nil, or_false, not_or] at this ha; omega))
          have FAu := Lib.hid (FAt.out.kf hB11.kf (fun ha => by have := HBt.out.nin hA0; simp only [List.mem_cons, List.not_mem_nil, or_false, not_or] at this ha; omega))
          have FSu := Lib.hid (FSt.out.kf hB11.kf (fun ha => by have := HBt.out.nin hS0; simp only [List.mem_cons, List.not_mem_nil, or_false, not_or] at this ha; omega))
          have HBu := Lib.hid (HBt.out.trans hB11)
          have HGu := Lib.hid hG11
          clear hB11 hG11 HGa HBt FWt FAt FSt HRS HRW HGq
          have HRW := Lib.hid FWu.out.range0
          go_upto_region 9 with (first | (refine wpList_load_mid rfl 181 _ rfl bw 0 rfl (wyc x0 x1 x2) dW HRW.out HU.out HD.out (sizeWy _ _ _) ?_) | (refine wpList_alloc_list (w := w11) rfl 181 rfl (wyc 0 0 0) Tryz.zeroWy ?_; intro w12 F12 hb12 hz12; simp only [Act.put, List.getElem_toArray, List.getElem_cons_zero, List.getElem_cons_succ, List.setIfInBounds_toArray, List.set_cons_zero, List.set_cons_succ]; refine wpList_store_list rfl 181 (.tmp 10) (.tmp 46) rfl w11.heap.size (wyc 0 0 0) (wyc x0 x1 x2) rfl rfl F12.out rfl (sizeWy _ _ _) (wyc_one _ _ _) ?_; intro w13 F13 HK13; have HQ12 := Lib.hid hb12; clear hb12 F12))
          obtain ⟨bN, hbN⟩ : ∃ x, w11.heap.size = x := ⟨_, rfl⟩
          have hN0 : w.heap.size ≤ bN := by have := HBu.out.kf.size; omega
          have hWN : bw < bN := by have := FWu.out.lt; omega
          have HBv := Lib.hid ((HBu.out.keep HQ12.out).new HK13.out (by have := HBu.out.kf.size; omega))
          have FAv := Lib.hid ((FAu.out.keep HQ12.out).kp HK13.out (by omega) (by omega))
          have FSv := Lib.hid ((FSu.out.keep HQ12.out).kp HK13.out (by omega) (by omega))
          rw [hbN] at F13
          try rw [hbN]
          clear HQ12 HK13 HBu FAu FSu FWu HRW hbN hz12
          have HRN := Lib.hid F13.out.range0
          go_wp2_with (refine wpList_load_mid rfl 181 _ rfl bN 0 rfl (wyc x0 x1 x2) dW HRN.out HU.out HD.out (sizeWy _ _ _) ?_)
          refine (HUp.out w13).mono ?_
          rintro e w14 ⟨rfl, hb⟩
          have HBx := Lib.hid (HBv.out.keep hb)
          have FAx := Lib.hid (FAv.out.keep hb)
          have FSx := Lib.hid (FSv.out.keep hb)
          have FNx := Lib.hid (F13.out.keep hb)
          clear hb HUp HBv FAv FSv F13 HRN
          have FNy := Lib.hid (FNx.out.stored (wyc y0 y1 y2) rfl)
          have hk15 : Kp w14 (w14.setCells bN 0 (wyc y0 y1 y2)) bN bN := (Kp.refl w14 bN bN).setCells bN 0 (.inl rfl) _
          have HBy := Lib.hid (HBx.out.new hk15 hN0)
          have FAy := Lib.hid (FAx.out.kp hk15 (by omega) (by omega))
          have FSy := Lib.hid (FSx.out.kp hk15 (by omega) (by omega))
          clear hk15
          go_wp2_with (refine wpList_store_mid rfl 181 _ _ rfl bN 0 (wyc y0 y1 y2).toArray rfl rfl (FNx.out.there0 3 rfl) (sizeWy _ _ _) (all_oneCell_toArray (wyc_one _ _ _)) ?_)
          try simp only [Act.put]
          go_roundw
          case rel =>
            refine ⟨j + 1, bN, by omega, fun j' hh => HN2.out j' (by omega), rfl, by omega, ?_, FAy.out, FSy.out, Y', f', S', HBy.out.mono (Lm.le_refl _) (by omega), HGu.out⟩
            rw [HY.out]
            exact FNy.out
          case measure =>
            have h1 := HMz.out
            have h2 := nz_wv i (j + 1) hi256 (by omega) _ bN (by rw [HY.out]; exact FNy.out)
            show mzP _ (.pointer (some ⟨bN, 0, none⟩)) < mzP _ (.pointer (some ⟨bw, 0, none⟩))
            unfold mzP
            simp only []
            omega
        · have HSt := Lib.hid (Rk_stop i j hi256 hj HPv.out HNq.out)
          go_wp2_with fail
          go_roundw
          case rel =>
            refine ⟨i, hki, by omega, by go_num, FSt.out, Y, f, S, HBt.out.mono (Lm.le_refl _) (by have := lenC_cases i; omega), ?_⟩
            rw [← HSt.out]
            exact HGq.out
          case measure => (simp [Go.RowKit.intOf]; try omega)
    · obtain rfl : k = keep := by omega
      have hSt := HGr.out.stop
      rw [hSt] at HGr
      clear hSt
      have hk2 : (k : Int) - 1 < k := by omega
      go_wp2_with fail
      go_ret
      exact ⟨Y, f, rfl, HBr.out.mono (Lm.le_refl _) (by omega), HGr.out⟩
end Go.Proofs.YtbnpgkclnebnmaaGreat
