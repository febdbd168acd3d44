import Derived.Test.YtbnpgkclnebnmaaGreatF11
/- Files: what a write leaves (pure). -/
namespace Go.Proofs.YtbnpgkclnebnmaaGreat
set_option linter.unusedSimpArgs false
set_option linter.unusedVariables false
open Go.RowKit Go.Maps

/-- the slots of a file of n data blocks -/
def ndS (n c : Nat) : Bool := if c < 2000 then decide (c < n) else if c = 2000 then decide (6 < n) else if c = 2001 then decide (38 < n) else decide (38 + 32 * (c - 2002) < n)
theorem ndS_iff (n c : Nat) : ndS n c = true ↔ (c < 2000 ∧ c < n) ∨ (c = 2000 ∧ 6 < n) ∨ (c = 2001 ∧ 38 < n) ∨ (2002 ≤ c ∧ 38 + 32 * (c - 2002) < n) := by
  unfold ndS
  split
  · simp
    omega
  · split
    · simp
      omega
    · split
      · simp
        omega
      · simp
        omega
theorem ndS_no (n c : Nat) : ndS n c = false ↔ ¬ ((c < 2000 ∧ c < n) ∨ (c = 2000 ∧ 6 < n) ∨ (c = 2001 ∧ 38 < n) ∨ (2002 ≤ c ∧ 38 + 32 * (c - 2002) < n)) := by
  rw [← ndS_iff]
  simp
theorem chS_cases (c : Nat) (hc : c < 256) (c' : Nat) : (∃ i, i ≤ lenC c ∧ c' = chS c i) ↔ c' = c ∨ (6 ≤ c ∧ c < 38 ∧ c' = 2000) ∨ (38 ≤ c ∧ (c' = 2001 ∨ c' = 2002 + (c - 38) / 32)) := by
  have hl : c < 6 ∧ lenC c = 0 ∨ 6 ≤ c ∧ c < 38 ∧ lenC c = 1 ∨ 38 ≤ c ∧ lenC c = 2 := by
    unfold lenC
    split
    · omega
    · split <;> omega
  rcases hl with ⟨h, e⟩ | ⟨h, h', e⟩ | ⟨h, e⟩
  · have h0 : chS c 0 = c := by unfold chS; rw [e, if_pos rfl]
    rw [e]
    constructor
    · rintro ⟨i, hi, rfl⟩
      obtain rfl : i = 0 := by omega
      exact .inl h0
    · rintro (rfl | h | h)
      · exact ⟨0, Nat.le_refl _, h0.symm⟩
      · omega
      · omega
  · have hp : parS c = 2000 := by unfold parS; rw [if_pos h']
    have h1 : chS c 1 = c := by unfold chS; rw [e, if_pos rfl]
    have h0 : chS c 0 = 2000 := by unfold chS; rw [e, if_neg (by decide), if_pos rfl, hp]
    rw [e]
    constructor
    · rintro ⟨i, hi, rfl⟩
      have hi2 : i = 0 ∨ i = 1 := by omega
      rcases hi2 with rfl | rfl
      · exact .inr (.inl ⟨h, h', h0⟩)
      · exact .inl h1
    · rintro (rfl | ⟨-, -, rfl⟩ | h)
      · exact ⟨1, Nat.le_refl _, h1.symm⟩
      · exact ⟨0, by decide, h0.symm⟩
      · omega
  · have hp : parS c = 2002 + (c - 38) / 32 := by unfold parS; rw [if_neg (by omega), if_pos (by omega)]
    have h2 : chS c 2 = c := by unfold chS; rw [e, if_pos rfl]
    have h1 : chS c 1 = 2002 + (c - 38) / 32 := by unfold chS; rw [e, if_neg (by decide), if_pos rfl, hp]
    have h0 : chS c 0 = 2001 := by unfold chS; rw [e, if_neg (by decide), if_neg (by decide)]
    rw [e]
    constructor
    · rintro ⟨i, hi, rfl⟩
      have hi2 : i = 0 ∨ i = 1 ∨ i = 2 := by omega
      rcases hi2 with rfl | rfl | rfl
      · exact .inr (.inr ⟨h, .inl h0⟩)
      · exact .inr (.inr ⟨h, .inr h1⟩)
      · exact .inl h2
    · rintro (rfl | h | ⟨-, rfl | rfl⟩)
      · exact ⟨2, Nat.le_refl _, h2.symm⟩
      · omega
      · exact ⟨0, by decide, h0.symm⟩
      · exact ⟨1, by decide, h1.symm⟩
/-- one block more, or one that is there -/
theorem ndS_grow (n c : Nat) (hc : c < 256) (hn : c ≤ n) (S : Nat → Bool) (hS : ∀ c', S c' = true ↔ ndS n c' = true ∨ ∃ i, i ≤ lenC c ∧ c' = chS c i) : S = ndS (max n (c + 1)) := by
  funext c'
  rw [Bool.eq_iff_iff, hS, chS_cases c hc, ndS_iff, ndS_iff]
  omega
/-- a byte of a file -/
def ctF (DA : Nat) (Y : Nat → Nat → Int) (b : Nat → Nat) (i : Nat) : Int := Y (DA + (b (i / 64) - 1)) (i % 64)
/-- from the state before a write to one within, or behind it -/
structure Wx (B0 DA NB : Nat) (Y : Nat → Nat → Int) (S : Nat → Bool) (b : Nat → Nat) (Y' : Nat → Nat → Int) (S' : Nat → Bool) (b' : Nat → Nat) : Prop where
  n : ∀ c, S c = true → S' c = true
  b : ∀ c, S c = true → b' c = b c
  y : ∀ z, z ≠ B0 → (∀ c, S' c = true → z ≠ DA + (b' c - 1)) → Y' z = Y z
  u : ∀ j, j < NB → (bt Y' B0 j = true ↔ bt Y B0 j = true ∨ ∃ c, S' c = true ∧ S c = false ∧ b' c = j + 1)
  fr : ∀ c, S' c = true → S c = false → bt Y B0 (b' c - 1) = false
theorem Wx.refl (B0 DA NB : Nat) (Y : Nat → Nat → Int) (S : Nat → Bool) (b : Nat → Nat) : Wx B0 DA NB Y S b Y S b :=
  ⟨fun _ h => h, fun _ _ => rfl, fun _ _ _ => rfl, (Ex.refl B0 DA NB Y S b).u, (Ex.refl B0 DA NB Y S b).fr⟩
/-- lay, then a data block's bytes -/
theorem Wx.step {B0 DA NB : Nat} {Y0 Y Y1 : Nat → Nat → Int} {S0 S S1 : Nat → Bool} {b0 b b1 : Nat → Nat} {f1 : Nat → Int} (hB : B0 < DA) (hNB : NB ≤ 512) (h : Wx B0 DA NB Y0 S0 b0 Y S b) (k : Ex B0 DA NB Y S b Y1 S1 b1) (hFu : Fu B0 DA NB Y1 f1 S1 b1) (c : Nat) (hc : S1 c = true) (hcd : c < 2000) (F : Nat → Int) :
    Wx B0 DA NB Y0 S0 b0 (vput (DA + (b1 c - 1)) F Y1) S1 b1 ∧ Fu B0 DA NB (vput (DA + (b1 c - 1)) F Y1) f1 S1 b1 := by
  have hbt : ∀ j, j < NB → bt (vput (DA + (b1 c - 1)) F Y1) B0 j = bt Y1 B0 j := fun j hj => bt_put _ _ _ _ _ (by omega)
  refine ⟨⟨fun c' hc' => k.n c' (h.n c' hc'), fun c' hc' => (k.b c' (h.n c' hc')).trans (h.b c' hc'), fun z hz hf => ?_, fun j hj => ?_, fun c' hc' hn => ?_⟩, ⟨hFu.fi.congr fun c' hc' h2 => ?_, fun c' hc' => ?_⟩⟩
  · rw [vput_ne _ _ (fun e => hf c hc e.symm), k.y z hz fun c' hc' _ => hf c' hc']
    refine h.y z hz fun c' hc' => ?_
    have := hf c' (k.n c' hc')
    rwa [k.b c' hc'] at this
  · rw [hbt j hj, k.u j hj, h.u j hj]
    constructor
    · rintro ((h1 | ⟨c', h1, h2, h3⟩) | ⟨c', h1, h2, h3⟩)
      · exact .inl h1
      · exact .inr ⟨c', k.n c' h1, h2, (k.b c' h1).trans h3⟩
      · refine .inr ⟨c', h1, ?_, h3⟩
        cases hh : S0 c'
        · rfl
        · rw [h.n c' hh] at h2
          cases h2
    · rintro (h1 | ⟨c', h1, h2, h3⟩)
      · exact .inl (.inl h1)
      · cases hh : S c'
        · exact .inr ⟨c', h1, hh, h3⟩
        · exact .inl (.inr ⟨c', hh, h2, (k.b c' hh).symm.trans h3⟩)
  · cases h1 : S c'
    · have hf := k.fr c' hc' h1
      have r := hFu.fi.rng c' hc'
      cases hh : bt Y0 B0 (b1 c' - 1)
      · rfl
      · rw [(h.u (b1 c' - 1) (by omega)).2 (.inl hh)] at hf
        cases hf
    · rw [k.b c' h1]
      exact h.fr c' h1 hn
  · refine vput_ne _ _ fun he => ?_
    have r1 := hFu.fi.rng c hc
    have r2 := hFu.fi.rng c' hc'
    have := hFu.fi.inj c c' hc hc' (by omega)
    omega
  · have r := hFu.fi.rng c' hc'
    rw [hbt _ (by omega)]
    exact hFu.us c' hc'
/-- a data block that was there is as it was behind lay -/
theorem Ex.data {B0 DA NB : Nat} {Y Y1 : Nat → Nat → Int} {S S1 : Nat → Bool} {b b1 : Nat → Nat} (hB : B0 < DA) (k : Ex B0 DA NB Y S b Y1 S1 b1) (rng : ∀ c, S1 c = true → 1 ≤ b1 c ∧ b1 c ≤ NB) (inj : ∀ c c', S1 c = true → S1 c' = true → b1 c = b1 c' → c = c')
    (c : Nat) (hc : S c = true) (hcd : c < 2000) : Y1 (DA + (b1 c - 1)) = Y (DA + (b c - 1)) := by
  rw [k.y _ (by omega) fun c' hc' ho he => ?_, k.b c hc]
  have r1 := rng c (k.n c hc)
  have r2 := rng c' hc'
  obtain rfl := inj c c' (k.n c hc) hc' (by omega)
  rcases ho with ho | ho
  · omega
  · rw [hc] at ho
    cases ho
/-- the bytes behind one step of a write -/
theorem ct_step {B0 DA NB : Nat} {Y Y1 : Nat → Nat → Int} {S1 : Nat → Bool} {b b1 : Nat → Nat} {f1 : Nat → Int} (hB : B0 < DA) (n : Nat) (k : Ex B0 DA NB Y (ndS n) b Y1 S1 b1) (hFu : Fu B0 DA NB Y1 f1 S1 b1) (off j mn : Nat) (s : Nat → Int) (hc : (off + j) / 64 < 256) (hS1 : S1 = ndS (max n ((off + j) / 64 + 1))) (ho : off + j ≤ 64 * n) (hmn : (off + j) % 64 + mn ≤ 64)
    (C : Nat → Int) (hC : ∀ i, 64 * n ≤ i → C i = 0) (hct : ∀ i, i < 64 * n → i < 16384 → ctF DA Y b i = if off ≤ i ∧ i < off + j then s (i - off) else C i) :
    ∀ i, i < 64 * (max n ((off + j) / 64 + 1)) → i < 16384 → ctF DA (vput (DA + (b1 ((off + j) / 64) - 1)) (upd (Y1 (DA + (b1 ((off + j) / 64) - 1))) ((off + j) % 64) mn (fun i => s (j + i))) Y1) b1 i = if off ≤ i ∧ i < off + (j + mn) then s (i - off) else C i := by
  intro i hi hi2
  have hi1 : S1 (i / 64) = true := by
    rw [hS1, ndS_iff]
    omega
  have hc1 : S1 ((off + j) / 64) = true := by
    rw [hS1, ndS_iff]
    omega
  have hold : ∀ i, i < 64 * n → i < 16384 → Y1 (DA + (b1 (i / 64) - 1)) (i % 64) = if off ≤ i ∧ i < off + j then s (i - off) else C i := fun i h1 h2 => by
    rw [k.data hB hFu.fi.rng hFu.fi.inj (i / 64) ((ndS_iff _ _).2 (by omega)) (by omega)]
    exact hct i h1 h2
  have hnew : 64 * n ≤ i → Y1 (DA + (b1 (i / 64) - 1)) (i % 64) = 0 := fun h1 => by
    rw [k.z (i / 64) hi1 ((ndS_no _ _).2 (by omega)) (by omega)]
  unfold ctF
  by_cases e : i / 64 = (off + j) / 64
  · rw [e, vput_at]
    unfold upd
    by_cases h1 : (off + j) % 64 ≤ i % 64 ∧ i % 64 < (off + j) % 64 + mn
    · rw [if_pos h1, if_pos (by omega)]
      show s (j + (i % 64 - (off + j) % 64)) = s (i - off)
      congr 1
      omega
    · rw [if_neg h1, ← e]
      by_cases h2 : i < 64 * n
      · rw [hold i h2 hi2]
        by_cases h3 : off ≤ i ∧ i < off + j
        · rw [if_pos h3, if_pos (by omega)]
        · rw [if_neg h3, if_neg (by omega)]
      · rw [hnew (by omega), if_neg (by omega), hC i (by omega)]
  · have hz : DA + (b1 ((off + j) / 64) - 1) ≠ DA + (b1 (i / 64) - 1) := fun he => by
      have r1 := hFu.fi.rng _ hi1
      have r2 := hFu.fi.rng _ hc1
      exact e (hFu.fi.inj _ _ hi1 hc1 (by omega))
    rw [vput_ne _ _ hz]
    have h2 : i < 64 * n := by omega
    rw [hold i h2 hi2]
    by_cases h3 : off ≤ i ∧ i < off + j
    · rw [if_pos h3, if_pos (by omega)]
    · rw [if_neg h3, if_neg (by omega)]
end Go.Proofs.YtbnpgkclnebnmaaGreat
