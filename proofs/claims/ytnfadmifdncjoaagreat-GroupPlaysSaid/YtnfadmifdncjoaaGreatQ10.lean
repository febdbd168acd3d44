import Derived.Test.YtnfadmifdncjoaaGreatQ9
import Derived.Test.YtnfadmifdncjoaaGreatQ8
import Derived.Test.YtnfadmifdncjoaaGreatKG
import Derived.Test.YtnfadmifdncjoaaGreatL1
/- What is done in a group, step by step; groups lie apart. -/
namespace Go.Proofs.YtnfadmifdncjoaaGreat
set_option linter.unusedSimpArgs false
set_option linter.unusedVariables false
open Go.RowKit Go.Maps

variable {ln : Lm}
theorem fr_none {b : Nat → Bool} {n : Nat} (h : ∀ j, j < n → b j = true) : Fr b n (-1) := .inl ⟨rfl, h⟩
/-- Take, of a group whose first c blocks are taken -/
theorem take_step (q p t m d gg lab B0 P0 M DA NB N K : Nat) (g : Cf.Ge) (Y : Nat → Nat → Int) (c : Nat) (hc : c ≤ NB) (hb : ∀ j, j < 512 → bt Y B0 j = decide (j < c)) (hT : Has ln B0) (hT2 : Has ln (DA + c)) (hK : K < 500000000) (hg : GG g B0 P0 M DA NB N) (w : World) (h : Gr w q p t m d gg lab g B0 NB N ln Y K) :
    Calls Tryz.prog 20 #[.pointer (some ⟨q, 0, none⟩)] w fun e w' => ∃ v E Y1, e = .returned (.tuple #[.int .u16 v, .int .i64 E]) ∧ Gr w' q p t m d gg lab g B0 NB N ln Y1 (K + 201) ∧ (∀ j, j < 512 → bt Y1 B0 j = decide (j < min (c + 1) NB)) ∧ (∀ x, x < B0 ∨ (B0 < x ∧ x < DA) ∨ DA + NB ≤ x → Y1 x = Y x) ∧ Kf w w' [t, m, d, gg] := by
  have h5 := hg.n512
  have hD : B0 < DA := by have := hg.bp; have := hg.pd; omega
  by_cases hlt : c < NB
  · refine (gtake_some q p t m d gg lab B0 P0 M DA NB N K g Y c hlt (fr_of hlt (by rw [hb c (by omega)]; exact decide_eq_false (Nat.lt_irrefl c)) (fun j hj => by rw [hb j (by omega)]; exact decide_eq_true hj)) hT hT2 (by omega) hg w h).mono ?_
    rintro e w' ⟨rfl, hG, hk⟩
    refine ⟨_, _, _, rfl, hG, fun j hj => ?_, fun x hx => ?_, hk⟩
    · rw [bt_take h.rd.vb B0 DA c j _ hD (by omega) hj, hb j hj]
      by_cases e : c = j
      · rw [if_pos e, eq_comm]; exact decide_eq_true (by omega)
      · rw [if_neg e]; exact decide_eq_decide.2 (by omega)
    · rw [vput_ne _ _ (by omega), setV_ne _ _ _ _ (by omega)]
  · obtain rfl : c = NB := by omega
    refine (gtake_none q p t m d gg lab B0 P0 M DA c N K g Y (fun j hj => by rw [hb j (by omega)]; exact decide_eq_true hj) (by omega) hg w h).mono ?_
    rintro e w' ⟨rfl, hG, hk⟩
    refine ⟨_, _, _, rfl, hG.mono (Lm.le_refl _) (by omega), fun j hj => ?_, fun x hx => rfl, hk⟩
    rw [hb j hj]
    exact decide_eq_decide.2 (by omega)
theorem mkN_own (c : Nat) (hc : 1 ≤ c) : setG (mkN 1) 1 = own (kd (c + 1)) := by
  have : kd (c + 1) = 1 := by unfold kd; rw [if_neg (by omega)]
  rw [this]
  funext i
  unfold setG mkN own
  split
  · rename_i h; subst h; rfl
  · rfl
theorem VF_used (c j : Nat) (h1 : 1 ≤ j) (h2 : j ≤ c) : VF c j 0 ≠ 0 := by
  unfold VF
  rw [if_pos ⟨h1, h2⟩]
  show kd j ≠ 0
  rcases kd_in j with h | h <;> rw [h] <;> decide
theorem VF_free (c j : Nat) (h : c < j) : VF c j = zpt := by
  unfold VF
  rw [if_neg (by omega)]
/-- Make, of a group whose first c nodes are used -/
theorem make_step (q p t m d gg lab B0 P0 M DA NB N K : Nat) (g : Cf.Ge) (Y : Nat → Nat → Int) (c : Nat) (hc1 : 1 ≤ c) (hc : c ≤ M) (hI : Tab P0 M Y (VF c)) (hT : Has ln (P0 + (c + 1 - 1) / 2)) (hK : K < 400000000) (hg : GG g B0 P0 M DA NB N) (w : World) (h : Gr w q p t m d gg lab g B0 NB N ln Y K) :
    Calls Tryz.prog 16 #[.pointer (some ⟨q, 0, none⟩), .int .u8 1] w fun e w' => ∃ v E Y1, e = .returned (.tuple #[.int .i64 v, .int .i64 E]) ∧ Gr w' q p t m d gg lab g B0 NB N ln Y1 (K + 200) ∧ Tab P0 M Y1 (VF (min (c + 1) M)) ∧ (∀ x, x < P0 ∨ DA ≤ x → Y1 x = Y x) ∧ Kf w w' [t, m, d, gg] := by
  have hpd := hg.pd
  by_cases hlt : c < M
  · have hz : VF c (c + 1) = zpt := VF_free c (c + 1) (by omega)
    refine (gmake_in q p t m d gg lab B0 P0 M DA NB N K g Y (VF c) 1 (by decide) (by decide) (by decide) (c + 1) (by omega) (by omega) (by rw [hz]; rfl) (fun j h1 h2 => VF_used c j h1 (by omega)) 1 (by rw [hz]; rfl) (by decide) (by decide) hT (by omega) hI hg w h).mono ?_
    rintro e w' ⟨rfl, hG, hk⟩
    refine ⟨_, _, _, rfl, hG, ?_, fun x hx => tabW_ne _ _ _ _ _ (by omega), hk⟩
    have := hI.wr (c + 1) (by omega) (by omega) (setG (mkN 1) 1) (setG_ok (mkN_ok 1 (by decide) (by decide)) (by decide) (by decide)) (setG_code 1 (show (0 : Int) < 1 by decide) (mkN_mbl 1 (by decide)))
    rw [show min (c + 1) M = c + 1 by omega, ← VF_put c, ← mkN_own c hc1]
    exact this
  · obtain rfl : c = M := by omega
    refine (gmake_full q p t m d gg lab B0 P0 c DA NB N K g Y (VF c) 1 (by decide) (by decide) (by decide) (fun j h1 h2 => VF_used c j h1 (by omega)) (by omega) hI hg w h).mono ?_
    rintro e w' ⟨rfl, hG, hk⟩
    refine ⟨_, _, _, rfl, hG.mono (Lm.le_refl _) (Nat.le_refl _), ?_, fun x hx => rfl, hk⟩
    rw [show min (c + 1) c = c by omega]
    exact hI
theorem setL_lt (b : Nat → Bool) (c : Nat) : ∀ n, (∀ j, j < n → b j = decide (j < c)) → (setL b n).length = min c n
  | 0, _ => by simp [setL]
  | n + 1, h => by
    have ih := setL_lt b c n (fun j hj => h j (by omega))
    rw [setL_succ, h n (by omega)]
    by_cases e : n < c
    · rw [if_pos (decide_eq_true e), List.length_append, ih]
      simp
      omega
    · rw [if_neg (by simpa using e), ih]
      omega
theorem cN_VF (c : Nat) : ∀ k, cN (VF c) k = min c k
  | 0 => by simp [cN]
  | k + 1 => by
    unfold cN
    rw [cN_VF c k]
    by_cases e : k + 1 ≤ c
    · rw [if_neg (VF_used c (k + 1) (by omega) e)]
      omega
    · rw [VF_free c (k + 1) (by omega), if_pos (show zpt 0 = 0 from rfl)]
      omega
/-- groups lie one behind the other -/
theorem grp_lt (R : List Cf.Rg) (hs : ∀ r ∈ R, Cf.Small r) {N : Nat} (i k : Nat) (hik : i < k) (hk : k < R.length) (B1 P1 M1 D1 N1 B0 P0 M D0 N0 : Nat)
    (h1 : GG ((Cf.layF R).1[i]'(by rw [Cf.lay_len]; omega)) B1 P1 M1 D1 N1 N) (h0 : GG ((Cf.layF R).1[k]'(by rw [Cf.lay_len]; exact hk)) B0 P0 M D0 N0 N) : D1 + N1 ≤ B0 := by
  have q1 := Cf.lay_fin R i (by omega)
  have q2 := layF_le R hs (i + 1) k (by omega) (by omega)
  have q3 : ((Cf.layF R).1[i]'(by rw [Cf.lay_len]; omega)).fin = ((D1 + N1 : Nat) : Int) := by
    have := h1.da
    have := h1.bl
    unfold Cf.Ge.fin
    omega
  have q5 := Cf.lay_nth R k hk
  have q6 : (Cf.layF (R.take k)).2 = B0 := by
    rw [← h0.base, q5]
    rfl
  omega
end Go.Proofs.YtnfadmifdncjoaaGreat
