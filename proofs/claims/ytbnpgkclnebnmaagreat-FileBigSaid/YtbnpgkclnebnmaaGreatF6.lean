import Derived.Test.YtbnpgkclnebnmaaGreatF5
/- Files: at and point, by slots. -/
namespace Go.Proofs.YtbnpgkclnebnmaaGreat
set_option linter.unusedSimpArgs false
set_option linter.unusedVariables false
open Go.RowKit Go.Maps

variable {ln : Lm}
def wy1 (c : Nat) : Nat := if c < 6 then c + 1 else if c < 38 ∨ c = 2000 then 7 else 8
def wy2 (c : Nat) : Nat := if c < 6 ∨ c = 2000 ∨ c = 2001 then 0 else if c < 38 then c - 5 else if c < 1062 then (c - 38) / 32 + 1 else c - 2002 + 1
def wy3 (c : Nat) : Nat := if 38 ≤ c ∧ c < 1062 then (c - 38) % 32 + 1 else 0
/-- a slot's way -/
def wyS (c : Nat) : Value := .agg (wyc (wy1 c) (wy2 c) (wy3 c)).toArray
def vS (N : Nat → Bool) (b : Nat → Nat) (c : Nat) : Nat := if N c = true then b c else 0
theorem vS_link {DA NB : Nat} {Y : Nat → Nat → Int} {f : Nat → Int} {S : Nat → Bool} {B : Nat → Nat} (h : Fi DA NB Y f S B) (c : Nat) (ho : okS c = true) (hr : isR c = false) :
    (vS S B (parS c) = 0 → vS S B c = 0) ∧ (vS S B (parS c) ≠ 0 → vS S B (parS c) ≤ NB ∧ (vS S B c : Int) = wd (Y (DA + (vS S B (parS c) - 1))) (idxS c)) := by
  unfold vS
  constructor
  · intro h0
    split
    · rename_i hc
      have hp := h.cl c hr hc
      rw [if_pos hp] at h0
      have := h.rng _ hp
      omega
    · rfl
  · intro h0
    have hp : S (parS c) = true := by
      by_cases e : S (parS c) = true
      · exact e
      · rw [if_neg e] at h0
        exact absurd rfl h0
    rw [if_pos hp]
    refine ⟨(h.rng _ hp).2, ?_⟩
    rw [h.wrd c ho hr hp]
    split <;> rfl
theorem ndc_ptr (f : Nat → Int) (i : Nat) (h4 : 4 ≤ i) (h12 : i < 12) : (ndc f)[i]? = some (.int .u16 (f i)) := by
  have hc : i = 4 ∨ i = 5 ∨ i = 6 ∨ i = 7 ∨ i = 8 ∨ i = 9 ∨ i = 10 ∨ i = 11 := by omega
  rcases hc with rfl | rfl | rfl | rfl | rfl | rfl | rfl | rfl <;> rfl
theorem bdc_set (q : Nat) (f : Nat → Int) (i x : Nat) (h4 : 4 ≤ i) (h12 : i < 12) : (bdc q f).set (1 + i) (.int .u16 x) = bdc q (fun j => if j = i then (x : Int) else f j) := by
  have hc : i = 4 ∨ i = 5 ∨ i = 6 ∨ i = 7 ∨ i = 8 ∨ i = 9 ∨ i = 10 ∨ i = 11 := by omega
  rcases hc with rfl | rfl | rfl | rfl | rfl | rfl | rfl | rfl <;> rfl
theorem own_slot (b c : Nat) (hr : isR c = true) (W : World) : Calls Tryz.prog 117 #[.pointer (some ⟨b, 0, none⟩), .int .i64 (wy1 c)] W fun e w' => e = .returned (.pointer (some ⟨b, 1 + rtI c, none⟩)) ∧ w' = W := by
  rw [isR_iff] at hr
  rcases hr with hr | rfl | rfl
  · have := own_dir b (c + 1) (by omega) (by omega) W
    unfold wy1 rtI
    rw [if_pos hr, if_neg (by omega), if_neg (by omega), show 1 + (4 + c) = 5 + (c + 1 - 1) by omega]
    exact this
  · exact own_sin b W
  · exact own_dbl b W
theorem wy_root (c : Nat) (hr : isR c = true) : 1 ≤ wy1 c ∧ wy2 c = 0 ∧ wy3 c = 0 := by
  rw [isR_iff] at hr
  unfold wy1 wy2 wy3
  refine ⟨?_, if_pos hr, if_neg (by omega)⟩
  split
  · omega
  · split <;> decide
theorem at_slot (b q p t m d gg lab B0 P0 M DA NB N K : Nat) (g : Cf.Ge) (Y : Nat → Nat → Int) (f : Nat → Int) (S : Nat → Bool) (B : Nat → Nat) (hF : Fi DA NB Y f S B) (c : Nat) (hc : okS c = true)
    (hK : K < 600000000) (hg : GG g B0 P0 M DA NB N) (w : World) (h : Bo w w b q p t m d gg lab g B0 NB N ln Y K f) :
    Calls Tryz.prog 84 #[.pointer (some ⟨b, 0, none⟩), wyS c] w fun e w' => e = .returned (.tuple #[.int .u16 (vS S B c), .int .i64 0]) ∧ Bo w w' b q p t m d gg lab g B0 NB N ln Y (K + 2) f := by
  have hroot : ∀ c, isR c = true → (ndc f)[rtI c]? = some (.int .u16 (vS S B c)) := fun c hr => by
    have hl := rtI_lt c hr
    rw [ndc_ptr f _ hl.1 hl.2, hF.root c hr]
    unfold vS
    split <;> rfl
  have hoo := okS_iff c
  rw [hc] at hoo
  have hoo := hoo.1 rfl
  cases hr : isR c
  · have hn := (isR_no c).1 hr
    have hl := vS_link hF c hc hr
    by_cases h3 : 38 ≤ c ∧ c < 1062
    · have e1 : wy1 c = 8 := by unfold wy1; rw [if_neg (by omega), if_neg (by omega)]
      have e2 : wy2 c = (c - 38) / 32 + 1 := by unfold wy2; rw [if_neg (by omega), if_neg (by omega), if_pos (by omega)]
      have e3 : wy3 c = (c - 38) % 32 + 1 := by unfold wy3; rw [if_pos h3]
      have ep : parS c = 2002 + (c - 38) / 32 := by unfold parS; rw [if_neg (by omega), if_pos (by omega)]
      have ei : idxS c = (c - 38) % 32 := by unfold idxS; rw [if_neg (by omega), if_pos (by omega)]
      have hpo : okS (2002 + (c - 38) / 32) = true := (okS_iff _).2 (by omega)
      have hpr : isR (2002 + (c - 38) / 32) = false := (isR_no _).2 (by omega)
      have ep2 : parS (2002 + (c - 38) / 32) = 2001 := by unfold parS; rw [if_neg (by omega), if_neg (by omega)]
      have ei2 : idxS (2002 + (c - 38) / 32) = (c - 38) / 32 := by unfold idxS; rw [if_neg (by omega), if_neg (by omega)]; omega
      have hl2 := vS_link hF _ hpo hpr
      rw [ep2, ei2] at hl2
      rw [ep, ei] at hl
      have := at_gen (ln := ln) b q p t m d gg lab B0 P0 M DA NB N K g Y f 8 11 2 (by decide) ((wy2 c : Nat) : Int) ((wy3 c : Nat) : Int) (fun k => if k = 0 then (c - 38) / 32 else (c - 38) % 32) (fun k => if k = 0 then vS S B 2001 else if k = 1 then vS S B (2002 + (c - 38) / 32) else vS S B c)
        (fun W => own_slot b 2001 rfl W) (fun W => steps3 8 _ _ (by decide) (by rw [e2]; omega) (by rw [e3]; omega) W) (hroot 2001 rfl) (fun k hk => by
          have hk2 : k = 0 ∨ k = 1 := by omega
          rcases hk2 with rfl | rfl
          · refine ⟨?_, ?_⟩
            · show some (Value.int .i64 ((wy2 c : Nat) : Int)) = some (.int .i64 (((c - 38) / 32 : Nat) + 1))
              rw [e2]
              rfl
            · show (c - 38) / 32 < 32
              omega
          · refine ⟨?_, ?_⟩
            · show some (Value.int .i64 ((wy3 c : Nat) : Int)) = some (.int .i64 (((c - 38) % 32 : Nat) + 1))
              rw [e3]
              rfl
            · show (c - 38) % 32 < 32
              omega) (fun k hk => by
          have hk2 : k = 0 ∨ k = 1 := by omega
          rcases hk2 with rfl | rfl
          · exact hl2
          · exact hl) hK hg w h
      unfold wyS
      rw [e1]
      exact this
    · have e3 : wy3 c = 0 := by unfold wy3; rw [if_neg h3]
      have e2 : wy2 c = idxS c + 1 := by
        unfold wy2 idxS
        rw [if_neg hn]
        split
        · omega
        · rw [if_neg (by omega), if_neg (by omega)]
      have hpr : isR (parS c) = true := (isR_iff _).2 (by
        unfold parS
        split
        · omega
        · rw [if_neg (by omega)]
          omega)
      have e1 : wy1 c = wy1 (parS c) := by
        unfold wy1 parS
        by_cases e : c < 38
        · rw [if_neg (by omega), if_pos (.inl e), if_pos e]
          rfl
        · rw [if_neg (by omega), if_neg (by omega), if_neg e, if_neg (show ¬ c < 1062 by omega)]
          rfl
      have hwr := wy_root (parS c) hpr
      have := at_gen (ln := ln) b q p t m d gg lab B0 P0 M DA NB N K g Y f (wy1 (parS c)) (rtI (parS c)) 1 (by decide) ((wy2 c : Nat) : Int) 0 (fun _ => idxS c) (fun k => if k = 0 then vS S B (parS c) else vS S B c)
        (fun W => own_slot b (parS c) hpr W) (fun W => steps2 _ _ (by omega) (by rw [e2]; omega) W) (hroot _ hpr) (fun k hk => by
          obtain rfl : k = 0 := by omega
          refine ⟨?_, idxS_lt c hc hr⟩
          show some (Value.int .i64 ((wy2 c : Nat) : Int)) = some (.int .i64 ((idxS c : Nat) + 1))
          rw [e2]
          rfl) (fun k hk => by
          obtain rfl : k = 0 := by omega
          exact hl) hK hg w h
      unfold wyS
      rw [e1, e3]
      exact this
  · have hwr := wy_root c hr
    have := at_gen (ln := ln) b q p t m d gg lab B0 P0 M DA NB N K g Y f (wy1 c) (rtI c) 0 (by decide) 0 0 (fun _ => 0) (fun _ => vS S B c)
      (fun W => own_slot b c hr W) (fun W => steps1 _ (by omega) W) (hroot c hr) (fun k hk => absurd hk (Nat.not_lt_zero _)) (fun k hk => absurd hk (Nat.not_lt_zero _)) hK hg w h
    unfold wyS
    rw [hwr.2.1, hwr.2.2]
    exact this
end Go.Proofs.YtbnpgkclnebnmaaGreat
