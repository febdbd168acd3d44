import Derived.Test.YthifnojdencobaaDoorT8
namespace Go.Proofs.YthifnojdencobaaDoor
open Go.RowKit

theorem ofN_catL (x : Nat) : ∀ k, k ≤ 16 → ofN (catL (x : Int) k) = orTo x 0 k
  | 0, _ => rfl
  | k + 1, hk => by
    have ih := ofN_catL x k (by omega)
    rw [catL_succ, hasB_nat x k (by omega), orTo, ← ih]
    cases hb : x.testBit k
    · simp
    · simp only [if_true, Bool.true_and]
      have e : ofN (catL (x : Int) k ++ [(k : Int)]) = ofStep (ofN (catL (x : Int) k)) (k : Int) := by unfold ofN; rw [List.foldl_append]; rfl
      rw [e]
      generalize ofN (catL (x : Int) k) = D
      unfold ofStep
      rw [Int.toNat_natCast]
      cases D.testBit k <;> rfl
theorem ofN_all (x : Nat) (hx : x < 65536) : ofN (catL (x : Int) 16) = x := by
  rw [ofN_catL x 16 (by omega), orTo_or x 0 hx (by omega), Nat.zero_or]
theorem catL_ok (c : Int) : catsOk (catL c 16) = true := by
  unfold catsOk
  rw [List.all_eq_true]
  intro z hz
  have := catL_mem c 16 z hz
  simp; omega
theorem catL_rise (c : Int) (k : Nat) : (catL c k).Pairwise (· < ·) := by
  induction k with
  | zero => simp [catL]
  | succ k ih =>
    rw [catL_succ]
    split
    · rw [List.pairwise_append]
      refine ⟨ih, by simp, fun a ha b hb => ?_⟩
      have := catL_mem c k a ha
      simp at hb
      omega
    · exact ih
theorem digits256 (n : Fin 256) : ((Lib.decDigits n.val).all isD) = true ∧ numO (Lib.decDigits n.val) = if n.val < 100 then some n.val else none := by
  revert n; decide +kernel
theorem itoa_isD (z : Int) (h0 : 0 ≤ z) (h1 : z < 256) (c : UInt8) (hc : isD c = false) : (∀ x ∈ Lib.itoa z, x ≠ c) ∧ numO (Lib.itoa z) = if z < 100 then some z.toNat else none := by
  obtain ⟨N, rfl⟩ := Int.eq_ofNat_of_zero_le h0
  rw [Lib.itoa_nonneg]
  obtain ⟨d1, d2⟩ := digits256 ⟨N, by omega⟩
  refine ⟨fun x hx he => ?_, ?_⟩
  · have := List.all_eq_true.1 d1 x hx
    rw [he, hc] at this; cases this
  · simp only [] at d2
    rw [d2]
    by_cases h : N < 100
    · rw [if_pos h, if_pos (by omega)]; rfl
    · rw [if_neg h, if_neg (by omega)]
theorem split_tail (c : UInt8) (b : Bool) (hc : (if b then 58 else 44) = c) (h : List UInt8) (hh : ∀ x ∈ h, x ≠ c) (r : List Int) : splitC c (h ++ tailT b r) = (h, match r with | [] => none | z :: r' => some (Lib.itoa z ++ tailT false r')) := by
  cases r with
  | nil => rw [tailT, List.append_nil, splitC_all c h hh]
  | cons z r' => rw [tailT, hc, splitC_app c h _ hh]
theorem listO_txt : ∀ (r : List Int) (z last : Int), last < z → (∀ x ∈ z :: r, 0 ≤ x ∧ x < 16) → (z :: r).Pairwise (· < ·) → listO (Lib.itoa z ++ tailT false r) last = (z :: r, true)
  | [], z, last, hl, hm, _ => by
    have hz := hm z (List.mem_cons_self ..)
    obtain ⟨d1, d2⟩ := itoa_isD z hz.1 (by omega) 44 (by decide)
    have hs := split_tail 44 false rfl (Lib.itoa z) d1 []
    rw [if_pos (by omega)] at d2
    rw [listO_one _ last z.toNat (by rw [hs]; exact d2) (by omega), hs]
    simp; omega
  | y :: r, z, last, hl, hm, hp => by
    have hz := hm z (List.mem_cons_self ..)
    obtain ⟨d1, d2⟩ := itoa_isD z hz.1 (by omega) 44 (by decide)
    have hs := split_tail 44 false rfl (Lib.itoa z) d1 (y :: r)
    rw [if_pos (by omega)] at d2
    have hp' := List.pairwise_cons.1 hp
    have ih := listO_txt r y (z.toNat : Int) (by have := hp'.1 y (List.mem_cons_self ..); omega) (fun x hx => hm x (List.mem_cons_of_mem _ hx)) hp'.2
    rw [listO_one _ last z.toNat (by rw [hs]; exact d2) (by omega), hs]
    simp only [ih]
    rw [show (z.toNat : Int) = z by omega]
theorem read_txt (la ca : Int) (hl0 : 0 ≤ la) (hl1 : la < 256) : readL (txt la (catL ca 16)) = if la < 100 then some (la, catL ca 16) else none := by
  obtain ⟨d1, d2⟩ := itoa_isD la hl0 hl1 58 (by decide)
  have hs := split_tail 58 true rfl (Lib.itoa la) d1 (catL ca 16)
  have hm : ∀ x ∈ catL ca 16, 0 ≤ x ∧ x < 16 := fun x hx => by have := catL_mem ca 16 x hx; omega
  have hp := catL_rise ca 16
  unfold readL txt
  rw [hs]
  simp only [d2]
  by_cases h : la < 100
  · rw [if_pos h, if_pos h]
    generalize catL ca 16 = zs at *
    cases zs with
    | nil => simp; omega
    | cons z r =>
      have hz := hm z (List.mem_cons_self ..)
      simp only [listO_txt r z (-1) (by omega) hm hp, if_true]
      rw [show (la.toNat : Int) = la by omega]
  · rw [if_neg h, if_neg h]
def wantE (la : Int) : Int := if 99 < la then 28 else if 15 < la then 27 else 0
theorem read_text (la ca : Int) (hl0 : 0 ≤ la) (hl1 : la < 256) (h0 : 0 ≤ ca) (h1 : ca < 65536) : readEr (txt la (catL ca 16)) = wantE la ∧ (la ≤ 15 → readLv (txt la (catL ca 16)) = la ∧ readCs (txt la (catL ca 16)) = ca) := by
  obtain ⟨e1, e2, e3⟩ := read_of _ _ (read_txt la ca hl0 hl1)
  rw [e1, e2, e3]
  by_cases h : la < 100
  · rw [if_pos h]
    simp only [Option.elim_some]
    by_cases h15 : la ≤ 15
    · have hg : 0 ≤ la ∧ la ≤ 15 ∧ catsOk (catL ca 16) = true := ⟨hl0, h15, catL_ok ca⟩
      have hW : wantE la = 0 := by unfold wantE; rw [if_neg (by omega), if_neg (by omega)]
      rw [show ofOk la (catL ca 16) = true from if_pos hg, show ofLv la (catL ca 16) = la from if_pos hg, show ofCs la (catL ca 16) = (ofN (catL ca 16) : Int) from if_pos hg, hW]
      obtain ⟨C, rfl⟩ := Int.eq_ofNat_of_zero_le h0
      rw [ofN_all C (by omega)]
      exact ⟨rfl, fun _ => ⟨rfl, rfl⟩⟩
    · have hg : ¬ (0 ≤ la ∧ la ≤ 15 ∧ catsOk (catL ca 16) = true) := fun h => h15 h.2.1
      have hW : wantE la = 27 := by unfold wantE; rw [if_neg (by omega), if_pos (by omega)]
      rw [show ofOk la (catL ca 16) = false from if_neg hg, hW]
      exact ⟨rfl, fun h => absurd h h15⟩
  · have hW : wantE la = 28 := by unfold wantE; rw [if_pos (by omega)]
    rw [if_neg h, hW]
    exact ⟨rfl, fun h' => by omega⟩
end Go.Proofs.YthifnojdencobaaDoor
