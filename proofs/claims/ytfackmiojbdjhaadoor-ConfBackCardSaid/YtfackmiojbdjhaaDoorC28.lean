import Derived.Test.YtfackmiojbdjhaaDoorCQ
import Derived.Test.YtfackmiojbdjhaaDoorCW
/- Size.Regs: the labels. -/
namespace Go.Proofs.YtfackmiojbdjhaaDoor
set_option linter.unusedSimpArgs false
set_option linter.unusedVariables false
open Go.RowKit Go.Maps

theorem set9_other {w : World} {g b j : Nat} (r : Rg) (w' : World) (h : g ≠ b) : (set9 w g r).cell? ⟨b, j, none⟩ = w.cell? ⟨b, j, none⟩ := by
  unfold set9
  repeat rw [World.cell?_setCell_far _ _ _ _ (by exact h)]
theorem share4 {α β γ δ : Type} {F P : α → β → γ → δ → Prop} {G : Prop} (h1 : Shut (∀ a b c d, F a b c d → P a b c d) → G) (h2 : ∀ a b c d, F a b c d → P a b c d) : G := h1 h2
theorem U8s.below {w w' : World} {v : Value} {ts : List Int} (h : U8s w v ts) (hb : Below w.heap.size w w') : U8s w' v ts := by
  rcases h with h | ⟨b, off, cap, hv, hl, hm, hr⟩
  · exact .inl h
  · exact .inr ⟨b, off, cap, hv, Nat.lt_of_lt_of_le hl hb.size, hm, fun i hi => (hb.cell (p := ⟨b, off + i, none⟩) hl).trans (hr i hi)⟩
def acM (many : Nat) (ts : List Int) (j : Nat) : List (Int × Int) := ((ts.take j).foldl (sizeMStep many) ([], 0)).1
theorem acM_snd (many : Nat) : ∀ (ts : List Int) (a : List (Int × Int) × Nat), (ts.foldl (sizeMStep many) a).2 = a.2 + ts.length
  | [], _ => rfl
  | x :: ts, a => by rw [List.foldl_cons, acM_snd many ts]; simp only [sizeMStep, List.length_cons]; omega
theorem acM_zero (many : Nat) (ts : List Int) : acM many ts 0 = [] := rfl
theorem acM_all (many : Nat) (ts : List Int) : acM many ts ts.length = sizeMs many ts := by unfold acM sizeMs; rw [List.take_length]
theorem acM_succ (many : Nat) (ts : List Int) (j : Nat) (hj : j < ts.length) : acM many ts (j + 1) = if 8 < j ∨ sizeMk many ts[j] ∈ acM many ts j then acM many ts j else acM many ts j ++ [sizeMk many ts[j]] := by
  have h2 : ((ts.take j).foldl (sizeMStep many) ([], 0)).2 = j := by
    rw [acM_snd]
    simp only [List.length_take]
    omega
  unfold acM
  rw [List.take_succ_eq_append_getElem hj, List.foldl_append, List.foldl_cons, List.foldl_nil]
  simp only [sizeMStep, h2]
theorem acM_len (many : Nat) (ts : List Int) : ∀ j, j ≤ ts.length → (acM many ts j).length ≤ j
  | 0, _ => by rw [acM_zero]; exact Nat.le_refl _
  | j + 1, h => by
    have ih := acM_len many ts j (by omega)
    rw [acM_succ many ts j (by omega)]
    split
    · omega
    · rw [List.length_append]; simp only [List.length_cons, List.length_nil]; omega
theorem acM_nine (many : Nat) (ts : List Int) : ∀ j, j ≤ ts.length → (acM many ts j).length ≤ 9
  | 0, _ => by rw [acM_zero]; exact Nat.zero_le _
  | j + 1, h => by
    by_cases h8 : 8 < j
    · rw [acM_succ many ts j (by omega), if_pos (.inl h8)]
      exact acM_nine many ts j (by omega)
    · exact Nat.le_trans (acM_len many ts (j + 1) h) (by omega)
/-- both lists lie in memory that was made since -/
def Own2 (w : World) (base : Nat) (v1 v2 : Value) (rs : List Rg) (ms : List (Int × Int)) : Prop := w.ownsRow base 39 9 v1 rs.length (flatR rs) ∧ ∃ B, base ≤ B ∧ (∀ k, v1.ownBlock = some k → k < B) ∧ w.ownsRow B 34 2 v2 ms.length (flatM ms)
theorem sizeR0_len (M : Nat) (H : Nat → Nat → Int) : (sizeR0 M H).length = M := by simp [sizeR0]
end Go.Proofs.YtfackmiojbdjhaaDoor
