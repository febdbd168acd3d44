import Derived.Test.YtdebkifnaiohcaaKG
import Derived.Test.YtdebkifnaiohcaaKI
/- Size.Regs: the labels. -/
namespace Go.Proofs.Ytdebkifnaiohcaa.Cf
set_option linter.unusedSimpArgs false
set_option linter.unusedVariables false
open Go.RowKit Go.Maps

theorem set9_other {w : World} {g b j : Nat} (r : Rg) (w' : World) (h : g ≠ b) : (set9 w g r).cell? ⟨b, j, none⟩ = w.cell? ⟨b, j, none⟩ := by
  unfold set9
  repeat rw [World.cell?_setCell_far _ _ _ _ (by exact h)]
theorem share4 {α β γ δ : Type} {F P : α → β → γ → δ → Prop} {G : Prop} (h1 : Shut (∀ a b c d, F a b c d → P a b c d) → G) (h2 : ∀ a b c d, F a b c d → P a b c d) : G := h1 h2
theorem U8s.below {w w' : World} {v : Value} {ts : List Int} (h : U8s w v ts) (hb : Below w.heap.size w w') : U8s w' v ts := by
  rcases h with h | ⟨b, off, cap, hv, hl, hm, hr⟩
  · exact .inl h
  · exact .inr ⟨b, off, cap, hv, Nat.lt_of_lt_of_le hl hb.size, hm, fun i hi => (hb.cell (p := ⟨b, off + i, none⟩) hl).trans (hr i hi)⟩
def acM (many : Nat) (ts : List Int) (j : Nat) : List (Int × Int) := ((ts.take j).foldl (sizeMStep many) ([], 0)).1
theorem acM_snd (many : Nat) : ∀ (ts : List Int) (a : List (Int × Int) × Nat), (ts.foldl (sizeMStep many) a).2 = a.2 + ts.length
  | [], _ => rfl
  | x :: ts, a => by rw [List.foldl_cons, acM_snd many ts]; simp only [sizeMStep, List.length_cons]; omega
theorem acM_zero (many : Nat) (ts : List Int) : acM many ts 0 = [] := rfl
theorem acM_all (many : Nat) (ts : List Int) : acM many ts ts.length = sizeMs many ts := by unfold acM sizeMs; rw [List.take_length]
theorem acM_succ (many : Nat) (ts : List Int) (j : Nat) (hj : j < ts.length) : acM many ts (j + 1) = if 8 < j ∨ sizeMk many ts[j] ∈ acM many ts j then acM many ts j else acM many ts j ++ [sizeMk many ts[j]] := by
  have h2 : ((ts.take j).foldl (sizeMStep many) ([], 0)).2 = j := by
    rw [acM_snd]
    simp only [List.length_take]
    omega
  unfold acM
  rw [List.take_succ_eq_append_getElem hj, List.foldl_append, List.foldl_cons, List.foldl_nil]
  simp only [sizeMStep, h2]
theorem acM_len (many : Nat) (ts : List Int) : ∀ j, j ≤ ts.length → (acM many ts j).length ≤ j
  | 0, _ => by rw [acM_zero]; exact Nat.le_refl _
  | j + 1, h => by
    have ih := acM_len many ts j (by omega)
    rw [acM_succ many ts j (by omega)]
    split
    · omega
    · rw [List.length_append]; simp only [List.length_cons, List.length_nil]; omega
theorem acM_nine (many : Nat) (ts : List Int) : ∀ j, j ≤ ts.length → (acM many ts j).length ≤ 9
  | 0, _ => by rw [acM_zero]; exact Nat.zero_le _
  | j + 1, h => by
    by_cases h8 : 8 < j
    · rw [acM_succ many ts j (by omega), if_pos (.inl h8)]
      exact acM_nine many ts j (by omega)
    · exact Nat.le_trans (acM_len many ts (j + 1) h) (by omega)
theorem sizeR0_len (M : Nat) (H : Nat → Nat → Int) : (sizeR0 M H).length = M := by simp [sizeR0]
theorem ownsRow_free {w : World} {base : Nat} {e : TypeId} {size : Nat} {v : Value} {n : Nat} {xs : List Value} (h : w.ownsRow base e size v n xs) (g : Nat) (hg : v.ownBlock = some g) (o : Nat) : w.frozen? ⟨g, o, none⟩ = false := by
  obtain ⟨_, ⟨hv, _⟩ | ⟨g', cap, cur, hv, _, hh, _⟩⟩ := h
  · rw [hv] at hg; simp [Value.ownBlock] at hg
  · rw [hv] at hg
    simp only [Value.ownBlock, Option.some.injEq] at hg
    subst hg
    simp [World.frozen?, hh]

theorem mks_of_row {w : World} {base : Nat} {v : Value} {ms : List (Int × Int)} {n : Nat} (hn : n = ms.length) (h : w.ownsRow base 109 2 v n (flatM ms)) : Mks w v ms := by
  rcases ownsRow_cell (k := 2) (fun _ => rfl) hn h with ⟨hv, hn⟩ | ⟨g, cap, hv, hg, hlt, hm, hc⟩
  · exact .inl ⟨none, 0, hv, hn⟩
  · refine .inr ⟨g, 0, cap, hv, hlt, hm, ?_⟩
    constructor
    · intro i hi; have := hc i hi 0 (by omega); simpa [markCells] using this
    · intro i hi; have := hc i hi 1 (by omega); simpa [markCells] using this
end Go.Proofs.Ytdebkifnaiohcaa.Cf
