import Derived.Test.YtfackmiojbdjhaaDoorSplit
/- A region that draws its order: all but the last operation only read, and the last waits for all. -/
namespace Go.Proofs.YtfackmiojbdjhaaDoor
set_option linter.unusedSimpArgs false
set_option linter.unusedVariables false
open Go.RowKit

theorem wpAny_last {P : Program} {ops : Array Oper} {Q : Exit → Act → World → Prop} {a : Act} {w : World} (n : Nat) (hn : ops.size = n + 1)
    (hback0 : ((List.range ops.size).all fun i => ((ops[i]?).map fun o : Oper => o.after.all fun e : Edge => decide (e.on < i)).getD true) = true)
    (h : wpOp P ops Q n (fun a' w' => Q .normal a' w') a w) : wpAny P .any ops Q (ops.size - n) (listedTo n (ops.size - n)) a w := by
  refine wpAny_rest n (by omega) hback0 (fun _ f a1 w1 => (∀ j, j < n → f j = true) ∧ ((f n = false ∧ a1 = a ∧ w1 = w) ∨ (f n = true ∧ Q .normal a1 w1))) ?_ ?_ ?_
  · exact ⟨fun j hj => by simpa using hj, .inl ⟨by simp, rfl, rfl⟩⟩
  · rintro f a1 w1 ⟨hlo, h1⟩ i o ho hfi _
    have hi : i < n + 1 := by rw [← hn]; exact (Array.getElem?_eq_some_iff.1 ho).1
    have hin : i = n := by
      rcases Nat.lt_or_ge i n with h' | h'
      · rw [hlo i h'] at hfi; cases hfi
      · omega
    subst hin
    rcases h1 with ⟨-, rfl, rfl⟩ | ⟨h2, -⟩
    · exact wpOp_mono (fun a' w' h' => ⟨fun j hj => by simp [hlo j hj], .inr ⟨by simp, h'⟩⟩) h
    · rw [h2] at hfi; cases hfi
  · rintro f a1 w1 hall ⟨-, h1⟩
    rcases h1 with ⟨h2, -⟩ | ⟨-, h2⟩
    · rw [hall n (by omega)] at h2; cases h2
    · exact h2
theorem wpOp_step0 {P : Program} {ops : Array Oper} {Q : Exit → Act → World → Prop} {i : Nat} {o : Oper} {K : Act → World → Prop} {a : Act} {w : World} (ho : ops[i]? = some o) (hg : o.guard = none)
    (h : ∀ K' : Act → World → Prop, (∀ a w, K a w → K' a w) → Oper.wp P o a w K' Q) : wpOp P ops Q i K a w :=
  wpOp_step ho fun K' hK' => by simp only [Region.wanted, hg, if_true]; exact h K' hK'
end Go.Proofs.YtfackmiojbdjhaaDoor
