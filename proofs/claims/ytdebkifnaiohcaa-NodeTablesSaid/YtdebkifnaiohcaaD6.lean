import Derived.Test.YtdebkifnaiohcaaD5
/- Same; a block by its number. -/
namespace Go.Proofs.Ytdebkifnaiohcaa
set_option linter.unusedSimpArgs false
set_option linter.unusedVariables false
open Go.RowKit

theorem Fl.set {w : World} {g N : Nat} {f : Nat → Int} (h : Fl w g N f) (i : Nat) (hi : i < N) (x : Int) : Fl (w.setCell ⟨g, i, none⟩ (.int .u8 x)) g N (fun j => if j = i then x else f j) := by
  refine ⟨lt_set h.lt _ _, fun j hj => ?_, fun j hj => by rw [World.frozen?_setCell]; exact h.z j hj⟩
  by_cases e : j = i
  · subst e
    rw [if_pos rfl]
    exact World.cell?_setCell_same _ _ _ (h.c j hj)
  · rw [if_neg e, World.cell?_setCell_other _ _ _ _ (by simp [Ne.symm e])]
    exact h.c j hj
end Go.Proofs.Ytdebkifnaiohcaa
