import Derived.Test.YtnfadmifdncjoaaGreatKD
/- In which group a block lies. -/
namespace Go.Proofs.YtnfadmifdncjoaaGreat.Cf
set_option linter.unusedSimpArgs false
set_option linter.unusedVariables false
open Go.RowKit Go.Maps

/-- what Group answers -/
def GroupPost (rs : List Rg) (x : Int) (w : World) (e : Ending) (w' : World) : Prop :=
  Below w.heap.size w w' ∧ ((∃ i, ∃ hi : i < rs.length, (∀ j (hj : j < i), ¬ inG ((layF rs).1[j]'(by rw [lay_len]; omega)) x) ∧ inG ((layF rs).1[i]'(by rw [lay_len]; exact hi)) x ∧
      e = .returned (.tuple #[.int .i64 i, .int .i64 (max 0 (x - ((layF rs).1[i]'(by rw [lay_len]; exact hi)).da + 1)), .bool true])) ∨
    ((∀ j (hj : j < rs.length), ¬ inG ((layF rs).1[j]'(by rw [lay_len]; omega)) x) ∧ e = .returned (.tuple #[.int .i64 0, .int .i64 0, .bool false])))
end Go.Proofs.YtnfadmifdncjoaaGreat.Cf
