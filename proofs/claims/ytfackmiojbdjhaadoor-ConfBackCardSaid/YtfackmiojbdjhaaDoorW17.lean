import Derived.Test.YtfackmiojbdjhaaDoorW12
import Derived.Test.YtfackmiojbdjhaaDoorMA
namespace Go.Proofs.YtfackmiojbdjhaaDoor
set_option linter.unusedSimpArgs false
set_option linter.unusedVariables false
open Go.RowKit

theorem Ints.form {w : World} {v : Value} {zs : List Int} (h : Ints w v zs) : ∃ a cap, v = .slice a zs.length cap := by
  rcases h with ⟨a, cap, rfl, rfl⟩ | ⟨b, off, cap, rfl, _⟩
  · exact ⟨a, cap, rfl⟩
  · exact ⟨_, cap, rfl⟩
theorem Ints.cells {w : World} {a : Option Addr} {n cap : Nat} {zs : List Int} (h : Ints w (.slice a n cap) zs) : n = zs.length ∧ zs.length ≤ maxLen ∧ ∀ i (hi : i < zs.length), ∃ b off, a = some ⟨b, off, none⟩ ∧ w.cell? ⟨b, off + i, none⟩ = some (.int .i64 zs[i]) := by
  rcases h with ⟨a', cap', h, rfl⟩ | ⟨b, off, cap', h, _, hm, hc⟩
  · injection h with h1 h2 h3
    exact ⟨by simpa using h2, by simp, fun i hi => by simp at hi⟩
  · injection h with h1 h2 h3
    exact ⟨h2, hm, fun i hi => ⟨b, off, h1, hc i hi⟩⟩

theorem valid_any (la ca : Int) (w : World) : Calls Tryd.prog 70 #[.agg #[.int .u8 la, .int .u16 ca]] w fun e w' => e = .returned (.bool (decide (la < 16))) ∧ Below w.heap.size w w' := by
  go_enter Tryd.func70, Tryd.ntmps70
  go_wp2
  go_ret
  refine ⟨ret_bool (by rw [decide_eq_decide]; omega), ?_⟩
  repeat (first | exact Below.refl _ _ | apply Below.drew | refine Below.alloc ?_ (by simp) _)

theorem make_ref (level : Int) (v : Value) (zs : List Int) (w : World) (h : Ints w v zs) :
    Calls Tryd.prog 86 #[.int .i64 level, v] w fun e w' => e = .returned (.tuple #[.agg #[.int .u8 (ofLv level zs), .int .u16 (ofCs level zs)], .int .i64 (if ofOk level zs then 0 else 27)]) ∧ Below w.heap.size w w' := by
  obtain ⟨h1, h2, h3⟩ := make_of level zs
  rw [← h1, ← h2, ← h3]
  exact make_any level v zs w h
end Go.Proofs.YtfackmiojbdjhaaDoor
