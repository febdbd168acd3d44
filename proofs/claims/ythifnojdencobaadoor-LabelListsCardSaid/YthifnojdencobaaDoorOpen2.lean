import Derived.Test.YthifnojdencobaaDoorOpen
/- A nil slice of labels has no room. -/
namespace Go.Proofs.YthifnojdencobaaDoor
open Go.ChangeShapes Go.WideShapes Go.ChangeAt Go.RowKit Go.Deep

theorem open_nil37 {H : Type} {enc : TypeId × Value → H} {W : World} {b0 : Nat} {v : Value} {d : DataW H} {p : List MemPlace} (hv : Value.okWide Tryd.prog W .any b0 37 v)
    (h : DataW.Trod enc Tryd.prog W 0 (fun _ => true) true 37 v d p) : ∀ n c, v = .slice none n c → n = 0 ∧ c = 0 := by
  obtain ⟨a0, len, cap, rfl⟩ := okWide_slice Tryd.underlying37 hv
  obtain ⟨fuel, hf⟩ := h
  intro n' c' he
  rcases open_slice_pairs Tryd.underlying37 Tryd.underlying25 Tryd.cells25 rfl rfl Tryd.cells5 Tryd.cells23 hf with ⟨hcs, _⟩ | ⟨a, len', cap', m, n, V0, V1, D0, D1, P0, P1, hcs, _⟩
  · simp only [Value.cells, List.cons.injEq, and_true] at hcs
    injection hcs with h1 h2 h3
    injection he with h4 h5 h6
    subst h2 h3
    exact ⟨h5.symm, h6.symm⟩
  · simp only [Value.cells, List.cons.injEq, and_true] at hcs
    injection hcs with h1 h2 h3
    injection he with h4 h5 h6
    rw [h1] at h4
    cases h4
end Go.Proofs.YthifnojdencobaaDoor
