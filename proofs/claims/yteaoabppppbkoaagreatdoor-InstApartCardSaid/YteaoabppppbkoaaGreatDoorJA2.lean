import Derived.Test.YteaoabppppbkoaaGreatDoorJA1
/- OpenJ -/
namespace Go.Proofs.YteaoabppppbkoaaGreatDoor
set_option linter.unusedSimpArgs false
set_option linter.unusedVariables false
open Go.ChangeShapes Go.WideShapes Go.ChangeAt Go.RowKit Go.Deep

set_option maxRecDepth 100000 in
theorem open_u8q {H : Type} {enc : TypeId × Value → H} {W : World} {b0 : Nat} {v : Value} {d : DataW H} {p : List MemPlace} (hv : Value.okWide Tryz.prog W .any b0 27 v)
    (h : DataW.Trod enc Tryz.prog W 0 (fun _ => true) true 27 v d p) : ∃ pa n c s, v = .slice pa n c ∧ B8 W pa n c s ∧ (∀ j, j < n → 0 ≤ s j ∧ s j < 256) ∧ n ≤ maxLen := by
  obtain ⟨a0, len, cap, rfl⟩ := okWide_slice Tryz.underlying27 hv
  obtain ⟨fuel, hf⟩ := h
  rcases open_ints Tryz.underlying27 Tryz.underlying5 Tryz.cells5 hf with ⟨hcs, _⟩ | ⟨a, len', cap', zs, hcs, _, hl, hm, hz, _, hi, hwz⟩
  · simp only [Value.cells, List.cons.injEq, and_true] at hcs
    injection hcs with h1 h2 h3
    subst h1 h2 h3
    exact ⟨none, 0, 0, fun _ => 0, rfl, .inl ⟨rfl, rfl, rfl⟩, fun j hj => absurd hj (Nat.not_lt_zero _), Nat.zero_le _⟩
  · simp only [Value.cells, List.cons.injEq, and_true] at hcs
    injection hcs with h1 h2 h3
    subst h1 h2 h3
    simp only [if_true] at hz
    refine ⟨_, _, _, fun j => zs.getD j 0, rfl, ?_, fun j hj => ?_, by omega⟩
    · rcases Nat.eq_zero_or_pos len with h0 | h0
      · exact .inr (.inl ⟨a, rfl, h0⟩)
      · have e0 := hi 0 (by omega)
        have hsp := World.cell?_spot e0
        have hbl := World.block_lt_of_cell? W _ e0
        obtain ⟨ab, ao, asp⟩ := a
        simp only [Addr.add] at hsp hbl
        subst hsp
        refine .inr (.inr ⟨ab, ao, rfl, hbl, fun i hil => ?_⟩)
        have := hi i (by omega)
        rw [Addr.add_mid] at this; exact this
    · have h1 : j < zs.length := by omega
      have h2 := bounds_u8 (hwz _ (List.getElem_mem h1))
      show 0 ≤ zs.getD j 0 ∧ zs.getD j 0 < 256
      rw [List.getD_eq_getElem?_getD, List.getElem?_eq_getElem h1, Option.getD_some]
      omega
end Go.Proofs.YteaoabppppbkoaaGreatDoor
