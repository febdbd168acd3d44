import Derived.Test.YtgfgdfcedmcjeaaGreatDoorA4
/- OpenA -/
namespace Go.Proofs.YtgfgdfcedmcjeaaGreatDoor
set_option linter.unusedSimpArgs false
set_option linter.unusedVariables false
open Go.ChangeShapes Go.WideShapes Go.ChangeAt Go.RowKit Go.Deep Go.Joins

set_option maxRecDepth 100000 in
theorem open_acts9 {H : Type} {enc : TypeId × Value → H} {W : World} {b0 : Nat} {v : Value} {d : DataW H} {p : List MemPlace} (hv : Value.okWide Tryz.prog W .any b0 22 v)
    (h : DataW.Trod enc Tryz.prog W 0 (fun _ => true) true 22 v d p) : ∃ n, Acts9 W v n := by
  obtain ⟨a0, len, cap, rfl⟩ := okWide_slice Tryz.underlying22 hv
  obtain ⟨fuel, hf⟩ := h
  rcases open_slice Tryz.underlying22 hf with ⟨hcs, _⟩ | ⟨a, len', cap', m, n, D, Pl, hcs, hb, hl, hm, hmm, _, hx⟩
  · simp only [Value.cells, List.cons.injEq, and_true] at hcs
    injection hcs with h1 h2 h3
    subst h1 h2 h3
    exact ⟨0, none, 0, rfl, Nat.zero_le _, fun i hi => absurd hi (Nat.not_lt_zero _)⟩
  · simp only [Value.cells, List.cons.injEq, and_true] at hcs
    injection hcs with h1 h2 h3
    subst h1 h2 h3
    refine ⟨len, _, _, rfl, by omega, fun i hi => ?_⟩
    have hspot : a.spot = none := by
      obtain ⟨cs, hcs, ht⟩ := hx 0 (by rw [hmm]; split <;> omega)
      rw [Tryz.cellsAct] at hcs
      obtain ⟨-, hl4, hc⟩ := World.cells?_some hcs
      have h0 := hc 0 (by decide)
      rw [List.getElem?_eq_getElem (show 0 < cs.length by omega)] at h0
      have := World.cell?_spot h0
      rw [Nat.zero_mul] at this
      simpa [Addr.add] using this
    obtain ⟨ab, ao, asp⟩ := a
    simp only at hspot
    subst hspot
    obtain ⟨cs, hcs, ht⟩ := hx i (by rw [hmm]; split <;> omega)
    rw [Tryz.cellsAct] at hcs
    obtain ⟨-, hl5, hc⟩ := World.cells?_some hcs
    obtain ⟨kn, nm, nu, tx, rw, rfl, k0, k1, m0, m1, u1⟩ := act_cells ht
    have hr : W.rangeAt ab (ao + i * 5) (actc kn nm (nu : Int) tx rw) := fun j u hj => by
      have hj5 : j < 5 := (List.getElem?_eq_some_iff.1 hj).1
      have := hc j hj5
      rw [hj] at this
      simp only [Addr.add_mid] at this
      exact this
    exact ⟨ab, ao, ⟨kn, nm, nu, tx, rw⟩, rfl, World.block_lt_of_cell? W _ (hr 0 _ rfl), hr, k0, k1, m0, m1, u1⟩
end Go.Proofs.YtgfgdfcedmcjeaaGreatDoor
