import Derived.Test.YtnfadmifdncjoaaGreatOpen
import Derived.Test.YtnfadmifdncjoaaGreatSI
/- Calls as handed in. -/
namespace Go.Proofs.YtnfadmifdncjoaaGreat
set_option linter.unusedSimpArgs false
set_option linter.unusedVariables false
open Go.ChangeShapes Go.WideShapes Go.ChangeAt Go.RowKit Go.Deep Go.Joins
set_option maxRecDepth 100000

theorem Tryz.cellsActG : Tryz.prog.cellsOf 51 = 4 := by kernel_rfl
theorem Tryz.cells5G : Tryz.prog.cellsOf 5 = 1 := by kernel_rfl
theorem Tryz.cells4G : Tryz.prog.cellsOf 4 = 1 := by kernel_rfl
theorem open_acts {H : Type} {enc : TypeId × Value → H} {W : World} {b0 : Nat} {v : Value} {d : DataW H} {p : List MemPlace} (hv : Value.okWide Tryz.prog W .any b0 27 v)
    (h : DataW.Trod enc Tryz.prog W 0 (fun _ => true) true 27 v d p) : ∃ n, Acts W v n := by
  obtain ⟨a0, len, cap, rfl⟩ := okWide_slice Tryz.underlying27 hv
  obtain ⟨fuel, hf⟩ := h
  rcases open_slice Tryz.underlying27 hf with ⟨hcs, _⟩ | ⟨a, len', cap', m, n, D, Pl, hcs, hb, hl, hm, hmm, _, hx⟩
  · simp only [Value.cells, List.cons.injEq, and_true] at hcs
    injection hcs with h1 h2 h3
    subst h1 h2 h3
    exact ⟨0, none, 0, rfl, Nat.zero_le _, fun i hi => by omega⟩
  · simp only [Value.cells, List.cons.injEq, and_true] at hcs
    injection hcs with h1 h2 h3
    subst h1 h2 h3
    refine ⟨len, _, _, rfl, by omega, fun i hi => ?_⟩
    have hspot : a.spot = none := by
      obtain ⟨cs, hcs, ht⟩ := hx 0 (by rw [hmm]; split <;> omega)
      rw [Tryz.cellsActG] at hcs
      obtain ⟨-, hl4, hc⟩ := World.cells?_some hcs
      have h0 := hc 0 (by decide)
      rw [List.getElem?_eq_getElem (show 0 < cs.length by omega)] at h0
      have := World.cell?_spot h0
      rw [Nat.zero_mul] at this
      simpa [Addr.add] using this
    obtain ⟨ab, ao, asp⟩ := a
    simp only at hspot
    subst hspot
    have := hx i (by rw [hmm]; split <;> omega)
    obtain ⟨cs, hcs, ht⟩ := this
    rw [Tryz.cellsActG] at hcs
    obtain ⟨-, -, hc⟩ := World.cells?_some hcs
    obtain ⟨y0, y1, y2, y3, n', -, hl4, t0, t1, t2, t3⟩ := trod_struct4 Tryz.underlying51 ht
    simp only [Tryz.cells5G, Tryz.cells3, Tryz.cells4G] at t0 t1 t2 t3
    obtain ⟨z0, e0, -, w0⟩ := DataW.trod_int Tryz.underlying5 t0
    obtain ⟨z1, e1, -, w1⟩ := DataW.trod_int Tryz.underlying3 t1
    obtain ⟨z2, e2, -, w2⟩ := DataW.trod_int Tryz.underlying5 t2
    obtain ⟨z3, e3, -⟩ := DataW.trod_bool Tryz.underlying4 t3
    have g0 := take_oneN e0
    have g1 := take_oneN e1
    have g2 := take_oneN e2
    have g3 := take_oneN e3
    have b0' := bounds_u8 w0
    have b1' := bounds_i64 w1
    have b2' := bounds_u8 w2
    have h0 := hc 0 (by decide)
    have h1 := hc 1 (by decide)
    have h2 := hc 2 (by decide)
    have h3 := hc 3 (by decide)
    rw [g0] at h0
    rw [g1] at h1
    rw [g2] at h2
    rw [g3] at h3
    simp only [Addr.add_mid, Nat.add_zero] at h0 h1 h2 h3
    have hbl := World.block_lt_of_cell? W _ h0
    exact ⟨ab, ao, ⟨z0, z1, z2, z3⟩, rfl, hbl, h0, h1, h2, h3, ⟨b0'.1, Int.lt_of_le_of_lt b0'.2 (by decide)⟩, ⟨b1'.1, Int.lt_of_le_of_lt b1'.2 (by decide)⟩, ⟨b2'.1, Int.lt_of_le_of_lt b2'.2 (by decide)⟩⟩
end Go.Proofs.YtnfadmifdncjoaaGreat
