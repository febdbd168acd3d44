import Derived.Test.YtlbfdmiihnlljaaPost
import Derived.Test.YtlbfdmiihnlljaaD8
import Derived.Deep.DeepHandedRow
import Derived.Lib.SmallJoins
import Derived.Lib.LaidTab
/- Arguments that are slices, opened; a bare world for the witnesses. -/
namespace Go.Proofs.Ytlbfdmiihnlljaa
open Go.ChangeShapes Go.WideShapes Go.ChangeAt Go.RowKit Go.Deep

set_option maxRecDepth 100000 in
theorem Try.own : ownKnob Try.prog.godebug = none := by kernel_rfl
set_option maxRecDepth 100000 in
theorem Try.laidOut : laidOutB Try.prog = true := by kernel_rfl
set_option maxRecDepth 100000 in
noncomputable def bareWorld (os : Os) : World := World.holding Try.prog os ⟨#[], #[], []⟩

set_option maxRecDepth 100000 in
theorem open_u8s {H : Type} {enc : TypeId × Value → H} {W : World} {b0 : Nat} {v : Value} {d : DataW H} {p : List MemPlace} (hv : Value.okWide Try.prog W .any b0 68 v)
    (h : DataW.Trod enc Try.prog W 0 (fun _ => true) true 68 v d p) : ∃ zs, U8s W v zs ∧ (∀ z ∈ zs, 0 ≤ z ∧ z < 256) := by
  obtain ⟨a0, len, cap, rfl⟩ := okWide_slice Try.underlying68 hv
  obtain ⟨fuel, hf⟩ := h
  rcases open_ints Try.underlying68 Try.underlying5 Try.cells5 hf with ⟨hcs, _⟩ | ⟨a, len', cap', zs, hcs, _, hl, hm, hz, _, hi, hwz⟩
  · simp only [Value.cells, List.cons.injEq, and_true] at hcs
    injection hcs with h1 h2 h3
    subst h1 h2 h3
    exact ⟨[], .inl ⟨none, 0, rfl, rfl⟩, (by intro x hx; cases hx)⟩
  · simp only [Value.cells, List.cons.injEq, and_true] at hcs
    injection hcs with h1 h2 h3
    subst h1 h2 h3
    simp only [if_true] at hz
    refine ⟨zs.take len, ?_, fun z hzm => by have := bounds_u8 (hwz z (List.mem_of_mem_take hzm)); omega⟩
    rcases Nat.eq_zero_or_pos len with h0 | h0
    · subst h0
      exact .inl ⟨some a, _, rfl, by simp⟩
    · have e0 := hi 0 (by omega)
      have hsp := World.cell?_spot e0
      have hbl := World.block_lt_of_cell? W _ e0
      obtain ⟨ab, ao, asp⟩ := a
      simp only [Addr.add] at hsp hbl
      subst hsp
      have hlen : (zs.take len).length = len := by rw [List.length_take]; omega
      refine .inr ⟨ab, ao, _, by rw [hlen], hbl, by omega, fun i hil => ?_⟩
      have := hi i (by omega)
      rw [List.getElem_take]
      rw [List.getD_eq_getElem?_getD, List.getElem?_eq_getElem (by omega), Option.getD_some] at this
      rw [Addr.add_mid] at this; exact this
end Go.Proofs.Ytlbfdmiihnlljaa
