import Derived.Test.YthifnojdencobaaDoorW8
import Derived.Test.YthifnojdencobaaDoorW9
import Derived.Test.YthifnojdencobaaDoorLaid
import Derived.Deep.SlicePairs
/- Arguments that are slices, opened. -/
namespace Go.Proofs.YthifnojdencobaaDoor
open Go.ChangeShapes Go.WideShapes Go.ChangeAt Go.RowKit Go.Deep

theorem add_plain (b o n : Nat) : (⟨b, o, none⟩ : Addr).add n = ⟨b, o + n, none⟩ := by
  unfold Addr.add
  split
  · rename_i h; subst h; rfl
  · rfl

theorem open_labs {H : Type} {enc : TypeId × Value → H} {W : World} {b0 : Nat} {v : Value} {d : DataW H} {p : List MemPlace} (hv : Value.okWide Tryd.prog W .any b0 37 v)
    (h : DataW.Trod enc Tryd.prog W 0 (fun _ => true) true 37 v d p) : ∃ ls, Labs W v ls ∧ InRange ls ∧ (∀ x ∈ ls, 0 ≤ x.1 ∧ x.1 ≤ 255) ∧ ls.length ≤ maxLen := by
  obtain ⟨a0, len, cap, rfl⟩ := okWide_slice Tryd.underlying37 hv
  obtain ⟨fuel, hf⟩ := h
  rcases open_slice_pairs Tryd.underlying37 Tryd.underlying25 Tryd.cells25 rfl rfl Tryd.cells5 Tryd.cells23 hf with ⟨hcs, _⟩ | ⟨a, len', cap', m, n, V0, V1, D0, D1, P0, P1, hcs, _, hl, hm, hmm, _, hi⟩
  · simp only [Value.cells, List.cons.injEq, and_true] at hcs
    injection hcs with h1 h2 h3
    subst h1 h2 h3
    exact ⟨[], .inl ⟨none, 0, rfl, rfl⟩, (by intro x hx; cases hx), (by intro x hx; cases hx), by simp⟩
  · simp only [Value.cells, List.cons.injEq, and_true] at hcs
    injection hcs with h1 h2 h3
    subst h1 h2 h3
    simp only [if_true] at hmm
    subst hmm
    have key : ∀ i, i < len → ∃ l c : Int, W.cell? (a.add (i * 2)) = some (.int .u8 l) ∧ W.cell? (a.add (i * 2 + 1)) = some (.int .u16 c) ∧ (0 ≤ l ∧ l ≤ 255) ∧ 0 ≤ c ∧ c ≤ 65535 := by
      intro i hil
      obtain ⟨e0, e1, t0, t1⟩ := hi i (by omega)
      obtain ⟨l, hl1, _, wl⟩ := DataW.trod_int Tryd.underlying5 t0
      obtain ⟨c, hc1, _, wc⟩ := DataW.trod_int Tryd.underlying23 t1
      simp at hl1 hc1
      exact ⟨l, c, by rw [e0, hl1], by rw [e1, hc1], bounds_u8 wl, bounds_u16 wc⟩
    let lf : Nat → Int × Int := fun i => if h : i < len then (Classical.choose (key i h), Classical.choose (Classical.choose_spec (key i h))) else (0, 0)
    have hlf : ∀ i, i < len → W.cell? (a.add (i * 2)) = some (.int .u8 (lf i).1) ∧ W.cell? (a.add (i * 2 + 1)) = some (.int .u16 (lf i).2) ∧ (0 ≤ (lf i).1 ∧ (lf i).1 ≤ 255) ∧ 0 ≤ (lf i).2 ∧ (lf i).2 ≤ 65535 := by
      intro i hil
      simp only [lf, dif_pos hil]
      exact Classical.choose_spec (Classical.choose_spec (key i hil))
    refine ⟨(List.range len).map lf, ?_, ?_, ?_, by simp; omega⟩
    · rcases Nat.eq_zero_or_pos len with h0 | h0
      · subst h0
        exact .inl ⟨some a, _, rfl, rfl⟩
      · obtain ⟨e0, e1, _⟩ := hlf 0 h0
        have hsp := World.cell?_spot e0
        have hbl := World.block_lt_of_cell? W _ e0
        obtain ⟨ab, ao, asp⟩ := a
        simp only [Addr.add] at hsp hbl
        subst hsp
        refine .inr ⟨ab, ao, _, by simp; rfl, hbl, by simp; omega, fun i hil => ?_, fun i hil => ?_⟩
        · have := (hlf i (by simpa using hil)).1
          rw [add_plain] at this; simpa using this
        · have := (hlf i (by simpa using hil)).2.1
          rw [add_plain] at this; simpa [Nat.add_assoc] using this
    · intro x hx
      obtain ⟨i, hir, rfl⟩ := List.mem_map.1 hx
      have := (hlf i (List.mem_range.1 hir)).2.2.2
      omega
    · intro x hx
      obtain ⟨i, hir, rfl⟩ := List.mem_map.1 hx
      exact (hlf i (List.mem_range.1 hir)).2.2.1

theorem open_intv {H : Type} {enc : TypeId × Value → H} {W : World} {b0 : Nat} {v : Value} {d : DataW H} {p : List MemPlace} (hv : Value.okWide Tryd.prog W .any b0 22 v)
    (h : DataW.Trod enc Tryd.prog W 0 (fun _ => true) true 22 v d p) : ∃ zs, Ints W v zs ∧ (∀ z ∈ zs, -9223372036854775808 ≤ z ∧ z ≤ 9223372036854775807) ∧ zs.length ≤ maxLen := by
  obtain ⟨a0, len, cap, rfl⟩ := okWide_slice Tryd.underlying22 hv
  obtain ⟨fuel, hf⟩ := h
  rcases open_ints Tryd.underlying22 Tryd.underlying3 (show Tryd.prog.cellsOf 3 = 1 by kernel_rfl) hf with ⟨hcs, _⟩ | ⟨a, len', cap', zs, hcs, _, hl, hm, hz, _, hi, hwz⟩
  · simp only [Value.cells, List.cons.injEq, and_true] at hcs
    injection hcs with h1 h2 h3
    subst h1 h2 h3
    exact ⟨[], .inl ⟨none, 0, rfl, rfl⟩, (by intro x hx; cases hx), by simp⟩
  · simp only [Value.cells, List.cons.injEq, and_true] at hcs
    injection hcs with h1 h2 h3
    subst h1 h2 h3
    simp only [if_true] at hz
    refine ⟨zs.take len, ?_, fun z hzm => by have := bounds_i64 (hwz z (List.mem_of_mem_take hzm)); omega, by rw [List.length_take]; omega⟩
    rcases Nat.eq_zero_or_pos len with h0 | h0
    · subst h0
      exact .inl ⟨some a, _, rfl, by simp⟩
    · have e0 := hi 0 (by omega)
      have hsp := World.cell?_spot e0
      have hbl := World.block_lt_of_cell? W _ e0
      obtain ⟨ab, ao, asp⟩ := a
      simp only [Addr.add] at hsp hbl
      subst hsp
      have hlen : (zs.take len).length = len := by rw [List.length_take]; omega
      refine .inr ⟨ab, ao, _, by rw [hlen], hbl, by omega, fun i hil => ?_⟩
      have := hi i (by omega)
      rw [List.getElem_take]
      rw [List.getD_eq_getElem?_getD, List.getElem?_eq_getElem (by omega), Option.getD_some] at this
      rw [add_plain] at this; exact this
end Go.Proofs.YthifnojdencobaaDoor
