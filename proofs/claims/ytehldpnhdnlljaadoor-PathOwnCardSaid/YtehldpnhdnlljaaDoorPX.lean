import Derived.Test.YtehldpnhdnlljaaDoorPost
import Derived.Test.YtehldpnhdnlljaaDoorPS
import Derived.Deep.DeepHandedRow
import Derived.Lib.SmallJoins
import Derived.Lib.LaidTab
import Derived.ChangeMaps5
import Derived.Shelf.Vars
/- A world in which the listed tables hold what their initialisers lay, for the witnesses; a slice of bytes as handed in; a cell that is there. -/
namespace Go.Proofs.YtehldpnhdnlljaaDoor.Pt
set_option linter.unusedSimpArgs false
set_option linter.unusedVariables false
open Go.ChangeShapes Go.WideShapes Go.ChangeAt Go.RowKit Go.Deep

set_option maxRecDepth 100000 in
theorem Tryd.ownP : ownKnob Tryd.prog.godebug = none := by kernel_rfl
set_option maxRecDepth 100000 in
theorem Tryd.laidOutP : laidOutB Tryd.prog = true := by kernel_rfl
theorem Tryd.cells5P : Tryd.prog.cellsOf 5 = 1 := by kernel_rfl
def litV : Lit → Value
  | .int k z => .int k z
  | .string bs => .string ⟨bs.toArray⟩
  | _ => undef
def oneV : DataW Unit → Value
  | .lit l => litV l
  | _ => undef
def rowV : DataW Unit → List Value
  | .agg ds => ds.map oneV
  | _ => []
def gridV : DataW Unit → List Value
  | .agg ds => ds.flatMap rowV
  | _ => []
def putTab (c : Array Value) : Obj → Obj
  | .cells _ t frozen => .cells c t frozen
  | o => o
noncomputable def laidWorld (os : Os) : World :=
  { World.holding Tryd.prog os ⟨#[], #[], []⟩ with heap := (((World.holding Tryd.prog os ⟨#[], #[], []⟩).heap.modify 1 (putTab (rowV Rows.laid_unicode_utf8_first).toArray)).modify 2 (putTab (gridV Rows.laid_unicode_utf8_acceptRanges).toArray)) }
theorem open_u8row {H : Type} {enc : TypeId × Value → H} {W : World} {fuel : Nat} {cs : List Value} {x : DataW H × List MemPlace} 
    (hf : DataW.trod enc Tryd.prog W 0 (fun _ => true) true fuel 22 cs = some x) : ∃ v zs, cs = [v] ∧ U8s W v zs ∧ (∀ z ∈ zs, 0 ≤ z ∧ z < 256) ∧ zs.length ≤ maxLen := by
  rcases open_ints Tryd.underlying22 Tryd.underlying5 Tryd.cells5P hf with ⟨hcs, _⟩ | ⟨a, len, cap, zs, hcs, _, hl, hm, hz, _, hi, hwz⟩
  · exact ⟨_, [], hcs, .inl ⟨none, 0, rfl, rfl⟩, (by intro x hx; cases hx), by simp⟩
  · simp only [if_true] at hz
    refine ⟨_, zs.take len, hcs, ?_, (fun z hzm => by have := bounds_u8 (hwz z (List.mem_of_mem_take hzm)); omega), by rw [List.length_take]; omega⟩
    rcases Nat.eq_zero_or_pos len with h0 | h0
    · subst h0
      exact .inl ⟨some a, _, rfl, by simp⟩
    · have e0 := hi 0 (by omega)
      have hsp := World.cell?_spot e0
      have hbl := World.block_lt_of_cell? W _ e0
      obtain ⟨ab, ao, asp⟩ := a
      simp only [Addr.add] at hsp hbl
      subst hsp
      have hlen : (zs.take len).length = len := by rw [List.length_take]; omega
      refine .inr ⟨ab, ao, _, by rw [hlen], hbl, by omega, fun i hil => ?_⟩
      have := hi i (by omega)
      rw [List.getElem_take]
      rw [List.getD_eq_getElem?_getD, List.getElem?_eq_getElem (by omega), Option.getD_some] at this
      rw [Addr.add_mid] at this; exact this


set_option maxRecDepth 100000 in
theorem open_u8p {H : Type} {enc : TypeId × Value → H} {W : World} {b0 : Nat} {v : Value} {d : DataW H} {p : List MemPlace} (hv : Value.okWide Tryd.prog W .any b0 22 v)
    (h : DataW.Trod enc Tryd.prog W 0 (fun _ => true) true 22 v d p) : ∃ zs, U8s W v zs ∧ (∀ z ∈ zs, 0 ≤ z ∧ z < 256) ∧ zs.length ≤ maxLen := by
  obtain ⟨a0, len, cap, rfl⟩ := okWide_slice Tryd.underlying22 hv
  obtain ⟨fuel, hf⟩ := h
  obtain ⟨v', zs, hcs, hU, hz, hl⟩ := open_u8row hf
  simp only [Value.cells, List.cons.injEq, and_true] at hcs
  subst hcs
  exact ⟨zs, hU, hz, hl⟩
set_option maxRecDepth 100000 in
theorem maxlen_there {W : World} (h : W.ShapedOpen Tryd.prog) : ∃ m, W.cell? ⟨0, 0, none⟩ = some (.int .i64 m) :=
  Go.Proofs.cell_of_shapedOpen_int (zero := #[.int .i64 0]) (t := 3) h (of_decide_eq_true (by kernel_rfl)) (by kernel_rfl) rfl (by kernel_rfl) (by kernel_rfl) Tryd.underlying3
end Go.Proofs.YtehldpnhdnlljaaDoor.Pt
