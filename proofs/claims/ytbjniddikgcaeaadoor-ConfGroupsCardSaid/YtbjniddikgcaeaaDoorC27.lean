import Derived.Test.YtbjniddikgcaeaaDoorC26
/- Size.Regs. -/
namespace Go.Proofs.YtbjniddikgcaeaaDoor
set_option linter.unusedSimpArgs false
set_option linter.unusedVariables false
open Go.RowKit Go.Maps

/-- a size, as a value -/
def sizeVal (m : Int) (H : Nat → Nat → Int) (tv : Value) : Value := .agg #[.int .u8 m, .int .u8 (H 0 0), .int .u8 (H 0 1), .int .u8 (H 0 2), .int .u8 (H 0 3), .int .u8 (H 0 4), .int .u8 (H 1 0), .int .u8 (H 1 1), .int .u8 (H 1 2), .int .u8 (H 1 3), .int .u8 (H 1 4), .int .u8 (H 2 0), .int .u8 (H 2 1), .int .u8 (H 2 2), .int .u8 (H 2 3), .int .u8 (H 2 4), .int .u8 (H 3 0), .int .u8 (H 3 1), .int .u8 (H 3 2), .int .u8 (H 3 3), .int .u8 (H 3 4), .int .u8 (H 4 0), .int .u8 (H 4 1), .int .u8 (H 4 2), .int .u8 (H 4 3), .int .u8 (H 4 4), tv]
/-- a slice of small numbers -/
def U8s (w : World) (v : Value) (ts : List Int) : Prop :=
  (∃ a cap, v = .slice a 0 cap ∧ ts = []) ∨ ∃ b off cap, v = .slice (some ⟨b, off, none⟩) ts.length cap ∧ b < w.heap.size ∧ ts.length ≤ maxLen ∧ ∀ i (h : i < ts.length), w.cell? ⟨b, off + i, none⟩ = some (.int .u8 ts[i])
def Hok (H : Nat → Nat → Int) : Prop := ∀ i j, i < 5 → j < 5 → 0 ≤ H i j ∧ H i j < 256
structure BoxS (w : World) (b : Nat) (m : Int) (H : Nat → Nat → Int) (tv : Value) : Prop where
  lt : b < w.heap.size
  c0 : w.cell? ⟨b, 0, none⟩ = some (.int .u8 m)
  ch : ∀ i j, i < 5 → j < 5 → w.cell? ⟨b, 1 + i * 5 + j, none⟩ = some (.int .u8 (H i j))
  c26 : w.cell? ⟨b, 26, none⟩ = some tv
theorem BoxS.below {w w' : World} {B b : Nat} {m : Int} {H : Nat → Nat → Int} {tv : Value} (h : BoxS w b m H tv) (hb : Below B w w') (hB : b < B) : BoxS w' b m H tv :=
  ⟨Nat.lt_of_lt_of_le h.lt hb.size, (hb.cell (p := ⟨b, 0, none⟩) hB).trans h.c0, fun i j hi hj => (hb.cell (p := ⟨b, 1 + i * 5 + j, none⟩) hB).trans (h.ch i j hi hj), (hb.cell (p := ⟨b, 26, none⟩) hB).trans h.c26⟩
theorem BoxS.new (w : World) (m : Int) (H : Nat → Nat → Int) (tv : Value) (t : TypeId) : BoxS (w.alloc (.cells #[.int .u8 m, .int .u8 (H 0 0), .int .u8 (H 0 1), .int .u8 (H 0 2), .int .u8 (H 0 3), .int .u8 (H 0 4), .int .u8 (H 1 0), .int .u8 (H 1 1), .int .u8 (H 1 2), .int .u8 (H 1 3), .int .u8 (H 1 4), .int .u8 (H 2 0), .int .u8 (H 2 1), .int .u8 (H 2 2), .int .u8 (H 2 3), .int .u8 (H 2 4), .int .u8 (H 3 0), .int .u8 (H 3 1), .int .u8 (H 3 2), .int .u8 (H 3 3), .int .u8 (H 3 4), .int .u8 (H 4 0), .int .u8 (H 4 1), .int .u8 (H 4 2), .int .u8 (H 4 3), .int .u8 (H 4 4), tv] t)) w.heap.size m H tv := by
  refine ⟨by simp, by simp [World.cell?_alloc_new], fun i j hi hj => ?_, by simp [World.cell?_alloc_new]⟩
  match i, j, hi, hj with
  | 0, 0, _, _
  | 0, 1, _, _
  | 0, 2, _, _
  | 0, 3, _, _
  | 0, 4, _, _
  | 1, 0, _, _
  | 1, 1, _, _
  | 1, 2, _, _
  | 1, 3, _, _
  | 1, 4, _, _
  | 2, 0, _, _
  | 2, 1, _, _
  | 2, 2, _, _
  | 2, 3, _, _
  | 2, 4, _, _
  | 3, 0, _, _
  | 3, 1, _, _
  | 3, 2, _, _
  | 3, 3, _, _
  | 3, 4, _, _
  | 4, 0, _, _
  | 4, 1, _, _
  | 4, 2, _, _
  | 4, 3, _, _
  | 4, 4, _, _ =>
    simp [World.cell?_alloc_new]
end Go.Proofs.YtbjniddikgcaeaaDoor
