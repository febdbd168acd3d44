import Derived.Test.YtlbfdmiihnlljaaX11
import Derived.Test.YtlbfdmiihnlljaaXG
/- What the answer's Put needs of rows that grow. -/
namespace Go.Proofs.Ytlbfdmiihnlljaa
set_option linter.unusedSimpArgs false
set_option linter.unusedVariables false
open Go.RowKit Go.Maps

theorem one_alloc {w : World} {b : Nat} {v : Value} (h : w.cell? ⟨b, 0, none⟩ = some v) (hb : b < w.heap.size) (o : Obj) : (w.alloc o).cell? ⟨b, 0, none⟩ = some v :=
  (((Below.refl w.heap.size w).alloc (Nat.le_refl _) o).cell (p := ⟨b, 0, none⟩) hb).trans h
theorem fl_grown {w w' : World} {b N : Nat} {f : Nat → Int} {row : Option Nat} (h : Fl w b N f) (hg : w.grownBy w' row) (hne : some b ≠ row) : Fl w' b N f :=
  ⟨Nat.lt_of_lt_of_le h.lt hg.size, fun j hj => (World.cell?_of_block (a := ⟨b, j, none⟩) (hg.block b h.lt hne)).trans (h.c j hj), fun j hj => (World.frozen?_of_block (a := ⟨b, j, none⟩) (hg.block b h.lt hne)).trans (h.z j hj)⟩
end Go.Proofs.Ytlbfdmiihnlljaa
