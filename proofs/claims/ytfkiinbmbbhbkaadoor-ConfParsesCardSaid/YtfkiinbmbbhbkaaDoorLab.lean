import Derived.Test.YtfkiinbmbbhbkaaDoorRows
import Derived.WalkKit
import Derived.WalkSpells
import Derived.WalkLawsBesides
import Derived.Lib.Hide
import Derived.Deep.RegionHeld
import Derived.Deep.Draws
namespace Go.Proofs.YtfkiinbmbbhbkaaDoor
set_option linter.unusedSimpArgs false
set_option linter.unusedVariables false
open Go.RowKit

/-- block g holds a variable of two cells, which may be written -/
structure Pair (w : World) (g : Nat) (a b : Value) : Prop where
  lt : g < w.heap.size
  c0 : w.cell? ⟨g, 0, none⟩ = some a
  c1 : w.cell? ⟨g, 1, none⟩ = some b
  f0 : w.frozen? ⟨g, 0, none⟩ = false
  f1 : w.frozen? ⟨g, 1, none⟩ = false

theorem Pair.new (w : World) (a b : Value) (t : TypeId) : Pair (w.alloc (.cells #[a, b] t)) w.heap.size a b :=
  ⟨by simp, by simp [World.cell?_alloc_new], by simp [World.cell?_alloc_new], by simp, by simp⟩
theorem Pair.below {w w' : World} {B g : Nat} {a b : Value} (h : Pair w g a b) (hb : Below B w w') (hg : g < B) : Pair w' g a b :=
  ⟨Nat.lt_of_lt_of_le h.lt hb.size, (hb.cell (p := ⟨g, 0, none⟩) hg).trans h.c0, (hb.cell (p := ⟨g, 1, none⟩) hg).trans h.c1, (hb.frozen (p := ⟨g, 0, none⟩) hg).trans h.f0, (hb.frozen (p := ⟨g, 1, none⟩) hg).trans h.f1⟩
theorem Pair.alloc {w : World} {g : Nat} {a b : Value} (h : Pair w g a b) (o : Obj) : Pair (w.alloc o) g a b :=
  h.below ((Below.refl w.heap.size w).alloc (Nat.le_refl _) o) h.lt
theorem Pair.drew {w : World} {g : Nat} {a b : Value} (h : Pair w g a b) : Pair w.drew g a b := ⟨h.lt, h.c0, h.c1, h.f0, h.f1⟩
theorem Pair.drewN {w : World} {g : Nat} {a b : Value} (h : Pair w g a b) (n : Nat) : Pair (w.drewN n) g a b := ⟨h.lt, h.c0, h.c1, h.f0, h.f1⟩
theorem Pair.set0 {w : World} {g : Nat} {a b : Value} (h : Pair w g a b) (x : Value) : Pair (w.setCell ⟨g, 0, none⟩ x) g x b :=
  ⟨by simpa [World.setCell] using h.lt, World.cell?_setCell_same _ _ _ h.c0, by rw [World.cell?_setCell_other _ _ _ _ (by simp)]; exact h.c1, by simpa using h.f0, by simpa using h.f1⟩
theorem Pair.set1 {w : World} {g : Nat} {a b : Value} (h : Pair w g a b) (x : Value) : Pair (w.setCell ⟨g, 1, none⟩ x) g a x :=
  ⟨by simpa [World.setCell] using h.lt, by rw [World.cell?_setCell_other _ _ _ _ (by simp)]; exact h.c0, World.cell?_setCell_same _ _ _ h.c1, by simpa using h.f0, by simpa using h.f1⟩
theorem Pair.set_far {w : World} {g : Nat} {a b : Value} (h : Pair w g a b) {p : Addr} (hp : p.block ≠ g) (x : Value) : Pair (w.setCell p x) g a b :=
  ⟨by simpa [World.setCell] using h.lt, by rw [World.cell?_setCell_far w p _ x (by exact hp)]; exact h.c0, by rw [World.cell?_setCell_far w p _ x (by exact hp)]; exact h.c1, by simpa using h.f0, by simpa using h.f1⟩

theorem below_drewN' {B : Nat} {a w : World} (h : Below B a w) (n : Nat) : Below B a (w.drewN n) := ⟨h.os, h.tape, h.output, h.size, h.block⟩
theorem ret_bool {a b : Bool} (h : a = b) : Ending.returned (.bool a) = .returned (.bool b) := by rw [h]
theorem ret_int {k : IntKind} {a b : Int} (h : a = b) : Ending.returned (.int k a) = .returned (.int k b) := by rw [h]

theorem bcell {W w1 : World} (hb : Below W.heap.size W w1) : (∀ b o, b < W.heap.size → w1.cell? ⟨b, o, none⟩ = W.cell? ⟨b, o, none⟩) ∧ (∀ b o, b < W.heap.size → w1.frozen? ⟨b, o, none⟩ = W.frozen? ⟨b, o, none⟩) :=
  ⟨fun b o h => hb.cell (p := ⟨b, o, none⟩) h, fun b o h => hb.frozen (p := ⟨b, o, none⟩) h⟩
end Go.Proofs.YtfkiinbmbbhbkaaDoor
