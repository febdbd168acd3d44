import Derived.Test.YtbjniddikgcaeaaDoorC25
/- A variable of a label's nine cells that is stored as a whole; a cell of an owned row that is set. -/
namespace Go.Proofs.YtbjniddikgcaeaaDoor
set_option linter.unusedSimpArgs false
set_option linter.unusedVariables false
open Go.RowKit Go.Maps

/-- block g has nine cells that may be written -/
structure Free9 (w : World) (g : Nat) : Prop where
  lt : g < w.heap.size
  c0 : ∃ v, w.cell? ⟨g, 0, none⟩ = some v
  c1 : ∃ v, w.cell? ⟨g, 1, none⟩ = some v
  c2 : ∃ v, w.cell? ⟨g, 2, none⟩ = some v
  c3 : ∃ v, w.cell? ⟨g, 3, none⟩ = some v
  c4 : ∃ v, w.cell? ⟨g, 4, none⟩ = some v
  c5 : ∃ v, w.cell? ⟨g, 5, none⟩ = some v
  c6 : ∃ v, w.cell? ⟨g, 6, none⟩ = some v
  c7 : ∃ v, w.cell? ⟨g, 7, none⟩ = some v
  c8 : ∃ v, w.cell? ⟨g, 8, none⟩ = some v
  f0 : w.frozen? ⟨g, 0, none⟩ = false
  f1 : w.frozen? ⟨g, 1, none⟩ = false
  f2 : w.frozen? ⟨g, 2, none⟩ = false
  f3 : w.frozen? ⟨g, 3, none⟩ = false
  f4 : w.frozen? ⟨g, 4, none⟩ = false
  f5 : w.frozen? ⟨g, 5, none⟩ = false
  f6 : w.frozen? ⟨g, 6, none⟩ = false
  f7 : w.frozen? ⟨g, 7, none⟩ = false
  f8 : w.frozen? ⟨g, 8, none⟩ = false
theorem Free9.below {w w' : World} {B g : Nat} (h : Free9 w g) (hb : Below B w w') (hg : g < B) : Free9 w' g :=
  ⟨Nat.lt_of_lt_of_le h.lt hb.size, (by obtain ⟨v, hv⟩ := h.c0; exact ⟨v, (hb.cell (p := ⟨g, 0, none⟩) hg).trans hv⟩), (by obtain ⟨v, hv⟩ := h.c1; exact ⟨v, (hb.cell (p := ⟨g, 1, none⟩) hg).trans hv⟩), (by obtain ⟨v, hv⟩ := h.c2; exact ⟨v, (hb.cell (p := ⟨g, 2, none⟩) hg).trans hv⟩), (by obtain ⟨v, hv⟩ := h.c3; exact ⟨v, (hb.cell (p := ⟨g, 3, none⟩) hg).trans hv⟩), (by obtain ⟨v, hv⟩ := h.c4; exact ⟨v, (hb.cell (p := ⟨g, 4, none⟩) hg).trans hv⟩), (by obtain ⟨v, hv⟩ := h.c5; exact ⟨v, (hb.cell (p := ⟨g, 5, none⟩) hg).trans hv⟩), (by obtain ⟨v, hv⟩ := h.c6; exact ⟨v, (hb.cell (p := ⟨g, 6, none⟩) hg).trans hv⟩), (by obtain ⟨v, hv⟩ := h.c7; exact ⟨v, (hb.cell (p := ⟨g, 7, none⟩) hg).trans hv⟩), (by obtain ⟨v, hv⟩ := h.c8; exact ⟨v, (hb.cell (p := ⟨g, 8, none⟩) hg).trans hv⟩), (hb.frozen (p := ⟨g, 0, none⟩) hg).trans h.f0, (hb.frozen (p := ⟨g, 1, none⟩) hg).trans h.f1, (hb.frozen (p := ⟨g, 2, none⟩) hg).trans h.f2, (hb.frozen (p := ⟨g, 3, none⟩) hg).trans h.f3, (hb.frozen (p := ⟨g, 4, none⟩) hg).trans h.f4, (hb.frozen (p := ⟨g, 5, none⟩) hg).trans h.f5, (hb.frozen (p := ⟨g, 6, none⟩) hg).trans h.f6, (hb.frozen (p := ⟨g, 7, none⟩) hg).trans h.f7, (hb.frozen (p := ⟨g, 8, none⟩) hg).trans h.f8⟩
theorem Free9.new (w : World) (a0 a1 a2 a3 a4 a5 a6 a7 a8 : Value) (t : TypeId) : Free9 (w.alloc (.cells #[a0, a1, a2, a3, a4, a5, a6, a7, a8] t)) w.heap.size := by
  refine ⟨by simp, ⟨a0, ?_⟩, ⟨a1, ?_⟩, ⟨a2, ?_⟩, ⟨a3, ?_⟩, ⟨a4, ?_⟩, ⟨a5, ?_⟩, ⟨a6, ?_⟩, ⟨a7, ?_⟩, ⟨a8, ?_⟩, ?_, ?_, ?_, ?_, ?_, ?_, ?_, ?_, ?_⟩
  all_goals first | (simp [World.cell?_alloc_new]; done) | (simp; done)
/-- nine cells, stored one behind the other -/
def set9 (w : World) (g : Nat) (r : Rg) : World := (((((((((w.setCell ⟨g, 0, none⟩ (.string r.nm)).setCell ⟨g, 1, none⟩ (.int .u8 r.lv)).setCell ⟨g, 2, none⟩ (.int .u16 r.cs)).setCell ⟨g, 3, none⟩ (.int .i64 r.bl)).setCell ⟨g, 4, none⟩ (.int .i64 r.nd)).setCell ⟨g, 5, none⟩ (.int .i64 r.fr)).setCell ⟨g, 6, none⟩ (.int .i64 r.pr)).setCell ⟨g, 7, none⟩ (.int .i64 r.op)).setCell ⟨g, 8, none⟩ (.int .i64 r.cl))
theorem set9_box {w : World} {g : Nat} (h : Free9 w g) (r : Rg) : Box9 (set9 w g r) g r := by
  obtain ⟨lt, ⟨v0, c0⟩, ⟨v1, c1⟩, ⟨v2, c2⟩, ⟨v3, c3⟩, ⟨v4, c4⟩, ⟨v5, c5⟩, ⟨v6, c6⟩, ⟨v7, c7⟩, ⟨v8, c8⟩, -, -, -, -, -, -, -, -, -⟩ := h
  unfold set9
  refine ⟨by simp only [size_set]; exact lt, ?_, ?_, ?_, ?_, ?_, ?_, ?_, ?_, ?_⟩
  · rw [World.cell?_setCell_other _ _ _ _ (by simp)]; rw [World.cell?_setCell_other _ _ _ _ (by simp)]; rw [World.cell?_setCell_other _ _ _ _ (by simp)]; rw [World.cell?_setCell_other _ _ _ _ (by simp)]; rw [World.cell?_setCell_other _ _ _ _ (by simp)]; rw [World.cell?_setCell_other _ _ _ _ (by simp)]; rw [World.cell?_setCell_other _ _ _ _ (by simp)]; rw [World.cell?_setCell_other _ _ _ _ (by simp)]; exact World.cell?_setCell_same _ _ _ (show _ = some v0 from by exact c0)
  · rw [World.cell?_setCell_other _ _ _ _ (by simp)]; rw [World.cell?_setCell_other _ _ _ _ (by simp)]; rw [World.cell?_setCell_other _ _ _ _ (by simp)]; rw [World.cell?_setCell_other _ _ _ _ (by simp)]; rw [World.cell?_setCell_other _ _ _ _ (by simp)]; rw [World.cell?_setCell_other _ _ _ _ (by simp)]; rw [World.cell?_setCell_other _ _ _ _ (by simp)]; exact World.cell?_setCell_same _ _ _ (show _ = some v1 from by rw [World.cell?_setCell_other _ _ _ _ (by simp)]; exact c1)
  · rw [World.cell?_setCell_other _ _ _ _ (by simp)]; rw [World.cell?_setCell_other _ _ _ _ (by simp)]; rw [World.cell?_setCell_other _ _ _ _ (by simp)]; rw [World.cell?_setCell_other _ _ _ _ (by simp)]; rw [World.cell?_setCell_other _ _ _ _ (by simp)]; rw [World.cell?_setCell_other _ _ _ _ (by simp)]; exact World.cell?_setCell_same _ _ _ (show _ = some v2 from by rw [World.cell?_setCell_other _ _ _ _ (by simp)]; rw [World.cell?_setCell_other _ _ _ _ (by simp)]; exact c2)
  · rw [World.cell?_setCell_other _ _ _ _ (by simp)]; rw [World.cell?_setCell_other _ _ _ _ (by simp)]; rw [World.cell?_setCell_other _ _ _ _ (by simp)]; rw [World.cell?_setCell_other _ _ _ _ (by simp)]; rw [World.cell?_setCell_other _ _ _ _ (by simp)]; exact World.cell?_setCell_same _ _ _ (show _ = some v3 from by rw [World.cell?_setCell_other _ _ _ _ (by simp)]; rw [World.cell?_setCell_other _ _ _ _ (by simp)]; rw [World.cell?_setCell_other _ _ _ _ (by simp)]; exact c3)
  · rw [World.cell?_setCell_other _ _ _ _ (by simp)]; rw [World.cell?_setCell_other _ _ _ _ (by simp)]; rw [World.cell?_setCell_other _ _ _ _ (by simp)]; rw [World.cell?_setCell_other _ _ _ _ (by simp)]; exact World.cell?_setCell_same _ _ _ (show _ = some v4 from by rw [World.cell?_setCell_other _ _ _ _ (by simp)]; rw [World.cell?_setCell_other _ _ _ _ (by simp)]; rw [World.cell?_setCell_other _ _ _ _ (by simp)]; rw [World.cell?_setCell_other _ _ _ _ (by simp)]; exact c4)
  · rw [World.cell?_setCell_other _ _ _ _ (by simp)]; rw [World.cell?_setCell_other _ _ _ _ (by simp)]; rw [World.cell?_setCell_other _ _ _ _ (by simp)]; exact World.cell?_setCell_same _ _ _ (show _ = some v5 from by rw [World.cell?_setCell_other _ _ _ _ (by simp)]; rw [World.cell?_setCell_other _ _ _ _ (by simp)]; rw [World.cell?_setCell_other _ _ _ _ (by simp)]; rw [World.cell?_setCell_other _ _ _ _ (by simp)]; rw [World.cell?_setCell_other _ _ _ _ (by simp)]; exact c5)
  · rw [World.cell?_setCell_other _ _ _ _ (by simp)]; rw [World.cell?_setCell_other _ _ _ _ (by simp)]; exact World.cell?_setCell_same _ _ _ (show _ = some v6 from by rw [World.cell?_setCell_other _ _ _ _ (by simp)]; rw [World.cell?_setCell_other _ _ _ _ (by simp)]; rw [World.cell?_setCell_other _ _ _ _ (by simp)]; rw [World.cell?_setCell_other _ _ _ _ (by simp)]; rw [World.cell?_setCell_other _ _ _ _ (by simp)]; rw [World.cell?_setCell_other _ _ _ _ (by simp)]; exact c6)
  · rw [World.cell?_setCell_other _ _ _ _ (by simp)]; exact World.cell?_setCell_same _ _ _ (show _ = some v7 from by rw [World.cell?_setCell_other _ _ _ _ (by simp)]; rw [World.cell?_setCell_other _ _ _ _ (by simp)]; rw [World.cell?_setCell_other _ _ _ _ (by simp)]; rw [World.cell?_setCell_other _ _ _ _ (by simp)]; rw [World.cell?_setCell_other _ _ _ _ (by simp)]; rw [World.cell?_setCell_other _ _ _ _ (by simp)]; rw [World.cell?_setCell_other _ _ _ _ (by simp)]; exact c7)
  · exact World.cell?_setCell_same _ _ _ (show _ = some v8 from by rw [World.cell?_setCell_other _ _ _ _ (by simp)]; rw [World.cell?_setCell_other _ _ _ _ (by simp)]; rw [World.cell?_setCell_other _ _ _ _ (by simp)]; rw [World.cell?_setCell_other _ _ _ _ (by simp)]; rw [World.cell?_setCell_other _ _ _ _ (by simp)]; rw [World.cell?_setCell_other _ _ _ _ (by simp)]; rw [World.cell?_setCell_other _ _ _ _ (by simp)]; rw [World.cell?_setCell_other _ _ _ _ (by simp)]; exact c8)
theorem set9_free {w : World} {g : Nat} (h : Free9 w g) (r : Rg) (j : Nat) (hj : w.frozen? ⟨g, j, none⟩ = false) : (set9 w g r).frozen? ⟨g, j, none⟩ = false := by
  unfold set9
  simp only [World.frozen?_setCell]
  exact hj
theorem set9_below {B : Nat} {a w : World} (h : Below B a w) {g : Nat} (hg : B ≤ g) (r : Rg) : Below B a (set9 w g r) := by
  unfold set9
  exact ((((((((h.setCell hg _).setCell hg _).setCell hg _).setCell hg _).setCell hg _).setCell hg _).setCell hg _).setCell hg _).setCell hg _
theorem set9_size (w : World) (g : Nat) (r : Rg) : (set9 w g r).heap.size = w.heap.size := by unfold set9; simp only [size_set]

theorem ownsRow_set {w : World} {base : Nat} {e : TypeId} {size g cap n : Nat} {xs : List Value} (h : w.ownsRow base e size (.slice (some ⟨g, 0, none⟩) n cap) n xs) (i : Nat) (u : Value) (hi : i < xs.length) :
    (w.setCell ⟨g, i, none⟩ u).ownsRow base e size (.slice (some ⟨g, 0, none⟩) n cap) n (xs.set i u) := by
  obtain ⟨hl, ⟨hv, _⟩ | ⟨g', cap', cur, hv, hg, hh, hc, hm, hs, ht⟩⟩ := h
  · cases hv
  · obtain ⟨rfl, rfl⟩ : g = g' ∧ cap = cap' := by simpa using hv
    refine ⟨by simpa using hl, .inr ⟨g, cap, cur.setIfInBounds i u, rfl, hg, ?_, hc, hm, by simpa using hs, ?_⟩⟩
    · simp only [World.setCell, Array.getElem?_modify, hh]
      simp
    · rw [Array.toList_setIfInBounds, List.take_set, ht]
end Go.Proofs.YtbjniddikgcaeaaDoor
