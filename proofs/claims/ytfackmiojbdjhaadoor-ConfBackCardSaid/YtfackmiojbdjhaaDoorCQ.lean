import Derived.Test.YtfackmiojbdjhaaDoorC10
import Derived.Test.YtfackmiojbdjhaaDoorC18
import Derived.Deep.RegionHeld
/- Small sizes of configurations: names, labels. -/
/- A variable of a label's nine cells that is stored as a whole; a cell of an owned row that is set. -/
/- Size.Regs. -/

namespace Go.Proofs.YtfackmiojbdjhaaDoor
set_option linter.unusedSimpArgs false
set_option linter.unusedVariables false
open Go.RowKit Go.Maps

theorem wpAnyH_mono {P : Program} {md : Region.Mode} {ops : Array Oper} {Q : Exit → Act → World → Prop} {S S' : World → Prop} (h : ∀ w, S' w → S w) :
    ∀ (fuel : Nat) (listed : Array Bool) (a : Act) (w : World), wpAnyH P md ops Q S' fuel listed a w → wpAnyH P md ops Q S fuel listed a w
  | 0, _, _, _, hh => hh
  | fuel + 1, listed, a, w, hh => ⟨hh.1, fun i hi => wpOp_mono (fun a' w' h' => ⟨h w' h'.1, wpAnyH_mono h fuel _ a' w' h'.2⟩) (hh.2 i hi)⟩

def nmL (i : Nat) : ByteArray := if i = 0 then ⟨#[108, 111, 119]⟩ else if i = 1 then ⟨#[114, 101, 100]⟩ else if i = 2 then ⟨#[98, 108, 117, 101]⟩ else if i = 3 then ⟨#[116, 111, 112]⟩ else ⟨#[104, 105, 103, 104]⟩
def lvL (i : Nat) : Int := if i = 0 then 0 else if i = 1 then 1 else if i = 2 then 1 else if i = 3 then 2 else 9
def csL (i : Nat) : Int := if i = 0 then 0 else if i = 1 then 1 else if i = 2 then 2 else if i = 3 then 3 else 7

theorem lawnames_any (w : World) : Calls Tryd.prog 23 #[] w fun e w' => ∃ A, e = .returned (.slice (some ⟨A, 0, none⟩) 5 5) ∧ w.heap.size ≤ A ∧ A < w'.heap.size ∧ (∀ i, i < 5 → w'.cell? ⟨A, i, none⟩ = some (.string (nmL i))) ∧ Below w.heap.size w w' := by
  go_enter Tryd.func23, Tryd.ntmps23
  go_wp2
  go_ret
  refine ⟨w.heap.size, rfl, Nat.le_refl _, by simp, fun i hi => ?_, (Below.refl _ _).alloc (Nat.le_refl _) _⟩
  match i, hi with
  | 0, _ | 1, _ | 2, _ | 3, _ | 4, _ => simp [World.cell?_alloc_new, nmL]
theorem lawlabels_any (w : World) : Calls Tryd.prog 24 #[] w fun e w' => ∃ A, e = .returned (.slice (some ⟨A, 0, none⟩) 5 5) ∧ w.heap.size ≤ A ∧ A < w'.heap.size ∧ (∀ i, i < 5 → w'.cell? ⟨A, i * 2, none⟩ = some (.int .u8 (lvL i))) ∧ (∀ i, i < 5 → w'.cell? ⟨A, i * 2 + 1, none⟩ = some (.int .u16 (csL i))) ∧ Below w.heap.size w w' := by
  go_enter Tryd.func24, Tryd.ntmps24
  go_wp2
  go_ret
  refine ⟨w.heap.size, rfl, Nat.le_refl _, by simp, fun i hi => ?_, fun i hi => ?_, (Below.refl _ _).alloc (Nat.le_refl _) _⟩
  all_goals
    match i, hi with
    | 0, _ | 1, _ | 2, _ | 3, _ | 4, _ => simp [World.cell?_alloc_new, lvL, csL]

/-- what a size says of one label -/
def sizeRg (many : Nat) (H : Nat → Nat → Int) (i : Nat) : Rg :=
  ⟨nmL i, lvL i, csL i, 8 + H i 0 % 60, 8 + 2 * (H i 1 % 12), 4 + H i 2 % 40, 1 + H i 3 % 6, 2 + H i 4 % 14, if many = 2 then 1 else if many < 4 ∧ 0 < i then (i : Int) else (many : Int) - 1⟩
def sizeR0 (many : Nat) (H : Nat → Nat → Int) : List Rg := (List.range many).map (sizeRg many H)
/-- .. and of all of them -/
def sizeRs (many : Nat) (H : Nat → Nat → Int) : List Rg := if many = 3 then (sizeR0 many H).set 0 { sizeRg many H 0 with cl := 1 } else sizeR0 many H
def sizeMk (many : Nat) (x : Int) : Int × Int := (x % (many : Int), 4 + x / 8 % 4)
def sizeMStep (many : Nat) (a : List (Int × Int) × Nat) (x : Int) : List (Int × Int) × Nat :=
  (if 8 < a.2 ∨ sizeMk many x ∈ a.1 then a.1 else a.1 ++ [sizeMk many x], a.2 + 1)
def sizeMs (many : Nat) (ts : List Int) : List (Int × Int) := (ts.foldl (sizeMStep many) ([], 0)).1
end Go.Proofs.YtfackmiojbdjhaaDoor

namespace Go.Proofs.YtfackmiojbdjhaaDoor
set_option linter.unusedSimpArgs false
set_option linter.unusedVariables false
open Go.RowKit Go.Maps

/-- block g has nine cells that may be written -/
structure Free9 (w : World) (g : Nat) : Prop where
  lt : g < w.heap.size
  c0 : ∃ v, w.cell? ⟨g, 0, none⟩ = some v
  c1 : ∃ v, w.cell? ⟨g, 1, none⟩ = some v
  c2 : ∃ v, w.cell? ⟨g, 2, none⟩ = some v
  c3 : ∃ v, w.cell? ⟨g, 3, none⟩ = some v
  c4 : ∃ v, w.cell? ⟨g, 4, none⟩ = some v
  c5 : ∃ v, w.cell? ⟨g, 5, none⟩ = some v
  c6 : ∃ v, w.cell? ⟨g, 6, none⟩ = some v
  c7 : ∃ v, w.cell? ⟨g, 7, none⟩ = some v
  c8 : ∃ v, w.cell? ⟨g, 8, none⟩ = some v
  f0 : w.frozen? ⟨g, 0, none⟩ = false
  f1 : w.frozen? ⟨g, 1, none⟩ = false
  f2 : w.frozen? ⟨g, 2, none⟩ = false
  f3 : w.frozen? ⟨g, 3, none⟩ = false
  f4 : w.frozen? ⟨g, 4, none⟩ = false
  f5 : w.frozen? ⟨g, 5, none⟩ = false
  f6 : w.frozen? ⟨g, 6, none⟩ = false
  f7 : w.frozen? ⟨g, 7, none⟩ = false
  f8 : w.frozen? ⟨g, 8, none⟩ = false
theorem Free9.below {w w' : World} {B g : Nat} (h : Free9 w g) (hb : Below B w w') (hg : g < B) : Free9 w' g :=
  ⟨Nat.lt_of_lt_of_le h.lt hb.size, (by obtain ⟨v, hv⟩ := h.c0; exact ⟨v, (hb.cell (p := ⟨g, 0, none⟩) hg).trans hv⟩), (by obtain ⟨v, hv⟩ := h.c1; exact ⟨v, (hb.cell (p := ⟨g, 1, none⟩) hg).trans hv⟩), (by obtain ⟨v, hv⟩ := h.c2; exact ⟨v, (hb.cell (p := ⟨g, 2, none⟩) hg).trans hv⟩), (by obtain ⟨v, hv⟩ := h.c3; exact ⟨v, (hb.cell (p := ⟨g, 3, none⟩) hg).trans hv⟩), (by obtain ⟨v, hv⟩ := h.c4; exact ⟨v, (hb.cell (p := ⟨g, 4, none⟩) hg).trans hv⟩), (by obtain ⟨v, hv⟩ := h.c5; exact ⟨v, (hb.cell (p := ⟨g, 5, none⟩) hg).trans hv⟩), (by obtain ⟨v, hv⟩ := h.c6; exact ⟨v, (hb.cell (p := ⟨g, 6, none⟩) hg).trans hv⟩), (by obtain ⟨v, hv⟩ := h.c7; exact ⟨v, (hb.cell (p := ⟨g, 7, none⟩) hg).trans hv⟩), (by obtain ⟨v, hv⟩ := h.c8; exact ⟨v, (hb.cell (p := ⟨g, 8, none⟩) hg).trans hv⟩), (hb.frozen (p := ⟨g, 0, none⟩) hg).trans h.f0, (hb.frozen (p := ⟨g, 1, none⟩) hg).trans h.f1, (hb.frozen (p := ⟨g, 2, none⟩) hg).trans h.f2, (hb.frozen (p := ⟨g, 3, none⟩) hg).trans h.f3, (hb.frozen (p := ⟨g, 4, none⟩) hg).trans h.f4, (hb.frozen (p := ⟨g, 5, none⟩) hg).trans h.f5, (hb.frozen (p := ⟨g, 6, none⟩) hg).trans h.f6, (hb.frozen (p := ⟨g, 7, none⟩) hg).trans h.f7, (hb.frozen (p := ⟨g, 8, none⟩) hg).trans h.f8⟩
theorem Free9.new (w : World) (a0 a1 a2 a3 a4 a5 a6 a7 a8 : Value) (t : TypeId) : Free9 (w.alloc (.cells #[a0, a1, a2, a3, a4, a5, a6, a7, a8] t)) w.heap.size := by
  refine ⟨by simp, ⟨a0, ?_⟩, ⟨a1, ?_⟩, ⟨a2, ?_⟩, ⟨a3, ?_⟩, ⟨a4, ?_⟩, ⟨a5, ?_⟩, ⟨a6, ?_⟩, ⟨a7, ?_⟩, ⟨a8, ?_⟩, ?_, ?_, ?_, ?_, ?_, ?_, ?_, ?_, ?_⟩
  all_goals first | (simp [World.cell?_alloc_new]; done) | (simp; done)
/-- nine cells, stored one behind the other -/
def set9 (w : World) (g : Nat) (r : Rg) : World := (((((((((w.setCell ⟨g, 0, none⟩ (.string r.nm)).setCell ⟨g, 1, none⟩ (.int .u8 r.lv)).setCell ⟨g, 2, none⟩ (.int .u16 r.cs)).setCell ⟨g, 3, none⟩ (.int .i64 r.bl)).setCell ⟨g, 4, none⟩ (.int .i64 r.nd)).setCell ⟨g, 5, none⟩ (.int .i64 r.fr)).setCell ⟨g, 6, none⟩ (.int .i64 r.pr)).setCell ⟨g, 7, none⟩ (.int .i64 r.op)).setCell ⟨g, 8, none⟩ (.int .i64 r.cl))
theorem set9_box {w : World} {g : Nat} (h : Free9 w g) (r : Rg) : Box9 (set9 w g r) g r := by
  obtain ⟨lt, ⟨v0, c0⟩, ⟨v1, c1⟩, ⟨v2, c2⟩, ⟨v3, c3⟩, ⟨v4, c4⟩, ⟨v5, c5⟩, ⟨v6, c6⟩, ⟨v7, c7⟩, ⟨v8, c8⟩, -, -, -, -, -, -, -, -, -⟩ := h
  unfold set9
  refine ⟨by simp only [size_set]; exact lt, ?_, ?_, ?_, ?_, ?_, ?_, ?_, ?_, ?_⟩
  · rw [World.cell?_setCell_other _ _ _ _ (by simp)]; rw [World.cell?_setCell_other _ _ _ _ (by simp)]; rw [World.cell?_setCell_other _ _ _ _ (by simp)]; rw [World.cell?_setCell_other _ _ _ _ (by simp)]; rw [World.cell?_setCell_other _ _ _ _ (by simp)]; rw [World.cell?_setCell_other _ _ _ _ (by simp)]; rw [World.cell?_setCell_other _ _ _ _ (by simp)]; rw [World.cell?_setCell_other _ _ _ _ (by simp)]; exact World.cell?_setCell_same _ _ _ (show _ = some v0 from by exact c0)
  · rw [World.cell?_setCell_other _ _ _ _ (by simp)]; rw [World.cell?_setCell_other _ _ _ _ (by simp)]; rw [World.cell?_setCell_other _ _ _ _ (by simp)]; rw [World.cell?_setCell_other _ _ _ _ (by simp)]; rw [World.cell?_setCell_other _ _ _ _ (by simp)]; rw [World.cell?_setCell_other _ _ _ _ (by simp)]; rw [World.cell?_setCell_other _ _ _ _ (by simp)]; exact World.cell?_setCell_same _ _ _ (show _ = some v1 from by rw [World.cell?_setCell_other _ _ _ _ (by simp)]; exact c1)
  · rw [World.cell?_setCell_other _ _ _ _ (by simp)]; rw [World.cell?_setCell_other _ _ _ _ (by simp)]; rw [World.cell?_setCell_other _ _ _ _ (by simp)]; rw [World.cell?_setCell_other _ _ _ _ (by simp)]; rw [World.cell?_setCell_other _ _ _ _ (by simp)]; rw [World.cell?_setCell_other _ _ _ _ (by simp)]; exact World.cell?_setCell_same _ _ _ (show _ = some v2 from by rw [World.cell?_setCell_other _ _ _ _ (by simp)]; rw [World.cell?_setCell_other _ _ _ _ (by simp)]; exact c2)
  · rw [World.cell?_setCell_other _ _ _ _ (by simp)]; rw [World.cell?_setCell_other _ _ _ _ (by simp)]; rw [World.cell?_setCell_other _ _ _ _ (by simp)]; rw [World.cell?_setCell_other _ _ _ _ (by simp)]; rw [World.cell?_setCell_other _ _ _ _ (by simp)]; exact World.cell?_setCell_same _ _ _ (show _ = some v3 from by rw [World.cell?_setCell_other _ _ _ _ (by simp)]; rw [World.cell?_setCell_other _ _ _ _ (by simp)]; rw [World.cell?_setCell_other _ _ _ _ (by simp)]; exact c3)
  · rw [World.cell?_setCell_other _ _ _ _ (by simp)]; rw [World.cell?_setCell_other _ _ _ _ (by simp)]; rw [World.cell?_setCell_other _ _ _ _ (by simp)]; rw [World.cell?_setCell_other _ _ _ _ (by simp)]; exact World.cell?_setCell_same _ _ _ (show _ = some v4 from by rw [World.cell?_setCell_other _ _ _ _ (by simp)]; rw [World.cell?_setCell_other _ _ _ _ (by simp)]; rw [World.cell?_setCell_other _ _ _ _ (by simp)]; rw [World.cell?_setCell_other _ _ _ _ (by simp)]; exact c4)
  · rw [World.cell?_setCell_other _ _ _ _ (by simp)]; rw [World.cell?_setCell_other _ _ _ _ (by simp)]; rw [World.cell?_setCell_other _ _ _ _ (by simp)]; exact World.cell?_setCell_same _ _ _ (show _ = some v5 from by rw [World.cell?_setCell_other _ _ _ _ (by simp)]; rw [World.cell?_setCell_other _ _ _ _ (by simp)]; rw [World.cell?_setCell_other _ _ _ _ (by simp)]; rw [World.cell?_setCell_other _ _ _ _ (by simp)]; rw [World.cell?_setCell_other _ _ _ _ (by simp)]; exact c5)
  · rw [World.cell?_setCell_other _ _ _ _ (by simp)]; rw [World.cell?_setCell_other _ _ _ _ (by simp)]; exact World.cell?_setCell_same _ _ _ (show _ = some v6 from by rw [World.cell?_setCell_other _ _ _ _ (by simp)]; rw [World.cell?_setCell_other _ _ _ _ (by simp)]; rw [World.cell?_setCell_other _ _ _ _ (by simp)]; rw [World.cell?_setCell_other _ _ _ _ (by simp)]; rw [World.cell?_setCell_other _ _ _ _ (by simp)]; rw [World.cell?_setCell_other _ _ _ _ (by simp)]; exact c6)
  · rw [World.cell?_setCell_other _ _ _ _ (by simp)]; exact World.cell?_setCell_same _ _ _ (show _ = some v7 from by rw [World.cell?_setCell_other _ _ _ _ (by simp)]; rw [World.cell?_setCell_other _ _ _ _ (by simp)]; rw [World.cell?_setCell_other _ _ _ _ (by simp)]; rw [World.cell?_setCell_other _ _ _ _ (by simp)]; rw [World.cell?_setCell_other _ _ _ _ (by simp)]; rw [World.cell?_setCell_other _ _ _ _ (by simp)]; rw [World.cell?_setCell_other _ _ _ _ (by simp)]; exact c7)
  · exact World.cell?_setCell_same _ _ _ (show _ = some v8 from by rw [World.cell?_setCell_other _ _ _ _ (by simp)]; rw [World.cell?_setCell_other _ _ _ _ (by simp)]; rw [World.cell?_setCell_other _ _ _ _ (by simp)]; rw [World.cell?_setCell_other _ _ _ _ (by simp)]; rw [World.cell?_setCell_other _ _ _ _ (by simp)]; rw [World.cell?_setCell_other _ _ _ _ (by simp)]; rw [World.cell?_setCell_other _ _ _ _ (by simp)]; rw [World.cell?_setCell_other _ _ _ _ (by simp)]; exact c8)
theorem set9_free {w : World} {g : Nat} (h : Free9 w g) (r : Rg) (j : Nat) (hj : w.frozen? ⟨g, j, none⟩ = false) : (set9 w g r).frozen? ⟨g, j, none⟩ = false := by
  unfold set9
  simp only [World.frozen?_setCell]
  exact hj
theorem set9_below {B : Nat} {a w : World} (h : Below B a w) {g : Nat} (hg : B ≤ g) (r : Rg) : Below B a (set9 w g r) := by
  unfold set9
  exact ((((((((h.setCell hg _).setCell hg _).setCell hg _).setCell hg _).setCell hg _).setCell hg _).setCell hg _).setCell hg _).setCell hg _
theorem set9_size (w : World) (g : Nat) (r : Rg) : (set9 w g r).heap.size = w.heap.size := by unfold set9; simp only [size_set]

theorem ownsRow_set {w : World} {base : Nat} {e : TypeId} {size g cap n : Nat} {xs : List Value} (h : w.ownsRow base e size (.slice (some ⟨g, 0, none⟩) n cap) n xs) (i : Nat) (u : Value) (hi : i < xs.length) :
    (w.setCell ⟨g, i, none⟩ u).ownsRow base e size (.slice (some ⟨g, 0, none⟩) n cap) n (xs.set i u) := by
  obtain ⟨hl, ⟨hv, _⟩ | ⟨g', cap', cur, hv, hg, hh, hc, hm, hs, ht⟩⟩ := h
  · cases hv
  · obtain ⟨rfl, rfl⟩ : g = g' ∧ cap = cap' := by simpa using hv
    refine ⟨by simpa using hl, .inr ⟨g, cap, cur.setIfInBounds i u, rfl, hg, ?_, hc, hm, by simpa using hs, ?_⟩⟩
    · simp only [World.setCell, Array.getElem?_modify, hh]
      simp
    · rw [Array.toList_setIfInBounds, List.take_set, ht]
end Go.Proofs.YtfackmiojbdjhaaDoor

namespace Go.Proofs.YtfackmiojbdjhaaDoor
set_option linter.unusedSimpArgs false
set_option linter.unusedVariables false
open Go.RowKit Go.Maps

/-- a size, as a value -/
def sizeVal (m : Int) (H : Nat → Nat → Int) (tv : Value) : Value := .agg #[.int .u8 m, .int .u8 (H 0 0), .int .u8 (H 0 1), .int .u8 (H 0 2), .int .u8 (H 0 3), .int .u8 (H 0 4), .int .u8 (H 1 0), .int .u8 (H 1 1), .int .u8 (H 1 2), .int .u8 (H 1 3), .int .u8 (H 1 4), .int .u8 (H 2 0), .int .u8 (H 2 1), .int .u8 (H 2 2), .int .u8 (H 2 3), .int .u8 (H 2 4), .int .u8 (H 3 0), .int .u8 (H 3 1), .int .u8 (H 3 2), .int .u8 (H 3 3), .int .u8 (H 3 4), .int .u8 (H 4 0), .int .u8 (H 4 1), .int .u8 (H 4 2), .int .u8 (H 4 3), .int .u8 (H 4 4), tv]
/-- a slice of small numbers -/
def U8s (w : World) (v : Value) (ts : List Int) : Prop :=
  (∃ a cap, v = .slice a 0 cap ∧ ts = []) ∨ ∃ b off cap, v = .slice (some ⟨b, off, none⟩) ts.length cap ∧ b < w.heap.size ∧ ts.length ≤ maxLen ∧ ∀ i (h : i < ts.length), w.cell? ⟨b, off + i, none⟩ = some (.int .u8 ts[i])
def Hok (H : Nat → Nat → Int) : Prop := ∀ i j, i < 5 → j < 5 → 0 ≤ H i j ∧ H i j < 256
structure BoxS (w : World) (b : Nat) (m : Int) (H : Nat → Nat → Int) (tv : Value) : Prop where
  lt : b < w.heap.size
  c0 : w.cell? ⟨b, 0, none⟩ = some (.int .u8 m)
  ch : ∀ i j, i < 5 → j < 5 → w.cell? ⟨b, 1 + i * 5 + j, none⟩ = some (.int .u8 (H i j))
  c26 : w.cell? ⟨b, 26, none⟩ = some tv
theorem BoxS.below {w w' : World} {B b : Nat} {m : Int} {H : Nat → Nat → Int} {tv : Value} (h : BoxS w b m H tv) (hb : Below B w w') (hB : b < B) : BoxS w' b m H tv :=
  ⟨Nat.lt_of_lt_of_le h.lt hb.size, (hb.cell (p := ⟨b, 0, none⟩) hB).trans h.c0, fun i j hi hj => (hb.cell (p := ⟨b, 1 + i * 5 + j, none⟩) hB).trans (h.ch i j hi hj), (hb.cell (p := ⟨b, 26, none⟩) hB).trans h.c26⟩
theorem BoxS.new (w : World) (m : Int) (H : Nat → Nat → Int) (tv : Value) (t : TypeId) : BoxS (w.alloc (.cells #[.int .u8 m, .int .u8 (H 0 0), .int .u8 (H 0 1), .int .u8 (H 0 2), .int .u8 (H 0 3), .int .u8 (H 0 4), .int .u8 (H 1 0), .int .u8 (H 1 1), .int .u8 (H 1 2), .int .u8 (H 1 3), .int .u8 (H 1 4), .int .u8 (H 2 0), .int .u8 (H 2 1), .int .u8 (H 2 2), .int .u8 (H 2 3), .int .u8 (H 2 4), .int .u8 (H 3 0), .int .u8 (H 3 1), .int .u8 (H 3 2), .int .u8 (H 3 3), .int .u8 (H 3 4), .int .u8 (H 4 0), .int .u8 (H 4 1), .int .u8 (H 4 2), .int .u8 (H 4 3), .int .u8 (H 4 4), tv] t)) w.heap.size m H tv := by
  refine ⟨by simp, by simp [World.cell?_alloc_new], fun i j hi hj => ?_, by simp [World.cell?_alloc_new]⟩
  match i, j, hi, hj with
  | 0, 0, _, _
  | 0, 1, _, _
  | 0, 2, _, _
  | 0, 3, _, _
  | 0, 4, _, _
  | 1, 0, _, _
  | 1, 1, _, _
  | 1, 2, _, _
  | 1, 3, _, _
  | 1, 4, _, _
  | 2, 0, _, _
  | 2, 1, _, _
  | 2, 2, _, _
  | 2, 3, _, _
  | 2, 4, _, _
  | 3, 0, _, _
  | 3, 1, _, _
  | 3, 2, _, _
  | 3, 3, _, _
  | 3, 4, _, _
  | 4, 0, _, _
  | 4, 1, _, _
  | 4, 2, _, _
  | 4, 3, _, _
  | 4, 4, _, _ =>
    simp [World.cell?_alloc_new]
end Go.Proofs.YtfackmiojbdjhaaDoor
