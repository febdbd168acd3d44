import Derived.Test.YtfackmiojbdjhaaDoorC2
/- A registered label as it lies in memory; the range of its numbers. -/
namespace Go.Proofs.YtfackmiojbdjhaaDoor
set_option linter.unusedSimpArgs false
set_option linter.unusedVariables false
open Go.RowKit

structure Rg where
  nm : ByteArray
  lv : Int
  cs : Int
  bl : Int
  nd : Int
  fr : Int
  pr : Int
  op : Int
  cl : Int
def Rg.cells (r : Rg) : List Value := [.string r.nm, .int .u8 r.lv, .int .u16 r.cs, .int .i64 r.bl, .int .i64 r.nd, .int .i64 r.fr, .int .i64 r.pr, .int .i64 r.op, .int .i64 r.cl]

def haveB (r : Rg) : Bool := decide (r.lv < 16) && decide (4 ≤ r.bl) && decide (r.bl ≤ 512) && decide (4 ≤ r.nd) && decide (r.nd ≤ 128) && decide (r.nd % 2 = 0) && decide (1 ≤ r.fr) && decide (r.fr ≤ 256) && decide (1 ≤ r.pr) && decide (r.pr ≤ 16) && decide (1 ≤ r.op) && decide (r.op ≤ 32)

set_option maxHeartbeats 400000 in
theorem valid_any (la ca : Int) (w : World) : Calls Tryd.prog 70 #[.agg #[.int .u8 la, .int .u16 ca]] w fun e w' => e = .returned (.bool (decide (la < 16))) ∧ Below w.heap.size w w' := by
  go_enter Tryd.func70, Tryd.ntmps70
  go_wp2
  go_ret
  exact ⟨ret_bool (by simp; omega), by repeat (first | exact Below.refl _ _ | apply Below.drew | refine Below.alloc ?_ (by simp) _)⟩

set_option maxHeartbeats 2000000 in
set_option maxRecDepth 100000 in
theorem inrange_any (nm : ByteArray) (lv cs bl nd fr pr op cl : Int) (w : World) : Calls Tryd.prog 56 #[.agg #[.string nm, .int .u8 lv, .int .u16 cs, .int .i64 bl, .int .i64 nd, .int .i64 fr, .int .i64 pr, .int .i64 op, .int .i64 cl]] w fun e w' => e = .returned (.bool (haveB ⟨nm, lv, cs, bl, nd, fr, pr, op, cl⟩)) ∧ Below w.heap.size w w' := by
  go_enter Tryd.func56, Tryd.ntmps56
  go_wp2_with fail
  refine (valid_any lv cs _).mono ?_
  rintro e w1 ⟨rfl, hb1⟩
  have hs := hb1.size
  simp at hs
  have hb : Below w.heap.size w w1 := ((Below.refl _ w).alloc (Nat.le_refl _) _).trans (hb1.mono (by simp))
  have c3 : w1.cell? ⟨w.heap.size, 3, none⟩ = some (.int .i64 bl) := (hb1.cell (p := ⟨w.heap.size, 3, none⟩) (by simp)).trans (by simp [World.cell?_alloc_new])
  have c4 : w1.cell? ⟨w.heap.size, 4, none⟩ = some (.int .i64 nd) := (hb1.cell (p := ⟨w.heap.size, 4, none⟩) (by simp)).trans (by simp [World.cell?_alloc_new])
  have c5 : w1.cell? ⟨w.heap.size, 5, none⟩ = some (.int .i64 fr) := (hb1.cell (p := ⟨w.heap.size, 5, none⟩) (by simp)).trans (by simp [World.cell?_alloc_new])
  have c6 : w1.cell? ⟨w.heap.size, 6, none⟩ = some (.int .i64 pr) := (hb1.cell (p := ⟨w.heap.size, 6, none⟩) (by simp)).trans (by simp [World.cell?_alloc_new])
  have c7 : w1.cell? ⟨w.heap.size, 7, none⟩ = some (.int .i64 op) := (hb1.cell (p := ⟨w.heap.size, 7, none⟩) (by simp)).trans (by simp [World.cell?_alloc_new])
  have HB := Lib.hid hb
  clear hb hb1
  by_cases h0 : lv < 16
  all_goals
    go_wp2
    all_goals
      go_ret
      exact ⟨ret_bool (by simp [haveB]; omega), HB.out⟩
end Go.Proofs.YtfackmiojbdjhaaDoor
