import Derived.Test.YtfkiinbmbbhbkaaDoorLab
import Derived.Test.YtfkiinbmbbhbkaaDoorMath
namespace Go.Proofs.YtfkiinbmbbhbkaaDoor
set_option linter.unusedSimpArgs false
set_option linter.unusedVariables false
open Go.RowKit

set_option maxHeartbeats 400000 in
theorem leq_any (la ca lb cb : Int) (w : World) :
    Calls Tryd.prog 57 #[.agg #[.int .u8 la, .int .u16 ca], .agg #[.int .u8 lb, .int .u16 cb]] w fun e w' => e = .returned (.bool (leqB la ca lb cb)) ∧ Below w.heap.size w w' := by
  by_cases h : la ≤ lb
  · go_enter Tryd.func57, Tryd.ntmps57
    go_wp2
    go_ret
    exact ⟨ret_bool (by simp [leqB, h]), by repeat (first | exact Below.refl _ _ | apply Below.drew | refine Below.alloc ?_ (by simp) _)⟩
  · have h' : lb < la := by omega
    have hd : decide (la ≤ lb) = false := by simp; omega
    go_enter Tryd.func57, Tryd.ntmps57
    go_wp2
    go_ret
    exact ⟨ret_bool (by simp [leqB]; omega), by repeat (first | exact Below.refl _ _ | apply Below.drew | refine Below.alloc ?_ (by simp) _)⟩

set_option maxHeartbeats 400000 in
theorem has_any (la ca i : Int) (w : World) (h0 : 0 ≤ ca) (h1 : ca < 65536) :
    Calls Tryd.prog 59 #[.agg #[.int .u8 la, .int .u16 ca], .int .i64 i] w fun e w' => e = .returned (.bool (hasB ca i)) ∧ Below w.heap.size w w' := by
  by_cases h : 0 ≤ i
  · by_cases h2 : i < 16
    · go_enter Tryd.func59, Tryd.ntmps59
      go_wp2
      go_ret
      exact ⟨ret_bool (by simp [hasB, h, h2]), by repeat (first | exact Below.refl _ _ | apply Below.drew | refine Below.alloc ?_ (by simp) _)⟩
    · have hd : decide (i < 16) = false := by simp; omega
      go_enter Tryd.func59, Tryd.ntmps59
      go_wp2
      go_ret
      exact ⟨ret_bool (by simp [hasB]; omega), by repeat (first | exact Below.refl _ _ | apply Below.drew | refine Below.alloc ?_ (by simp) _)⟩
  · have hd : decide (0 ≤ i) = false := by simp; omega
    go_enter Tryd.func59, Tryd.ntmps59
    go_wp2
    go_ret
    exact ⟨ret_bool (by simp [hasB]; omega), by repeat (first | exact Below.refl _ _ | apply Below.drew | refine Below.alloc ?_ (by simp) _)⟩

end Go.Proofs.YtfkiinbmbbhbkaaDoor
