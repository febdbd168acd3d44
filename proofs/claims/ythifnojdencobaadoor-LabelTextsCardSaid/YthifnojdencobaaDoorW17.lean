import Derived.Test.YthifnojdencobaaDoorW13
import Derived.Test.YthifnojdencobaaDoorW15
namespace Go.Proofs.YthifnojdencobaaDoor
open Go.RowKit

theorem Ints.form {w : World} {v : Value} {zs : List Int} (h : Ints w v zs) : ∃ a cap, v = .slice a zs.length cap := by
  rcases h with ⟨a, cap, rfl, rfl⟩ | ⟨b, off, cap, rfl, _⟩
  · exact ⟨a, cap, rfl⟩
  · exact ⟨_, cap, rfl⟩
theorem Ints.cells {w : World} {a : Option Addr} {n cap : Nat} {zs : List Int} (h : Ints w (.slice a n cap) zs) : n = zs.length ∧ zs.length ≤ maxLen ∧ ∀ i (hi : i < zs.length), ∃ b off, a = some ⟨b, off, none⟩ ∧ w.cell? ⟨b, off + i, none⟩ = some (.int .i64 zs[i]) := by
  rcases h with ⟨a', cap', h, rfl⟩ | ⟨b, off, cap', h, _, hm, hc⟩
  · injection h with h1 h2 h3
    exact ⟨by simpa using h2, by simp, fun i hi => by simp at hi⟩
  · injection h with h1 h2 h3
    exact ⟨h2, hm, fun i hi => ⟨b, off, h1, hc i hi⟩⟩

set_option maxHeartbeats 400000 in
theorem valid_any (la ca : Int) (w : World) : Calls Tryd.prog 11 #[.agg #[.int .u8 la, .int .u16 ca]] w fun e w' => e = .returned (.bool (decide (la < 16))) ∧ Below w.heap.size w w' := by
  go_enter Tryd.func11, Tryd.ntmps11
  go_wp2
  go_ret
  refine ⟨ret_bool (by rw [decide_eq_decide]; omega), ?_⟩
  repeat (first | exact Below.refl _ _ | apply Below.drew | refine Below.alloc ?_ (by simp) _)

set_option maxHeartbeats 1000000 in
theorem same_some (b1 o1 c1 b2 o2 c2 : Nat) (zs : List Int) (w : World) (hm : zs.length ≤ maxLen)
    (h1 : ∀ i (h : i < zs.length), w.cell? ⟨b1, o1 + i, none⟩ = some (.int .i64 zs[i])) (h2 : ∀ i (h : i < zs.length), w.cell? ⟨b2, o2 + i, none⟩ = some (.int .i64 zs[i])) :
    Calls Tryd.prog 12 #[.slice (some ⟨b1, o1, none⟩) zs.length c1, .slice (some ⟨b2, o2, none⟩) zs.length c2] w fun e w' => e = .returned (.bool true) ∧ Below w.heap.size w w' := by
  unfold maxLen at hm
  have H1 := Lib.hid h1
  have H2 := Lib.hid h2
  clear h1 h2
  go_enter Tryd.func12, Tryd.ntmps12
  go_wp2
  go_loopw [5] (fun i wr => ∃ k n : Nat, k ≤ zs.length ∧ i = .int .i64 k ∧ wr = w.drewN n) (fun i _ => zs.length - (intOf i).toNat)
  case atStart => exact ⟨0, 0, by omega, rfl, rfl⟩
  case round =>
    obtain ⟨k, n, hk, rfl, rfl⟩ := hrel
    by_cases hlt : k < zs.length
    · have e1 := H1.out k hlt
      have e2 := H2.out k hlt
      generalize zs[k] = z at *
      have hlt' : (k : Int) < (zs.length : Int) := by omega
      have hk0 : (0 : Int) ≤ (k : Int) := by omega
      go_wp2_with fail
      go_quiet (fail)
      go_wp2
      go_roundw
      case rel => exact ⟨k + 1, _, by omega, by go_num, rfl⟩
      case measure => simp [intOf]; omega
    · obtain rfl : k = zs.length := by omega
      go_wp2
      go_ret
      exact ⟨rfl, below_drewN' (Below.refl _ _) _⟩
set_option maxHeartbeats 400000 in
theorem same_empty (a1 a2 : Option Addr) (c1 c2 : Nat) (w : World) : Calls Tryd.prog 12 #[.slice a1 0 c1, .slice a2 0 c2] w fun e w' => e = .returned (.bool true) ∧ Below w.heap.size w w' := by
  go_enter Tryd.func12, Tryd.ntmps12
  go_wp2
  refine wp_loop_rounds 1 ?_
  rw [rounds_succ]
  go_wp2
  go_ret
  exact ⟨rfl, Below.refl _ _⟩
theorem same_any (v1 v2 : Value) (zs : List Int) (w : World) (h1 : Ints w v1 zs) (h2 : Ints w v2 zs) : Calls Tryd.prog 12 #[v1, v2] w fun e w' => e = .returned (.bool true) ∧ Below w.heap.size w w' := by
  obtain ⟨a1, c1, rfl⟩ := h1.form
  obtain ⟨a2, c2, rfl⟩ := h2.form
  rcases Nat.eq_zero_or_pos zs.length with h0 | h0
  · rw [h0]; exact same_empty a1 a2 c1 c2 w
  · obtain ⟨_, hm, k1⟩ := h1.cells
    obtain ⟨_, _, k2⟩ := h2.cells
    obtain ⟨b1, o1, rfl, _⟩ := k1 0 h0
    obtain ⟨b2, o2, rfl, _⟩ := k2 0 h0
    refine same_some b1 o1 c1 b2 o2 c2 zs w hm (fun i hi => ?_) (fun i hi => ?_)
    · obtain ⟨b, o, he, hc⟩ := k1 i hi
      simp at he
      obtain ⟨rfl, rfl⟩ := he
      exact hc
    · obtain ⟨b, o, he, hc⟩ := k2 i hi
      simp at he
      obtain ⟨rfl, rfl⟩ := he
      exact hc
/-- Make, in the document's answer's words -/
theorem make_ref (level : Int) (v : Value) (zs : List Int) (w : World) (h : Ints w v zs) :
    Calls Tryd.prog 9 #[.int .i64 level, v] w fun e w' => e = .returned (.tuple #[.agg #[.int .u8 (ofLv level zs), .int .u16 (ofCs level zs)], .int .i64 (if ofOk level zs then 0 else 27)]) ∧ Below w.heap.size w w' := by
  obtain ⟨h1, h2, h3⟩ := make_of level zs
  rw [← h1, ← h2, ← h3]
  exact make_any level v zs w h
end Go.Proofs.YthifnojdencobaaDoor
