import Derived.Test.YthifnojdencobaaDoorW7
namespace Go.Proofs.YthifnojdencobaaDoor
open Go.RowKit

/-- v is a slice that holds these labels (an empty one, nil too, may point anywhere) -/
def Labs (w : World) (v : Value) (ls : List (Int × Int)) : Prop :=
  (∃ a cap, v = .slice a 0 cap ∧ ls = []) ∨
  (∃ b off cap, v = .slice (some ⟨b, off, none⟩) ls.length cap ∧ b < w.heap.size ∧ ls.length ≤ maxLen ∧
    (∀ i (h : i < ls.length), w.cell? ⟨b, off + i * 2, none⟩ = some (.int .u8 ls[i].1)) ∧ (∀ i (h : i < ls.length), w.cell? ⟨b, off + i * 2 + 1, none⟩ = some (.int .u16 ls[i].2)))

theorem Labs.below {w w' : World} {v : Value} {ls : List (Int × Int)} (h : Labs w v ls) (hb : Below w.heap.size w w') : Labs w' v ls := by
  rcases h with h | ⟨b, off, cap, hv, hbl, hm, h0, h1⟩
  · exact .inl h
  · exact .inr ⟨b, off, cap, hv, Nat.lt_of_lt_of_le hbl hb.size, hm, fun i hi => (hb.cell (p := ⟨b, off + i * 2, none⟩) hbl).trans (h0 i hi), fun i hi => (hb.cell (p := ⟨b, off + i * 2 + 1, none⟩) hbl).trans (h1 i hi)⟩

set_option maxHeartbeats 400000 in
theorem join_empty (a : Option Addr) (cap : Nat) (w : World) : Calls Tryd.prog 18 #[.slice a 0 cap] w fun e w' => e = .returned (.agg #[.int .u8 0, .int .u16 0]) ∧ Below w.heap.size w w' := by
  go_enter Tryd.func18, Tryd.ntmps18
  go_wp2
  refine wp_loop_rounds 1 ?_
  rw [rounds_succ]
  go_wp2
  refine bodyPost_ret (v := .agg #[.int .u8 0, .int .u16 0]) (by simp [results, Tryd.results18, go_sem]) rfl ⟨rfl, ?_⟩
  repeat (first | exact Below.refl _ _ | apply Below.drew | refine Below.alloc ?_ (by simp) _ | refine Below.setCell ?_ (by simp) _)

set_option maxHeartbeats 400000 in
theorem meet_empty (a : Option Addr) (cap : Nat) (w : World) : Calls Tryd.prog 20 #[.slice a 0 cap] w fun e w' => e = .returned (.agg #[.int .u8 15, .int .u16 65535]) ∧ Below w.heap.size w w' := by
  go_enter Tryd.func20, Tryd.ntmps20
  go_wp2_with fail
  refine (top_any _).mono ?_
  rintro e w1 ⟨rfl, hb1⟩
  have P0 := (Pair.new w (.int .u8 0) (.int .u16 0) 25).below hb1 (by simp)
  obtain ⟨-, r0, r1, q0, q1⟩ := id P0
  have HP := Lib.hid P0
  clear P0
  have hz1 := hb1.size
  have hz2 : w.heap.size < w1.heap.size := by simp at hz1; omega
  clear hz1
  go_wp2
  refine wp_loop_rounds 1 ?_
  rw [rounds_succ]
  go_wp2
  have hF := ((HP.out.set0 (.int .u8 15)).set1 (.int .u16 65535)).alloc (.cells #[.int .u8 15, .int .u16 65535] 25)
  refine bodyPost_ret (v := .agg #[.int .u8 15, .int .u16 65535]) (by simp [results, Tryd.results20, go_sem, hF.c0, hF.c1]) rfl ⟨rfl, ?_⟩
  have h0 : Below w.heap.size w (w.alloc (.cells #[.int .u8 0, .int .u16 0] 25)) := (Below.refl _ _).alloc (Nat.le_refl _) _
  exact ((h0.trans (hb1.mono (by simp))).setCell (by simp) _ |>.setCell (by simp) _).alloc (by simp [World.setCell]; omega) _

set_option maxHeartbeats 400000 in
theorem refjoin_empty (a : Option Addr) (cap : Nat) (w : World) : Calls Tryd.prog 19 #[.slice a 0 cap] w fun e w' => e = .returned (.agg #[.int .u8 0, .int .u16 0]) ∧ Below w.heap.size w w' := by
  go_enter Tryd.func19, Tryd.ntmps19
  go_wp2
  refine wp_loop_rounds 1 ?_
  rw [rounds_succ]
  go_wp2
  refine bodyPost_ret (v := .agg #[.int .u8 0, .int .u16 0]) (by simp [results, Tryd.results19, go_sem]) rfl ⟨rfl, ?_⟩
  repeat (first | exact Below.refl _ _ | apply Below.drew | refine Below.alloc ?_ (by simp) _ | refine Below.setCell ?_ (by simp) _)

set_option maxHeartbeats 400000 in
theorem refmeet_empty (a : Option Addr) (cap : Nat) (w : World) : Calls Tryd.prog 21 #[.slice a 0 cap] w fun e w' => e = .returned (.agg #[.int .u8 15, .int .u16 65535]) ∧ Below w.heap.size w w' := by
  go_enter Tryd.func21, Tryd.ntmps21
  go_wp2
  refine wp_loop_rounds 1 ?_
  rw [rounds_succ]
  go_wp2
  refine bodyPost_ret (v := .agg #[.int .u8 15, .int .u16 65535]) (by simp [results, Tryd.results21, go_sem]) rfl ⟨rfl, ?_⟩
  repeat (first | exact Below.refl _ _ | apply Below.drew | refine Below.alloc ?_ (by simp) _ | refine Below.setCell ?_ (by simp) _)

theorem join_any (v : Value) (ls : List (Int × Int)) (w : World) (h : Labs w v ls) : Calls Tryd.prog 18 #[v] w fun e w' => e = .returned (.agg #[.int .u8 (joinC ls).1, .int .u16 (joinC ls).2]) ∧ Below w.heap.size w w' := by
  rcases h with ⟨a, cap, rfl, rfl⟩ | ⟨b, off, cap, rfl, hbl, hm, h0, h1⟩
  · exact join_empty a cap w
  · exact join_some b off cap ls w hbl hm h0 h1

theorem meet_any (v : Value) (ls : List (Int × Int)) (w : World) (h : Labs w v ls) : Calls Tryd.prog 20 #[v] w fun e w' => e = .returned (.agg #[.int .u8 (meetC ls).1, .int .u16 (meetC ls).2]) ∧ Below w.heap.size w w' := by
  rcases h with ⟨a, cap, rfl, rfl⟩ | ⟨b, off, cap, rfl, hbl, hm, h0, h1⟩
  · exact meet_empty a cap w
  · exact meet_some b off cap ls w hbl hm h0 h1

theorem refjoin_any (v : Value) (ls : List (Int × Int)) (w : World) (hran : InRange ls) (h : Labs w v ls) : Calls Tryd.prog 19 #[v] w fun e w' => e = .returned (.agg #[.int .u8 (refJoinC ls).1, .int .u16 (refJoinC ls).2]) ∧ Below w.heap.size w w' := by
  rcases h with ⟨a, cap, rfl, rfl⟩ | ⟨b, off, cap, rfl, hbl, hm, h0, h1⟩
  · exact refjoin_empty a cap w
  · exact refjoin_some b off cap ls w hbl hm hran h0 h1

theorem refmeet_any (v : Value) (ls : List (Int × Int)) (w : World) (hran : InRange ls) (h : Labs w v ls) : Calls Tryd.prog 21 #[v] w fun e w' => e = .returned (.agg #[.int .u8 (refMeetC ls).1, .int .u16 (refMeetC ls).2]) ∧ Below w.heap.size w w' := by
  rcases h with ⟨a, cap, rfl, rfl⟩ | ⟨b, off, cap, rfl, hbl, hm, h0, h1⟩
  · exact refmeet_empty a cap w
  · exact refmeet_some b off cap ls w hbl hm hran h0 h1
end Go.Proofs.YthifnojdencobaaDoor
