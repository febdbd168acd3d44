import Derived.Test.YtbnpgkclnebnmaaGreatGA
/- Files: ways. -/
namespace Go.Proofs.YtbnpgkclnebnmaaGreat
set_option linter.unusedSimpArgs false
set_option linter.unusedVariables false
open Go.RowKit Go.Maps

/-- a way: three steps -/
def wyc (a b c : Int) : List Value := [.int .i64 a, .int .i64 b, .int .i64 c]
theorem wyc_one (a b c : Int) : ∀ v ∈ wyc a b c, v.oneCell' = true := by
  intro v hv
  simp only [wyc, List.mem_cons, List.not_mem_nil, or_false] at hv
  rcases hv with rfl | rfl | rfl <;> rfl
theorem Tryz.zeroWy : (Tryz.prog.info? 181).map (fun i => i.zero) = some (some (.agg (wyc 0 0 0).toArray)) := by kernel_rfl
theorem Tryz.isizeWy : (Tryz.prog.info? 181).map (·.size) = some 3 := by kernel_rfl
theorem sizeWy (a b c : Int) : (Tryz.prog.info? 181).map (·.size) = some (wyc a b c).length := Tryz.isizeWy
theorem Tryz.descWy : ∃ d, Tryz.prog.underlying 181 = some d ∧ d.isRow = true := by
  have h : (Tryz.prog.underlying 181).map (·.isRow) = some true := by kernel_rfl
  obtain ⟨d, hu, hd⟩ := Option.map_eq_some_iff.1 h
  exact ⟨d, hu, hd⟩
theorem Tryz.buildWy0 (w : World) : (Instr.build 181 #[]).run Tryz.prog w = .ok (.agg (wyc 0 0 0).toArray) w := by kernel_rfl
theorem Tryz.buildWy1 (a : Int) (w : World) : (Instr.build 181 #[(0, .int .i64 a)]).run Tryz.prog w = .ok (.agg (wyc a 0 0).toArray) w := by kernel_rfl
theorem Tryz.buildWy2 (a b : Int) (w : World) : (Instr.build 181 #[(0, .int .i64 a), (1, .int .i64 b)]).run Tryz.prog w = .ok (.agg (wyc a b 0).toArray) w := by kernel_rfl
theorem Tryz.buildWy3 (a b c : Int) (w : World) : (Instr.build 181 #[(0, .int .i64 a), (1, .int .i64 b), (2, .int .i64 c)]).run Tryz.prog w = .ok (.agg (wyc a b c).toArray) w := by kernel_rfl
set_option maxHeartbeats 4000000 in
theorem wayto_out (x : Int) (hx : x < 0 ∨ 256 ≤ x) (w : World) : Calls Tryz.prog 83 #[.int .i64 x] w fun e w' => e = .returned (.agg (wyc 0 0 0).toArray) ∧ Below w.heap.size w w' := by
  by_cases h0 : x < 0
  · clear hx
    go_enter Tryz.func83, Tryz.ntmps83
    go_wp2
    exact bodyPost_ret (v := .agg (wyc 0 0 0).toArray) (by simp [results, Tryz.results83, go_sem, wyc]) rfl ⟨rfl, (Below.refl _ _).alloc (Nat.le_refl _) _⟩
  · have h1 : 256 ≤ x := by omega
    clear hx
    go_enter Tryz.func83, Tryz.ntmps83
    go_wp2
    exact bodyPost_ret (v := .agg (wyc 0 0 0).toArray) (by simp [results, Tryz.results83, go_sem, wyc]) rfl ⟨rfl, (Below.refl _ _).alloc (Nat.le_refl _) _⟩
set_option maxHeartbeats 4000000 in
theorem wayto_dir (x : Int) (h0 : 0 ≤ x) (h1 : x < 6) (w : World) : Calls Tryz.prog 83 #[.int .i64 x] w fun e w' => e = .returned (.agg (wyc (x + 1) 0 0).toArray) ∧ Below w.heap.size w w' := by
  have h2 : ¬ 256 ≤ x := by omega
  go_enter Tryz.func83, Tryz.ntmps83
  go_wp2
  exact bodyPost_ret (v := .agg (wyc (x + 1) 0 0).toArray) (by simp [results, Tryz.results83, go_sem, wyc]) rfl ⟨rfl, (Below.refl _ _).alloc (Nat.le_refl _) _⟩
set_option maxHeartbeats 4000000 in
theorem wayto_sin (x : Int) (h0 : 6 ≤ x) (h1 : x < 38) (w : World) : Calls Tryz.prog 83 #[.int .i64 x] w fun e w' => e = .returned (.agg (wyc 7 (x - 6 + 1) 0).toArray) ∧ Below w.heap.size w w' := by
  have h2 : ¬ 256 ≤ x := by omega
  have h3 : 0 ≤ x := by omega
  have h4 : ¬ x < 6 := by omega
  have h5 : x - 6 < 32 := by omega
  go_enter Tryz.func83, Tryz.ntmps83
  go_wp2
  exact bodyPost_ret (v := .agg (wyc 7 (x - 6 + 1) 0).toArray) (by simp [results, Tryz.results83, go_sem, wyc]) rfl ⟨rfl, (Below.refl _ _).alloc (Nat.le_refl _) _⟩
set_option maxHeartbeats 4000000 in
theorem wayto_dbl (x : Int) (h0 : 38 ≤ x) (h1 : x < 256) (w : World) : Calls Tryz.prog 83 #[.int .i64 x] w fun e w' => e = .returned (.agg (wyc 8 ((x - 6 - 32) / 32 + 1) ((x - 6) % 32 + 1)).toArray) ∧ Below w.heap.size w w' := by
  have h2 : ¬ 256 ≤ x := by omega
  have h3 : 0 ≤ x := by omega
  have h4 : ¬ x < 6 := by omega
  have h5 : ¬ x - 6 < 32 := by omega
  go_enter Tryz.func83, Tryz.ntmps83
  go_wp2
  exact bodyPost_ret (v := .agg (wyc 8 ((x - 6 - 32) / 32 + 1) ((x - 6) % 32 + 1)).toArray) (by simp [results, Tryz.results83, go_sem, wyc]) rfl ⟨rfl, (Below.refl _ _).alloc (Nat.le_refl _) _⟩
set_option maxHeartbeats 8000000 in
theorem steps0 (w : World) : Calls Tryz.prog 118 #[.agg (wyc 0 0 0).toArray] w fun e w' => e = .returned (.int .i64 0) ∧ Below w.heap.size w w' := by
  go_enter Tryz.func118, Tryz.ntmps118
  go_upto_region 1 with (first | (refine wpList_box_list (w := w) rfl 181 _ rfl (wyc 0 0 0) rfl ?_; intro w1 F1 hb1 hz1))
  have HB1 := Lib.hid hb1
  have e0 := F1.out.c 0 _ rfl
  have e1 := F1.out.c 1 _ rfl
  have e2 := F1.out.c 2 _ rfl
  clear hb1 hz1 F1
  go_wp2_with fail
  go_loop [3] (fun x => ∃ k : Nat, k ≤ 0 ∧ x = .int .i64 k) (fun x => 0 - (Go.RowKit.intOf x).toNat)
  case atStart => exact ⟨0, Nat.zero_le _, rfl⟩
  case round =>
    obtain ⟨k, hk, rfl⟩ := hrel
    have hc : k = 0 := by omega
    rcases hc with rfl
    · go_wp2_with fail
      go_ret
      exact ⟨rfl, HB1.out⟩
set_option maxHeartbeats 8000000 in
theorem steps1 (a : Int) (ha : 0 < a) (w : World) : Calls Tryz.prog 118 #[.agg (wyc a 0 0).toArray] w fun e w' => e = .returned (.int .i64 1) ∧ Below w.heap.size w w' := by
  go_enter Tryz.func118, Tryz.ntmps118
  go_upto_region 1 with (first | (refine wpList_box_list (w := w) rfl 181 _ rfl (wyc a 0 0) rfl ?_; intro w1 F1 hb1 hz1))
  have HB1 := Lib.hid hb1
  have e0 := F1.out.c 0 _ rfl
  have e1 := F1.out.c 1 _ rfl
  have e2 := F1.out.c 2 _ rfl
  clear hb1 hz1 F1
  go_wp2_with fail
  go_loop [3] (fun x => ∃ k : Nat, k ≤ 1 ∧ x = .int .i64 k) (fun x => 1 - (Go.RowKit.intOf x).toNat)
  case atStart => exact ⟨0, Nat.zero_le _, rfl⟩
  case round =>
    obtain ⟨k, hk, rfl⟩ := hrel
    have hc : k = 0 ∨ k = 1 := by omega
    rcases hc with rfl | rfl
    · go_wp2_with fail
      go_round
      case rel => exact ⟨1, by decide, by go_num⟩
      case measure => simp [Go.RowKit.intOf]
    · go_wp2_with fail
      go_ret
      exact ⟨rfl, HB1.out⟩
set_option maxHeartbeats 8000000 in
theorem steps2 (a b : Int) (ha : 0 < a) (hb : 0 < b) (w : World) : Calls Tryz.prog 118 #[.agg (wyc a b 0).toArray] w fun e w' => e = .returned (.int .i64 2) ∧ Below w.heap.size w w' := by
  go_enter Tryz.func118, Tryz.ntmps118
  go_upto_region 1 with (first | (refine wpList_box_list (w := w) rfl 181 _ rfl (wyc a b 0) rfl ?_; intro w1 F1 hb1 hz1))
  have HB1 := Lib.hid hb1
  have e0 := F1.out.c 0 _ rfl
  have e1 := F1.out.c 1 _ rfl
  have e2 := F1.out.c 2 _ rfl
  clear hb1 hz1 F1
  go_wp2_with fail
  go_loop [3] (fun x => ∃ k : Nat, k ≤ 2 ∧ x = .int .i64 k) (fun x => 2 - (Go.RowKit.intOf x).toNat)
  case atStart => exact ⟨0, Nat.zero_le _, rfl⟩
  case round =>
    obtain ⟨k, hk, rfl⟩ := hrel
    have hc : k = 0 ∨ k = 1 ∨ k = 2 := by omega
    rcases hc with rfl | rfl | rfl
    · go_wp2_with fail
      go_round
      case rel => exact ⟨1, by decide, by go_num⟩
      case measure => simp [Go.RowKit.intOf]
    · go_wp2_with fail
      go_round
      case rel => exact ⟨2, by decide, by go_num⟩
      case measure => simp [Go.RowKit.intOf]
    · go_wp2_with fail
      go_ret
      exact ⟨rfl, HB1.out⟩
set_option maxHeartbeats 8000000 in
theorem steps3 (a b c : Int) (ha : 0 < a) (hb : 0 < b) (hc : 0 < c) (w : World) : Calls Tryz.prog 118 #[.agg (wyc a b c).toArray] w fun e w' => e = .returned (.int .i64 3) ∧ Below w.heap.size w w' := by
  go_enter Tryz.func118, Tryz.ntmps118
  go_upto_region 1 with (first | (refine wpList_box_list (w := w) rfl 181 _ rfl (wyc a b c) rfl ?_; intro w1 F1 hb1 hz1))
  have HB1 := Lib.hid hb1
  have e0 := F1.out.c 0 _ rfl
  have e1 := F1.out.c 1 _ rfl
  have e2 := F1.out.c 2 _ rfl
  clear hb1 hz1 F1
  go_wp2_with fail
  go_loop [3] (fun x => ∃ k : Nat, k ≤ 3 ∧ x = .int .i64 k) (fun x => 3 - (Go.RowKit.intOf x).toNat)
  case atStart => exact ⟨0, Nat.zero_le _, rfl⟩
  case round =>
    obtain ⟨k, hk, rfl⟩ := hrel
    have hc : k = 0 ∨ k = 1 ∨ k = 2 ∨ k = 3 := by omega
    rcases hc with rfl | rfl | rfl | rfl
    · go_wp2_with fail
      go_round
      case rel => exact ⟨1, by decide, by go_num⟩
      case measure => simp [Go.RowKit.intOf]
    · go_wp2_with fail
      go_round
      case rel => exact ⟨2, by decide, by go_num⟩
      case measure => simp [Go.RowKit.intOf]
    · go_wp2_with fail
      go_round
      case rel => exact ⟨3, by decide, by go_num⟩
      case measure => simp [Go.RowKit.intOf]
    · go_wp2_with fail
      go_ret
      exact ⟨rfl, HB1.out⟩
end Go.Proofs.YtbnpgkclnebnmaaGreat
