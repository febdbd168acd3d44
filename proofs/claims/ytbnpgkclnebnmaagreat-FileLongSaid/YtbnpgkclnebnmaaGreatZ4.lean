import Derived.Test.YtbnpgkclnebnmaaGreatZ3
import Derived.LoopTactic
import Derived.IntWalk
import Derived.Shelf.Sort.Plain
import Derived.Test.YtbnpgkclnebnmaaGreatProg
/- Files: how many blocks a length takes. -/
/- Files: ways. -/
/- Files: ways: first, up, passes. -/
/-
  DERIVED: THE SHELF's CONTRACTS AT THIS DUMP, IN PLAIN WORDS (tools/lay-plain.mjs out of 'YtbnpgkclnebnmaaGreatShelf.lean', which tools/lay-shelf.mjs wrote): THE SAME DECLARATIONS UNDER THE SAME NAMES: 'import', 'namespace', 'open', 'def', 'theorem' AND NOTHING ELSE: no command of the shelf's: FOR A HAND-IN. Each laying: the table of numbers ('.._ren') and one theorem, a field a fact of the dump's own or the kernel's comparison; each contract: ONE APPLICATION.
-/

namespace Go.Proofs.YtbnpgkclnebnmaaGreat
set_option linter.unusedSimpArgs false
set_option linter.unusedVariables false
open Go.RowKit Go.Maps

/-- so many of 64 are begun -/
def dataS (n : Int) : Int := if n ≤ 0 then 0 else (n - 1) / 64 + 1
def ptrS (d : Int) : Int := if d ≤ 6 then 0 else if d ≤ 38 then 1 else 2 + ((d - 38 - 1) / 32 + 1)
theorem parts_neg (n k : Int) (h : n ≤ 0) (w : World) : Calls Tryz.prog 105 #[.int .i64 n, .int .i64 k] w fun e w' => e = .returned (.int .i64 0) ∧ w' = w := by
  go_enter Tryz.func105, Tryz.ntmps105
  go_wp2
  go_ret
  exact ⟨rfl, rfl⟩
theorem parts_64 (n : Int) (h : 0 < n) (h1 : n < 9223372036854775808) (w : World) : Calls Tryz.prog 105 #[.int .i64 n, .int .i64 64] w fun e w' => e = .returned (.int .i64 ((n - 1) / 64 + 1)) ∧ w' = w := by
  have h2 : 0 ≤ n := by omega
  have h3 : 0 ≤ n - 1 := by omega
  have hq : IntKind.i64.wrap ((n - 1) / 64) = (n - 1) / 64 := IntWalk.i64_in _ ⟨by omega, by omega⟩
  have H := Lib.hid h
  clear h
  have hn : decide (n ≤ 0) = false := decide_eq_false (by have := H.out; omega)
  go_enter Tryz.func105, Tryz.ntmps105
  go_wp2
  go_ret
  exact ⟨ret_int (by omega), rfl⟩
theorem parts_32 (n : Int) (h : 0 < n) (h1 : n < 9223372036854775808) (w : World) : Calls Tryz.prog 105 #[.int .i64 n, .int .i64 32] w fun e w' => e = .returned (.int .i64 ((n - 1) / 32 + 1)) ∧ w' = w := by
  have h2 : 0 ≤ n := by omega
  have h3 : 0 ≤ n - 1 := by omega
  go_enter Tryz.func105, Tryz.ntmps105
  go_wp2
  go_ret
  exact ⟨ret_int (by omega), rfl⟩
set_option maxHeartbeats 1000000 in
theorem spread_any (n : Int) (h1 : n < 9223372036854775808) (w : World) : Calls Tryz.prog 69 #[.int .i64 n] w fun e w' => e = .returned (.tuple #[.int .i64 (dataS n), .int .i64 (ptrS (dataS n))]) ∧ w' = w := by
  have HD : Hid (∀ W, Calls Tryz.prog 105 #[.int .i64 n, .int .i64 64] W fun e w' => e = .returned (.int .i64 (dataS n)) ∧ w' = W) := fun W => by
    unfold dataS
    by_cases h : n ≤ 0
    · rw [if_pos h]; exact parts_neg n 64 h W
    · rw [if_neg h]; exact parts_64 n (by omega) h1 W
  have hb : 0 ≤ dataS n ∧ dataS n ≤ 144115188075855872 := by unfold dataS; split <;> omega
  obtain ⟨d, hd⟩ : ∃ d, dataS n = d := ⟨_, rfl⟩
  rw [hd] at HD hb ⊢
  clear hd
  obtain ⟨d0, d1⟩ := hb
  by_cases c1 : d ≤ 6
  · have hp : ptrS d = 0 := by unfold ptrS; rw [if_pos c1]
    rw [hp]
    clear hp
    go_enter Tryz.func69, Tryz.ntmps69
    go_wp2_with fail
    refine (HD.out w).mono ?_
    rintro e wz ⟨rfl, hwz⟩
    rw [hwz]
    clear hwz HD
    go_wp2_with fail
    refine bodyPost_ret (v := .tuple #[.int .i64 d, .int .i64 0]) (by simp [results, Tryz.results69, go_sem]) rfl ⟨rfl, rfl⟩
  · by_cases c2 : d ≤ 38
    · have hp : ptrS d = 1 := by unfold ptrS; rw [if_neg c1, if_pos c2]
      rw [hp]
      clear hp
      have c1' : 6 < d := by omega
      go_enter Tryz.func69, Tryz.ntmps69
      go_wp2_with fail
      refine (HD.out w).mono ?_
      rintro e wz ⟨rfl, hwz⟩
      rw [hwz]
      clear hwz HD
      go_wp2_with fail
      refine bodyPost_ret (v := .tuple #[.int .i64 d, .int .i64 1]) (by simp [results, Tryz.results69, go_sem]) rfl ⟨rfl, rfl⟩
    · have HP : Hid (∀ W, Calls Tryz.prog 105 #[.int .i64 (d - 38), .int .i64 32] W fun e w' => e = .returned (.int .i64 (ptrS d - 2)) ∧ w' = W) := fun W => by
        have hp : ptrS d - 2 = (d - 38 - 1) / 32 + 1 := by unfold ptrS; rw [if_neg c1, if_neg c2]; omega
        rw [hp]
        exact parts_32 (d - 38) (by omega) (by omega) W
      have hb : 2 ≤ ptrS d ∧ ptrS d ≤ 144115188075855872 := by unfold ptrS; rw [if_neg c1, if_neg c2]; omega
      obtain ⟨p, hp⟩ : ∃ p, ptrS d - 2 = p := ⟨_, rfl⟩
      have hp2 : ptrS d = 2 + p := by omega
      rw [hp] at HP
      rw [hp2] at hb ⊢
      clear hp hp2
      obtain ⟨p0, p1⟩ := hb
      have c1' : 6 < d := by omega
      have c2' : 38 < d := by omega
      have q0 : 0 ≤ p := by omega
      have q1 : p ≤ 144115188075855872 := by omega
      clear p0 p1 c1 c2
      go_enter Tryz.func69, Tryz.ntmps69
      go_wp2_with fail
      refine (HD.out w).mono ?_
      rintro e wz ⟨rfl, hwz⟩
      rw [hwz]
      clear hwz HD
      go_wp2_with fail
      refine (HP.out w).mono ?_
      rintro e wz ⟨rfl, hwz⟩
      rw [hwz]
      clear hwz HP
      go_wp2_with fail
      refine bodyPost_ret (v := .tuple #[.int .i64 d, .int .i64 (2 + p)]) (by simp [results, Tryz.results69, go_sem]) rfl ⟨rfl, rfl⟩
set_option maxHeartbeats 2000000 in
theorem rspread_any (n : Int) (h1 : n ≤ 200000) (w : World) : Calls Tryz.prog 40 #[.int .i64 n] w fun e w' => e = .returned (.tuple #[.int .i64 (dataS n), .int .i64 (ptrS (dataS n))]) ∧ w' = w := by
  go_enter Tryz.func40, Tryz.ntmps40
  go_wp2_with fail
  go_loop [4] (fun d => ∃ k : Nat, d = .int .i64 k ∧ k ≤ 4000 ∧ (k = 0 ∨ ((k : Int) - 1) * 64 < n)) (fun d => (n - 64 * Go.RowKit.intOf d).toNat)
  case atStart => exact ⟨0, rfl, by omega, .inl rfl⟩
  case round =>
    obtain ⟨k, rfl, hk, hkn⟩ := hrel
    have HK := Lib.hid hkn
    clear hkn
    by_cases c : (k : Int) * 64 < n
    · go_wp2_with fail
      go_round
      case rel => exact ⟨k + 1, by go_num, by omega, .inr (by omega)⟩
      case measure => simp [Go.RowKit.intOf]; omega
    · have hd : dataS n = k := by
        have := HK.out
        unfold dataS
        split <;> omega
      have HD := Lib.hid hd
      clear hd HK h1
      have c' : n ≤ (k : Int) * 64 := by omega
      by_cases c1 : k ≤ 6
      · have hp : ptrS k = 0 := by unfold ptrS; rw [if_pos (by omega)]
        have HP := Lib.hid hp
        clear hp
        have c1' : (k : Int) ≤ 6 := by omega
        go_wp2_with fail
        refine bodyPost_ret (v := .tuple #[.int .i64 (k : Int), .int .i64 0]) (by simp [results, Tryz.results40, go_sem]) rfl ⟨by rw [HD.out, HP.out], rfl⟩
      · by_cases c2 : k ≤ 38
        · have hp : ptrS k = 1 := by unfold ptrS; rw [if_neg (by omega), if_pos (by omega)]
          have HP := Lib.hid hp
          clear hp
          have c1' : 6 < (k : Int) := by omega
          have c2' : (k : Int) ≤ 38 := by omega
          go_wp2_with fail
          refine bodyPost_ret (v := .tuple #[.int .i64 (k : Int), .int .i64 1]) (by simp [results, Tryz.results40, go_sem]) rfl ⟨by rw [HD.out, HP.out], rfl⟩
        · have c1' : 6 < (k : Int) := by omega
          have c2' : 38 < (k : Int) := by omega
          go_wp2_with fail
          clear c c1 c2
          go_loop [5] (fun d => ∃ j : Nat, d = .int .i64 j ∧ j ≤ 200 ∧ (j = 0 ∨ ((j : Int) - 1) * 32 < (k : Int) - 38)) (fun d => ((k : Int) - 38 - 32 * Go.RowKit.intOf d).toNat)
          case atStart => exact ⟨0, rfl, by omega, .inl rfl⟩
          case round =>
            obtain ⟨j, rfl, hj, hjn⟩ := hrel
            have HJ := Lib.hid hjn
            clear hjn
            by_cases c3 : (j : Int) * 32 < (k : Int) - 38
            · go_wp2_with fail
              go_round
              case rel => exact ⟨j + 1, by go_num, by omega, .inr (by omega)⟩
              case measure => simp [Go.RowKit.intOf]; omega
            · have hp : ptrS k = 2 + (j : Int) := by
                have := HJ.out
                unfold ptrS
                rw [if_neg (by omega), if_neg (by omega)]
                omega
              have HP := Lib.hid hp
              clear hp HJ
              have c3' : (k : Int) - 38 ≤ (j : Int) * 32 := by omega
              go_wp2_with fail
              refine bodyPost_ret (v := .tuple #[.int .i64 (k : Int), .int .i64 (2 + (j : Int))]) (by simp [results, Tryz.results40, go_sem]) rfl ⟨by rw [HD.out, HP.out], rfl⟩
end Go.Proofs.YtbnpgkclnebnmaaGreat

namespace Go.Proofs.YtbnpgkclnebnmaaGreat
set_option linter.unusedSimpArgs false
set_option linter.unusedVariables false
open Go.RowKit Go.Maps

/-- a way: three steps -/
def wyc (a b c : Int) : List Value := [.int .i64 a, .int .i64 b, .int .i64 c]
theorem wyc_one (a b c : Int) : ∀ v ∈ wyc a b c, v.oneCell' = true := by
  intro v hv
  simp only [wyc, List.mem_cons, List.not_mem_nil, or_false] at hv
  rcases hv with rfl | rfl | rfl <;> rfl
theorem Tryz.zeroWy : (Tryz.prog.info? 181).map (fun i => i.zero) = some (some (.agg (wyc 0 0 0).toArray)) := by kernel_rfl
theorem Tryz.isizeWy : (Tryz.prog.info? 181).map (·.size) = some 3 := by kernel_rfl
theorem sizeWy (a b c : Int) : (Tryz.prog.info? 181).map (·.size) = some (wyc a b c).length := Tryz.isizeWy
theorem Tryz.descWy : ∃ d, Tryz.prog.underlying 181 = some d ∧ d.isRow = true := by
  have h : (Tryz.prog.underlying 181).map (·.isRow) = some true := by kernel_rfl
  obtain ⟨d, hu, hd⟩ := Option.map_eq_some_iff.1 h
  exact ⟨d, hu, hd⟩
set_option maxHeartbeats 4000000 in
theorem wayto_out (x : Int) (hx : x < 0 ∨ 256 ≤ x) (w : World) : Calls Tryz.prog 83 #[.int .i64 x] w fun e w' => e = .returned (.agg (wyc 0 0 0).toArray) ∧ Below w.heap.size w w' := by
  by_cases h0 : x < 0
  · clear hx
    go_enter Tryz.func83, Tryz.ntmps83
    go_wp2
    exact bodyPost_ret (v := .agg (wyc 0 0 0).toArray) (by simp [results, Tryz.results83, go_sem, wyc]) rfl ⟨rfl, (Below.refl _ _).alloc (Nat.le_refl _) _⟩
  · have h1 : 256 ≤ x := by omega
    clear hx
    go_enter Tryz.func83, Tryz.ntmps83
    go_wp2
    exact bodyPost_ret (v := .agg (wyc 0 0 0).toArray) (by simp [results, Tryz.results83, go_sem, wyc]) rfl ⟨rfl, (Below.refl _ _).alloc (Nat.le_refl _) _⟩
set_option maxHeartbeats 4000000 in
theorem wayto_dir (x : Int) (h0 : 0 ≤ x) (h1 : x < 6) (w : World) : Calls Tryz.prog 83 #[.int .i64 x] w fun e w' => e = .returned (.agg (wyc (x + 1) 0 0).toArray) ∧ Below w.heap.size w w' := by
  have h2 : ¬ 256 ≤ x := by omega
  go_enter Tryz.func83, Tryz.ntmps83
  go_wp2
  exact bodyPost_ret (v := .agg (wyc (x + 1) 0 0).toArray) (by simp [results, Tryz.results83, go_sem, wyc]) rfl ⟨rfl, (Below.refl _ _).alloc (Nat.le_refl _) _⟩
set_option maxHeartbeats 4000000 in
theorem wayto_sin (x : Int) (h0 : 6 ≤ x) (h1 : x < 38) (w : World) : Calls Tryz.prog 83 #[.int .i64 x] w fun e w' => e = .returned (.agg (wyc 7 (x - 6 + 1) 0).toArray) ∧ Below w.heap.size w w' := by
  have h2 : ¬ 256 ≤ x := by omega
  have h3 : 0 ≤ x := by omega
  have h4 : ¬ x < 6 := by omega
  have h5 : x - 6 < 32 := by omega
  go_enter Tryz.func83, Tryz.ntmps83
  go_wp2
  exact bodyPost_ret (v := .agg (wyc 7 (x - 6 + 1) 0).toArray) (by simp [results, Tryz.results83, go_sem, wyc]) rfl ⟨rfl, (Below.refl _ _).alloc (Nat.le_refl _) _⟩
set_option maxHeartbeats 4000000 in
theorem wayto_dbl (x : Int) (h0 : 38 ≤ x) (h1 : x < 256) (w : World) : Calls Tryz.prog 83 #[.int .i64 x] w fun e w' => e = .returned (.agg (wyc 8 ((x - 6 - 32) / 32 + 1) ((x - 6) % 32 + 1)).toArray) ∧ Below w.heap.size w w' := by
  have h2 : ¬ 256 ≤ x := by omega
  have h3 : 0 ≤ x := by omega
  have h4 : ¬ x < 6 := by omega
  have h5 : ¬ x - 6 < 32 := by omega
  go_enter Tryz.func83, Tryz.ntmps83
  go_wp2
  exact bodyPost_ret (v := .agg (wyc 8 ((x - 6 - 32) / 32 + 1) ((x - 6) % 32 + 1)).toArray) (by simp [results, Tryz.results83, go_sem, wyc]) rfl ⟨rfl, (Below.refl _ _).alloc (Nat.le_refl _) _⟩
set_option maxHeartbeats 8000000 in
theorem steps0 (w : World) : Calls Tryz.prog 118 #[.agg (wyc 0 0 0).toArray] w fun e w' => e = .returned (.int .i64 0) ∧ Below w.heap.size w w' := by
  go_enter Tryz.func118, Tryz.ntmps118
  go_upto_region 1 with (first | (refine wpList_box_list (w := w) rfl 181 _ rfl (wyc 0 0 0) rfl ?_; intro w1 F1 hb1 hz1))
  have HB1 := Lib.hid hb1
  have e0 := F1.out.c 0 _ rfl
  have e1 := F1.out.c 1 _ rfl
  have e2 := F1.out.c 2 _ rfl
  clear hb1 hz1 F1
  go_wp2_with fail
  go_loop [3] (fun x => ∃ k : Nat, k ≤ 0 ∧ x = .int .i64 k) (fun x => 0 - (Go.RowKit.intOf x).toNat)
  case atStart => exact ⟨0, Nat.zero_le _, rfl⟩
  case round =>
    obtain ⟨k, hk, rfl⟩ := hrel
    have hc : k = 0 := by omega
    rcases hc with rfl
    · go_wp2_with fail
      go_ret
      exact ⟨rfl, HB1.out⟩
set_option maxHeartbeats 8000000 in
theorem steps1 (a : Int) (ha : 0 < a) (w : World) : Calls Tryz.prog 118 #[.agg (wyc a 0 0).toArray] w fun e w' => e = .returned (.int .i64 1) ∧ Below w.heap.size w w' := by
  go_enter Tryz.func118, Tryz.ntmps118
  go_upto_region 1 with (first | (refine wpList_box_list (w := w) rfl 181 _ rfl (wyc a 0 0) rfl ?_; intro w1 F1 hb1 hz1))
  have HB1 := Lib.hid hb1
  have e0 := F1.out.c 0 _ rfl
  have e1 := F1.out.c 1 _ rfl
  have e2 := F1.out.c 2 _ rfl
  clear hb1 hz1 F1
  go_wp2_with fail
  go_loop [3] (fun x => ∃ k : Nat, k ≤ 1 ∧ x = .int .i64 k) (fun x => 1 - (Go.RowKit.intOf x).toNat)
  case atStart => exact ⟨0, Nat.zero_le _, rfl⟩
  case round =>
    obtain ⟨k, hk, rfl⟩ := hrel
    have hc : k = 0 ∨ k = 1 := by omega
    rcases hc with rfl | rfl
    · go_wp2_with fail
      go_round
      case rel => exact ⟨1, by decide, by go_num⟩
      case measure => simp [Go.RowKit.intOf]
    · go_wp2_with fail
      go_ret
      exact ⟨rfl, HB1.out⟩
set_option maxHeartbeats 8000000 in
theorem steps2 (a b : Int) (ha : 0 < a) (hb : 0 < b) (w : World) : Calls Tryz.prog 118 #[.agg (wyc a b 0).toArray] w fun e w' => e = .returned (.int .i64 2) ∧ Below w.heap.size w w' := by
  go_enter Tryz.func118, Tryz.ntmps118
  go_upto_region 1 with (first | (refine wpList_box_list (w := w) rfl 181 _ rfl (wyc a b 0) rfl ?_; intro w1 F1 hb1 hz1))
  have HB1 := Lib.hid hb1
  have e0 := F1.out.c 0 _ rfl
  have e1 := F1.out.c 1 _ rfl
  have e2 := F1.out.c 2 _ rfl
  clear hb1 hz1 F1
  go_wp2_with fail
  go_loop [3] (fun x => ∃ k : Nat, k ≤ 2 ∧ x = .int .i64 k) (fun x => 2 - (Go.RowKit.intOf x).toNat)
  case atStart => exact ⟨0, Nat.zero_le _, rfl⟩
  case round =>
    obtain ⟨k, hk, rfl⟩ := hrel
    have hc : k = 0 ∨ k = 1 ∨ k = 2 := by omega
    rcases hc with rfl | rfl | rfl
    · go_wp2_with fail
      go_round
      case rel => exact ⟨1, by decide, by go_num⟩
      case measure => simp [Go.RowKit.intOf]
    · go_wp2_with fail
      go_round
      case rel => exact ⟨2, by decide, by go_num⟩
      case measure => simp [Go.RowKit.intOf]
    · go_wp2_with fail
      go_ret
      exact ⟨rfl, HB1.out⟩
set_option maxHeartbeats 8000000 in
theorem steps3 (a b c : Int) (ha : 0 < a) (hb : 0 < b) (hc : 0 < c) (w : World) : Calls Tryz.prog 118 #[.agg (wyc a b c).toArray] w fun e w' => e = .returned (.int .i64 3) ∧ Below w.heap.size w w' := by
  go_enter Tryz.func118, Tryz.ntmps118
  go_upto_region 1 with (first | (refine wpList_box_list (w := w) rfl 181 _ rfl (wyc a b c) rfl ?_; intro w1 F1 hb1 hz1))
  have HB1 := Lib.hid hb1
  have e0 := F1.out.c 0 _ rfl
  have e1 := F1.out.c 1 _ rfl
  have e2 := F1.out.c 2 _ rfl
  clear hb1 hz1 F1
  go_wp2_with fail
  go_loop [3] (fun x => ∃ k : Nat, k ≤ 3 ∧ x = .int .i64 k) (fun x => 3 - (Go.RowKit.intOf x).toNat)
  case atStart => exact ⟨0, Nat.zero_le _, rfl⟩
  case round =>
    obtain ⟨k, hk, rfl⟩ := hrel
    have hc : k = 0 ∨ k = 1 ∨ k = 2 ∨ k = 3 := by omega
    rcases hc with rfl | rfl | rfl | rfl
    · go_wp2_with fail
      go_round
      case rel => exact ⟨1, by decide, by go_num⟩
      case measure => simp [Go.RowKit.intOf]
    · go_wp2_with fail
      go_round
      case rel => exact ⟨2, by decide, by go_num⟩
      case measure => simp [Go.RowKit.intOf]
    · go_wp2_with fail
      go_round
      case rel => exact ⟨3, by decide, by go_num⟩
      case measure => simp [Go.RowKit.intOf]
    · go_wp2_with fail
      go_ret
      exact ⟨rfl, HB1.out⟩
end Go.Proofs.YtbnpgkclnebnmaaGreat

namespace Go.Proofs.YtbnpgkclnebnmaaGreat
set_option linter.unusedSimpArgs false
set_option linter.unusedVariables false
open Go.RowKit Go.Maps

theorem Tryz.slInt : Tryz.prog.underlying 153 = some (.slice 3) := Tryz.underlying153
theorem Tryz.isizeInt : (Tryz.prog.info? 3).map (·.size) = some 1 := by kernel_rfl
set_option maxHeartbeats 8000000 in
set_option maxRecDepth 100000 in
theorem first0 (a b c : Int) (w : World) : Calls Tryz.prog 129 #[.agg (wyc a b c).toArray, .int .i64 0] w fun e w' => e = .returned (.agg (wyc 0 0 0).toArray) ∧ Below w.heap.size w w' := by
  obtain ⟨d, hu, hd⟩ := Tryz.descWy
  have HU := Lib.hid hu
  have HD := Lib.hid hd
  clear hu hd
  go_enter Tryz.func129, Tryz.ntmps129
  go_upto_region 2 with (first | (refine wpList_box_list (w := w) rfl 181 _ rfl (wyc a b c) rfl ?_; intro w1 F1 hb1 hz1; have HB1 := Lib.hid hb1; have hq1 : w.heap.size < w1.heap.size := (by omega); clear hb1 hz1) | (refine wpList_alloc_list (w := w1) rfl 181 rfl (wyc 0 0 0) Tryz.zeroWy ?_; intro w2 F2 hb2 hz2; have HB2 := Lib.hid hb2; have hq2 : w1.heap.size < w2.heap.size := (by omega); clear hb2 hz2) | (refine wpList_alloc_list (w := w2) rfl 181 rfl (wyc 0 0 0) Tryz.zeroWy ?_; intro w3 F3 hb3 hz3; have HB3 := Lib.hid hb3; have hq3 : w2.heap.size < w3.heap.size := (by omega); clear hb3 hz3))
  obtain ⟨b1, hb1⟩ : ∃ b, w.heap.size = b := ⟨_, rfl⟩
  obtain ⟨b2, hb2⟩ : ∃ b, w1.heap.size = b := ⟨_, rfl⟩
  obtain ⟨b3, hb3⟩ : ∃ b, w2.heap.size = b := ⟨_, rfl⟩
  have G1 := Lib.hid ((F1.out.keep HB2.out).keep HB3.out)
  have G2 := Lib.hid (F2.out.keep HB3.out)
  have HB := Lib.hid ((HB1.out.trans (HB2.out.mono HB1.out.size)).trans (HB3.out.mono (Nat.le_trans HB1.out.size HB2.out.size)))
  rw [hb1, hb2] at hq1
  rw [hb2, hb3] at hq2
  rw [hb3] at hq3
  rw [hb1] at G1 HB
  rw [hb2] at G2
  rw [hb3] at F3
  have HW := Lib.hid hb1
  try rw [hb1]
  try rw [hb2]
  try rw [hb3]
  clear hb1 hb2 hb3 HB1 HB2 HB3 F1 F2
  go_still_tail 3, (by kernel_rfl)
  have D1 := Lib.hid (G1.out.keep (Below.refl w3.heap.size w3).drew)
  have D2 := Lib.hid (G2.out.keep (Below.refl w3.heap.size w3).drew)
  have D3 := Lib.hid (F3.out.keep (Below.refl w3.heap.size w3).drew)
  have DB := Lib.hid (HB.out.drew)
  change wpList _ _ _ _ _ (World.drew w3)
  have hq4 : b3 < (World.drew w3).heap.size := hq3
  obtain ⟨w4, hw4⟩ : ∃ x, World.drew w3 = x := ⟨_, rfl⟩
  rw [hw4] at D1 D2 D3 DB hq4 ⊢
  clear hw4 G1 G2 F3 HB hq3
  refine wpList_copy_mid rfl (.tmp 7) (.tmp 8) 153 153 rfl 3 Tryz.slInt 1 Tryz.isizeInt b3 0 0 3 (some ⟨b1, 0, none⟩) 3 3 rfl rfl [] rfl (fun hh => ⟨_, rfl, fun j v hj => ?_⟩) ?_ (fun v hv => ?_) ?_
  · rw [Addr.add_mid, Nat.zero_add]
    exact D1.out.c j v (by
      match j, hj with

      | (n + 0), hj => cases hj)
  · exact fun j hj => D3.out.there0 3 rfl j (Nat.lt_of_lt_of_le hj (by show 0 ≤ 3; decide))
  · cases hv
  have E3 : Hid (Vl (w4.setCells b3 0 []) b3 (wyc 0 0 0)) := D3
  have hk : Kp w4 (w4.setCells b3 0 []) b3 b3 := (Kp.refl w4 b3 b3).setCells b3 0 (.inl rfl) _
  have E2 := Lib.hid (D2.out.kp hk (by omega) (by omega))
  have EB := Lib.hid (DB.out.trans (hk.below (by omega) (by omega) (by omega)))
  obtain ⟨w5, hw5⟩ : ∃ x, w4.setCells b3 0 [] = x := ⟨_, rfl⟩
  rw [hw5] at E2 E3 EB hk ⊢
  have hq5 := hk.size
  clear hw5 hk D1 D2 D3 DB
  have HR := Lib.hid E3.out.range0
  have PF := Lib.hid (E2.out.stored (wyc 0 0 0) rfl)
  go_wp2_with (first | (refine wpList_load_mid rfl 181 _ rfl b3 0 rfl (wyc 0 0 0) d HR.out HU.out HD.out (sizeWy _ _ _) ?_) | (refine wpList_store_mid rfl 181 _ _ rfl b2 0 (wyc 0 0 0).toArray rfl rfl (E2.out.there0 3 rfl) (sizeWy _ _ _) (all_oneCell_toArray (wyc_one _ _ _)) ?_))
  exact bodyPost_ret_by (results_mid rfl _ _ b2 _ d rfl PF.out.range0 HU.out HD.out (sizeWy _ _ _)) rfl ⟨rfl, by rw [HW.out]; exact below_setCells EB.out b2 0 (by omega) _⟩
set_option maxHeartbeats 8000000 in
set_option maxRecDepth 100000 in
theorem first1 (a b c : Int) (w : World) : Calls Tryz.prog 129 #[.agg (wyc a b c).toArray, .int .i64 1] w fun e w' => e = .returned (.agg (wyc a 0 0).toArray) ∧ Below w.heap.size w w' := by
  obtain ⟨d, hu, hd⟩ := Tryz.descWy
  have HU := Lib.hid hu
  have HD := Lib.hid hd
  clear hu hd
  go_enter Tryz.func129, Tryz.ntmps129
  go_upto_region 2 with (first | (refine wpList_box_list (w := w) rfl 181 _ rfl (wyc a b c) rfl ?_; intro w1 F1 hb1 hz1; have HB1 := Lib.hid hb1; have hq1 : w.heap.size < w1.heap.size := (by omega); clear hb1 hz1) | (refine wpList_alloc_list (w := w1) rfl 181 rfl (wyc 0 0 0) Tryz.zeroWy ?_; intro w2 F2 hb2 hz2; have HB2 := Lib.hid hb2; have hq2 : w1.heap.size < w2.heap.size := (by omega); clear hb2 hz2) | (refine wpList_alloc_list (w := w2) rfl 181 rfl (wyc 0 0 0) Tryz.zeroWy ?_; intro w3 F3 hb3 hz3; have HB3 := Lib.hid hb3; have hq3 : w2.heap.size < w3.heap.size := (by omega); clear hb3 hz3))
  obtain ⟨b1, hb1⟩ : ∃ b, w.heap.size = b := ⟨_, rfl⟩
  obtain ⟨b2, hb2⟩ : ∃ b, w1.heap.size = b := ⟨_, rfl⟩
  obtain ⟨b3, hb3⟩ : ∃ b, w2.heap.size = b := ⟨_, rfl⟩
  have G1 := Lib.hid ((F1.out.keep HB2.out).keep HB3.out)
  have G2 := Lib.hid (F2.out.keep HB3.out)
  have HB := Lib.hid ((HB1.out.trans (HB2.out.mono HB1.out.size)).trans (HB3.out.mono (Nat.le_trans HB1.out.size HB2.out.size)))
  rw [hb1, hb2] at hq1
  rw [hb2, hb3] at hq2
  rw [hb3] at hq3
  rw [hb1] at G1 HB
  rw [hb2] at G2
  rw [hb3] at F3
  have HW := Lib.hid hb1
  try rw [hb1]
  try rw [hb2]
  try rw [hb3]
  clear hb1 hb2 hb3 HB1 HB2 HB3 F1 F2
  go_still_tail 3, (by kernel_rfl)
  have D1 := Lib.hid (G1.out.keep (Below.refl w3.heap.size w3).drew)
  have D2 := Lib.hid (G2.out.keep (Below.refl w3.heap.size w3).drew)
  have D3 := Lib.hid (F3.out.keep (Below.refl w3.heap.size w3).drew)
  have DB := Lib.hid (HB.out.drew)
  change wpList _ _ _ _ _ (World.drew w3)
  have hq4 : b3 < (World.drew w3).heap.size := hq3
  obtain ⟨w4, hw4⟩ : ∃ x, World.drew w3 = x := ⟨_, rfl⟩
  rw [hw4] at D1 D2 D3 DB hq4 ⊢
  clear hw4 G1 G2 F3 HB hq3
  refine wpList_copy_mid rfl (.tmp 7) (.tmp 8) 153 153 rfl 3 Tryz.slInt 1 Tryz.isizeInt b3 0 1 3 (some ⟨b1, 0, none⟩) 3 3 rfl rfl [.int .i64 a] rfl (fun hh => ⟨_, rfl, fun j v hj => ?_⟩) ?_ (fun v hv => ?_) ?_
  · rw [Addr.add_mid, Nat.zero_add]
    exact D1.out.c j v (by
      match j, hj with
      | 0, hj => exact hj
      | (n + 1), hj => cases hj)
  · exact fun j hj => D3.out.there0 3 rfl j (Nat.lt_of_lt_of_le hj (by show 1 ≤ 3; decide))
  · simp only [List.mem_cons, List.not_mem_nil, or_false] at hv
    rcases hv with rfl <;> rfl
  have E3 : Hid (Vl (w4.setCells b3 0 [.int .i64 a]) b3 (wyc a 0 0)) := Lib.hid (D3.out.set 0 (by show 0 < 3; decide) (.int .i64 a))
  have hk : Kp w4 (w4.setCells b3 0 [.int .i64 a]) b3 b3 := (Kp.refl w4 b3 b3).setCells b3 0 (.inl rfl) _
  have E2 := Lib.hid (D2.out.kp hk (by omega) (by omega))
  have EB := Lib.hid (DB.out.trans (hk.below (by omega) (by omega) (by omega)))
  obtain ⟨w5, hw5⟩ : ∃ x, w4.setCells b3 0 [.int .i64 a] = x := ⟨_, rfl⟩
  rw [hw5] at E2 E3 EB hk ⊢
  have hq5 := hk.size
  clear hw5 hk D1 D2 D3 DB
  have HR := Lib.hid E3.out.range0
  have PF := Lib.hid (E2.out.stored (wyc a 0 0) rfl)
  go_wp2_with (first | (refine wpList_load_mid rfl 181 _ rfl b3 0 rfl (wyc a 0 0) d HR.out HU.out HD.out (sizeWy _ _ _) ?_) | (refine wpList_store_mid rfl 181 _ _ rfl b2 0 (wyc a 0 0).toArray rfl rfl (E2.out.there0 3 rfl) (sizeWy _ _ _) (all_oneCell_toArray (wyc_one _ _ _)) ?_))
  exact bodyPost_ret_by (results_mid rfl _ _ b2 _ d rfl PF.out.range0 HU.out HD.out (sizeWy _ _ _)) rfl ⟨rfl, by rw [HW.out]; exact below_setCells EB.out b2 0 (by omega) _⟩
set_option maxHeartbeats 8000000 in
set_option maxRecDepth 100000 in
theorem first2 (a b c : Int) (w : World) : Calls Tryz.prog 129 #[.agg (wyc a b c).toArray, .int .i64 2] w fun e w' => e = .returned (.agg (wyc a b 0).toArray) ∧ Below w.heap.size w w' := by
  obtain ⟨d, hu, hd⟩ := Tryz.descWy
  have HU := Lib.hid hu
  have HD := Lib.hid hd
  clear hu hd
  go_enter Tryz.func129, Tryz.ntmps129
  go_upto_region 2 with (first | (refine wpList_box_list (w := w) rfl 181 _ rfl (wyc a b c) rfl ?_; intro w1 F1 hb1 hz1; have HB1 := Lib.hid hb1; have hq1 : w.heap.size < w1.heap.size := (by omega); clear hb1 hz1) | (refine wpList_alloc_list (w := w1) rfl 181 rfl (wyc 0 0 0) Tryz.zeroWy ?_; intro w2 F2 hb2 hz2; have HB2 := Lib.hid hb2; have hq2 : w1.heap.size < w2.heap.size := (by omega); clear hb2 hz2) | (refine wpList_alloc_list (w := w2) rfl 181 rfl (wyc 0 0 0) Tryz.zeroWy ?_; intro w3 F3 hb3 hz3; have HB3 := Lib.hid hb3; have hq3 : w2.heap.size < w3.heap.size := (by omega); clear hb3 hz3))
  obtain ⟨b1, hb1⟩ : ∃ b, w.heap.size = b := ⟨_, rfl⟩
  obtain ⟨b2, hb2⟩ : ∃ b, w1.heap.size = b := ⟨_, rfl⟩
  obtain ⟨b3, hb3⟩ : ∃ b, w2.heap.size = b := ⟨_, rfl⟩
  have G1 := Lib.hid ((F1.out.keep HB2.out).keep HB3.out)
  have G2 := Lib.hid (F2.out.keep HB3.out)
  have HB := Lib.hid ((HB1.out.trans (HB2.out.mono HB1.out.size)).trans (HB3.out.mono (Nat.le_trans HB1.out.size HB2.out.size)))
  rw [hb1, hb2] at hq1
  rw [hb2, hb3] at hq2
  rw [hb3] at hq3
  rw [hb1] at G1 HB
  rw [hb2] at G2
  rw [hb3] at F3
  have HW := Lib.hid hb1
  try rw [hb1]
  try rw [hb2]
  try rw [hb3]
  clear hb1 hb2 hb3 HB1 HB2 HB3 F1 F2
  go_still_tail 3, (by kernel_rfl)
  have D1 := Lib.hid (G1.out.keep (Below.refl w3.heap.size w3).drew)
  have D2 := Lib.hid (G2.out.keep (Below.refl w3.heap.size w3).drew)
  have D3 := Lib.hid (F3.out.keep (Below.refl w3.heap.size w3).drew)
  have DB := Lib.hid (HB.out.drew)
  change wpList _ _ _ _ _ (World.drew w3)
  have hq4 : b3 < (World.drew w3).heap.size := hq3
  obtain ⟨w4, hw4⟩ : ∃ x, World.drew w3 = x := ⟨_, rfl⟩
  rw [hw4] at D1 D2 D3 DB hq4 ⊢
  clear hw4 G1 G2 F3 HB hq3
  refine wpList_copy_mid rfl (.tmp 7) (.tmp 8) 153 153 rfl 3 Tryz.slInt 1 Tryz.isizeInt b3 0 2 3 (some ⟨b1, 0, none⟩) 3 3 rfl rfl [.int .i64 a, .int .i64 b] rfl (fun hh => ⟨_, rfl, fun j v hj => ?_⟩) ?_ (fun v hv => ?_) ?_
  · rw [Addr.add_mid, Nat.zero_add]
    exact D1.out.c j v (by
      match j, hj with
      | 0, hj => exact hj
      | 1, hj => exact hj
      | (n + 2), hj => cases hj)
  · exact fun j hj => D3.out.there0 3 rfl j (Nat.lt_of_lt_of_le hj (by show 2 ≤ 3; decide))
  · simp only [List.mem_cons, List.not_mem_nil, or_false] at hv
    rcases hv with rfl | rfl <;> rfl
  have E3 : Hid (Vl (w4.setCells b3 0 [.int .i64 a, .int .i64 b]) b3 (wyc a b 0)) := Lib.hid ((D3.out.set 0 (by show 0 < 3; decide) (.int .i64 a)).set 1 (by show 1 < 3; decide) (.int .i64 b))
  have hk : Kp w4 (w4.setCells b3 0 [.int .i64 a, .int .i64 b]) b3 b3 := (Kp.refl w4 b3 b3).setCells b3 0 (.inl rfl) _
  have E2 := Lib.hid (D2.out.kp hk (by omega) (by omega))
  have EB := Lib.hid (DB.out.trans (hk.below (by omega) (by omega) (by omega)))
  obtain ⟨w5, hw5⟩ : ∃ x, w4.setCells b3 0 [.int .i64 a, .int .i64 b] = x := ⟨_, rfl⟩
  rw [hw5] at E2 E3 EB hk ⊢
  have hq5 := hk.size
  clear hw5 hk D1 D2 D3 DB
  have HR := Lib.hid E3.out.range0
  have PF := Lib.hid (E2.out.stored (wyc a b 0) rfl)
  go_wp2_with (first | (refine wpList_load_mid rfl 181 _ rfl b3 0 rfl (wyc a b 0) d HR.out HU.out HD.out (sizeWy _ _ _) ?_) | (refine wpList_store_mid rfl 181 _ _ rfl b2 0 (wyc a b 0).toArray rfl rfl (E2.out.there0 3 rfl) (sizeWy _ _ _) (all_oneCell_toArray (wyc_one _ _ _)) ?_))
  exact bodyPost_ret_by (results_mid rfl _ _ b2 _ d rfl PF.out.range0 HU.out HD.out (sizeWy _ _ _)) rfl ⟨rfl, by rw [HW.out]; exact below_setCells EB.out b2 0 (by omega) _⟩
set_option maxHeartbeats 8000000 in
set_option maxRecDepth 100000 in
theorem first3 (a b c : Int) (w : World) : Calls Tryz.prog 129 #[.agg (wyc a b c).toArray, .int .i64 3] w fun e w' => e = .returned (.agg (wyc a b c).toArray) ∧ Below w.heap.size w w' := by
  obtain ⟨d, hu, hd⟩ := Tryz.descWy
  have HU := Lib.hid hu
  have HD := Lib.hid hd
  clear hu hd
  go_enter Tryz.func129, Tryz.ntmps129
  go_upto_region 2 with (first | (refine wpList_box_list (w := w) rfl 181 _ rfl (wyc a b c) rfl ?_; intro w1 F1 hb1 hz1; have HB1 := Lib.hid hb1; have hq1 : w.heap.size < w1.heap.size := (by omega); clear hb1 hz1) | (refine wpList_alloc_list (w := w1) rfl 181 rfl (wyc 0 0 0) Tryz.zeroWy ?_; intro w2 F2 hb2 hz2; have HB2 := Lib.hid hb2; have hq2 : w1.heap.size < w2.heap.size := (by omega); clear hb2 hz2) | (refine wpList_alloc_list (w := w2) rfl 181 rfl (wyc 0 0 0) Tryz.zeroWy ?_; intro w3 F3 hb3 hz3; have HB3 := Lib.hid hb3; have hq3 : w2.heap.size < w3.heap.size := (by omega); clear hb3 hz3))
  obtain ⟨b1, hb1⟩ : ∃ b, w.heap.size = b := ⟨_, rfl⟩
  obtain ⟨b2, hb2⟩ : ∃ b, w1.heap.size = b := ⟨_, rfl⟩
  obtain ⟨b3, hb3⟩ : ∃ b, w2.heap.size = b := ⟨_, rfl⟩
  have G1 := Lib.hid ((F1.out.keep HB2.out).keep HB3.out)
  have G2 := Lib.hid (F2.out.keep HB3.out)
  have HB := Lib.hid ((HB1.out.trans (HB2.out.mono HB1.out.size)).trans (HB3.out.mono (Nat.le_trans HB1.out.size HB2.out.size)))
  rw [hb1, hb2] at hq1
  rw [hb2, hb3] at hq2
  rw [hb3] at hq3
  rw [hb1] at G1 HB
  rw [hb2] at G2
  rw [hb3] at F3
  have HW := Lib.hid hb1
  try rw [hb1]
  try rw [hb2]
  try rw [hb3]
  clear hb1 hb2 hb3 HB1 HB2 HB3 F1 F2
  go_still_tail 3, (by kernel_rfl)
  have D1 := Lib.hid (G1.out.keep (Below.refl w3.heap.size w3).drew)
  have D2 := Lib.hid (G2.out.keep (Below.refl w3.heap.size w3).drew)
  have D3 := Lib.hid (F3.out.keep (Below.refl w3.heap.size w3).drew)
  have DB := Lib.hid (HB.out.drew)
  change wpList _ _ _ _ _ (World.drew w3)
  have hq4 : b3 < (World.drew w3).heap.size := hq3
  obtain ⟨w4, hw4⟩ : ∃ x, World.drew w3 = x := ⟨_, rfl⟩
  rw [hw4] at D1 D2 D3 DB hq4 ⊢
  clear hw4 G1 G2 F3 HB hq3
  refine wpList_copy_mid rfl (.tmp 7) (.tmp 8) 153 153 rfl 3 Tryz.slInt 1 Tryz.isizeInt b3 0 3 3 (some ⟨b1, 0, none⟩) 3 3 rfl rfl [.int .i64 a, .int .i64 b, .int .i64 c] rfl (fun hh => ⟨_, rfl, fun j v hj => ?_⟩) ?_ (fun v hv => ?_) ?_
  · rw [Addr.add_mid, Nat.zero_add]
    exact D1.out.c j v (by
      match j, hj with
      | 0, hj => exact hj
      | 1, hj => exact hj
      | 2, hj => exact hj
      | (n + 3), hj => cases hj)
  · exact fun j hj => D3.out.there0 3 rfl j (Nat.lt_of_lt_of_le hj (by show 3 ≤ 3; decide))
  · simp only [List.mem_cons, List.not_mem_nil, or_false] at hv
    rcases hv with rfl | rfl | rfl <;> rfl
  have E3 : Hid (Vl (w4.setCells b3 0 [.int .i64 a, .int .i64 b, .int .i64 c]) b3 (wyc a b c)) := Lib.hid (((D3.out.set 0 (by show 0 < 3; decide) (.int .i64 a)).set 1 (by show 1 < 3; decide) (.int .i64 b)).set 2 (by show 2 < 3; decide) (.int .i64 c))
  have hk : Kp w4 (w4.setCells b3 0 [.int .i64 a, .int .i64 b, .int .i64 c]) b3 b3 := (Kp.refl w4 b3 b3).setCells b3 0 (.inl rfl) _
  have E2 := Lib.hid (D2.out.kp hk (by omega) (by omega))
  have EB := Lib.hid (DB.out.trans (hk.below (by omega) (by omega) (by omega)))
  obtain ⟨w5, hw5⟩ : ∃ x, w4.setCells b3 0 [.int .i64 a, .int .i64 b, .int .i64 c] = x := ⟨_, rfl⟩
  rw [hw5] at E2 E3 EB hk ⊢
  have hq5 := hk.size
  clear hw5 hk D1 D2 D3 DB
  have HR := Lib.hid E3.out.range0
  have PF := Lib.hid (E2.out.stored (wyc a b c) rfl)
  go_wp2_with (first | (refine wpList_load_mid rfl 181 _ rfl b3 0 rfl (wyc a b c) d HR.out HU.out HD.out (sizeWy _ _ _) ?_) | (refine wpList_store_mid rfl 181 _ _ rfl b2 0 (wyc a b c).toArray rfl rfl (E2.out.there0 3 rfl) (sizeWy _ _ _) (all_oneCell_toArray (wyc_one _ _ _)) ?_))
  exact bodyPost_ret_by (results_mid rfl _ _ b2 _ d rfl PF.out.range0 HU.out HD.out (sizeWy _ _ _)) rfl ⟨rfl, by rw [HW.out]; exact below_setCells EB.out b2 0 (by omega) _⟩
set_option maxHeartbeats 8000000 in
set_option maxRecDepth 100000 in
theorem up1 (a : Int) (ha : 0 < a) (w : World) : Calls Tryz.prog 107 #[.agg (wyc a 0 0).toArray] w fun e w' => e = .returned (.agg (wyc 0 0 0).toArray) ∧ Below w.heap.size w w' := by
  obtain ⟨d, hu, hd⟩ := Tryz.descWy
  have HU := Lib.hid hu
  have HD := Lib.hid hd
  have HST := Lib.hid (fun W => steps1 a ha W)
  have HFI := Lib.hid (fun W => first0 a 0 0 W)
  clear hu hd ha
  go_enter Tryz.func107, Tryz.ntmps107
  go_upto_region 1 with (first | (refine wpList_box_list (w := w) rfl 181 _ rfl (wyc a 0 0) rfl ?_; intro w1 F1 hb1 hz1; have HB1 := Lib.hid hb1; have hq1 : w.heap.size < w1.heap.size := (by omega); clear hb1 hz1) | (refine wpList_alloc_list (w := w1) rfl 181 rfl (wyc 0 0 0) Tryz.zeroWy ?_; intro w2 F2 hb2 hz2; have HB2 := Lib.hid hb2; have hq2 : w1.heap.size < w2.heap.size := (by omega); clear hb2 hz2))
  obtain ⟨b1, hb1⟩ : ∃ b, w.heap.size = b := ⟨_, rfl⟩
  obtain ⟨b2, hb2⟩ : ∃ b, w1.heap.size = b := ⟨_, rfl⟩
  have G1 := Lib.hid (F1.out.keep HB2.out)
  have HB := Lib.hid (HB1.out.trans (HB2.out.mono HB1.out.size))
  rw [hb1, hb2] at hq1
  rw [hb2] at hq2
  rw [hb1] at G1 HB
  rw [hb2] at F2
  have HW := Lib.hid hb1
  try rw [hb1]
  try rw [hb2]
  clear hb1 hb2 HB1 HB2 F1
  refine wp_region_held (S := fun W => Vl W b1 (wyc a 0 0) ∧ (∃ cs, cs.length = 3 ∧ Vl W b2 cs) ∧ Below b1 w W) (by kernel_rfl) ?_
  change wpAnyH _ _ _ _ _ _ _ _ (World.drew _)
  have hS0 : (fun W => Vl W b1 (wyc a 0 0) ∧ (∃ cs, cs.length = 3 ∧ Vl W b2 cs) ∧ Below b1 w W) w2.drew := ⟨G1.out.keep (Below.refl _ _).drew, ⟨_, rfl, F2.out.keep (Below.refl _ _).drew⟩, HB.out.drew⟩
  obtain ⟨w3, hw3⟩ : ∃ x, World.drew w2 = x := ⟨_, rfl⟩
  rw [hw3] at hS0  ⊢
  clear hw3
  refine wpAnyH_take (i := 0) (v := .agg (wyc a 0 0).toArray) rfl (by kernel_rfl) (by kernel_rfl) (by kernel_rfl) (fun _ _ _ h => h) ?_ hS0 ?_
  · exact yieldsIf_load_mid (by rfl) 181 (.tmp 1) rfl b1 0 rfl (wyc a 0 0) d (fun W hW => hW.1.range0) HU.out HD.out (sizeWy _ _ _)
  simp only [Act.put, List.getElem_toArray, List.getElem_cons_zero, List.getElem_cons_succ, List.setIfInBounds_toArray, List.set_cons_zero, List.set_cons_succ]
  refine wpAnyH_take (i := 1) (v := .agg (wyc a 0 0).toArray) rfl (by kernel_rfl) (by kernel_rfl) (by kernel_rfl) (fun _ _ _ h => h) ?_ hS0 ?_
  · exact yieldsIf_load_mid (by rfl) 181 (.tmp 1) rfl b1 0 rfl (wyc a 0 0) d (fun W hW => hW.1.range0) HU.out HD.out (sizeWy _ _ _)
  simp only [Act.put, List.getElem_toArray, List.getElem_cons_zero, List.getElem_cons_succ, List.setIfInBounds_toArray, List.set_cons_zero, List.set_cons_succ]
  refine wpAnyH_ready (rs := [2]) (by kernel_rfl) (by simp) (AllReadyH.cons rfl (fun KK hKK => ?_) AllReadyH.nil)
  go_simp
  refine (HST.out w3).mono ?_
  rintro e w4 ⟨rfl, hb⟩
  replace hS0 : (fun W => Vl W b1 (wyc a 0 0) ∧ (∃ cs, cs.length = 3 ∧ Vl W b2 cs) ∧ Below b1 w W) w4 := ⟨hS0.1.keep hb, hS0.2.1.imp fun _ h => ⟨h.1, h.2.keep hb⟩, hS0.2.2.trans (hb.mono (Nat.le_of_lt hS0.1.lt))⟩
  clear hb
  refine hKK _ _ hS0 ?_
  intro _
  clear hKK KK
  try simp only [Act.put, List.getElem_toArray, List.getElem_cons_zero, List.getElem_cons_succ, List.setIfInBounds_toArray, List.set_cons_zero, List.set_cons_succ]
  refine wpAnyH_take (i := 3) (v := ?_) rfl (by kernel_rfl) (by kernel_rfl) (by kernel_rfl) (fun _ _ _ h => h) (Or.inl ⟨by rfl, ?_⟩) hS0 ?_
  rotate_left 1
  · intro W hW
    go_simp
    try with_reducible rfl
  simp only [Act.put, List.getElem_toArray, List.getElem_cons_zero, List.getElem_cons_succ, List.setIfInBounds_toArray, List.set_cons_zero, List.set_cons_succ]
  refine wpAnyH_ready (rs := [4]) (by kernel_rfl) (by simp) (AllReadyH.cons rfl (fun KK hKK => ?_) AllReadyH.nil)
  go_simp
  refine (HFI.out w4).mono ?_
  rintro e w5 ⟨rfl, hb⟩
  replace hS0 : (fun W => Vl W b1 (wyc a 0 0) ∧ (∃ cs, cs.length = 3 ∧ Vl W b2 cs) ∧ Below b1 w W) w5 := ⟨hS0.1.keep hb, hS0.2.1.imp fun _ h => ⟨h.1, h.2.keep hb⟩, hS0.2.2.trans (hb.mono (Nat.le_of_lt hS0.1.lt))⟩
  clear hb
  refine hKK _ _ hS0 ?_
  intro _
  clear hKK KK
  try simp only [Act.put, List.getElem_toArray, List.getElem_cons_zero, List.getElem_cons_succ, List.setIfInBounds_toArray, List.set_cons_zero, List.set_cons_succ]
  obtain ⟨cs, hcl, hVb⟩ := hS0.2.1
  have PF := Lib.hid (hVb.stored (wyc 0 0 0) (by rw [hcl]; rfl))
  refine wpAnyH_ready (rs := [5]) (by kernel_rfl) (by simp) (AllReadyH.cons rfl (fun KK hKK => ?_) AllReadyH.nil)
  refine step_store_mid rfl 181 _ _ rfl b2 0 (wyc 0 0 0).toArray rfl rfl (hVb.there0 3 (by rw [hcl])) (sizeWy _ _ _) (all_oneCell_toArray (wyc_one _ _ _)) ?_
  have hk : Kp w5 (w5.setCells b2 0 (wyc 0 0 0)) b2 b2 := (Kp.refl w5 b2 b2).setCells b2 0 (.inl rfl) _
  have hS1 : (fun W => Vl W b1 (wyc a 0 0) ∧ (∃ cs, cs.length = 3 ∧ Vl W b2 cs) ∧ Below b1 w W) (w5.setCells b2 0 (wyc 0 0 0)) := ⟨hS0.1.kp hk (by omega) (by omega), ⟨_, rfl, PF.out⟩, hS0.2.2.trans (hk.below (by omega) (by omega) (Nat.le_of_lt hS0.1.lt))⟩
  obtain ⟨w6, hw6⟩ : ∃ x, w5.setCells b2 0 (wyc 0 0 0) = x := ⟨_, rfl⟩
  change KK _ (w5.setCells b2 0 (wyc 0 0 0))
  rw [hw6] at hS1 PF ⊢
  clear hS0 hw6 hk
  refine hKK _ _ hS1 ?_
  intro _
  clear hKK KK
  try simp only [Act.put, List.getElem_toArray, List.getElem_cons_zero, List.getElem_cons_succ, List.setIfInBounds_toArray, List.set_cons_zero, List.set_cons_succ]
  refine wpAnyH_done (by kernel_rfl) ?_ _
  have HBz := Lib.hid hS1.2.2
  clear hS1
  go_wp2_with fail
  exact bodyPost_ret_by (results_mid rfl _ _ b2 _ d rfl PF.out.range0 HU.out HD.out (sizeWy _ _ _)) rfl ⟨rfl, by rw [HW.out]; exact HBz.out⟩
set_option maxHeartbeats 8000000 in
set_option maxRecDepth 100000 in
theorem up2 (a b : Int) (ha : 0 < a) (hb : 0 < b) (w : World) : Calls Tryz.prog 107 #[.agg (wyc a b 0).toArray] w fun e w' => e = .returned (.agg (wyc a 0 0).toArray) ∧ Below w.heap.size w w' := by
  obtain ⟨d, hu, hd⟩ := Tryz.descWy
  have HU := Lib.hid hu
  have HD := Lib.hid hd
  have HST := Lib.hid (fun W => steps2 a b ha hb W)
  have HFI := Lib.hid (fun W => first1 a b 0 W)
  clear hu hd ha hb
  go_enter Tryz.func107, Tryz.ntmps107
  go_upto_region 1 with (first | (refine wpList_box_list (w := w) rfl 181 _ rfl (wyc a b 0) rfl ?_; intro w1 F1 hb1 hz1; have HB1 := Lib.hid hb1; have hq1 : w.heap.size < w1.heap.size := (by omega); clear hb1 hz1) | (refine wpList_alloc_list (w := w1) rfl 181 rfl (wyc 0 0 0) Tryz.zeroWy ?_; intro w2 F2 hb2 hz2; have HB2 := Lib.hid hb2; have hq2 : w1.heap.size < w2.heap.size := (by omega); clear hb2 hz2))
  obtain ⟨b1, hb1⟩ : ∃ b, w.heap.size = b := ⟨_, rfl⟩
  obtain ⟨b2, hb2⟩ : ∃ b, w1.heap.size = b := ⟨_, rfl⟩
  have G1 := Lib.hid (F1.out.keep HB2.out)
  have HB := Lib.hid (HB1.out.trans (HB2.out.mono HB1.out.size))
  rw [hb1, hb2] at hq1
  rw [hb2] at hq2
  rw [hb1] at G1 HB
  rw [hb2] at F2
  have HW := Lib.hid hb1
  try rw [hb1]
  try rw [hb2]
  clear hb1 hb2 HB1 HB2 F1
  refine wp_region_held (S := fun W => Vl W b1 (wyc a b 0) ∧ (∃ cs, cs.length = 3 ∧ Vl W b2 cs) ∧ Below b1 w W) (by kernel_rfl) ?_
  change wpAnyH _ _ _ _ _ _ _ _ (World.drew _)
  have hS0 : (fun W => Vl W b1 (wyc a b 0) ∧ (∃ cs, cs.length = 3 ∧ Vl W b2 cs) ∧ Below b1 w W) w2.drew := ⟨G1.out.keep (Below.refl _ _).drew, ⟨_, rfl, F2.out.keep (Below.refl _ _).drew⟩, HB.out.drew⟩
  obtain ⟨w3, hw3⟩ : ∃ x, World.drew w2 = x := ⟨_, rfl⟩
  rw [hw3] at hS0  ⊢
  clear hw3
  refine wpAnyH_take (i := 0) (v := .agg (wyc a b 0).toArray) rfl (by kernel_rfl) (by kernel_rfl) (by kernel_rfl) (fun _ _ _ h => h) ?_ hS0 ?_
  · exact yieldsIf_load_mid (by rfl) 181 (.tmp 1) rfl b1 0 rfl (wyc a b 0) d (fun W hW => hW.1.range0) HU.out HD.out (sizeWy _ _ _)
  simp only [Act.put, List.getElem_toArray, List.getElem_cons_zero, List.getElem_cons_succ, List.setIfInBounds_toArray, List.set_cons_zero, List.set_cons_succ]
  refine wpAnyH_take (i := 1) (v := .agg (wyc a b 0).toArray) rfl (by kernel_rfl) (by kernel_rfl) (by kernel_rfl) (fun _ _ _ h => h) ?_ hS0 ?_
  · exact yieldsIf_load_mid (by rfl) 181 (.tmp 1) rfl b1 0 rfl (wyc a b 0) d (fun W hW => hW.1.range0) HU.out HD.out (sizeWy _ _ _)
  simp only [Act.put, List.getElem_toArray, List.getElem_cons_zero, List.getElem_cons_succ, List.setIfInBounds_toArray, List.set_cons_zero, List.set_cons_succ]
  refine wpAnyH_ready (rs := [2]) (by kernel_rfl) (by simp) (AllReadyH.cons rfl (fun KK hKK => ?_) AllReadyH.nil)
  go_simp
  refine (HST.out w3).mono ?_
  rintro e w4 ⟨rfl, hb⟩
  replace hS0 : (fun W => Vl W b1 (wyc a b 0) ∧ (∃ cs, cs.length = 3 ∧ Vl W b2 cs) ∧ Below b1 w W) w4 := ⟨hS0.1.keep hb, hS0.2.1.imp fun _ h => ⟨h.1, h.2.keep hb⟩, hS0.2.2.trans (hb.mono (Nat.le_of_lt hS0.1.lt))⟩
  clear hb
  refine hKK _ _ hS0 ?_
  intro _
  clear hKK KK
  try simp only [Act.put, List.getElem_toArray, List.getElem_cons_zero, List.getElem_cons_succ, List.setIfInBounds_toArray, List.set_cons_zero, List.set_cons_succ]
  refine wpAnyH_take (i := 3) (v := ?_) rfl (by kernel_rfl) (by kernel_rfl) (by kernel_rfl) (fun _ _ _ h => h) (Or.inl ⟨by rfl, ?_⟩) hS0 ?_
  rotate_left 1
  · intro W hW
    go_simp
    try with_reducible rfl
  simp only [Act.put, List.getElem_toArray, List.getElem_cons_zero, List.getElem_cons_succ, List.setIfInBounds_toArray, List.set_cons_zero, List.set_cons_succ]
  refine wpAnyH_ready (rs := [4]) (by kernel_rfl) (by simp) (AllReadyH.cons rfl (fun KK hKK => ?_) AllReadyH.nil)
  go_simp
  refine (HFI.out w4).mono ?_
  rintro e w5 ⟨rfl, hb⟩
  replace hS0 : (fun W => Vl W b1 (wyc a b 0) ∧ (∃ cs, cs.length = 3 ∧ Vl W b2 cs) ∧ Below b1 w W) w5 := ⟨hS0.1.keep hb, hS0.2.1.imp fun _ h => ⟨h.1, h.2.keep hb⟩, hS0.2.2.trans (hb.mono (Nat.le_of_lt hS0.1.lt))⟩
  clear hb
  refine hKK _ _ hS0 ?_
  intro _
  clear hKK KK
  try simp only [Act.put, List.getElem_toArray, List.getElem_cons_zero, List.getElem_cons_succ, List.setIfInBounds_toArray, List.set_cons_zero, List.set_cons_succ]
  obtain ⟨cs, hcl, hVb⟩ := hS0.2.1
  have PF := Lib.hid (hVb.stored (wyc a 0 0) (by rw [hcl]; rfl))
  refine wpAnyH_ready (rs := [5]) (by kernel_rfl) (by simp) (AllReadyH.cons rfl (fun KK hKK => ?_) AllReadyH.nil)
  refine step_store_mid rfl 181 _ _ rfl b2 0 (wyc a 0 0).toArray rfl rfl (hVb.there0 3 (by rw [hcl])) (sizeWy _ _ _) (all_oneCell_toArray (wyc_one _ _ _)) ?_
  have hk : Kp w5 (w5.setCells b2 0 (wyc a 0 0)) b2 b2 := (Kp.refl w5 b2 b2).setCells b2 0 (.inl rfl) _
  have hS1 : (fun W => Vl W b1 (wyc a b 0) ∧ (∃ cs, cs.length = 3 ∧ Vl W b2 cs) ∧ Below b1 w W) (w5.setCells b2 0 (wyc a 0 0)) := ⟨hS0.1.kp hk (by omega) (by omega), ⟨_, rfl, PF.out⟩, hS0.2.2.trans (hk.below (by omega) (by omega) (Nat.le_of_lt hS0.1.lt))⟩
  obtain ⟨w6, hw6⟩ : ∃ x, w5.setCells b2 0 (wyc a 0 0) = x := ⟨_, rfl⟩
  change KK _ (w5.setCells b2 0 (wyc a 0 0))
  rw [hw6] at hS1 PF ⊢
  clear hS0 hw6 hk
  refine hKK _ _ hS1 ?_
  intro _
  clear hKK KK
  try simp only [Act.put, List.getElem_toArray, List.getElem_cons_zero, List.getElem_cons_succ, List.setIfInBounds_toArray, List.set_cons_zero, List.set_cons_succ]
  refine wpAnyH_done (by kernel_rfl) ?_ _
  have HBz := Lib.hid hS1.2.2
  clear hS1
  go_wp2_with fail
  exact bodyPost_ret_by (results_mid rfl _ _ b2 _ d rfl PF.out.range0 HU.out HD.out (sizeWy _ _ _)) rfl ⟨rfl, by rw [HW.out]; exact HBz.out⟩
set_option maxHeartbeats 8000000 in
set_option maxRecDepth 100000 in
theorem up3 (a b c : Int) (ha : 0 < a) (hb : 0 < b) (hc : 0 < c) (w : World) : Calls Tryz.prog 107 #[.agg (wyc a b c).toArray] w fun e w' => e = .returned (.agg (wyc a b 0).toArray) ∧ Below w.heap.size w w' := by
  obtain ⟨d, hu, hd⟩ := Tryz.descWy
  have HU := Lib.hid hu
  have HD := Lib.hid hd
  have HST := Lib.hid (fun W => steps3 a b c ha hb hc W)
  have HFI := Lib.hid (fun W => first2 a b c W)
  clear hu hd ha hb hc
  go_enter Tryz.func107, Tryz.ntmps107
  go_upto_region 1 with (first | (refine wpList_box_list (w := w) rfl 181 _ rfl (wyc a b c) rfl ?_; intro w1 F1 hb1 hz1; have HB1 := Lib.hid hb1; have hq1 : w.heap.size < w1.heap.size := (by omega); clear hb1 hz1) | (refine wpList_alloc_list (w := w1) rfl 181 rfl (wyc 0 0 0) Tryz.zeroWy ?_; intro w2 F2 hb2 hz2; have HB2 := Lib.hid hb2; have hq2 : w1.heap.size < w2.heap.size := (by omega); clear hb2 hz2))
  obtain ⟨b1, hb1⟩ : ∃ b, w.heap.size = b := ⟨_, rfl⟩
  obtain ⟨b2, hb2⟩ : ∃ b, w1.heap.size = b := ⟨_, rfl⟩
  have G1 := Lib.hid (F1.out.keep HB2.out)
  have HB := Lib.hid (HB1.out.trans (HB2.out.mono HB1.out.size))
  rw [hb1, hb2] at hq1
  rw [hb2] at hq2
  rw [hb1] at G1 HB
  rw [hb2] at F2
  have HW := Lib.hid hb1
  try rw [hb1]
  try rw [hb2]
  clear hb1 hb2 HB1 HB2 F1
  refine wp_region_held (S := fun W => Vl W b1 (wyc a b c) ∧ (∃ cs, cs.length = 3 ∧ Vl W b2 cs) ∧ Below b1 w W) (by kernel_rfl) ?_
  change wpAnyH _ _ _ _ _ _ _ _ (World.drew _)
  have hS0 : (fun W => Vl W b1 (wyc a b c) ∧ (∃ cs, cs.length = 3 ∧ Vl W b2 cs) ∧ Below b1 w W) w2.drew := ⟨G1.out.keep (Below.refl _ _).drew, ⟨_, rfl, F2.out.keep (Below.refl _ _).drew⟩, HB.out.drew⟩
  obtain ⟨w3, hw3⟩ : ∃ x, World.drew w2 = x := ⟨_, rfl⟩
  rw [hw3] at hS0  ⊢
  clear hw3
  refine wpAnyH_take (i := 0) (v := .agg (wyc a b c).toArray) rfl (by kernel_rfl) (by kernel_rfl) (by kernel_rfl) (fun _ _ _ h => h) ?_ hS0 ?_
  · exact yieldsIf_load_mid (by rfl) 181 (.tmp 1) rfl b1 0 rfl (wyc a b c) d (fun W hW => hW.1.range0) HU.out HD.out (sizeWy _ _ _)
  simp only [Act.put, List.getElem_toArray, List.getElem_cons_zero, List.getElem_cons_succ, List.setIfInBounds_toArray, List.set_cons_zero, List.set_cons_succ]
  refine wpAnyH_take (i := 1) (v := .agg (wyc a b c).toArray) rfl (by kernel_rfl) (by kernel_rfl) (by kernel_rfl) (fun _ _ _ h => h) ?_ hS0 ?_
  · exact yieldsIf_load_mid (by rfl) 181 (.tmp 1) rfl b1 0 rfl (wyc a b c) d (fun W hW => hW.1.range0) HU.out HD.out (sizeWy _ _ _)
  simp only [Act.put, List.getElem_toArray, List.getElem_cons_zero, List.getElem_cons_succ, List.setIfInBounds_toArray, List.set_cons_zero, List.set_cons_succ]
  refine wpAnyH_ready (rs := [2]) (by kernel_rfl) (by simp) (AllReadyH.cons rfl (fun KK hKK => ?_) AllReadyH.nil)
  go_simp
  refine (HST.out w3).mono ?_
  rintro e w4 ⟨rfl, hb⟩
  replace hS0 : (fun W => Vl W b1 (wyc a b c) ∧ (∃ cs, cs.length = 3 ∧ Vl W b2 cs) ∧ Below b1 w W) w4 := ⟨hS0.1.keep hb, hS0.2.1.imp fun _ h => ⟨h.1, h.2.keep hb⟩, hS0.2.2.trans (hb.mono (Nat.le_of_lt hS0.1.lt))⟩
  clear hb
  refine hKK _ _ hS0 ?_
  intro _
  clear hKK KK
  try simp only [Act.put, List.getElem_toArray, List.getElem_cons_zero, List.getElem_cons_succ, List.setIfInBounds_toArray, List.set_cons_zero, List.set_cons_succ]
  refine wpAnyH_take (i := 3) (v := ?_) rfl (by kernel_rfl) (by kernel_rfl) (by kernel_rfl) (fun _ _ _ h => h) (Or.inl ⟨by rfl, ?_⟩) hS0 ?_
  rotate_left 1
  · intro W hW
    go_simp
    try with_reducible rfl
  simp only [Act.put, List.getElem_toArray, List.getElem_cons_zero, List.getElem_cons_succ, List.setIfInBounds_toArray, List.set_cons_zero, List.set_cons_succ]
  refine wpAnyH_ready (rs := [4]) (by kernel_rfl) (by simp) (AllReadyH.cons rfl (fun KK hKK => ?_) AllReadyH.nil)
  go_simp
  refine (HFI.out w4).mono ?_
  rintro e w5 ⟨rfl, hb⟩
  replace hS0 : (fun W => Vl W b1 (wyc a b c) ∧ (∃ cs, cs.length = 3 ∧ Vl W b2 cs) ∧ Below b1 w W) w5 := ⟨hS0.1.keep hb, hS0.2.1.imp fun _ h => ⟨h.1, h.2.keep hb⟩, hS0.2.2.trans (hb.mono (Nat.le_of_lt hS0.1.lt))⟩
  clear hb
  refine hKK _ _ hS0 ?_
  intro _
  clear hKK KK
  try simp only [Act.put, List.getElem_toArray, List.getElem_cons_zero, List.getElem_cons_succ, List.setIfInBounds_toArray, List.set_cons_zero, List.set_cons_succ]
  obtain ⟨cs, hcl, hVb⟩ := hS0.2.1
  have PF := Lib.hid (hVb.stored (wyc a b 0) (by rw [hcl]; rfl))
  refine wpAnyH_ready (rs := [5]) (by kernel_rfl) (by simp) (AllReadyH.cons rfl (fun KK hKK => ?_) AllReadyH.nil)
  refine step_store_mid rfl 181 _ _ rfl b2 0 (wyc a b 0).toArray rfl rfl (hVb.there0 3 (by rw [hcl])) (sizeWy _ _ _) (all_oneCell_toArray (wyc_one _ _ _)) ?_
  have hk : Kp w5 (w5.setCells b2 0 (wyc a b 0)) b2 b2 := (Kp.refl w5 b2 b2).setCells b2 0 (.inl rfl) _
  have hS1 : (fun W => Vl W b1 (wyc a b c) ∧ (∃ cs, cs.length = 3 ∧ Vl W b2 cs) ∧ Below b1 w W) (w5.setCells b2 0 (wyc a b 0)) := ⟨hS0.1.kp hk (by omega) (by omega), ⟨_, rfl, PF.out⟩, hS0.2.2.trans (hk.below (by omega) (by omega) (Nat.le_of_lt hS0.1.lt))⟩
  obtain ⟨w6, hw6⟩ : ∃ x, w5.setCells b2 0 (wyc a b 0) = x := ⟨_, rfl⟩
  change KK _ (w5.setCells b2 0 (wyc a b 0))
  rw [hw6] at hS1 PF ⊢
  clear hS0 hw6 hk
  refine hKK _ _ hS1 ?_
  intro _
  clear hKK KK
  try simp only [Act.put, List.getElem_toArray, List.getElem_cons_zero, List.getElem_cons_succ, List.setIfInBounds_toArray, List.set_cons_zero, List.set_cons_succ]
  refine wpAnyH_done (by kernel_rfl) ?_ _
  have HBz := Lib.hid hS1.2.2
  clear hS1
  go_wp2_with fail
  exact bodyPost_ret_by (results_mid rfl _ _ b2 _ d rfl PF.out.range0 HU.out HD.out (sizeWy _ _ _)) rfl ⟨rfl, by rw [HW.out]; exact HBz.out⟩
end Go.Proofs.YtbnpgkclnebnmaaGreat

namespace Go.Proofs
open Go.Shelf
def Tryz.lays189_ren : Go.Shelf.Ren := ⟨fun | 189 => 102 | 125 => 128 | 257 => 127 | 128 => 146 | 129 => 147 | 294 => 137 | 295 => 138 | 296 => 139 | 297 => 140 | 298 => 141 | 299 => 142 | 216 => 143 | 300 => 144 | 301 => 145 | 328 => 149 | 329 => 150 | 330 => 151 | 331 => 152 | 332 => 153 | 215 => 154 | 343 => 155 | n => n, fun | 28 => 153 | 3 => 3 | 46 => 57 | 0 => 0 | 51 => 65 | 53 => 253 | 4 => 4 | 183 => 246 | 182 => 245 | 131 => 215 | 5 => 5 | 9 => 9 | 218 => 255 | 222 => 259 | 228 => 261 | 229 => 84 | n => n, fun | n => n⟩
theorem Tryz.lays189 : Go.Proofs.Lays.n189 Tryz.prog Tryz.lays189_ren := {
  mixed := by kernel_rfl
  f125 := Tryz.func128.trans (congrArg some (by kernel_rfl))
  f128 := Tryz.func146.trans (congrArg some (by kernel_rfl))
  f129 := Tryz.func147.trans (congrArg some (by kernel_rfl))
  f189 := Tryz.func102.trans (congrArg some (by kernel_rfl))
  f215 := Tryz.func154.trans (congrArg some (by kernel_rfl))
  f216 := Tryz.func143.trans (congrArg some (by kernel_rfl))
  f257 := Tryz.func127.trans (congrArg some (by kernel_rfl))
  f294 := Tryz.func137.trans (congrArg some (by kernel_rfl))
  f295 := Tryz.func138.trans (congrArg some (by kernel_rfl))
  f296 := Tryz.func139.trans (congrArg some (by kernel_rfl))
  f297 := Tryz.func140.trans (congrArg some (by kernel_rfl))
  f298 := Tryz.func141.trans (congrArg some (by kernel_rfl))
  f299 := Tryz.func142.trans (congrArg some (by kernel_rfl))
  f300 := Tryz.func144.trans (congrArg some (by kernel_rfl))
  f301 := Tryz.func145.trans (congrArg some (by kernel_rfl))
  f328 := Tryz.func149.trans (congrArg some (by kernel_rfl))
  f329 := Tryz.func150.trans (congrArg some (by kernel_rfl))
  f330 := Tryz.func151.trans (congrArg some (by kernel_rfl))
  f331 := Tryz.func152.trans (congrArg some (by kernel_rfl))
  f332 := Tryz.func153.trans (congrArg some (by kernel_rfl))
  f343 := Tryz.func155.trans (congrArg some (by kernel_rfl))
  t0 := Tryz.underlying0
  a0 := Tryz.isAgg0
  z0 := Tryz.sizeOf0
  v0 := Tryz.zeroValue0
  t3 := Tryz.underlying3
  a3 := Tryz.isAgg3
  z3 := Tryz.sizeOf3
  v3 := Tryz.zeroValue3
  t4 := Tryz.underlying4
  a4 := Tryz.isAgg4
  z4 := Tryz.sizeOf4
  v4 := Tryz.zeroValue4
  t5 := Tryz.underlying5
  a5 := Tryz.isAgg5
  z5 := Tryz.sizeOf5
  v5 := Tryz.zeroValue5
  t9 := Tryz.underlying9
  a9 := Tryz.isAgg9
  z9 := Tryz.sizeOf9
  v9 := Tryz.zeroValue9
  t28 := Tryz.underlying153
  a28 := Tryz.isAgg153
  z28 := Tryz.sizeOf153
  v28 := Tryz.zeroValue153
  t46 := Tryz.underlying57
  a46 := Tryz.isAgg57
  z46 := Tryz.sizeOf57
  v46 := Tryz.zeroValue57
  t51 := Tryz.underlying65
  a51 := Tryz.isAgg65
  z51 := Tryz.sizeOf65
  v51 := Tryz.zeroValue65
  t53 := Tryz.underlying253
  a53 := Tryz.isAgg253
  z53 := Tryz.sizeOf253
  v53 := Tryz.zeroValue253
  t131 := Tryz.underlying215
  a131 := Tryz.isAgg215
  z131 := Tryz.sizeOf215
  v131 := Tryz.zeroValue215
  t182 := Tryz.underlying245
  a182 := Tryz.isAgg245
  z182 := Tryz.sizeOf245
  v182 := Tryz.zeroValue245
  t183 := Tryz.underlying246
  a183 := Tryz.isAgg246
  z183 := Tryz.sizeOf246
  v183 := Tryz.zeroValue246
  t218 := Tryz.underlying255
  a218 := Tryz.isAgg255
  z218 := Tryz.sizeOf255
  v218 := Tryz.zeroValue255
  t222 := Tryz.underlying259
  a222 := Tryz.isAgg259
  z222 := Tryz.sizeOf259
  v222 := Tryz.zeroValue259
  t228 := Tryz.underlying261
  a228 := Tryz.isAgg261
  z228 := Tryz.sizeOf261
  v228 := Tryz.zeroValue261
  t229 := Tryz.underlying84
  a229 := Tryz.isAgg84
  z229 := Tryz.sizeOf84
  v229 := Tryz.zeroValue84 }
open Go.Sort Go.RowKit in
theorem Tryz.slices_Sort_int (blk off cap : Nat) (zs : List Int) (w : World) (hH : Holds (Value.int .i64) w blk off zs.toArray) (hblk : blk < w.heap.size) (hsz : zs.length < 4611686018427387904) :
    Calls Tryz.prog 102 #[.slice (some ⟨blk, off, none⟩) zs.length cap] w fun e w' =>
      e = .returned (.tuple #[]) ∧ ∃ n os, w' = grow (putRow (Value.int .i64) (Sort.ahead w n) blk off (zs.mergeSort fun x y => decide (x ≤ y)).toArray) os := Any.slices_Sort_int Tryz.lays189 blk off cap zs w hH hblk hsz
end Go.Proofs
