import Derived.Test.YtdebkifnaiohcaaG1
import Derived.LoopTactic
/- Spread, the code's and the answer's. -/
namespace Go.Proofs.Ytdebkifnaiohcaa
set_option linter.unusedSimpArgs false
set_option linter.unusedVariables false
open Go.RowKit Go.Maps


theorem dataS_nonneg (n : Int) : 0 ≤ dataS n := by unfold dataS; split <;> omega
set_option maxHeartbeats 1000000 in
theorem spread_any (n : Int) (h1 : n < 9223372036854775808) (w : World) : Calls Try.prog 21 #[.int .i64 n] w fun e w' => e = .returned (.tuple #[.int .i64 (dataS n), .int .i64 (ptrS (dataS n))]) ∧ w' = w := by
  have HD : Hid (∀ W, Calls Try.prog 38 #[.int .i64 n, .int .i64 64] W fun e w' => e = .returned (.int .i64 (dataS n)) ∧ w' = W) := fun W => by
    unfold dataS
    by_cases h : n ≤ 0
    · rw [if_pos h]; exact parts_neg n 64 h W
    · rw [if_neg h]; exact parts_64 n (by omega) h1 W
  have hb : 0 ≤ dataS n ∧ dataS n ≤ 144115188075855872 := by unfold dataS; split <;> omega
  obtain ⟨d, hd⟩ : ∃ d, dataS n = d := ⟨_, rfl⟩
  rw [hd] at HD hb ⊢
  clear hd
  obtain ⟨d0, d1⟩ := hb
  by_cases c1 : d ≤ 6
  · have hp : ptrS d = 0 := by unfold ptrS; rw [if_pos c1]
    rw [hp]
    clear hp
    go_enter Try.func21, Try.ntmps21
    go_wp2_with fail
    refine (HD.out w).mono ?_
    rintro e wz ⟨rfl, hwz⟩
    rw [hwz]
    clear hwz HD
    go_wp2_with fail
    refine bodyPost_ret (v := .tuple #[.int .i64 d, .int .i64 0]) (by simp [results, Try.results21, go_sem]) rfl ⟨rfl, rfl⟩
  · by_cases c2 : d ≤ 38
    · have hp : ptrS d = 1 := by unfold ptrS; rw [if_neg c1, if_pos c2]
      rw [hp]
      clear hp
      have c1' : 6 < d := by omega
      go_enter Try.func21, Try.ntmps21
      go_wp2_with fail
      refine (HD.out w).mono ?_
      rintro e wz ⟨rfl, hwz⟩
      rw [hwz]
      clear hwz HD
      go_wp2_with fail
      refine bodyPost_ret (v := .tuple #[.int .i64 d, .int .i64 1]) (by simp [results, Try.results21, go_sem]) rfl ⟨rfl, rfl⟩
    · have HP : Hid (∀ W, Calls Try.prog 38 #[.int .i64 (d - 38), .int .i64 32] W fun e w' => e = .returned (.int .i64 (ptrS d - 2)) ∧ w' = W) := fun W => by
        have hp : ptrS d - 2 = (d - 38 - 1) / 32 + 1 := by unfold ptrS; rw [if_neg c1, if_neg c2]; omega
        rw [hp]
        exact parts_32 (d - 38) (by omega) (by omega) W
      have hb : 2 ≤ ptrS d ∧ ptrS d ≤ 144115188075855872 := by unfold ptrS; rw [if_neg c1, if_neg c2]; omega
      obtain ⟨p, hp⟩ : ∃ p, ptrS d - 2 = p := ⟨_, rfl⟩
      have hp2 : ptrS d = 2 + p := by omega
      rw [hp] at HP
      rw [hp2] at hb ⊢
      clear hp hp2
      obtain ⟨p0, p1⟩ := hb
      have c1' : 6 < d := by omega
      have c2' : 38 < d := by omega
      have q0 : 0 ≤ p := by omega
      have q1 : p ≤ 144115188075855872 := by omega
      clear p0 p1 c1 c2
      go_enter Try.func21, Try.ntmps21
      go_wp2_with fail
      refine (HD.out w).mono ?_
      rintro e wz ⟨rfl, hwz⟩
      rw [hwz]
      clear hwz HD
      go_wp2_with fail
      refine (HP.out w).mono ?_
      rintro e wz ⟨rfl, hwz⟩
      rw [hwz]
      clear hwz HP
      go_wp2_with fail
      refine bodyPost_ret (v := .tuple #[.int .i64 d, .int .i64 (2 + p)]) (by simp [results, Try.results21, go_sem]) rfl ⟨rfl, rfl⟩
set_option maxHeartbeats 2000000 in
theorem rspread_any (n : Int) (h1 : n ≤ 200000) (w : World) : Calls Try.prog 22 #[.int .i64 n] w fun e w' => e = .returned (.tuple #[.int .i64 (dataS n), .int .i64 (ptrS (dataS n))]) ∧ w' = w := by
  go_enter Try.func22, Try.ntmps22
  go_wp2_with fail
  go_loop [4] (fun d => ∃ k : Nat, d = .int .i64 k ∧ k ≤ 4000 ∧ (k = 0 ∨ ((k : Int) - 1) * 64 < n)) (fun d => (n - 64 * intOf d).toNat)
  case atStart => exact ⟨0, rfl, by omega, .inl rfl⟩
  case round =>
    obtain ⟨k, rfl, hk, hkn⟩ := hrel
    have HK := Lib.hid hkn
    clear hkn
    by_cases c : (k : Int) * 64 < n
    · go_wp2_with fail
      go_round
      case rel => exact ⟨k + 1, by go_num, by omega, .inr (by omega)⟩
      case measure => simp [intOf]; omega
    · have hd : dataS n = k := by
        have := HK.out
        unfold dataS
        split <;> omega
      have HD := Lib.hid hd
      clear hd HK h1
      have c' : n ≤ (k : Int) * 64 := by omega
      by_cases c1 : k ≤ 6
      · have hp : ptrS k = 0 := by unfold ptrS; rw [if_pos (by omega)]
        have HP := Lib.hid hp
        clear hp
        have c1' : (k : Int) ≤ 6 := by omega
        go_wp2_with fail
        refine bodyPost_ret (v := .tuple #[.int .i64 (k : Int), .int .i64 0]) (by simp [results, Try.results22, go_sem]) rfl ⟨by rw [HD.out, HP.out], rfl⟩
      · by_cases c2 : k ≤ 38
        · have hp : ptrS k = 1 := by unfold ptrS; rw [if_neg (by omega), if_pos (by omega)]
          have HP := Lib.hid hp
          clear hp
          have c1' : 6 < (k : Int) := by omega
          have c2' : (k : Int) ≤ 38 := by omega
          go_wp2_with fail
          refine bodyPost_ret (v := .tuple #[.int .i64 (k : Int), .int .i64 1]) (by simp [results, Try.results22, go_sem]) rfl ⟨by rw [HD.out, HP.out], rfl⟩
        · have c1' : 6 < (k : Int) := by omega
          have c2' : 38 < (k : Int) := by omega
          go_wp2_with fail
          clear c c1 c2
          go_loop [5] (fun d => ∃ j : Nat, d = .int .i64 j ∧ j ≤ 200 ∧ (j = 0 ∨ ((j : Int) - 1) * 32 < (k : Int) - 38)) (fun d => ((k : Int) - 38 - 32 * intOf d).toNat)
          case atStart => exact ⟨0, rfl, by omega, .inl rfl⟩
          case round =>
            obtain ⟨j, rfl, hj, hjn⟩ := hrel
            have HJ := Lib.hid hjn
            clear hjn
            by_cases c3 : (j : Int) * 32 < (k : Int) - 38
            · go_wp2_with fail
              go_round
              case rel => exact ⟨j + 1, by go_num, by omega, .inr (by omega)⟩
              case measure => simp [intOf]; omega
            · have hp : ptrS k = 2 + (j : Int) := by
                have := HJ.out
                unfold ptrS
                rw [if_neg (by omega), if_neg (by omega)]
                omega
              have HP := Lib.hid hp
              clear hp HJ
              have c3' : (k : Int) - 38 ≤ (j : Int) * 32 := by omega
              go_wp2_with fail
              refine bodyPost_ret (v := .tuple #[.int .i64 (k : Int), .int .i64 (2 + (j : Int))]) (by simp [results, Try.results22, go_sem]) rfl ⟨by rw [HD.out, HP.out], rfl⟩
end Go.Proofs.Ytdebkifnaiohcaa
