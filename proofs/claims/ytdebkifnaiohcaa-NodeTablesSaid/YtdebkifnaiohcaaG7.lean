import Derived.Test.YtdebkifnaiohcaaG5
/- Awake; NodeSpreads and NodeAll: the walks. -/
namespace Go.Proofs.Ytdebkifnaiohcaa
set_option linter.unusedSimpArgs false
set_option linter.unusedVariables false
open Go.RowKit Go.Maps


def oneN : Nat → Int := fun i => if i = 0 ∨ i = 1 then 1 else 0
theorem oneN_ok : NdOk oneN := ⟨by decide, by decide, by decide, by decide, fun i h1 h2 => by
  unfold oneN
  rw [if_neg (by omega)]; decide⟩
theorem build27_one (w : World) : (Instr.build 27 #[(0, .int .u8 1), (1, .int .u8 1)]).run Try.prog w = .ok (.agg (ndc oneN).toArray) w := by kernel_rfl
theorem code_one : codeN oneN = 0 := by decide
set_option maxHeartbeats 4000000 in
set_option maxRecDepth 100000 in
theorem awake_any (w : World) : Calls Try.prog 7 #[] w fun e w' => e = .returned (.bool true) ∧ Below w.heap.size w w' := by
  have H1 : Hid (∀ W, Calls Try.prog 21 #[.int .i64 1000] W fun e w' => e = .returned (.tuple #[.int .i64 16, .int .i64 1]) ∧ w' = W) := fun W => spread_any 1000 (by decide) W
  have H2 : Hid (∀ W, Calls Try.prog 21 #[.int .i64 3000] W fun e w' => e = .returned (.tuple #[.int .i64 47, .int .i64 3]) ∧ w' = W) := fun W => spread_any 3000 (by decide) W
  have HC := Lib.hid (fun W => check_any oneN oneN_ok W)
  rw [code_one] at HC
  go_enter Try.func7, Try.ntmps7
  go_wp2_with fail
  refine (H1.out w).mono ?_
  rintro e wz ⟨rfl, hwz⟩
  rw [hwz]
  clear hwz
  go_wp2_with fail
  refine (H2.out w).mono ?_
  rintro e wz ⟨rfl, hwz⟩
  rw [hwz]
  clear hwz
  go_wp2_with (refine wpList_yields (.agg (ndc oneN).toArray) (yields_bld (by rfl) 27 _ rfl _ build27_one) ?_)
  refine (HC.out w).mono ?_
  rintro e w1 ⟨rfl, hb⟩
  have HB := Lib.hid hb
  clear hb
  go_wp2_with fail
  go_ret
  exact ⟨rfl, HB.out⟩
set_option maxHeartbeats 4000000 in
set_option maxRecDepth 100000 in
theorem spreads_walk (n : Int) (h0 : -9223372036854775808 ≤ n) (h1 : n < 9223372036854775808) (w : World) : Calls Try.prog 5 #[.int .i64 n] w fun e w' => e = .returned (.bool true) ∧ Below w.heap.size w w' := by
  have HA := Lib.hid (awake_any w)
  by_cases c : 100000 < n
  · go_enter Try.func5, Try.ntmps5
    go_wp2_with fail
    refine HA.out.mono ?_
    rintro e w1 ⟨rfl, hb⟩
    have HB := Lib.hid hb
    clear hb HA
    go_wp2_with fail
    go_ret
    exact ⟨rfl, HB.out⟩
  · have hx : dataS (max n 0 + 64) = dataS n + 1 := by unfold dataS; split <;> split <;> omega
    have hy : ptrS (dataS n) ≤ ptrS (dataS n + 1) ∧ ptrS (dataS n + 1) ≤ ptrS (dataS n) + 2 := by
      have := dataS_nonneg n
      unfold ptrS
      split <;> split <;> (try split) <;> (try split) <;> omega
    have hd : 0 ≤ dataS n ∧ dataS n ≤ 1600 := ⟨dataS_nonneg n, by unfold dataS; split <;> omega⟩
    have hp : 0 ≤ ptrS (dataS n) ∧ ptrS (dataS n) ≤ 1600 := by unfold ptrS; split <;> (try split) <;> omega
    have c' : n ≤ 100000 := by omega
    have HS := Lib.hid (fun W => spread_any n h1 W)
    have HR := Lib.hid (fun W => rspread_any n (by omega) W)
    have HT := Lib.hid (fun W => spread_any (max n 0 + 64) (by omega) W)
    rw [hx] at HT
    obtain ⟨d, hd'⟩ : ∃ d, dataS n = d := ⟨_, rfl⟩
    rw [hd'] at HS HR HT hy hd hp
    obtain ⟨p, hp'⟩ : ∃ p, ptrS d = p := ⟨_, rfl⟩
    rw [hp'] at HS HR hy hp
    obtain ⟨q, hq'⟩ : ∃ q, ptrS (d + 1) = q := ⟨_, rfl⟩
    rw [hq'] at HT hy
    obtain ⟨m, hm⟩ : ∃ m, max n 0 = m := ⟨_, rfl⟩
    have hm0 : 0 ≤ m ∧ m ≤ 100000 := by omega
    rw [hm] at HT
    have hmax : (if n < 0 then 0 else n) = m := by split <;> omega
    obtain ⟨d0, d1⟩ := hd
    obtain ⟨p0, p1⟩ := hp
    obtain ⟨q0, q1⟩ := hy
    obtain ⟨m0, m1⟩ := hm0
    clear hx hd' hp' hq' c
    go_enter Try.func5, Try.ntmps5
    go_wp2_with fail
    refine HA.out.mono ?_
    rintro e w1 ⟨rfl, hb⟩
    have HB := Lib.hid hb
    clear hb HA
    go_wp2_with fail
    refine (HS.out w1).mono ?_
    rintro e wz ⟨rfl, hwz⟩
    rw [hwz]
    clear hwz HS
    go_wp2_with fail
    refine (HR.out w1).mono ?_
    rintro e wz ⟨rfl, hwz⟩
    rw [hwz]
    clear hwz HR
    go_wp2_with fail
    refine (HT.out w1).mono ?_
    rintro e wz ⟨rfl, hwz⟩
    rw [hwz]
    clear hwz HT
    go_wp2_with fail
    go_ret
    exact ⟨rfl, HB.out⟩
set_option maxHeartbeats 4000000 in
set_option maxRecDepth 100000 in
theorem all_walk (N : Int) (h0 : 0 ≤ N) (h1 : N < 65536) (w : World) : Calls Try.prog 6 #[.int .u16 N] w fun e w' => e = .returned (.bool true) ∧ Below w.heap.size w w' := by
  have HA := Lib.hid (awake_any w)
  obtain ⟨s, hs⟩ : ∃ s, N % 16385 = s := ⟨_, rfl⟩
  have hst : N.tmod 16385 = s := by rw [Int.tmod_eq_emod_of_nonneg h0]; exact hs
  have hsb : 0 ≤ s ∧ s ≤ 16384 := by omega
  have HS := Lib.hid (fun W => spread_any s (by omega) W)
  have hd : 0 ≤ dataS s ∧ dataS s ≤ 256 ∧ s ≤ dataS s * 64 ∧ (dataS s - 1) * 64 < max s 1 := by unfold dataS; split <;> omega
  obtain ⟨d, hd'⟩ : ∃ d, dataS s = d := ⟨_, rfl⟩
  rw [hd'] at HS hd
  obtain ⟨m, hm⟩ : ∃ m, max s 1 = m := ⟨_, rfl⟩
  rw [hm] at hd
  obtain ⟨s0, s1⟩ := hsb
  obtain ⟨d0, d1, d2, d3⟩ := hd
  have m0 : 0 ≤ m := by omega
  have m1 : m ≤ 16384 := by omega
  have n1 : N ≤ 65535 := by omega
  clear hd' h1
  by_cases c1 : d ≤ 6
  · have hp : ptrS d = 0 := by unfold ptrS; rw [if_pos c1]
    rw [hp] at HS
    clear hp
    go_enter Try.func6, Try.ntmps6
    go_wp2_with fail
    refine HA.out.mono ?_
    rintro e w1 ⟨rfl, hb⟩
    have HB := Lib.hid hb
    clear hb HA
    go_wp2_with fail
    refine (HS.out w1).mono ?_
    rintro e wz ⟨rfl, hwz⟩
    rw [hwz]
    clear hwz HS
    go_wp2_with fail
    all_goals (go_ret; exact ⟨rfl, HB.out⟩)
  · by_cases c2 : d ≤ 38
    · have hp : ptrS d = 1 := by unfold ptrS; rw [if_neg c1, if_pos c2]
      rw [hp] at HS
      clear hp
      have e1 : 6 < d := by omega
      have e5 : 38 - d < 32 := by omega
      go_enter Try.func6, Try.ntmps6
      go_wp2_with fail
      refine HA.out.mono ?_
      rintro e w1 ⟨rfl, hb⟩
      have HB := Lib.hid hb
      clear hb HA
      go_wp2_with fail
      refine (HS.out w1).mono ?_
      rintro e wz ⟨rfl, hwz⟩
      rw [hwz]
      clear hwz HS
      go_wp2_with fail
      all_goals (go_ret; exact ⟨rfl, HB.out⟩)
    · have hp : ptrS d = 2 + ((d - 38 - 1) / 32 + 1) := by unfold ptrS; rw [if_neg c1, if_neg c2]
      obtain ⟨q, hq⟩ : ∃ q, (d - 38 - 1) / 32 + 1 = q := ⟨_, rfl⟩
      rw [hp, hq] at HS
      have q0 : 1 ≤ q := by omega
      have q1 : q ≤ 10 := by omega
      have q2 : d ≤ 38 + q * 32 := by omega
      have q3 : 38 + q * 32 - d < 32 := by omega
      obtain ⟨p, hp2⟩ : ∃ p, 2 + q = p := ⟨_, rfl⟩
      rw [hp2] at HS
      have p0 : 3 ≤ p := by omega
      have p1 : p ≤ 12 := by omega
      have p2 : d ≤ 6 + (32 + (p - 2) * 32) := by omega
      have p3 : 6 + (32 + (p - 2) * 32) - d < 32 := by omega
      have e1 : (p == 1) = false := by rw [beq_eq_false_iff_ne]; omega
      have e2 : (p == 2) = false := by rw [beq_eq_false_iff_ne]; omega
      have e3 : (p == 0) = false := by rw [beq_eq_false_iff_ne]; omega
      have e4 : (p != 2) = true := by rw [bne_iff_ne]; omega
      clear hp hq hp2 q0 q1 q2 q3 c1 c2
      go_enter Try.func6, Try.ntmps6
      go_wp2_with fail
      refine HA.out.mono ?_
      rintro e w1 ⟨rfl, hb⟩
      have HB := Lib.hid hb
      clear hb HA
      go_wp2_with fail
      refine (HS.out w1).mono ?_
      rintro e wz ⟨rfl, hwz⟩
      rw [hwz]
      clear hwz HS
      go_wp2_with fail
      all_goals (go_ret; exact ⟨rfl, HB.out⟩)
end Go.Proofs.Ytdebkifnaiohcaa
