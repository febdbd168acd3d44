import Derived.Test.YtdebkifnaiohcaaG4
/- mayBeLong, Check. -/
namespace Go.Proofs.Ytdebkifnaiohcaa
set_option linter.unusedSimpArgs false
set_option linter.unusedVariables false
open Go.RowKit Go.Maps


def mbl (k s : Int) : Bool := if k = 1 then decide (s ≤ 16384) else if k = 2 then decide (s ≤ 16384) && decide (s % 16 = 0) else if k = 3 ∨ k = 5 then decide (s = 0) else if k = 4 then decide (1 ≤ s) && decide (s ≤ 60) else false
theorem maybe_any (k s : Int) (hk : 0 ≤ k ∧ k < 256) (hs : 0 ≤ s ∧ s < 4294967296) (w : World) : Calls Try.prog 28 #[.int .u8 k, .int .u32 s] w fun e w' => e = .returned (.bool (mbl k s)) ∧ w' = w := by
  obtain ⟨hs0, hs1⟩ := hs
  by_cases k1 : k = 1
  · subst k1
    by_cases c : s ≤ 16384
    · have hm : mbl 1 s = true := by simp [mbl, c]
      rw [hm]
      clear hm
      go_enter Try.func28, Try.ntmps28
      go_wp2
      go_ret
      exact ⟨rfl, rfl⟩
    · have hm : mbl 1 s = false := by simp [mbl]; omega
      rw [hm]
      clear hm
      go_enter Try.func28, Try.ntmps28
      go_wp2
      go_ret
      exact ⟨rfl, rfl⟩
  by_cases k2 : k = 2
  · subst k2
    by_cases c : s ≤ 16384
    · by_cases c2 : s % 16 = 0
      · have hm : mbl 2 s = true := by simp [mbl, c, c2]
        have c3 : s.tmod 16 = 0 := by rw [Int.tmod_eq_emod_of_nonneg hs0]; exact c2
        rw [hm]
        clear hm
        go_enter Try.func28, Try.ntmps28
        go_wp2
        go_ret
        exact ⟨rfl, rfl⟩
      · have hm : mbl 2 s = false := by simp [mbl]; omega
        have c3 : (s % 16 == 0) = false := by simpa using c2
        have c4 : (s.tmod 16 == 0) = false := by rw [Int.tmod_eq_emod_of_nonneg hs0]; exact c3
        rw [hm]
        clear hm
        go_enter Try.func28, Try.ntmps28
        go_wp2
        go_ret
        exact ⟨rfl, rfl⟩
    · have hm : mbl 2 s = false := by simp [mbl]; omega
      have c' : decide (s ≤ 16384) = false := decide_eq_false c
      rw [hm]
      clear hm
      go_enter Try.func28, Try.ntmps28
      go_wp2
      go_ret
      exact ⟨rfl, rfl⟩
  by_cases k3 : k = 3
  · subst k3
    by_cases c : s = 0
    · have hm : mbl 3 s = true := by simp [mbl, c]
      rw [hm]
      subst c
      clear hm
      go_enter Try.func28, Try.ntmps28
      go_wp2
      go_ret
      exact ⟨rfl, rfl⟩
    · have hm : mbl 3 s = false := by simp [mbl]; omega
      have c' : (s == 0) = false := by simpa using c
      rw [hm]
      clear hm
      go_enter Try.func28, Try.ntmps28
      go_wp2
      go_ret
      exact ⟨rfl, rfl⟩
  by_cases k5 : k = 5
  · subst k5
    by_cases c : s = 0
    · have hm : mbl 5 s = true := by simp [mbl, c]
      rw [hm]
      subst c
      clear hm
      go_enter Try.func28, Try.ntmps28
      go_wp2
      go_ret
      exact ⟨rfl, rfl⟩
    · have hm : mbl 5 s = false := by simp [mbl]; omega
      have c' : (s == 0) = false := by simpa using c
      rw [hm]
      clear hm
      go_enter Try.func28, Try.ntmps28
      go_wp2
      go_ret
      exact ⟨rfl, rfl⟩
  by_cases k4 : k = 4
  · subst k4
    by_cases c : 1 ≤ s
    · by_cases c2 : s ≤ 60
      · have hm : mbl 4 s = true := by simp [mbl, c, c2]
        rw [hm]
        clear hm
        go_enter Try.func28, Try.ntmps28
        go_wp2
        go_ret
        exact ⟨rfl, rfl⟩
      · have hm : mbl 4 s = false := by simp [mbl]; omega
        rw [hm]
        clear hm
        go_enter Try.func28, Try.ntmps28
        go_wp2
        go_ret
        exact ⟨rfl, rfl⟩
    · have hm : mbl 4 s = false := by simp [mbl]; omega
      have c' : decide (1 ≤ s) = false := decide_eq_false c
      have c'' : s = 0 := by omega
      rw [hm]
      subst c''
      clear hm
      go_enter Try.func28, Try.ntmps28
      go_wp2
      go_ret
      exact ⟨rfl, rfl⟩
  · have hm : mbl k s = false := by simp [mbl, k1, k2, k3, k4, k5]
    have e1 : (k == 1) = false := by simpa using k1
    have e2 : (k == 2) = false := by simpa using k2
    have e3 : (k == 3) = false := by simpa using k3
    have e4 : (k == 4) = false := by simpa using k4
    have e5 : (k == 5) = false := by simpa using k5
    rw [hm]
    clear hm
    go_enter Try.func28, Try.ntmps28
    go_wp2
    go_ret
    exact ⟨rfl, rfl⟩

/-- may it be a node? -/
def okN (f : Nat → Int) : Bool := blankB f || (decide (0 < f 1) && mbl (f 0) (f 3))
def codeN (f : Nat → Int) : Int := if okN f = true then 0 else 28
set_option maxHeartbeats 4000000 in
set_option maxRecDepth 100000 in
theorem check_any (f : Nat → Int) (hf : NdOk f) (w : World) : Calls Try.prog 12 #[.agg (ndc f).toArray] w fun e w' => e = .returned (.int .i64 (codeN f)) ∧ Below w.heap.size w w' := by
  obtain ⟨d, hu, hd⟩ := Try.desc27
  have HU := Lib.hid hu
  have HD := Lib.hid hd
  have HB := Lib.hid (fun W => blank_any f hf W)
  have HM := Lib.hid (fun W => maybe_any (f 0) (f 3) hf.k hf.s W)
  have hl := hf.l
  have HC : Hid (codeN f = if (blankB f || (decide (0 < f 1) && mbl (f 0) (f 3))) = true then 0 else 28) := rfl
  obtain ⟨C, hC⟩ : ∃ C, codeN f = C := ⟨_, rfl⟩
  rw [hC] at HC ⊢
  obtain ⟨g0, hg0⟩ : ∃ x, f 0 = x := ⟨_, rfl⟩
  obtain ⟨g1, hg1⟩ : ∃ x, f 1 = x := ⟨_, rfl⟩
  obtain ⟨g3, hg3⟩ : ∃ x, f 3 = x := ⟨_, rfl⟩
  rw [hg0, hg3] at HM
  rw [hg1] at hl
  rw [hg0, hg1, hg3] at HC
  obtain ⟨hl0, hl1⟩ := hl
  have HG0 := Lib.hid hg0
  have HG1 := Lib.hid hg1
  have HG3 := Lib.hid hg3
  obtain ⟨b, hb⟩ : ∃ b, blankB f = b := ⟨_, rfl⟩
  obtain ⟨m, hm⟩ : ∃ m, mbl g0 g3 = m := ⟨_, rfl⟩
  rw [hb] at HB HC
  rw [hm] at HM HC
  clear hC hu hd hf hb hm hg0 hg1 hg3
  cases b
  · by_cases c : 0 < g1
    · cases m
      · have hC : C = 28 := by rw [HC.out]; simp
        subst hC
        clear HC
        go_enter Try.func12, Try.ntmps12
        go_wp2_with (first | (refine wpList_box_list rfl 27 _ rfl (ndc f) rfl ?_; intro w1 F1 hb1 hz1; have HB1 := Lib.hid hb1; have c0 := F1.out.c 0 _ rfl; have c1 := F1.out.c 1 _ rfl; have c3 := F1.out.c 3 _ rfl; rw [HG0.out] at c0; rw [HG1.out] at c1; rw [HG3.out] at c3; clear hb1 hz1) | (refine wpList_load_mid rfl 27 _ rfl w.heap.size 0 rfl (ndc f) d F1.out.range0 HU.out HD.out (size27 f) ?_))
        clear c0 c1 c3
        refine (HB.out w1).mono ?_
        rintro e w2 ⟨rfl, hb2⟩
        have HB2 := Lib.hid (HB1.out.trans (hb2.mono HB1.out.size))
        have F2 := Lib.hid (F1.out.below hb2 F1.out.lt)
        have c0 := F2.out.c 0 _ rfl
        have c1 := F2.out.c 1 _ rfl
        have c3 := F2.out.c 3 _ rfl
        rw [HG0.out] at c0
        rw [HG1.out] at c1
        rw [HG3.out] at c3
        clear hb2 HB1 F1 HB
        go_wp2_with fail
        refine (HM.out w2).mono ?_
        rintro e wz ⟨rfl, hwz⟩
        rw [hwz]
        clear hwz
        go_wp2_with fail
        go_ret
        exact ⟨rfl, HB2.out⟩
      · have hC : C = 0 := by rw [HC.out]; simp [c]
        subst hC
        clear HC
        go_enter Try.func12, Try.ntmps12
        go_wp2_with (first | (refine wpList_box_list rfl 27 _ rfl (ndc f) rfl ?_; intro w1 F1 hb1 hz1; have HB1 := Lib.hid hb1; have c0 := F1.out.c 0 _ rfl; have c1 := F1.out.c 1 _ rfl; have c3 := F1.out.c 3 _ rfl; rw [HG0.out] at c0; rw [HG1.out] at c1; rw [HG3.out] at c3; clear hb1 hz1) | (refine wpList_load_mid rfl 27 _ rfl w.heap.size 0 rfl (ndc f) d F1.out.range0 HU.out HD.out (size27 f) ?_))
        clear c0 c1 c3
        refine (HB.out w1).mono ?_
        rintro e w2 ⟨rfl, hb2⟩
        have HB2 := Lib.hid (HB1.out.trans (hb2.mono HB1.out.size))
        have F2 := Lib.hid (F1.out.below hb2 F1.out.lt)
        have c0 := F2.out.c 0 _ rfl
        have c1 := F2.out.c 1 _ rfl
        have c3 := F2.out.c 3 _ rfl
        rw [HG0.out] at c0
        rw [HG1.out] at c1
        rw [HG3.out] at c3
        clear hb2 HB1 F1 HB
        go_wp2_with fail
        refine (HM.out w2).mono ?_
        rintro e wz ⟨rfl, hwz⟩
        rw [hwz]
        clear hwz
        go_wp2_with fail
        go_ret
        exact ⟨rfl, HB2.out⟩
    · have c' : g1 = 0 := by omega
      have hC : C = 28 := by rw [HC.out]; simp [c']
      subst hC
      clear HC
      go_enter Try.func12, Try.ntmps12
      go_wp2_with (first | (refine wpList_box_list rfl 27 _ rfl (ndc f) rfl ?_; intro w1 F1 hb1 hz1; have HB1 := Lib.hid hb1; have c0 := F1.out.c 0 _ rfl; have c1 := F1.out.c 1 _ rfl; have c3 := F1.out.c 3 _ rfl; rw [HG0.out] at c0; rw [HG1.out] at c1; rw [HG3.out] at c3; clear hb1 hz1) | (refine wpList_load_mid rfl 27 _ rfl w.heap.size 0 rfl (ndc f) d F1.out.range0 HU.out HD.out (size27 f) ?_))
      clear c0 c1 c3
      refine (HB.out w1).mono ?_
      rintro e w2 ⟨rfl, hb2⟩
      have HB2 := Lib.hid (HB1.out.trans (hb2.mono HB1.out.size))
      have F2 := Lib.hid (F1.out.below hb2 F1.out.lt)
      have c0 := F2.out.c 0 _ rfl
      have c1 := F2.out.c 1 _ rfl
      have c3 := F2.out.c 3 _ rfl
      rw [HG0.out] at c0
      rw [HG1.out] at c1
      rw [HG3.out] at c3
      clear hb2 HB1 F1 HB
      go_wp2_with fail
      go_ret
      exact ⟨rfl, HB2.out⟩
  · have hC : C = 0 := by rw [HC.out]; simp
    subst hC
    clear HC
    go_enter Try.func12, Try.ntmps12
    go_wp2_with (first | (refine wpList_box_list rfl 27 _ rfl (ndc f) rfl ?_; intro w1 F1 hb1 hz1; have HB1 := Lib.hid hb1; have c0 := F1.out.c 0 _ rfl; have c1 := F1.out.c 1 _ rfl; have c3 := F1.out.c 3 _ rfl; rw [HG0.out] at c0; rw [HG1.out] at c1; rw [HG3.out] at c3; clear hb1 hz1) | (refine wpList_load_mid rfl 27 _ rfl w.heap.size 0 rfl (ndc f) d F1.out.range0 HU.out HD.out (size27 f) ?_))
    clear c0 c1 c3
    refine (HB.out w1).mono ?_
    rintro e w2 ⟨rfl, hb2⟩
    have HB2 := Lib.hid (HB1.out.trans (hb2.mono HB1.out.size))
    have F2 := Lib.hid (F1.out.below hb2 F1.out.lt)
    have c0 := F2.out.c 0 _ rfl
    have c1 := F2.out.c 1 _ rfl
    have c3 := F2.out.c 3 _ rfl
    rw [HG0.out] at c0
    rw [HG1.out] at c1
    rw [HG3.out] at c3
    clear hb2 HB1 F1 HB
    go_wp2_with fail
    go_ret
    exact ⟨rfl, HB2.out⟩
end Go.Proofs.Ytdebkifnaiohcaa
