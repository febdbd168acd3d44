import Derived.Test.YtdebkifnaiohcaaG5
/- The answer's Check. -/
namespace Go.Proofs.Ytdebkifnaiohcaa
set_option linter.unusedSimpArgs false
set_option linter.unusedVariables false
open Go.RowKit Go.Maps


def zf : Nat → Int := fun _ => 0
def drc (f : Nat → Int) : List Value := [.int .u16 (f 4), .int .u16 (f 5), .int .u16 (f 6), .int .u16 (f 7), .int .u16 (f 8), .int .u16 (f 9)]
def drl (f : Nat → Int) : List Lit := [.int .u16 (f 4), .int .u16 (f 5), .int .u16 (f 6), .int .u16 (f 7), .int .u16 (f 8), .int .u16 (f 9)]
theorem Try.key25 : Try.prog.keyTypeAt 2 25 = true := by kernel_rfl
theorem Try.guard25 : Try.prog.eqGuardType Try.prog.depth 25 = false := by kernel_rfl
theorem Try.isize25 : (Try.prog.info? 25).map (·.size) = some 6 := by kernel_rfl
theorem size25 (f : Nat → Int) : (Try.prog.info? 25).map (·.size) = some (drc f).length := Try.isize25
theorem Try.desc25 : ∃ d, Try.prog.underlying 25 = some d ∧ d.isRow = true := ⟨_, Try.underlying25, rfl⟩
theorem build25_zero (w : World) : (Instr.build 25 #[]).run Try.prog w = .ok (.agg (drc zf).toArray) w := by kernel_rfl
theorem drl_is (f : Nat → Int) (h : ∀ i, 4 ≤ i → i < 12 → 0 ≤ f i ∧ f i < 65536) : Try.prog.keyLits 4 25 (drc f) = some (drl f) := by
  have w4 := wf16 _ (h 4 (by decide) (by decide))
  have w5 := wf16 _ (h 5 (by decide) (by decide))
  have w6 := wf16 _ (h 6 (by decide) (by decide))
  have w7 := wf16 _ (h 7 (by decide) (by decide))
  have w8 := wf16 _ (h 8 (by decide) (by decide))
  have w9 := wf16 _ (h 9 (by decide) (by decide))
  simp [drc, drl, Program.keyLits, Try.underlying25, Try.underlying23, Try.cl25, Try.cl23, w4, w5, w6, w7, w8, w9, List.range, List.range.loop]
theorem drl_zero : Try.prog.keyLits 4 25 (drc zf) = some (drl zf) := by kernel_rfl
theorem drc_formed (f : Nat → Int) : (Value.agg (drc f).toArray).formed Try.prog 25 = true := by simp [Value.formed, Try.underlying25, Try.cl25, drc]
def drB (f : Nat → Int) : Bool := (f 4 == 0) && (f 5 == 0) && (f 6 == 0) && (f 7 == 0) && (f 8 == 0) && (f 9 == 0)
theorem eq25 (f : Nat → Int) (h : ∀ i, 4 ≤ i → i < 12 → 0 ≤ f i ∧ f i < 65536) (w : World) : (Op.equalIn 10000 25 (.agg (drc f).toArray) (.agg (drc zf).toArray)).run Try.prog w = .ok (drB f) w := by
  obtain ⟨r, hr, hiff⟩ := run_equalIn_deep (P := Try.prog) 9998 2 25 Try.key25 w 4 4 _ _ _ _ (drc_formed f) (drc_formed zf) (drl_is f h) drl_zero
  rw [show 9998 + 2 = 10000 from rfl] at hr
  rw [hr]
  have hd : drl f = drl zf ↔ drB f = true := by
    unfold drl drB zf
    simp only [List.cons.injEq, Lit.int.injEq, true_and, and_true, Bool.and_eq_true, beq_iff_eq, and_assoc]
  rw [show r = drB f from Bool.eq_iff_iff.2 (hiff.trans hd)]
theorem Vl.range4 {w : World} {g : Nat} {f : Nat → Int} (h : Vl w g (ndc f)) : w.rangeAt g 4 (drc f) := fun j v hj => h.c (4 + j) v (by
  have hj6 : j < 6 := (List.getElem?_eq_some_iff.1 hj).1
  match j, hj6 with
  | 0, _ | 1, _ | 2, _ | 3, _ | 4, _ | 5, _ => exact hj)
theorem blank_iff (f : Nat → Int) : blankB f = (((f 0 == 0) && (f 1 == 0) && (f 3 == 0) && (f 10 == 0) && (f 11 == 0)) && drB f) := by
  rw [Bool.eq_iff_iff]
  unfold blankB drB
  rw [eqb_iff]
  simp only [Bool.and_eq_true, beq_iff_eq]
  constructor
  · intro h
    have e (i : Nat) (hi : i < 12) (h2 : i ≠ 2) : f i = 0 := by rw [h i hi]; unfold genN; rw [if_neg h2]
    exact ⟨⟨⟨⟨⟨e 0 (by decide) (by decide), e 1 (by decide) (by decide)⟩, e 3 (by decide) (by decide)⟩, e 10 (by decide) (by decide)⟩, e 11 (by decide) (by decide)⟩, ⟨⟨⟨⟨⟨e 4 (by decide) (by decide), e 5 (by decide) (by decide)⟩, e 6 (by decide) (by decide)⟩, e 7 (by decide) (by decide)⟩, e 8 (by decide) (by decide)⟩, e 9 (by decide) (by decide)⟩⟩
  · rintro ⟨⟨⟨⟨⟨h0, h1⟩, h3⟩, h10⟩, h11⟩, ⟨⟨⟨⟨⟨h4, h5⟩, h6⟩, h7⟩, h8⟩, h9⟩⟩ i hi
    unfold genN
    match i, hi with
    | 0, _ => exact h0
    | 1, _ => exact h1
    | 2, _ => rfl
    | 3, _ => exact h3
    | 4, _ => exact h4
    | 5, _ => exact h5
    | 6, _ => exact h6
    | 7, _ => exact h7
    | 8, _ => exact h8
    | 9, _ => exact h9
    | 10, _ => exact h10
    | 11, _ => exact h11
/-- the answer's code, by what it looks at -/
def codeR (k l s x y : Int) (z : Bool) : Int :=
  if k = 0 then (if l = 0 ∧ s = 0 ∧ x = 0 ∧ y = 0 ∧ z = true then 0 else 28) else if 0 < l ∧ mbl k s = true then 0 else 28
theorem codeR_is (f : Nat → Int) : codeN f = codeR (f 0) (f 1) (f 3) (f 10) (f 11) (drB f) := by
  unfold codeN okN codeR
  rw [blank_iff]
  by_cases h0 : f 0 = 0
  · have hm : mbl 0 (f 3) = false := by simp [mbl]
    rw [if_pos h0, h0, hm]
    simp [and_assoc]
  · rw [if_neg h0]
    have : (f 0 == 0) = false := by simpa using h0
    simp [this]

set_option maxHeartbeats 20000000 in
set_option maxRecDepth 100000 in
theorem rcheck_any (f : Nat → Int) (hf : NdOk f) (w : World) : Calls Try.prog 10 #[.agg (ndc f).toArray] w fun e w' => e = .returned (.int .i64 (codeN f)) ∧ Below w.heap.size w w' := by
  obtain ⟨d, hu, hd⟩ := Try.desc25
  have HU := Lib.hid hu
  have HD := Lib.hid hd
  have HE := Lib.hid (fun W => eq25 f hf.p W)
  have hl := hf.l
  have hk := hf.k
  have hs := hf.s
  have hx := hf.p 10 (by decide) (by decide)
  have hy := hf.p 11 (by decide) (by decide)
  rw [codeR_is]
  obtain ⟨k, hg0⟩ : ∃ x, f 0 = x := ⟨_, rfl⟩
  obtain ⟨l, hg1⟩ : ∃ x, f 1 = x := ⟨_, rfl⟩
  obtain ⟨s, hg3⟩ : ∃ x, f 3 = x := ⟨_, rfl⟩
  obtain ⟨x, hg10⟩ : ∃ x, f 10 = x := ⟨_, rfl⟩
  obtain ⟨y, hg11⟩ : ∃ x, f 11 = x := ⟨_, rfl⟩
  obtain ⟨z, hz⟩ : ∃ z, drB f = z := ⟨_, rfl⟩
  rw [hg0, hg1, hg3, hg10, hg11, hz]
  rw [hg0] at hk
  rw [hg1] at hl
  rw [hg3] at hs
  rw [hg10] at hx
  rw [hg11] at hy
  rw [hz] at HE
  have HG0 := Lib.hid hg0
  have HG1 := Lib.hid hg1
  have HG3 := Lib.hid hg3
  have HG10 := Lib.hid hg10
  have HG11 := Lib.hid hg11
  obtain ⟨hl0, hl1⟩ := hl
  obtain ⟨hk0, hk1⟩ := hk
  obtain ⟨hs0, hs1⟩ := hs
  obtain ⟨hx0, hx1⟩ := hx
  obtain ⟨hy0, hy1⟩ := hy
  clear hg0 hg1 hg3 hg10 hg11 hz hu hd hf
  obtain ⟨C, hC⟩ : ∃ C, codeR k l s x y z = C := ⟨_, rfl⟩
  rw [hC]
  by_cases k0 : k = 0
  · subst k0
    by_cases c_l : l = 0
    rotate_left 1
    · obtain rfl : C = 28 := by rw [← hC]; unfold codeR; rw [if_pos rfl, if_neg (fun h => c_l (by first | exact h.1 | exact h.2.1 | exact h.2.2.1 | exact h.2.2.2.1))]
      have e_l : (l == 0) = false := by rw [beq_eq_false_iff_ne]; omega
      have p_l : 0 < l := by omega
      clear hC
      go_enter Try.func10, Try.ntmps10
      go_wp2_with (first | (refine wpList_box_list rfl 27 _ rfl (ndc f) rfl ?_; intro w1 F1 hb1 hz1; have HB1 := Lib.hid hb1; have c0 := F1.out.c 0 _ rfl; have c1 := F1.out.c 1 _ rfl; have c3 := F1.out.c 3 _ rfl; have c10 := F1.out.c 10 _ rfl; have c11 := F1.out.c 11 _ rfl; rw [HG0.out] at c0; rw [HG1.out] at c1; rw [HG3.out] at c3; rw [HG10.out] at c10; rw [HG11.out] at c11; clear hb1 hz1) | (refine wpList_yields (.agg (drc f).toArray) (yieldsIf_load_mid (by rfl) 25 _ rfl w.heap.size 4 rfl (drc f) d (fun W hW => by subst hW; exact F1.out.range4) HU.out HD.out (size25 f)) ?_; simp only [Act.put, List.getElem_toArray, List.getElem_cons_zero, List.getElem_cons_succ, List.setIfInBounds_toArray, List.set_cons_zero, List.set_cons_succ]; refine wpList_yields (.agg (drc zf).toArray) (yields_bld0 (by rfl) 25 rfl _ build25_zero) ?_; simp only [Act.put, List.getElem_toArray, List.getElem_cons_zero, List.getElem_cons_succ, List.setIfInBounds_toArray, List.set_cons_zero, List.set_cons_succ]; refine wpList_yields (.bool (!z)) (yields_neq (by rfl) 25 25 _ _ rfl (drc f).toArray (drc zf).toArray rfl rfl z Try.guard25 (fun W _ => HE.out W)) ?_))
      go_ret
      exact ⟨rfl, HB1.out⟩
    subst c_l
    by_cases c_s : s = 0
    rotate_left 1
    · obtain rfl : C = 28 := by rw [← hC]; unfold codeR; rw [if_pos rfl, if_neg (fun h => c_s (by first | exact h.1 | exact h.2.1 | exact h.2.2.1 | exact h.2.2.2.1))]
      have e_s : (s == 0) = false := by rw [beq_eq_false_iff_ne]; omega
      have p_s : 0 < s := by omega
      clear hC
      go_enter Try.func10, Try.ntmps10
      go_wp2_with (first | (refine wpList_box_list rfl 27 _ rfl (ndc f) rfl ?_; intro w1 F1 hb1 hz1; have HB1 := Lib.hid hb1; have c0 := F1.out.c 0 _ rfl; have c1 := F1.out.c 1 _ rfl; have c3 := F1.out.c 3 _ rfl; have c10 := F1.out.c 10 _ rfl; have c11 := F1.out.c 11 _ rfl; rw [HG0.out] at c0; rw [HG1.out] at c1; rw [HG3.out] at c3; rw [HG10.out] at c10; rw [HG11.out] at c11; clear hb1 hz1) | (refine wpList_yields (.agg (drc f).toArray) (yieldsIf_load_mid (by rfl) 25 _ rfl w.heap.size 4 rfl (drc f) d (fun W hW => by subst hW; exact F1.out.range4) HU.out HD.out (size25 f)) ?_; simp only [Act.put, List.getElem_toArray, List.getElem_cons_zero, List.getElem_cons_succ, List.setIfInBounds_toArray, List.set_cons_zero, List.set_cons_succ]; refine wpList_yields (.agg (drc zf).toArray) (yields_bld0 (by rfl) 25 rfl _ build25_zero) ?_; simp only [Act.put, List.getElem_toArray, List.getElem_cons_zero, List.getElem_cons_succ, List.setIfInBounds_toArray, List.set_cons_zero, List.set_cons_succ]; refine wpList_yields (.bool (!z)) (yields_neq (by rfl) 25 25 _ _ rfl (drc f).toArray (drc zf).toArray rfl rfl z Try.guard25 (fun W _ => HE.out W)) ?_))
      go_ret
      exact ⟨rfl, HB1.out⟩
    subst c_s
    by_cases c_x : x = 0
    rotate_left 1
    · obtain rfl : C = 28 := by rw [← hC]; unfold codeR; rw [if_pos rfl, if_neg (fun h => c_x (by first | exact h.1 | exact h.2.1 | exact h.2.2.1 | exact h.2.2.2.1))]
      have e_x : (x == 0) = false := by rw [beq_eq_false_iff_ne]; omega
      have p_x : 0 < x := by omega
      clear hC
      go_enter Try.func10, Try.ntmps10
      go_wp2_with (first | (refine wpList_box_list rfl 27 _ rfl (ndc f) rfl ?_; intro w1 F1 hb1 hz1; have HB1 := Lib.hid hb1; have c0 := F1.out.c 0 _ rfl; have c1 := F1.out.c 1 _ rfl; have c3 := F1.out.c 3 _ rfl; have c10 := F1.out.c 10 _ rfl; have c11 := F1.out.c 11 _ rfl; rw [HG0.out] at c0; rw [HG1.out] at c1; rw [HG3.out] at c3; rw [HG10.out] at c10; rw [HG11.out] at c11; clear hb1 hz1) | (refine wpList_yields (.agg (drc f).toArray) (yieldsIf_load_mid (by rfl) 25 _ rfl w.heap.size 4 rfl (drc f) d (fun W hW => by subst hW; exact F1.out.range4) HU.out HD.out (size25 f)) ?_; simp only [Act.put, List.getElem_toArray, List.getElem_cons_zero, List.getElem_cons_succ, List.setIfInBounds_toArray, List.set_cons_zero, List.set_cons_succ]; refine wpList_yields (.agg (drc zf).toArray) (yields_bld0 (by rfl) 25 rfl _ build25_zero) ?_; simp only [Act.put, List.getElem_toArray, List.getElem_cons_zero, List.getElem_cons_succ, List.setIfInBounds_toArray, List.set_cons_zero, List.set_cons_succ]; refine wpList_yields (.bool (!z)) (yields_neq (by rfl) 25 25 _ _ rfl (drc f).toArray (drc zf).toArray rfl rfl z Try.guard25 (fun W _ => HE.out W)) ?_))
      go_ret
      exact ⟨rfl, HB1.out⟩
    subst c_x
    by_cases c_y : y = 0
    rotate_left 1
    · obtain rfl : C = 28 := by rw [← hC]; unfold codeR; rw [if_pos rfl, if_neg (fun h => c_y (by first | exact h.1 | exact h.2.1 | exact h.2.2.1 | exact h.2.2.2.1))]
      have e_y : (y == 0) = false := by rw [beq_eq_false_iff_ne]; omega
      have p_y : 0 < y := by omega
      clear hC
      go_enter Try.func10, Try.ntmps10
      go_wp2_with (first | (refine wpList_box_list rfl 27 _ rfl (ndc f) rfl ?_; intro w1 F1 hb1 hz1; have HB1 := Lib.hid hb1; have c0 := F1.out.c 0 _ rfl; have c1 := F1.out.c 1 _ rfl; have c3 := F1.out.c 3 _ rfl; have c10 := F1.out.c 10 _ rfl; have c11 := F1.out.c 11 _ rfl; rw [HG0.out] at c0; rw [HG1.out] at c1; rw [HG3.out] at c3; rw [HG10.out] at c10; rw [HG11.out] at c11; clear hb1 hz1) | (refine wpList_yields (.agg (drc f).toArray) (yieldsIf_load_mid (by rfl) 25 _ rfl w.heap.size 4 rfl (drc f) d (fun W hW => by subst hW; exact F1.out.range4) HU.out HD.out (size25 f)) ?_; simp only [Act.put, List.getElem_toArray, List.getElem_cons_zero, List.getElem_cons_succ, List.setIfInBounds_toArray, List.set_cons_zero, List.set_cons_succ]; refine wpList_yields (.agg (drc zf).toArray) (yields_bld0 (by rfl) 25 rfl _ build25_zero) ?_; simp only [Act.put, List.getElem_toArray, List.getElem_cons_zero, List.getElem_cons_succ, List.setIfInBounds_toArray, List.set_cons_zero, List.set_cons_succ]; refine wpList_yields (.bool (!z)) (yields_neq (by rfl) 25 25 _ _ rfl (drc f).toArray (drc zf).toArray rfl rfl z Try.guard25 (fun W _ => HE.out W)) ?_))
      go_ret
      exact ⟨rfl, HB1.out⟩
    subst c_y
    cases z
    · obtain rfl : C = 28 := by rw [← hC]; rfl
      clear hC
      go_enter Try.func10, Try.ntmps10
      go_wp2_with (first | (refine wpList_box_list rfl 27 _ rfl (ndc f) rfl ?_; intro w1 F1 hb1 hz1; have HB1 := Lib.hid hb1; have c0 := F1.out.c 0 _ rfl; have c1 := F1.out.c 1 _ rfl; have c3 := F1.out.c 3 _ rfl; have c10 := F1.out.c 10 _ rfl; have c11 := F1.out.c 11 _ rfl; rw [HG0.out] at c0; rw [HG1.out] at c1; rw [HG3.out] at c3; rw [HG10.out] at c10; rw [HG11.out] at c11; clear hb1 hz1) | (refine wpList_yields (.agg (drc f).toArray) (yieldsIf_load_mid (by rfl) 25 _ rfl w.heap.size 4 rfl (drc f) d (fun W hW => by subst hW; exact F1.out.range4) HU.out HD.out (size25 f)) ?_; simp only [Act.put, List.getElem_toArray, List.getElem_cons_zero, List.getElem_cons_succ, List.setIfInBounds_toArray, List.set_cons_zero, List.set_cons_succ]; refine wpList_yields (.agg (drc zf).toArray) (yields_bld0 (by rfl) 25 rfl _ build25_zero) ?_; simp only [Act.put, List.getElem_toArray, List.getElem_cons_zero, List.getElem_cons_succ, List.setIfInBounds_toArray, List.set_cons_zero, List.set_cons_succ]; refine wpList_yields (.bool true) (yields_neq (by rfl) 25 25 _ _ rfl (drc f).toArray (drc zf).toArray rfl rfl false Try.guard25 (fun W _ => HE.out W)) ?_))
      go_ret
      exact ⟨rfl, HB1.out⟩
    · obtain rfl : C = 0 := by rw [← hC]; rfl
      clear hC
      go_enter Try.func10, Try.ntmps10
      go_wp2_with (first | (refine wpList_box_list rfl 27 _ rfl (ndc f) rfl ?_; intro w1 F1 hb1 hz1; have HB1 := Lib.hid hb1; have c0 := F1.out.c 0 _ rfl; have c1 := F1.out.c 1 _ rfl; have c3 := F1.out.c 3 _ rfl; have c10 := F1.out.c 10 _ rfl; have c11 := F1.out.c 11 _ rfl; rw [HG0.out] at c0; rw [HG1.out] at c1; rw [HG3.out] at c3; rw [HG10.out] at c10; rw [HG11.out] at c11; clear hb1 hz1) | (refine wpList_yields (.agg (drc f).toArray) (yieldsIf_load_mid (by rfl) 25 _ rfl w.heap.size 4 rfl (drc f) d (fun W hW => by subst hW; exact F1.out.range4) HU.out HD.out (size25 f)) ?_; simp only [Act.put, List.getElem_toArray, List.getElem_cons_zero, List.getElem_cons_succ, List.setIfInBounds_toArray, List.set_cons_zero, List.set_cons_succ]; refine wpList_yields (.agg (drc zf).toArray) (yields_bld0 (by rfl) 25 rfl _ build25_zero) ?_; simp only [Act.put, List.getElem_toArray, List.getElem_cons_zero, List.getElem_cons_succ, List.setIfInBounds_toArray, List.set_cons_zero, List.set_cons_succ]; refine wpList_yields (.bool false) (yields_neq (by rfl) 25 25 _ _ rfl (drc f).toArray (drc zf).toArray rfl rfl true Try.guard25 (fun W _ => HE.out W)) ?_))
      go_ret
      exact ⟨rfl, HB1.out⟩
  have e0 : (k == 0) = false := by simpa using k0
  have hCk : (if 0 < l ∧ mbl k s = true then (0 : Int) else 28) = C := by rw [← hC]; unfold codeR; rw [if_neg k0]
  clear hC
  have hC := hCk
  clear hCk
  by_cases k1 : k = 1
  · subst k1
    by_cases c_s : 16384 < s
    · by_cases c_l : l = 0
      · subst c_l
        obtain rfl : C = 28 := by rw [← hC]; simp
        clear hC
        go_enter Try.func10, Try.ntmps10
        go_wp2_with (first | (refine wpList_box_list rfl 27 _ rfl (ndc f) rfl ?_; intro w1 F1 hb1 hz1; have HB1 := Lib.hid hb1; have c0 := F1.out.c 0 _ rfl; have c1 := F1.out.c 1 _ rfl; have c3 := F1.out.c 3 _ rfl; have c10 := F1.out.c 10 _ rfl; have c11 := F1.out.c 11 _ rfl; rw [HG0.out] at c0; rw [HG1.out] at c1; rw [HG3.out] at c3; rw [HG10.out] at c10; rw [HG11.out] at c11; clear hb1 hz1) | (refine wpList_yields (.agg (drc f).toArray) (yieldsIf_load_mid (by rfl) 25 _ rfl w.heap.size 4 rfl (drc f) d (fun W hW => by subst hW; exact F1.out.range4) HU.out HD.out (size25 f)) ?_; simp only [Act.put, List.getElem_toArray, List.getElem_cons_zero, List.getElem_cons_succ, List.setIfInBounds_toArray, List.set_cons_zero, List.set_cons_succ]; refine wpList_yields (.agg (drc zf).toArray) (yields_bld0 (by rfl) 25 rfl _ build25_zero) ?_; simp only [Act.put, List.getElem_toArray, List.getElem_cons_zero, List.getElem_cons_succ, List.setIfInBounds_toArray, List.set_cons_zero, List.set_cons_succ]; refine wpList_yields (.bool (!z)) (yields_neq (by rfl) 25 25 _ _ rfl (drc f).toArray (drc zf).toArray rfl rfl z Try.guard25 (fun W _ => HE.out W)) ?_))
        go_ret
        exact ⟨rfl, HB1.out⟩
      · obtain rfl : C = 28 := by rw [← hC]; rw [if_neg (by simp [mbl] <;> omega)]
        have e_l : (l == 0) = false := by rw [beq_eq_false_iff_ne]; omega
        have p_l : 0 < l := by omega
        clear hC
        go_enter Try.func10, Try.ntmps10
        go_wp2_with (first | (refine wpList_box_list rfl 27 _ rfl (ndc f) rfl ?_; intro w1 F1 hb1 hz1; have HB1 := Lib.hid hb1; have c0 := F1.out.c 0 _ rfl; have c1 := F1.out.c 1 _ rfl; have c3 := F1.out.c 3 _ rfl; have c10 := F1.out.c 10 _ rfl; have c11 := F1.out.c 11 _ rfl; rw [HG0.out] at c0; rw [HG1.out] at c1; rw [HG3.out] at c3; rw [HG10.out] at c10; rw [HG11.out] at c11; clear hb1 hz1) | (refine wpList_yields (.agg (drc f).toArray) (yieldsIf_load_mid (by rfl) 25 _ rfl w.heap.size 4 rfl (drc f) d (fun W hW => by subst hW; exact F1.out.range4) HU.out HD.out (size25 f)) ?_; simp only [Act.put, List.getElem_toArray, List.getElem_cons_zero, List.getElem_cons_succ, List.setIfInBounds_toArray, List.set_cons_zero, List.set_cons_succ]; refine wpList_yields (.agg (drc zf).toArray) (yields_bld0 (by rfl) 25 rfl _ build25_zero) ?_; simp only [Act.put, List.getElem_toArray, List.getElem_cons_zero, List.getElem_cons_succ, List.setIfInBounds_toArray, List.set_cons_zero, List.set_cons_succ]; refine wpList_yields (.bool (!z)) (yields_neq (by rfl) 25 25 _ _ rfl (drc f).toArray (drc zf).toArray rfl rfl z Try.guard25 (fun W _ => HE.out W)) ?_))
        go_ret
        exact ⟨rfl, HB1.out⟩
    · have d_s : s ≤ 16384 := by omega
      by_cases c_l : l = 0
      · subst c_l
        obtain rfl : C = 28 := by rw [← hC]; simp
        clear hC
        go_enter Try.func10, Try.ntmps10
        go_wp2_with (first | (refine wpList_box_list rfl 27 _ rfl (ndc f) rfl ?_; intro w1 F1 hb1 hz1; have HB1 := Lib.hid hb1; have c0 := F1.out.c 0 _ rfl; have c1 := F1.out.c 1 _ rfl; have c3 := F1.out.c 3 _ rfl; have c10 := F1.out.c 10 _ rfl; have c11 := F1.out.c 11 _ rfl; rw [HG0.out] at c0; rw [HG1.out] at c1; rw [HG3.out] at c3; rw [HG10.out] at c10; rw [HG11.out] at c11; clear hb1 hz1) | (refine wpList_yields (.agg (drc f).toArray) (yieldsIf_load_mid (by rfl) 25 _ rfl w.heap.size 4 rfl (drc f) d (fun W hW => by subst hW; exact F1.out.range4) HU.out HD.out (size25 f)) ?_; simp only [Act.put, List.getElem_toArray, List.getElem_cons_zero, List.getElem_cons_succ, List.setIfInBounds_toArray, List.set_cons_zero, List.set_cons_succ]; refine wpList_yields (.agg (drc zf).toArray) (yields_bld0 (by rfl) 25 rfl _ build25_zero) ?_; simp only [Act.put, List.getElem_toArray, List.getElem_cons_zero, List.getElem_cons_succ, List.setIfInBounds_toArray, List.set_cons_zero, List.set_cons_succ]; refine wpList_yields (.bool (!z)) (yields_neq (by rfl) 25 25 _ _ rfl (drc f).toArray (drc zf).toArray rfl rfl z Try.guard25 (fun W _ => HE.out W)) ?_))
        go_ret
        exact ⟨rfl, HB1.out⟩
      · obtain rfl : C = 0 := by rw [← hC]; rw [if_pos ⟨by omega, by simp [mbl] <;> omega⟩]
        have e_l : (l == 0) = false := by rw [beq_eq_false_iff_ne]; omega
        have p_l : 0 < l := by omega
        clear hC
        go_enter Try.func10, Try.ntmps10
        go_wp2_with (first | (refine wpList_box_list rfl 27 _ rfl (ndc f) rfl ?_; intro w1 F1 hb1 hz1; have HB1 := Lib.hid hb1; have c0 := F1.out.c 0 _ rfl; have c1 := F1.out.c 1 _ rfl; have c3 := F1.out.c 3 _ rfl; have c10 := F1.out.c 10 _ rfl; have c11 := F1.out.c 11 _ rfl; rw [HG0.out] at c0; rw [HG1.out] at c1; rw [HG3.out] at c3; rw [HG10.out] at c10; rw [HG11.out] at c11; clear hb1 hz1) | (refine wpList_yields (.agg (drc f).toArray) (yieldsIf_load_mid (by rfl) 25 _ rfl w.heap.size 4 rfl (drc f) d (fun W hW => by subst hW; exact F1.out.range4) HU.out HD.out (size25 f)) ?_; simp only [Act.put, List.getElem_toArray, List.getElem_cons_zero, List.getElem_cons_succ, List.setIfInBounds_toArray, List.set_cons_zero, List.set_cons_succ]; refine wpList_yields (.agg (drc zf).toArray) (yields_bld0 (by rfl) 25 rfl _ build25_zero) ?_; simp only [Act.put, List.getElem_toArray, List.getElem_cons_zero, List.getElem_cons_succ, List.setIfInBounds_toArray, List.set_cons_zero, List.set_cons_succ]; refine wpList_yields (.bool (!z)) (yields_neq (by rfl) 25 25 _ _ rfl (drc f).toArray (drc zf).toArray rfl rfl z Try.guard25 (fun W _ => HE.out W)) ?_))
        go_ret
        exact ⟨rfl, HB1.out⟩
  have e1 : (k == 1) = false := by simpa using k1
  by_cases k2 : k = 2
  · subst k2
    by_cases c_m : s % 16 = 0
    rotate_left 1
    · obtain rfl : C = 28 := by rw [← hC]; rw [if_neg (by simp [mbl] <;> omega)]
      have d_m : (s % 16 == 0) = false := by simpa using c_m
      have d_n : (s.tmod 16 == 0) = false := by rw [Int.tmod_eq_emod_of_nonneg hs0]; exact d_m
      clear hC
      go_enter Try.func10, Try.ntmps10
      go_wp2_with (first | (refine wpList_box_list rfl 27 _ rfl (ndc f) rfl ?_; intro w1 F1 hb1 hz1; have HB1 := Lib.hid hb1; have c0 := F1.out.c 0 _ rfl; have c1 := F1.out.c 1 _ rfl; have c3 := F1.out.c 3 _ rfl; have c10 := F1.out.c 10 _ rfl; have c11 := F1.out.c 11 _ rfl; rw [HG0.out] at c0; rw [HG1.out] at c1; rw [HG3.out] at c3; rw [HG10.out] at c10; rw [HG11.out] at c11; clear hb1 hz1) | (refine wpList_yields (.agg (drc f).toArray) (yieldsIf_load_mid (by rfl) 25 _ rfl w.heap.size 4 rfl (drc f) d (fun W hW => by subst hW; exact F1.out.range4) HU.out HD.out (size25 f)) ?_; simp only [Act.put, List.getElem_toArray, List.getElem_cons_zero, List.getElem_cons_succ, List.setIfInBounds_toArray, List.set_cons_zero, List.set_cons_succ]; refine wpList_yields (.agg (drc zf).toArray) (yields_bld0 (by rfl) 25 rfl _ build25_zero) ?_; simp only [Act.put, List.getElem_toArray, List.getElem_cons_zero, List.getElem_cons_succ, List.setIfInBounds_toArray, List.set_cons_zero, List.set_cons_succ]; refine wpList_yields (.bool (!z)) (yields_neq (by rfl) 25 25 _ _ rfl (drc f).toArray (drc zf).toArray rfl rfl z Try.guard25 (fun W _ => HE.out W)) ?_))
      go_ret
      exact ⟨rfl, HB1.out⟩
    have d_m : (s % 16 == 0) = true := by simpa using c_m
    have d_n : (s.tmod 16 == 0) = true := by rw [Int.tmod_eq_emod_of_nonneg hs0]; exact d_m
    by_cases c_s : 16384 < s
    · by_cases c_l : l = 0
      · subst c_l
        obtain rfl : C = 28 := by rw [← hC]; simp
        clear c_m
        clear hC
        go_enter Try.func10, Try.ntmps10
        go_wp2_with (first | (refine wpList_box_list rfl 27 _ rfl (ndc f) rfl ?_; intro w1 F1 hb1 hz1; have HB1 := Lib.hid hb1; have c0 := F1.out.c 0 _ rfl; have c1 := F1.out.c 1 _ rfl; have c3 := F1.out.c 3 _ rfl; have c10 := F1.out.c 10 _ rfl; have c11 := F1.out.c 11 _ rfl; rw [HG0.out] at c0; rw [HG1.out] at c1; rw [HG3.out] at c3; rw [HG10.out] at c10; rw [HG11.out] at c11; clear hb1 hz1) | (refine wpList_yields (.agg (drc f).toArray) (yieldsIf_load_mid (by rfl) 25 _ rfl w.heap.size 4 rfl (drc f) d (fun W hW => by subst hW; exact F1.out.range4) HU.out HD.out (size25 f)) ?_; simp only [Act.put, List.getElem_toArray, List.getElem_cons_zero, List.getElem_cons_succ, List.setIfInBounds_toArray, List.set_cons_zero, List.set_cons_succ]; refine wpList_yields (.agg (drc zf).toArray) (yields_bld0 (by rfl) 25 rfl _ build25_zero) ?_; simp only [Act.put, List.getElem_toArray, List.getElem_cons_zero, List.getElem_cons_succ, List.setIfInBounds_toArray, List.set_cons_zero, List.set_cons_succ]; refine wpList_yields (.bool (!z)) (yields_neq (by rfl) 25 25 _ _ rfl (drc f).toArray (drc zf).toArray rfl rfl z Try.guard25 (fun W _ => HE.out W)) ?_))
        go_ret
        exact ⟨rfl, HB1.out⟩
      · obtain rfl : C = 28 := by rw [← hC]; rw [if_neg (by simp [mbl] <;> omega)]
        have e_l : (l == 0) = false := by rw [beq_eq_false_iff_ne]; omega
        have p_l : 0 < l := by omega
        clear c_m
        clear hC
        go_enter Try.func10, Try.ntmps10
        go_wp2_with (first | (refine wpList_box_list rfl 27 _ rfl (ndc f) rfl ?_; intro w1 F1 hb1 hz1; have HB1 := Lib.hid hb1; have c0 := F1.out.c 0 _ rfl; have c1 := F1.out.c 1 _ rfl; have c3 := F1.out.c 3 _ rfl; have c10 := F1.out.c 10 _ rfl; have c11 := F1.out.c 11 _ rfl; rw [HG0.out] at c0; rw [HG1.out] at c1; rw [HG3.out] at c3; rw [HG10.out] at c10; rw [HG11.out] at c11; clear hb1 hz1) | (refine wpList_yields (.agg (drc f).toArray) (yieldsIf_load_mid (by rfl) 25 _ rfl w.heap.size 4 rfl (drc f) d (fun W hW => by subst hW; exact F1.out.range4) HU.out HD.out (size25 f)) ?_; simp only [Act.put, List.getElem_toArray, List.getElem_cons_zero, List.getElem_cons_succ, List.setIfInBounds_toArray, List.set_cons_zero, List.set_cons_succ]; refine wpList_yields (.agg (drc zf).toArray) (yields_bld0 (by rfl) 25 rfl _ build25_zero) ?_; simp only [Act.put, List.getElem_toArray, List.getElem_cons_zero, List.getElem_cons_succ, List.setIfInBounds_toArray, List.set_cons_zero, List.set_cons_succ]; refine wpList_yields (.bool (!z)) (yields_neq (by rfl) 25 25 _ _ rfl (drc f).toArray (drc zf).toArray rfl rfl z Try.guard25 (fun W _ => HE.out W)) ?_))
        go_ret
        exact ⟨rfl, HB1.out⟩
    · have d_s : s ≤ 16384 := by omega
      by_cases c_l : l = 0
      · subst c_l
        obtain rfl : C = 28 := by rw [← hC]; simp
        clear hC
        go_enter Try.func10, Try.ntmps10
        go_wp2_with (first | (refine wpList_box_list rfl 27 _ rfl (ndc f) rfl ?_; intro w1 F1 hb1 hz1; have HB1 := Lib.hid hb1; have c0 := F1.out.c 0 _ rfl; have c1 := F1.out.c 1 _ rfl; have c3 := F1.out.c 3 _ rfl; have c10 := F1.out.c 10 _ rfl; have c11 := F1.out.c 11 _ rfl; rw [HG0.out] at c0; rw [HG1.out] at c1; rw [HG3.out] at c3; rw [HG10.out] at c10; rw [HG11.out] at c11; clear hb1 hz1) | (refine wpList_yields (.agg (drc f).toArray) (yieldsIf_load_mid (by rfl) 25 _ rfl w.heap.size 4 rfl (drc f) d (fun W hW => by subst hW; exact F1.out.range4) HU.out HD.out (size25 f)) ?_; simp only [Act.put, List.getElem_toArray, List.getElem_cons_zero, List.getElem_cons_succ, List.setIfInBounds_toArray, List.set_cons_zero, List.set_cons_succ]; refine wpList_yields (.agg (drc zf).toArray) (yields_bld0 (by rfl) 25 rfl _ build25_zero) ?_; simp only [Act.put, List.getElem_toArray, List.getElem_cons_zero, List.getElem_cons_succ, List.setIfInBounds_toArray, List.set_cons_zero, List.set_cons_succ]; refine wpList_yields (.bool (!z)) (yields_neq (by rfl) 25 25 _ _ rfl (drc f).toArray (drc zf).toArray rfl rfl z Try.guard25 (fun W _ => HE.out W)) ?_))
        go_ret
        exact ⟨rfl, HB1.out⟩
      · obtain rfl : C = 0 := by rw [← hC]; rw [if_pos ⟨by omega, by simp [mbl] <;> omega⟩]
        have e_l : (l == 0) = false := by rw [beq_eq_false_iff_ne]; omega
        have p_l : 0 < l := by omega
        clear c_m
        clear hC
        go_enter Try.func10, Try.ntmps10
        go_wp2_with (first | (refine wpList_box_list rfl 27 _ rfl (ndc f) rfl ?_; intro w1 F1 hb1 hz1; have HB1 := Lib.hid hb1; have c0 := F1.out.c 0 _ rfl; have c1 := F1.out.c 1 _ rfl; have c3 := F1.out.c 3 _ rfl; have c10 := F1.out.c 10 _ rfl; have c11 := F1.out.c 11 _ rfl; rw [HG0.out] at c0; rw [HG1.out] at c1; rw [HG3.out] at c3; rw [HG10.out] at c10; rw [HG11.out] at c11; clear hb1 hz1) | (refine wpList_yields (.agg (drc f).toArray) (yieldsIf_load_mid (by rfl) 25 _ rfl w.heap.size 4 rfl (drc f) d (fun W hW => by subst hW; exact F1.out.range4) HU.out HD.out (size25 f)) ?_; simp only [Act.put, List.getElem_toArray, List.getElem_cons_zero, List.getElem_cons_succ, List.setIfInBounds_toArray, List.set_cons_zero, List.set_cons_succ]; refine wpList_yields (.agg (drc zf).toArray) (yields_bld0 (by rfl) 25 rfl _ build25_zero) ?_; simp only [Act.put, List.getElem_toArray, List.getElem_cons_zero, List.getElem_cons_succ, List.setIfInBounds_toArray, List.set_cons_zero, List.set_cons_succ]; refine wpList_yields (.bool (!z)) (yields_neq (by rfl) 25 25 _ _ rfl (drc f).toArray (drc zf).toArray rfl rfl z Try.guard25 (fun W _ => HE.out W)) ?_))
        go_ret
        exact ⟨rfl, HB1.out⟩
  have e2 : (k == 2) = false := by simpa using k2
  by_cases k3 : k = 3
  · subst k3
    by_cases c_s : s = 0
    rotate_left 1
    · obtain rfl : C = 28 := by rw [← hC]; rw [if_neg (by simp [mbl] <;> omega)]
      have e_s : (s == 0) = false := by rw [beq_eq_false_iff_ne]; omega
      have p_s : 0 < s := by omega
      clear hC
      go_enter Try.func10, Try.ntmps10
      go_wp2_with (first | (refine wpList_box_list rfl 27 _ rfl (ndc f) rfl ?_; intro w1 F1 hb1 hz1; have HB1 := Lib.hid hb1; have c0 := F1.out.c 0 _ rfl; have c1 := F1.out.c 1 _ rfl; have c3 := F1.out.c 3 _ rfl; have c10 := F1.out.c 10 _ rfl; have c11 := F1.out.c 11 _ rfl; rw [HG0.out] at c0; rw [HG1.out] at c1; rw [HG3.out] at c3; rw [HG10.out] at c10; rw [HG11.out] at c11; clear hb1 hz1) | (refine wpList_yields (.agg (drc f).toArray) (yieldsIf_load_mid (by rfl) 25 _ rfl w.heap.size 4 rfl (drc f) d (fun W hW => by subst hW; exact F1.out.range4) HU.out HD.out (size25 f)) ?_; simp only [Act.put, List.getElem_toArray, List.getElem_cons_zero, List.getElem_cons_succ, List.setIfInBounds_toArray, List.set_cons_zero, List.set_cons_succ]; refine wpList_yields (.agg (drc zf).toArray) (yields_bld0 (by rfl) 25 rfl _ build25_zero) ?_; simp only [Act.put, List.getElem_toArray, List.getElem_cons_zero, List.getElem_cons_succ, List.setIfInBounds_toArray, List.set_cons_zero, List.set_cons_succ]; refine wpList_yields (.bool (!z)) (yields_neq (by rfl) 25 25 _ _ rfl (drc f).toArray (drc zf).toArray rfl rfl z Try.guard25 (fun W _ => HE.out W)) ?_))
      go_ret
      exact ⟨rfl, HB1.out⟩
    subst c_s
    by_cases c_l : l = 0
    · subst c_l
      obtain rfl : C = 28 := by rw [← hC]; simp
      clear hC
      go_enter Try.func10, Try.ntmps10
      go_wp2_with (first | (refine wpList_box_list rfl 27 _ rfl (ndc f) rfl ?_; intro w1 F1 hb1 hz1; have HB1 := Lib.hid hb1; have c0 := F1.out.c 0 _ rfl; have c1 := F1.out.c 1 _ rfl; have c3 := F1.out.c 3 _ rfl; have c10 := F1.out.c 10 _ rfl; have c11 := F1.out.c 11 _ rfl; rw [HG0.out] at c0; rw [HG1.out] at c1; rw [HG3.out] at c3; rw [HG10.out] at c10; rw [HG11.out] at c11; clear hb1 hz1) | (refine wpList_yields (.agg (drc f).toArray) (yieldsIf_load_mid (by rfl) 25 _ rfl w.heap.size 4 rfl (drc f) d (fun W hW => by subst hW; exact F1.out.range4) HU.out HD.out (size25 f)) ?_; simp only [Act.put, List.getElem_toArray, List.getElem_cons_zero, List.getElem_cons_succ, List.setIfInBounds_toArray, List.set_cons_zero, List.set_cons_succ]; refine wpList_yields (.agg (drc zf).toArray) (yields_bld0 (by rfl) 25 rfl _ build25_zero) ?_; simp only [Act.put, List.getElem_toArray, List.getElem_cons_zero, List.getElem_cons_succ, List.setIfInBounds_toArray, List.set_cons_zero, List.set_cons_succ]; refine wpList_yields (.bool (!z)) (yields_neq (by rfl) 25 25 _ _ rfl (drc f).toArray (drc zf).toArray rfl rfl z Try.guard25 (fun W _ => HE.out W)) ?_))
      go_ret
      exact ⟨rfl, HB1.out⟩
    · obtain rfl : C = 0 := by rw [← hC]; rw [if_pos ⟨by omega, by simp [mbl] <;> omega⟩]
      have e_l : (l == 0) = false := by rw [beq_eq_false_iff_ne]; omega
      have p_l : 0 < l := by omega
      clear hC
      go_enter Try.func10, Try.ntmps10
      go_wp2_with (first | (refine wpList_box_list rfl 27 _ rfl (ndc f) rfl ?_; intro w1 F1 hb1 hz1; have HB1 := Lib.hid hb1; have c0 := F1.out.c 0 _ rfl; have c1 := F1.out.c 1 _ rfl; have c3 := F1.out.c 3 _ rfl; have c10 := F1.out.c 10 _ rfl; have c11 := F1.out.c 11 _ rfl; rw [HG0.out] at c0; rw [HG1.out] at c1; rw [HG3.out] at c3; rw [HG10.out] at c10; rw [HG11.out] at c11; clear hb1 hz1) | (refine wpList_yields (.agg (drc f).toArray) (yieldsIf_load_mid (by rfl) 25 _ rfl w.heap.size 4 rfl (drc f) d (fun W hW => by subst hW; exact F1.out.range4) HU.out HD.out (size25 f)) ?_; simp only [Act.put, List.getElem_toArray, List.getElem_cons_zero, List.getElem_cons_succ, List.setIfInBounds_toArray, List.set_cons_zero, List.set_cons_succ]; refine wpList_yields (.agg (drc zf).toArray) (yields_bld0 (by rfl) 25 rfl _ build25_zero) ?_; simp only [Act.put, List.getElem_toArray, List.getElem_cons_zero, List.getElem_cons_succ, List.setIfInBounds_toArray, List.set_cons_zero, List.set_cons_succ]; refine wpList_yields (.bool (!z)) (yields_neq (by rfl) 25 25 _ _ rfl (drc f).toArray (drc zf).toArray rfl rfl z Try.guard25 (fun W _ => HE.out W)) ?_))
      go_ret
      exact ⟨rfl, HB1.out⟩
  have e3 : (k == 3) = false := by simpa using k3
  by_cases k5 : k = 5
  · subst k5
    by_cases c_s : s = 0
    rotate_left 1
    · obtain rfl : C = 28 := by rw [← hC]; rw [if_neg (by simp [mbl] <;> omega)]
      have e_s : (s == 0) = false := by rw [beq_eq_false_iff_ne]; omega
      have p_s : 0 < s := by omega
      clear hC
      go_enter Try.func10, Try.ntmps10
      go_wp2_with (first | (refine wpList_box_list rfl 27 _ rfl (ndc f) rfl ?_; intro w1 F1 hb1 hz1; have HB1 := Lib.hid hb1; have c0 := F1.out.c 0 _ rfl; have c1 := F1.out.c 1 _ rfl; have c3 := F1.out.c 3 _ rfl; have c10 := F1.out.c 10 _ rfl; have c11 := F1.out.c 11 _ rfl; rw [HG0.out] at c0; rw [HG1.out] at c1; rw [HG3.out] at c3; rw [HG10.out] at c10; rw [HG11.out] at c11; clear hb1 hz1) | (refine wpList_yields (.agg (drc f).toArray) (yieldsIf_load_mid (by rfl) 25 _ rfl w.heap.size 4 rfl (drc f) d (fun W hW => by subst hW; exact F1.out.range4) HU.out HD.out (size25 f)) ?_; simp only [Act.put, List.getElem_toArray, List.getElem_cons_zero, List.getElem_cons_succ, List.setIfInBounds_toArray, List.set_cons_zero, List.set_cons_succ]; refine wpList_yields (.agg (drc zf).toArray) (yields_bld0 (by rfl) 25 rfl _ build25_zero) ?_; simp only [Act.put, List.getElem_toArray, List.getElem_cons_zero, List.getElem_cons_succ, List.setIfInBounds_toArray, List.set_cons_zero, List.set_cons_succ]; refine wpList_yields (.bool (!z)) (yields_neq (by rfl) 25 25 _ _ rfl (drc f).toArray (drc zf).toArray rfl rfl z Try.guard25 (fun W _ => HE.out W)) ?_))
      go_ret
      exact ⟨rfl, HB1.out⟩
    subst c_s
    by_cases c_l : l = 0
    · subst c_l
      obtain rfl : C = 28 := by rw [← hC]; simp
      clear hC
      go_enter Try.func10, Try.ntmps10
      go_wp2_with (first | (refine wpList_box_list rfl 27 _ rfl (ndc f) rfl ?_; intro w1 F1 hb1 hz1; have HB1 := Lib.hid hb1; have c0 := F1.out.c 0 _ rfl; have c1 := F1.out.c 1 _ rfl; have c3 := F1.out.c 3 _ rfl; have c10 := F1.out.c 10 _ rfl; have c11 := F1.out.c 11 _ rfl; rw [HG0.out] at c0; rw [HG1.out] at c1; rw [HG3.out] at c3; rw [HG10.out] at c10; rw [HG11.out] at c11; clear hb1 hz1) | (refine wpList_yields (.agg (drc f).toArray) (yieldsIf_load_mid (by rfl) 25 _ rfl w.heap.size 4 rfl (drc f) d (fun W hW => by subst hW; exact F1.out.range4) HU.out HD.out (size25 f)) ?_; simp only [Act.put, List.getElem_toArray, List.getElem_cons_zero, List.getElem_cons_succ, List.setIfInBounds_toArray, List.set_cons_zero, List.set_cons_succ]; refine wpList_yields (.agg (drc zf).toArray) (yields_bld0 (by rfl) 25 rfl _ build25_zero) ?_; simp only [Act.put, List.getElem_toArray, List.getElem_cons_zero, List.getElem_cons_succ, List.setIfInBounds_toArray, List.set_cons_zero, List.set_cons_succ]; refine wpList_yields (.bool (!z)) (yields_neq (by rfl) 25 25 _ _ rfl (drc f).toArray (drc zf).toArray rfl rfl z Try.guard25 (fun W _ => HE.out W)) ?_))
      go_ret
      exact ⟨rfl, HB1.out⟩
    · obtain rfl : C = 0 := by rw [← hC]; rw [if_pos ⟨by omega, by simp [mbl] <;> omega⟩]
      have e_l : (l == 0) = false := by rw [beq_eq_false_iff_ne]; omega
      have p_l : 0 < l := by omega
      clear hC
      go_enter Try.func10, Try.ntmps10
      go_wp2_with (first | (refine wpList_box_list rfl 27 _ rfl (ndc f) rfl ?_; intro w1 F1 hb1 hz1; have HB1 := Lib.hid hb1; have c0 := F1.out.c 0 _ rfl; have c1 := F1.out.c 1 _ rfl; have c3 := F1.out.c 3 _ rfl; have c10 := F1.out.c 10 _ rfl; have c11 := F1.out.c 11 _ rfl; rw [HG0.out] at c0; rw [HG1.out] at c1; rw [HG3.out] at c3; rw [HG10.out] at c10; rw [HG11.out] at c11; clear hb1 hz1) | (refine wpList_yields (.agg (drc f).toArray) (yieldsIf_load_mid (by rfl) 25 _ rfl w.heap.size 4 rfl (drc f) d (fun W hW => by subst hW; exact F1.out.range4) HU.out HD.out (size25 f)) ?_; simp only [Act.put, List.getElem_toArray, List.getElem_cons_zero, List.getElem_cons_succ, List.setIfInBounds_toArray, List.set_cons_zero, List.set_cons_succ]; refine wpList_yields (.agg (drc zf).toArray) (yields_bld0 (by rfl) 25 rfl _ build25_zero) ?_; simp only [Act.put, List.getElem_toArray, List.getElem_cons_zero, List.getElem_cons_succ, List.setIfInBounds_toArray, List.set_cons_zero, List.set_cons_succ]; refine wpList_yields (.bool (!z)) (yields_neq (by rfl) 25 25 _ _ rfl (drc f).toArray (drc zf).toArray rfl rfl z Try.guard25 (fun W _ => HE.out W)) ?_))
      go_ret
      exact ⟨rfl, HB1.out⟩
  have e5 : (k == 5) = false := by simpa using k5
  by_cases k4 : k = 4
  · subst k4
    by_cases c_s : s = 0
    · subst c_s
      obtain rfl : C = 28 := by rw [← hC]; rw [if_neg (by simp [mbl])]
      clear hC
      go_enter Try.func10, Try.ntmps10
      go_wp2_with (first | (refine wpList_box_list rfl 27 _ rfl (ndc f) rfl ?_; intro w1 F1 hb1 hz1; have HB1 := Lib.hid hb1; have c0 := F1.out.c 0 _ rfl; have c1 := F1.out.c 1 _ rfl; have c3 := F1.out.c 3 _ rfl; have c10 := F1.out.c 10 _ rfl; have c11 := F1.out.c 11 _ rfl; rw [HG0.out] at c0; rw [HG1.out] at c1; rw [HG3.out] at c3; rw [HG10.out] at c10; rw [HG11.out] at c11; clear hb1 hz1) | (refine wpList_yields (.agg (drc f).toArray) (yieldsIf_load_mid (by rfl) 25 _ rfl w.heap.size 4 rfl (drc f) d (fun W hW => by subst hW; exact F1.out.range4) HU.out HD.out (size25 f)) ?_; simp only [Act.put, List.getElem_toArray, List.getElem_cons_zero, List.getElem_cons_succ, List.setIfInBounds_toArray, List.set_cons_zero, List.set_cons_succ]; refine wpList_yields (.agg (drc zf).toArray) (yields_bld0 (by rfl) 25 rfl _ build25_zero) ?_; simp only [Act.put, List.getElem_toArray, List.getElem_cons_zero, List.getElem_cons_succ, List.setIfInBounds_toArray, List.set_cons_zero, List.set_cons_succ]; refine wpList_yields (.bool (!z)) (yields_neq (by rfl) 25 25 _ _ rfl (drc f).toArray (drc zf).toArray rfl rfl z Try.guard25 (fun W _ => HE.out W)) ?_))
      go_ret
      exact ⟨rfl, HB1.out⟩
    have d_1 : decide (s < 1) = false := decide_eq_false (by omega)
    have d_p : 0 < s := by omega
    by_cases c_6 : 60 < s
    · obtain rfl : C = 28 := by rw [← hC]; rw [if_neg (by simp [mbl] <;> omega)]
      clear hC
      go_enter Try.func10, Try.ntmps10
      go_wp2_with (first | (refine wpList_box_list rfl 27 _ rfl (ndc f) rfl ?_; intro w1 F1 hb1 hz1; have HB1 := Lib.hid hb1; have c0 := F1.out.c 0 _ rfl; have c1 := F1.out.c 1 _ rfl; have c3 := F1.out.c 3 _ rfl; have c10 := F1.out.c 10 _ rfl; have c11 := F1.out.c 11 _ rfl; rw [HG0.out] at c0; rw [HG1.out] at c1; rw [HG3.out] at c3; rw [HG10.out] at c10; rw [HG11.out] at c11; clear hb1 hz1) | (refine wpList_yields (.agg (drc f).toArray) (yieldsIf_load_mid (by rfl) 25 _ rfl w.heap.size 4 rfl (drc f) d (fun W hW => by subst hW; exact F1.out.range4) HU.out HD.out (size25 f)) ?_; simp only [Act.put, List.getElem_toArray, List.getElem_cons_zero, List.getElem_cons_succ, List.setIfInBounds_toArray, List.set_cons_zero, List.set_cons_succ]; refine wpList_yields (.agg (drc zf).toArray) (yields_bld0 (by rfl) 25 rfl _ build25_zero) ?_; simp only [Act.put, List.getElem_toArray, List.getElem_cons_zero, List.getElem_cons_succ, List.setIfInBounds_toArray, List.set_cons_zero, List.set_cons_succ]; refine wpList_yields (.bool (!z)) (yields_neq (by rfl) 25 25 _ _ rfl (drc f).toArray (drc zf).toArray rfl rfl z Try.guard25 (fun W _ => HE.out W)) ?_))
      go_ret
      exact ⟨rfl, HB1.out⟩
    have d_s : s ≤ 60 := by omega
    by_cases c_l : l = 0
    · subst c_l
      obtain rfl : C = 28 := by rw [← hC]; simp
      clear hC
      go_enter Try.func10, Try.ntmps10
      go_wp2_with (first | (refine wpList_box_list rfl 27 _ rfl (ndc f) rfl ?_; intro w1 F1 hb1 hz1; have HB1 := Lib.hid hb1; have c0 := F1.out.c 0 _ rfl; have c1 := F1.out.c 1 _ rfl; have c3 := F1.out.c 3 _ rfl; have c10 := F1.out.c 10 _ rfl; have c11 := F1.out.c 11 _ rfl; rw [HG0.out] at c0; rw [HG1.out] at c1; rw [HG3.out] at c3; rw [HG10.out] at c10; rw [HG11.out] at c11; clear hb1 hz1) | (refine wpList_yields (.agg (drc f).toArray) (yieldsIf_load_mid (by rfl) 25 _ rfl w.heap.size 4 rfl (drc f) d (fun W hW => by subst hW; exact F1.out.range4) HU.out HD.out (size25 f)) ?_; simp only [Act.put, List.getElem_toArray, List.getElem_cons_zero, List.getElem_cons_succ, List.setIfInBounds_toArray, List.set_cons_zero, List.set_cons_succ]; refine wpList_yields (.agg (drc zf).toArray) (yields_bld0 (by rfl) 25 rfl _ build25_zero) ?_; simp only [Act.put, List.getElem_toArray, List.getElem_cons_zero, List.getElem_cons_succ, List.setIfInBounds_toArray, List.set_cons_zero, List.set_cons_succ]; refine wpList_yields (.bool (!z)) (yields_neq (by rfl) 25 25 _ _ rfl (drc f).toArray (drc zf).toArray rfl rfl z Try.guard25 (fun W _ => HE.out W)) ?_))
      go_ret
      exact ⟨rfl, HB1.out⟩
    · obtain rfl : C = 0 := by rw [← hC]; rw [if_pos ⟨by omega, by simp [mbl] <;> omega⟩]
      have e_l : (l == 0) = false := by rw [beq_eq_false_iff_ne]; omega
      have p_l : 0 < l := by omega
      clear hC
      go_enter Try.func10, Try.ntmps10
      go_wp2_with (first | (refine wpList_box_list rfl 27 _ rfl (ndc f) rfl ?_; intro w1 F1 hb1 hz1; have HB1 := Lib.hid hb1; have c0 := F1.out.c 0 _ rfl; have c1 := F1.out.c 1 _ rfl; have c3 := F1.out.c 3 _ rfl; have c10 := F1.out.c 10 _ rfl; have c11 := F1.out.c 11 _ rfl; rw [HG0.out] at c0; rw [HG1.out] at c1; rw [HG3.out] at c3; rw [HG10.out] at c10; rw [HG11.out] at c11; clear hb1 hz1) | (refine wpList_yields (.agg (drc f).toArray) (yieldsIf_load_mid (by rfl) 25 _ rfl w.heap.size 4 rfl (drc f) d (fun W hW => by subst hW; exact F1.out.range4) HU.out HD.out (size25 f)) ?_; simp only [Act.put, List.getElem_toArray, List.getElem_cons_zero, List.getElem_cons_succ, List.setIfInBounds_toArray, List.set_cons_zero, List.set_cons_succ]; refine wpList_yields (.agg (drc zf).toArray) (yields_bld0 (by rfl) 25 rfl _ build25_zero) ?_; simp only [Act.put, List.getElem_toArray, List.getElem_cons_zero, List.getElem_cons_succ, List.setIfInBounds_toArray, List.set_cons_zero, List.set_cons_succ]; refine wpList_yields (.bool (!z)) (yields_neq (by rfl) 25 25 _ _ rfl (drc f).toArray (drc zf).toArray rfl rfl z Try.guard25 (fun W _ => HE.out W)) ?_))
      go_ret
      exact ⟨rfl, HB1.out⟩
  have e4 : (k == 4) = false := by simpa using k4
  obtain rfl : C = 28 := by rw [← hC]; rw [if_neg (by simp [mbl, k1, k2, k3, k4, k5])]
  clear hC
  go_enter Try.func10, Try.ntmps10
  go_wp2_with (first | (refine wpList_box_list rfl 27 _ rfl (ndc f) rfl ?_; intro w1 F1 hb1 hz1; have HB1 := Lib.hid hb1; have c0 := F1.out.c 0 _ rfl; have c1 := F1.out.c 1 _ rfl; have c3 := F1.out.c 3 _ rfl; have c10 := F1.out.c 10 _ rfl; have c11 := F1.out.c 11 _ rfl; rw [HG0.out] at c0; rw [HG1.out] at c1; rw [HG3.out] at c3; rw [HG10.out] at c10; rw [HG11.out] at c11; clear hb1 hz1) | (refine wpList_yields (.agg (drc f).toArray) (yieldsIf_load_mid (by rfl) 25 _ rfl w.heap.size 4 rfl (drc f) d (fun W hW => by subst hW; exact F1.out.range4) HU.out HD.out (size25 f)) ?_; simp only [Act.put, List.getElem_toArray, List.getElem_cons_zero, List.getElem_cons_succ, List.setIfInBounds_toArray, List.set_cons_zero, List.set_cons_succ]; refine wpList_yields (.agg (drc zf).toArray) (yields_bld0 (by rfl) 25 rfl _ build25_zero) ?_; simp only [Act.put, List.getElem_toArray, List.getElem_cons_zero, List.getElem_cons_succ, List.setIfInBounds_toArray, List.set_cons_zero, List.set_cons_succ]; refine wpList_yields (.bool (!z)) (yields_neq (by rfl) 25 25 _ _ rfl (drc f).toArray (drc zf).toArray rfl rfl z Try.guard25 (fun W _ => HE.out W)) ?_))
  go_ret
  exact ⟨rfl, HB1.out⟩
end Go.Proofs.Ytdebkifnaiohcaa
