import Derived.Test.YtlbfdmiihnlljaaX1
import Derived.Test.YtlbfdmiihnlljaaD6
/- Two lists of numbers compared. -/
namespace Go.Proofs.Ytlbfdmiihnlljaa
set_option linter.unusedSimpArgs false
set_option linter.unusedVariables false
open Go.RowKit Go.Maps

theorem take_eq {xs ys : List Nat} {k : Nat} (h1 : k < xs.length) (h2 : k < ys.length) (h : xs.take k = ys.take k) : (xs.take (k + 1) = ys.take (k + 1)) ↔ xs[k] = ys[k] := by
  rw [List.take_succ_eq_append_getElem h1, List.take_succ_eq_append_getElem h2, h]
  exact ⟨fun e => by injection List.append_cancel_left e, fun e => by rw [e]⟩

set_option maxHeartbeats 4000000 in
set_option maxRecDepth 100000 in
theorem sameints_any (va vb : Value) (xs ys : List Nat) (h1 : xs.length ≤ 65536) (h2 : ys.length ≤ 65536) (w : World) (ha : Ns w va xs) (hb : Ns w vb ys) :
    Calls Try.prog 28 #[va, vb] w fun e w' => e = .returned (.bool (decide (xs = ys))) ∧ Below w.heap.size w w' := by
  obtain ⟨pa, ca, rfl, _⟩ := ha.form
  obtain ⟨pb, cb, rfl, _⟩ := hb.form
  have HV1 := Lib.hid ha
  have HV2 := Lib.hid hb
  clear ha hb
  by_cases hn : xs.length = ys.length
  · have HN := Lib.hid hn
    obtain ⟨n, hxn⟩ : ∃ n, xs.length = n := ⟨_, rfl⟩
    have hyn : ys.length = n := by omega
    have HXN := Lib.hid hxn
    have HYN := Lib.hid hyn
    rw [hxn] at HV1 h1 ⊢
    rw [hyn] at HV2 ⊢
    clear hn hxn hyn h2
    have h1' : (n : Int) ≤ 65536 := by omega
    obtain ⟨R, hR⟩ : ∃ R, decide (xs = ys) = R := ⟨_, rfl⟩
    have HR := Lib.hid hR
    rw [hR]
    clear hR
    go_enter Try.func28, Try.ntmps28
    go_wp2
    go_loopw [5] (fun i wr => ∃ k : Nat, k ≤ n ∧ i = .int .i64 k ∧ xs.take k = ys.take k ∧ Below w.heap.size w wr) (fun i _ => n - (intOf i).toNat)
    case atStart => exact ⟨0, by omega, rfl, by simp, Below.refl _ _⟩
    case round =>
      obtain ⟨k, hk, rfl, hek, hbr⟩ := hrel
      have HE := Lib.hid hek
      have HB := Lib.hid hbr
      clear hek hbr
      have hk0 : (0 : Int) ≤ k := by omega
      by_cases hlt : k < n
      · have hkk : (k : Int) < n := by omega
        have hl1 : k < xs.length := by rw [HXN.out]; exact hlt
        have hl2 : k < ys.length := by rw [HYN.out]; exact hlt
        obtain ⟨b1, o1, rfl, hb1, hc1⟩ := HV1.out.at k hl1
        obtain ⟨b2, o2, rfl, hb2, hc2⟩ := HV2.out.at k hl2
        have HIF := Lib.hid (take_eq hl1 hl2 HE.out)
        have HNE : Hid (xs[k] ≠ ys[k] → R = false) := fun h => by
          rw [← HR.out]
          exact decide_eq_false (fun he => h (by subst he; rfl))
        generalize xs[k] = s at *
        generalize ys[k] = t at *
        have HC1 := Lib.hid hc1
        have HC2 := Lib.hid hc2
        clear hc1 hc2 HE hl1 hl2
        go_wp2_with fail
        refine wp_region_held (S := fun w' => Below w.heap.size w w') (by kernel_rfl) ?_
        change wpAnyH _ _ _ _ _ _ _ _ (World.drew _)
        have hS0 : Below w.heap.size w (World.drew wr) := HB.out.drew
        refine wpAnyH_take (i := 0) (v := ?_) rfl (by kernel_rfl) (by kernel_rfl) (by kernel_rfl) (fun _ _ _ h => h) (Or.inl ⟨by rfl, ?_⟩) hS0 ?_
        rotate_left 1
        · intro W hW
          go_simp
          try with_reducible rfl
        simp only [Act.put, List.getElem_toArray, List.getElem_cons_zero, List.getElem_cons_succ, List.setIfInBounds_toArray, List.set_cons_zero, List.set_cons_succ]
        refine wpAnyH_take (i := 1) (v := ?_) rfl (by kernel_rfl) (by kernel_rfl) (by kernel_rfl) (fun _ _ _ h => h) (Or.inl ⟨by rfl, ?_⟩) hS0 ?_
        rotate_left 1
        · intro W hW
          go_simp
          try with_reducible rfl
        simp only [Act.put, List.getElem_toArray, List.getElem_cons_zero, List.getElem_cons_succ, List.setIfInBounds_toArray, List.set_cons_zero, List.set_cons_succ]
        refine wpAnyH_take (i := 2) (v := ?_) rfl (by kernel_rfl) (by kernel_rfl) (by kernel_rfl) (fun _ _ _ h => h) (Or.inl ⟨by rfl, ?_⟩) hS0 ?_
        rotate_left 1
        · intro W hW
          go_simp
          try with_reducible rfl
        simp only [Act.put, List.getElem_toArray, List.getElem_cons_zero, List.getElem_cons_succ, List.setIfInBounds_toArray, List.set_cons_zero, List.set_cons_succ]
        refine wpAnyH_take (i := 3) (v := ?_) rfl (by kernel_rfl) (by kernel_rfl) (by kernel_rfl) (fun _ _ _ h => h) (Or.inl ⟨by rfl, ?_⟩) hS0 ?_
        rotate_left 1
        · intro W hW
          have cA := (hW.cell (p := ⟨b1, o1 + k, none⟩) hb1).trans HC1.out
          go_simp
          try with_reducible rfl
        simp only [Act.put, List.getElem_toArray, List.getElem_cons_zero, List.getElem_cons_succ, List.setIfInBounds_toArray, List.set_cons_zero, List.set_cons_succ]
        refine wpAnyH_take (i := 4) (v := ?_) rfl (by kernel_rfl) (by kernel_rfl) (by kernel_rfl) (fun _ _ _ h => h) (Or.inl ⟨by rfl, ?_⟩) hS0 ?_
        rotate_left 1
        · intro W hW
          go_simp
          try with_reducible rfl
        simp only [Act.put, List.getElem_toArray, List.getElem_cons_zero, List.getElem_cons_succ, List.setIfInBounds_toArray, List.set_cons_zero, List.set_cons_succ]
        refine wpAnyH_take (i := 5) (v := ?_) rfl (by kernel_rfl) (by kernel_rfl) (by kernel_rfl) (fun _ _ _ h => h) (Or.inl ⟨by rfl, ?_⟩) hS0 ?_
        rotate_left 1
        · intro W hW
          go_simp
          try with_reducible rfl
        simp only [Act.put, List.getElem_toArray, List.getElem_cons_zero, List.getElem_cons_succ, List.setIfInBounds_toArray, List.set_cons_zero, List.set_cons_succ]
        refine wpAnyH_take (i := 6) (v := ?_) rfl (by kernel_rfl) (by kernel_rfl) (by kernel_rfl) (fun _ _ _ h => h) (Or.inl ⟨by rfl, ?_⟩) hS0 ?_
        rotate_left 1
        · intro W hW
          go_simp
          try with_reducible rfl
        simp only [Act.put, List.getElem_toArray, List.getElem_cons_zero, List.getElem_cons_succ, List.setIfInBounds_toArray, List.set_cons_zero, List.set_cons_succ]
        refine wpAnyH_take (i := 7) (v := ?_) rfl (by kernel_rfl) (by kernel_rfl) (by kernel_rfl) (fun _ _ _ h => h) (Or.inl ⟨by rfl, ?_⟩) hS0 ?_
        rotate_left 1
        · intro W hW
          have cB := (hW.cell (p := ⟨b2, o2 + k, none⟩) hb2).trans HC2.out
          go_simp
          try with_reducible rfl
        simp only [Act.put, List.getElem_toArray, List.getElem_cons_zero, List.getElem_cons_succ, List.setIfInBounds_toArray, List.set_cons_zero, List.set_cons_succ]
        refine wpAnyH_take (i := 8) (v := ?_) rfl (by kernel_rfl) (by kernel_rfl) (by kernel_rfl) (fun _ _ _ h => h) (Or.inl ⟨by rfl, ?_⟩) hS0 ?_
        rotate_left 1
        · intro W hW
          go_simp
          try with_reducible rfl
        simp only [Act.put, List.getElem_toArray, List.getElem_cons_zero, List.getElem_cons_succ, List.setIfInBounds_toArray, List.set_cons_zero, List.set_cons_succ]
        refine wpAnyH_done (by kernel_rfl) ?_ _
        clear hS0
        by_cases hst : s = t
        · have hd : ((s : Int) = (t : Int)) := by omega
          have hdd : decide ((s : Int) = (t : Int)) = true := decide_eq_true hd
          have HT := Lib.hid (HIF.out.2 hst)
          subst hst
          clear HIF HNE hd
          go_wp2_with fail
          go_roundw
          case rel => exact ⟨k + 1, by omega, by go_num, HT.out, HB.out.drew⟩
          case measure => simp [intOf]; omega
        · have hd : ¬ ((s : Int) = (t : Int)) := by omega
          have hdd : decide ((s : Int) = (t : Int)) = false := decide_eq_false hd
          have hRf : R = false := HNE.out hst
          subst hRf
          clear HIF HNE hst
          go_wp2_with fail
          go_ret
          exact ⟨rfl, HB.out.drew⟩
      · obtain rfl : k = n := by omega
        have hRt : R = true := by
          rw [← HR.out]
          refine decide_eq_true ?_
          have h3 := HE.out
          rwa [List.take_of_length_le (by have := HXN.out; omega), List.take_of_length_le (by have := HYN.out; omega)] at h3
        subst hRt
        clear HE HR
        go_wp2
        go_ret
        exact ⟨rfl, HB.out⟩
  · have hf : decide (xs = ys) = false := decide_eq_false (fun h => hn (by rw [h]))
    rw [hf]
    have hne : (xs.length : Int) ≠ ys.length := by omega
    have h1' : (xs.length : Int) ≤ 65536 := by omega
    have h2' : (ys.length : Int) ≤ 65536 := by omega
    clear hn hf
    go_enter Try.func28, Try.ntmps28
    go_wp2
    go_ret
    exact ⟨rfl, Below.refl _ _⟩
end Go.Proofs.Ytlbfdmiihnlljaa
