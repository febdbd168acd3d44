import Derived.Test.YtlbfdmiihnlljaaD5
/- Same; a block by its number. -/
namespace Go.Proofs.Ytlbfdmiihnlljaa
set_option linter.unusedSimpArgs false
set_option linter.unusedVariables false
open Go.RowKit

theorem ret_bool {a b : Bool} (h : a = b) : Ending.returned (.bool a) = .returned (.bool b) := by rw [h]
theorem eqb_succ (k : Nat) (f g : Nat → Int) : eqb ((k + 1) * 64) f g = (eqb (k * 64) f g && eqb 64 (fun i => f (k * 64 + i)) (fun i => g (k * 64 + i))) := by
  rw [Bool.eq_iff_iff, Bool.and_eq_true, eqb_iff, eqb_iff, eqb_iff]
  constructor
  · intro h
    exact ⟨fun i hi => h i (by omega), fun i hi => h (k * 64 + i) (by omega)⟩
  · rintro ⟨h1, h2⟩ i hi
    by_cases hh : i < k * 64
    · exact h1 i hh
    · have := h2 (i - k * 64) (by omega)
      simpa [show k * 64 + (i - k * 64) = i by omega] using this
theorem eqb_mono {m n : Nat} {f g : Nat → Int} (h : eqb m f g = false) (hm : m ≤ n) : eqb n f g = false := by
  cases h2 : eqb n f g
  · rfl
  · rw [eqb_iff] at h2
    rw [(eqb_iff m f g).2 fun i hi => h2 i (by omega)] at h
    exact h

set_option maxHeartbeats 4000000 in
set_option maxRecDepth 100000 in
theorem same_any (va vb : Value) (na nb : Nat) (f g : Nat → Int) (h1 : na ≤ 65536) (h2 : nb ≤ 65536) (w : World) (ha : Bs w va na f) (hb : Bs w vb nb g) :
    Calls Try.prog 30 #[va, vb] w fun e w' => e = .returned (.bool (decide (na = nb) && eqb (na * 64) f g)) ∧ Below w.heap.size w w' := by
  obtain ⟨pa, ca, rfl, hpa⟩ := ha
  obtain ⟨pb, cb, rfl, hpb⟩ := hb
  by_cases hn : na = nb
  · subst hn
    have HPA := Lib.hid hpa
    have HPB := Lib.hid hpb
    clear hpa hpb h2
    have hdd : (decide (na = na) && eqb (na * 64) f g) = eqb (na * 64) f g := by simp
    rw [hdd]
    clear hdd
    go_enter Try.func30, Try.ntmps30
    go_wp2
    go_loopw [5] (fun i wr => ∃ k : Nat, k ≤ na ∧ i = .int .i64 k ∧ eqb (k * 64) f g = true ∧ Below w.heap.size w wr) (fun i _ => na - (intOf i).toNat)
    case atStart => exact ⟨0, by omega, rfl, by simp [eqb], Below.refl _ _⟩
    case round =>
      obtain ⟨k, hk, rfl, hek, hbr⟩ := hrel
      have HE := Lib.hid hek
      have HB := Lib.hid hbr
      clear hek hbr
      by_cases hlt : k < na
      · have hk0 : (0 : Int) ≤ k := by omega
        obtain ⟨ba, rfl, hba, hca⟩ := HPA.out (by omega)
        obtain ⟨bb, rfl, hbb, hcb⟩ := HPB.out (by omega)
        have HCA := Lib.hid hca
        have HCB := Lib.hid hcb
        clear hca hcb
        have hRA : ∀ W, Below w.heap.size w W → W.rangeAt ba (k * 64) (byts 64 fun i => f (k * 64 + i)) := fun W hW j v hj => by
          obtain ⟨hj1, rfl⟩ := byts_of hj
          exact (hW.cell (p := ⟨ba, k * 64 + j, none⟩) hba).trans (HCA.out _ (by omega))
        have hRB : ∀ W, Below w.heap.size w W → W.rangeAt bb (k * 64) (byts 64 fun i => g (k * 64 + i)) := fun W hW j v hj => by
          obtain ⟨hj1, rfl⟩ := byts_of hj
          exact (hW.cell (p := ⟨bb, k * 64 + j, none⟩) hbb).trans (HCB.out _ (by omega))
        have HRA := Lib.hid hRA
        have HRB := Lib.hid hRB
        clear hRA hRB
        obtain ⟨q, hq⟩ : ∃ q, eqb 64 (fun i => f (k * 64 + i)) (fun i => g (k * 64 + i)) = q := ⟨_, rfl⟩
        have HQ := Lib.hid hq
        have e36 := eq36 (fun i => f (k * 64 + i)) (fun i => g (k * 64 + i))
        rw [hq] at e36
        have HE36 := Lib.hid e36
        clear hq e36
        go_wp2_with fail
        refine wp_region_held (S := fun w' => Below w.heap.size w w') (by kernel_rfl) ?_
        change wpAnyH _ _ _ _ _ _ _ _ (World.drew _)
        have hS0 : Below w.heap.size w (World.drew wr) := HB.out.drew
        refine wpAnyH_take (i := 0) (v := ?_) rfl (by kernel_rfl) (by kernel_rfl) (by kernel_rfl) (fun _ _ _ h => h) (Or.inl ⟨by rfl, ?_⟩) hS0 ?_
        rotate_left 1
        · intro W hW
          go_simp
          try with_reducible rfl
        simp only [Act.put, List.getElem_toArray, List.getElem_cons_zero, List.getElem_cons_succ, List.setIfInBounds_toArray, List.set_cons_zero, List.set_cons_succ]
        refine wpAnyH_take (i := 1) (v := ?_) rfl (by kernel_rfl) (by kernel_rfl) (by kernel_rfl) (fun _ _ _ h => h) (Or.inl ⟨by rfl, ?_⟩) hS0 ?_
        rotate_left 1
        · intro W hW
          go_simp
          try with_reducible rfl
        simp only [Act.put, List.getElem_toArray, List.getElem_cons_zero, List.getElem_cons_succ, List.setIfInBounds_toArray, List.set_cons_zero, List.set_cons_succ]
        refine wpAnyH_take (i := 2) (v := ?_) rfl (by kernel_rfl) (by kernel_rfl) (by kernel_rfl) (fun _ _ _ h => h) (Or.inl ⟨by rfl, ?_⟩) hS0 ?_
        rotate_left 1
        · intro W hW
          go_simp
          try with_reducible rfl
        simp only [Act.put, List.getElem_toArray, List.getElem_cons_zero, List.getElem_cons_succ, List.setIfInBounds_toArray, List.set_cons_zero, List.set_cons_succ]
        refine wpAnyH_take (i := 3) (v := .agg (byts 64 fun i => f (k * 64 + i)).toArray) rfl (by kernel_rfl) (by kernel_rfl) (by kernel_rfl) (fun _ _ _ h => h) ?_ hS0 ?_
        · exact yieldsIf_load_mid (by rfl) 50 _ rfl ba (k * 64) rfl (byts 64 fun i => f (k * 64 + i)) (.array 64 5) (fun W h => HRA.out W h) Try.arr36 rfl (size36 _)
        simp only [Act.put, List.getElem_toArray, List.getElem_cons_zero, List.getElem_cons_succ, List.setIfInBounds_toArray, List.set_cons_zero, List.set_cons_succ]
        refine wpAnyH_take (i := 4) (v := ?_) rfl (by kernel_rfl) (by kernel_rfl) (by kernel_rfl) (fun _ _ _ h => h) (Or.inl ⟨by rfl, ?_⟩) hS0 ?_
        rotate_left 1
        · intro W hW
          go_simp
          try with_reducible rfl
        simp only [Act.put, List.getElem_toArray, List.getElem_cons_zero, List.getElem_cons_succ, List.setIfInBounds_toArray, List.set_cons_zero, List.set_cons_succ]
        refine wpAnyH_take (i := 5) (v := ?_) rfl (by kernel_rfl) (by kernel_rfl) (by kernel_rfl) (fun _ _ _ h => h) (Or.inl ⟨by rfl, ?_⟩) hS0 ?_
        rotate_left 1
        · intro W hW
          go_simp
          try with_reducible rfl
        simp only [Act.put, List.getElem_toArray, List.getElem_cons_zero, List.getElem_cons_succ, List.setIfInBounds_toArray, List.set_cons_zero, List.set_cons_succ]
        refine wpAnyH_take (i := 6) (v := ?_) rfl (by kernel_rfl) (by kernel_rfl) (by kernel_rfl) (fun _ _ _ h => h) (Or.inl ⟨by rfl, ?_⟩) hS0 ?_
        rotate_left 1
        · intro W hW
          go_simp
          try with_reducible rfl
        simp only [Act.put, List.getElem_toArray, List.getElem_cons_zero, List.getElem_cons_succ, List.setIfInBounds_toArray, List.set_cons_zero, List.set_cons_succ]
        refine wpAnyH_take (i := 7) (v := .agg (byts 64 fun i => g (k * 64 + i)).toArray) rfl (by kernel_rfl) (by kernel_rfl) (by kernel_rfl) (fun _ _ _ h => h) ?_ hS0 ?_
        · exact yieldsIf_load_mid (by rfl) 50 _ rfl bb (k * 64) rfl (byts 64 fun i => g (k * 64 + i)) (.array 64 5) (fun W h => HRB.out W h) Try.arr36 rfl (size36 _)
        simp only [Act.put, List.getElem_toArray, List.getElem_cons_zero, List.getElem_cons_succ, List.setIfInBounds_toArray, List.set_cons_zero, List.set_cons_succ]
        refine wpAnyH_take (i := 8) (v := ?_) rfl (by kernel_rfl) (by kernel_rfl) (by kernel_rfl) (fun _ _ _ h => h) (Or.inl ⟨by rfl, ?_⟩) hS0 ?_
        rotate_left 1
        · intro W hW
          have e36 := HE36.out W
          go_simp
          try with_reducible rfl
        simp only [Act.put, List.getElem_toArray, List.getElem_cons_zero, List.getElem_cons_succ, List.setIfInBounds_toArray, List.set_cons_zero, List.set_cons_succ]
        refine wpAnyH_done (by kernel_rfl) ?_ _
        clear hS0
        cases q
        · go_wp2
          go_ret
          refine ⟨ret_bool ?_, HB.out.drew⟩
          exact (eqb_mono (by rw [eqb_succ, HE.out, HQ.out]; rfl) (by omega : (k + 1) * 64 ≤ na * 64)).symm
        · go_wp2
          go_roundw
          case rel => exact ⟨k + 1, by omega, by go_num, by rw [eqb_succ, HE.out, HQ.out]; rfl, HB.out.drew⟩
          case measure => simp [intOf]; omega
      · obtain rfl : k = na := by omega
        go_wp2
        go_ret
        exact ⟨ret_bool HE.out.symm, HB.out⟩
  · have hdd : (decide (na = nb) && eqb (na * 64) f g) = false := by simp [hn]
    rw [hdd]
    clear hdd hpa hpb
    go_enter Try.func30, Try.ntmps30
    go_wp2
    go_ret
    exact ⟨rfl, Below.refl _ _⟩

theorem Fl.set {w : World} {g N : Nat} {f : Nat → Int} (h : Fl w g N f) (i : Nat) (hi : i < N) (x : Int) : Fl (w.setCell ⟨g, i, none⟩ (.int .u8 x)) g N (fun j => if j = i then x else f j) := by
  refine ⟨lt_set h.lt _ _, fun j hj => ?_, fun j hj => by rw [World.frozen?_setCell]; exact h.z j hj⟩
  by_cases e : j = i
  · subst e
    rw [if_pos rfl]
    exact World.cell?_setCell_same _ _ _ (h.c j hj)
  · rw [if_neg e, World.cell?_setCell_other _ _ _ _ (by simp [Ne.symm e])]
    exact h.c j hj
end Go.Proofs.Ytlbfdmiihnlljaa
