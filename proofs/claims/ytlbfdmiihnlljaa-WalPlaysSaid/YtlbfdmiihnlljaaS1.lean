import Derived.Test.YtlbfdmiihnlljaaE14
/- Same, of pieces of images. -/
namespace Go.Proofs.Ytlbfdmiihnlljaa
set_option linter.unusedSimpArgs false
set_option linter.unusedVariables false
open Go.RowKit Go.Maps

/-- n blocks of a row, from a place on -/
def Bo (w : World) (v : Value) (n : Nat) (f : Nat → Int) : Prop := ∃ b o c, v = .slice (some ⟨b, o, none⟩) n c ∧ b < w.heap.size ∧ ∀ j, j < n * 64 → w.cell? ⟨b, o + j, none⟩ = some (.int .u8 (f j))
theorem Fl.bo {w : World} {g N : Nat} {f : Nat → Int} (h : Fl w g N f) (o n c : Nat) (hn : o + n * 64 ≤ N) : Bo w (.slice (some ⟨g, o, none⟩) n c) n (fun j => f (o + j)) :=
  ⟨g, o, c, rfl, h.lt, fun j hj => h.c (o + j) (by omega)⟩
set_option maxHeartbeats 4000000 in
set_option maxRecDepth 100000 in
theorem same_off (va vb : Value) (na : Nat) (f g : Nat → Int) (h1 : na ≤ 65536) (w : World) (ha : Bo w va na f) (hb : Bo w vb na g) :
    Calls Try.prog 30 #[va, vb] w fun e w' => e = .returned (.bool (eqb (na * 64) f g)) ∧ Below w.heap.size w w' := by
  obtain ⟨ba, oa, ca, rfl, hba, hca⟩ := ha
  obtain ⟨bb, ob, cb, rfl, hbb, hcb⟩ := hb
  have HCA := Lib.hid hca
  have HCB := Lib.hid hcb
  clear hca hcb
  · skip
    go_enter Try.func30, Try.ntmps30
    go_wp2
    go_loopw [5] (fun i wr => ∃ k : Nat, k ≤ na ∧ i = .int .i64 k ∧ eqb (k * 64) f g = true ∧ Below w.heap.size w wr) (fun i _ => na - (Go.RowKit.intOf i).toNat)
    case atStart => exact ⟨0, by omega, rfl, by simp [eqb], Below.refl _ _⟩
    case round =>
      obtain ⟨k, hk, rfl, hek, hbr⟩ := hrel
      have HE := Lib.hid hek
      have HB := Lib.hid hbr
      clear hek hbr
      by_cases hlt : k < na
      · have hk0 : (0 : Int) ≤ k := by omega
        have hRA : ∀ W, Below w.heap.size w W → W.rangeAt ba (oa + k * 64) (byts 64 fun i => f (k * 64 + i)) := fun W hW j v hj => by
          obtain ⟨hj1, rfl⟩ := byts_of hj
          exact (hW.cell (p := ⟨ba, oa + k * 64 + j, none⟩) hba).trans (by rw [Nat.add_assoc]; exact HCA.out _ (by omega))
        have hRB : ∀ W, Below w.heap.size w W → W.rangeAt bb (ob + k * 64) (byts 64 fun i => g (k * 64 + i)) := fun W hW j v hj => by
          obtain ⟨hj1, rfl⟩ := byts_of hj
          exact (hW.cell (p := ⟨bb, ob + k * 64 + j, none⟩) hbb).trans (by rw [Nat.add_assoc]; exact HCB.out _ (by omega))
        have HRA := Lib.hid hRA
        have HRB := Lib.hid hRB
        clear hRA hRB
        obtain ⟨q, hq⟩ : ∃ q, eqb 64 (fun i => f (k * 64 + i)) (fun i => g (k * 64 + i)) = q := ⟨_, rfl⟩
        have HQ := Lib.hid hq
        have e36 := eq36 (fun i => f (k * 64 + i)) (fun i => g (k * 64 + i))
        rw [hq] at e36
        have HE36 := Lib.hid e36
        clear hq e36
        go_wp2_with fail
        refine wp_region_held (S := fun w' => Below w.heap.size w w') (by kernel_rfl) ?_
        change wpAnyH _ _ _ _ _ _ _ _ (World.drew _)
        have hS0 : Below w.heap.size w (World.drew wr) := HB.out.drew
        refine wpAnyH_take (i := 0) (v := ?_) rfl (by kernel_rfl) (by kernel_rfl) (by kernel_rfl) (fun _ _ _ h => h) (Or.inl ⟨by rfl, ?_⟩) hS0 ?_
        rotate_left 1
        · intro W hW
          go_simp
          try with_reducible rfl
        simp only [Act.put, List.getElem_toArray, List.getElem_cons_zero, List.getElem_cons_succ, List.setIfInBounds_toArray, List.set_cons_zero, List.set_cons_succ]
        refine wpAnyH_take (i := 1) (v := ?_) rfl (by kernel_rfl) (by kernel_rfl) (by kernel_rfl) (fun _ _ _ h => h) (Or.inl ⟨by rfl, ?_⟩) hS0 ?_
        rotate_left 1
        · intro W hW
          go_simp
          try with_reducible rfl
        simp only [Act.put, List.getElem_toArray, List.getElem_cons_zero, List.getElem_cons_succ, List.setIfInBounds_toArray, List.set_cons_zero, List.set_cons_succ]
        refine wpAnyH_take (i := 2) (v := ?_) rfl (by kernel_rfl) (by kernel_rfl) (by kernel_rfl) (fun _ _ _ h => h) (Or.inl ⟨by rfl, ?_⟩) hS0 ?_
        rotate_left 1
        · intro W hW
          go_simp
          try with_reducible rfl
        simp only [Act.put, List.getElem_toArray, List.getElem_cons_zero, List.getElem_cons_succ, List.setIfInBounds_toArray, List.set_cons_zero, List.set_cons_succ]
        refine wpAnyH_take (i := 3) (v := .agg (byts 64 fun i => f (k * 64 + i)).toArray) rfl (by kernel_rfl) (by kernel_rfl) (by kernel_rfl) (fun _ _ _ h => h) ?_ hS0 ?_
        · exact yieldsIf_load_mid (by rfl) 50 _ rfl ba (oa + k * 64) rfl (byts 64 fun i => f (k * 64 + i)) (.array 64 5) (fun W h => HRA.out W h) Try.arr36 rfl (size36 _)
        simp only [Act.put, List.getElem_toArray, List.getElem_cons_zero, List.getElem_cons_succ, List.setIfInBounds_toArray, List.set_cons_zero, List.set_cons_succ]
        refine wpAnyH_take (i := 4) (v := ?_) rfl (by kernel_rfl) (by kernel_rfl) (by kernel_rfl) (fun _ _ _ h => h) (Or.inl ⟨by rfl, ?_⟩) hS0 ?_
        rotate_left 1
        · intro W hW
          go_simp
          try with_reducible rfl
        simp only [Act.put, List.getElem_toArray, List.getElem_cons_zero, List.getElem_cons_succ, List.setIfInBounds_toArray, List.set_cons_zero, List.set_cons_succ]
        refine wpAnyH_take (i := 5) (v := ?_) rfl (by kernel_rfl) (by kernel_rfl) (by kernel_rfl) (fun _ _ _ h => h) (Or.inl ⟨by rfl, ?_⟩) hS0 ?_
        rotate_left 1
        · intro W hW
          go_simp
          try with_reducible rfl
        simp only [Act.put, List.getElem_toArray, List.getElem_cons_zero, List.getElem_cons_succ, List.setIfInBounds_toArray, List.set_cons_zero, List.set_cons_succ]
        refine wpAnyH_take (i := 6) (v := ?_) rfl (by kernel_rfl) (by kernel_rfl) (by kernel_rfl) (fun _ _ _ h => h) (Or.inl ⟨by rfl, ?_⟩) hS0 ?_
        rotate_left 1
        · intro W hW
          go_simp
          try with_reducible rfl
        simp only [Act.put, List.getElem_toArray, List.getElem_cons_zero, List.getElem_cons_succ, List.setIfInBounds_toArray, List.set_cons_zero, List.set_cons_succ]
        refine wpAnyH_take (i := 7) (v := .agg (byts 64 fun i => g (k * 64 + i)).toArray) rfl (by kernel_rfl) (by kernel_rfl) (by kernel_rfl) (fun _ _ _ h => h) ?_ hS0 ?_
        · exact yieldsIf_load_mid (by rfl) 50 _ rfl bb (ob + k * 64) rfl (byts 64 fun i => g (k * 64 + i)) (.array 64 5) (fun W h => HRB.out W h) Try.arr36 rfl (size36 _)
        simp only [Act.put, List.getElem_toArray, List.getElem_cons_zero, List.getElem_cons_succ, List.setIfInBounds_toArray, List.set_cons_zero, List.set_cons_succ]
        refine wpAnyH_take (i := 8) (v := ?_) rfl (by kernel_rfl) (by kernel_rfl) (by kernel_rfl) (fun _ _ _ h => h) (Or.inl ⟨by rfl, ?_⟩) hS0 ?_
        rotate_left 1
        · intro W hW
          have e36 := HE36.out W
          go_simp
          try with_reducible rfl
        simp only [Act.put, List.getElem_toArray, List.getElem_cons_zero, List.getElem_cons_succ, List.setIfInBounds_toArray, List.set_cons_zero, List.set_cons_succ]
        refine wpAnyH_done (by kernel_rfl) ?_ _
        clear hS0
        cases q
        · go_wp2
          go_ret
          refine ⟨ret_bool ?_, HB.out.drew⟩
          exact (eqb_mono (by rw [eqb_succ, HE.out, HQ.out]; rfl) (by omega : (k + 1) * 64 ≤ na * 64)).symm
        · go_wp2
          go_roundw
          case rel => exact ⟨k + 1, by omega, by go_num, by rw [eqb_succ, HE.out, HQ.out]; rfl, HB.out.drew⟩
          case measure => simp [Go.RowKit.intOf]; omega
      · obtain rfl : k = na := by omega
        go_wp2
        go_ret
        exact ⟨ret_bool HE.out.symm, HB.out⟩
end Go.Proofs.Ytlbfdmiihnlljaa
