import Derived.Test.YtgfgdfcedmcjeaaGreatDoorA2
/- U9 -/
namespace Go.Proofs.YtgfgdfcedmcjeaaGreatDoor
set_option linter.unusedSimpArgs false
set_option linter.unusedVariables false
open Go.RowKit Go.Maps

theorem ra_keep {w w' : World} {g o : Nat} {cs : List Value} (h : w.rangeAt g o cs) (hb : Below w.heap.size w w') : w'.rangeAt g o cs := fun j u hj => by
  have := h j u hj
  exact (hb.cell (World.block_lt_of_cell? w _ this)).trans this
/-- a slice of places -/
def Es (w : World) (v : Value) (E : List En) : Prop := ∃ pa cap, v = .slice pa E.length cap ∧ ∀ (k : Nat) (e : En), E[k]? = some e → ∃ g, pa = some ⟨g, 0, none⟩ ∧ w.rangeAt g (k * 2) (enc e)
theorem Es.keep {w w' : World} {v : Value} {E : List En} (h : Es w v E) (hb : Below w.heap.size w w') : Es w' v E := by
  obtain ⟨pa, cap, hv, hk⟩ := h
  exact ⟨pa, cap, hv, fun k e he => by
    obtain ⟨g, hg, hr⟩ := hk k e he
    exact ⟨g, hg, ra_keep hr hb⟩⟩
theorem Es.own {w : World} {base : Nat} {v : Value} {E : List En} (h : w.ownsRow base 58 2 v E.length (flatE E)) : Es w v E := by
  obtain ⟨pa, cap, hv⟩ := Cf.ownsRow_form h
  subst hv
  refine ⟨pa, cap, rfl, fun k e he => ?_⟩
  obtain ⟨g, rfl, -, -⟩ := own_some h (by have := (List.getElem?_eq_some_iff.1 he).1; omega)
  exact ⟨g, rfl, own_at h rfl he⟩
set_option maxHeartbeats 20000000 in
set_option maxRecDepth 100000 in
theorem same_any (v1 v2 : Value) (E1 E2 : List En) (s1 : smE E1) (s2 : smE E2) (hm : E1.length ≤ 2000) (w : World) (h1 : Es w v1 E1) (h2 : Es w v2 E2) : Calls Tryz.prog 29 #[v1, v2] w fun e w' => e = .returned (.bool (decide (E1 = E2))) ∧ Below w.heap.size w w' := by
  obtain ⟨pa1, cap1, rfl, k1⟩ := id h1
  obtain ⟨pa2, cap2, rfl, k2⟩ := id h2
  obtain ⟨dE, hu, hd⟩ := Tryz.descEn
  have HU := Lib.hid hu
  have HDd := Lib.hid hd
  have HK1 := Lib.hid k1
  have HK2 := Lib.hid k2
  have HS1 := Lib.hid s1
  have HS2 := Lib.hid s2
  clear hu hd k1 k2 s1 s2 h1 h2
  obtain ⟨n1, hn1⟩ : ∃ n, E1.length = n := ⟨_, rfl⟩
  obtain ⟨n2, hn2⟩ : ∃ n, E2.length = n := ⟨_, rfl⟩
  have HN1 := Lib.hid hn1
  have HN2 := Lib.hid hn2
  rw [hn1] at hm ⊢
  rw [hn2]
  clear hn1 hn2
  by_cases hl : n1 = n2
  · subst hl
    go_enter Tryz.func29, Tryz.ntmps29
    go_wp2_with fail
    go_loopw [5] (fun iv wr => ∃ k : Nat, k ≤ n1 ∧ iv = .int .i64 k ∧ Below w.heap.size w wr ∧ ∀ j, j < k → E1[j]? = E2[j]?) (fun iv _ => n1 - (Go.RowKit.intOf iv).toNat)
    case atStart => exact ⟨0, Nat.zero_le _, rfl, Below.refl _ _, fun j hj => absurd hj (Nat.not_lt_zero _)⟩
    case round =>
      obtain ⟨k, hk, rfl, hb, ha⟩ := hrel
      have HB := Lib.hid hb
      have HA := Lib.hid ha
      clear hb ha
      by_cases hkn : k < n1
      · have hkn1 : (k : Int) < n1 := by omega
        have hk0 : (0 : Int) ≤ k := by omega
        obtain ⟨e1, he1⟩ : ∃ e, E1[k]? = some e := ⟨_, List.getElem?_eq_getElem (by rw [HN1.out]; exact hkn)⟩
        obtain ⟨e2, he2⟩ : ∃ e, E2[k]? = some e := ⟨_, List.getElem?_eq_getElem (by rw [HN2.out]; exact hkn)⟩
        obtain ⟨g1, rfl, hr1⟩ := HK1.out k e1 he1
        obtain ⟨g2, rfl, hr2⟩ := HK2.out k e2 he2
        have HQ1 := Lib.hid (show wr.rangeAt g1 (k * 2) (enc e1) from fun j u hj => (HB.out.cell (World.block_lt_of_cell? w _ (hr1 j u hj))).trans (hr1 j u hj))
        have HQ2 := Lib.hid (show wr.rangeAt g2 (k * 2) (enc e2) from fun j u hj => (HB.out.cell (World.block_lt_of_cell? w _ (hr2 j u hj))).trans (hr2 j u hj))
        have hz1 := HS1.out e1 (List.mem_of_getElem? he1)
        have hz2 := HS2.out e2 (List.mem_of_getElem? he2)
        have HEQ := Lib.hid (fun W => eqEn e1 e2 (by have := hz1.1; unfold maxLen; omega) hz1.2 (by have := hz2.1; unfold maxLen; omega) hz2.2 W)
        have HE1 := Lib.hid he1
        have HE2 := Lib.hid he2
        clear hr1 hr2 hz1 hz2 he1 he2
        by_cases he : e1 = e2
        · rw [decide_eq_true he] at HEQ
          go_upto_region 6 with fail
          refine wp_region_held (S := fun W => W.rangeAt g1 (k * 2) (enc e1) ∧ W.rangeAt g2 (k * 2) (enc e2)) (by kernel_rfl) ?_
          change wpAnyH _ _ _ _ _ _ _ _ (World.drew _)
          have hbd : Below wr.heap.size wr wr.drew := (Below.refl _ _).drew
          have hS0 : (fun W => W.rangeAt g1 (k * 2) (enc e1) ∧ W.rangeAt g2 (k * 2) (enc e2)) wr.drew := ⟨ra_keep HQ1.out hbd, ra_keep HQ2.out hbd⟩
          have HB3 := Lib.hid (HB.out.trans (hbd.mono HB.out.size))
          obtain ⟨w3, hw3⟩ : ∃ x, World.drew wr = x := ⟨_, rfl⟩
          rw [hw3] at hS0 HB3 ⊢
          clear hw3 hbd HB
          refine wpAnyH_take (i := 0) (v := ?_) rfl (by kernel_rfl) (by kernel_rfl) (by kernel_rfl) (fun _ _ _ h => h) (Or.inl ⟨by rfl, ?_⟩) hS0 ?_
          rotate_left 1
          · intro W hW
            go_simp
            try with_reducible rfl
          simp only [Act.put, List.getElem_toArray, List.getElem_cons_zero, List.getElem_cons_succ, List.setIfInBounds_toArray, List.set_cons_zero, List.set_cons_succ]
          refine wpAnyH_take (i := 1) (v := ?_) rfl (by kernel_rfl) (by kernel_rfl) (by kernel_rfl) (fun _ _ _ h => h) (Or.inl ⟨by rfl, ?_⟩) hS0 ?_
          rotate_left 1
          · intro W hW
            go_simp
            try with_reducible rfl
          simp only [Act.put, List.getElem_toArray, List.getElem_cons_zero, List.getElem_cons_succ, List.setIfInBounds_toArray, List.set_cons_zero, List.set_cons_succ]
          refine wpAnyH_take (i := 2) (v := ?_) rfl (by kernel_rfl) (by kernel_rfl) (by kernel_rfl) (fun _ _ _ h => h) (Or.inl ⟨by rfl, ?_⟩) hS0 ?_
          rotate_left 1
          · intro W hW
            go_simp
            try with_reducible rfl
          simp only [Act.put, List.getElem_toArray, List.getElem_cons_zero, List.getElem_cons_succ, List.setIfInBounds_toArray, List.set_cons_zero, List.set_cons_succ]
          refine wpAnyH_take (i := 3) (v := .agg (enc e1).toArray) rfl (by kernel_rfl) (by kernel_rfl) (by kernel_rfl) (fun _ _ _ h => h) ?_ hS0 ?_
          · exact yieldsIf_load_mid (by rfl) 58 _ rfl g1 (k * 2) rfl (enc e1) dE (fun _ h => h.1) HU.out HDd.out Tryz.isizeEn
          simp only [Act.put, List.getElem_toArray, List.getElem_cons_zero, List.getElem_cons_succ, List.setIfInBounds_toArray, List.set_cons_zero, List.set_cons_succ]
          refine wpAnyH_take (i := 4) (v := ?_) rfl (by kernel_rfl) (by kernel_rfl) (by kernel_rfl) (fun _ _ _ h => h) (Or.inl ⟨by rfl, ?_⟩) hS0 ?_
          rotate_left 1
          · intro W hW
            go_simp
            try with_reducible rfl
          simp only [Act.put, List.getElem_toArray, List.getElem_cons_zero, List.getElem_cons_succ, List.setIfInBounds_toArray, List.set_cons_zero, List.set_cons_succ]
          refine wpAnyH_take (i := 5) (v := ?_) rfl (by kernel_rfl) (by kernel_rfl) (by kernel_rfl) (fun _ _ _ h => h) (Or.inl ⟨by rfl, ?_⟩) hS0 ?_
          rotate_left 1
          · intro W hW
            go_simp
            try with_reducible rfl
          simp only [Act.put, List.getElem_toArray, List.getElem_cons_zero, List.getElem_cons_succ, List.setIfInBounds_toArray, List.set_cons_zero, List.set_cons_succ]
          refine wpAnyH_take (i := 6) (v := ?_) rfl (by kernel_rfl) (by kernel_rfl) (by kernel_rfl) (fun _ _ _ h => h) (Or.inl ⟨by rfl, ?_⟩) hS0 ?_
          rotate_left 1
          · intro W hW
            go_simp
            try with_reducible rfl
          simp only [Act.put, List.getElem_toArray, List.getElem_cons_zero, List.getElem_cons_succ, List.setIfInBounds_toArray, List.set_cons_zero, List.set_cons_succ]
          refine wpAnyH_take (i := 7) (v := .agg (enc e2).toArray) rfl (by kernel_rfl) (by kernel_rfl) (by kernel_rfl) (fun _ _ _ h => h) ?_ hS0 ?_
          · exact yieldsIf_load_mid (by rfl) 58 _ rfl g2 (k * 2) rfl (enc e2) dE (fun _ h => h.2) HU.out HDd.out Tryz.isizeEn
          simp only [Act.put, List.getElem_toArray, List.getElem_cons_zero, List.getElem_cons_succ, List.setIfInBounds_toArray, List.set_cons_zero, List.set_cons_succ]
          refine wpAnyH_take (i := 8) (v := .bool false) rfl (by kernel_rfl) (by kernel_rfl) (by kernel_rfl) (fun _ _ _ h => h) ?_ hS0 ?_
          · exact yields_neq (by rfl) 58 58 _ _ rfl (enc e1).toArray (enc e2).toArray rfl rfl true Tryz.guardEn (fun W _ => HEQ.out W)
          simp only [Act.put, List.getElem_toArray, List.getElem_cons_zero, List.getElem_cons_succ, List.setIfInBounds_toArray, List.set_cons_zero, List.set_cons_succ]
          refine wpAnyH_done (by kernel_rfl) ?_ _
          go_wp2_with fail
          go_roundw
          case rel => exact ⟨k + 1, by omega, by go_num, HB3.out, fun j hj => by
            by_cases ej : j = k
            · rw [ej, HE1.out, HE2.out, he]
            · exact HA.out j (by omega)⟩
          case measure => (simp [Go.RowKit.intOf]; try omega)
        · rw [decide_eq_false he] at HEQ
          go_upto_region 6 with fail
          refine wp_region_held (S := fun W => W.rangeAt g1 (k * 2) (enc e1) ∧ W.rangeAt g2 (k * 2) (enc e2)) (by kernel_rfl) ?_
          change wpAnyH _ _ _ _ _ _ _ _ (World.drew _)
          have hbd : Below wr.heap.size wr wr.drew := (Below.refl _ _).drew
          have hS0 : (fun W => W.rangeAt g1 (k * 2) (enc e1) ∧ W.rangeAt g2 (k * 2) (enc e2)) wr.drew := ⟨ra_keep HQ1.out hbd, ra_keep HQ2.out hbd⟩
          have HB3 := Lib.hid (HB.out.trans (hbd.mono HB.out.size))
          obtain ⟨w3, hw3⟩ : ∃ x, World.drew wr = x := ⟨_, rfl⟩
          rw [hw3] at hS0 HB3 ⊢
          clear hw3 hbd HB
          refine wpAnyH_take (i := 0) (v := ?_) rfl (by kernel_rfl) (by kernel_rfl) (by kernel_rfl) (fun _ _ _ h => h) (Or.inl ⟨by rfl, ?_⟩) hS0 ?_
          rotate_left 1
          · intro W hW
            go_simp
            try with_reducible rfl
          simp only [Act.put, List.getElem_toArray, List.getElem_cons_zero, List.getElem_cons_succ, List.setIfInBounds_toArray, List.set_cons_zero, List.set_cons_succ]
          refine wpAnyH_take (i := 1) (v := ?_) rfl (by kernel_rfl) (by kernel_rfl) (by kernel_rfl) (fun _ _ _ h => h) (Or.inl ⟨by rfl, ?_⟩) hS0 ?_
          rotate_left 1
          · intro W hW
            go_simp
            try with_reducible rfl
          simp only [Act.put, List.getElem_toArray, List.getElem_cons_zero, List.getElem_cons_succ, List.setIfInBounds_toArray, List.set_cons_zero, List.set_cons_succ]
          refine wpAnyH_take (i := 2) (v := ?_) rfl (by kernel_rfl) (by kernel_rfl) (by kernel_rfl) (fun _ _ _ h => h) (Or.inl ⟨by rfl, ?_⟩) hS0 ?_
          rotate_left 1
          · intro W hW
            go_simp
            try with_reducible rfl
          simp only [Act.put, List.getElem_toArray, List.getElem_cons_zero, List.getElem_cons_succ, List.setIfInBounds_toArray, List.set_cons_zero, List.set_cons_succ]
          refine wpAnyH_take (i := 3) (v := .agg (enc e1).toArray) rfl (by kernel_rfl) (by kernel_rfl) (by kernel_rfl) (fun _ _ _ h => h) ?_ hS0 ?_
          · exact yieldsIf_load_mid (by rfl) 58 _ rfl g1 (k * 2) rfl (enc e1) dE (fun _ h => h.1) HU.out HDd.out Tryz.isizeEn
          simp only [Act.put, List.getElem_toArray, List.getElem_cons_zero, List.getElem_cons_succ, List.setIfInBounds_toArray, List.set_cons_zero, List.set_cons_succ]
          refine wpAnyH_take (i := 4) (v := ?_) rfl (by kernel_rfl) (by kernel_rfl) (by kernel_rfl) (fun _ _ _ h => h) (Or.inl ⟨by rfl, ?_⟩) hS0 ?_
          rotate_left 1
          · intro W hW
            go_simp
            try with_reducible rfl
          simp only [Act.put, List.getElem_toArray, List.getElem_cons_zero, List.getElem_cons_succ, List.setIfInBounds_toArray, List.set_cons_zero, List.set_cons_succ]
          refine wpAnyH_take (i := 5) (v := ?_) rfl (by kernel_rfl) (by kernel_rfl) (by kernel_rfl) (fun _ _ _ h => h) (Or.inl ⟨by rfl, ?_⟩) hS0 ?_
          rotate_left 1
          · intro W hW
            go_simp
            try with_reducible rfl
          simp only [Act.put, List.getElem_toArray, List.getElem_cons_zero, List.getElem_cons_succ, List.setIfInBounds_toArray, List.set_cons_zero, List.set_cons_succ]
          refine wpAnyH_take (i := 6) (v := ?_) rfl (by kernel_rfl) (by kernel_rfl) (by kernel_rfl) (fun _ _ _ h => h) (Or.inl ⟨by rfl, ?_⟩) hS0 ?_
          rotate_left 1
          · intro W hW
            go_simp
            try with_reducible rfl
          simp only [Act.put, List.getElem_toArray, List.getElem_cons_zero, List.getElem_cons_succ, List.setIfInBounds_toArray, List.set_cons_zero, List.set_cons_succ]
          refine wpAnyH_take (i := 7) (v := .agg (enc e2).toArray) rfl (by kernel_rfl) (by kernel_rfl) (by kernel_rfl) (fun _ _ _ h => h) ?_ hS0 ?_
          · exact yieldsIf_load_mid (by rfl) 58 _ rfl g2 (k * 2) rfl (enc e2) dE (fun _ h => h.2) HU.out HDd.out Tryz.isizeEn
          simp only [Act.put, List.getElem_toArray, List.getElem_cons_zero, List.getElem_cons_succ, List.setIfInBounds_toArray, List.set_cons_zero, List.set_cons_succ]
          refine wpAnyH_take (i := 8) (v := .bool true) rfl (by kernel_rfl) (by kernel_rfl) (by kernel_rfl) (fun _ _ _ h => h) ?_ hS0 ?_
          · exact yields_neq (by rfl) 58 58 _ _ rfl (enc e1).toArray (enc e2).toArray rfl rfl false Tryz.guardEn (fun W _ => HEQ.out W)
          simp only [Act.put, List.getElem_toArray, List.getElem_cons_zero, List.getElem_cons_succ, List.setIfInBounds_toArray, List.set_cons_zero, List.set_cons_succ]
          refine wpAnyH_done (by kernel_rfl) ?_ _
          go_wp2_with fail
          go_ret
          have hne : decide (E1 = E2) = false := decide_eq_false (fun hh => by
            have := HE1.out
            rw [hh, HE2.out] at this
            injection this with this
            exact he this.symm)
          exact ⟨congrArg (fun b => Ending.returned (.bool b)) hne.symm, HB3.out⟩
      · obtain rfl : k = n1 := by omega
        have hb := HB.out
        clear HB
        go_wp2_with fail
        go_ret
        have hyes : decide (E1 = E2) = true := decide_eq_true (List.ext_getElem? (fun j => by
          by_cases hj : j < k
          · exact HA.out j hj
          · rw [List.getElem?_eq_none (by rw [HN1.out]; omega), List.getElem?_eq_none (by rw [HN2.out]; omega)]))
        exact ⟨congrArg (fun b => Ending.returned (.bool b)) hyes.symm, hb⟩
  · have hl1 : ¬ ((n1 : Int) = n2) := by omega
    have hne : decide (E1 = E2) = false := decide_eq_false (fun hh => hl (by rw [← HN1.out, ← HN2.out, hh]))
    go_enter Tryz.func29, Tryz.ntmps29
    go_wp2_with fail
    go_ret
    exact ⟨congrArg (fun b => Ending.returned (.bool b)) hne.symm, Below.refl _ _⟩
end Go.Proofs.YtgfgdfcedmcjeaaGreatDoor
