import Derived.Test.YtgdapkbenmlabaaDoorPD
/- Lists of parts: the same. -/
namespace Go.Proofs.YtgdapkbenmlabaaDoor.Pt
set_option linter.unusedSimpArgs false
set_option linter.unusedVariables false
open Go.RowKit Go.Maps

/-- a list of parts, as cells -/
def flP (L : List Pr) : List Value := L.flatMap pc
theorem flP_len (L : List Pr) : (flP L).length = L.length * 2 := by
  unfold flP
  induction L with
  | nil => rfl
  | cons e E ih => simp only [List.flatMap_cons, List.length_append, ih, List.length_cons, pc_len]; omega
theorem flP_snoc (L : List Pr) (e : Pr) : flP (L ++ [e]) = flP L ++ pc e := by
  unfold flP
  simp
theorem flP_app (L M : List Pr) : flP (L ++ M) = flP L ++ flP M := by
  unfold flP
  simp
theorem flP_get {L : List Pr} {k : Nat} {e : Pr} (h : L[k]? = some e) (j : Nat) (hj : j < 2) : (flP L)[k * 2 + j]? = (pc e)[j]? := by
  induction L generalizing k with
  | nil => simp at h
  | cons a E ih =>
    have hf : flP (a :: E) = pc a ++ flP E := rfl
    cases k with
    | zero =>
      simp only [List.getElem?_cons_zero, Option.some.injEq] at h
      subst h
      rw [hf, List.getElem?_append_left (by rw [pc_len]; omega), Nat.zero_mul, Nat.zero_add]
    | succ k =>
      rw [List.getElem?_cons_succ] at h
      rw [hf, List.getElem?_append_right (by rw [pc_len]; omega), ← ih h, show (k + 1) * 2 + j - (pc a).length = k * 2 + j from by rw [pc_len]; omega]
theorem flP_one (L : List Pr) : ∀ u ∈ flP L, u.oneCell' = true := by
  intro u hu
  unfold flP at hu
  obtain ⟨e, -, he⟩ := List.mem_flatMap.1 hu
  exact pc_one e u he
/-- a slice of parts that can be read -/
def Ps (w : World) (v : Value) (L : List Pr) : Prop := (v = .slice none 0 0 ∧ L = []) ∨ ∃ g o cap, v = .slice (some ⟨g, o, none⟩) L.length cap ∧ L.length ≤ cap ∧ w.rangeAt g o (flP L)
theorem Ps.keep {w w' : World} {v : Value} {L : List Pr} (h : Ps w v L) (hb : Below w.heap.size w w') : Ps w' v L := by
  rcases h with h | ⟨g, o, cap, h1, h2, h3⟩
  · exact .inl h
  · exact .inr ⟨g, o, cap, h1, h2, ra_keep h3 hb⟩
theorem Ps.form {w : World} {v : Value} {L : List Pr} (h : Ps w v L) : ∃ pa cap, v = .slice pa L.length cap ∧ ∀ (k : Nat) (e : Pr), L[k]? = some e → ∃ g o, pa = some ⟨g, o, none⟩ ∧ w.rangeAt g (o + k * 2) (pc e) := by
  rcases h with ⟨h1, h2⟩ | ⟨g, o, cap, h1, h2, h3⟩
  · subst h2
    exact ⟨none, 0, h1, fun k e he => by simp at he⟩
  · refine ⟨_, _, h1, fun k e he => ⟨g, o, rfl, fun j u hu => ?_⟩⟩
    have hj : j < 2 := (List.getElem?_eq_some_iff.1 hu).1
    rw [Nat.add_assoc]
    exact h3 _ u ((flP_get he j hj).trans hu)
theorem Ps.own {w : World} {base : Nat} {v : Value} {L : List Pr} (h : w.ownsRow base 28 2 v L.length (flP L)) : Ps w v L := by
  rcases h.2 with ⟨hv, hn⟩ | ⟨g, cap, cur, hv, hb, hg, hc, -⟩
  · exact .inl ⟨by rw [hv], List.eq_nil_of_length_eq_zero hn⟩
  · refine .inr ⟨g, 0, cap, hv, hc, fun j u hu => ?_⟩
    rw [Nat.zero_add]
    have := h.cells (g := g) (by rw [hv]; rfl) j u hu
    unfold Addr.add at this
    split at this
    · rename_i h0; subst h0; exact this
    · simpa using this
theorem Ps.ag {w : World} {v : Value} {L : List Pr} (h : Ps w v L) : Ag w v L.length (flP L) := by
  rcases h with ⟨h1, h2⟩ | ⟨g, o, cap, h1, h2, h3⟩
  · subst h2
    exact .inl ⟨h1, rfl, rfl⟩
  · refine .inr ⟨_, _, h1, fun j u hu => ?_⟩
    have := h3 j u hu
    unfold Addr.add
    split
    · rename_i h0; subst h0; exact this
    · exact this
/-- all texts are no longer than texts may be -/
def smP (L : List Pr) : Prop := ∀ e ∈ L, okP e

set_option maxHeartbeats 20000000 in
set_option maxRecDepth 100000 in
theorem same_any (v1 v2 : Value) (L1 L2 : List Pr) (s1 : smP L1) (s2 : smP L2) (hm : L1.length ≤ 2000) (w : World) (h1 : Ps w v1 L1) (h2 : Ps w v2 L2) : Calls Tryd.prog 10 #[v1, v2] w fun e w' => e = .returned (.bool (decide (L1 = L2))) ∧ Below w.heap.size w w' := by
  obtain ⟨pa1, cap1, rfl, k1⟩ := h1.form
  obtain ⟨pa2, cap2, rfl, k2⟩ := h2.form
  obtain ⟨dE, hu, hd⟩ := Tryd.descPr
  have HU := Lib.hid hu
  have HDd := Lib.hid hd
  have HK1 := Lib.hid k1
  have HK2 := Lib.hid k2
  have HS1 := Lib.hid s1
  have HS2 := Lib.hid s2
  clear hu hd k1 k2 s1 s2 h1 h2
  obtain ⟨n1, hn1⟩ : ∃ n, L1.length = n := ⟨_, rfl⟩
  obtain ⟨n2, hn2⟩ : ∃ n, L2.length = n := ⟨_, rfl⟩
  have HN1 := Lib.hid hn1
  have HN2 := Lib.hid hn2
  rw [hn1] at hm ⊢
  rw [hn2]
  clear hn1 hn2
  by_cases hl : n1 = n2
  · subst hl
    go_enter Tryd.func10, Tryd.ntmps10
    go_wp2_with fail
    go_loopw [5] (fun iv wr => ∃ k : Nat, k ≤ n1 ∧ iv = .int .i64 k ∧ Below w.heap.size w wr ∧ ∀ j, j < k → L1[j]? = L2[j]?) (fun iv _ => n1 - (Go.RowKit.intOf iv).toNat)
    case atStart => exact ⟨0, Nat.zero_le _, rfl, Below.refl _ _, fun j hj => absurd hj (Nat.not_lt_zero _)⟩
    case round =>
      obtain ⟨k, hk, rfl, hb, ha⟩ := hrel
      have HB := Lib.hid hb
      have HA := Lib.hid ha
      clear hb ha
      by_cases hkn : k < n1
      · have hkn1 : (k : Int) < n1 := by omega
        have hk0 : (0 : Int) ≤ k := by omega
        obtain ⟨e1, he1⟩ : ∃ e, L1[k]? = some e := ⟨_, List.getElem?_eq_getElem (by rw [HN1.out]; exact hkn)⟩
        obtain ⟨e2, he2⟩ : ∃ e, L2[k]? = some e := ⟨_, List.getElem?_eq_getElem (by rw [HN2.out]; exact hkn)⟩
        obtain ⟨g1, o1, rfl, hr1⟩ := HK1.out k e1 he1
        obtain ⟨g2, o2, rfl, hr2⟩ := HK2.out k e2 he2
        have HQ1 := Lib.hid (show wr.rangeAt g1 (o1 + k * 2) (pc e1) from fun j u hj => (HB.out.cell (World.block_lt_of_cell? w _ (hr1 j u hj))).trans (hr1 j u hj))
        have HQ2 := Lib.hid (show wr.rangeAt g2 (o2 + k * 2) (pc e2) from fun j u hj => (HB.out.cell (World.block_lt_of_cell? w _ (hr2 j u hj))).trans (hr2 j u hj))
        have hz1 := HS1.out e1 (List.mem_of_getElem? he1)
        have hz2 := HS2.out e2 (List.mem_of_getElem? he2)
        have HEQ := Lib.hid (fun W => eqPr e1 e2 hz1 hz2 W)
        have HL1 := Lib.hid he1
        have HL2 := Lib.hid he2
        clear hr1 hr2 hz1 hz2 he1 he2
        by_cases he : e1 = e2
        · rw [decide_eq_true he] at HEQ
          go_upto_region 6 with fail
          refine wp_region_held (S := fun W => W.rangeAt g1 (o1 + k * 2) (pc e1) ∧ W.rangeAt g2 (o2 + k * 2) (pc e2)) (by kernel_rfl) ?_
          change wpAnyH _ _ _ _ _ _ _ _ (World.drew _)
          have hbd : Below wr.heap.size wr wr.drew := (Below.refl _ _).drew
          have hS0 : (fun W => W.rangeAt g1 (o1 + k * 2) (pc e1) ∧ W.rangeAt g2 (o2 + k * 2) (pc e2)) wr.drew := ⟨ra_keep HQ1.out hbd, ra_keep HQ2.out hbd⟩
          have HB3 := Lib.hid (HB.out.trans (hbd.mono HB.out.size))
          obtain ⟨w3, hw3⟩ : ∃ x, World.drew wr = x := ⟨_, rfl⟩
          rw [hw3] at hS0 HB3 ⊢
          clear hw3 hbd HB
          refine wpAnyH_take (i := 0) (v := ?_) rfl (by kernel_rfl) (by kernel_rfl) (by kernel_rfl) (fun _ _ _ h => h) (Or.inl ⟨by rfl, ?_⟩) hS0 ?_
          rotate_left 1
          · intro W hW
            go_simp
            try with_reducible rfl
          simp only [Act.put, List.getElem_toArray, List.getElem_cons_zero, List.getElem_cons_succ, List.setIfInBounds_toArray, List.set_cons_zero, List.set_cons_succ]
          refine wpAnyH_take (i := 1) (v := ?_) rfl (by kernel_rfl) (by kernel_rfl) (by kernel_rfl) (fun _ _ _ h => h) (Or.inl ⟨by rfl, ?_⟩) hS0 ?_
          rotate_left 1
          · intro W hW
            go_simp
            try with_reducible rfl
          simp only [Act.put, List.getElem_toArray, List.getElem_cons_zero, List.getElem_cons_succ, List.setIfInBounds_toArray, List.set_cons_zero, List.set_cons_succ]
          refine wpAnyH_take (i := 2) (v := ?_) rfl (by kernel_rfl) (by kernel_rfl) (by kernel_rfl) (fun _ _ _ h => h) (Or.inl ⟨by rfl, ?_⟩) hS0 ?_
          rotate_left 1
          · intro W hW
            go_simp
            try with_reducible rfl
          simp only [Act.put, List.getElem_toArray, List.getElem_cons_zero, List.getElem_cons_succ, List.setIfInBounds_toArray, List.set_cons_zero, List.set_cons_succ]
          refine wpAnyH_take (i := 3) (v := .agg (pc e1).toArray) rfl (by kernel_rfl) (by kernel_rfl) (by kernel_rfl) (fun _ _ _ h => h) ?_ hS0 ?_
          · exact yieldsIf_load_mid (by rfl) 28 _ rfl g1 (o1 + k * 2) rfl (pc e1) dE (fun _ h => h.1) HU.out HDd.out Tryd.isizePr
          simp only [Act.put, List.getElem_toArray, List.getElem_cons_zero, List.getElem_cons_succ, List.setIfInBounds_toArray, List.set_cons_zero, List.set_cons_succ]
          refine wpAnyH_take (i := 4) (v := ?_) rfl (by kernel_rfl) (by kernel_rfl) (by kernel_rfl) (fun _ _ _ h => h) (Or.inl ⟨by rfl, ?_⟩) hS0 ?_
          rotate_left 1
          · intro W hW
            go_simp
            try with_reducible rfl
          simp only [Act.put, List.getElem_toArray, List.getElem_cons_zero, List.getElem_cons_succ, List.setIfInBounds_toArray, List.set_cons_zero, List.set_cons_succ]
          refine wpAnyH_take (i := 5) (v := ?_) rfl (by kernel_rfl) (by kernel_rfl) (by kernel_rfl) (fun _ _ _ h => h) (Or.inl ⟨by rfl, ?_⟩) hS0 ?_
          rotate_left 1
          · intro W hW
            go_simp
            try with_reducible rfl
          simp only [Act.put, List.getElem_toArray, List.getElem_cons_zero, List.getElem_cons_succ, List.setIfInBounds_toArray, List.set_cons_zero, List.set_cons_succ]
          refine wpAnyH_take (i := 6) (v := ?_) rfl (by kernel_rfl) (by kernel_rfl) (by kernel_rfl) (fun _ _ _ h => h) (Or.inl ⟨by rfl, ?_⟩) hS0 ?_
          rotate_left 1
          · intro W hW
            go_simp
            try with_reducible rfl
          simp only [Act.put, List.getElem_toArray, List.getElem_cons_zero, List.getElem_cons_succ, List.setIfInBounds_toArray, List.set_cons_zero, List.set_cons_succ]
          refine wpAnyH_take (i := 7) (v := .agg (pc e2).toArray) rfl (by kernel_rfl) (by kernel_rfl) (by kernel_rfl) (fun _ _ _ h => h) ?_ hS0 ?_
          · exact yieldsIf_load_mid (by rfl) 28 _ rfl g2 (o2 + k * 2) rfl (pc e2) dE (fun _ h => h.2) HU.out HDd.out Tryd.isizePr
          simp only [Act.put, List.getElem_toArray, List.getElem_cons_zero, List.getElem_cons_succ, List.setIfInBounds_toArray, List.set_cons_zero, List.set_cons_succ]
          refine wpAnyH_take (i := 8) (v := .bool false) rfl (by kernel_rfl) (by kernel_rfl) (by kernel_rfl) (fun _ _ _ h => h) ?_ hS0 ?_
          · exact yields_neq (by rfl) 28 28 _ _ rfl (pc e1).toArray (pc e2).toArray rfl rfl true Tryd.guardPr (fun W _ => HEQ.out W)
          simp only [Act.put, List.getElem_toArray, List.getElem_cons_zero, List.getElem_cons_succ, List.setIfInBounds_toArray, List.set_cons_zero, List.set_cons_succ]
          refine wpAnyH_done (by kernel_rfl) ?_ _
          go_wp2_with fail
          go_roundw
          case rel => exact ⟨k + 1, by omega, by go_num, HB3.out, fun j hj => by
            by_cases ej : j = k
            · rw [ej, HL1.out, HL2.out, he]
            · exact HA.out j (by omega)⟩
          case measure => (simp [Go.RowKit.intOf]; try omega)
        · rw [decide_eq_false he] at HEQ
          go_upto_region 6 with fail
          refine wp_region_held (S := fun W => W.rangeAt g1 (o1 + k * 2) (pc e1) ∧ W.rangeAt g2 (o2 + k * 2) (pc e2)) (by kernel_rfl) ?_
          change wpAnyH _ _ _ _ _ _ _ _ (World.drew _)
          have hbd : Below wr.heap.size wr wr.drew := (Below.refl _ _).drew
          have hS0 : (fun W => W.rangeAt g1 (o1 + k * 2) (pc e1) ∧ W.rangeAt g2 (o2 + k * 2) (pc e2)) wr.drew := ⟨ra_keep HQ1.out hbd, ra_keep HQ2.out hbd⟩
          have HB3 := Lib.hid (HB.out.trans (hbd.mono HB.out.size))
          obtain ⟨w3, hw3⟩ : ∃ x, World.drew wr = x := ⟨_, rfl⟩
          rw [hw3] at hS0 HB3 ⊢
          clear hw3 hbd HB
          refine wpAnyH_take (i := 0) (v := ?_) rfl (by kernel_rfl) (by kernel_rfl) (by kernel_rfl) (fun _ _ _ h => h) (Or.inl ⟨by rfl, ?_⟩) hS0 ?_
          rotate_left 1
          · intro W hW
            go_simp
            try with_reducible rfl
          simp only [Act.put, List.getElem_toArray, List.getElem_cons_zero, List.getElem_cons_succ, List.setIfInBounds_toArray, List.set_cons_zero, List.set_cons_succ]
          refine wpAnyH_take (i := 1) (v := ?_) rfl (by kernel_rfl) (by kernel_rfl) (by kernel_rfl) (fun _ _ _ h => h) (Or.inl ⟨by rfl, ?_⟩) hS0 ?_
          rotate_left 1
          · intro W hW
            go_simp
            try with_reducible rfl
          simp only [Act.put, List.getElem_toArray, List.getElem_cons_zero, List.getElem_cons_succ, List.setIfInBounds_toArray, List.set_cons_zero, List.set_cons_succ]
          refine wpAnyH_take (i := 2) (v := ?_) rfl (by kernel_rfl) (by kernel_rfl) (by kernel_rfl) (fun _ _ _ h => h) (Or.inl ⟨by rfl, ?_⟩) hS0 ?_
          rotate_left 1
          · intro W hW
            go_simp
            try with_reducible rfl
          simp only [Act.put, List.getElem_toArray, List.getElem_cons_zero, List.getElem_cons_succ, List.setIfInBounds_toArray, List.set_cons_zero, List.set_cons_succ]
          refine wpAnyH_take (i := 3) (v := .agg (pc e1).toArray) rfl (by kernel_rfl) (by kernel_rfl) (by kernel_rfl) (fun _ _ _ h => h) ?_ hS0 ?_
          · exact yieldsIf_load_mid (by rfl) 28 _ rfl g1 (o1 + k * 2) rfl (pc e1) dE (fun _ h => h.1) HU.out HDd.out Tryd.isizePr
          simp only [Act.put, List.getElem_toArray, List.getElem_cons_zero, List.getElem_cons_succ, List.setIfInBounds_toArray, List.set_cons_zero, List.set_cons_succ]
          refine wpAnyH_take (i := 4) (v := ?_) rfl (by kernel_rfl) (by kernel_rfl) (by kernel_rfl) (fun _ _ _ h => h) (Or.inl ⟨by rfl, ?_⟩) hS0 ?_
          rotate_left 1
          · intro W hW
            go_simp
            try with_reducible rfl
          simp only [Act.put, List.getElem_toArray, List.getElem_cons_zero, List.getElem_cons_succ, List.setIfInBounds_toArray, List.set_cons_zero, List.set_cons_succ]
          refine wpAnyH_take (i := 5) (v := ?_) rfl (by kernel_rfl) (by kernel_rfl) (by kernel_rfl) (fun _ _ _ h => h) (Or.inl ⟨by rfl, ?_⟩) hS0 ?_
          rotate_left 1
          · intro W hW
            go_simp
            try with_reducible rfl
          simp only [Act.put, List.getElem_toArray, List.getElem_cons_zero, List.getElem_cons_succ, List.setIfInBounds_toArray, List.set_cons_zero, List.set_cons_succ]
          refine wpAnyH_take (i := 6) (v := ?_) rfl (by kernel_rfl) (by kernel_rfl) (by kernel_rfl) (fun _ _ _ h => h) (Or.inl ⟨by rfl, ?_⟩) hS0 ?_
          rotate_left 1
          · intro W hW
            go_simp
            try with_reducible rfl
          simp only [Act.put, List.getElem_toArray, List.getElem_cons_zero, List.getElem_cons_succ, List.setIfInBounds_toArray, List.set_cons_zero, List.set_cons_succ]
          refine wpAnyH_take (i := 7) (v := .agg (pc e2).toArray) rfl (by kernel_rfl) (by kernel_rfl) (by kernel_rfl) (fun _ _ _ h => h) ?_ hS0 ?_
          · exact yieldsIf_load_mid (by rfl) 28 _ rfl g2 (o2 + k * 2) rfl (pc e2) dE (fun _ h => h.2) HU.out HDd.out Tryd.isizePr
          simp only [Act.put, List.getElem_toArray, List.getElem_cons_zero, List.getElem_cons_succ, List.setIfInBounds_toArray, List.set_cons_zero, List.set_cons_succ]
          refine wpAnyH_take (i := 8) (v := .bool true) rfl (by kernel_rfl) (by kernel_rfl) (by kernel_rfl) (fun _ _ _ h => h) ?_ hS0 ?_
          · exact yields_neq (by rfl) 28 28 _ _ rfl (pc e1).toArray (pc e2).toArray rfl rfl false Tryd.guardPr (fun W _ => HEQ.out W)
          simp only [Act.put, List.getElem_toArray, List.getElem_cons_zero, List.getElem_cons_succ, List.setIfInBounds_toArray, List.set_cons_zero, List.set_cons_succ]
          refine wpAnyH_done (by kernel_rfl) ?_ _
          go_wp2_with fail
          go_ret
          have hne : decide (L1 = L2) = false := decide_eq_false (fun hh => by
            have := HL1.out
            rw [hh, HL2.out] at this
            injection this with this
            exact he this.symm)
          exact ⟨congrArg (fun b => Ending.returned (.bool b)) hne.symm, HB3.out⟩
      · obtain rfl : k = n1 := by omega
        have hb := HB.out
        clear HB
        go_wp2_with fail
        go_ret
        have hyes : decide (L1 = L2) = true := decide_eq_true (List.ext_getElem? (fun j => by
          by_cases hj : j < k
          · exact HA.out j hj
          · rw [List.getElem?_eq_none (by rw [HN1.out]; omega), List.getElem?_eq_none (by rw [HN2.out]; omega)]))
        exact ⟨congrArg (fun b => Ending.returned (.bool b)) hyes.symm, hb⟩
  · have hl1 : ¬ ((n1 : Int) = n2) := by omega
    have hne : decide (L1 = L2) = false := decide_eq_false (fun hh => hl (by rw [← HN1.out, ← HN2.out, hh]))
    go_enter Tryd.func10, Tryd.ntmps10
    go_wp2_with fail
    go_ret
    exact ⟨congrArg (fun b => Ending.returned (.bool b)) hne.symm, Below.refl _ _⟩

end Go.Proofs.YtgdapkbenmlabaaDoor.Pt
