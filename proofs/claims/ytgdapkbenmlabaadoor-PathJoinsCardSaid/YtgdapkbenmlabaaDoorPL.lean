import Derived.Test.YtgdapkbenmlabaaDoorPK
/- Base. -/
namespace Go.Proofs.YtgdapkbenmlabaaDoor.Pt
set_option linter.unusedSimpArgs false
set_option linter.unusedVariables false
open Go.RowKit Go.Maps

theorem Ps.cut {w : World} {g o cap n : Nat} {M : List Pr} {e : Pr} (h : Ps w (.slice (some ⟨g, o, none⟩) n cap) (M ++ [e])) (hn : n = M.length + 1) : Ps w (.slice (some ⟨g, o, none⟩) M.length cap) M ∧ n ≤ cap ∧ w.rangeAt g (o + M.length * 2) (pc e) := by
  rcases h with ⟨h1, h2⟩ | ⟨g', o', cap', h1, h2, h3⟩
  · cases h1
  · injection h1 with h1 h4 h5
    injection h1 with h1
    injection h1 with h6 h7
    subst h6 h7 h5
    rw [List.length_append, List.length_singleton] at h2
    refine ⟨.inr ⟨g, o, cap, rfl, by omega, fun j u hu => ?_⟩, by omega, fun j u hu => ?_⟩
    · refine h3 j u ?_
      have hj := (List.getElem?_eq_some_iff.1 hu).1
      rw [flP_snoc, List.getElem?_append_left hj]
      exact hu
    · rw [Nat.add_assoc]
      refine h3 _ u ?_
      rw [flP_snoc, List.getElem?_append_right (by rw [flP_len]; omega), flP_len, Nat.add_sub_cancel_left]
      exact hu
set_option maxHeartbeats 20000000 in
set_option maxRecDepth 100000 in
theorem base_none (a : Bool) (va : Value) (w : World) (h : Ps w va []) :
    Calls Tryd.prog 6 #[.agg #[.bool a, va]] w fun e w' => ∃ v, e = .returned (.tuple #[.agg (pa2 a v).toArray, .agg (pc zP).toArray, .bool false]) ∧ w'.ownsRow w.heap.size 28 2 v 0 [] ∧ Below w.heap.size w w' := by
  obtain ⟨d, hu, hd⟩ := Tryd.descPa
  have HU := Lib.hid hu
  have HD := Lib.hid hd
  obtain ⟨dp, hup, hdp⟩ := Tryd.descPr
  have HUp := Lib.hid hup
  have HDp := Lib.hid hdp
  obtain ⟨p1, c1, e1⟩ := h.slice
  subst e1
  rw [List.length_nil] at *
  clear hu hd hup hdp h
  go_enter Tryd.func6, Tryd.ntmps6
  go_upto_region 3 with (first | (refine wpList_box_list (w := w) rfl 24 _ rfl (pa2 a (.slice p1 0 c1)) rfl ?_; intro w1 F1 hb1 hz1; have c0 := F1.out.c 0 _ rfl; have c1' := F1.out.c 1 _ rfl; have HB1 := Lib.hid hb1; have Hz1 := Lib.hid hz1; clear hb1 hz1) | (refine wpList_alloc_list (w := w1) rfl 24 rfl (pa2 false (.slice none 0 0)) Tryd.zeroPa ?_; intro w2 F2 hb2 hz2; have HB2 := Lib.hid (HB1.out.trans (hb2.mono HB1.out.size)); have G1 := Lib.hid (F1.out.keep hb2); have Hz2 := Lib.hid hz2; clear hb2 hz2 F1 c0 c1'; have c0 := G1.out.c 0 _ rfl; have c1' := G1.out.c 1 _ rfl) | (refine wpList_alloc_list (w := w2) rfl 28 rfl (pc zP) Tryd.zeroPr ?_; intro w3 F3 hb3 hz3; have HB3 := Lib.hid (HB2.out.trans (hb3.mono HB2.out.size)); have G13 := Lib.hid (G1.out.keep hb3); have G23 := Lib.hid (F2.out.keep hb3); have Hz3 := Lib.hid hz3; clear hb3 hz3 G1 F2 c0 c1'; have c0 := G13.out.c 0 _ rfl; have c1' := G13.out.c 1 _ rfl))
  obtain ⟨x1, hx1⟩ : ∃ x, w.heap.size = x := ⟨_, rfl⟩
  obtain ⟨x2, hx2⟩ : ∃ x, w1.heap.size = x := ⟨_, rfl⟩
  obtain ⟨x3, hx3⟩ : ∃ x, w2.heap.size = x := ⟨_, rfl⟩
  have hz1 := Hz1.out
  have hz2 := Hz2.out
  have hz3 := Hz3.out
  have HX := Lib.hid (⟨hx1, by omega, by omega, by omega⟩ : w.heap.size = x1 ∧ x1 < x2 ∧ x2 < x3 ∧ x3 < w3.heap.size)
  rw [hx1] at c0 c1'
  rw [hx2] at G23
  rw [hx3] at F3
  try rw [hx1]
  try rw [hx2]
  try rw [hx3]
  clear hx1 hx2 hx3 hz1 hz2 hz3 Hz1 Hz2 Hz3 G13 HB1 HB2
  go_wp2_with (first | (refine (of_any a (.slice none 0 0) [] [] rfl (by simp) (by simp) w3 (.inl ⟨rfl, rfl⟩) (fun i v L h => by simp at h)).mono ?_; rintro e w4 ⟨v, rfl, hO, hb4⟩; obtain ⟨pv, cv, rfl⟩ := ownsRow_form hO; have HO := Lib.hid hO; have HB4 := Lib.hid (HB3.out.trans (hb4.mono HB3.out.size)); have F4 := Lib.hid (F3.out.keep hb4); have G24 := Lib.hid (G23.out.keep hb4); clear hO hb4 c0 c1') | (refine wpList_store_list rfl 24 _ _ rfl x2 (pa2 false (.slice none 0 0)) (pa2 a (.slice pv _ cv)) rfl rfl G24.out rfl (sizePa _ _) (pa2_one _ _ _ _) ?_; intro w5 G HK; have F5 := Lib.hid (F4.out.kp HK.out (by have := HX.out; omega) (by have := HX.out; omega))) | (refine wpList_store_list rfl 28 _ _ rfl x3 (pc zP) (pc zP) rfl rfl F5.out rfl (sizePr _) (pc_one _) ?_; intro w6 G6 HK6))
  obtain ⟨hy1, hy2, hy3, hy4⟩ := HX.out
  have hh := HB4.out.size
  have G26 := Lib.hid (G.out.kp HK6.out (by omega) (by omega))
  have r0 := G26.out.c 0 _ rfl
  have r1 := G26.out.c 1 _ rfl
  have r2 := G6.out.c 0 _ rfl
  have r3 := G6.out.c 1 _ rfl
  refine bodyPost_ret (v := .tuple #[.agg (pa2 a (.slice pv 0 cv)).toArray, .agg (pc zP).toArray, .bool false]) (by simp [results, Tryd.results6, go_sem, r0, r1, r2, r3]; exact ⟨rfl, rfl⟩) rfl ⟨.slice pv 0 cv, rfl, ?_, (HB4.out.trans (HK.out.below (by omega) (by omega) (by omega))).trans (HK6.out.below (by omega) (by omega) (by have := HK.out.size; omega))⟩
  have ho := ownsRow_kpo (ownsRow_kpo HO.out HK.out (fun k hk => by have := (HO.out.lt k hk).1; omega)) HK6.out (fun k hk => by have := (HO.out.lt k hk).1; omega)
  exact own_ge ho (by omega)
set_option maxHeartbeats 20000000 in
set_option maxRecDepth 100000 in
theorem base_some (a : Bool) (va : Value) (M : List Pr) (e : Pr) (hm : M.length ≤ 400) (w : World) (h : Ps w va (M ++ [e])) :
    Calls Tryd.prog 6 #[.agg #[.bool a, va]] w fun r w' => ∃ v, r = .returned (.tuple #[.agg (pa2 a v).toArray, .agg (pc e).toArray, .bool true]) ∧ w'.ownsRow w.heap.size 28 2 v M.length (flP M) ∧ Below w.heap.size w w' := by
  obtain ⟨d, hu, hd⟩ := Tryd.descPa
  have HU := Lib.hid hu
  have HD := Lib.hid hd
  obtain ⟨dp, hup, hdp⟩ := Tryd.descPr
  have HUp := Lib.hid hup
  have HDp := Lib.hid hdp
  obtain ⟨g, o, cap, n, rfl, hn⟩ : ∃ g o cap n, va = .slice (some ⟨g, o, none⟩) n cap ∧ n = M.length + 1 := by
    rcases h with ⟨-, h2⟩ | ⟨g, o, cap, h1, -, -⟩
    · simp at h2
    · exact ⟨g, o, cap, _, h1, by simp⟩
  obtain ⟨hM, hnc, hre⟩ := h.cut hn
  have HM := Lib.hid hM
  have HRe := Lib.hid hre
  have HMl := Lib.hid hm
  obtain ⟨m, hml⟩ : ∃ m, M.length = m := ⟨_, rfl⟩
  rw [hml] at hn hM HM HRe hm hre
  have HML := Lib.hid hml
  have hni : (n : Int) - 1 = m := by omega
  have hw1 : IntKind.i64.wrap ((n : Int) - 1) = (m : Int) := by rw [IntKind.wrap_i64]; omega
  have hm0 : (0 : Int) ≤ m := by omega
  have hm1 : (m : Int) < n := by omega
  have hm2 : (m : Int) ≤ cap := by omega
  have hm3 : (m : Int) ≤ n := by omega
  have HNI := Lib.hid hni
  clear hu hd hup hdp h hml hM hre hni hn hm hnc
  go_enter Tryd.func6, Tryd.ntmps6
  go_upto_region 4 with (first | (refine wpList_box_list (w := w) rfl 24 _ rfl (pa2 a (.slice (some ⟨g, o, none⟩) n cap)) rfl ?_; intro w1 F1 hb1 hz1; have c0 := F1.out.c 0 _ rfl; have c1' := F1.out.c 1 _ rfl; have HB1 := Lib.hid hb1; have Hz1 := Lib.hid hz1; clear hb1 hz1) | (refine wpList_alloc_list (w := w1) rfl 24 rfl (pa2 false (.slice none 0 0)) Tryd.zeroPa ?_; intro w2 F2 hb2 hz2; have HB2 := Lib.hid (HB1.out.trans (hb2.mono HB1.out.size)); have G1 := Lib.hid (F1.out.keep hb2); have Hz2 := Lib.hid hz2; clear hb2 hz2 F1 c0 c1'; have c0 := G1.out.c 0 _ rfl; have c1' := G1.out.c 1 _ rfl) | (refine wpList_alloc_list (w := w2) rfl 28 rfl (pc zP) Tryd.zeroPr ?_; intro w3 F3 hb3 hz3; have HB3 := Lib.hid (HB2.out.trans (hb3.mono HB2.out.size)); have G13 := Lib.hid (G1.out.keep hb3); have G23 := Lib.hid (F2.out.keep hb3); have Hz3 := Lib.hid hz3; clear hb3 hz3 G1 F2 c0 c1'; have c0 := G13.out.c 0 _ rfl; have c1' := G13.out.c 1 _ rfl))
  obtain ⟨x1, hx1⟩ : ∃ x, w.heap.size = x := ⟨_, rfl⟩
  obtain ⟨x2, hx2⟩ : ∃ x, w1.heap.size = x := ⟨_, rfl⟩
  obtain ⟨x3, hx3⟩ : ∃ x, w2.heap.size = x := ⟨_, rfl⟩
  have hz1 := Hz1.out
  have hz2 := Hz2.out
  have hz3 := Hz3.out
  have HX := Lib.hid (⟨hx1, by omega, by omega, by omega⟩ : w.heap.size = x1 ∧ x1 < x2 ∧ x2 < x3 ∧ x3 < w3.heap.size)
  rw [hx1] at c0 c1'
  rw [hx2] at G23
  rw [hx3] at F3
  try rw [hx1]
  try rw [hx2]
  try rw [hx3]
  clear hx1 hx2 hx3 hz1 hz2 hz3 Hz1 Hz2 Hz3 G13 HB1 HB2
  refine wp_region_held (S := fun W => Below w.heap.size w W ∧ W.cell? ⟨x1, 0, none⟩ = some (.bool a) ∧ W.cell? ⟨x1, 1, none⟩ = some (.slice (some ⟨g, o, none⟩) n cap)) (by kernel_rfl) ?_
  change wpAnyH _ _ _ _ _ _ _ _ (World.drew _)
  have hbd : Below w3.heap.size w3 w3.drew := (Below.refl _ _).drew
  have hS0 : (fun W => Below w.heap.size w W ∧ W.cell? ⟨x1, 0, none⟩ = some (.bool a) ∧ W.cell? ⟨x1, 1, none⟩ = some (.slice (some ⟨g, o, none⟩) n cap)) w3.drew := ⟨HB3.out.drew, c0, c1'⟩
  have F4 := Lib.hid (F3.out.keep hbd)
  have G24 := Lib.hid (G23.out.keep hbd)
  have HX4 : Hid (w.heap.size = x1 ∧ x1 < x2 ∧ x2 < x3 ∧ x3 < w3.drew.heap.size) := HX
  obtain ⟨w4, hw4⟩ : ∃ x, World.drew w3 = x := ⟨_, rfl⟩
  rw [hw4] at hS0 F4 G24 HX4 ⊢
  clear hw4 hbd F3 G23 HB3 c0 c1' HX
  refine wpAnyH_take (i := 0) (v := ?_) rfl (by kernel_rfl) (by kernel_rfl) (by kernel_rfl) (fun _ _ _ h => h) (Or.inl ⟨by rfl, ?_⟩) hS0 ?_
  rotate_left 1
  · intro W hW
    go_simp
    try with_reducible rfl
  simp only [Act.put, List.getElem_toArray, List.getElem_cons_zero, List.getElem_cons_succ, List.setIfInBounds_toArray, List.set_cons_zero, List.set_cons_succ]
  refine wpAnyH_take (i := 1) (v := ?_) rfl (by kernel_rfl) (by kernel_rfl) (by kernel_rfl) (fun _ _ _ h => h) (Or.inl ⟨by rfl, ?_⟩) hS0 ?_
  rotate_left 1
  · intro W hW
    have c0 := hW.2.1
    go_simp
    try with_reducible rfl
  simp only [Act.put, List.getElem_toArray, List.getElem_cons_zero, List.getElem_cons_succ, List.setIfInBounds_toArray, List.set_cons_zero, List.set_cons_succ]
  refine wpAnyH_take (i := 2) (v := ?_) rfl (by kernel_rfl) (by kernel_rfl) (by kernel_rfl) (fun _ _ _ h => h) (Or.inl ⟨by rfl, ?_⟩) hS0 ?_
  rotate_left 1
  · intro W hW
    go_simp
    try with_reducible rfl
  simp only [Act.put, List.getElem_toArray, List.getElem_cons_zero, List.getElem_cons_succ, List.setIfInBounds_toArray, List.set_cons_zero, List.set_cons_succ]
  refine wpAnyH_take (i := 3) (v := ?_) rfl (by kernel_rfl) (by kernel_rfl) (by kernel_rfl) (fun _ _ _ h => h) (Or.inl ⟨by rfl, ?_⟩) hS0 ?_
  rotate_left 1
  · intro W hW
    have c1 := hW.2.2
    go_simp
    try with_reducible rfl
  simp only [Act.put, List.getElem_toArray, List.getElem_cons_zero, List.getElem_cons_succ, List.setIfInBounds_toArray, List.set_cons_zero, List.set_cons_succ]
  refine wpAnyH_take (i := 4) (v := ?_) rfl (by kernel_rfl) (by kernel_rfl) (by kernel_rfl) (fun _ _ _ h => h) (Or.inl ⟨by rfl, ?_⟩) hS0 ?_
  rotate_left 1
  · intro W hW
    go_simp
    try with_reducible rfl
  simp only [Act.put, List.getElem_toArray, List.getElem_cons_zero, List.getElem_cons_succ, List.setIfInBounds_toArray, List.set_cons_zero, List.set_cons_succ]
  refine wpAnyH_take (i := 5) (v := (.slice (some ⟨g, o, none⟩) m cap)) rfl (by kernel_rfl) (by kernel_rfl) (by kernel_rfl) (fun _ _ _ h => h) (Or.inl ⟨by rfl, ?_⟩) hS0 ?_
  · intro W hW
    go_simp
    try with_reducible rfl
  simp only [Act.put, List.getElem_toArray, List.getElem_cons_zero, List.getElem_cons_succ, List.setIfInBounds_toArray, List.set_cons_zero, List.set_cons_succ]
  refine wpAnyH_take (i := 8) (v := ?_) rfl (by kernel_rfl) (by kernel_rfl) (by kernel_rfl) (fun _ _ _ h => h) (Or.inl ⟨by rfl, ?_⟩) hS0 ?_
  rotate_left 1
  · intro W hW
    go_simp
    try with_reducible rfl
  simp only [Act.put, List.getElem_toArray, List.getElem_cons_zero, List.getElem_cons_succ, List.setIfInBounds_toArray, List.set_cons_zero, List.set_cons_succ]
  refine wpAnyH_take (i := 9) (v := ?_) rfl (by kernel_rfl) (by kernel_rfl) (by kernel_rfl) (fun _ _ _ h => h) (Or.inl ⟨by rfl, ?_⟩) hS0 ?_
  rotate_left 1
  · intro W hW
    have c1 := hW.2.2
    go_simp
    try with_reducible rfl
  simp only [Act.put, List.getElem_toArray, List.getElem_cons_zero, List.getElem_cons_succ, List.setIfInBounds_toArray, List.set_cons_zero, List.set_cons_succ]
  refine wpAnyH_take (i := 10) (v := ?_) rfl (by kernel_rfl) (by kernel_rfl) (by kernel_rfl) (fun _ _ _ h => h) (Or.inl ⟨by rfl, ?_⟩) hS0 ?_
  rotate_left 1
  · intro W hW
    go_simp
    try with_reducible rfl
  simp only [Act.put, List.getElem_toArray, List.getElem_cons_zero, List.getElem_cons_succ, List.setIfInBounds_toArray, List.set_cons_zero, List.set_cons_succ]
  refine wpAnyH_take (i := 11) (v := (.pointer (some ⟨g, o + m * 2, none⟩))) rfl (by kernel_rfl) (by kernel_rfl) (by kernel_rfl) (fun _ _ _ h => h) (Or.inl ⟨by rfl, ?_⟩) hS0 ?_
  · intro W hW
    go_simp
    try with_reducible rfl
  simp only [Act.put, List.getElem_toArray, List.getElem_cons_zero, List.getElem_cons_succ, List.setIfInBounds_toArray, List.set_cons_zero, List.set_cons_succ]
  refine wpAnyH_take (i := 12) (v := (.agg (pc e).toArray)) rfl (by kernel_rfl) (by kernel_rfl) (by kernel_rfl) (fun _ _ _ h => h) ?_ hS0 ?_
  · exact yieldsIf_load_mid (by rfl) 28 _ rfl g (o + m * 2) rfl (pc e) dp (fun W h => ra_keep HRe.out h.1) HUp.out HDp.out Tryd.isizePr
  simp only [Act.put, List.getElem_toArray, List.getElem_cons_zero, List.getElem_cons_succ, List.setIfInBounds_toArray, List.set_cons_zero, List.set_cons_succ]
  refine wpAnyH_ready (rs := [6]) (by kernel_rfl) (by simp) (AllReadyH.cons rfl (fun KK hKK => ?_) AllReadyH.nil)
  · skip
    go_simp
    have hb6 : Below w4.heap.size w4 (w4.alloc (.cells #[.slice (some ⟨g, o, none⟩) m cap] 22)) := below_alloc0 w4 _ _
    have hsz6 : (w4.alloc (.cells #[.slice (some ⟨g, o, none⟩) m cap] 22)).heap.size = w4.heap.size + 1 := by simp
    obtain ⟨hy1, hy2, hy3, hy4⟩ := HX4.out
    have hS1 : (fun W => Below w.heap.size w W ∧ W.cell? ⟨x1, 0, none⟩ = some (.bool a) ∧ W.cell? ⟨x1, 1, none⟩ = some (.slice (some ⟨g, o, none⟩) n cap)) (w4.alloc (.cells #[.slice (some ⟨g, o, none⟩) m cap] 22)) :=
      ⟨hS0.1.trans (hb6.mono hS0.1.size), (hb6.cell (p := ⟨x1, 0, none⟩) (by show x1 < _; omega)).trans hS0.2.1, (hb6.cell (p := ⟨x1, 1, none⟩) (by show x1 < _; omega)).trans hS0.2.2⟩
    refine hKK _ _ hS1 ?_
    intro _
    clear hKK KK
    try simp only [Act.put, List.getElem_toArray, List.getElem_cons_zero, List.getElem_cons_succ, List.setIfInBounds_toArray, List.set_cons_zero, List.set_cons_succ]
    have F5 := Lib.hid (F4.out.keep hb6)
    have G25 := Lib.hid (G24.out.keep hb6)
    have HSs := Lib.hid (Ss.lit w4 [.slice (some ⟨g, o, none⟩) m cap])
    change Hid (Ss (w4.alloc (.cells #[.slice (some ⟨g, o, none⟩) m cap] 22)) (.slice (some ⟨w4.heap.size, 0, none⟩) 1 1) [.slice (some ⟨g, o, none⟩) m cap]) at HSs
    obtain ⟨x4, hx4⟩ : ∃ x, w4.heap.size = x := ⟨_, rfl⟩
    rw [hx4] at HSs hsz6 hy4
    try rw [hx4]
    obtain ⟨w5, hw5⟩ : ∃ x, w4.alloc (.cells #[.slice (some ⟨g, o, none⟩) m cap] 22) = x := ⟨_, rfl⟩
    rw [hw5] at hS1 F5 G25 HSs hsz6 ⊢
    have HZ := Lib.hid hsz6
    have HY := Lib.hid (⟨hy1, hy2, hy3, hy4⟩ : w.heap.size = x1 ∧ x1 < x2 ∧ x2 < x3 ∧ x3 < x4)
    have hS0' := hS1
    clear hw5 hx4 hb6 hS0 hS1 F4 G24 HX4 hy1 hy2 hy3 hy4 hsz6
    have hS0 := hS0'
    clear hS0'
    refine wpAnyH_ready (rs := [7]) (by kernel_rfl) (by simp) (AllReadyH.cons rfl (fun KK hKK => ?_) AllReadyH.nil)
    · skip
      go_simp
      refine (of_any a _ [.slice (some ⟨g, o, none⟩) m cap] [M] rfl (by simp) (by have := HMl.out; simp; omega) w5 HSs.out (ps_one (HM.out.keep hS0.1))).mono ?_
      rintro r w6 ⟨v, rfl, hO, hb6⟩
      obtain ⟨pv, cv, rfl⟩ := ownsRow_form hO
      have hO' : w6.ownsRow w5.heap.size 28 2 (.slice pv m cv) m (flP M) := by
        have := hO
        simp only [List.flatten_cons, List.flatten_nil, List.append_nil, HML.out] at this
        exact this
      have HO := Lib.hid hO'
      rw [show ([M] : List (List Pr)).flatten.length = m from by simp [HML.out]]
      have hx5 : x1 < w5.heap.size := by
        have h1 := HY.out
        have h2 := HZ.out
        omega
      have hS1 : (fun W => Below w.heap.size w W ∧ W.cell? ⟨x1, 0, none⟩ = some (.bool a) ∧ W.cell? ⟨x1, 1, none⟩ = some (.slice (some ⟨g, o, none⟩) n cap)) w6 :=
        ⟨hS0.1.trans (hb6.mono hS0.1.size), (hb6.cell (p := ⟨x1, 0, none⟩) hx5).trans hS0.2.1, (hb6.cell (p := ⟨x1, 1, none⟩) hx5).trans hS0.2.2⟩
      refine hKK _ _ hS1 ?_
      intro _
      clear hKK KK
      try simp only [Act.put, List.getElem_toArray, List.getElem_cons_zero, List.getElem_cons_succ, List.setIfInBounds_toArray, List.set_cons_zero, List.set_cons_succ]
      have F6 := Lib.hid (F5.out.keep hb6)
      have G26 := Lib.hid (G25.out.keep hb6)
      have HB6 := Lib.hid hb6.size
      clear hO hO' hb6 hS0 F5 G25 HSs hx5
      have hS0 := hS1
      clear hS1
      refine wpAnyH_ready (rs := [13]) (by kernel_rfl) (by simp) (AllReadyH.cons rfl (fun KK hKK => ?_) AllReadyH.nil)
      · skip
        rw [if_pos (by rfl)]
        refine wp_store_mid 24 _ _ rfl x2 0 (pa2 a (.slice pv m cv)).toArray rfl rfl (G26.out.there0 2 rfl) (sizePa' _ _) (all_oneCell_toArray (pa2_one _ _ _ _)) ?_
        have hk : Kp w6 (w6.setCells x2 0 (pa2 a (.slice pv m cv))) x2 x2 := (Kp.refl w6 x2 x2).setCells x2 0 (.inl rfl) _
        have G7 := Lib.hid (G26.out.stored (pa2 a (.slice pv m cv)) rfl)
        obtain ⟨hy1, hy2, hy3, hy4⟩ := HY.out
        have hz := HZ.out
        have hb6 := HB6.out
        have F7 := Lib.hid (F6.out.kp hk (by omega) (by omega))
        have HO7 := Lib.hid (ownsRow_kpo HO.out hk (fun k hk => by have := (HO.out.lt k hk).1; omega))
        have hS1 : (fun W => Below w.heap.size w W ∧ W.cell? ⟨x1, 0, none⟩ = some (.bool a) ∧ W.cell? ⟨x1, 1, none⟩ = some (.slice (some ⟨g, o, none⟩) n cap)) (w6.setCells x2 0 (pa2 a (.slice pv m cv))) :=
          ⟨hS0.1.trans (hk.below (by omega) (by omega) (by omega)), (hk.cell (p := ⟨x1, 0, none⟩) (by show x1 < _; omega) (by show x1 ≠ _; omega) (by show x1 ≠ _; omega)).trans hS0.2.1, (hk.cell (p := ⟨x1, 1, none⟩) (by show x1 < _; omega) (by show x1 ≠ _; omega) (by show x1 ≠ _; omega)).trans hS0.2.2⟩
        change KK _ (w6.setCells x2 0 (pa2 a (.slice pv m cv)))
        refine hKK _ _ hS1 ?_
        intro _
        clear hKK KK
        try simp only [Act.put, List.getElem_toArray, List.getElem_cons_zero, List.getElem_cons_succ, List.setIfInBounds_toArray, List.set_cons_zero, List.set_cons_succ]
        have HS7 := Lib.hid hk.size
        obtain ⟨w7, hw7⟩ : ∃ x, w6.setCells x2 0 (pa2 a (.slice pv m cv)) = x := ⟨_, rfl⟩
        rw [hw7] at hS1 F7 G7 HO7 HS7 ⊢
        clear hw7 hk hS0 F6 G26 HO hy1 hy2 hy3 hy4 hz hb6
        have hS0 := hS1
        clear hS1
        refine wpAnyH_ready (rs := [14]) (by kernel_rfl) (by simp) (AllReadyH.cons rfl (fun KK hKK => ?_) AllReadyH.nil)
        · skip
          rw [if_pos (by rfl)]
          refine wp_store_mid 28 _ _ rfl x3 0 (pc e).toArray rfl rfl (F7.out.there0 2 rfl) (sizePr' _) (all_oneCell_toArray (pc_one _)) ?_
          have hk : Kp w7 (w7.setCells x3 0 (pc e)) x3 x3 := (Kp.refl w7 x3 x3).setCells x3 0 (.inl rfl) _
          have F8 := Lib.hid (F7.out.stored (pc e) rfl)
          obtain ⟨hy1, hy2, hy3, hy4⟩ := HY.out
          have hz := HZ.out
          have hb6 := HB6.out
          have hs7 := HS7.out
          have G8 := Lib.hid (G7.out.kp hk (by omega) (by omega))
          have HO8 := Lib.hid (ownsRow_kpo HO7.out hk (fun k hk => by have := (HO7.out.lt k hk).1; omega))
          have hS1 : (fun W => Below w.heap.size w W ∧ W.cell? ⟨x1, 0, none⟩ = some (.bool a) ∧ W.cell? ⟨x1, 1, none⟩ = some (.slice (some ⟨g, o, none⟩) n cap)) (w7.setCells x3 0 (pc e)) :=
            ⟨hS0.1.trans (hk.below (by omega) (by omega) (by omega)), (hk.cell (p := ⟨x1, 0, none⟩) (by show x1 < _; omega) (by show x1 ≠ _; omega) (by show x1 ≠ _; omega)).trans hS0.2.1, (hk.cell (p := ⟨x1, 1, none⟩) (by show x1 < _; omega) (by show x1 ≠ _; omega) (by show x1 ≠ _; omega)).trans hS0.2.2⟩
          change KK _ (w7.setCells x3 0 (pc e))
          refine hKK _ _ hS1 ?_
          intro _
          clear hKK KK
          try simp only [Act.put, List.getElem_toArray, List.getElem_cons_zero, List.getElem_cons_succ, List.setIfInBounds_toArray, List.set_cons_zero, List.set_cons_succ]
          obtain ⟨w8, hw8⟩ : ∃ x, w7.setCells x3 0 (pc e) = x := ⟨_, rfl⟩
          rw [hw8] at hS1 F8 G8 HO8 ⊢
          clear hw8 hk hS0 F7 G7 HO7 hy1 hy2 hy3 hy4 hz hb6 hs7
          have hS0 := hS1
          clear hS1
          refine wpAnyH_take (i := 15) (v := ?_) rfl (by kernel_rfl) (by kernel_rfl) (by kernel_rfl) (fun _ _ _ h => h) (Or.inl ⟨by rfl, ?_⟩) hS0 ?_
          rotate_left 1
          · intro W hW
            go_simp
            try with_reducible rfl
          simp only [Act.put, List.getElem_toArray, List.getElem_cons_zero, List.getElem_cons_succ, List.setIfInBounds_toArray, List.set_cons_zero, List.set_cons_succ]
          refine wpAnyH_done (by kernel_rfl) ?_ _
          have HSb := Lib.hid hS0.1
          clear hS0
          go_wp2_with fail
          have r0 := G8.out.c 0 _ rfl
          have r1 := G8.out.c 1 _ rfl
          have r2 := F8.out.c 0 _ rfl
          have r3 := F8.out.c 1 _ rfl
          refine bodyPost_ret (v := .tuple #[.agg (pa2 a (.slice pv m cv)).toArray, .agg (pc e).toArray, .bool true]) (by simp [results, Tryd.results6, go_sem, r0, r1, r2, r3]; exact ⟨rfl, rfl⟩) rfl ⟨.slice pv m cv, rfl, ?_, HSb.out⟩
          rw [HML.out]
          exact own_ge HO8.out (by have := HY.out; have := HZ.out; omega)
end Go.Proofs.YtgdapkbenmlabaaDoor.Pt
