import Derived.Test.YtdebkifnaiohcaaD3
/- Write. -/
namespace Go.Proofs.Ytdebkifnaiohcaa
set_option linter.unusedSimpArgs false
set_option linter.unusedVariables false
open Go.RowKit

theorem step_store_mid {P : Program} {ops : Array Oper} {o : Oper} {a : Act} {w : World} {K : Act → World → Prop} {Q : Exit → Act → World → Prop} {E : Prop} (hgd : o.guard = none) (ty : TypeId) (x y : Operand) (ho : o.op = .store ty x y)
    (b off : Nat) (cells : Array Value) (hx : a.eval x = .pointer (some ⟨b, off, none⟩)) (hy : a.eval y = .agg cells)
    (ht : w.there b off cells.size) (hi : (P.info? ty).map (·.size) = some cells.size) (h1 : cells.all (·.oneCell') = true)
    (h : K (a.put o.dst undef) (w.setCells b off cells.toList)) : if Region.wanted o (yielded ops a.tmps) = true then Oper.wp P o a w K Q else E := by
  have hw : Region.wanted o (yielded ops a.tmps) = true := by simp [Region.wanted, hgd]
  rw [if_pos hw]
  exact wp_store_mid ty x y ho b off cells hx hy ht hi h1 h
/-- a write of block k that is there: what is answered, and how the disk stands then -/
def DS.write (s : DS) (k : Nat) (b : Nat → Int) : Int × DS :=
  if s.ar = true ∧ s.lf = 0 ∨ s.de = true then (24, { s with de := true })
  else (0, { s with f := upd s.f (k * 64) 64 b, lf := if s.ar = true then s.lf - 1 else s.lf, wr := s.wr + 1 })

set_option maxHeartbeats 2000000 in
set_option maxRecDepth 100000 in
theorem write_out (d g : Nat) (s : DS) (b : Nat → Int) (x : Int) (hx : x < 0 ∨ (s.n : Int) ≤ x) (hn : s.n ≤ 65536) (w : World) (h : Dk w d g s) :
    Calls Try.prog 55 #[.pointer (some ⟨d, 0, none⟩), .int .i64 x, .agg (byts 64 b).toArray] w fun e w' => e = .returned (.int .i64 27) ∧ Below w.heap.size w w' := by
  have H := Lib.hid h
  clear h
  by_cases hx0 : x < 0
  · go_enter Try.func55, Try.ntmps55
    go_wp2_with (refine wpList_box_byts rfl 96 _ 64 rfl b rfl ?_; intro w1 F1 hb1 hz1; have H1 := Lib.hid (H.out.keep hb1); have c0 := H1.out.c0; have hb1' := Lib.hid hb1; clear hb1)
    go_ret
    exact ⟨rfl, hb1'.out⟩
  · replace hx : (s.n : Int) ≤ x := by omega
    go_enter Try.func55, Try.ntmps55
    go_wp2_with (refine wpList_box_byts rfl 96 _ 64 rfl b rfl ?_; intro w1 F1 hb1 hz1; have H1 := Lib.hid (H.out.keep hb1); have c0 := H1.out.c0; have hb1' := Lib.hid hb1; clear hb1)
    go_ret
    exact ⟨rfl, hb1'.out⟩

set_option maxHeartbeats 4000000 in
set_option maxRecDepth 100000 in
theorem write_in (d g : Nat) (s : DS) (b : Nat → Int) (k : Nat) (hk : k < s.n) (hn : s.n ≤ 65536) (hr0 : 0 ≤ s.wr) (hr1 : s.wr < 1000000) (hl : s.ar = true → 0 ≤ s.lf) (hl2 : s.lf < 9223372036854775808) (w : World) (h : Dk w d g s) :
    Calls Try.prog 55 #[.pointer (some ⟨d, 0, none⟩), .int .i64 k, .agg (byts 64 b).toArray] w fun e w' => e = .returned (.int .i64 (s.write k b).1) ∧ Dk w' d g (s.write k b).2 ∧ Kp w w' d g := by
  have H := Lib.hid h
  have hd0 := h.lt
  have hg0 := h.fl.lt
  clear h
  have h0 : (0 : Int) ≤ k := by omega
  have h1 : (k : Int) < s.n := by omega
  by_cases hA : s.ar = true ∧ s.lf = 0
  · obtain ⟨hA1, hA2⟩ := hA
    unfold DS.write
    rw [if_pos (.inl ⟨hA1, hA2⟩)]
    go_enter Try.func55, Try.ntmps55
    go_wp2_with (refine wpList_box_byts rfl 96 _ 64 rfl b rfl ?_; intro w1 F1 hb1 hz1; have H1 := Lib.hid (H.out.keep hb1); have c0 := H1.out.c0; have c1 := H1.out.c1; rw [hA1] at c1; have c2 := H1.out.c2; rw [hA2] at c2; have c3 := H1.out.c3; have z3 := H1.out.z3; have hb1' := Lib.hid hb1; clear hb1)
    go_ret
    exact ⟨rfl, H1.out.set3 _, (Kp.of_below hb1'.out _ _).setA _ _⟩
  · by_cases hD : s.de = true
    · unfold DS.write
      rw [if_pos (.inr hD)]
      have HS : Hid (({ s with de := true } : DS) = s) := by show _ = s; cases s; simp_all
      rw [HS.out]
      cases hA1 : s.ar
      · go_enter Try.func55, Try.ntmps55
        go_wp2_with (refine wpList_box_byts rfl 96 _ 64 rfl b rfl ?_; intro w1 F1 hb1 hz1; have H1 := Lib.hid (H.out.keep hb1); have c0 := H1.out.c0; have c1 := H1.out.c1; rw [hA1] at c1; have c2 := H1.out.c2; have c3 := H1.out.c3; rw [hD] at c3; have hb1' := Lib.hid hb1; clear hb1)
        go_ret
        exact ⟨rfl, H1.out, Kp.of_below hb1'.out _ _⟩
      · have hl0 : ¬ (s.lf = 0) := fun e => hA ⟨hA1, e⟩
        go_enter Try.func55, Try.ntmps55
        go_wp2_with (refine wpList_box_byts rfl 96 _ 64 rfl b rfl ?_; intro w1 F1 hb1 hz1; have H1 := Lib.hid (H.out.keep hb1); have c0 := H1.out.c0; have c1 := H1.out.c1; rw [hA1] at c1; have c2 := H1.out.c2; have c3 := H1.out.c3; rw [hD] at c3; have hb1' := Lib.hid hb1; clear hb1)
        go_ret
        exact ⟨rfl, H1.out, Kp.of_below hb1'.out _ _⟩
    · replace hD : s.de = false := by simpa using hD
      unfold DS.write
      rw [if_neg (by rintro (h | h); exact hA h; rw [hD] at h; cases h)]
      cases hA1 : s.ar
      · go_enter Try.func55, Try.ntmps55
        go_wp2_with (refine wpList_box_byts rfl 96 _ 64 rfl b rfl ?_; intro w1 F1 hb1 hz1; have H1 := Lib.hid (H.out.keep hb1); have c0 := H1.out.c0; have c1 := H1.out.c1; rw [hA1] at c1; have c2 := H1.out.c2; have c3 := H1.out.c3; rw [hD] at c3; have c5 := H1.out.c5; have z5 := H1.out.z5; have hb1' := Lib.hid hb1; clear hb1)
        have H2 := H1.out
        have F2 := F1.out
        have K2 := Kp.of_below hb1'.out d g
        generalize w1 = W2 at *
        clear c0 c1 c2 c3 c5 z5 H1 F1 hb1'
        have HD2 : Hid (Dk W2 d g s) := H2
        have HF2 := Lib.hid F2
        have HK2 := Lib.hid K2
        clear H2 F2 K2
        refine wp_region_held (S := fun w' => Fl w' w.heap.size 64 b ∧ ∃ s' : DS, Dk w' d g s' ∧ s'.n = s.n) (by kernel_rfl) ?_
        change wpAnyH _ _ _ _ _ _ _ _ (World.drew _)
        have hS0 : Fl W2.drew w.heap.size 64 b ∧ ∃ s' : DS, Dk W2.drew d g s' ∧ s'.n = s.n := ⟨HF2.out.below (Below.refl _ _).drew HF2.out.lt, _, HD2.out.keep (Below.refl _ _).drew, rfl⟩
        refine wpAnyH_take (i := 0) (v := ?_) rfl (by kernel_rfl) (by kernel_rfl) (by kernel_rfl) (fun _ _ _ h => h) (Or.inl ⟨by rfl, ?_⟩) hS0 ?_
        rotate_left 1
        · intro W hW
          go_simp
          try with_reducible rfl
        simp only [Act.put, List.getElem_toArray, List.getElem_cons_zero, List.getElem_cons_succ, List.setIfInBounds_toArray, List.set_cons_zero, List.set_cons_succ]
        refine wpAnyH_take (i := 1) (v := ?_) rfl (by kernel_rfl) (by kernel_rfl) (by kernel_rfl) (fun _ _ _ h => h) (Or.inl ⟨by rfl, ?_⟩) hS0 ?_
        rotate_left 1
        · intro W hW
          go_simp
          try with_reducible rfl
        simp only [Act.put, List.getElem_toArray, List.getElem_cons_zero, List.getElem_cons_succ, List.setIfInBounds_toArray, List.set_cons_zero, List.set_cons_succ]
        refine wpAnyH_take (i := 2) (v := ?_) rfl (by kernel_rfl) (by kernel_rfl) (by kernel_rfl) (fun _ _ _ h => h) (Or.inl ⟨by rfl, ?_⟩) hS0 ?_
        rotate_left 1
        · intro W hW
          go_simp
          try with_reducible rfl
        simp only [Act.put, List.getElem_toArray, List.getElem_cons_zero, List.getElem_cons_succ, List.setIfInBounds_toArray, List.set_cons_zero, List.set_cons_succ]
        refine wpAnyH_take (i := 3) (v := ?_) rfl (by kernel_rfl) (by kernel_rfl) (by kernel_rfl) (fun _ _ _ h => h) (Or.inl ⟨by rfl, ?_⟩) hS0 ?_
        rotate_left 1
        · intro W hW
          obtain ⟨_, s', hs', hsn⟩ := hW
          have e0 := hs'.c0
          rw [hsn] at e0
          go_simp
          try with_reducible rfl
        simp only [Act.put, List.getElem_toArray, List.getElem_cons_zero, List.getElem_cons_succ, List.setIfInBounds_toArray, List.set_cons_zero, List.set_cons_succ]
        refine wpAnyH_take (i := 4) (v := ?_) rfl (by kernel_rfl) (by kernel_rfl) (by kernel_rfl) (fun _ _ _ h => h) (Or.inl ⟨by rfl, ?_⟩) hS0 ?_
        rotate_left 1
        · intro W hW
          go_simp
          try with_reducible rfl
        simp only [Act.put, List.getElem_toArray, List.getElem_cons_zero, List.getElem_cons_succ, List.setIfInBounds_toArray, List.set_cons_zero, List.set_cons_succ]
        refine wpAnyH_take (i := 5) (v := .agg (byts 64 b).toArray) rfl (by kernel_rfl) (by kernel_rfl) (by kernel_rfl) (fun _ _ _ h => h) ?_ hS0 ?_
        · exact yieldsIf_load_mid (by rfl) 96 _ rfl w.heap.size 0 rfl (byts 64 b) (.array 64 5) (fun _ h => h.1.range0) Try.arr36 rfl (size36 _)
        simp only [Act.put, List.getElem_toArray, List.getElem_cons_zero, List.getElem_cons_succ, List.setIfInBounds_toArray, List.set_cons_zero, List.set_cons_succ]
        refine wpAnyH_take (i := 6) (v := ?_) rfl (by kernel_rfl) (by kernel_rfl) (by kernel_rfl) (fun _ _ _ h => h) (Or.inl ⟨by rfl, ?_⟩) hS0 ?_
        rotate_left 1
        · intro W hW
          go_simp
          try with_reducible rfl
        simp only [Act.put, List.getElem_toArray, List.getElem_cons_zero, List.getElem_cons_succ, List.setIfInBounds_toArray, List.set_cons_zero, List.set_cons_succ]
        refine wpAnyH_ready (rs := [7]) (by kernel_rfl) (by simp) (AllReadyH.cons rfl (fun K hK => ?_) AllReadyH.nil)
        refine step_store_mid rfl 96 _ _ rfl g (k * 64) (byts 64 b).toArray rfl rfl (by rw [byts_size]; exact (HD2.out.keep (Below.refl _ _).drew).fl.there (k * 64) 64 (by show k * 64 + 64 ≤ s.n * 64; omega)) (size36' _) (byts_all _ _) ?_
        have HW3 := Lib.hid ((HD2.out.keep (Below.refl _ _).drew).setB (k * 64) (by show k * 64 + 64 ≤ s.n * 64; omega) b)
        have HK3 := Lib.hid ((HK2.out.drew).setCells g (k * 64) (.inr rfl) (byts 64 b))
        have HF3 := (HF2.out.below (Below.refl _ _).drew HF2.out.lt).kp (((Kp.refl W2.drew d g).setCells g (k * 64) (.inr rfl) (byts 64 b))) (by omega) (by omega)
        refine hK _ _ ?_ ?_
        · exact ⟨HF3, _, HW3.out, rfl⟩
        try intro _
        clear hK K
        refine wpAnyH_done (by kernel_rfl) ?_ _
        clear hS0
        obtain ⟨W3, hW3⟩ : ∃ z, W2.drew.setCells g (k * 64) (byts 64 b).toArray.toList = z := ⟨_, rfl⟩
        rw [List.toList_toArray] at hW3 ⊢
        rw [hW3] at HW3 HK3 ⊢
        have c5 := HW3.out.c5
        have z5 := HW3.out.z5
        clear hW3 HF3
        go_wp2
        go_ret
        have hE := HW3.out.set5 (s.wr + 1)
        simp only [hA1, hD] at hE
        exact ⟨rfl, hE, HK3.out.setA _ _⟩
      · have hl0 : ¬ (s.lf = 0) := fun e => hA ⟨hA1, e⟩
        have hlp := hl hA1
        have HL := Lib.hid hl
        clear hl
        go_enter Try.func55, Try.ntmps55
        go_wp2_with (refine wpList_box_byts rfl 96 _ 64 rfl b rfl ?_; intro w1 F1 hb1 hz1; have H1 := Lib.hid (H.out.keep hb1); have c0 := H1.out.c0; have c1 := H1.out.c1; rw [hA1] at c1; have c2 := H1.out.c2; have z2 := H1.out.z2; have c3 := H1.out.c3; rw [hD] at c3; have c5 := H1.out.c5; have z5 := H1.out.z5; have hb1' := Lib.hid hb1; clear hb1)
        have H2 := H1.out.set2 (s.lf - 1)
        have F2 := F1.out.far ⟨d, 2, none⟩ (by show d ≠ w.heap.size; omega) (.int .i64 (s.lf - 1))
        have K2 := (Kp.of_below hb1'.out d g).setA 2 (.int .i64 (s.lf - 1))
        generalize w1.setCell ⟨d, 2, none⟩ (.int .i64 (s.lf - 1)) = W2 at *
        clear c0 c1 c2 z2 c3 c5 z5 H1 F1 hb1'
        have HD2 : Hid (Dk W2 d g { s with lf := s.lf - 1 }) := H2
        have HF2 := Lib.hid F2
        have HK2 := Lib.hid K2
        clear H2 F2 K2
        refine wp_region_held (S := fun w' => Fl w' w.heap.size 64 b ∧ ∃ s' : DS, Dk w' d g s' ∧ s'.n = s.n) (by kernel_rfl) ?_
        change wpAnyH _ _ _ _ _ _ _ _ (World.drew _)
        have hS0 : Fl W2.drew w.heap.size 64 b ∧ ∃ s' : DS, Dk W2.drew d g s' ∧ s'.n = s.n := ⟨HF2.out.below (Below.refl _ _).drew HF2.out.lt, _, HD2.out.keep (Below.refl _ _).drew, rfl⟩
        refine wpAnyH_take (i := 0) (v := ?_) rfl (by kernel_rfl) (by kernel_rfl) (by kernel_rfl) (fun _ _ _ h => h) (Or.inl ⟨by rfl, ?_⟩) hS0 ?_
        rotate_left 1
        · intro W hW
          go_simp
          try with_reducible rfl
        simp only [Act.put, List.getElem_toArray, List.getElem_cons_zero, List.getElem_cons_succ, List.setIfInBounds_toArray, List.set_cons_zero, List.set_cons_succ]
        refine wpAnyH_take (i := 1) (v := ?_) rfl (by kernel_rfl) (by kernel_rfl) (by kernel_rfl) (fun _ _ _ h => h) (Or.inl ⟨by rfl, ?_⟩) hS0 ?_
        rotate_left 1
        · intro W hW
          go_simp
          try with_reducible rfl
        simp only [Act.put, List.getElem_toArray, List.getElem_cons_zero, List.getElem_cons_succ, List.setIfInBounds_toArray, List.set_cons_zero, List.set_cons_succ]
        refine wpAnyH_take (i := 2) (v := ?_) rfl (by kernel_rfl) (by kernel_rfl) (by kernel_rfl) (fun _ _ _ h => h) (Or.inl ⟨by rfl, ?_⟩) hS0 ?_
        rotate_left 1
        · intro W hW
          go_simp
          try with_reducible rfl
        simp only [Act.put, List.getElem_toArray, List.getElem_cons_zero, List.getElem_cons_succ, List.setIfInBounds_toArray, List.set_cons_zero, List.set_cons_succ]
        refine wpAnyH_take (i := 3) (v := ?_) rfl (by kernel_rfl) (by kernel_rfl) (by kernel_rfl) (fun _ _ _ h => h) (Or.inl ⟨by rfl, ?_⟩) hS0 ?_
        rotate_left 1
        · intro W hW
          obtain ⟨_, s', hs', hsn⟩ := hW
          have e0 := hs'.c0
          rw [hsn] at e0
          go_simp
          try with_reducible rfl
        simp only [Act.put, List.getElem_toArray, List.getElem_cons_zero, List.getElem_cons_succ, List.setIfInBounds_toArray, List.set_cons_zero, List.set_cons_succ]
        refine wpAnyH_take (i := 4) (v := ?_) rfl (by kernel_rfl) (by kernel_rfl) (by kernel_rfl) (fun _ _ _ h => h) (Or.inl ⟨by rfl, ?_⟩) hS0 ?_
        rotate_left 1
        · intro W hW
          go_simp
          try with_reducible rfl
        simp only [Act.put, List.getElem_toArray, List.getElem_cons_zero, List.getElem_cons_succ, List.setIfInBounds_toArray, List.set_cons_zero, List.set_cons_succ]
        refine wpAnyH_take (i := 5) (v := .agg (byts 64 b).toArray) rfl (by kernel_rfl) (by kernel_rfl) (by kernel_rfl) (fun _ _ _ h => h) ?_ hS0 ?_
        · exact yieldsIf_load_mid (by rfl) 96 _ rfl w.heap.size 0 rfl (byts 64 b) (.array 64 5) (fun _ h => h.1.range0) Try.arr36 rfl (size36 _)
        simp only [Act.put, List.getElem_toArray, List.getElem_cons_zero, List.getElem_cons_succ, List.setIfInBounds_toArray, List.set_cons_zero, List.set_cons_succ]
        refine wpAnyH_take (i := 6) (v := ?_) rfl (by kernel_rfl) (by kernel_rfl) (by kernel_rfl) (fun _ _ _ h => h) (Or.inl ⟨by rfl, ?_⟩) hS0 ?_
        rotate_left 1
        · intro W hW
          go_simp
          try with_reducible rfl
        simp only [Act.put, List.getElem_toArray, List.getElem_cons_zero, List.getElem_cons_succ, List.setIfInBounds_toArray, List.set_cons_zero, List.set_cons_succ]
        refine wpAnyH_ready (rs := [7]) (by kernel_rfl) (by simp) (AllReadyH.cons rfl (fun K hK => ?_) AllReadyH.nil)
        refine step_store_mid rfl 96 _ _ rfl g (k * 64) (byts 64 b).toArray rfl rfl (by rw [byts_size]; exact (HD2.out.keep (Below.refl _ _).drew).fl.there (k * 64) 64 (by show k * 64 + 64 ≤ s.n * 64; omega)) (size36' _) (byts_all _ _) ?_
        have HW3 := Lib.hid ((HD2.out.keep (Below.refl _ _).drew).setB (k * 64) (by show k * 64 + 64 ≤ s.n * 64; omega) b)
        have HK3 := Lib.hid ((HK2.out.drew).setCells g (k * 64) (.inr rfl) (byts 64 b))
        have HF3 := (HF2.out.below (Below.refl _ _).drew HF2.out.lt).kp (((Kp.refl W2.drew d g).setCells g (k * 64) (.inr rfl) (byts 64 b))) (by omega) (by omega)
        refine hK _ _ ?_ ?_
        · exact ⟨HF3, _, HW3.out, rfl⟩
        try intro _
        clear hK K
        refine wpAnyH_done (by kernel_rfl) ?_ _
        clear hS0
        obtain ⟨W3, hW3⟩ : ∃ z, W2.drew.setCells g (k * 64) (byts 64 b).toArray.toList = z := ⟨_, rfl⟩
        rw [List.toList_toArray] at hW3 ⊢
        rw [hW3] at HW3 HK3 ⊢
        have c5 := HW3.out.c5
        have z5 := HW3.out.z5
        clear hW3 HF3
        go_wp2
        go_ret
        have hE := HW3.out.set5 (s.wr + 1)
        simp only [hA1, hD] at hE
        exact ⟨rfl, hE, HK3.out.setA _ _⟩
end Go.Proofs.Ytdebkifnaiohcaa
