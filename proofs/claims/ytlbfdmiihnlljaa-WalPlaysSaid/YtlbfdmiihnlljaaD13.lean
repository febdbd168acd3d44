import Derived.Test.YtlbfdmiihnlljaaD8
/- The answer's disk: its state, Read, Write. -/
namespace Go.Proofs.Ytlbfdmiihnlljaa
set_option linter.unusedSimpArgs false
set_option linter.unusedVariables false
open Go.RowKit

/-- how many more writes the answer's disk lets through; below 0: all -/
def lfR (s : DS) : Int := if s.ar = true then s.lf else -1
/-- block m holds the answer's disk in this state, whose blocks lie in block h -/
structure Rk (w : World) (m h : Nat) (s : DS) : Prop where
  lt : m < w.heap.size
  ne : h ≠ m
  c0 : w.cell? ⟨m, 0, none⟩ = some (.slice (some ⟨h, 0, none⟩) s.n s.n)
  c1 : w.cell? ⟨m, 1, none⟩ = some (.int .i64 (lfR s))
  c2 : w.cell? ⟨m, 2, none⟩ = some (.bool s.de)
  c3 : w.cell? ⟨m, 3, none⟩ = some (.int .i64 s.rd)
  c4 : w.cell? ⟨m, 4, none⟩ = some (.int .i64 s.wr)
  z1 : w.frozen? ⟨m, 1, none⟩ = false
  z2 : w.frozen? ⟨m, 2, none⟩ = false
  z3 : w.frozen? ⟨m, 3, none⟩ = false
  z4 : w.frozen? ⟨m, 4, none⟩ = false
  fl : Fl w h (s.n * 64) s.f
theorem Rk.below {w w' : World} {B m h : Nat} {s : DS} (k : Rk w m h s) (hb : Below B w w') (hm : m < B) (hh : h < B) : Rk w' m h s :=
  ⟨Nat.lt_of_lt_of_le k.lt hb.size, k.ne, (hb.cell (p := ⟨m, 0, none⟩) hm).trans k.c0, (hb.cell (p := ⟨m, 1, none⟩) hm).trans k.c1, (hb.cell (p := ⟨m, 2, none⟩) hm).trans k.c2, (hb.cell (p := ⟨m, 3, none⟩) hm).trans k.c3, (hb.cell (p := ⟨m, 4, none⟩) hm).trans k.c4,
    (hb.frozen (p := ⟨m, 1, none⟩) hm).trans k.z1, (hb.frozen (p := ⟨m, 2, none⟩) hm).trans k.z2, (hb.frozen (p := ⟨m, 3, none⟩) hm).trans k.z3, (hb.frozen (p := ⟨m, 4, none⟩) hm).trans k.z4, k.fl.below hb hh⟩
theorem Rk.keep {w w' : World} {m h : Nat} {s : DS} (k : Rk w m h s) (hb : Below w.heap.size w w') : Rk w' m h s := k.below hb k.lt k.fl.lt
theorem Rk.kp {w w' : World} {a b m h : Nat} {s : DS} (k : Rk w m h s) (hb : Kp w w' a b) (h1 : m ≠ a) (h2 : m ≠ b) (h3 : h ≠ a) (h4 : h ≠ b) : Rk w' m h s :=
  ⟨Nat.lt_of_lt_of_le k.lt hb.size, k.ne, (hb.cell (p := ⟨m, 0, none⟩) k.lt h1 h2).trans k.c0, (hb.cell (p := ⟨m, 1, none⟩) k.lt h1 h2).trans k.c1, (hb.cell (p := ⟨m, 2, none⟩) k.lt h1 h2).trans k.c2, (hb.cell (p := ⟨m, 3, none⟩) k.lt h1 h2).trans k.c3, (hb.cell (p := ⟨m, 4, none⟩) k.lt h1 h2).trans k.c4,
    (hb.frozen (p := ⟨m, 1, none⟩) k.lt h1 h2).trans k.z1, (hb.frozen (p := ⟨m, 2, none⟩) k.lt h1 h2).trans k.z2, (hb.frozen (p := ⟨m, 3, none⟩) k.lt h1 h2).trans k.z3, (hb.frozen (p := ⟨m, 4, none⟩) k.lt h1 h2).trans k.z4, k.fl.kp hb h3 h4⟩
theorem Rk.setL {w : World} {m h : Nat} {s : DS} (k : Rk w m h s) (ar : Bool) (lf x : Int) (hx : lfR { s with ar := ar, lf := lf } = x) : Rk (w.setCell ⟨m, 1, none⟩ (.int .i64 x)) m h { s with ar := ar, lf := lf } :=
  ⟨lt_set k.lt _ _, k.ne, cell_set_other k.c0 _ (by decide), by rw [hx]; exact cell_set_same k.c1 _, cell_set_other k.c2 _ (by decide), cell_set_other k.c3 _ (by decide), cell_set_other k.c4 _ (by decide), frozen_set k.z1 _, frozen_set k.z2 _, frozen_set k.z3 _, frozen_set k.z4 _, k.fl.far _ (fun e => k.ne e.symm) _⟩
theorem Rk.setD {w : World} {m h : Nat} {s : DS} (k : Rk w m h s) (b : Bool) : Rk (w.setCell ⟨m, 2, none⟩ (.bool b)) m h { s with de := b } :=
  ⟨lt_set k.lt _ _, k.ne, cell_set_other k.c0 _ (by decide), cell_set_other k.c1 _ (by decide), cell_set_same k.c2 _, cell_set_other k.c3 _ (by decide), cell_set_other k.c4 _ (by decide), frozen_set k.z1 _, frozen_set k.z2 _, frozen_set k.z3 _, frozen_set k.z4 _, k.fl.far _ (fun e => k.ne e.symm) _⟩
theorem Rk.setR {w : World} {m h : Nat} {s : DS} (k : Rk w m h s) (x : Int) : Rk (w.setCell ⟨m, 3, none⟩ (.int .i64 x)) m h { s with rd := x } :=
  ⟨lt_set k.lt _ _, k.ne, cell_set_other k.c0 _ (by decide), cell_set_other k.c1 _ (by decide), cell_set_other k.c2 _ (by decide), cell_set_same k.c3 _, cell_set_other k.c4 _ (by decide), frozen_set k.z1 _, frozen_set k.z2 _, frozen_set k.z3 _, frozen_set k.z4 _, k.fl.far _ (fun e => k.ne e.symm) _⟩
theorem Rk.setW {w : World} {m h : Nat} {s : DS} (k : Rk w m h s) (x : Int) : Rk (w.setCell ⟨m, 4, none⟩ (.int .i64 x)) m h { s with wr := x } :=
  ⟨lt_set k.lt _ _, k.ne, cell_set_other k.c0 _ (by decide), cell_set_other k.c1 _ (by decide), cell_set_other k.c2 _ (by decide), cell_set_other k.c3 _ (by decide), cell_set_same k.c4 _, frozen_set k.z1 _, frozen_set k.z2 _, frozen_set k.z3 _, frozen_set k.z4 _, k.fl.far _ (fun e => k.ne e.symm) _⟩
theorem Rk.setB {w : World} {m h : Nat} {s : DS} (k : Rk w m h s) (o : Nat) (ho : o + 64 ≤ s.n * 64) (b : Nat → Int) : Rk (w.setCells h o (byts 64 b)) m h { s with f := upd s.f o 64 b } := by
  have hc : ∀ i, (w.setCells h o (byts 64 b)).cell? ⟨m, i, none⟩ = w.cell? ⟨m, i, none⟩ := fun i => World.cell?_setCells_out h _ o w _ (fun e _ => absurd e.symm k.ne)
  have hz : ∀ i, (w.setCells h o (byts 64 b)).frozen? ⟨m, i, none⟩ = w.frozen? ⟨m, i, none⟩ := fun i => World.frozen?_setCells h _ o w _
  exact ⟨by rw [size_setCells]; exact k.lt, k.ne, (hc 0).trans k.c0, (hc 1).trans k.c1, (hc 2).trans k.c2, (hc 3).trans k.c3, (hc 4).trans k.c4, (hz 1).trans k.z1, (hz 2).trans k.z2, (hz 3).trans k.z3, (hz 4).trans k.z4, k.fl.store o 64 ho b⟩

set_option maxHeartbeats 2000000 in
set_option maxRecDepth 100000 in
theorem rread_in (d g : Nat) (s : DS) (k : Nat) (hk : k < s.n) (hn : s.n ≤ 65536) (hr0 : 0 ≤ s.rd) (hr1 : s.rd < 1000000) (w : World) (h : Rk w d g s) :
    Calls Try.prog 39 #[.pointer (some ⟨d, 0, none⟩), .int .i64 k] w fun e w' => e = .returned (.tuple #[.agg (byts 64 fun i => s.f (k * 64 + i)).toArray, .int .i64 0]) ∧ Rk w' d g { s with rd := s.rd + 1 } ∧ Kp w w' d g := by
  have H := Lib.hid h
  have hd0 := h.lt
  have hg0 := h.fl.lt
  clear h
  have h0 : (0 : Int) ≤ k := by omega
  have h1 : (k : Int) < s.n := by omega
  go_enter Try.func39, Try.ntmps39
  go_wp2_with (first | (refine wpList_alloc_byts rfl 50 64 rfl Try.zero36 ?_; intro w1 F1 hb1 hz1; have H1 := Lib.hid (H.out.keep hb1); have c0 := H1.out.c0; have c3 := H1.out.c3; have z3 := H1.out.z3; have hd1 := H1.out.lt; have hb1' := Lib.hid hb1; clear hb1) | (refine wpList_load_mid rfl 50 _ rfl g (k * 64) rfl (byts 64 fun i => s.f (k * 64 + i)) (.array 64 5) ((H1.out.setR _).fl.range (k * 64) 64 (by show k * 64 + 64 ≤ s.n * 64; omega)) Try.arr36 rfl (size36 _) ?_) | (refine wpList_store_mid rfl 50 _ _ rfl w.heap.size 0 (byts 64 fun i => s.f (k * 64 + i)).toArray rfl rfl (by rw [byts_size]; exact (F1.out.far _ (by show d ≠ w.heap.size; omega) _).there 0 64 (Nat.le_refl _)) (size36' _) (byts_all _ _) ?_))
  have F2 := (F1.out.far ⟨d, 3, none⟩ (by show d ≠ w.heap.size; omega) (.int .i64 (s.rd + 1))).stored (fun i => s.f (k * 64 + i))
  refine bodyPost_ret_by (results_mid_tmp rfl _ _ w.heap.size _ (.array 64 5) rfl F2.range0 Try.arr36 rfl (size36 _)) rfl ⟨rfl, ?_, ?_⟩
  · exact (H1.out.setR _).below (below_setCells (Below.refl w.heap.size _) _ _ (Nat.le_refl _) _) hd0 hg0
  · exact ((Kp.of_below hb1'.out _ _).setA _ _).setCellsNew _ _ (Nat.le_refl _) _

set_option maxHeartbeats 2000000 in
set_option maxRecDepth 100000 in
theorem rread_out (d g : Nat) (s : DS) (x : Int) (hx : x < 0 ∨ (s.n : Int) ≤ x) (hn : s.n ≤ 65536) (w : World) (h : Rk w d g s) :
    Calls Try.prog 39 #[.pointer (some ⟨d, 0, none⟩), .int .i64 x] w fun e w' => e = .returned (.tuple #[.agg (byts 64 fun _ => 0).toArray, .int .i64 27]) ∧ Below w.heap.size w w' := by
  have H := Lib.hid h
  clear h
  by_cases hx0 : x < 0
  · go_enter Try.func39, Try.ntmps39
    go_wp2_with (first | (refine wpList_alloc_byts rfl 50 64 rfl Try.zero36 ?_; intro w1 F1 hb1 hz1; have H1 := Lib.hid (H.out.keep hb1); have c0 := H1.out.c0; have hb1' := Lib.hid hb1; clear hb1) | (refine wpList_yields _ (yields_build0 rfl rfl) ?_) | (refine wpList_store_mid rfl 50 _ _ rfl w.heap.size 0 (byts 64 fun _ => 0).toArray rfl rfl (by rw [byts_size]; exact F1.out.there 0 64 (Nat.le_refl _)) (size36' _) (byts_all _ _) ?_))
    have F2 := F1.out.stored (fun _ => 0)
    exact bodyPost_ret_by (results_mid_tmp rfl _ _ w.heap.size _ (.array 64 5) rfl F2.range0 Try.arr36 rfl (size36 _)) rfl ⟨rfl, below_setCells hb1'.out _ _ (Nat.le_refl _) _⟩
  · replace hx : (s.n : Int) ≤ x := by omega
    go_enter Try.func39, Try.ntmps39
    go_wp2_with (first | (refine wpList_alloc_byts rfl 50 64 rfl Try.zero36 ?_; intro w1 F1 hb1 hz1; have H1 := Lib.hid (H.out.keep hb1); have c0 := H1.out.c0; have hb1' := Lib.hid hb1; clear hb1) | (refine wpList_yields _ (yields_build0 rfl rfl) ?_) | (refine wpList_store_mid rfl 50 _ _ rfl w.heap.size 0 (byts 64 fun _ => 0).toArray rfl rfl (by rw [byts_size]; exact F1.out.there 0 64 (Nat.le_refl _)) (size36' _) (byts_all _ _) ?_))
    have F2 := F1.out.stored (fun _ => 0)
    exact bodyPost_ret_by (results_mid_tmp rfl _ _ w.heap.size _ (.array 64 5) rfl F2.range0 Try.arr36 rfl (size36 _)) rfl ⟨rfl, below_setCells hb1'.out _ _ (Nat.le_refl _) _⟩

set_option maxHeartbeats 2000000 in
set_option maxRecDepth 100000 in
theorem rwrite_out (d g : Nat) (s : DS) (b : Nat → Int) (x : Int) (hx : x < 0 ∨ (s.n : Int) ≤ x) (hn : s.n ≤ 65536) (w : World) (h : Rk w d g s) :
    Calls Try.prog 42 #[.pointer (some ⟨d, 0, none⟩), .int .i64 x, .agg (byts 64 b).toArray] w fun e w' => e = .returned (.int .i64 27) ∧ Below w.heap.size w w' := by
  have H := Lib.hid h
  clear h
  by_cases hx0 : x < 0
  · go_enter Try.func42, Try.ntmps42
    go_wp2_with (refine wpList_box_byts rfl 50 _ 64 rfl b rfl ?_; intro w1 F1 hb1 hz1; have H1 := Lib.hid (H.out.keep hb1); have c0 := H1.out.c0; have hb1' := Lib.hid hb1; clear hb1)
    go_ret
    exact ⟨rfl, hb1'.out⟩
  · replace hx : (s.n : Int) ≤ x := by omega
    go_enter Try.func42, Try.ntmps42
    go_wp2_with (refine wpList_box_byts rfl 50 _ 64 rfl b rfl ?_; intro w1 F1 hb1 hz1; have H1 := Lib.hid (H.out.keep hb1); have c0 := H1.out.c0; have hb1' := Lib.hid hb1; clear hb1)
    go_ret
    exact ⟨rfl, hb1'.out⟩

set_option maxHeartbeats 4000000 in
set_option maxRecDepth 100000 in
theorem rwrite_in (d g : Nat) (s : DS) (b : Nat → Int) (k : Nat) (hk : k < s.n) (hn : s.n ≤ 65536) (hr0 : 0 ≤ s.wr) (hr1 : s.wr < 1000000) (hl : s.ar = true → 0 ≤ s.lf) (hl2 : s.lf < 9223372036854775808) (w : World) (h : Rk w d g s) :
    Calls Try.prog 42 #[.pointer (some ⟨d, 0, none⟩), .int .i64 k, .agg (byts 64 b).toArray] w fun e w' => e = .returned (.int .i64 (s.write k b).1) ∧ Rk w' d g (s.write k b).2 ∧ Kp w w' d g := by
  have H := Lib.hid h
  have hd0 := h.lt
  have hg0 := h.fl.lt
  clear h
  have h0 : (0 : Int) ≤ k := by omega
  have h1 : (k : Int) < s.n := by omega
  obtain ⟨L, hL⟩ : ∃ L, lfR s = L := ⟨_, rfl⟩
  have HL := Lib.hid hL
  by_cases hA : s.ar = true ∧ s.lf = 0
  · obtain ⟨hA1, hA2⟩ := hA
    have hL0 : L = 0 := by rw [← hL]; simp [lfR, hA1, hA2]
    subst hL0
    unfold DS.write
    rw [if_pos (.inl ⟨hA1, hA2⟩)]
    clear hL
    go_enter Try.func42, Try.ntmps42
    go_wp2_with (refine wpList_box_byts rfl 50 _ 64 rfl b rfl ?_; intro w1 F1 hb1 hz1; have H1 := Lib.hid (H.out.keep hb1); have c0 := H1.out.c0; have c1 := H1.out.c1; rw [HL.out] at c1; have c2 := H1.out.c2; have z2 := H1.out.z2; have hb1' := Lib.hid hb1; clear hb1)
    go_ret
    exact ⟨rfl, H1.out.setD _, (Kp.of_below hb1'.out _ _).setA _ _⟩
  · have hLn : ¬ (L = 0) := by
      rw [← hL]
      unfold lfR
      cases hA1 : s.ar
      · simp
      · simp only [if_true]
        exact fun e => hA ⟨hA1, e⟩
    by_cases hD : s.de = true
    · unfold DS.write
      rw [if_pos (.inr hD)]
      have HS : Hid (({ s with de := true } : DS) = s) := by show _ = s; cases s; simp_all
      rw [HS.out]
      clear hL
      go_enter Try.func42, Try.ntmps42
      go_wp2_with (refine wpList_box_byts rfl 50 _ 64 rfl b rfl ?_; intro w1 F1 hb1 hz1; have H1 := Lib.hid (H.out.keep hb1); have c0 := H1.out.c0; have c1 := H1.out.c1; rw [HL.out] at c1; have c2 := H1.out.c2; rw [hD] at c2; have hb1' := Lib.hid hb1; clear hb1)
      go_ret
      exact ⟨rfl, H1.out, Kp.of_below hb1'.out _ _⟩
    · replace hD : s.de = false := by simpa using hD
      unfold DS.write
      rw [if_neg (by rintro (h | h); exact hA h; rw [hD] at h; cases h)]
      obtain ⟨SS, hSS⟩ : ∃ SS : DS, ({ s with f := upd s.f (k * 64) 64 b, lf := if s.ar = true then s.lf - 1 else s.lf, wr := s.wr + 1 } : DS) = SS := ⟨_, rfl⟩
      have HSS := Lib.hid hSS
      rw [hSS]
      clear hSS
      have HCL : Hid (lfR { s with f := upd s.f (k * 64) 64 b, lf := if s.ar = true then s.lf - 1 else s.lf, wr := s.wr + 1 } = if 0 < L then L - 1 else L) := by
        show lfR _ = _
        rw [← hL]
        unfold lfR
        cases hA1 : s.ar
        · simp
        · have := hl hA1
          have h2 : ¬ (s.lf = 0) := fun e => hA ⟨hA1, e⟩
          simp only [if_true]
          rw [if_pos (by omega)]
      have HLB : Hid (-1 ≤ L ∧ L < 9223372036854775808) := by
        show _ ∧ _
        rw [← hL]
        unfold lfR
        cases hA1 : s.ar
        · simp
        · have := hl hA1
          simp only [if_true]
          omega
      have hLB := HLB.out
      have HLQ := Lib.hid hl
      clear hL hl
      go_enter Try.func42, Try.ntmps42
      go_wp2_with (refine wpList_box_byts rfl 50 _ 64 rfl b rfl ?_; intro w1 F1 hb1 hz1; have H1 := Lib.hid (H.out.keep hb1); have c0 := H1.out.c0; have c1 := H1.out.c1; rw [HL.out] at c1; have c2 := H1.out.c2; rw [hD] at c2; have hb1' := Lib.hid hb1; clear hb1)
      have HF2 := F1
      have HK2 := Lib.hid (Kp.of_below hb1'.out d g)
      have HD2 := H1
      clear c0 c1 c2 H1 F1 hb1'
      refine wp_region_held (S := fun w' => Fl w' w.heap.size 64 b ∧ ∃ s' : DS, Rk w' d g s' ∧ s'.n = s.n) (by kernel_rfl) ?_
      change wpAnyH _ _ _ _ _ _ _ _ (World.drew _)
      have hS0 : Fl w1.drew w.heap.size 64 b ∧ ∃ s' : DS, Rk w1.drew d g s' ∧ s'.n = s.n := ⟨HF2.out.below (Below.refl _ _).drew HF2.out.lt, _, HD2.out.keep (Below.refl _ _).drew, rfl⟩
      refine wpAnyH_take (i := 0) (v := ?_) rfl (by kernel_rfl) (by kernel_rfl) (by kernel_rfl) (fun _ _ _ h => h) (Or.inl ⟨by rfl, ?_⟩) hS0 ?_
      rotate_left 1
      · intro W hW
        go_simp
        try with_reducible rfl
      simp only [Act.put, List.getElem_toArray, List.getElem_cons_zero, List.getElem_cons_succ, List.setIfInBounds_toArray, List.set_cons_zero, List.set_cons_succ]
      refine wpAnyH_take (i := 1) (v := ?_) rfl (by kernel_rfl) (by kernel_rfl) (by kernel_rfl) (fun _ _ _ h => h) (Or.inl ⟨by rfl, ?_⟩) hS0 ?_
      rotate_left 1
      · intro W hW
        go_simp
        try with_reducible rfl
      simp only [Act.put, List.getElem_toArray, List.getElem_cons_zero, List.getElem_cons_succ, List.setIfInBounds_toArray, List.set_cons_zero, List.set_cons_succ]
      refine wpAnyH_take (i := 2) (v := ?_) rfl (by kernel_rfl) (by kernel_rfl) (by kernel_rfl) (fun _ _ _ h => h) (Or.inl ⟨by rfl, ?_⟩) hS0 ?_
      rotate_left 1
      · intro W hW
        go_simp
        try with_reducible rfl
      simp only [Act.put, List.getElem_toArray, List.getElem_cons_zero, List.getElem_cons_succ, List.setIfInBounds_toArray, List.set_cons_zero, List.set_cons_succ]
      refine wpAnyH_take (i := 3) (v := ?_) rfl (by kernel_rfl) (by kernel_rfl) (by kernel_rfl) (fun _ _ _ h => h) (Or.inl ⟨by rfl, ?_⟩) hS0 ?_
      rotate_left 1
      · intro W hW
        obtain ⟨_, s', hs', hsn⟩ := hW
        have e0 := hs'.c0
        rw [hsn] at e0
        go_simp
        try with_reducible rfl
      simp only [Act.put, List.getElem_toArray, List.getElem_cons_zero, List.getElem_cons_succ, List.setIfInBounds_toArray, List.set_cons_zero, List.set_cons_succ]
      refine wpAnyH_take (i := 4) (v := ?_) rfl (by kernel_rfl) (by kernel_rfl) (by kernel_rfl) (fun _ _ _ h => h) (Or.inl ⟨by rfl, ?_⟩) hS0 ?_
      rotate_left 1
      · intro W hW
        go_simp
        try with_reducible rfl
      simp only [Act.put, List.getElem_toArray, List.getElem_cons_zero, List.getElem_cons_succ, List.setIfInBounds_toArray, List.set_cons_zero, List.set_cons_succ]
      refine wpAnyH_take (i := 5) (v := .agg (byts 64 b).toArray) rfl (by kernel_rfl) (by kernel_rfl) (by kernel_rfl) (fun _ _ _ h => h) ?_ hS0 ?_
      · exact yieldsIf_load_mid (by rfl) 50 _ rfl w.heap.size 0 rfl (byts 64 b) (.array 64 5) (fun _ h => h.1.range0) Try.arr36 rfl (size36 _)
      simp only [Act.put, List.getElem_toArray, List.getElem_cons_zero, List.getElem_cons_succ, List.setIfInBounds_toArray, List.set_cons_zero, List.set_cons_succ]
      refine wpAnyH_take (i := 6) (v := ?_) rfl (by kernel_rfl) (by kernel_rfl) (by kernel_rfl) (fun _ _ _ h => h) (Or.inl ⟨by rfl, ?_⟩) hS0 ?_
      rotate_left 1
      · intro W hW
        go_simp
        try with_reducible rfl
      simp only [Act.put, List.getElem_toArray, List.getElem_cons_zero, List.getElem_cons_succ, List.setIfInBounds_toArray, List.set_cons_zero, List.set_cons_succ]
      refine wpAnyH_ready (rs := [7]) (by kernel_rfl) (by simp) (AllReadyH.cons rfl (fun K hK => ?_) AllReadyH.nil)
      refine step_store_mid rfl 50 _ _ rfl g (k * 64) (byts 64 b).toArray rfl rfl (by rw [byts_size]; exact (HD2.out.keep (Below.refl _ _).drew).fl.there (k * 64) 64 (by show k * 64 + 64 ≤ s.n * 64; omega)) (size36' _) (byts_all _ _) ?_
      have HW3 := Lib.hid ((HD2.out.keep (Below.refl _ _).drew).setB (k * 64) (by show k * 64 + 64 ≤ s.n * 64; omega) b)
      have HK3 := Lib.hid ((HK2.out.drew).setCells g (k * 64) (.inr rfl) (byts 64 b))
      have HF3 := (HF2.out.below (Below.refl _ _).drew HF2.out.lt).kp (((Kp.refl w1.drew d g).setCells g (k * 64) (.inr rfl) (byts 64 b))) (by omega) (by omega)
      refine hK _ _ ?_ ?_
      · exact ⟨HF3, _, HW3.out, rfl⟩
      try intro _
      clear hK K
      refine wpAnyH_done (by kernel_rfl) ?_ _
      clear hS0
      obtain ⟨W3, hW3⟩ : ∃ z, w1.drew.setCells g (k * 64) (byts 64 b).toArray.toList = z := ⟨_, rfl⟩
      rw [List.toList_toArray] at hW3 ⊢
      rw [hW3] at HW3 HK3 ⊢
      have c4 := HW3.out.c4
      have z4 := HW3.out.z4
      have c1 := HW3.out.c1
      have z1 := HW3.out.z1
      have hcl : lfR { s with f := upd s.f (k * 64) 64 b } = L := HL.out
      rw [hcl] at c1
      clear hW3 HF3 hcl
      by_cases hLp : 0 < L
      · go_wp2
        go_ret
        refine ⟨rfl, ?_, (HK3.out.setA _ _).setA _ _⟩
        have hE := (HW3.out.setW (s.wr + 1)).setL s.ar (if s.ar = true then s.lf - 1 else s.lf) (L - 1) (by have := HCL.out; rw [if_pos hLp] at this; exact this)
        rw [← HSS.out]
        exact hE
      · go_wp2
        go_ret
        refine ⟨rfl, ?_, HK3.out.setA _ _⟩
        rw [← HSS.out]
        have hA1 : s.ar = false := by
          have h := HL.out
          have hlq := HLQ.out
          unfold lfR at h
          cases hA1 : s.ar
          · rfl
          · exfalso
            rw [hA1] at h
            simp only [if_true] at h
            have := hlq hA1
            have h2 : ¬ (s.lf = 0) := fun e => hA ⟨hA1, e⟩
            omega
        have hE := HW3.out.setW (s.wr + 1)
        rw [show (if s.ar = true then s.lf - 1 else s.lf) = s.lf by rw [hA1]; rfl]
        exact hE
end Go.Proofs.Ytlbfdmiihnlljaa
