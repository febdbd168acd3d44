import Derived.Test.YtlbfdmiihnlljaaX11b
/- The answer's Put: a block that is not to be written yet: the walk (of none). -/
namespace Go.Proofs.Ytlbfdmiihnlljaa
set_option linter.unusedSimpArgs false
set_option linter.unusedVariables false
open Go.RowKit Go.Maps

set_option maxHeartbeats 40000000 in
set_option maxRecDepth 200000 in
theorem rput_nil (x l d g fi N K : Nat) (va vb : Value) (T : TS) (co : Int) (s : DS) (n : Nat) (f : Nat → Int) (hT30 : T.length < 30) (hT0 : T = []) (hf : fi ≤ 65536) (hN : N ≤ 65536) (hs : Sane s N K) (w : World) (h : Rx w x l va vb T co) (hl : Lg w l d fi) (hd : Rk w d g s)
    (hna : NF va T.length) (hnb : NF vb T.length) (hvb : Ns.off vb x x) (ho : outB N fi n = true) (hq : find T n = none) :
    Calls Try.prog 26 #[.pointer (some ⟨x, 0, none⟩), .int .i64 n, .agg (byts 64 f).toArray] w fun e w' => e = .returned (.int .i64 0) ∧ ∃ va' vb', Rx w' x l va' vb' (put n f T) co ∧ NF va' (put n f T).length ∧ NF vb' (put n f T).length ∧ (∀ k, va'.ownBlock = some k → w.heap.size ≤ k) ∧ (∀ k, vb'.ownBlock = some k → w.heap.size ≤ k ∧ ∀ j, va'.ownBlock = some j → j ≠ k) ∧ Kp w w' x x := by
  rcases hna with ⟨rfl, _⟩ | ⟨h0, _⟩
  rotate_left 1
  · rw [hT0] at h0; simp at h0
  rcases hnb with ⟨rfl, _⟩ | ⟨h0, _⟩
  rotate_left 1
  · rw [hT0] at h0; simp at h0
  have HTN := Lib.hid hT0
  have HCN : Hid (cnt n T = 0) := by show _ = _; rw [hT0]; rfl
  have HLN : Hid (T.length = 0) := by show _ = _; rw [hT0]; rfl
  clear hT0
  have HKL : Hid ((keys T).length = T.length) := by show _ = _; simp [keys]
  have HPL : Hid ((put n f T).length = T.length + 1) := put_len_none T n f hq
  have HKV : Hid (keyV (put n f T) = (keyV (T.take (cnt n T)) ++ [Value.int .i64 (n : Int)]) ++ keyV (T.drop (cnt n T))) := keyV_put T n f hq
  have HFB : Hid (flatB (put n f T) = (flatB (T.take (cnt n T)) ++ byts 64 f) ++ flatB (T.drop (cnt n T))) := flatB_put T n f hq
  have HVB := Lib.hid hvb
  have HX := Lib.hid h
  have HL := Lib.hid hl
  have HD := Lib.hid hd
  have hxl := h.lt
  have hll := hl.lt
  have hdl := hd.lt
  have hsn := hs.n
  have HFi : Hid (∀ W, Rx W x l (.slice none 0 0) (.slice none 0 0) T co → Calls Try.prog 38 #[.pointer (some ⟨x, 0, none⟩), .int .i64 n] W fun e w' => e = .returned (.int .i64 (-1)) ∧ w' = W) := fun W hW => by
    have := rfind_any x l _ _ T co n (by omega) W hW
    rwa [pos_none n T 0 hq] at this
  obtain ⟨i3, hi3, hz0, hz1, hz2⟩ := Try.info3i
  have HI := Lib.hid hi3
  have HZ0 := Lib.hid hz0
  have HZ1 := Lib.hid hz1
  have HZ2 := Lib.hid hz2
  have HU : Hid (Try.prog.underlying 43 = some (.slice 3)) := by show _ = _; kernel_rfl
  obtain ⟨i5, hi5, hy0, hy1, hy2⟩ := Try.info36i
  have HI2 := Lib.hid hi5
  have HY0 := Lib.hid hy0
  have HY1 := Lib.hid hy1
  have HY2 := Lib.hid hy2
  have HU2 : Hid (Try.prog.underlying 34 = some (.slice 50)) := by show _ = _; kernel_rfl
  clear h hl hd hvb hs hq hi3 hz0 hz1 hz2 hi5 hy0 hy1 hy2
  have hc : n < N ∧ (n < fi ∨ fi ≤ n ∧ fi + 30 < n) := by
    unfold outB at ho
    simp at ho
    omega
  clear ho
  obtain ⟨hc1', hc2'⟩ := hc
  have hc0 : (0 : Int) ≤ n := by omega
  have hc1 : (n : Int) < N := by omega
  have hc2 : (n : Int) < fi ∨ (fi : Int) ≤ n ∧ (fi : Int) + 30 < n := by omega
  clear hc1' hc2'
  have hNn : (N : Int) ≤ 65536 := by omega
  have hff : (fi : Int) ≤ 65536 := by omega
  have h50 : (T.length : Int) < 30 := by omega
  have hwa : IntKind.i64.wrap ((fi : Int) + 30) = (fi : Int) + 30 := IntWalk.i64_in _ (by omega)
  subst hsn
  go_enter Try.func26, Try.ntmps26
  go_upto_region 2 with (refine wpList_box_byts rfl 50 _ 64 rfl f rfl ?_; intro w1 F1 hb1 hz1; have HX1 := Lib.hid (HX.out.below hb1); have HB1 := Lib.hid hb1; have HF1 := Lib.hid F1.out; have c0 := HX1.out.c0; have b0 := (HL.out.keep hb1).c0; have b1 := (HL.out.keep hb1).c1; have d0 := (HD.out.keep hb1).c0; have hlt1 : w.heap.size < w1.heap.size := (by omega); clear hb1 hz1 F1)
  go_cut [49] (fun v wc => v = .bool false ∧ wc = w1)
  case first =>
    rcases hc2 with hc2 | ⟨hc2, hc3⟩
    · go_wp2_with fail
      go_meet
      case rel => exact ⟨by simp; omega, rfl⟩
    · go_wp2_with fail
      go_meet
      case rel => exact ⟨by simp; omega, rfl⟩
  case rest =>
    obtain ⟨rfl, hwc⟩ := hcut
    subst hwc
    obtain ⟨w1, rfl⟩ : ∃ q, q = wc := ⟨wc, rfl⟩
    clear c0 b0 b1 d0 hc2 hwa hc0 hc1 HL HD
    obtain ⟨b5, hb5⟩ : ∃ b5, w.heap.size = b5 := ⟨_, rfl⟩
    have hb5' : w.heap.size ≤ b5 := by omega
    rw [hb5] at HF1 hlt1 hxl ⊢
    have hF1lt : b5 < w1.heap.size := hlt1
    have c1 := HX1.out.c1
    go_upto_block 0 with (go_at_call 38; refine (HFi.out w1 HX1.out).mono ?_; rintro e w' ⟨rfl, hww⟩; rw [hww]; clear hww)
    go_cut [9] (fun v wc => v = .int .i64 ((cnt n T : Nat) : Int) ∧ wc = w1)
    case first =>
      go_wp2_with fail
      go_loopw [9] (fun v wr => ∃ k : Nat, k ≤ cnt n T ∧ v = .int .i64 k ∧ wr = w1) (fun v _ => cnt n T - (Go.RowKit.intOf v).toNat)
      case atStart => exact ⟨0, Nat.zero_le _, rfl, rfl⟩
      case round =>
        obtain ⟨k, hk, rfl, hwr⟩ := hrel
        subst hwr
        have hk0 : (0 : Int) ≤ k := by omega
        obtain rfl : k = 0 := by have := HCN.out; omega
        have HCC : Hid (cnt n T = 0) := HCN.out
        go_wp2_with fail
        go_meet
        case rel => exact ⟨by rw [HCC.out], rfl⟩
    case rest =>
      obtain ⟨rfl, hwc⟩ := hcut
      subst hwc
      obtain ⟨w1, rfl⟩ : ∃ q, q = wc := ⟨wc, rfl⟩
      have HK1 : Hid (Kp w w1 x x) := Kp.of_below HB1.out x x
      obtain ⟨base, hbq⟩ : ∃ b, w1.heap.size = b := ⟨_, rfl⟩
      have hbase := Lib.hid hbq
      have hxb : x < base := by omega
      have h5x : b5 ≠ x := by omega
      have h5b : b5 < base := by omega
      have hvbb : ∀ k, Value.ownBlock (.slice none 0 0) = some k → k < base := fun k hk => by simp [Value.ownBlock] at hk
      clear hbq c1
      go_upto_region 12 with fail
      go_cut [106] (fun _ wc => ∃ va', Rm wc x l b5 base va' (.slice none 0 0) T (put n f T) f co ∧ Kp w wc x x)
      case first =>
        refine wp_region_G (S := fun W => W.cell? ⟨x, 1, none⟩ = some (.slice none 0 0)) 21 (by kernel_rfl) ?_
        change wpAnyG _ _ _ _ _ _ _ _ _ (World.drew _)
        have HB0 := Lib.hid ((Below.refl w1.heap.size w1).drew)
        have hzz : base ≤ w1.heap.size := Nat.le_of_eq hbase.out.symm
        have hzB : w1.heap.size ≤ base := Nat.le_of_eq hbase.out
        obtain ⟨w10, hw10⟩ : ∃ q, World.drew w1 = q := ⟨_, rfl⟩
        rw [hw10] at HB0 ⊢
        clear hw10
        have HB10 := HB0
        clear HB0
        have hz10 : base ≤ w10.heap.size := Nat.le_trans hzz HB10.out.size
        have hS0 : (fun W => W.cell? ⟨x, 1, none⟩ = some (.slice none 0 0)) w10 := (HX1.out.below HB10.out).c1
        refine wpAnyG_pure (i := 0) (v := ?_) rfl (by kernel_rfl) (by kernel_rfl) (by kernel_rfl) (by kernel_rfl) (fun _ _ _ h => h) (Or.inl ⟨by rfl, ?_⟩) hS0 ?_
        rotate_left 1
        · intro W hW
          go_simp
          try with_reducible rfl
        simp only [Act.put, List.getElem_toArray, List.getElem_cons_zero, List.getElem_cons_succ, List.setIfInBounds_toArray, List.set_cons_zero, List.set_cons_succ]
        refine wpAnyG_pure (i := 2) (v := ?_) rfl (by kernel_rfl) (by kernel_rfl) (by kernel_rfl) (by kernel_rfl) (fun _ _ _ h => h) (Or.inl ⟨by rfl, ?_⟩) hS0 ?_
        rotate_left 1
        · intro W hW
          go_simp
          try with_reducible rfl
        simp only [Act.put, List.getElem_toArray, List.getElem_cons_zero, List.getElem_cons_succ, List.setIfInBounds_toArray, List.set_cons_zero, List.set_cons_succ]
        refine wpAnyG_pure (i := 3) (v := ?_) rfl (by kernel_rfl) (by kernel_rfl) (by kernel_rfl) (by kernel_rfl) (fun _ _ _ h => h) (Or.inl ⟨by rfl, ?_⟩) hS0 ?_
        rotate_left 1
        · intro W hW
          go_simp
          try with_reducible rfl
        simp only [Act.put, List.getElem_toArray, List.getElem_cons_zero, List.getElem_cons_succ, List.setIfInBounds_toArray, List.set_cons_zero, List.set_cons_succ]
        refine wpAnyG_pure (i := 4) (v := ?_) rfl (by kernel_rfl) (by kernel_rfl) (by kernel_rfl) (by kernel_rfl) (fun _ _ _ h => h) (Or.inl ⟨by rfl, ?_⟩) hS0 ?_
        rotate_left 1
        · intro W hW
          go_simp
          try with_reducible rfl
        simp only [Act.put, List.getElem_toArray, List.getElem_cons_zero, List.getElem_cons_succ, List.setIfInBounds_toArray, List.set_cons_zero, List.set_cons_succ]
        refine wpAnyG_take (i := 5) (v := ?_) rfl (by kernel_rfl) (by kernel_rfl) (by kernel_rfl) (by kernel_rfl) (by kernel_rfl) (fun _ _ _ h => h) (Or.inl ⟨by rfl, ?_⟩) hS0 ?_
        rotate_left 1
        · intro W hW
          have c1 := hW
          go_simp
          try with_reducible rfl
        simp only [Act.put, List.getElem_toArray, List.getElem_cons_zero, List.getElem_cons_succ, List.setIfInBounds_toArray, List.set_cons_zero, List.set_cons_succ]
        refine wpAnyG_pure (i := 6) (v := ?_) rfl (by kernel_rfl) (by kernel_rfl) (by kernel_rfl) (by kernel_rfl) (fun _ _ _ h => h) (Or.inl ⟨by rfl, ?_⟩) hS0 ?_
        rotate_left 1
        · intro W hW
          go_simp
          try with_reducible rfl
        simp only [Act.put, List.getElem_toArray, List.getElem_cons_zero, List.getElem_cons_succ, List.setIfInBounds_toArray, List.set_cons_zero, List.set_cons_succ]
        refine wpAnyG_pure (i := 7) (v := .slice none 0 0) rfl (by kernel_rfl) (by kernel_rfl) (by kernel_rfl) (by kernel_rfl) (fun _ _ _ h => h) ?_ hS0 ?_
        · exact yields_lo rfl 43 3 HU.out _ _ rfl (.slice none 0 0) (.int .i64 ((cnt n T : Nat) : Int)) _ rfl rfl (fun W => (by rw [HCN.out]; exact sl_lo0 43 3 _ HU.out HI.out W))
        simp only [Act.put, List.getElem_toArray, List.getElem_cons_zero, List.getElem_cons_succ, List.setIfInBounds_toArray, List.set_cons_zero, List.set_cons_succ]
        refine wpAnyG_pure (i := 9) (v := ?_) rfl (by kernel_rfl) (by kernel_rfl) (by kernel_rfl) (by kernel_rfl) (fun _ _ _ h => h) (Or.inl ⟨by rfl, ?_⟩) hS0 ?_
        rotate_left 1
        · intro W hW
          go_simp
          try with_reducible rfl
        simp only [Act.put, List.getElem_toArray, List.getElem_cons_zero, List.getElem_cons_succ, List.setIfInBounds_toArray, List.set_cons_zero, List.set_cons_succ]
        refine wpAnyG_pure (i := 12) (v := ?_) rfl (by kernel_rfl) (by kernel_rfl) (by kernel_rfl) (by kernel_rfl) (fun _ _ _ h => h) (Or.inl ⟨by rfl, ?_⟩) hS0 ?_
        rotate_left 1
        · intro W hW
          go_simp
          try with_reducible rfl
        simp only [Act.put, List.getElem_toArray, List.getElem_cons_zero, List.getElem_cons_succ, List.setIfInBounds_toArray, List.set_cons_zero, List.set_cons_succ]
        refine wpAnyG_pure (i := 13) (v := ?_) rfl (by kernel_rfl) (by kernel_rfl) (by kernel_rfl) (by kernel_rfl) (fun _ _ _ h => h) (Or.inl ⟨by rfl, ?_⟩) hS0 ?_
        rotate_left 1
        · intro W hW
          go_simp
          try with_reducible rfl
        simp only [Act.put, List.getElem_toArray, List.getElem_cons_zero, List.getElem_cons_succ, List.setIfInBounds_toArray, List.set_cons_zero, List.set_cons_succ]
        refine wpAnyG_pure (i := 14) (v := ?_) rfl (by kernel_rfl) (by kernel_rfl) (by kernel_rfl) (by kernel_rfl) (fun _ _ _ h => h) (Or.inl ⟨by rfl, ?_⟩) hS0 ?_
        rotate_left 1
        · intro W hW
          go_simp
          try with_reducible rfl
        simp only [Act.put, List.getElem_toArray, List.getElem_cons_zero, List.getElem_cons_succ, List.setIfInBounds_toArray, List.set_cons_zero, List.set_cons_succ]
        refine wpAnyG_take (i := 15) (v := ?_) rfl (by kernel_rfl) (by kernel_rfl) (by kernel_rfl) (by kernel_rfl) (by kernel_rfl) (fun _ _ _ h => h) (Or.inl ⟨by rfl, ?_⟩) hS0 ?_
        rotate_left 1
        · intro W hW
          have c1 := hW
          go_simp
          try with_reducible rfl
        simp only [Act.put, List.getElem_toArray, List.getElem_cons_zero, List.getElem_cons_succ, List.setIfInBounds_toArray, List.set_cons_zero, List.set_cons_succ]
        refine wpAnyG_pure (i := 16) (v := ?_) rfl (by kernel_rfl) (by kernel_rfl) (by kernel_rfl) (by kernel_rfl) (fun _ _ _ h => h) (Or.inl ⟨by rfl, ?_⟩) hS0 ?_
        rotate_left 1
        · intro W hW
          go_simp
          try with_reducible rfl
        simp only [Act.put, List.getElem_toArray, List.getElem_cons_zero, List.getElem_cons_succ, List.setIfInBounds_toArray, List.set_cons_zero, List.set_cons_succ]
        refine wpAnyG_pure (i := 17) (v := .slice none 0 0) rfl (by kernel_rfl) (by kernel_rfl) (by kernel_rfl) (by kernel_rfl) (fun _ _ _ h => h) ?_ hS0 ?_
        · exact yields_hi rfl 43 3 HU.out _ _ rfl (.slice none 0 0) (.int .i64 ((cnt n T : Nat) : Int)) _ rfl rfl (fun W => (by rw [HCN.out]; exact sl_hi0 43 3 _ HU.out HI.out W))
        simp only [Act.put, List.getElem_toArray, List.getElem_cons_zero, List.getElem_cons_succ, List.setIfInBounds_toArray, List.set_cons_zero, List.set_cons_succ]
        refine wpAnyG_ready (rs := [1, 10]) (by kernel_rfl) (by simp) (AllReadyG.cons rfl (fun KK hKK => ?_) (AllReadyG.cons rfl (fun KK hKK => ?_) AllReadyG.nil))
        · skip
          refine step_empty43 rfl rfl ?_
          have HO11 := Lib.hid (ownsRow_empty w10 base 3 1 hz10)
          have HB11 := Lib.hid (HB10.out.alloc HB10.out.size (.cells #[] 3))
          obtain ⟨b89, hb89⟩ : ∃ b, w10.heap.size = b := ⟨_, rfl⟩
          have hbl89 : base ≤ b89 := by omega
          obtain ⟨w11, hw11⟩ : ∃ q, w10.alloc (.cells #[] 3) = q := ⟨_, rfl⟩
          rw [hw11] at HO11 HB11  ⊢
          rw [hb89] at HO11 ⊢
          have hbw89 : b89 < w11.heap.size := by rw [← hw11]; simp; omega
          clear hw11 hb89
          have hz11 : base ≤ w11.heap.size := Nat.le_trans hzz HB11.out.size
          clear hS0
          have hS0 : (fun W => W.cell? ⟨x, 1, none⟩ = some (.slice none 0 0)) w11 := (HX1.out.below HB11.out).c1
          refine hKK _ _ (fun _ => hS0) ?_
          clear hKK KK
          try simp only [Act.put, List.getElem_toArray, List.getElem_cons_zero, List.getElem_cons_succ, List.setIfInBounds_toArray, List.set_cons_zero, List.set_cons_succ]
          refine wpAnyG_ready (rs := [8, 10]) (by kernel_rfl) (by simp) (AllReadyG.cons rfl (fun KK hKK => ?_) (AllReadyG.cons rfl (fun KK hKK => ?_) AllReadyG.nil))
          · skip
            refine step_append_none rfl _ _ 43 rfl base 3 i3 1 HU.out HI.out _ (0) (([] : List Value)) rfl HO11.out rfl ?_
            refine hKK _ _ (fun _ => hS0) ?_
            clear hKK KK
            try simp only [Act.put, List.getElem_toArray, List.getElem_cons_zero, List.getElem_cons_succ, List.setIfInBounds_toArray, List.set_cons_zero, List.set_cons_succ]
            refine wpAnyG_ready (rs := [10]) (by kernel_rfl) (by simp) (AllReadyG.cons rfl (fun KK hKK => ?_) AllReadyG.nil)
            refine step_int1 rfl _ rfl n rfl ?_
            have HB13 := Lib.hid (HB11.out.alloc HB11.out.size (.cells #[Value.int .i64 (n : Int)] 3))
            have HC13 := Lib.hid (show (w11.alloc (.cells #[Value.int .i64 (n : Int)] 3)).cell? ⟨w11.heap.size, 0, none⟩ = some (.int .i64 (n : Int)) by rw [World.cell?_alloc_at _ _ _ _ rfl]; rfl)
            have HO13 := Lib.hid (HO11.out.alloc (.cells #[Value.int .i64 (n : Int)] 3))
            obtain ⟨b98, hb98⟩ : ∃ b, w11.heap.size = b := ⟨_, rfl⟩
            have hcl13 : b98 < (w11.alloc (.cells #[Value.int .i64 (n : Int)] 3)).heap.size := by simp; omega
            obtain ⟨w13, hw13⟩ : ∃ q, w11.alloc (.cells #[Value.int .i64 (n : Int)] 3) = q := ⟨_, rfl⟩
            rw [hw13] at HB13 HC13 hcl13 HO13 ⊢
            rw [hb98] at HC13 ⊢
            clear hw13 hb98
            have hz13 : base ≤ w13.heap.size := Nat.le_trans hzz HB13.out.size
            clear hS0
            have hS0 : (fun W => W.cell? ⟨x, 1, none⟩ = some (.slice none 0 0)) w13 := (HX1.out.below HB13.out).c1
            refine hKK _ _ (fun _ => hS0) ?_
            clear hKK KK
            try simp only [Act.put, List.getElem_toArray, List.getElem_cons_zero, List.getElem_cons_succ, List.setIfInBounds_toArray, List.set_cons_zero, List.set_cons_succ]
            refine wpAnyG_ready (rs := [11]) (by kernel_rfl) (by simp) (AllReadyG.cons rfl (fun KK hKK => ?_) AllReadyG.nil)
            refine step_append_own rfl _ _ 43 rfl base 3 i3 (.int .i64 0) 1 8 HU.out HI.out HZ0.out HZ1.out HZ2.out rfl (by decide) _ (0) (([] : List Value)) rfl HO13.out ⟨b98, 0, none⟩ 1 1 ([Value.int .i64 (n : Int)]) rfl rfl (one_news HC13.out) (by simp [Value.oneCell']) (by have := cnt_le n T; unfold maxLen; omega) (by have := cnt_le n T; omega) hz13 ?_
            intro v99 w14 hown hg hnil
            have HB14 := Lib.hid (HB13.out.grown hg (Nat.le_trans (Nat.le_of_eq rfl) HB13.out.size) (fun k hk => Nat.le_trans hzB (ownsRow_block HO13.out k hk)))
            have HO14 := Lib.hid hown
            clear hown hg hnil
            have hz14 : base ≤ w14.heap.size := Nat.le_trans hzz HB14.out.size
            clear hS0
            have hS0 : (fun W => W.cell? ⟨x, 1, none⟩ = some (.slice none 0 0)) w14 := (HX1.out.below HB14.out).c1
            refine hKK _ _ (fun _ => hS0) ?_
            clear hKK KK
            try simp only [Act.put, List.getElem_toArray, List.getElem_cons_zero, List.getElem_cons_succ, List.setIfInBounds_toArray, List.set_cons_zero, List.set_cons_succ]
            refine wpAnyG_ready (rs := [18]) (by kernel_rfl) (by simp) (AllReadyG.cons rfl (fun KK hKK => ?_) AllReadyG.nil)
            refine step_append_none rfl _ _ 43 rfl base 3 i3 1 HU.out HI.out _ (0 + 1) (([] : List Value) ++ [Value.int .i64 (n : Int)]) rfl HO14.out rfl ?_
            refine hKK _ _ (fun _ => hS0) ?_
            clear hKK KK
            try simp only [Act.put, List.getElem_toArray, List.getElem_cons_zero, List.getElem_cons_succ, List.setIfInBounds_toArray, List.set_cons_zero, List.set_cons_succ]
            refine wpAnyG_pure (i := 19) (v := ?_) rfl (by kernel_rfl) (by kernel_rfl) (by kernel_rfl) (by kernel_rfl) (fun _ _ _ h => h) (Or.inl ⟨by rfl, ?_⟩) hS0 ?_
            rotate_left 1
            · intro W hW
              go_simp
              try with_reducible rfl
            simp only [Act.put, List.getElem_toArray, List.getElem_cons_zero, List.getElem_cons_succ, List.setIfInBounds_toArray, List.set_cons_zero, List.set_cons_succ]
            refine wpAnyG_pure (i := 20) (v := ?_) rfl (by kernel_rfl) (by kernel_rfl) (by kernel_rfl) (by kernel_rfl) (fun _ _ _ h => h) (Or.inl ⟨by rfl, ?_⟩) hS0 ?_
            rotate_left 1
            · intro W hW
              go_simp
              try with_reducible rfl
            simp only [Act.put, List.getElem_toArray, List.getElem_cons_zero, List.getElem_cons_succ, List.setIfInBounds_toArray, List.set_cons_zero, List.set_cons_succ]
            refine wpAnyG_ready (rs := [21]) (by kernel_rfl) (by simp) (AllReadyG.cons rfl (fun KK hKK => ?_) AllReadyG.nil)
            have hU : w14.ownsRow base 3 1 v99 (put n f T).length (keyV (put n f T)) := by
              have hh := HO14.out
              rw [HKV.out, HPL.out]
              have hcl := cnt_le n T
              obtain rfl : T = [] := HTN.out
              simpa [cnt, keyV, keys] using hh
            obtain ⟨av, cv, hvv⟩ := slice_form hU
            subst hvv
            have cc1 := (HX1.out.below HB14.out).c1
            have zz1 := (HX1.out.below HB14.out).z1
            go_simp
            have HRm := Lib.hid (Rm.of (HX1.out.below HB14.out) (HF1.out.below HB14.out hF1lt) hU hxb hz14 HVB.out hvbb h5x h5b)
            have HK16 : Hid (Kp w (w14.setCell ⟨x, 1, none⟩ (.slice av (put n f T).length cv)) x x) := (HK1.out.trans (Kp.of_below HB14.out x x)).setCell ⟨x, 1, none⟩ (.inl rfl) _
            obtain ⟨w16, hw16⟩ : ∃ q, w14.setCell ⟨x, 1, none⟩ (.slice av (put n f T).length cv) = q := ⟨_, rfl⟩
            rw [hw16] at HRm HK16 ⊢
            clear hw16 cc1 zz1 hU
            clear hS0
            refine hKK _ _ (fun h => absurd h (by decide)) ?_
            clear hKK KK
            try simp only [Act.put, List.getElem_toArray, List.getElem_cons_zero, List.getElem_cons_succ, List.setIfInBounds_toArray, List.set_cons_zero, List.set_cons_succ]
            refine wpAnyG_done (by kernel_rfl) ?_ _
            go_wp2_with fail
            go_meet
            case rel => exact ⟨_, HRm.out, HK16.out⟩
          · skip
            refine step_int1 rfl _ rfl n rfl ?_
            have HB12 := Lib.hid (HB11.out.alloc HB11.out.size (.cells #[Value.int .i64 (n : Int)] 3))
            have HC12 := Lib.hid (show (w11.alloc (.cells #[Value.int .i64 (n : Int)] 3)).cell? ⟨w11.heap.size, 0, none⟩ = some (.int .i64 (n : Int)) by rw [World.cell?_alloc_at _ _ _ _ rfl]; rfl)
            have HO12 := Lib.hid (HO11.out.alloc (.cells #[Value.int .i64 (n : Int)] 3))
            obtain ⟨b98, hb98⟩ : ∃ b, w11.heap.size = b := ⟨_, rfl⟩
            have hcl12 : b98 < (w11.alloc (.cells #[Value.int .i64 (n : Int)] 3)).heap.size := by simp; omega
            have hne : b98 ≠ b89 := by omega
            obtain ⟨w12, hw12⟩ : ∃ q, w11.alloc (.cells #[Value.int .i64 (n : Int)] 3) = q := ⟨_, rfl⟩
            rw [hw12] at HB12 HC12 hcl12 HO12 ⊢
            rw [hb98] at HC12 ⊢
            clear hw12 hb98
            have hz12 : base ≤ w12.heap.size := Nat.le_trans hzz HB12.out.size
            clear hS0
            have hS0 : (fun W => W.cell? ⟨x, 1, none⟩ = some (.slice none 0 0)) w12 := (HX1.out.below HB12.out).c1
            refine hKK _ _ (fun _ => hS0) ?_
            clear hKK KK
            try simp only [Act.put, List.getElem_toArray, List.getElem_cons_zero, List.getElem_cons_succ, List.setIfInBounds_toArray, List.set_cons_zero, List.set_cons_succ]
            refine wpAnyG_ready (rs := [8]) (by kernel_rfl) (by simp) (AllReadyG.cons rfl (fun KK hKK => ?_) AllReadyG.nil)
            refine step_append_none rfl _ _ 43 rfl base 3 i3 1 HU.out HI.out _ (0) (([] : List Value)) rfl HO12.out rfl ?_
            refine hKK _ _ (fun _ => hS0) ?_
            clear hKK KK
            try simp only [Act.put, List.getElem_toArray, List.getElem_cons_zero, List.getElem_cons_succ, List.setIfInBounds_toArray, List.set_cons_zero, List.set_cons_succ]
            refine wpAnyG_ready (rs := [11]) (by kernel_rfl) (by simp) (AllReadyG.cons rfl (fun KK hKK => ?_) AllReadyG.nil)
            refine step_append_own rfl _ _ 43 rfl base 3 i3 (.int .i64 0) 1 8 HU.out HI.out HZ0.out HZ1.out HZ2.out rfl (by decide) _ (0) (([] : List Value)) rfl HO12.out ⟨b98, 0, none⟩ 1 1 ([Value.int .i64 (n : Int)]) rfl rfl (one_news HC12.out) (by simp [Value.oneCell']) (by have := cnt_le n T; unfold maxLen; omega) (by have := cnt_le n T; omega) hz12 ?_
            intro v99 w14 hown hg hnil
            have HB14 := Lib.hid (HB12.out.grown hg (Nat.le_trans (Nat.le_of_eq rfl) HB12.out.size) (fun k hk => Nat.le_trans hzB (ownsRow_block HO12.out k hk)))
            have HO14 := Lib.hid hown
            clear hown hg hnil
            have hz14 : base ≤ w14.heap.size := Nat.le_trans hzz HB14.out.size
            clear hS0
            have hS0 : (fun W => W.cell? ⟨x, 1, none⟩ = some (.slice none 0 0)) w14 := (HX1.out.below HB14.out).c1
            refine hKK _ _ (fun _ => hS0) ?_
            clear hKK KK
            try simp only [Act.put, List.getElem_toArray, List.getElem_cons_zero, List.getElem_cons_succ, List.setIfInBounds_toArray, List.set_cons_zero, List.set_cons_succ]
            refine wpAnyG_ready (rs := [18]) (by kernel_rfl) (by simp) (AllReadyG.cons rfl (fun KK hKK => ?_) AllReadyG.nil)
            refine step_append_none rfl _ _ 43 rfl base 3 i3 1 HU.out HI.out _ (0 + 1) (([] : List Value) ++ [Value.int .i64 (n : Int)]) rfl HO14.out rfl ?_
            refine hKK _ _ (fun _ => hS0) ?_
            clear hKK KK
            try simp only [Act.put, List.getElem_toArray, List.getElem_cons_zero, List.getElem_cons_succ, List.setIfInBounds_toArray, List.set_cons_zero, List.set_cons_succ]
            refine wpAnyG_pure (i := 19) (v := ?_) rfl (by kernel_rfl) (by kernel_rfl) (by kernel_rfl) (by kernel_rfl) (fun _ _ _ h => h) (Or.inl ⟨by rfl, ?_⟩) hS0 ?_
            rotate_left 1
            · intro W hW
              go_simp
              try with_reducible rfl
            simp only [Act.put, List.getElem_toArray, List.getElem_cons_zero, List.getElem_cons_succ, List.setIfInBounds_toArray, List.set_cons_zero, List.set_cons_succ]
            refine wpAnyG_pure (i := 20) (v := ?_) rfl (by kernel_rfl) (by kernel_rfl) (by kernel_rfl) (by kernel_rfl) (fun _ _ _ h => h) (Or.inl ⟨by rfl, ?_⟩) hS0 ?_
            rotate_left 1
            · intro W hW
              go_simp
              try with_reducible rfl
            simp only [Act.put, List.getElem_toArray, List.getElem_cons_zero, List.getElem_cons_succ, List.setIfInBounds_toArray, List.set_cons_zero, List.set_cons_succ]
            refine wpAnyG_ready (rs := [21]) (by kernel_rfl) (by simp) (AllReadyG.cons rfl (fun KK hKK => ?_) AllReadyG.nil)
            have hU : w14.ownsRow base 3 1 v99 (put n f T).length (keyV (put n f T)) := by
              have hh := HO14.out
              rw [HKV.out, HPL.out]
              have hcl := cnt_le n T
              obtain rfl : T = [] := HTN.out
              simpa [cnt, keyV, keys] using hh
            obtain ⟨av, cv, hvv⟩ := slice_form hU
            subst hvv
            have cc1 := (HX1.out.below HB14.out).c1
            have zz1 := (HX1.out.below HB14.out).z1
            go_simp
            have HRm := Lib.hid (Rm.of (HX1.out.below HB14.out) (HF1.out.below HB14.out hF1lt) hU hxb hz14 HVB.out hvbb h5x h5b)
            have HK16 : Hid (Kp w (w14.setCell ⟨x, 1, none⟩ (.slice av (put n f T).length cv)) x x) := (HK1.out.trans (Kp.of_below HB14.out x x)).setCell ⟨x, 1, none⟩ (.inl rfl) _
            obtain ⟨w16, hw16⟩ : ∃ q, w14.setCell ⟨x, 1, none⟩ (.slice av (put n f T).length cv) = q := ⟨_, rfl⟩
            rw [hw16] at HRm HK16 ⊢
            clear hw16 cc1 zz1 hU
            clear hS0
            refine hKK _ _ (fun h => absurd h (by decide)) ?_
            clear hKK KK
            try simp only [Act.put, List.getElem_toArray, List.getElem_cons_zero, List.getElem_cons_succ, List.setIfInBounds_toArray, List.set_cons_zero, List.set_cons_succ]
            refine wpAnyG_done (by kernel_rfl) ?_ _
            go_wp2_with fail
            go_meet
            case rel => exact ⟨_, HRm.out, HK16.out⟩
        · skip
          refine step_int1 rfl _ rfl n rfl ?_
          have HB11 := Lib.hid (HB10.out.alloc HB10.out.size (.cells #[Value.int .i64 (n : Int)] 3))
          have HC11 := Lib.hid (show (w10.alloc (.cells #[Value.int .i64 (n : Int)] 3)).cell? ⟨w10.heap.size, 0, none⟩ = some (.int .i64 (n : Int)) by rw [World.cell?_alloc_at _ _ _ _ rfl]; rfl)
          obtain ⟨b98, hb98⟩ : ∃ b, w10.heap.size = b := ⟨_, rfl⟩
          have hcl11 : b98 < (w10.alloc (.cells #[Value.int .i64 (n : Int)] 3)).heap.size := by simp; omega
          obtain ⟨w11, hw11⟩ : ∃ q, w10.alloc (.cells #[Value.int .i64 (n : Int)] 3) = q := ⟨_, rfl⟩
          rw [hw11] at HB11 HC11 hcl11  ⊢
          rw [hb98] at HC11 ⊢
          clear hw11 hb98
          have hz11 : base ≤ w11.heap.size := Nat.le_trans hzz HB11.out.size
          clear hS0
          have hS0 : (fun W => W.cell? ⟨x, 1, none⟩ = some (.slice none 0 0)) w11 := (HX1.out.below HB11.out).c1
          refine hKK _ _ (fun _ => hS0) ?_
          clear hKK KK
          try simp only [Act.put, List.getElem_toArray, List.getElem_cons_zero, List.getElem_cons_succ, List.setIfInBounds_toArray, List.set_cons_zero, List.set_cons_succ]
          refine wpAnyG_ready (rs := [1]) (by kernel_rfl) (by simp) (AllReadyG.cons rfl (fun KK hKK => ?_) AllReadyG.nil)
          refine step_empty43 rfl rfl ?_
          have HO12 := Lib.hid (ownsRow_empty w11 base 3 1 hz11)
          have HB12 := Lib.hid (HB11.out.alloc HB11.out.size (.cells #[] 3))
          have HC12 := Lib.hid (one_alloc HC11.out hcl11 (.cells #[] 3))
          obtain ⟨b89, hb89⟩ : ∃ b, w11.heap.size = b := ⟨_, rfl⟩
          have hbl89 : base ≤ b89 := by omega
          have hne : b98 ≠ b89 := by omega
          have hcl12 : b98 < (w11.alloc (.cells #[] 3)).heap.size := by simp; omega
          obtain ⟨w12, hw12⟩ : ∃ q, w11.alloc (.cells #[] 3) = q := ⟨_, rfl⟩
          rw [hw12] at HO12 HB12 HC12 hcl12 ⊢
          rw [hb89] at HO12 ⊢
          have hbw89 : b89 < w12.heap.size := by rw [← hw12]; simp; omega
          clear hw12 hb89
          have hz12 : base ≤ w12.heap.size := Nat.le_trans hzz HB12.out.size
          clear hS0
          have hS0 : (fun W => W.cell? ⟨x, 1, none⟩ = some (.slice none 0 0)) w12 := (HX1.out.below HB12.out).c1
          refine hKK _ _ (fun _ => hS0) ?_
          clear hKK KK
          try simp only [Act.put, List.getElem_toArray, List.getElem_cons_zero, List.getElem_cons_succ, List.setIfInBounds_toArray, List.set_cons_zero, List.set_cons_succ]
          refine wpAnyG_ready (rs := [8]) (by kernel_rfl) (by simp) (AllReadyG.cons rfl (fun KK hKK => ?_) AllReadyG.nil)
          refine step_append_none rfl _ _ 43 rfl base 3 i3 1 HU.out HI.out _ (0) (([] : List Value)) rfl HO12.out rfl ?_
          refine hKK _ _ (fun _ => hS0) ?_
          clear hKK KK
          try simp only [Act.put, List.getElem_toArray, List.getElem_cons_zero, List.getElem_cons_succ, List.setIfInBounds_toArray, List.set_cons_zero, List.set_cons_succ]
          refine wpAnyG_ready (rs := [11]) (by kernel_rfl) (by simp) (AllReadyG.cons rfl (fun KK hKK => ?_) AllReadyG.nil)
          refine step_append_own rfl _ _ 43 rfl base 3 i3 (.int .i64 0) 1 8 HU.out HI.out HZ0.out HZ1.out HZ2.out rfl (by decide) _ (0) (([] : List Value)) rfl HO12.out ⟨b98, 0, none⟩ 1 1 ([Value.int .i64 (n : Int)]) rfl rfl (one_news HC12.out) (by simp [Value.oneCell']) (by have := cnt_le n T; unfold maxLen; omega) (by have := cnt_le n T; omega) hz12 ?_
          intro v99 w14 hown hg hnil
          have HB14 := Lib.hid (HB12.out.grown hg (Nat.le_trans (Nat.le_of_eq rfl) HB12.out.size) (fun k hk => Nat.le_trans hzB (ownsRow_block HO12.out k hk)))
          have HO14 := Lib.hid hown
          clear hown hg hnil
          have hz14 : base ≤ w14.heap.size := Nat.le_trans hzz HB14.out.size
          clear hS0
          have hS0 : (fun W => W.cell? ⟨x, 1, none⟩ = some (.slice none 0 0)) w14 := (HX1.out.below HB14.out).c1
          refine hKK _ _ (fun _ => hS0) ?_
          clear hKK KK
          try simp only [Act.put, List.getElem_toArray, List.getElem_cons_zero, List.getElem_cons_succ, List.setIfInBounds_toArray, List.set_cons_zero, List.set_cons_succ]
          refine wpAnyG_ready (rs := [18]) (by kernel_rfl) (by simp) (AllReadyG.cons rfl (fun KK hKK => ?_) AllReadyG.nil)
          refine step_append_none rfl _ _ 43 rfl base 3 i3 1 HU.out HI.out _ (0 + 1) (([] : List Value) ++ [Value.int .i64 (n : Int)]) rfl HO14.out rfl ?_
          refine hKK _ _ (fun _ => hS0) ?_
          clear hKK KK
          try simp only [Act.put, List.getElem_toArray, List.getElem_cons_zero, List.getElem_cons_succ, List.setIfInBounds_toArray, List.set_cons_zero, List.set_cons_succ]
          refine wpAnyG_pure (i := 19) (v := ?_) rfl (by kernel_rfl) (by kernel_rfl) (by kernel_rfl) (by kernel_rfl) (fun _ _ _ h => h) (Or.inl ⟨by rfl, ?_⟩) hS0 ?_
          rotate_left 1
          · intro W hW
            go_simp
            try with_reducible rfl
          simp only [Act.put, List.getElem_toArray, List.getElem_cons_zero, List.getElem_cons_succ, List.setIfInBounds_toArray, List.set_cons_zero, List.set_cons_succ]
          refine wpAnyG_pure (i := 20) (v := ?_) rfl (by kernel_rfl) (by kernel_rfl) (by kernel_rfl) (by kernel_rfl) (fun _ _ _ h => h) (Or.inl ⟨by rfl, ?_⟩) hS0 ?_
          rotate_left 1
          · intro W hW
            go_simp
            try with_reducible rfl
          simp only [Act.put, List.getElem_toArray, List.getElem_cons_zero, List.getElem_cons_succ, List.setIfInBounds_toArray, List.set_cons_zero, List.set_cons_succ]
          refine wpAnyG_ready (rs := [21]) (by kernel_rfl) (by simp) (AllReadyG.cons rfl (fun KK hKK => ?_) AllReadyG.nil)
          have hU : w14.ownsRow base 3 1 v99 (put n f T).length (keyV (put n f T)) := by
            have hh := HO14.out
            rw [HKV.out, HPL.out]
            have hcl := cnt_le n T
            obtain rfl : T = [] := HTN.out
            simpa [cnt, keyV, keys] using hh
          obtain ⟨av, cv, hvv⟩ := slice_form hU
          subst hvv
          have cc1 := (HX1.out.below HB14.out).c1
          have zz1 := (HX1.out.below HB14.out).z1
          go_simp
          have HRm := Lib.hid (Rm.of (HX1.out.below HB14.out) (HF1.out.below HB14.out hF1lt) hU hxb hz14 HVB.out hvbb h5x h5b)
          have HK16 : Hid (Kp w (w14.setCell ⟨x, 1, none⟩ (.slice av (put n f T).length cv)) x x) := (HK1.out.trans (Kp.of_below HB14.out x x)).setCell ⟨x, 1, none⟩ (.inl rfl) _
          obtain ⟨w16, hw16⟩ : ∃ q, w14.setCell ⟨x, 1, none⟩ (.slice av (put n f T).length cv) = q := ⟨_, rfl⟩
          rw [hw16] at HRm HK16 ⊢
          clear hw16 cc1 zz1 hU
          clear hS0
          refine hKK _ _ (fun h => absurd h (by decide)) ?_
          clear hKK KK
          try simp only [Act.put, List.getElem_toArray, List.getElem_cons_zero, List.getElem_cons_succ, List.setIfInBounds_toArray, List.set_cons_zero, List.set_cons_succ]
          refine wpAnyG_done (by kernel_rfl) ?_ _
          go_wp2_with fail
          go_meet
          case rel => exact ⟨_, HRm.out, HK16.out⟩
      case rest =>
        obtain ⟨va', hRm, hK⟩ := hcut
        have HX1 := Lib.hid hRm
        have HK2 := Lib.hid hK
        clear hRm hK HF1 HK1 HFi
        obtain ⟨w2, rfl⟩ : ∃ q, q = wc := ⟨wc, rfl⟩
        obtain ⟨base2, hbq2⟩ : ∃ b, w2.heap.size = b := ⟨_, rfl⟩
        have hbase2 := Lib.hid hbq2
        have hb12 : base ≤ base2 := by have := HX1.out.bw; omega
        clear hbq2
        go_upto_region 13 with fail
        go_cut [127] (fun _ wc => ∃ vb', Rx wc x l va' vb' (put n f T) co ∧ NF vb' (put n f T).length ∧ (∀ k, vb'.ownBlock = some k → base2 ≤ k) ∧ Kp w wc x x)
        case first =>
          refine wp_region_G (S := fun W => W.cell? ⟨x, 2, none⟩ = some (.slice none 0 0) ∧ Fl W b5 64 f) 21 (by kernel_rfl) ?_
          change wpAnyG _ _ _ _ _ _ _ _ _ (World.drew _)
          have HB0 := Lib.hid ((Below.refl w2.heap.size w2).drew)
          have hzz : base2 ≤ w2.heap.size := Nat.le_of_eq hbase2.out.symm
          have hzB : w2.heap.size ≤ base2 := Nat.le_of_eq hbase2.out
          obtain ⟨w10, hw10⟩ : ∃ q, World.drew w2 = q := ⟨_, rfl⟩
          rw [hw10] at HB0 ⊢
          clear hw10
          have HB10 := HB0
          clear HB0
          have hz10 : base2 ≤ w10.heap.size := Nat.le_trans hzz HB10.out.size
          have hS0 : (fun W => W.cell? ⟨x, 2, none⟩ = some (.slice none 0 0) ∧ Fl W b5 64 f) w10 := ⟨(HX1.out.below HB10.out).c2, (HX1.out.below HB10.out).fl⟩
          refine wpAnyG_pure (i := 0) (v := ?_) rfl (by kernel_rfl) (by kernel_rfl) (by kernel_rfl) (by kernel_rfl) (fun _ _ _ h => h) (Or.inl ⟨by rfl, ?_⟩) hS0 ?_
          rotate_left 1
          · intro W hW
            go_simp
            try with_reducible rfl
          simp only [Act.put, List.getElem_toArray, List.getElem_cons_zero, List.getElem_cons_succ, List.setIfInBounds_toArray, List.set_cons_zero, List.set_cons_succ]
          refine wpAnyG_pure (i := 2) (v := ?_) rfl (by kernel_rfl) (by kernel_rfl) (by kernel_rfl) (by kernel_rfl) (fun _ _ _ h => h) (Or.inl ⟨by rfl, ?_⟩) hS0 ?_
          rotate_left 1
          · intro W hW
            go_simp
            try with_reducible rfl
          simp only [Act.put, List.getElem_toArray, List.getElem_cons_zero, List.getElem_cons_succ, List.setIfInBounds_toArray, List.set_cons_zero, List.set_cons_succ]
          refine wpAnyG_pure (i := 3) (v := ?_) rfl (by kernel_rfl) (by kernel_rfl) (by kernel_rfl) (by kernel_rfl) (fun _ _ _ h => h) (Or.inl ⟨by rfl, ?_⟩) hS0 ?_
          rotate_left 1
          · intro W hW
            go_simp
            try with_reducible rfl
          simp only [Act.put, List.getElem_toArray, List.getElem_cons_zero, List.getElem_cons_succ, List.setIfInBounds_toArray, List.set_cons_zero, List.set_cons_succ]
          refine wpAnyG_pure (i := 4) (v := ?_) rfl (by kernel_rfl) (by kernel_rfl) (by kernel_rfl) (by kernel_rfl) (fun _ _ _ h => h) (Or.inl ⟨by rfl, ?_⟩) hS0 ?_
          rotate_left 1
          · intro W hW
            go_simp
            try with_reducible rfl
          simp only [Act.put, List.getElem_toArray, List.getElem_cons_zero, List.getElem_cons_succ, List.setIfInBounds_toArray, List.set_cons_zero, List.set_cons_succ]
          refine wpAnyG_take (i := 5) (v := ?_) rfl (by kernel_rfl) (by kernel_rfl) (by kernel_rfl) (by kernel_rfl) (by kernel_rfl) (fun _ _ _ h => h) (Or.inl ⟨by rfl, ?_⟩) hS0 ?_
          rotate_left 1
          · intro W hW
            have c2 := hW.1
            go_simp
            try with_reducible rfl
          simp only [Act.put, List.getElem_toArray, List.getElem_cons_zero, List.getElem_cons_succ, List.setIfInBounds_toArray, List.set_cons_zero, List.set_cons_succ]
          refine wpAnyG_pure (i := 6) (v := ?_) rfl (by kernel_rfl) (by kernel_rfl) (by kernel_rfl) (by kernel_rfl) (fun _ _ _ h => h) (Or.inl ⟨by rfl, ?_⟩) hS0 ?_
          rotate_left 1
          · intro W hW
            go_simp
            try with_reducible rfl
          simp only [Act.put, List.getElem_toArray, List.getElem_cons_zero, List.getElem_cons_succ, List.setIfInBounds_toArray, List.set_cons_zero, List.set_cons_succ]
          refine wpAnyG_pure (i := 7) (v := .slice none 0 0) rfl (by kernel_rfl) (by kernel_rfl) (by kernel_rfl) (by kernel_rfl) (fun _ _ _ h => h) ?_ hS0 ?_
          · exact yields_lo rfl 34 50 HU2.out _ _ rfl (.slice none 0 0) (.int .i64 ((cnt n T : Nat) : Int)) _ rfl rfl (fun W => (by rw [HCN.out]; exact sl_lo0 34 50 _ HU2.out HI2.out W))
          simp only [Act.put, List.getElem_toArray, List.getElem_cons_zero, List.getElem_cons_succ, List.setIfInBounds_toArray, List.set_cons_zero, List.set_cons_succ]
          refine wpAnyG_take (i := 9) (v := .agg (byts 64 f).toArray) rfl (by kernel_rfl) (by kernel_rfl) (by kernel_rfl) (by kernel_rfl) (by kernel_rfl) (fun _ _ _ h => h) ?_ hS0 ?_
          · exact yieldsIf_load_mid (by rfl) 50 _ rfl b5 0 rfl (byts 64 f) (.array 64 5) (fun _ h => h.2.range0) Try.arr36 rfl (size36 _)
          simp only [Act.put, List.getElem_toArray, List.getElem_cons_zero, List.getElem_cons_succ, List.setIfInBounds_toArray, List.set_cons_zero, List.set_cons_succ]
          refine wpAnyG_pure (i := 12) (v := ?_) rfl (by kernel_rfl) (by kernel_rfl) (by kernel_rfl) (by kernel_rfl) (fun _ _ _ h => h) (Or.inl ⟨by rfl, ?_⟩) hS0 ?_
          rotate_left 1
          · intro W hW
            go_simp
            try with_reducible rfl
          simp only [Act.put, List.getElem_toArray, List.getElem_cons_zero, List.getElem_cons_succ, List.setIfInBounds_toArray, List.set_cons_zero, List.set_cons_succ]
          refine wpAnyG_pure (i := 13) (v := ?_) rfl (by kernel_rfl) (by kernel_rfl) (by kernel_rfl) (by kernel_rfl) (fun _ _ _ h => h) (Or.inl ⟨by rfl, ?_⟩) hS0 ?_
          rotate_left 1
          · intro W hW
            go_simp
            try with_reducible rfl
          simp only [Act.put, List.getElem_toArray, List.getElem_cons_zero, List.getElem_cons_succ, List.setIfInBounds_toArray, List.set_cons_zero, List.set_cons_succ]
          refine wpAnyG_pure (i := 14) (v := ?_) rfl (by kernel_rfl) (by kernel_rfl) (by kernel_rfl) (by kernel_rfl) (fun _ _ _ h => h) (Or.inl ⟨by rfl, ?_⟩) hS0 ?_
          rotate_left 1
          · intro W hW
            go_simp
            try with_reducible rfl
          simp only [Act.put, List.getElem_toArray, List.getElem_cons_zero, List.getElem_cons_succ, List.setIfInBounds_toArray, List.set_cons_zero, List.set_cons_succ]
          refine wpAnyG_take (i := 15) (v := ?_) rfl (by kernel_rfl) (by kernel_rfl) (by kernel_rfl) (by kernel_rfl) (by kernel_rfl) (fun _ _ _ h => h) (Or.inl ⟨by rfl, ?_⟩) hS0 ?_
          rotate_left 1
          · intro W hW
            have c2 := hW.1
            go_simp
            try with_reducible rfl
          simp only [Act.put, List.getElem_toArray, List.getElem_cons_zero, List.getElem_cons_succ, List.setIfInBounds_toArray, List.set_cons_zero, List.set_cons_succ]
          refine wpAnyG_pure (i := 16) (v := ?_) rfl (by kernel_rfl) (by kernel_rfl) (by kernel_rfl) (by kernel_rfl) (fun _ _ _ h => h) (Or.inl ⟨by rfl, ?_⟩) hS0 ?_
          rotate_left 1
          · intro W hW
            go_simp
            try with_reducible rfl
          simp only [Act.put, List.getElem_toArray, List.getElem_cons_zero, List.getElem_cons_succ, List.setIfInBounds_toArray, List.set_cons_zero, List.set_cons_succ]
          refine wpAnyG_pure (i := 17) (v := .slice none 0 0) rfl (by kernel_rfl) (by kernel_rfl) (by kernel_rfl) (by kernel_rfl) (fun _ _ _ h => h) ?_ hS0 ?_
          · exact yields_hi rfl 34 50 HU2.out _ _ rfl (.slice none 0 0) (.int .i64 ((cnt n T : Nat) : Int)) _ rfl rfl (fun W => (by rw [HCN.out]; exact sl_hi0 34 50 _ HU2.out HI2.out W))
          simp only [Act.put, List.getElem_toArray, List.getElem_cons_zero, List.getElem_cons_succ, List.setIfInBounds_toArray, List.set_cons_zero, List.set_cons_succ]
          refine wpAnyG_ready (rs := [1, 10]) (by kernel_rfl) (by simp) (AllReadyG.cons rfl (fun KK hKK => ?_) (AllReadyG.cons rfl (fun KK hKK => ?_) AllReadyG.nil))
          · skip
            refine step_empty34 rfl rfl ?_
            have HO11 := Lib.hid (ownsRow_empty w10 base2 50 64 hz10)
            have HB11 := Lib.hid (HB10.out.alloc HB10.out.size (.cells #[] 50))
            obtain ⟨b89, hb89⟩ : ∃ b, w10.heap.size = b := ⟨_, rfl⟩
            have hbl89 : base2 ≤ b89 := by omega
            obtain ⟨w11, hw11⟩ : ∃ q, w10.alloc (.cells #[] 50) = q := ⟨_, rfl⟩
            rw [hw11] at HO11 HB11  ⊢
            rw [hb89] at HO11 ⊢
            have hbw89 : b89 < w11.heap.size := by rw [← hw11]; simp; omega
            clear hw11 hb89
            have hz11 : base2 ≤ w11.heap.size := Nat.le_trans hzz HB11.out.size
            clear hS0
            have hS0 : (fun W => W.cell? ⟨x, 2, none⟩ = some (.slice none 0 0) ∧ Fl W b5 64 f) w11 := ⟨(HX1.out.below HB11.out).c2, (HX1.out.below HB11.out).fl⟩
            refine hKK _ _ (fun _ => hS0) ?_
            clear hKK KK
            try simp only [Act.put, List.getElem_toArray, List.getElem_cons_zero, List.getElem_cons_succ, List.setIfInBounds_toArray, List.set_cons_zero, List.set_cons_succ]
            refine wpAnyG_ready (rs := [8, 10]) (by kernel_rfl) (by simp) (AllReadyG.cons rfl (fun KK hKK => ?_) (AllReadyG.cons rfl (fun KK hKK => ?_) AllReadyG.nil))
            · skip
              refine step_append_none rfl _ _ 34 rfl base2 50 i5 64 HU2.out HI2.out _ (0) (([] : List Value)) rfl HO11.out rfl ?_
              refine hKK _ _ (fun _ => hS0) ?_
              clear hKK KK
              try simp only [Act.put, List.getElem_toArray, List.getElem_cons_zero, List.getElem_cons_succ, List.setIfInBounds_toArray, List.set_cons_zero, List.set_cons_succ]
              refine wpAnyG_ready (rs := [10]) (by kernel_rfl) (by simp) (AllReadyG.cons rfl (fun KK hKK => ?_) AllReadyG.nil)
              refine step_slice1 rfl _ rfl f rfl ?_
              intro w13 HN13 hb13 hq13
              have HB13 := Lib.hid (HB11.out.trans (hb13.mono HB11.out.size))
              have HC13 := HN13
              have HO13 := Lib.hid (ownsRow_below HO11.out hb13)
              obtain ⟨b98, hb98⟩ : ∃ b, w11.heap.size = b := ⟨_, rfl⟩
              have hcl13 : b98 < w13.heap.size := by omega
              rw [hb98] at HC13 ⊢
              clear hb98 hb13 hq13 HN13
              have hz13 : base2 ≤ w13.heap.size := Nat.le_trans hzz HB13.out.size
              clear hS0
              have hS0 : (fun W => W.cell? ⟨x, 2, none⟩ = some (.slice none 0 0) ∧ Fl W b5 64 f) w13 := ⟨(HX1.out.below HB13.out).c2, (HX1.out.below HB13.out).fl⟩
              refine hKK _ _ (fun _ => hS0) ?_
              clear hKK KK
              try simp only [Act.put, List.getElem_toArray, List.getElem_cons_zero, List.getElem_cons_succ, List.setIfInBounds_toArray, List.set_cons_zero, List.set_cons_succ]
              refine wpAnyG_ready (rs := [11]) (by kernel_rfl) (by simp) (AllReadyG.cons rfl (fun KK hKK => ?_) AllReadyG.nil)
              refine step_append_own rfl _ _ 34 rfl base2 50 i5 _ 64 64 HU2.out HI2.out HY0.out HY1.out HY2.out (byts_size 64 _) (by decide) _ (0) (([] : List Value)) rfl HO13.out ⟨b98, 0, none⟩ 1 1 (byts 64 f) rfl (by rw [byts_len]) (fun j u hj => (by rw [Addr.add_mid, Nat.zero_add]; obtain ⟨hj1, hj2⟩ := byts_of hj; rw [hj2]; exact HC13.out.c j hj1)) (byts_one _ _) (by have := cnt_le n T; unfold maxLen; omega) (by have := cnt_le n T; omega) hz13 ?_
              intro v99 w14 hown hg hnil
              have HB14 := Lib.hid (HB13.out.grown hg (Nat.le_trans (Nat.le_of_eq rfl) HB13.out.size) (fun k hk => Nat.le_trans hzB (ownsRow_block HO13.out k hk)))
              have HO14 := Lib.hid hown
              clear hown hg hnil
              have hz14 : base2 ≤ w14.heap.size := Nat.le_trans hzz HB14.out.size
              clear hS0
              have hS0 : (fun W => W.cell? ⟨x, 2, none⟩ = some (.slice none 0 0) ∧ Fl W b5 64 f) w14 := ⟨(HX1.out.below HB14.out).c2, (HX1.out.below HB14.out).fl⟩
              refine hKK _ _ (fun _ => hS0) ?_
              clear hKK KK
              try simp only [Act.put, List.getElem_toArray, List.getElem_cons_zero, List.getElem_cons_succ, List.setIfInBounds_toArray, List.set_cons_zero, List.set_cons_succ]
              refine wpAnyG_ready (rs := [18]) (by kernel_rfl) (by simp) (AllReadyG.cons rfl (fun KK hKK => ?_) AllReadyG.nil)
              refine step_append_none rfl _ _ 34 rfl base2 50 i5 64 HU2.out HI2.out _ (0 + 1) (([] : List Value) ++ byts 64 f) rfl HO14.out rfl ?_
              refine hKK _ _ (fun _ => hS0) ?_
              clear hKK KK
              try simp only [Act.put, List.getElem_toArray, List.getElem_cons_zero, List.getElem_cons_succ, List.setIfInBounds_toArray, List.set_cons_zero, List.set_cons_succ]
              refine wpAnyG_pure (i := 19) (v := ?_) rfl (by kernel_rfl) (by kernel_rfl) (by kernel_rfl) (by kernel_rfl) (fun _ _ _ h => h) (Or.inl ⟨by rfl, ?_⟩) hS0 ?_
              rotate_left 1
              · intro W hW
                go_simp
                try with_reducible rfl
              simp only [Act.put, List.getElem_toArray, List.getElem_cons_zero, List.getElem_cons_succ, List.setIfInBounds_toArray, List.set_cons_zero, List.set_cons_succ]
              refine wpAnyG_pure (i := 20) (v := ?_) rfl (by kernel_rfl) (by kernel_rfl) (by kernel_rfl) (by kernel_rfl) (fun _ _ _ h => h) (Or.inl ⟨by rfl, ?_⟩) hS0 ?_
              rotate_left 1
              · intro W hW
                go_simp
                try with_reducible rfl
              simp only [Act.put, List.getElem_toArray, List.getElem_cons_zero, List.getElem_cons_succ, List.setIfInBounds_toArray, List.set_cons_zero, List.set_cons_succ]
              refine wpAnyG_ready (rs := [21]) (by kernel_rfl) (by simp) (AllReadyG.cons rfl (fun KK hKK => ?_) AllReadyG.nil)
              have hU : w14.ownsRow base2 50 64 v99 (put n f T).length (flatB (put n f T)) := by
                have hh := HO14.out
                rw [HFB.out, HPL.out]
                have hcl := cnt_le n T
                obtain rfl : T = [] := HTN.out
                simpa [cnt, flatB] using hh
              obtain ⟨av, cv, hvv⟩ := slice_form hU
              subst hvv
              have cc2 := (HX1.out.below HB14.out).c2
              have zz2 := (HX1.out.below HB14.out).z2
              go_simp
              have HRx := Lib.hid ((HX1.out.below HB14.out).done hU hb12)
              have HNb := Lib.hid (show NF (.slice av (put n f T).length cv) (put n f T).length from ownsRow_nf hU (by rw [HPL.out]; omega))
              have HVb' := Lib.hid (ownsRow_block hU)
              have HK16 : Hid (Kp w (w14.setCell ⟨x, 2, none⟩ (.slice av (put n f T).length cv)) x x) := (HK2.out.trans (Kp.of_below HB14.out x x)).setCell ⟨x, 2, none⟩ (.inl rfl) _
              obtain ⟨w16, hw16⟩ : ∃ q, w14.setCell ⟨x, 2, none⟩ (.slice av (put n f T).length cv) = q := ⟨_, rfl⟩
              rw [hw16] at HRx HK16 ⊢
              clear hw16 cc2 zz2 hU
              clear hS0
              refine hKK _ _ (fun h => absurd h (by decide)) ?_
              clear hKK KK
              try simp only [Act.put, List.getElem_toArray, List.getElem_cons_zero, List.getElem_cons_succ, List.setIfInBounds_toArray, List.set_cons_zero, List.set_cons_succ]
              refine wpAnyG_done (by kernel_rfl) ?_ _
              go_wp2_with fail
              go_meet
              case rel => exact ⟨_, HRx.out, HNb.out, HVb'.out, HK16.out⟩
            · skip
              refine step_slice1 rfl _ rfl f rfl ?_
              intro w12 HN12 hb12 hq12
              have HB12 := Lib.hid (HB11.out.trans (hb12.mono HB11.out.size))
              have HC12 := HN12
              have HO12 := Lib.hid (ownsRow_below HO11.out hb12)
              obtain ⟨b98, hb98⟩ : ∃ b, w11.heap.size = b := ⟨_, rfl⟩
              have hcl12 : b98 < w12.heap.size := by omega
              have hne : b98 ≠ b89 := by omega
              rw [hb98] at HC12 ⊢
              clear hb98 hb12 hq12 HN12
              have hz12 : base2 ≤ w12.heap.size := Nat.le_trans hzz HB12.out.size
              clear hS0
              have hS0 : (fun W => W.cell? ⟨x, 2, none⟩ = some (.slice none 0 0) ∧ Fl W b5 64 f) w12 := ⟨(HX1.out.below HB12.out).c2, (HX1.out.below HB12.out).fl⟩
              refine hKK _ _ (fun _ => hS0) ?_
              clear hKK KK
              try simp only [Act.put, List.getElem_toArray, List.getElem_cons_zero, List.getElem_cons_succ, List.setIfInBounds_toArray, List.set_cons_zero, List.set_cons_succ]
              refine wpAnyG_ready (rs := [8]) (by kernel_rfl) (by simp) (AllReadyG.cons rfl (fun KK hKK => ?_) AllReadyG.nil)
              refine step_append_none rfl _ _ 34 rfl base2 50 i5 64 HU2.out HI2.out _ (0) (([] : List Value)) rfl HO12.out rfl ?_
              refine hKK _ _ (fun _ => hS0) ?_
              clear hKK KK
              try simp only [Act.put, List.getElem_toArray, List.getElem_cons_zero, List.getElem_cons_succ, List.setIfInBounds_toArray, List.set_cons_zero, List.set_cons_succ]
              refine wpAnyG_ready (rs := [11]) (by kernel_rfl) (by simp) (AllReadyG.cons rfl (fun KK hKK => ?_) AllReadyG.nil)
              refine step_append_own rfl _ _ 34 rfl base2 50 i5 _ 64 64 HU2.out HI2.out HY0.out HY1.out HY2.out (byts_size 64 _) (by decide) _ (0) (([] : List Value)) rfl HO12.out ⟨b98, 0, none⟩ 1 1 (byts 64 f) rfl (by rw [byts_len]) (fun j u hj => (by rw [Addr.add_mid, Nat.zero_add]; obtain ⟨hj1, hj2⟩ := byts_of hj; rw [hj2]; exact HC12.out.c j hj1)) (byts_one _ _) (by have := cnt_le n T; unfold maxLen; omega) (by have := cnt_le n T; omega) hz12 ?_
              intro v99 w14 hown hg hnil
              have HB14 := Lib.hid (HB12.out.grown hg (Nat.le_trans (Nat.le_of_eq rfl) HB12.out.size) (fun k hk => Nat.le_trans hzB (ownsRow_block HO12.out k hk)))
              have HO14 := Lib.hid hown
              clear hown hg hnil
              have hz14 : base2 ≤ w14.heap.size := Nat.le_trans hzz HB14.out.size
              clear hS0
              have hS0 : (fun W => W.cell? ⟨x, 2, none⟩ = some (.slice none 0 0) ∧ Fl W b5 64 f) w14 := ⟨(HX1.out.below HB14.out).c2, (HX1.out.below HB14.out).fl⟩
              refine hKK _ _ (fun _ => hS0) ?_
              clear hKK KK
              try simp only [Act.put, List.getElem_toArray, List.getElem_cons_zero, List.getElem_cons_succ, List.setIfInBounds_toArray, List.set_cons_zero, List.set_cons_succ]
              refine wpAnyG_ready (rs := [18]) (by kernel_rfl) (by simp) (AllReadyG.cons rfl (fun KK hKK => ?_) AllReadyG.nil)
              refine step_append_none rfl _ _ 34 rfl base2 50 i5 64 HU2.out HI2.out _ (0 + 1) (([] : List Value) ++ byts 64 f) rfl HO14.out rfl ?_
              refine hKK _ _ (fun _ => hS0) ?_
              clear hKK KK
              try simp only [Act.put, List.getElem_toArray, List.getElem_cons_zero, List.getElem_cons_succ, List.setIfInBounds_toArray, List.set_cons_zero, List.set_cons_succ]
              refine wpAnyG_pure (i := 19) (v := ?_) rfl (by kernel_rfl) (by kernel_rfl) (by kernel_rfl) (by kernel_rfl) (fun _ _ _ h => h) (Or.inl ⟨by rfl, ?_⟩) hS0 ?_
              rotate_left 1
              · intro W hW
                go_simp
                try with_reducible rfl
              simp only [Act.put, List.getElem_toArray, List.getElem_cons_zero, List.getElem_cons_succ, List.setIfInBounds_toArray, List.set_cons_zero, List.set_cons_succ]
              refine wpAnyG_pure (i := 20) (v := ?_) rfl (by kernel_rfl) (by kernel_rfl) (by kernel_rfl) (by kernel_rfl) (fun _ _ _ h => h) (Or.inl ⟨by rfl, ?_⟩) hS0 ?_
              rotate_left 1
              · intro W hW
                go_simp
                try with_reducible rfl
              simp only [Act.put, List.getElem_toArray, List.getElem_cons_zero, List.getElem_cons_succ, List.setIfInBounds_toArray, List.set_cons_zero, List.set_cons_succ]
              refine wpAnyG_ready (rs := [21]) (by kernel_rfl) (by simp) (AllReadyG.cons rfl (fun KK hKK => ?_) AllReadyG.nil)
              have hU : w14.ownsRow base2 50 64 v99 (put n f T).length (flatB (put n f T)) := by
                have hh := HO14.out
                rw [HFB.out, HPL.out]
                have hcl := cnt_le n T
                obtain rfl : T = [] := HTN.out
                simpa [cnt, flatB] using hh
              obtain ⟨av, cv, hvv⟩ := slice_form hU
              subst hvv
              have cc2 := (HX1.out.below HB14.out).c2
              have zz2 := (HX1.out.below HB14.out).z2
              go_simp
              have HRx := Lib.hid ((HX1.out.below HB14.out).done hU hb12)
              have HNb := Lib.hid (show NF (.slice av (put n f T).length cv) (put n f T).length from ownsRow_nf hU (by rw [HPL.out]; omega))
              have HVb' := Lib.hid (ownsRow_block hU)
              have HK16 : Hid (Kp w (w14.setCell ⟨x, 2, none⟩ (.slice av (put n f T).length cv)) x x) := (HK2.out.trans (Kp.of_below HB14.out x x)).setCell ⟨x, 2, none⟩ (.inl rfl) _
              obtain ⟨w16, hw16⟩ : ∃ q, w14.setCell ⟨x, 2, none⟩ (.slice av (put n f T).length cv) = q := ⟨_, rfl⟩
              rw [hw16] at HRx HK16 ⊢
              clear hw16 cc2 zz2 hU
              clear hS0
              refine hKK _ _ (fun h => absurd h (by decide)) ?_
              clear hKK KK
              try simp only [Act.put, List.getElem_toArray, List.getElem_cons_zero, List.getElem_cons_succ, List.setIfInBounds_toArray, List.set_cons_zero, List.set_cons_succ]
              refine wpAnyG_done (by kernel_rfl) ?_ _
              go_wp2_with fail
              go_meet
              case rel => exact ⟨_, HRx.out, HNb.out, HVb'.out, HK16.out⟩
          · skip
            refine step_slice1 rfl _ rfl f rfl ?_
            intro w11 HN11 hb11 hq11
            have HB11 := Lib.hid (HB10.out.trans (hb11.mono HB10.out.size))
            have HC11 := HN11
            obtain ⟨b98, hb98⟩ : ∃ b, w10.heap.size = b := ⟨_, rfl⟩
            have hcl11 : b98 < w11.heap.size := by omega
            rw [hb98] at HC11 ⊢
            clear hb98 hb11 hq11 HN11
            have hz11 : base2 ≤ w11.heap.size := Nat.le_trans hzz HB11.out.size
            clear hS0
            have hS0 : (fun W => W.cell? ⟨x, 2, none⟩ = some (.slice none 0 0) ∧ Fl W b5 64 f) w11 := ⟨(HX1.out.below HB11.out).c2, (HX1.out.below HB11.out).fl⟩
            refine hKK _ _ (fun _ => hS0) ?_
            clear hKK KK
            try simp only [Act.put, List.getElem_toArray, List.getElem_cons_zero, List.getElem_cons_succ, List.setIfInBounds_toArray, List.set_cons_zero, List.set_cons_succ]
            refine wpAnyG_ready (rs := [1]) (by kernel_rfl) (by simp) (AllReadyG.cons rfl (fun KK hKK => ?_) AllReadyG.nil)
            refine step_empty34 rfl rfl ?_
            have HO12 := Lib.hid (ownsRow_empty w11 base2 50 64 hz11)
            have HB12 := Lib.hid (HB11.out.alloc HB11.out.size (.cells #[] 50))
            have HC12 := Lib.hid (HC11.out.below ((Below.refl w11.heap.size w11).alloc (Nat.le_refl _) (.cells #[] 50)) hcl11)
            obtain ⟨b89, hb89⟩ : ∃ b, w11.heap.size = b := ⟨_, rfl⟩
            have hbl89 : base2 ≤ b89 := by omega
            have hne : b98 ≠ b89 := by omega
            have hcl12 : b98 < (w11.alloc (.cells #[] 50)).heap.size := by simp; omega
            obtain ⟨w12, hw12⟩ : ∃ q, w11.alloc (.cells #[] 50) = q := ⟨_, rfl⟩
            rw [hw12] at HO12 HB12 HC12 hcl12 ⊢
            rw [hb89] at HO12 ⊢
            have hbw89 : b89 < w12.heap.size := by rw [← hw12]; simp; omega
            clear hw12 hb89
            have hz12 : base2 ≤ w12.heap.size := Nat.le_trans hzz HB12.out.size
            clear hS0
            have hS0 : (fun W => W.cell? ⟨x, 2, none⟩ = some (.slice none 0 0) ∧ Fl W b5 64 f) w12 := ⟨(HX1.out.below HB12.out).c2, (HX1.out.below HB12.out).fl⟩
            refine hKK _ _ (fun _ => hS0) ?_
            clear hKK KK
            try simp only [Act.put, List.getElem_toArray, List.getElem_cons_zero, List.getElem_cons_succ, List.setIfInBounds_toArray, List.set_cons_zero, List.set_cons_succ]
            refine wpAnyG_ready (rs := [8]) (by kernel_rfl) (by simp) (AllReadyG.cons rfl (fun KK hKK => ?_) AllReadyG.nil)
            refine step_append_none rfl _ _ 34 rfl base2 50 i5 64 HU2.out HI2.out _ (0) (([] : List Value)) rfl HO12.out rfl ?_
            refine hKK _ _ (fun _ => hS0) ?_
            clear hKK KK
            try simp only [Act.put, List.getElem_toArray, List.getElem_cons_zero, List.getElem_cons_succ, List.setIfInBounds_toArray, List.set_cons_zero, List.set_cons_succ]
            refine wpAnyG_ready (rs := [11]) (by kernel_rfl) (by simp) (AllReadyG.cons rfl (fun KK hKK => ?_) AllReadyG.nil)
            refine step_append_own rfl _ _ 34 rfl base2 50 i5 _ 64 64 HU2.out HI2.out HY0.out HY1.out HY2.out (byts_size 64 _) (by decide) _ (0) (([] : List Value)) rfl HO12.out ⟨b98, 0, none⟩ 1 1 (byts 64 f) rfl (by rw [byts_len]) (fun j u hj => (by rw [Addr.add_mid, Nat.zero_add]; obtain ⟨hj1, hj2⟩ := byts_of hj; rw [hj2]; exact HC12.out.c j hj1)) (byts_one _ _) (by have := cnt_le n T; unfold maxLen; omega) (by have := cnt_le n T; omega) hz12 ?_
            intro v99 w14 hown hg hnil
            have HB14 := Lib.hid (HB12.out.grown hg (Nat.le_trans (Nat.le_of_eq rfl) HB12.out.size) (fun k hk => Nat.le_trans hzB (ownsRow_block HO12.out k hk)))
            have HO14 := Lib.hid hown
            clear hown hg hnil
            have hz14 : base2 ≤ w14.heap.size := Nat.le_trans hzz HB14.out.size
            clear hS0
            have hS0 : (fun W => W.cell? ⟨x, 2, none⟩ = some (.slice none 0 0) ∧ Fl W b5 64 f) w14 := ⟨(HX1.out.below HB14.out).c2, (HX1.out.below HB14.out).fl⟩
            refine hKK _ _ (fun _ => hS0) ?_
            clear hKK KK
            try simp only [Act.put, List.getElem_toArray, List.getElem_cons_zero, List.getElem_cons_succ, List.setIfInBounds_toArray, List.set_cons_zero, List.set_cons_succ]
            refine wpAnyG_ready (rs := [18]) (by kernel_rfl) (by simp) (AllReadyG.cons rfl (fun KK hKK => ?_) AllReadyG.nil)
            refine step_append_none rfl _ _ 34 rfl base2 50 i5 64 HU2.out HI2.out _ (0 + 1) (([] : List Value) ++ byts 64 f) rfl HO14.out rfl ?_
            refine hKK _ _ (fun _ => hS0) ?_
            clear hKK KK
            try simp only [Act.put, List.getElem_toArray, List.getElem_cons_zero, List.getElem_cons_succ, List.setIfInBounds_toArray, List.set_cons_zero, List.set_cons_succ]
            refine wpAnyG_pure (i := 19) (v := ?_) rfl (by kernel_rfl) (by kernel_rfl) (by kernel_rfl) (by kernel_rfl) (fun _ _ _ h => h) (Or.inl ⟨by rfl, ?_⟩) hS0 ?_
            rotate_left 1
            · intro W hW
              go_simp
              try with_reducible rfl
            simp only [Act.put, List.getElem_toArray, List.getElem_cons_zero, List.getElem_cons_succ, List.setIfInBounds_toArray, List.set_cons_zero, List.set_cons_succ]
            refine wpAnyG_pure (i := 20) (v := ?_) rfl (by kernel_rfl) (by kernel_rfl) (by kernel_rfl) (by kernel_rfl) (fun _ _ _ h => h) (Or.inl ⟨by rfl, ?_⟩) hS0 ?_
            rotate_left 1
            · intro W hW
              go_simp
              try with_reducible rfl
            simp only [Act.put, List.getElem_toArray, List.getElem_cons_zero, List.getElem_cons_succ, List.setIfInBounds_toArray, List.set_cons_zero, List.set_cons_succ]
            refine wpAnyG_ready (rs := [21]) (by kernel_rfl) (by simp) (AllReadyG.cons rfl (fun KK hKK => ?_) AllReadyG.nil)
            have hU : w14.ownsRow base2 50 64 v99 (put n f T).length (flatB (put n f T)) := by
              have hh := HO14.out
              rw [HFB.out, HPL.out]
              have hcl := cnt_le n T
              obtain rfl : T = [] := HTN.out
              simpa [cnt, flatB] using hh
            obtain ⟨av, cv, hvv⟩ := slice_form hU
            subst hvv
            have cc2 := (HX1.out.below HB14.out).c2
            have zz2 := (HX1.out.below HB14.out).z2
            go_simp
            have HRx := Lib.hid ((HX1.out.below HB14.out).done hU hb12)
            have HNb := Lib.hid (show NF (.slice av (put n f T).length cv) (put n f T).length from ownsRow_nf hU (by rw [HPL.out]; omega))
            have HVb' := Lib.hid (ownsRow_block hU)
            have HK16 : Hid (Kp w (w14.setCell ⟨x, 2, none⟩ (.slice av (put n f T).length cv)) x x) := (HK2.out.trans (Kp.of_below HB14.out x x)).setCell ⟨x, 2, none⟩ (.inl rfl) _
            obtain ⟨w16, hw16⟩ : ∃ q, w14.setCell ⟨x, 2, none⟩ (.slice av (put n f T).length cv) = q := ⟨_, rfl⟩
            rw [hw16] at HRx HK16 ⊢
            clear hw16 cc2 zz2 hU
            clear hS0
            refine hKK _ _ (fun h => absurd h (by decide)) ?_
            clear hKK KK
            try simp only [Act.put, List.getElem_toArray, List.getElem_cons_zero, List.getElem_cons_succ, List.setIfInBounds_toArray, List.set_cons_zero, List.set_cons_succ]
            refine wpAnyG_done (by kernel_rfl) ?_ _
            go_wp2_with fail
            go_meet
            case rel => exact ⟨_, HRx.out, HNb.out, HVb'.out, HK16.out⟩
        case rest =>
          obtain ⟨vb', hRx, hNb, hVb, hK3⟩ := hcut
          have HR := Lib.hid hRx
          have HN := Lib.hid hNb
          have HV := Lib.hid hVb
          have HK3 := Lib.hid hK3
          clear hRx hNb hVb hK3
          go_wp2_with fail
          go_ret
          refine ⟨rfl, va', vb', HR.out, ownsRow_nf HX1.out.row (by rw [HPL.out]; omega), HN.out, fun k hk => ?_, fun k hk => ⟨?_, fun j hj => ?_⟩, HK3.out⟩
          · have := ownsRow_block HX1.out.row k hk; omega
          · have := HV.out k hk; omega
          · have h1 := HV.out k hk
            have h2 := (HX1.out.row.lt j hj).2
            have h3 := hbase2.out
            omega
end Go.Proofs.Ytlbfdmiihnlljaa
