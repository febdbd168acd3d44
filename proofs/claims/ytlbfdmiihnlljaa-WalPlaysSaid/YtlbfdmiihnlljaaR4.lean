import Derived.Test.YtlbfdmiihnlljaaR3
/- The answer's install. -/
namespace Go.Proofs.Ytlbfdmiihnlljaa
set_option linter.unusedSimpArgs false
set_option linter.unusedVariables false
open Go.RowKit Go.Maps

theorem rwrite_any (d g : Nat) (s : DS) (b : Nat → Int) (x N k : Nat) (hx : x < N) (hN : N ≤ 65536) (hk : k < 900000) (hs : Sane s N k) (w : World) (h : Rk w d g s) :
    Calls Try.prog 42 #[.pointer (some ⟨d, 0, none⟩), .int .i64 x, .agg (byts 64 b).toArray] w fun e w' => e = .returned (.int .i64 (s.write x b).1) ∧ Rk w' d g (s.write x b).2 ∧ Kp w w' d g :=
  rwrite_in d g s b x (by rw [hs.n]; exact hx) (by rw [hs.n]; exact hN) hs.w0 (by have := hs.w1; omega) hs.l0 hs.l1 w h
theorem rread_any (d g : Nat) (s : DS) (x N k : Nat) (hx : x < N) (hN : N ≤ 65536) (hk : k < 900000) (hs : Sane s N k) (w : World) (h : Rk w d g s) :
    Calls Try.prog 39 #[.pointer (some ⟨d, 0, none⟩), .int .i64 x] w fun e w' => e = .returned (.tuple #[.agg (byts 64 (s.blk x)).toArray, .int .i64 0]) ∧ Rk w' d g s.rdd ∧ Kp w w' d g :=
  rread_in d g s x (by rw [hs.n]; exact hx) (by rw [hs.n]; exact hN) hs.r0 (by have := hs.r1; omega) w h

set_option maxHeartbeats 40000000 in
set_option maxRecDepth 2000000 in
theorem rinstall_any (l d g fi N K : Nat) (s : DS) (v : Value) (ts : List Nat) (h30 : ts.length ≤ 30) (hts : ∀ t ∈ ts, t < N) (hf : fi + 31 ≤ N) (hN : N ≤ 65536) (hK : K < 800000) (hs : Sane s N K) (w : World) (hl : Lg w l d fi) (hd : Rk w d g s) (hv : Ns w v ts) (hld : l ≠ d) (hlg : l ≠ g) (hvo : Ns.off v d g) :
    Calls Try.prog 43 #[.pointer (some ⟨l, 0, none⟩), v] w fun e w' => e = .returned (.int .i64 (install fi ts s).1) ∧ Rk w' d g (install fi ts s).2 ∧ Kp w w' d g := by
  obtain ⟨a, cap, rfl, hm⟩ := hv.form
  unfold maxLen at hm
  have HV := Lib.hid hv
  have HL := Lib.hid hl
  have HD := Lib.hid hd
  have HS := Lib.hid hs
  have HT := Lib.hid hts
  have hg0 := hd.fl.lt
  have hd0 := hd.lt
  have hl0 := hl.lt
  clear hv hl hd hs hts
  obtain ⟨R, hR⟩ : ∃ R, install fi ts s = R := ⟨_, rfl⟩
  have HRq := Lib.hid hR
  rw [hR]
  obtain ⟨I, hI⟩ : ∃ I, inst fi 0 ts s = I := ⟨_, rfl⟩
  have HI := Lib.hid hI
  have HIN : Hid (R = if ts = [] then (0, s) else if I.1 = 0 then I.2.write fi (headF []) else I) := by
    show R = _
    rw [← hR, ← hI]
    rfl
  clear hR hI
  go_enter Try.func43, Try.ntmps43
  go_wp2
  go_loopw [5, 6, 7, 8] (fun i _ _ _ wr => ∃ (k : Nat) (s1 : DS), k ≤ ts.length ∧ i = .int .i64 k ∧ inst fi k (ts.drop k) s1 = I ∧ Sane s1 N (K + 2 * k) ∧ Rk wr d g s1 ∧ Kp w wr d g ∧ (k = 0 → s1 = s)) (fun i _ _ _ _ => ts.length - (Go.RowKit.intOf i).toNat)
  case atStart => exact ⟨0, s, by omega, rfl, by rw [List.drop_zero]; exact HI.out, HS.out, HD.out, Kp.refl _ _ _, fun _ => rfl⟩
  case round =>
    obtain ⟨k, s1, hk, rfl, hIk, hSk, hDk, hKk, hz1⟩ := hrel
    have HIk := Lib.hid hIk
    have HSk := Lib.hid hSk
    have HDk := Lib.hid hDk
    have HKk := Lib.hid hKk
    have HZ1 := Lib.hid hz1
    have hk0 : (0 : Int) ≤ k := by omega
    have hzr := hKk.size
    clear hIk hSk hDk hKk hz1
    obtain ⟨wX, rfl⟩ : ∃ x, x = wr := ⟨wr, rfl⟩
    have HLX := Lib.hid (HL.out.kp HKk.out hld hlg)
    have hdX := HDk.out.lt
    have hgX := HDk.out.fl.lt
    have hlX : l < wX.heap.size := by omega
    by_cases hlt : k < ts.length
    · have hkk : (k : Int) < ts.length := by omega
      have HSt : Hid (inst fi k (ts.drop k) s1 = if (s1.rdd.write ts[k] (s1.blk (fi + 1 + k))).1 = 0 then inst fi (k + 1) (ts.drop (k + 1)) (s1.rdd.write ts[k] (s1.blk (fi + 1 + k))).2 else s1.rdd.write ts[k] (s1.blk (fi + 1 + k))) := by
        show inst fi k (ts.drop k) s1 = _
        rw [List.drop_eq_getElem_cons hlt]
        rfl
      obtain ⟨b, off, rfl, hbl, hbc⟩ := HV.out.at k hlt
      obtain ⟨hob1, hob2⟩ := hvo b rfl
      have HTk := Lib.hid (HT.out ts[k] (List.getElem_mem hlt))
      have HVl := Lib.hid hvo
      have HBc := Lib.hid hbc
      clear hbc hvo
      generalize ts[k] = t at *
      have HAa : Hid (IntKind.i64.wrap ((fi : Int) + 1) = (fi : Int) + 1) := IntWalk.i64_in _ (by omega)
      have HAb : Hid (IntKind.i64.wrap ((fi : Int) + 1 + (k : Int)) = (fi : Int) + 1 + (k : Int)) := IntWalk.i64_in _ (by omega)
      have hwa := HAa.out
      have hwb := HAb.out
      go_upto_region 4 with fail
      have hfk : fi + 1 + k < N := by omega
      have hKb : K + 2 * k < 900000 := by omega
      obtain ⟨V, hV⟩ : ∃ V, s1.blk (fi + 1 + k) = V := ⟨_, rfl⟩
      have HR : Hid (∀ W, Rk W d g s1 → Calls Try.prog 39 #[.pointer (some ⟨d, 0, none⟩), .int .i64 ((fi : Int) + 1 + (k : Int))] W fun e w' => e = .returned (.tuple #[.agg (byts 64 V).toArray, .int .i64 0]) ∧ Rk w' d g s1.rdd ∧ Kp W w' d g) := fun W h => by
        have := rread_any d g s1 (fi + 1 + k) N (K + 2 * k) hfk hN hKb HSk.out W h
        rwa [hV, show ((fi + 1 + k : Nat) : Int) = (fi : Int) + 1 + (k : Int) by omega] at this
      have hVb : Byt V := by rw [← hV]; exact HSk.out.blk _
      have HVb := Lib.hid hVb
      rw [hV] at HSt
      clear hV hVb
      go_cut [6, 7] (fun x y wc => ∃ b, x = .pointer (some ⟨b, 0, none⟩) ∧ y = .int .i64 0 ∧ wX.heap.size ≤ b ∧ Fl wc b 64 V ∧ Rk wc d g s1.rdd ∧ Kp wX wc d g)
      case first =>
        refine wp_region_held (S := fun W => Lg W l d fi) (by kernel_rfl) ?_
        change wpAnyH _ _ _ _ _ _ _ _ (World.drew _)
        have hS0 : Lg wX.drew l d fi := HLX.out.keep (Below.refl _ _).drew
        have HL0 := Lib.hid hS0
        have HD0 := Lib.hid (HDk.out.keep (Below.refl _ _).drew)
        have HK0 := Lib.hid (Kp.refl wX d g).drew
        have hz0 : wX.heap.size ≤ wX.drew.heap.size := Nat.le_refl _
        obtain ⟨w0, hw0⟩ : ∃ x, World.drew wX = x := ⟨_, rfl⟩
        rw [hw0] at hS0 HL0 HD0 HK0 hz0 ⊢
        clear hw0
        refine wpAnyH_take (i := 0) (v := ?_) rfl (by kernel_rfl) (by kernel_rfl) (by kernel_rfl) (fun _ _ _ h => h) (Or.inl ⟨by rfl, ?_⟩) hS0 ?_
        rotate_left 1
        · intro W hW
          go_simp
          try with_reducible rfl
        simp only [Act.put, List.getElem_toArray, List.getElem_cons_zero, List.getElem_cons_succ, List.setIfInBounds_toArray, List.set_cons_zero, List.set_cons_succ]
        refine wpAnyH_take (i := 1) (v := ?_) rfl (by kernel_rfl) (by kernel_rfl) (by kernel_rfl) (fun _ _ _ h => h) (Or.inl ⟨by rfl, ?_⟩) hS0 ?_
        rotate_left 1
        · intro W hW
          go_simp
          try with_reducible rfl
        simp only [Act.put, List.getElem_toArray, List.getElem_cons_zero, List.getElem_cons_succ, List.setIfInBounds_toArray, List.set_cons_zero, List.set_cons_succ]
        refine wpAnyH_take (i := 2) (v := ?_) rfl (by kernel_rfl) (by kernel_rfl) (by kernel_rfl) (fun _ _ _ h => h) (Or.inl ⟨by rfl, ?_⟩) hS0 ?_
        rotate_left 1
        · intro W hW
          go_simp
          try with_reducible rfl
        simp only [Act.put, List.getElem_toArray, List.getElem_cons_zero, List.getElem_cons_succ, List.setIfInBounds_toArray, List.set_cons_zero, List.set_cons_succ]
        refine wpAnyH_take (i := 3) (v := ?_) rfl (by kernel_rfl) (by kernel_rfl) (by kernel_rfl) (fun _ _ _ h => h) (Or.inl ⟨by rfl, ?_⟩) hS0 ?_
        rotate_left 1
        · intro W hW
          have c0 := hW.c0
          go_simp
          try with_reducible rfl
        simp only [Act.put, List.getElem_toArray, List.getElem_cons_zero, List.getElem_cons_succ, List.setIfInBounds_toArray, List.set_cons_zero, List.set_cons_succ]
        refine wpAnyH_take (i := 4) (v := ?_) rfl (by kernel_rfl) (by kernel_rfl) (by kernel_rfl) (fun _ _ _ h => h) (Or.inl ⟨by rfl, ?_⟩) hS0 ?_
        rotate_left 1
        · intro W hW
          go_simp
          try with_reducible rfl
        simp only [Act.put, List.getElem_toArray, List.getElem_cons_zero, List.getElem_cons_succ, List.setIfInBounds_toArray, List.set_cons_zero, List.set_cons_succ]
        refine wpAnyH_take (i := 5) (v := ?_) rfl (by kernel_rfl) (by kernel_rfl) (by kernel_rfl) (fun _ _ _ h => h) (Or.inl ⟨by rfl, ?_⟩) hS0 ?_
        rotate_left 1
        · intro W hW
          go_simp
          try with_reducible rfl
        simp only [Act.put, List.getElem_toArray, List.getElem_cons_zero, List.getElem_cons_succ, List.setIfInBounds_toArray, List.set_cons_zero, List.set_cons_succ]
        refine wpAnyH_take (i := 6) (v := ?_) rfl (by kernel_rfl) (by kernel_rfl) (by kernel_rfl) (fun _ _ _ h => h) (Or.inl ⟨by rfl, ?_⟩) hS0 ?_
        rotate_left 1
        · intro W hW
          go_simp
          try with_reducible rfl
        simp only [Act.put, List.getElem_toArray, List.getElem_cons_zero, List.getElem_cons_succ, List.setIfInBounds_toArray, List.set_cons_zero, List.set_cons_succ]
        refine wpAnyH_take (i := 7) (v := ?_) rfl (by kernel_rfl) (by kernel_rfl) (by kernel_rfl) (fun _ _ _ h => h) (Or.inl ⟨by rfl, ?_⟩) hS0 ?_
        rotate_left 1
        · intro W hW
          have c1 := hW.c1
          go_simp
          try with_reducible rfl
        simp only [Act.put, List.getElem_toArray, List.getElem_cons_zero, List.getElem_cons_succ, List.setIfInBounds_toArray, List.set_cons_zero, List.set_cons_succ]
        refine wpAnyH_take (i := 8) (v := ?_) rfl (by kernel_rfl) (by kernel_rfl) (by kernel_rfl) (fun _ _ _ h => h) (Or.inl ⟨by rfl, ?_⟩) hS0 ?_
        rotate_left 1
        · intro W hW
          go_simp
          try with_reducible rfl
        simp only [Act.put, List.getElem_toArray, List.getElem_cons_zero, List.getElem_cons_succ, List.setIfInBounds_toArray, List.set_cons_zero, List.set_cons_succ]
        refine wpAnyH_take (i := 9) (v := ?_) rfl (by kernel_rfl) (by kernel_rfl) (by kernel_rfl) (fun _ _ _ h => h) (Or.inl ⟨by rfl, ?_⟩) hS0 ?_
        rotate_left 1
        · intro W hW
          go_simp
          try with_reducible rfl
        simp only [Act.put, List.getElem_toArray, List.getElem_cons_zero, List.getElem_cons_succ, List.setIfInBounds_toArray, List.set_cons_zero, List.set_cons_succ]
        refine wpAnyH_take (i := 10) (v := ?_) rfl (by kernel_rfl) (by kernel_rfl) (by kernel_rfl) (fun _ _ _ h => h) (Or.inl ⟨by rfl, ?_⟩) hS0 ?_
        rotate_left 1
        · intro W hW
          go_simp
          try with_reducible rfl
        simp only [Act.put, List.getElem_toArray, List.getElem_cons_zero, List.getElem_cons_succ, List.setIfInBounds_toArray, List.set_cons_zero, List.set_cons_succ]
        refine wpAnyH_ready (rs := [11, 15]) (by kernel_rfl) (by simp) (AllReadyH.cons rfl (fun KK hKK => ?_) (AllReadyH.cons rfl (fun KK hKK => ?_) AllReadyH.nil))
        · skip
          go_simp
          refine (HR.out w0 HD0.out).mono ?_
          rintro e w1 ⟨rfl, hD1, hk1⟩
          have HD1 := Lib.hid hD1
          have HL1 := Lib.hid (HL0.out.kp hk1 hld hlg)
          have HK1 := Lib.hid (HK0.out.trans hk1)
          have hz1 : wX.heap.size ≤ w1.heap.size := HK1.out.size
          clear hS0
          have hS0 : Lg w1 l d fi := HL1.out
          refine hKK _ _ hS0 ?_
          intro _
          clear hKK KK hD1 hk1
          try simp only [Act.put, List.getElem_toArray, List.getElem_cons_zero, List.getElem_cons_succ, List.setIfInBounds_toArray, List.set_cons_zero, List.set_cons_succ]
          refine wpAnyH_take (i := 12) (v := ?_) rfl (by kernel_rfl) (by kernel_rfl) (by kernel_rfl) (fun _ _ _ h => h) (Or.inl ⟨by rfl, ?_⟩) hS0 ?_
          rotate_left 1
          · intro W hW
            go_simp
            try with_reducible rfl
          simp only [Act.put, List.getElem_toArray, List.getElem_cons_zero, List.getElem_cons_succ, List.setIfInBounds_toArray, List.set_cons_zero, List.set_cons_succ]
          refine wpAnyH_take (i := 13) (v := ?_) rfl (by kernel_rfl) (by kernel_rfl) (by kernel_rfl) (fun _ _ _ h => h) (Or.inl ⟨by rfl, ?_⟩) hS0 ?_
          rotate_left 1
          · intro W hW
            go_simp
            try with_reducible rfl
          simp only [Act.put, List.getElem_toArray, List.getElem_cons_zero, List.getElem_cons_succ, List.setIfInBounds_toArray, List.set_cons_zero, List.set_cons_succ]
          refine wpAnyH_take (i := 14) (v := ?_) rfl (by kernel_rfl) (by kernel_rfl) (by kernel_rfl) (fun _ _ _ h => h) (Or.inl ⟨by rfl, ?_⟩) hS0 ?_
          rotate_left 1
          · intro W hW
            go_simp
            try with_reducible rfl
          simp only [Act.put, List.getElem_toArray, List.getElem_cons_zero, List.getElem_cons_succ, List.setIfInBounds_toArray, List.set_cons_zero, List.set_cons_succ]
          refine wpAnyH_ready (rs := [15]) (by kernel_rfl) (by simp) (AllReadyH.cons rfl (fun KK hKK => ?_) AllReadyH.nil)
          refine step_alloc_byts rfl 50 64 rfl Try.zero36 ?_
          intro w2 HF2 hb2 hq2
          obtain ⟨b9, hb9⟩ : ∃ b9, w1.heap.size = b9 := ⟨_, rfl⟩
          have HD2 := Lib.hid (HD1.out.keep hb2)
          have HL2 := Lib.hid (HL1.out.keep hb2)
          have HK2 := Lib.hid (HK1.out.trans (Kp.of_below hb2 d g))
          have hz2 : wX.heap.size ≤ w2.heap.size := HK2.out.size
          rw [hb9] at HF2 hq2 hz1 ⊢
          clear hS0
          have hS0 : Lg w2 l d fi := HL2.out
          refine hKK _ _ hS0 ?_
          intro _
          clear hKK KK hb2 hb9 hq2
          try simp only [Act.put, List.getElem_toArray, List.getElem_cons_zero, List.getElem_cons_succ, List.setIfInBounds_toArray, List.set_cons_zero, List.set_cons_succ]
          refine wpAnyH_ready (rs := [16]) (by kernel_rfl) (by simp) (AllReadyH.cons rfl (fun KK hKK => ?_) AllReadyH.nil)
          refine step_store_mid rfl 50 _ _ rfl b9 0 (byts 64 V).toArray rfl rfl (by rw [byts_size]; exact HF2.out.there 0 64 (Nat.le_refl _)) (size36' _) (byts_all _ _) ?_
          rw [List.toList_toArray]
          have HF3 := Lib.hid (HF2.out.stored V)
          have hk3 : Kp w2 (w2.setCells b9 0 (byts 64 V)) b9 b9 := (Kp.refl _ b9 b9).setCells b9 0 (.inl rfl) _
          have HD3 := Lib.hid (HD2.out.kp hk3 (by omega) (by omega) (by omega) (by omega))
          have HL3 := Lib.hid (HL2.out.kp hk3 (by omega) (by omega))
          have HK3 := Lib.hid (HK2.out.setCellsNew b9 0 (by omega) (byts 64 V))
          obtain ⟨w3, hw3⟩ : ∃ x, w2.setCells b9 0 (byts 64 V) = x := ⟨_, rfl⟩
          rw [hw3] at HF3 HD3 HL3 HK3 ⊢
          clear hS0 hk3 hw3
          have hS0 : Lg w3 l d fi := HL3.out
          refine hKK _ _ hS0 ?_
          intro _
          clear hKK KK
          try simp only [Act.put, List.getElem_toArray, List.getElem_cons_zero, List.getElem_cons_succ, List.setIfInBounds_toArray, List.set_cons_zero, List.set_cons_succ]
          refine wpAnyH_take (i := 17) (v := ?_) rfl (by kernel_rfl) (by kernel_rfl) (by kernel_rfl) (fun _ _ _ h => h) (Or.inl ⟨by rfl, ?_⟩) hS0 ?_
          rotate_left 1
          · intro W hW
            go_simp
            try with_reducible rfl
          simp only [Act.put, List.getElem_toArray, List.getElem_cons_zero, List.getElem_cons_succ, List.setIfInBounds_toArray, List.set_cons_zero, List.set_cons_succ]
          refine wpAnyH_done (by kernel_rfl) ?_ _
          clear hS0
          go_wp2_with fail
          go_meet
          case rel => exact ⟨b9, rfl, rfl, by omega, HF3.out, HD3.out, HK3.out⟩
        · skip
          refine step_alloc_byts rfl 50 64 rfl Try.zero36 ?_
          intro w1 HF1 hb1 hq1
          obtain ⟨b9, hb9⟩ : ∃ b9, w0.heap.size = b9 := ⟨_, rfl⟩
          have HD1 := Lib.hid (HD0.out.keep hb1)
          have HL1 := Lib.hid (HL0.out.keep hb1)
          have HK1 := Lib.hid (HK0.out.trans (Kp.of_below hb1 d g))
          have hz1 : wX.heap.size ≤ w1.heap.size := HK1.out.size
          rw [hb9] at HF1 hq1 hz0 ⊢
          clear hS0
          have hS0 : Lg w1 l d fi := HL1.out
          refine hKK _ _ hS0 ?_
          intro _
          clear hKK KK hb1 hb9 hq1
          try simp only [Act.put, List.getElem_toArray, List.getElem_cons_zero, List.getElem_cons_succ, List.setIfInBounds_toArray, List.set_cons_zero, List.set_cons_succ]
          refine wpAnyH_ready (rs := [11]) (by kernel_rfl) (by simp) (AllReadyH.cons rfl (fun KK hKK => ?_) AllReadyH.nil)
          go_simp
          refine (HR.out w1 HD1.out).mono ?_
          rintro e w2 ⟨rfl, hD2, hk2⟩
          have HD2 := Lib.hid hD2
          have HL2 := Lib.hid (HL1.out.kp hk2 hld hlg)
          have HK2 := Lib.hid (HK1.out.trans hk2)
          have HF2 := Lib.hid (HF1.out.kp hk2 (by omega) (by omega))
          have hz2 : wX.heap.size ≤ w2.heap.size := HK2.out.size
          clear hS0
          have hS0 : Lg w2 l d fi := HL2.out
          refine hKK _ _ hS0 ?_
          intro _
          clear hKK KK hD2 hk2
          try simp only [Act.put, List.getElem_toArray, List.getElem_cons_zero, List.getElem_cons_succ, List.setIfInBounds_toArray, List.set_cons_zero, List.set_cons_succ]
          refine wpAnyH_take (i := 12) (v := ?_) rfl (by kernel_rfl) (by kernel_rfl) (by kernel_rfl) (fun _ _ _ h => h) (Or.inl ⟨by rfl, ?_⟩) hS0 ?_
          rotate_left 1
          · intro W hW
            go_simp
            try with_reducible rfl
          simp only [Act.put, List.getElem_toArray, List.getElem_cons_zero, List.getElem_cons_succ, List.setIfInBounds_toArray, List.set_cons_zero, List.set_cons_succ]
          refine wpAnyH_take (i := 13) (v := ?_) rfl (by kernel_rfl) (by kernel_rfl) (by kernel_rfl) (fun _ _ _ h => h) (Or.inl ⟨by rfl, ?_⟩) hS0 ?_
          rotate_left 1
          · intro W hW
            go_simp
            try with_reducible rfl
          simp only [Act.put, List.getElem_toArray, List.getElem_cons_zero, List.getElem_cons_succ, List.setIfInBounds_toArray, List.set_cons_zero, List.set_cons_succ]
          refine wpAnyH_take (i := 14) (v := ?_) rfl (by kernel_rfl) (by kernel_rfl) (by kernel_rfl) (fun _ _ _ h => h) (Or.inl ⟨by rfl, ?_⟩) hS0 ?_
          rotate_left 1
          · intro W hW
            go_simp
            try with_reducible rfl
          simp only [Act.put, List.getElem_toArray, List.getElem_cons_zero, List.getElem_cons_succ, List.setIfInBounds_toArray, List.set_cons_zero, List.set_cons_succ]
          refine wpAnyH_ready (rs := [16]) (by kernel_rfl) (by simp) (AllReadyH.cons rfl (fun KK hKK => ?_) AllReadyH.nil)
          refine step_store_mid rfl 50 _ _ rfl b9 0 (byts 64 V).toArray rfl rfl (by rw [byts_size]; exact HF2.out.there 0 64 (Nat.le_refl _)) (size36' _) (byts_all _ _) ?_
          rw [List.toList_toArray]
          have HF3 := Lib.hid (HF2.out.stored V)
          have hk3 : Kp w2 (w2.setCells b9 0 (byts 64 V)) b9 b9 := (Kp.refl _ b9 b9).setCells b9 0 (.inl rfl) _
          have HD3 := Lib.hid (HD2.out.kp hk3 (by omega) (by omega) (by omega) (by omega))
          have HL3 := Lib.hid (HL2.out.kp hk3 (by omega) (by omega))
          have HK3 := Lib.hid (HK2.out.setCellsNew b9 0 (by omega) (byts 64 V))
          obtain ⟨w3, hw3⟩ : ∃ x, w2.setCells b9 0 (byts 64 V) = x := ⟨_, rfl⟩
          rw [hw3] at HF3 HD3 HL3 HK3 ⊢
          clear hS0 hk3 hw3
          have hS0 : Lg w3 l d fi := HL3.out
          refine hKK _ _ hS0 ?_
          intro _
          clear hKK KK
          try simp only [Act.put, List.getElem_toArray, List.getElem_cons_zero, List.getElem_cons_succ, List.setIfInBounds_toArray, List.set_cons_zero, List.set_cons_succ]
          refine wpAnyH_take (i := 17) (v := ?_) rfl (by kernel_rfl) (by kernel_rfl) (by kernel_rfl) (fun _ _ _ h => h) (Or.inl ⟨by rfl, ?_⟩) hS0 ?_
          rotate_left 1
          · intro W hW
            go_simp
            try with_reducible rfl
          simp only [Act.put, List.getElem_toArray, List.getElem_cons_zero, List.getElem_cons_succ, List.setIfInBounds_toArray, List.set_cons_zero, List.set_cons_succ]
          refine wpAnyH_done (by kernel_rfl) ?_ _
          clear hS0
          go_wp2_with fail
          go_meet
          case rel => exact ⟨b9, rfl, rfl, by omega, HF3.out, HD3.out, HK3.out⟩
      case rest =>
        clear hwa hwb
        obtain ⟨b9, rfl, rfl, hb9, hF9, hD9, hK9⟩ := hcut
        obtain ⟨wY, rfl⟩ : ∃ x, x = wc := ⟨wc, rfl⟩
        have HF9 := Lib.hid hF9
        have HD9 := Lib.hid hD9
        have HK9 := Lib.hid hK9
        have hbX : b < wX.heap.size := by omega
        have ecY : wY.cell? ⟨b, off + k, none⟩ = some (.int .i64 t) := ((HKk.out.trans hK9).cell (p := ⟨b, off + k, none⟩) hbl hob1 hob2).trans HBc.out
        clear hF9 hD9 hK9 HR
        have HEc := Lib.hid ecY
        go_upto_region 7 with fail
        clear ecY
        refine wp_region_held (S := fun W => Lg W l d fi ∧ Fl W b9 64 V ∧ W.cell? ⟨b, off + k, none⟩ = some (.int .i64 t)) (by kernel_rfl) ?_
        change wpAnyH _ _ _ _ _ _ _ _ (World.drew _)
        have hS0 : Lg wY.drew l d fi ∧ Fl wY.drew b9 64 V ∧ wY.drew.cell? ⟨b, off + k, none⟩ = some (.int .i64 t) := ⟨(HLX.out.kp HK9.out hld hlg).keep (Below.refl _ _).drew, HF9.out.below (Below.refl _ _).drew HF9.out.lt, HEc.out⟩
        have hWk : K + 2 * k + 1 < 900000 := by omega
        have hbY : b < wY.heap.size := by have := HK9.out.size; omega
        refine wpAnyH_take (i := 0) (v := ?_) rfl (by kernel_rfl) (by kernel_rfl) (by kernel_rfl) (fun _ _ _ h => h) (Or.inl ⟨by rfl, ?_⟩) hS0 ?_
        rotate_left 1
        · intro W hW
          go_simp
          try with_reducible rfl
        simp only [Act.put, List.getElem_toArray, List.getElem_cons_zero, List.getElem_cons_succ, List.setIfInBounds_toArray, List.set_cons_zero, List.set_cons_succ]
        refine wpAnyH_take (i := 1) (v := ?_) rfl (by kernel_rfl) (by kernel_rfl) (by kernel_rfl) (fun _ _ _ h => h) (Or.inl ⟨by rfl, ?_⟩) hS0 ?_
        rotate_left 1
        · intro W hW
          go_simp
          try with_reducible rfl
        simp only [Act.put, List.getElem_toArray, List.getElem_cons_zero, List.getElem_cons_succ, List.setIfInBounds_toArray, List.set_cons_zero, List.set_cons_succ]
        refine wpAnyH_take (i := 2) (v := ?_) rfl (by kernel_rfl) (by kernel_rfl) (by kernel_rfl) (fun _ _ _ h => h) (Or.inl ⟨by rfl, ?_⟩) hS0 ?_
        rotate_left 1
        · intro W hW
          go_simp
          try with_reducible rfl
        simp only [Act.put, List.getElem_toArray, List.getElem_cons_zero, List.getElem_cons_succ, List.setIfInBounds_toArray, List.set_cons_zero, List.set_cons_succ]
        refine wpAnyH_take (i := 3) (v := ?_) rfl (by kernel_rfl) (by kernel_rfl) (by kernel_rfl) (fun _ _ _ h => h) (Or.inl ⟨by rfl, ?_⟩) hS0 ?_
        rotate_left 1
        · intro W hW
          have c0 := hW.1.c0
          go_simp
          try with_reducible rfl
        simp only [Act.put, List.getElem_toArray, List.getElem_cons_zero, List.getElem_cons_succ, List.setIfInBounds_toArray, List.set_cons_zero, List.set_cons_succ]
        refine wpAnyH_take (i := 4) (v := ?_) rfl (by kernel_rfl) (by kernel_rfl) (by kernel_rfl) (fun _ _ _ h => h) (Or.inl ⟨by rfl, ?_⟩) hS0 ?_
        rotate_left 1
        · intro W hW
          go_simp
          try with_reducible rfl
        simp only [Act.put, List.getElem_toArray, List.getElem_cons_zero, List.getElem_cons_succ, List.setIfInBounds_toArray, List.set_cons_zero, List.set_cons_succ]
        refine wpAnyH_take (i := 5) (v := ?_) rfl (by kernel_rfl) (by kernel_rfl) (by kernel_rfl) (fun _ _ _ h => h) (Or.inl ⟨by rfl, ?_⟩) hS0 ?_
        rotate_left 1
        · intro W hW
          go_simp
          try with_reducible rfl
        simp only [Act.put, List.getElem_toArray, List.getElem_cons_zero, List.getElem_cons_succ, List.setIfInBounds_toArray, List.set_cons_zero, List.set_cons_succ]
        refine wpAnyH_take (i := 6) (v := ?_) rfl (by kernel_rfl) (by kernel_rfl) (by kernel_rfl) (fun _ _ _ h => h) (Or.inl ⟨by rfl, ?_⟩) hS0 ?_
        rotate_left 1
        · intro W hW
          go_simp
          try with_reducible rfl
        simp only [Act.put, List.getElem_toArray, List.getElem_cons_zero, List.getElem_cons_succ, List.setIfInBounds_toArray, List.set_cons_zero, List.set_cons_succ]
        refine wpAnyH_take (i := 7) (v := ?_) rfl (by kernel_rfl) (by kernel_rfl) (by kernel_rfl) (fun _ _ _ h => h) (Or.inl ⟨by rfl, ?_⟩) hS0 ?_
        rotate_left 1
        · intro W hW
          have c7 := hW.2.2
          go_simp
          try with_reducible rfl
        simp only [Act.put, List.getElem_toArray, List.getElem_cons_zero, List.getElem_cons_succ, List.setIfInBounds_toArray, List.set_cons_zero, List.set_cons_succ]
        refine wpAnyH_take (i := 8) (v := .agg (byts 64 V).toArray) rfl (by kernel_rfl) (by kernel_rfl) (by kernel_rfl) (fun _ _ _ h => h) ?_ hS0 ?_
        · exact yieldsIf_load_mid (by rfl) 50 _ rfl b9 0 rfl (byts 64 V) (.array 64 5) (fun _ h => h.2.1.range0) Try.arr36 rfl (size36 _)
        simp only [Act.put, List.getElem_toArray, List.getElem_cons_zero, List.getElem_cons_succ, List.setIfInBounds_toArray, List.set_cons_zero, List.set_cons_succ]
        refine wpAnyH_ready (rs := [9]) (by kernel_rfl) (by simp) (AllReadyH.cons rfl (fun KK hKK => ?_) AllReadyH.nil)
        go_simp
        refine (rwrite_any d g s1.rdd V t N (K + 2 * k + 1) HTk.out hN hWk HSk.out.rdd _ (HD9.out.keep (Below.refl _ _).drew)).mono ?_
        obtain ⟨q, hq⟩ : ∃ q, s1.rdd.write t V = q := ⟨_, rfl⟩
        have HQ := Lib.hid hq
        have HSq := Lib.hid (HSk.out.rdd.write t V HVb.out)
        rw [hq] at HSq HSt ⊢
        clear hq
        have hS1 := hS0
        clear hS0
        rintro e wZ ⟨rfl, hDZ, hkZ⟩
        have HDZ := Lib.hid hDZ
        have HKZ := Lib.hid ((HK9.out.drew).trans hkZ)
        have hS0 : Lg wZ l d fi ∧ Fl wZ b9 64 V ∧ wZ.cell? ⟨b, off + k, none⟩ = some (.int .i64 t) := ⟨hS1.1.kp hkZ hld hlg, hS1.2.1.kp hkZ (by omega) (by omega), (hkZ.cell (p := ⟨b, off + k, none⟩) hbY hob1 hob2).trans hS1.2.2⟩
        refine hKK _ _ hS0 ?_
        intro _
        clear hKK KK hDZ hkZ hS1
        have hqc : q.1 = 0 ∨ q.1 = 24 := by rw [← HQ.out]; exact DS.write_code _ _ _
        obtain ⟨q1, q2⟩ := q
        simp only at hqc
        refine wpAnyH_take (i := 10) (v := ?_) rfl (by kernel_rfl) (by kernel_rfl) (by kernel_rfl) (fun _ _ _ h => h) (Or.inl ⟨by rfl, ?_⟩) hS0 ?_
        rotate_left 1
        · intro W hW
          go_simp
          try with_reducible rfl
        simp only [Act.put, List.getElem_toArray, List.getElem_cons_zero, List.getElem_cons_succ, List.setIfInBounds_toArray, List.set_cons_zero, List.set_cons_succ]
        refine wpAnyH_done (by kernel_rfl) ?_ _
        clear hS0
        rcases hqc with rfl | rfl
        · go_wp2_with fail
          go_roundw
          case rel =>
            exact ⟨k + 1, q2, by omega, by go_num, by rw [← HIk.out, HSt.out, if_pos rfl], (by rw [show K + 2 * (k + 1) = K + 2 * k + 1 + 1 by omega]; exact HSq.out), HDZ.out, HKk.out.trans HKZ.out, fun h => by omega⟩
          case measure => simp [Go.RowKit.intOf]; omega
        · go_wp2_with fail
          go_ret
          have hI : I = (24, q2) := by rw [← HIk.out, HSt.out, if_neg (by decide)]
          have hR : R = (24, q2) := by rw [HIN.out, if_neg (ne_nil_of_pos (by omega)), hI]; rfl
          rw [hR]
          exact ⟨rfl, HDZ.out, HKk.out.trans HKZ.out⟩
    · obtain rfl : k = ts.length := by omega
      have hI : I = (0, s1) := by rw [← HIk.out, List.drop_length]; rfl
      by_cases h0 : ts.length = 0
      · have hR : R = (0, s1) := by
          rw [HIN.out, if_pos (List.eq_nil_of_length_eq_zero h0), HZ1.out h0]
        subst hR
        have h0' : ¬ ((0 : Int) < ts.length) := by omega
        clear hI HIN
        go_wp2_with fail
        go_ret
        exact ⟨rfl, HDk.out, HKk.out⟩
      · have hpos : (0 : Int) < ts.length := by omega
        have hR : Hid (R = s1.write fi (headF [])) := by show R = _; rw [HIN.out, if_neg (ne_nil_of_pos (by omega)), hI]; rfl
        have hKb : K + 2 * ts.length < 900000 := by omega
        have HWr : Hid (∀ W, Rk W d g s1 → Calls Try.prog 42 #[.pointer (some ⟨d, 0, none⟩), .int .i64 fi, .agg (byts 64 (headF [])).toArray] W fun e w' => e = .returned (.int .i64 R.1) ∧ Rk w' d g R.2 ∧ Kp W w' d g) := fun W h => by
          have := rwrite_any d g s1 (headF []) fi N (K + 2 * ts.length) (by omega) hN hKb HSk.out W h
          rwa [← hR.out] at this
        clear HIk HSk HIN HI hR hI HV hvo
        go_upto_region 11 with fail
        refine wp_region_held (S := fun W => Lg W l d fi) (by kernel_rfl) ?_
        change wpAnyH _ _ _ _ _ _ _ _ (World.drew _)
        have hS0 : Lg wX.drew l d fi := HLX.out.keep (Below.refl _ _).drew
        refine wpAnyH_take (i := 0) (v := ?_) rfl (by kernel_rfl) (by kernel_rfl) (by kernel_rfl) (fun _ _ _ h => h) (Or.inl ⟨by rfl, ?_⟩) hS0 ?_
        rotate_left 1
        · intro W hW
          go_simp
          try with_reducible rfl
        simp only [Act.put, List.getElem_toArray, List.getElem_cons_zero, List.getElem_cons_succ, List.setIfInBounds_toArray, List.set_cons_zero, List.set_cons_succ]
        refine wpAnyH_take (i := 1) (v := ?_) rfl (by kernel_rfl) (by kernel_rfl) (by kernel_rfl) (fun _ _ _ h => h) (Or.inl ⟨by rfl, ?_⟩) hS0 ?_
        rotate_left 1
        · intro W hW
          go_simp
          try with_reducible rfl
        simp only [Act.put, List.getElem_toArray, List.getElem_cons_zero, List.getElem_cons_succ, List.setIfInBounds_toArray, List.set_cons_zero, List.set_cons_succ]
        refine wpAnyH_take (i := 2) (v := ?_) rfl (by kernel_rfl) (by kernel_rfl) (by kernel_rfl) (fun _ _ _ h => h) (Or.inl ⟨by rfl, ?_⟩) hS0 ?_
        rotate_left 1
        · intro W hW
          go_simp
          try with_reducible rfl
        simp only [Act.put, List.getElem_toArray, List.getElem_cons_zero, List.getElem_cons_succ, List.setIfInBounds_toArray, List.set_cons_zero, List.set_cons_succ]
        refine wpAnyH_take (i := 3) (v := ?_) rfl (by kernel_rfl) (by kernel_rfl) (by kernel_rfl) (fun _ _ _ h => h) (Or.inl ⟨by rfl, ?_⟩) hS0 ?_
        rotate_left 1
        · intro W hW
          have c0 := hW.c0
          go_simp
          try with_reducible rfl
        simp only [Act.put, List.getElem_toArray, List.getElem_cons_zero, List.getElem_cons_succ, List.setIfInBounds_toArray, List.set_cons_zero, List.set_cons_succ]
        refine wpAnyH_take (i := 4) (v := ?_) rfl (by kernel_rfl) (by kernel_rfl) (by kernel_rfl) (fun _ _ _ h => h) (Or.inl ⟨by rfl, ?_⟩) hS0 ?_
        rotate_left 1
        · intro W hW
          go_simp
          try with_reducible rfl
        simp only [Act.put, List.getElem_toArray, List.getElem_cons_zero, List.getElem_cons_succ, List.setIfInBounds_toArray, List.set_cons_zero, List.set_cons_succ]
        refine wpAnyH_take (i := 5) (v := ?_) rfl (by kernel_rfl) (by kernel_rfl) (by kernel_rfl) (fun _ _ _ h => h) (Or.inl ⟨by rfl, ?_⟩) hS0 ?_
        rotate_left 1
        · intro W hW
          go_simp
          try with_reducible rfl
        simp only [Act.put, List.getElem_toArray, List.getElem_cons_zero, List.getElem_cons_succ, List.setIfInBounds_toArray, List.set_cons_zero, List.set_cons_succ]
        refine wpAnyH_take (i := 6) (v := ?_) rfl (by kernel_rfl) (by kernel_rfl) (by kernel_rfl) (fun _ _ _ h => h) (Or.inl ⟨by rfl, ?_⟩) hS0 ?_
        rotate_left 1
        · intro W hW
          go_simp
          try with_reducible rfl
        simp only [Act.put, List.getElem_toArray, List.getElem_cons_zero, List.getElem_cons_succ, List.setIfInBounds_toArray, List.set_cons_zero, List.set_cons_succ]
        refine wpAnyH_take (i := 7) (v := ?_) rfl (by kernel_rfl) (by kernel_rfl) (by kernel_rfl) (fun _ _ _ h => h) (Or.inl ⟨by rfl, ?_⟩) hS0 ?_
        rotate_left 1
        · intro W hW
          have c1 := hW.c1
          go_simp
          try with_reducible rfl
        simp only [Act.put, List.getElem_toArray, List.getElem_cons_zero, List.getElem_cons_succ, List.setIfInBounds_toArray, List.set_cons_zero, List.set_cons_succ]
        refine wpAnyH_ready (rs := [8]) (by kernel_rfl) (by simp) (AllReadyH.cons rfl (fun KK hKK => ?_) AllReadyH.nil)
        go_simp
        refine (rhead_any (.slice none 0 0) [] (by decide) (by simp) _ (Ns.nil _)).mono ?_
        rintro e w1 ⟨rfl, hb1⟩
        have HB1 := Lib.hid ((Below.refl wX.heap.size wX).drew.trans hb1)
        clear hS0
        have hS0 : Lg w1 l d fi := HLX.out.keep HB1.out
        refine hKK _ _ hS0 ?_
        intro _
        clear hKK KK hb1
        refine wpAnyH_ready (rs := [9]) (by kernel_rfl) (by simp) (AllReadyH.cons rfl (fun KK hKK => ?_) AllReadyH.nil)
        go_simp
        refine (HWr.out w1 (HDk.out.keep HB1.out)).mono ?_
        rintro e w2 ⟨rfl, hD2, hk2⟩
        have HD2 := Lib.hid hD2
        have HK2 := Lib.hid ((Kp.of_below HB1.out d g).trans hk2)
        clear hS0
        have hS0 : Lg w2 l d fi := (HLX.out.keep HB1.out).kp hk2 hld hlg
        refine hKK _ _ hS0 ?_
        intro _
        clear hKK KK hD2 hk2
        refine wpAnyH_take (i := 10) (v := ?_) rfl (by kernel_rfl) (by kernel_rfl) (by kernel_rfl) (fun _ _ _ h => h) (Or.inl ⟨by rfl, ?_⟩) hS0 ?_
        rotate_left 1
        · intro W hW
          go_simp
          try with_reducible rfl
        simp only [Act.put, List.getElem_toArray, List.getElem_cons_zero, List.getElem_cons_succ, List.setIfInBounds_toArray, List.set_cons_zero, List.set_cons_succ]
        refine wpAnyH_done (by kernel_rfl) ?_ _
        clear hS0
        go_wp2_with fail
        go_ret
        exact ⟨rfl, HD2.out, HKk.out.trans HK2.out⟩
end Go.Proofs.Ytlbfdmiihnlljaa
