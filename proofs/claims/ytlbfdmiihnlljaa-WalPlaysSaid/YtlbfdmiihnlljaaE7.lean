import Derived.Test.YtlbfdmiihnlljaaE6
/- Recover, Begin. -/
namespace Go.Proofs.Ytlbfdmiihnlljaa
set_option linter.unusedSimpArgs false
set_option linter.unusedVariables false
open Go.RowKit Go.Maps

/-- what a right head says -/
def rightF (n fi : Nat) (f : Nat → Int) : Option (List Nat) := (placesF f).bind fun ts => if (ts.all fun t => outB n fi t) = true then some ts else none
theorem rightF_le {n fi : Nat} {f : Nat → Int} {ts : List Nat} (h : rightF n fi f = some ts) : ts.length ≤ 30 ∧ ∀ t ∈ ts, t < n ∧ ¬ (fi ≤ t ∧ t ≤ fi + 30) := by
  unfold rightF at h
  obtain ⟨ts', h1, h2⟩ := Option.bind_eq_some_iff.1 h
  split at h2
  · rename_i hall
    obtain rfl := Option.some.inj h2
    refine ⟨placesF_len h1, fun t ht => ?_⟩
    have := List.all_eq_true.1 hall t ht
    rw [outB_nat] at this
    exact of_decide_eq_true this
  · cases h2
/-- Recover: how many, the error's number; the disk -/
def recover (fi : Nat) (s : DS) : (Nat × Int) × DS :=
  (rightF s.n fi (s.blk fi)).elim ((0, 26), s.rdd) fun ts => ((ts.length, (install fi ts s.rdd).1), (install fi ts s.rdd).2)
theorem recover_none {fi : Nat} {s : DS} (h : rightF s.n fi (s.blk fi) = none) : recover fi s = ((0, 26), s.rdd) := by unfold recover; rw [h]; rfl
theorem recover_some {fi : Nat} {s : DS} {ts : List Nat} (h : rightF s.n fi (s.blk fi) = some ts) : recover fi s = ((ts.length, (install fi ts s.rdd).1), (install fi ts s.rdd).2) := by unfold recover; rw [h]; rfl
theorem Sane.recover {N fi k : Nat} {s : DS} (h : Sane s N k) : Sane (recover fi s).2 N (k + 62) := by
  cases hr : rightF s.n fi (s.blk fi) with
  | none => rw [recover_none hr]; exact h.rdd.mono (by omega)
  | some ts =>
    rw [recover_some hr]
    have h1 := (rightF_le hr).1
    exact (h.rdd.install ts (k + 1)).mono (by omega)

set_option maxHeartbeats 40000000 in
set_option maxRecDepth 100000 in
theorem recover_any (l d g fi N K : Nat) (s : DS) (hf : fi + 31 ≤ N) (hN : N ≤ 65536) (hK : K < 700000) (hs : Sane s N K) (wX : World) (hl : Lg wX l d fi) (hd : Dk wX d g s) (hld : l ≠ d) (hlg : l ≠ g) :
    Calls Try.prog 22 #[.pointer (some ⟨l, 0, none⟩)] wX fun e w' => e = .returned (.tuple #[.int .i64 (recover fi s).1.1, .int .i64 (recover fi s).1.2]) ∧ Dk w' d g (recover fi s).2 ∧ Kp wX w' d g := by
  have HLX := Lib.hid hl
  have HDk := Lib.hid hd
  have HS := Lib.hid hs
  have hgX := hd.fl.lt
  have hdX := hd.lt
  have hlX := hl.lt
  clear hl hd hs
  obtain ⟨V, hV⟩ : ∃ V, s.blk fi = V := ⟨_, rfl⟩
  have HVq := Lib.hid hV
  have HR : Hid (∀ W, Dk W d g s → Calls Try.prog 35 #[.pointer (some ⟨d, 0, none⟩), .int .i64 (fi : Int)] W fun e w' => e = .returned (.tuple #[.agg (byts 64 V).toArray, .int .i64 0]) ∧ Dk w' d g s.rdd ∧ Kp W w' d g) := fun W h => by
    have := read_any d g s fi N K (by omega) hN (by omega) HS.out W h
    rwa [hV] at this
  have hVb : Byt V := by rw [← hV]; exact HS.out.blk _
  have HVb := Lib.hid hVb
  clear hV hVb
  obtain ⟨R, hR⟩ : ∃ R, recover fi s = R := ⟨_, rfl⟩
  have HRc := Lib.hid hR
  rw [hR]
  clear hR
  go_enter Try.func22, Try.ntmps22
  go_upto_region 3 with fail
  go_cut [4, 5] (fun x y wc => ∃ b, x = .pointer (some ⟨b, 0, none⟩) ∧ y = .int .i64 0 ∧ wX.heap.size ≤ b ∧ Fl wc b 64 V ∧ Dk wc d g s.rdd ∧ Kp wX wc d g)
  case first =>
    refine wp_region_held (S := fun W => Lg W l d fi) (by kernel_rfl) ?_
    change wpAnyH _ _ _ _ _ _ _ _ (World.drew _)
    have hS0 : Lg wX.drew l d fi := HLX.out.keep (Below.refl _ _).drew
    have HL0 := Lib.hid hS0
    have HD0 := Lib.hid (HDk.out.keep (Below.refl _ _).drew)
    have HK0 := Lib.hid (Kp.refl wX d g).drew
    have hz0 : wX.heap.size ≤ wX.drew.heap.size := Nat.le_refl _
    obtain ⟨w0, hw0⟩ : ∃ x, World.drew wX = x := ⟨_, rfl⟩
    rw [hw0] at hS0 HL0 HD0 HK0 hz0 ⊢
    clear hw0
    refine wpAnyH_take (i := 0) (v := ?_) rfl (by kernel_rfl) (by kernel_rfl) (by kernel_rfl) (fun _ _ _ h => h) (Or.inl ⟨by rfl, ?_⟩) hS0 ?_
    rotate_left 1
    · intro W hW
      go_simp
      try with_reducible rfl
    simp only [Act.put, List.getElem_toArray, List.getElem_cons_zero, List.getElem_cons_succ, List.setIfInBounds_toArray, List.set_cons_zero, List.set_cons_succ]
    refine wpAnyH_take (i := 1) (v := ?_) rfl (by kernel_rfl) (by kernel_rfl) (by kernel_rfl) (fun _ _ _ h => h) (Or.inl ⟨by rfl, ?_⟩) hS0 ?_
    rotate_left 1
    · intro W hW
      go_simp
      try with_reducible rfl
    simp only [Act.put, List.getElem_toArray, List.getElem_cons_zero, List.getElem_cons_succ, List.setIfInBounds_toArray, List.set_cons_zero, List.set_cons_succ]
    refine wpAnyH_take (i := 2) (v := ?_) rfl (by kernel_rfl) (by kernel_rfl) (by kernel_rfl) (fun _ _ _ h => h) (Or.inl ⟨by rfl, ?_⟩) hS0 ?_
    rotate_left 1
    · intro W hW
      go_simp
      try with_reducible rfl
    simp only [Act.put, List.getElem_toArray, List.getElem_cons_zero, List.getElem_cons_succ, List.setIfInBounds_toArray, List.set_cons_zero, List.set_cons_succ]
    refine wpAnyH_take (i := 3) (v := ?_) rfl (by kernel_rfl) (by kernel_rfl) (by kernel_rfl) (fun _ _ _ h => h) (Or.inl ⟨by rfl, ?_⟩) hS0 ?_
    rotate_left 1
    · intro W hW
      have c0 := hW.c0
      go_simp
      try with_reducible rfl
    simp only [Act.put, List.getElem_toArray, List.getElem_cons_zero, List.getElem_cons_succ, List.setIfInBounds_toArray, List.set_cons_zero, List.set_cons_succ]
    refine wpAnyH_take (i := 4) (v := ?_) rfl (by kernel_rfl) (by kernel_rfl) (by kernel_rfl) (fun _ _ _ h => h) (Or.inl ⟨by rfl, ?_⟩) hS0 ?_
    rotate_left 1
    · intro W hW
      go_simp
      try with_reducible rfl
    simp only [Act.put, List.getElem_toArray, List.getElem_cons_zero, List.getElem_cons_succ, List.setIfInBounds_toArray, List.set_cons_zero, List.set_cons_succ]
    refine wpAnyH_take (i := 5) (v := ?_) rfl (by kernel_rfl) (by kernel_rfl) (by kernel_rfl) (fun _ _ _ h => h) (Or.inl ⟨by rfl, ?_⟩) hS0 ?_
    rotate_left 1
    · intro W hW
      go_simp
      try with_reducible rfl
    simp only [Act.put, List.getElem_toArray, List.getElem_cons_zero, List.getElem_cons_succ, List.setIfInBounds_toArray, List.set_cons_zero, List.set_cons_succ]
    refine wpAnyH_take (i := 6) (v := ?_) rfl (by kernel_rfl) (by kernel_rfl) (by kernel_rfl) (fun _ _ _ h => h) (Or.inl ⟨by rfl, ?_⟩) hS0 ?_
    rotate_left 1
    · intro W hW
      go_simp
      try with_reducible rfl
    simp only [Act.put, List.getElem_toArray, List.getElem_cons_zero, List.getElem_cons_succ, List.setIfInBounds_toArray, List.set_cons_zero, List.set_cons_succ]
    refine wpAnyH_take (i := 7) (v := ?_) rfl (by kernel_rfl) (by kernel_rfl) (by kernel_rfl) (fun _ _ _ h => h) (Or.inl ⟨by rfl, ?_⟩) hS0 ?_
    rotate_left 1
    · intro W hW
      have c1 := hW.c1
      go_simp
      try with_reducible rfl
    simp only [Act.put, List.getElem_toArray, List.getElem_cons_zero, List.getElem_cons_succ, List.setIfInBounds_toArray, List.set_cons_zero, List.set_cons_succ]
    refine wpAnyH_ready (rs := [8, 12]) (by kernel_rfl) (by simp) (AllReadyH.cons rfl (fun KK hKK => ?_) (AllReadyH.cons rfl (fun KK hKK => ?_) AllReadyH.nil))
    · skip
      go_simp
      refine (HR.out w0 HD0.out).mono ?_
      rintro e w1 ⟨rfl, hD1, hk1⟩
      have HD1 := Lib.hid hD1
      have HL1 := Lib.hid (HL0.out.kp hk1 hld hlg)
      have HK1 := Lib.hid (HK0.out.trans hk1)
      have hz1 : wX.heap.size ≤ w1.heap.size := HK1.out.size
      clear hS0
      have hS0 : Lg w1 l d fi := HL1.out
      refine hKK _ _ hS0 ?_
      intro _
      clear hKK KK hD1 hk1
      try simp only [Act.put, List.getElem_toArray, List.getElem_cons_zero, List.getElem_cons_succ, List.setIfInBounds_toArray, List.set_cons_zero, List.set_cons_succ]
      refine wpAnyH_take (i := 9) (v := ?_) rfl (by kernel_rfl) (by kernel_rfl) (by kernel_rfl) (fun _ _ _ h => h) (Or.inl ⟨by rfl, ?_⟩) hS0 ?_
      rotate_left 1
      · intro W hW
        go_simp
        try with_reducible rfl
      simp only [Act.put, List.getElem_toArray, List.getElem_cons_zero, List.getElem_cons_succ, List.setIfInBounds_toArray, List.set_cons_zero, List.set_cons_succ]
      refine wpAnyH_take (i := 10) (v := ?_) rfl (by kernel_rfl) (by kernel_rfl) (by kernel_rfl) (fun _ _ _ h => h) (Or.inl ⟨by rfl, ?_⟩) hS0 ?_
      rotate_left 1
      · intro W hW
        go_simp
        try with_reducible rfl
      simp only [Act.put, List.getElem_toArray, List.getElem_cons_zero, List.getElem_cons_succ, List.setIfInBounds_toArray, List.set_cons_zero, List.set_cons_succ]
      refine wpAnyH_take (i := 11) (v := ?_) rfl (by kernel_rfl) (by kernel_rfl) (by kernel_rfl) (fun _ _ _ h => h) (Or.inl ⟨by rfl, ?_⟩) hS0 ?_
      rotate_left 1
      · intro W hW
        go_simp
        try with_reducible rfl
      simp only [Act.put, List.getElem_toArray, List.getElem_cons_zero, List.getElem_cons_succ, List.setIfInBounds_toArray, List.set_cons_zero, List.set_cons_succ]
      refine wpAnyH_ready (rs := [12]) (by kernel_rfl) (by simp) (AllReadyH.cons rfl (fun KK hKK => ?_) AllReadyH.nil)
      refine step_alloc_byts rfl 50 64 rfl Try.zero36 ?_
      intro w2 HF2 hb2 hq2
      obtain ⟨b9, hb9⟩ : ∃ b9, w1.heap.size = b9 := ⟨_, rfl⟩
      have HD2 := Lib.hid (HD1.out.keep hb2)
      have HL2 := Lib.hid (HL1.out.keep hb2)
      have HK2 := Lib.hid (HK1.out.trans (Kp.of_below hb2 d g))
      have hz2 : wX.heap.size ≤ w2.heap.size := HK2.out.size
      rw [hb9] at HF2 hq2 hz1 ⊢
      clear hS0
      have hS0 : Lg w2 l d fi := HL2.out
      refine hKK _ _ hS0 ?_
      intro _
      clear hKK KK hb2 hb9 hq2
      try simp only [Act.put, List.getElem_toArray, List.getElem_cons_zero, List.getElem_cons_succ, List.setIfInBounds_toArray, List.set_cons_zero, List.set_cons_succ]
      refine wpAnyH_ready (rs := [13]) (by kernel_rfl) (by simp) (AllReadyH.cons rfl (fun KK hKK => ?_) AllReadyH.nil)
      refine step_store_mid rfl 50 _ _ rfl b9 0 (byts 64 V).toArray rfl rfl (by rw [byts_size]; exact HF2.out.there 0 64 (Nat.le_refl _)) (size36' _) (byts_all _ _) ?_
      rw [List.toList_toArray]
      have HF3 := Lib.hid (HF2.out.stored V)
      have hk3 : Kp w2 (w2.setCells b9 0 (byts 64 V)) b9 b9 := (Kp.refl _ b9 b9).setCells b9 0 (.inl rfl) _
      have HD3 := Lib.hid (HD2.out.kp hk3 (by omega) (by omega) (by omega) (by omega))
      have HL3 := Lib.hid (HL2.out.kp hk3 (by omega) (by omega))
      have HK3 := Lib.hid (HK2.out.setCellsNew b9 0 (by omega) (byts 64 V))
      obtain ⟨w3, hw3⟩ : ∃ x, w2.setCells b9 0 (byts 64 V) = x := ⟨_, rfl⟩
      rw [hw3] at HF3 HD3 HL3 HK3 ⊢
      clear hS0 hk3 hw3
      have hS0 : Lg w3 l d fi := HL3.out
      refine hKK _ _ hS0 ?_
      intro _
      clear hKK KK
      try simp only [Act.put, List.getElem_toArray, List.getElem_cons_zero, List.getElem_cons_succ, List.setIfInBounds_toArray, List.set_cons_zero, List.set_cons_succ]
      refine wpAnyH_take (i := 14) (v := ?_) rfl (by kernel_rfl) (by kernel_rfl) (by kernel_rfl) (fun _ _ _ h => h) (Or.inl ⟨by rfl, ?_⟩) hS0 ?_
      rotate_left 1
      · intro W hW
        go_simp
        try with_reducible rfl
      simp only [Act.put, List.getElem_toArray, List.getElem_cons_zero, List.getElem_cons_succ, List.setIfInBounds_toArray, List.set_cons_zero, List.set_cons_succ]
      refine wpAnyH_done (by kernel_rfl) ?_ _
      clear hS0
      go_wp2_with fail
      go_meet
      case rel => exact ⟨b9, rfl, rfl, by omega, HF3.out, HD3.out, HK3.out⟩
    · skip
      refine step_alloc_byts rfl 50 64 rfl Try.zero36 ?_
      intro w1 HF1 hb1 hq1
      obtain ⟨b9, hb9⟩ : ∃ b9, w0.heap.size = b9 := ⟨_, rfl⟩
      have HD1 := Lib.hid (HD0.out.keep hb1)
      have HL1 := Lib.hid (HL0.out.keep hb1)
      have HK1 := Lib.hid (HK0.out.trans (Kp.of_below hb1 d g))
      have hz1 : wX.heap.size ≤ w1.heap.size := HK1.out.size
      rw [hb9] at HF1 hq1 hz0 ⊢
      clear hS0
      have hS0 : Lg w1 l d fi := HL1.out
      refine hKK _ _ hS0 ?_
      intro _
      clear hKK KK hb1 hb9 hq1
      try simp only [Act.put, List.getElem_toArray, List.getElem_cons_zero, List.getElem_cons_succ, List.setIfInBounds_toArray, List.set_cons_zero, List.set_cons_succ]
      refine wpAnyH_ready (rs := [8]) (by kernel_rfl) (by simp) (AllReadyH.cons rfl (fun KK hKK => ?_) AllReadyH.nil)
      go_simp
      refine (HR.out w1 HD1.out).mono ?_
      rintro e w2 ⟨rfl, hD2, hk2⟩
      have HD2 := Lib.hid hD2
      have HL2 := Lib.hid (HL1.out.kp hk2 hld hlg)
      have HK2 := Lib.hid (HK1.out.trans hk2)
      have HF2 := Lib.hid (HF1.out.kp hk2 (by omega) (by omega))
      have hz2 : wX.heap.size ≤ w2.heap.size := HK2.out.size
      clear hS0
      have hS0 : Lg w2 l d fi := HL2.out
      refine hKK _ _ hS0 ?_
      intro _
      clear hKK KK hD2 hk2
      try simp only [Act.put, List.getElem_toArray, List.getElem_cons_zero, List.getElem_cons_succ, List.setIfInBounds_toArray, List.set_cons_zero, List.set_cons_succ]
      refine wpAnyH_take (i := 9) (v := ?_) rfl (by kernel_rfl) (by kernel_rfl) (by kernel_rfl) (fun _ _ _ h => h) (Or.inl ⟨by rfl, ?_⟩) hS0 ?_
      rotate_left 1
      · intro W hW
        go_simp
        try with_reducible rfl
      simp only [Act.put, List.getElem_toArray, List.getElem_cons_zero, List.getElem_cons_succ, List.setIfInBounds_toArray, List.set_cons_zero, List.set_cons_succ]
      refine wpAnyH_take (i := 10) (v := ?_) rfl (by kernel_rfl) (by kernel_rfl) (by kernel_rfl) (fun _ _ _ h => h) (Or.inl ⟨by rfl, ?_⟩) hS0 ?_
      rotate_left 1
      · intro W hW
        go_simp
        try with_reducible rfl
      simp only [Act.put, List.getElem_toArray, List.getElem_cons_zero, List.getElem_cons_succ, List.setIfInBounds_toArray, List.set_cons_zero, List.set_cons_succ]
      refine wpAnyH_take (i := 11) (v := ?_) rfl (by kernel_rfl) (by kernel_rfl) (by kernel_rfl) (fun _ _ _ h => h) (Or.inl ⟨by rfl, ?_⟩) hS0 ?_
      rotate_left 1
      · intro W hW
        go_simp
        try with_reducible rfl
      simp only [Act.put, List.getElem_toArray, List.getElem_cons_zero, List.getElem_cons_succ, List.setIfInBounds_toArray, List.set_cons_zero, List.set_cons_succ]
      refine wpAnyH_ready (rs := [13]) (by kernel_rfl) (by simp) (AllReadyH.cons rfl (fun KK hKK => ?_) AllReadyH.nil)
      refine step_store_mid rfl 50 _ _ rfl b9 0 (byts 64 V).toArray rfl rfl (by rw [byts_size]; exact HF2.out.there 0 64 (Nat.le_refl _)) (size36' _) (byts_all _ _) ?_
      rw [List.toList_toArray]
      have HF3 := Lib.hid (HF2.out.stored V)
      have hk3 : Kp w2 (w2.setCells b9 0 (byts 64 V)) b9 b9 := (Kp.refl _ b9 b9).setCells b9 0 (.inl rfl) _
      have HD3 := Lib.hid (HD2.out.kp hk3 (by omega) (by omega) (by omega) (by omega))
      have HL3 := Lib.hid (HL2.out.kp hk3 (by omega) (by omega))
      have HK3 := Lib.hid (HK2.out.setCellsNew b9 0 (by omega) (byts 64 V))
      obtain ⟨w3, hw3⟩ : ∃ x, w2.setCells b9 0 (byts 64 V) = x := ⟨_, rfl⟩
      rw [hw3] at HF3 HD3 HL3 HK3 ⊢
      clear hS0 hk3 hw3
      have hS0 : Lg w3 l d fi := HL3.out
      refine hKK _ _ hS0 ?_
      intro _
      clear hKK KK
      try simp only [Act.put, List.getElem_toArray, List.getElem_cons_zero, List.getElem_cons_succ, List.setIfInBounds_toArray, List.set_cons_zero, List.set_cons_succ]
      refine wpAnyH_take (i := 14) (v := ?_) rfl (by kernel_rfl) (by kernel_rfl) (by kernel_rfl) (fun _ _ _ h => h) (Or.inl ⟨by rfl, ?_⟩) hS0 ?_
      rotate_left 1
      · intro W hW
        go_simp
        try with_reducible rfl
      simp only [Act.put, List.getElem_toArray, List.getElem_cons_zero, List.getElem_cons_succ, List.setIfInBounds_toArray, List.set_cons_zero, List.set_cons_succ]
      refine wpAnyH_done (by kernel_rfl) ?_ _
      clear hS0
      go_wp2_with fail
      go_meet
      case rel => exact ⟨b9, rfl, rfl, by omega, HF3.out, HD3.out, HK3.out⟩
  case rest =>
    obtain ⟨b9, rfl, rfl, hb9, hF9, hD9, hK9⟩ := hcut
    obtain ⟨wY, rfl⟩ : ∃ x, x = wc := ⟨wc, rfl⟩
    have HF9 := Lib.hid hF9
    have HD9 := Lib.hid hD9
    have HK9 := Lib.hid hK9
    have hz9 := hK9.size
    have HLY := Lib.hid (HLX.out.kp hK9 hld hlg)
    have hRg : Hid (wY.rangeAt b9 0 (byts 64 V)) := hF9.range0
    clear hF9 hD9 hK9 HR
    have HPl := Lib.hid (placesof_any V HVb.out wY)
    obtain ⟨o, ho⟩ : ∃ o, placesF V = o := ⟨_, rfl⟩
    rw [ho] at HPl
    have HO := Lib.hid ho
    clear ho
    cases o with
    | none =>
      have hr : R = ((0, 26), s.rdd) := by
        rw [← HRc.out]
        exact recover_none (by unfold rightF; rw [HVq.out, HO.out]; rfl)
      subst hr
      go_wp2_with (refine wpList_load_mid rfl 50 _ rfl b9 0 rfl _ (.array 64 5) hRg.out Try.arr36 rfl (size36 _) ?_)
      refine HPl.out.mono ?_
      rintro e w3 ⟨v3, rfl, hN3, ho3, hb3⟩
      have HB3 := Lib.hid hb3
      have HD3 := Lib.hid (HD9.out.keep hb3)
      clear hb3 HPl hN3 ho3
      go_wp2_with fail
      refine bodyPost_ret (v := .tuple #[.int .i64 0, .int .i64 26]) (by simp [results, Try.results22, go_sem]) rfl ⟨rfl, HD3.out, HK9.out.trans (Kp.of_below HB3.out _ _)⟩
    | some ts =>
      have h30 := placesF_len HO.out
      have HTs := Lib.hid (placesF_le HVb.out HO.out)
      have HRR : Hid (rightF s.n fi (s.blk fi) = if (ts.all fun t => outB N fi t) = true then some ts else none) := by
        show rightF _ _ _ = _
        unfold rightF
        rw [HVq.out, HO.out, HS.out.n]
        rfl
      have HAO : Hid (∀ v W, Lg W l d fi → Dk W d g s.rdd → Ns W v ts → Calls Try.prog 45 #[.pointer (some ⟨l, 0, none⟩), v] W fun e w' => e = .returned (.bool (ts.all fun t => outB N fi t)) ∧ w' = W) := fun v W h1 h2 h3 => by
        have := alloutside_any l d g fi s.rdd v ts (fun t ht => by have := HTs.out t ht; omega) (by omega) (by rw [HS.out.rdd.n]; exact hN) W h1 h2 h3
        rwa [HS.out.rdd.n] at this
      obtain ⟨q, hq⟩ : ∃ q, (ts.all fun t => outB N fi t) = q := ⟨_, rfl⟩
      rw [hq] at HRR HAO
      have HAQ := Lib.hid hq
      clear hq
      cases q with
      | false =>
        have hr : R = ((0, 26), s.rdd) := by
          rw [← HRc.out]
          exact recover_none (by rw [HRR.out]; rfl)
        subst hr
        go_wp2_with (refine wpList_load_mid rfl 50 _ rfl b9 0 rfl _ (.array 64 5) hRg.out Try.arr36 rfl (size36 _) ?_)
        refine HPl.out.mono ?_
        rintro e w3 ⟨v3, rfl, hN3, ho3, hb3⟩
        have HB3 := Lib.hid hb3
        have HD3 := Lib.hid (HD9.out.keep hb3)
        have HL3 := Lib.hid (HLY.out.keep hb3)
        have HN3 : Hid (Ns w3 v3 ts) := hN3
        clear hb3 HPl hN3 ho3
        go_wp2_with fail
        refine (HAO.out v3 w3 HL3.out HD3.out HN3.out).mono ?_
        rintro e w4 ⟨rfl, rfl⟩
        go_wp2_with fail
        refine bodyPost_ret (v := .tuple #[.int .i64 0, .int .i64 26]) (by simp [results, Try.results22, go_sem]) rfl ⟨rfl, HD3.out, HK9.out.trans (Kp.of_below HB3.out _ _)⟩
      | true =>
        have hr : R = ((ts.length, (install fi ts s.rdd).1), (install fi ts s.rdd).2) := by
          rw [← HRc.out]
          exact recover_some (by rw [HRR.out]; rfl)
        have HTN : Hid (∀ t ∈ ts, t < N) := fun t ht => by
          have := List.all_eq_true.1 HAQ.out t ht
          rw [outB_nat] at this
          simp at this
          exact this.1
        go_wp2_with (refine wpList_load_mid rfl 50 _ rfl b9 0 rfl _ (.array 64 5) hRg.out Try.arr36 rfl (size36 _) ?_)
        refine HPl.out.mono ?_
        rintro e w3 ⟨v3, rfl, hN3, ho3, hb3⟩
        have HB3 := Lib.hid hb3
        have HD3 := Lib.hid (HD9.out.keep hb3)
        have HL3 := Lib.hid (HLY.out.keep hb3)
        have HN3 : Hid (Ns w3 v3 ts) := hN3
        have HO3 : Hid (Ns.off v3 d g) := fun k hk => by have := ho3 k hk; omega
        clear hb3 HPl hN3 ho3
        go_wp2_with fail
        refine (HAO.out v3 w3 HL3.out HD3.out HN3.out).mono ?_
        rintro e w4 ⟨rfl, rfl⟩
        have HIn := Lib.hid (install_any l d g fi N (K + 1) s.rdd v3 ts h30 HTN.out hf hN (by omega) HS.out.rdd w4 HL3.out HD3.out HN3.out hld hlg HO3.out)
        obtain ⟨a3, c3, hv3, -⟩ := HN3.out.form
        subst hv3
        subst hr
        clear HAO HN3
        go_wp2_with fail
        refine HIn.out.mono ?_
        rintro e w5 ⟨rfl, hD5, hk5⟩
        have HD5 := Lib.hid hD5
        have HK5 := Lib.hid ((HK9.out.trans (Kp.of_below HB3.out _ _)).trans hk5)
        clear hD5 hk5 HIn
        go_wp2_with fail
        refine bodyPost_ret (v := .tuple #[.int .i64 ts.length, .int .i64 (install fi ts s.rdd).1]) (by simp [results, Try.results22, go_sem]) rfl ⟨rfl, HD5.out, HK5.out⟩
theorem recover_nil (w : World) : Calls Try.prog 22 #[.pointer none] w fun e w' => e = .returned (.tuple #[.int .i64 0, .int .i64 1]) ∧ w' = w := by
  go_enter Try.func22, Try.ntmps22
  go_wp2
  exact bodyPost_ret (v := .tuple #[.int .i64 0, .int .i64 1]) (by simp [results, Try.results22, go_sem]) rfl ⟨rfl, rfl⟩
end Go.Proofs.Ytlbfdmiihnlljaa
