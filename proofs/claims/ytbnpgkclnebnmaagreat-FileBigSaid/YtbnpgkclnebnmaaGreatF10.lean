import Derived.Test.YtbnpgkclnebnmaaGreatF9
/- Files: put, read: bytes of one block. -/
namespace Go.Proofs.YtbnpgkclnebnmaaGreat
set_option linter.unusedSimpArgs false
set_option linter.unusedVariables false
open Go.RowKit Go.Maps

variable {ln : Lm}
theorem wayto_slot (c : Nat) (hc : c < 256) (x : Int) (hx : x = c) (w : World) : Calls Tryz.prog 83 #[.int .i64 x] w fun e w' => e = .returned (wyS c) ∧ Below w.heap.size w w' := by
  subst hx
  by_cases h6 : c < 6
  · have h := wayto_dir c (by omega) (by omega) w
    have hw := wy_root c ((isR_iff c).2 (.inl h6))
    unfold wyS
    rw [hw.2.1, hw.2.2]
    unfold wy1
    rw [if_pos h6]
    exact h
  · by_cases h3 : c < 38
    · have h := wayto_sin c (by omega) (by omega) w
      obtain ⟨e1, e2, e3, -⟩ := wy_two c ((okS_iff c).2 (by omega)) ((isR_no c).2 (by omega)) (by omega)
      have e4 : wy1 c = 7 := by unfold wy1; rw [if_neg h6, if_pos (.inl h3)]
      have e5 : ((wy2 c : Nat) : Int) = c - 6 + 1 := by unfold wy2; rw [if_neg (by omega), if_pos h3]; omega
      unfold wyS
      rw [e3, e4, e5]
      exact h
    · have h := wayto_dbl c (by omega) (by omega) w
      obtain ⟨e1, e2, e3, -⟩ := wy_three c ⟨by omega, by omega⟩
      have e4 : ((wy2 c : Nat) : Int) = (c - 6 - 32) / 32 + 1 := by rw [e2]; omega
      have e5 : ((wy3 c : Nat) : Int) = (c - 6) % 32 + 1 := by rw [e3]; omega
      unfold wyS
      rw [e1, e4, e5]
      exact h
/-- bytes in memory: n of them, from a place on -/
structure Sb (w : World) (sb so n : Nat) (s : Nat → Int) : Prop where
  lt : sb < w.heap.size
  c : ∀ j, j < n → w.cell? ⟨sb, so + j, none⟩ = some (.int .u8 (s j))
theorem Sb.keep {w w' : World} {sb so n : Nat} {s : Nat → Int} (h : Sb w sb so n s) (hb : Below w.heap.size w w') : Sb w' sb so n s := ⟨Nat.lt_of_lt_of_le h.lt hb.size, fun j hj => (hb.cell (p := ⟨sb, so + j, none⟩) h.lt).trans (h.c j hj)⟩
theorem Sb.kf {w w' : World} {L : List Nat} {sb so n : Nat} {s : Nat → Int} (h : Sb w sb so n s) (hk : Kf w w' L) (hn : sb ∉ L) : Sb w' sb so n s := ⟨Nat.lt_of_lt_of_le h.lt hk.size, fun j hj => (hk.cell (p := ⟨sb, so + j, none⟩) h.lt hn).trans (h.c j hj)⟩
theorem Sb.kp {w w' : World} {x sb so n : Nat} {s : Nat → Int} (h : Sb w sb so n s) (hk : Kp w w' x x) (hn : sb ≠ x) : Sb w' sb so n s := ⟨Nat.lt_of_lt_of_le h.lt hk.size, fun j hj => (hk.cell (p := ⟨sb, so + j, none⟩) h.lt hn hn).trans (h.c j hj)⟩
theorem Sb.drop {w : World} {sb so n : Nat} {s : Nat → Int} (h : Sb w sb so n s) (k : Nat) : Sb w sb (so + k) (n - k) (fun j => s (k + j)) := ⟨h.lt, fun j hj => by rw [Nat.add_assoc]; exact h.c (k + j) (by omega)⟩
set_option maxHeartbeats 40000000 in
set_option maxRecDepth 100000 in
theorem put_any8 (b q p t m d gg lab B0 P0 M DA NB N K TB : Nat) (g : Cf.Ge) (Y0 : Nat → Nat → Int) (f0 : Nat → Int) (S0 : Nat → Bool) (b0 : Nat → Nat) (L : List Nat) (D : Nat → Nat → Int) (hL : L.length ≤ 28) (hFu : Fu B0 DA NB Y0 f0 S0 b0) (o : Nat) (ho : o < 16384) (hcL : ∀ i, i ≤ lenC (o / 64) → chS (o / 64) i ∈ L)
    (sb so n cap : Nat) (s : Nat → Int) (hs : ∀ j, j < n → 0 ≤ s j ∧ s j < 256) (hn : 0 < n) (hn2 : n < 100000) (hK : K < 300000000) (hg : GG g B0 P0 M DA NB N) (w : World) (h : Bo w w b q p t m d gg lab g B0 NB N ⟨dl B0 TB DA b0 S0 L, D⟩ Y0 K f0) (hsb : Sb w sb so n s) (hsn : sb ∉ [t, m, d, gg, b]) :
    Calls Tryz.prog 74 #[.pointer (some ⟨b, 0, none⟩), .int .i64 o, .slice (some ⟨sb, so, none⟩) n cap] w fun e w' =>
      (∃ Y f S B, e = .returned (.tuple #[.int .i64 (Nat.min n (64 - o % 64)), .int .i64 0]) ∧ Bo w w' b q p t m d gg lab g B0 NB N ⟨dl B0 TB DA B S L, D⟩ (vput (DA + (B (o / 64) - 1)) (upd (Y (DA + (B (o / 64) - 1))) (o % 64) (Nat.min n (64 - o % 64)) s) Y) (K + 1001) f ∧ Ly B0 TB DA NB L D Y0 S0 b0 Y f S B ∧ (∀ c', S c' = true ↔ S0 c' = true ∨ ∃ i, i ≤ lenC (o / 64) ∧ c' = chS (o / 64) i) ∧ (∀ i, i < 4 → f i = f0 i)) ∨
      (∃ Y f S B, e = .returned (.tuple #[.int .i64 0, .int .i64 10]) ∧ Bo w w' b q p t m d gg lab g B0 NB N ⟨dl B0 TB DA B S L, D⟩ Y (K + 1001) f ∧ Ly B0 TB DA NB L D Y0 S0 b0 Y f S B ∧ (∀ c', S c' = true → S0 c' = true ∨ ∃ i, i ≤ lenC (o / 64) ∧ c' = chS (o / 64) i) ∧ (∀ j, j < NB → bt Y B0 j = true) ∧ ∃ i, i ≤ lenC (o / 64) ∧ S (chS (o / 64) i) = false) := by
  have hc : o / 64 < 256 := by omega
  have HWT := Lib.hid (fun x hx W => wayto_slot (o / 64) hc x hx W)
  have HLA := Lib.hid (fun W hW => lay_any b q p t m d gg lab B0 P0 M DA NB N K TB g Y0 f0 S0 b0 L D hL hFu (o / 64) hc hcL (by omega) hg W hW)
  have HCc := Lib.hid (hcL (lenC (o / 64)) (Nat.le_refl _))
  rw [chS_last] at HCc
  have HSl := Lib.hid (chS_last (o / 64))
  have HB := Lib.hid h
  have HS := Lib.hid hsb
  have HSN := Lib.hid hsn
  have Hs := Lib.hid hs
  have HG := Lib.hid hg
  have hN5 := hg.n512
  obtain ⟨c, hcc⟩ : ∃ c, o / 64 = c := ⟨_, rfl⟩
  obtain ⟨r, hr⟩ : ∃ r, o % 64 = r := ⟨_, rfl⟩
  have hr64 : r < 64 := by omega
  rw [hcc] at HWT HLA HCc HSl ⊢
  rw [hr]
  obtain ⟨oi, hoi⟩ : ∃ z : Int, (o : Int) = z := ⟨_, rfl⟩
  have ho0 : 0 ≤ oi := by omega
  have ho1 : oi < 16384 := by omega
  have HQ : Hid (oi / 64 = (c : Int)) := Lib.hid (by omega)
  have HR : Hid (oi % 64 = (r : Int)) := Lib.hid (by omega)
  obtain ⟨va, vb, vc, hwv⟩ : ∃ x y z : Int, wyS c = .agg (wyc x y z).toArray := ⟨_, _, _, rfl⟩
  rw [hwv] at HWT HLA
  rw [hoi]
  clear hc h hsb hsn hs hFu hcL hg hcc hr hoi ho hwv
  go_enter Tryz.func74, Tryz.ntmps74
  go_wp2_with fail
  refine (HWT.out _ HQ.out w).mono ?_
  rintro e w1 ⟨rfl, hb⟩
  have HB1 := Lib.hid (HB.out.keep hb)
  have HS1 := Lib.hid (HS.out.keep hb)
  clear hb HWT HS HB
  go_wp2_with fail
  refine (HLA.out w1 HB1.out.self).mono ?_
  rintro e w2 (⟨Y, f, S, B, rfl, hB2, hLy, hSc, hf4⟩ | ⟨Y, f, S, B, rfl, hB2, hLy, hSc, hall, hno⟩)
  · have HB2 := Lib.hid (HB1.out.trans hB2)
    have HS2 := Lib.hid (HS1.out.kf hB2.kf HSN.out)
    have HLy := Lib.hid hLy
    have HSc := Lib.hid hSc
    have Hf4 := Lib.hid hf4
    have hSc1 : S c = true := (hSc c).2 (.inr ⟨lenC c, Nat.le_refl _, HSl.out.symm⟩)
    obtain ⟨hy1, hy2⟩ := hLy.fu.fi.rng c hSc1
    have hT : Has ⟨dl B0 TB DA B S L, D⟩ (DA + (B c - 1)) := ⟨dl_mem B0 TB DA B S L c (okS_lt (hLy.fu.fi.ok c hSc1)) HCc.out hSc1, Ly.len L hL B0 TB DA B S⟩
    obtain ⟨y, hy⟩ : ∃ y, B c = y := ⟨_, rfl⟩
    rw [hy] at hy1 hy2 hT
    have hby := hB2.gr.rd.vb (DA + (y - 1))
    have HGt := Lib.hid (fun W hW => gget_in (ln := ⟨dl B0 TB DA B S L, D⟩) q p t m d gg lab B0 P0 M DA NB N (K + 1000) g Y y hy1 hy2 (by omega) HG.out W hW)
    obtain ⟨V, hV⟩ : ∃ V, Y (DA + (y - 1)) = V := ⟨_, rfl⟩
    rw [hV] at hby HGt
    obtain ⟨mn, hmn⟩ : ∃ mn, Nat.min n (64 - r) = mn := ⟨_, rfl⟩
    have hmn1 : mn ≤ n ∧ mn ≤ 64 - r := ⟨by rw [← hmn]; exact Nat.min_le_left _ _, by rw [← hmn]; exact Nat.min_le_right _ _⟩
    obtain ⟨V2, hV2⟩ : ∃ V2, upd V r mn s = V2 := ⟨_, rfl⟩
    have hby2 : Byt V2 := by
      rw [← hV2]
      intro j hj
      unfold upd
      split
      · exact Hs.out _ (by omega)
      · exact hby j hj
    have HPu := Lib.hid (fun W hW => gput_in (ln := ⟨dl B0 TB DA B S L, D⟩) q p t m d gg lab B0 P0 M DA NB N (K + 1001) g Y y hy1 hy2 V2 hby2 hT HG.out W hW)
    obtain ⟨yi, hyi⟩ : ∃ z : Int, (y : Int) = z := ⟨_, rfl⟩
    rw [hy]
    rw [hyi] at HGt HPu ⊢
    have HY := Lib.hid hy
    have HV := Lib.hid hV
    have HV2 := Lib.hid hV2
    have HMn := Lib.hid hmn
    clear hB2 hLy hSc hf4 hSc1 hT hy hby hV hV2 hby2 hyi hmn HLA HS1 HB1
    have hqe := HB2.out.bd.c 0 _ rfl
    go_wp2_with fail
    refine (HGt.out w2 HB2.out.gr).mono ?_
    rintro e w3 ⟨rfl, hG, hkk⟩
    have HB3 := Lib.hid (HB2.out.call hG hkk)
    have HS3 := Lib.hid (HS2.out.kf hkk (fun ha => HSN.out (by simp only [List.mem_cons, List.not_mem_nil, or_false] at ha ⊢; omega)))
    have hs3 : w.heap.size ≤ w3.heap.size := HB3.out.kf.size
    clear hG hkk HGt HB2 HS2 hqe
    go_upto_region 5 with (first | (refine wpList_alloc_byts (w := w3) rfl 59 64 rfl Tryz.zero36 ?_; intro w5 F5 hb5 hz5; simp only [Act.put, List.getElem_toArray, List.getElem_cons_zero, List.getElem_cons_succ, List.setIfInBounds_toArray, List.set_cons_zero, List.set_cons_succ]; refine wpList_store_blk rfl (.tmp 10) (.tmp 30) rfl w3.heap.size 0 64 (fun _ => 0) V F5.out (by omega) rfl rfl ?_; intro w6 F6 HK6; have HB5 := Lib.hid hb5; clear hb5 F5))
    obtain ⟨bB, hbB⟩ : ∃ x, w3.heap.size = x := ⟨_, rfl⟩
    have hB0 : w.heap.size ≤ bB := by omega
    have hSl := HS3.out.lt
    have HB6 := Lib.hid ((HB3.out.keep HB5.out).new HK6.out (by omega))
    have HS6 := Lib.hid ((HS3.out.keep HB5.out).kp HK6.out (by omega))
    have F6' := Lib.hid (F6.out.congr (fun j hj => upd_zero 64 V j hj _))
    rw [hbB] at F6' hSl
    try rw [hbB]
    clear F6 HK6 HB5 HB3 HS3 hbB hz5 hs3
    go_upto_region 7 with fail
    have hRr := HR.out
    have hr0 : (0 : Int) ≤ r := by omega
    have hr1 : (r : Int) < 64 := by omega
    have hr2 : (r : Int) ≤ 64 := by omega
    have hcp := run_copy_mid (P := Tryz.prog) w6 24 24 3 5 1 bB r (64 - r) (64 - r) (some ⟨sb, so, none⟩) n cap (byts mn s) Tryz.sl34 Tryz.isize5 (by rw [byts_len, Nat.mul_one]; exact HMn.out.symm) (fun _ => ⟨⟨sb, so, none⟩, rfl, fun j v hj => by
      obtain ⟨h1, rfl⟩ := byts_of hj
      rw [Addr.add_mid]
      exact HS6.out.c j (by omega)⟩) (by rw [byts_len]; exact F6'.out.there r mn (by omega)) (byts_one _ _)
    rw [HMn.out] at hcp
    go_upto_region 8 with fail
    clear hcp hRr hr0 hr1 hr2
    have hk7 : Kp w6 (w6.setCells bB r (byts mn s)) bB bB := (Kp.refl w6 bB bB).setCells bB r (.inl rfl) _
    have F7 := Lib.hid (F6'.out.store r mn (by omega) s)
    rw [HV2.out] at F7
    have HB7 := Lib.hid (HB6.out.new hk7 hB0)
    obtain ⟨w7, hw7⟩ : ∃ x, w6.setCells bB r (byts mn s) = x := ⟨_, rfl⟩
    rw [hw7] at F7 HB7 ⊢
    clear hw7 hk7 F6' HB6 HS6
    have hmi : (0 : Int) ≤ mn := by omega
    refine wp_region_held (S := fun W => Fl W bB 64 V2 ∧ W.cell? ⟨b, 0, none⟩ = some (.pointer (some ⟨q, 0, none⟩))) (by kernel_rfl) ?_
    change wpAnyH _ _ _ _ _ _ _ _ (World.drew _)
    have hS0 : (fun W => Fl W bB 64 V2 ∧ W.cell? ⟨b, 0, none⟩ = some (.pointer (some ⟨q, 0, none⟩))) w7.drew := ⟨F7.out.below (Below.refl _ _).drew F7.out.lt, (HB7.out.keep (Below.refl _ _).drew).bd.c 0 _ rfl⟩
    have HB8 := Lib.hid (HB7.out.keep (Below.refl _ _).drew)
    obtain ⟨w8, hw8⟩ : ∃ x, World.drew w7 = x := ⟨_, rfl⟩
    rw [hw8] at hS0 HB8 ⊢
    clear hw8
    refine wpAnyH_take (i := 0) (v := ?_) rfl (by kernel_rfl) (by kernel_rfl) (by kernel_rfl) (fun _ _ _ h => h) (Or.inl ⟨by rfl, ?_⟩) hS0 ?_
    rotate_left 1
    · intro W hW
      go_simp
      try with_reducible rfl
    simp only [Act.put, List.getElem_toArray, List.getElem_cons_zero, List.getElem_cons_succ, List.setIfInBounds_toArray, List.set_cons_zero, List.set_cons_succ]
    refine wpAnyH_take (i := 1) (v := ?_) rfl (by kernel_rfl) (by kernel_rfl) (by kernel_rfl) (fun _ _ _ h => h) (Or.inl ⟨by rfl, ?_⟩) hS0 ?_
    rotate_left 1
    · intro W hW
      go_simp
      try with_reducible rfl
    simp only [Act.put, List.getElem_toArray, List.getElem_cons_zero, List.getElem_cons_succ, List.setIfInBounds_toArray, List.set_cons_zero, List.set_cons_succ]
    refine wpAnyH_take (i := 2) (v := ?_) rfl (by kernel_rfl) (by kernel_rfl) (by kernel_rfl) (fun _ _ _ h => h) (Or.inl ⟨by rfl, ?_⟩) hS0 ?_
    rotate_left 1
    · intro W hW
      go_simp
      try with_reducible rfl
    simp only [Act.put, List.getElem_toArray, List.getElem_cons_zero, List.getElem_cons_succ, List.setIfInBounds_toArray, List.set_cons_zero, List.set_cons_succ]
    refine wpAnyH_take (i := 3) (v := ?_) rfl (by kernel_rfl) (by kernel_rfl) (by kernel_rfl) (fun _ _ _ h => h) (Or.inl ⟨by rfl, ?_⟩) hS0 ?_
    rotate_left 1
    · intro W hW
      go_simp
      try with_reducible rfl
    simp only [Act.put, List.getElem_toArray, List.getElem_cons_zero, List.getElem_cons_succ, List.setIfInBounds_toArray, List.set_cons_zero, List.set_cons_succ]
    refine wpAnyH_take (i := 4) (v := ?_) rfl (by kernel_rfl) (by kernel_rfl) (by kernel_rfl) (fun _ _ _ h => h) (Or.inl ⟨by rfl, ?_⟩) hS0 ?_
    rotate_left 1
    · intro W hW
      have c0 := hW.2
      go_simp
      try with_reducible rfl
    simp only [Act.put, List.getElem_toArray, List.getElem_cons_zero, List.getElem_cons_succ, List.setIfInBounds_toArray, List.set_cons_zero, List.set_cons_succ]
    refine wpAnyH_take (i := 5) (v := ?_) rfl (by kernel_rfl) (by kernel_rfl) (by kernel_rfl) (fun _ _ _ h => h) (Or.inl ⟨by rfl, ?_⟩) hS0 ?_
    rotate_left 1
    · intro W hW
      go_simp
      try with_reducible rfl
    simp only [Act.put, List.getElem_toArray, List.getElem_cons_zero, List.getElem_cons_succ, List.setIfInBounds_toArray, List.set_cons_zero, List.set_cons_succ]
    refine wpAnyH_take (i := 6) (v := .agg (byts 64 V2).toArray) rfl (by kernel_rfl) (by kernel_rfl) (by kernel_rfl) (fun _ _ _ h => h) ?_ hS0 ?_
    · exact yieldsIf_load_mid (by rfl) 59 (.tmp 10) rfl bB 0 rfl (byts 64 V2) (.array 64 5) (fun W hW => hW.1.range0) Tryz.arr36 rfl (size36 _)
    simp only [Act.put, List.getElem_toArray, List.getElem_cons_zero, List.getElem_cons_succ, List.setIfInBounds_toArray, List.set_cons_zero, List.set_cons_succ]
    refine wpAnyH_ready (rs := [7]) (by kernel_rfl) (by simp) (AllReadyH.cons rfl (fun KK hKK => ?_) AllReadyH.nil)
    go_simp
    refine (HPu.out w8 HB8.out.gr).mono ?_
    rintro e w9 ⟨rfl, hG, hkk⟩
    have HB9 := Lib.hid (HB8.out.call hG hkk)
    replace hS0 : (fun W => Fl W bB 64 V2 ∧ W.cell? ⟨b, 0, none⟩ = some (.pointer (some ⟨q, 0, none⟩))) w9 := ⟨hS0.1.kf hkk (fun ha => by have := HB8.out.nin hB0; simp only [List.mem_cons, List.not_mem_nil, or_false, not_or] at this ha; omega), HB9.out.bd.c 0 _ rfl⟩
    clear hG hkk
    refine hKK _ _ hS0 ?_
    intro _
    clear hKK KK
    try simp only [Act.put, List.getElem_toArray, List.getElem_cons_zero, List.getElem_cons_succ, List.setIfInBounds_toArray, List.set_cons_zero, List.set_cons_succ]
    refine wpAnyH_take (i := 8) (v := ?_) rfl (by kernel_rfl) (by kernel_rfl) (by kernel_rfl) (fun _ _ _ h => h) (Or.inl ⟨by rfl, ?_⟩) hS0 ?_
    rotate_left 1
    · intro W hW
      go_simp
      try with_reducible rfl
    simp only [Act.put, List.getElem_toArray, List.getElem_cons_zero, List.getElem_cons_succ, List.setIfInBounds_toArray, List.set_cons_zero, List.set_cons_succ]
    refine wpAnyH_take (i := 9) (v := ?_) rfl (by kernel_rfl) (by kernel_rfl) (by kernel_rfl) (fun _ _ _ h => h) (Or.inl ⟨by rfl, ?_⟩) hS0 ?_
    rotate_left 1
    · intro W hW
      go_simp
      try with_reducible rfl
    simp only [Act.put, List.getElem_toArray, List.getElem_cons_zero, List.getElem_cons_succ, List.setIfInBounds_toArray, List.set_cons_zero, List.set_cons_succ]
    refine wpAnyH_done (by kernel_rfl) ?_ _
    clear hS0
    go_wp2_with fail
    go_ret2
    refine .inl ⟨Y, f, S, B, by rw [HMn.out]; rfl, ?_, HLy.out, HSc.out, Hf4.out⟩
    rw [HY.out, HMn.out, HV.out, HV2.out]
    exact HB9.out.mono (Lm.le_refl _) (by omega)
  · have HB2 := Lib.hid (HB1.out.trans hB2)
    have HLy := Lib.hid hLy
    have HSc := Lib.hid hSc
    have HAll := Lib.hid hall
    have HNo := Lib.hid hno
    clear hB2 hLy hSc hall hno HLA HS1 HB1
    go_wp2_with fail
    go_ret2
    exact .inr ⟨Y, f, S, B, rfl, HB2.out.mono (Lm.le_refl _) (by omega), HLy.out, HSc.out, HAll.out, HNo.out⟩
end Go.Proofs.YtbnpgkclnebnmaaGreat
