import Derived.Test.YtgfgdfcedmcjeaaGreatDoorN22
import Derived.Test.YtgfgdfcedmcjeaaGreatDoorN21
import Derived.Lib.SliceRun
/- Files: giveFrom. -/
/- Files: wipeBehind. -/
/- Files: Cut. -/

namespace Go.Proofs.YtgfgdfcedmcjeaaGreatDoor
set_option linter.unusedSimpArgs false
set_option linter.unusedVariables false
open Go.RowKit Go.Maps

variable {ln : Lm}
def nzc (w : World) (b i : Nat) : Nat := match w.cell? ⟨b, i, none⟩ with
  | some (.int _ n) => if n = 0 then 0 else 1
  | _ => 1
theorem nzc_of {w : World} {b i : Nat} {n : Int} (h : w.cell? ⟨b, i, none⟩ = some (.int .i64 n)) : nzc w b i = if n = 0 then 0 else 1 := by
  unfold nzc
  rw [h]
theorem nz_wv (i j : Nat) (hi : i < 256) (hj : j ≤ lenC i + 1) (w : World) (b : Nat) (hV : Vl w b (wvc i j)) : nzc w b 0 + nzc w b 1 + nzc w b 2 = lenC i + 1 - j := by
  obtain ⟨x, y, z, hx, hc⟩ : ∃ x y z : Int, wvc i j = wyc x y z ∧ ((if x = 0 then 0 else 1) + (if y = 0 then 0 else 1) + (if z = 0 then 0 else 1) = lenC i + 1 - j) := by
    by_cases hl : lenC i < j
    · refine ⟨0, 0, 0, if_neg (by omega), ?_⟩
      simp
      omega
    · refine ⟨_, _, _, if_pos (by omega), ?_⟩
      rcases lenC_cases i with ⟨h, e⟩ | ⟨h, h2, e, ep⟩ | ⟨h, e⟩
      · obtain rfl : j = 0 := by omega
        obtain ⟨e1, e2, e3⟩ := wy_dir i h
        rw [show ps i 0 = i from rfl, e1, e2, e3, e, if_neg (by omega)]
        simp
      · have hc : j = 0 ∨ j = 1 := by omega
        rcases hc with rfl | rfl
        · obtain ⟨e1, e2, e3⟩ := wy_sin i h h2
          rw [show ps i 0 = i from rfl, e1, e2, e3, e, if_neg (by omega), if_neg (by omega)]
          simp
        · rw [show ps i 1 = 2000 from ep, e]
          rfl
      · have hc : j = 0 ∨ j = 1 ∨ j = 2 := by omega
        obtain ⟨e1, e2, e3, ep, -⟩ := wy_three i ⟨h, by omega⟩
        obtain ⟨f1, f2, f3⟩ := wy_row ((i - 38) / 32) (by omega)
        rcases hc with rfl | rfl | rfl
        · rw [show ps i 0 = i from rfl, e1, e2, e3, e, if_neg (by omega), if_neg (by omega), if_neg (by omega)]
        · rw [show ps i 1 = 2002 + (i - 38) / 32 from ep, f1, f2, f3, e, if_neg (by omega), if_neg (by omega)]
          simp
        · rw [show ps i 2 = 2001 from rfl, e]
          rfl
  rw [hx] at hV
  rw [nzc_of (hV.c 0 _ rfl), nzc_of (hV.c 1 _ rfl), nzc_of (hV.c 2 _ rfl)]
  exact hc
def mzP (w : World) (v : Value) : Nat := match v with
  | .pointer (some a) => nzc w a.block 0 + nzc w a.block 1 + nzc w a.block 2
  | _ => 0
theorem wayto_prev (k : Nat) (hk : k ≤ 256) (W : World) : Calls Tryz.prog 104 #[.int .i64 ((k : Int) - 1)] W fun e w' => e = .returned (.agg (wP k).toArray) ∧ Below W.heap.size W w' := by
  by_cases h : k = 0
  · subst h
    exact wayto_out _ (.inl (by decide)) W
  · have := wayto_slot (k - 1) (by omega) ((k : Int) - 1) (by omega) W
    unfold wP
    rw [if_neg h]
    exact this
theorem wyS_ps (i j : Nat) (hj : j ≤ lenC i) : wyS (ps i j) = .agg (wvc i j).toArray := by
  unfold wvc
  rw [if_pos hj]
  rfl
theorem Gv.stop {B0 DA NB : Nat} {Kp : Nat → Bool} {Y0 : Nat → Nat → Int} {f0 : Nat → Int} {S0 : Nat → Bool} {b : Nat → Nat} {Y : Nat → Nat → Int} {f : Nat → Int} {S : Nat → Bool} (h : Gv B0 DA NB Kp Y0 f0 S0 b Y f S Kp) : S = Kp := by
  funext c
  cases hk : Kp c
  · cases hs : S c
    · rfl
    · exfalso
      obtain ⟨h1, h2⟩ := h.st c hs hk
      have h3 := h.fi.cl c h1 hs
      obtain ⟨h4, h5⟩ := h.st _ h3 h2
      have h6 := h.fi.cl _ h4 h3
      have h7 := (h.st _ h6 h5).1
      rw [par_top c (h.fi.ok c hs) h1 h4] at h7
      cases h7
  · exact h.rs c (h.kr c hk)
set_option maxHeartbeats 80000000 in
set_option maxRecDepth 200000 in
theorem givefrom_any (b q p t m d gg lab B0 P0 M DA NB N K : Nat) (g : Cf.Ge) (Y0 : Nat → Nat → Int) (f0 : Nat → Int) (b0 : Nat → Nat) (sz keep n0 : Nat) (hsz : f0 3 = sz) (hsz2 : sz ≤ 16384) (hn0 : (sz + 63) / 64 = n0) (hkp : keep ≤ n0) (hFu : Fu B0 DA NB Y0 f0 (ndS n0) b0) (hT0 : Has ln B0) (hT : 0 < keep → ∀ i, i ≤ lenC (keep - 1) → Has ln (DA + (b0 (chS (keep - 1) i) - 1)))
    (hK : K < 300000000) (hg : GG g B0 P0 M DA NB N) (w : World) (h : Bo w w b q p t m d gg lab g B0 NB N ln Y0 K f0) :
    Calls Tryz.prog 78 #[.pointer (some ⟨b, 0, none⟩), .int .i64 keep] w fun e w' => ∃ Y f, e = .returned (.int .i64 0) ∧ Bo w w' b q p t m d gg lab g B0 NB N ln Y (K + 10300) f ∧ Gv B0 DA NB (ndS keep) Y0 f0 (ndS n0) b0 Y f (ndS keep) (ndS keep) := by
  obtain ⟨dW, hu, hd⟩ := Tryz.descWy
  have HU := Lib.hid hu
  have HD := Lib.hid hd
  have hn256 : n0 ≤ 256 := by omega
  have HSz := Lib.hid (fun W hW => size_any b q f0 (by omega) (by omega) W hW)
  rw [hsz] at HSz
  have HSp : Hid (∀ W, Calls Tryz.prog 77 #[.int .i64 sz] W fun e w' => (∃ x, e = .returned (.tuple #[.int .i64 n0, .int .i64 x])) ∧ w' = W) := Lib.hid (fun W => by
    have hds : dataS sz = (n0 : Int) := by unfold dataS; split <;> omega
    have := spread_any sz (by omega) W
    rw [hds] at this
    exact this.mono (by
      rintro e w' ⟨rfl, hw⟩
      exact ⟨⟨_, rfl⟩, hw⟩))
  obtain ⟨s0, s1, s2, hs⟩ : ∃ x y z : Int, wP keep = wyc x y z := by
    unfold wP
    split
    · exact ⟨_, _, _, rfl⟩
    · exact ⟨_, _, _, rfl⟩
  have HWk := Lib.hid (fun W => wayto_prev keep (by omega) W)
  rw [hs] at HWk
  have HGA : Hid (∀ i, keep ≤ i → i < n0 → ∀ j, j ≤ lenC i → (∀ j', j' ≤ j → passV i i j' = false) → ∀ Y f S K', K' < 500000000 → Gv B0 DA NB (ndS keep) Y0 f0 (ndS n0) b0 Y f S (Rk i j) → ∀ W, Bo W W b q p t m d gg lab g B0 NB N ln Y K' f →
      Calls Tryz.prog 107 #[.pointer (some ⟨b, 0, none⟩), .agg (wvc i j).toArray, .agg (wyc s0 s1 s2).toArray] W fun e w' => ∃ Y' f' S', e = .returned (.int .i64 0) ∧ Bo W w' b q p t m d gg lab g B0 NB N ln Y' (K' + 10) f' ∧ Gv B0 DA NB (ndS keep) Y0 f0 (ndS n0) b0 Y' f' S' (Rk i (j + 1))) := Lib.hid (fun i h1 h2 j hj hn Y f S K' hK' hG W hW => by
    obtain ⟨r1, r2, r3, r4⟩ := Rk_step i j (by omega) hj hn
    obtain ⟨p1, p2⟩ := Rk_par keep i j h1 (by omega) hj
    have hnk : ndS keep (ps i j) = false := by
      cases hh : ndS keep (ps i j)
      · rfl
      · rw [ndS_mono h1 _ hh] at r2
        cases r2
    have := giveat_any (ln := ln) b q p t m d gg lab B0 P0 M DA NB N K' g (ndS keep) Y0 f0 (ndS n0) b0 Y f S (Rk i j) hG hFu.us hFu.fi.inj hFu.fi.rng (ps i j) r1 hnk r3 r4 hT0 (fun k1 k2 => by
      obtain ⟨k3, i', k4, k5⟩ := p2 k1 k2
      rw [k5]
      exact hT k3 i' k4) s0 s1 s2 (wvc i (j + 1)).toArray (fun W => up_wv i j (by omega) hj W) (fun W => by
      rw [p1, ← hs]
      exact passes_wv keep i (j + 1) h1 (by omega) (by omega) W) hK' hg W hW
    rw [wyS_ps i j hj] at this
    exact this)
  have HGs := Lib.hid (Gv.start (B0 := B0) (Kp := ndS keep) hFu.fi (fun c hc => ndS_mono hkp c hc))
  have HB := Lib.hid h
  have hk0 : (0 : Int) ≤ keep := by omega
  have hk1 : (keep : Int) ≤ 256 := by omega
  obtain ⟨zi, hzi⟩ : ∃ z : Int, (sz : Int) = z := ⟨_, rfl⟩
  rw [hzi] at HSz HSp
  have hn0i : (n0 : Int) ≤ 256 := by omega
  clear hu hd hsz hn0 hFu hT0 hT hg h hs hzi
  go_enter Tryz.func78, Tryz.ntmps78
  have HB0 := HB.out.bd
  go_wp2_with fail
  refine (HSz.out w HB0).mono ?_
  rintro e wz ⟨rfl, hwz⟩
  rw [hwz]
  clear hwz HSz HB0
  go_wp2_with fail
  refine (HSp.out w).mono ?_
  rintro e wz ⟨⟨xp, rfl⟩, hwz⟩
  rw [hwz]
  clear hwz HSp
  go_wp2_with fail
  refine (HWk.out w).mono ?_
  rintro e w1 ⟨rfl, hb⟩
  have HB1 := Lib.hid (HB.out.keep hb)
  clear hb HWk HB
  go_upto_region 3 with (first | (refine wpList_alloc_list (w := w1) rfl 209 rfl (wyc 0 0 0) Tryz.zeroWy ?_; intro w2 F2 hb2 hz2; simp only [Act.put, List.getElem_toArray, List.getElem_cons_zero, List.getElem_cons_succ, List.setIfInBounds_toArray, List.set_cons_zero, List.set_cons_succ]; refine wpList_store_list rfl 209 (.tmp 7) (.tmp 20) rfl w1.heap.size (wyc 0 0 0) (wyc s0 s1 s2) rfl rfl F2.out rfl (sizeWy _ _ _) (wyc_one _ _ _) ?_; intro w3 F3 HK3; have HQ2 := Lib.hid hb2; clear hb2 F2))
  obtain ⟨bS, hbS⟩ : ∃ x, w1.heap.size = x := ⟨_, rfl⟩
  have hS0 : w.heap.size ≤ bS := by have := HB1.out.kf.size; omega
  have HB3 := Lib.hid ((HB1.out.keep HQ2.out).new HK3.out (by have := HB1.out.kf.size; omega))
  rw [hbS] at F3
  try rw [hbS]
  clear HQ2 HK3 HB1 hbS hz2
  go_wp2_with fail
  go_loopw [8, 9, 10, 11] (fun iv _ _ _ wr => ∃ k : Nat, keep ≤ k ∧ k ≤ n0 ∧ iv = .int .i64 ((k : Int) - 1) ∧ Vl wr bS (wyc s0 s1 s2) ∧ ∃ Y f S, Bo w wr b q p t m d gg lab g B0 NB N ln Y (K + 40 * (n0 - k)) f ∧ Gv B0 DA NB (ndS keep) Y0 f0 (ndS n0) b0 Y f S (ndS k)) (fun iv _ _ _ _ => (Go.RowKit.intOf iv + 1).toNat)
  case atStart => exact ⟨n0, hkp, Nat.le_refl _, rfl, F3.out, Y0, f0, ndS n0, HB3.out.mono (Lm.le_refl _) (by omega), HGs.out⟩
  case round =>
    obtain ⟨k, hk, hkn, rfl, hVS, Y, f, S, hB, hG⟩ := hrel
    obtain ⟨wX, rfl⟩ : ∃ x, x = wr := ⟨wr, rfl⟩
    have HBr := Lib.hid hB
    have HGr := Lib.hid hG
    have FS := Lib.hid hVS
    clear hB hG hVS HB3 F3 HGs
    by_cases hlt : keep < k
    · obtain ⟨i, rfl⟩ : ∃ i, k = i + 1 := ⟨k - 1, by omega⟩
      have hi1 : (((i + 1 : Nat) : Int) - 1) = (i : Int) := by omega
      rw [hi1]
      have hki : keep ≤ i := by omega
      have hki2 : (keep : Int) ≤ i := by omega
      have hi0 : (0 : Int) ≤ i := by omega
      have hi2 : (i : Int) < 256 := by omega
      have hi256 : i < 256 := by omega
      have HWa := Lib.hid (fun W => wayto_prev i (by omega) W)
      have HWb := Lib.hid (fun W => wayto_slot i hi256 (i : Int) rfl W)
      rw [show wyS i = .agg (wvc i 0).toArray from wyS_ps i 0 (Nat.zero_le _)] at HWb
      obtain ⟨a0, a1, a2, ha⟩ : ∃ x y z : Int, wP i = wyc x y z := by
        unfold wP
        split
        · exact ⟨_, _, _, rfl⟩
        · exact ⟨_, _, _, rfl⟩
      rw [ha] at HWa
      obtain ⟨c0, c1, c2, hc⟩ : ∃ x y z : Int, wvc i 0 = wyc x y z := ⟨_, _, _, if_pos (Nat.zero_le _)⟩
      have HWc := Lib.hid hc
      rw [hc] at HWb
      have HWA := Lib.hid ha
      clear ha hc hlt hi1 hk
      go_wp2_with fail
      refine (HWa.out wX).mono ?_
      rintro e w4 ⟨rfl, hb⟩
      have HB4 := Lib.hid (HBr.out.keep hb)
      have FS4 := Lib.hid (FS.out.keep hb)
      clear hb HWa HBr FS
      go_upto_region 7 with (first | (refine wpList_alloc_list (w := w4) rfl 209 rfl (wyc 0 0 0) Tryz.zeroWy ?_; intro w5 F5 hb5 hz5; simp only [Act.put, List.getElem_toArray, List.getElem_cons_zero, List.getElem_cons_succ, List.setIfInBounds_toArray, List.set_cons_zero, List.set_cons_succ]; refine wpList_store_list rfl 209 (.tmp 9) (.tmp 30) rfl w4.heap.size (wyc 0 0 0) (wyc a0 a1 a2) rfl rfl F5.out rfl (sizeWy _ _ _) (wyc_one _ _ _) ?_; intro w6 F6 HK6; have HQ5 := Lib.hid hb5; clear hb5 F5))
      obtain ⟨bA, hbA⟩ : ∃ x, w4.heap.size = x := ⟨_, rfl⟩
      have hA0 : w.heap.size ≤ bA := by have := HB4.out.kf.size; omega
      have hSA : bS < bA := by have := FS4.out.lt; omega
      have HB6 := Lib.hid ((HB4.out.keep HQ5.out).new HK6.out (by have := HB4.out.kf.size; omega))
      have FS6 := Lib.hid ((FS4.out.keep HQ5.out).kp HK6.out (by omega) (by omega))
      rw [hbA] at F6
      try rw [hbA]
      clear HQ5 HK6 HB4 FS4 hbA hz5
      go_wp2_with fail
      refine (HWb.out w6).mono ?_
      rintro e w7 ⟨rfl, hb⟩
      have HB7 := Lib.hid (HB6.out.keep hb)
      have FS7 := Lib.hid (FS6.out.keep hb)
      have FA7 := Lib.hid (F6.out.keep hb)
      clear hb HWb HB6 FS6 F6
      go_wp2_with (first | (refine wpList_alloc_list (w := w7) rfl 209 rfl (wyc 0 0 0) Tryz.zeroWy ?_; intro w8 F8 hb8 hz8; simp only [Act.put, List.getElem_toArray, List.getElem_cons_zero, List.getElem_cons_succ, List.setIfInBounds_toArray, List.set_cons_zero, List.set_cons_succ]; refine wpList_store_list rfl 209 (.tmp 10) (.tmp 32) rfl w7.heap.size (wyc 0 0 0) (wyc c0 c1 c2) rfl rfl F8.out rfl (sizeWy _ _ _) (wyc_one _ _ _) ?_; intro w9 F9 HK9; have HQ8 := Lib.hid hb8; clear hb8 F8))
      obtain ⟨bW, hbW⟩ : ∃ x, w7.heap.size = x := ⟨_, rfl⟩
      have hW0 : w.heap.size ≤ bW := by have := HB7.out.kf.size; omega
      have hAW : bA < bW := by have := FA7.out.lt; omega
      have HB9 := Lib.hid ((HB7.out.keep HQ8.out).new HK9.out (by have := HB7.out.kf.size; omega))
      have FS9 := Lib.hid ((FS7.out.keep HQ8.out).kp HK9.out (by omega) (by omega))
      have FA9 := Lib.hid ((FA7.out.keep HQ8.out).kp HK9.out (by omega) (by omega))
      rw [hbW] at F9
      try rw [hbW]
      rw [← HWc.out] at F9
      clear HQ8 HK9 HB7 FS7 FA7 hbW hz8 HWc
      try simp only [Act.put, List.getElem_toArray, List.getElem_cons_zero, List.getElem_cons_succ, List.setIfInBounds_toArray, List.set_cons_zero, List.set_cons_succ]
      go_loopw [10, 11] (fun pw _ wr => ∃ j bw : Nat, j ≤ lenC i + 1 ∧ (∀ j', j' < j → passV i i j' = false) ∧ pw = .pointer (some ⟨bw, 0, none⟩) ∧ bA < bw ∧ Vl wr bw (wvc i j) ∧ Vl wr bA (wyc a0 a1 a2) ∧ Vl wr bS (wyc s0 s1 s2) ∧ ∃ Y f S, Bo w wr b q p t m d gg lab g B0 NB N ln Y (K + 40 * (n0 - (i + 1)) + 10 * j) f ∧ Gv B0 DA NB (ndS keep) Y0 f0 (ndS n0) b0 Y f S (Rk i j)) (fun pw _ wr => mzP wr pw)
      case atStart => exact ⟨0, bW, Nat.zero_le _, fun j' hh => absurd hh (Nat.not_lt_zero _), rfl, hAW, F9.out, FA9.out, FS9.out, Y, f, S, HB9.out.mono (Lm.le_refl _) (by omega), HGr.out⟩
      case round =>
        obtain ⟨j, bw, hj, hn, rfl, hbw, hVw, hVA, hVS, Y, f, S, hB, hG⟩ := hrel
        have HBq := Lib.hid hB
        have HGq := Lib.hid hG
        have FWq := Lib.hid hVw
        have FAq := Lib.hid hVA
        have FSq := Lib.hid hVS
        have HNq := Lib.hid hn
        have hb0w : w.heap.size ≤ bw := by omega
        have HMz := Lib.hid (nz_wv i j hi256 hj wr bw hVw)
        clear hB hG hVw hVA hVS hn HB9 FS9 FA9 F9 HGr
        have HPa := Lib.hid (fun W => passes_wv i i j (Nat.le_refl _) hi256 hj W)
        rw [HWA.out] at HPa
        obtain ⟨x0, x1, x2, hx⟩ : ∃ x y z : Int, wvc i j = wyc x y z := by
          unfold wvc
          split
          · exact ⟨_, _, _, rfl⟩
          · exact ⟨_, _, _, rfl⟩
        rw [hx] at HPa FWq
        have HX := Lib.hid hx
        obtain ⟨pv, hpv⟩ : ∃ x, passV i i j = x := ⟨_, rfl⟩
        rw [hpv] at HPa
        have HPv := Lib.hid hpv
        clear hx hpv
        have HRA := Lib.hid FAq.out.range0
        have HRW := Lib.hid FWq.out.range0
        go_wp2_with (first | (refine wpList_load_mid rfl 209 _ rfl bA 0 rfl (wyc a0 a1 a2) dW HRA.out HU.out HD.out (sizeWy _ _ _) ?_) | (refine wpList_load_mid rfl 209 _ rfl bw 0 rfl (wyc x0 x1 x2) dW HRW.out HU.out HD.out (sizeWy _ _ _) ?_))
        refine (HPa.out wr).mono ?_
        rintro e w10 ⟨rfl, hb⟩
        have HBt := Lib.hid (HBq.out.keep hb)
        have FWt := Lib.hid (FWq.out.keep hb)
        have FAt := Lib.hid (FAq.out.keep hb)
        have FSt := Lib.hid (FSq.out.keep hb)
        clear hb HPa HBq FWq FAq FSq HRA HRW
        cases pv
        · have hjl : j ≤ lenC i := by
            have := HPv.out
            unfold passV at this
            rw [Bool.or_eq_false_iff] at this
            have := this.1
            simp at this
            exact this
          have hn2 : ∀ j', j' ≤ j → passV i i j' = false := fun j' hh => by
            by_cases e : j' = j
            · rw [e]
              exact HPv.out
            · exact HNq.out j' (by omega)
          have HGa := Lib.hid (HGA.out i hki (by omega) j hjl hn2 Y f S (K + 40 * (n0 - (i + 1)) + 10 * j) (by have := (lenC_cases i); omega) HGq.out w10 HBt.out.self)
          have HUp := Lib.hid (fun W => up_wv i j hi256 hjl W)
          rw [wyS_ps i j hjl] at HUp
          rw [HX.out] at HGa HUp
          obtain ⟨y0, y1, y2, hy⟩ : ∃ x y z : Int, wvc i (j + 1) = wyc x y z := by
            unfold wvc
            split
            · exact ⟨_, _, _, rfl⟩
            · exact ⟨_, _, _, rfl⟩
          rw [hy] at HUp
          have HY := Lib.hid hy
          have HN2 := Lib.hid hn2
          clear hy hn2
          have HRS := Lib.hid FSt.out.range0
          have HRW := Lib.hid FWt.out.range0
          go_wp2_with (first | (refine wpList_load_mid rfl 209 _ rfl bw 0 rfl (wyc x0 x1 x2) dW HRW.out HU.out HD.out (sizeWy _ _ _) ?_) | (refine wpList_load_mid rfl 209 _ rfl bS 0 rfl (wyc s0 s1 s2) dW HRS.out HU.out HD.out (sizeWy _ _ _) ?_))
          refine HGa.out.mono ?_
          rintro e w11 ⟨Y', f', S', rfl, hB11, hG11⟩
          have FWu := Lib.hid (FWt.out.kf hB11.kf (fun ha => by have := HBt.out.nin hb0w; simp only [List.mem_cons, List.not_mem_nil, or_false, not_or] at this ha; omega))
          have FAu := Lib.hid (FAt.out.kf hB11.kf (fun ha => by have := HBt.out.nin hA0; simp only [List.mem_cons, List.not_mem_nil, or_false, not_or] at this ha; omega))
          have FSu := Lib.hid (FSt.out.kf hB11.kf (fun ha => by have := HBt.out.nin hS0; simp only [List.mem_cons, List.not_mem_nil, or_false, not_or] at this ha; omega))
          have HBu := Lib.hid (HBt.out.trans hB11)
          have HGu := Lib.hid hG11
          clear hB11 hG11 HGa HBt FWt FAt FSt HRS HRW HGq
          have HRW := Lib.hid FWu.out.range0
          go_upto_region 9 with (first | (refine wpList_load_mid rfl 209 _ rfl bw 0 rfl (wyc x0 x1 x2) dW HRW.out HU.out HD.out (sizeWy _ _ _) ?_) | (refine wpList_alloc_list (w := w11) rfl 209 rfl (wyc 0 0 0) Tryz.zeroWy ?_; intro w12 F12 hb12 hz12; simp only [Act.put, List.getElem_toArray, List.getElem_cons_zero, List.getElem_cons_succ, List.setIfInBounds_toArray, List.set_cons_zero, List.set_cons_succ]; refine wpList_store_list rfl 209 (.tmp 10) (.tmp 46) rfl w11.heap.size (wyc 0 0 0) (wyc x0 x1 x2) rfl rfl F12.out rfl (sizeWy _ _ _) (wyc_one _ _ _) ?_; intro w13 F13 HK13; have HQ12 := Lib.hid hb12; clear hb12 F12))
          obtain ⟨bN, hbN⟩ : ∃ x, w11.heap.size = x := ⟨_, rfl⟩
          have hN0 : w.heap.size ≤ bN := by have := HBu.out.kf.size; omega
          have hWN : bw < bN := by have := FWu.out.lt; omega
          have HBv := Lib.hid ((HBu.out.keep HQ12.out).new HK13.out (by have := HBu.out.kf.size; omega))
          have FAv := Lib.hid ((FAu.out.keep HQ12.out).kp HK13.out (by omega) (by omega))
          have FSv := Lib.hid ((FSu.out.keep HQ12.out).kp HK13.out (by omega) (by omega))
          rw [hbN] at F13
          try rw [hbN]
          clear HQ12 HK13 HBu FAu FSu FWu HRW hbN hz12
          have HRN := Lib.hid F13.out.range0
          go_wp2_with (refine wpList_load_mid rfl 209 _ rfl bN 0 rfl (wyc x0 x1 x2) dW HRN.out HU.out HD.out (sizeWy _ _ _) ?_)
          refine (HUp.out w13).mono ?_
          rintro e w14 ⟨rfl, hb⟩
          have HBx := Lib.hid (HBv.out.keep hb)
          have FAx := Lib.hid (FAv.out.keep hb)
          have FSx := Lib.hid (FSv.out.keep hb)
          have FNx := Lib.hid (F13.out.keep hb)
          clear hb HUp HBv FAv FSv F13 HRN
          have FNy := Lib.hid (FNx.out.stored (wyc y0 y1 y2) rfl)
          have hk15 : Kp w14 (w14.setCells bN 0 (wyc y0 y1 y2)) bN bN := (Kp.refl w14 bN bN).setCells bN 0 (.inl rfl) _
          have HBy := Lib.hid (HBx.out.new hk15 hN0)
          have FAy := Lib.hid (FAx.out.kp hk15 (by omega) (by omega))
          have FSy := Lib.hid (FSx.out.kp hk15 (by omega) (by omega))
          clear hk15
          go_wp2_with (refine wpList_store_mid rfl 209 _ _ rfl bN 0 (wyc y0 y1 y2).toArray rfl rfl (FNx.out.there0 3 rfl) (sizeWy _ _ _) (all_oneCell_toArray (wyc_one _ _ _)) ?_)
          try simp only [Act.put]
          go_roundw
          case rel =>
            refine ⟨j + 1, bN, by omega, fun j' hh => HN2.out j' (by omega), rfl, by omega, ?_, FAy.out, FSy.out, Y', f', S', HBy.out.mono (Lm.le_refl _) (by omega), HGu.out⟩
            rw [HY.out]
            exact FNy.out
          case measure =>
            have h1 := HMz.out
            have h2 := nz_wv i (j + 1) hi256 (by omega) _ bN (by rw [HY.out]; exact FNy.out)
            show mzP _ (.pointer (some ⟨bN, 0, none⟩)) < mzP _ (.pointer (some ⟨bw, 0, none⟩))
            unfold mzP
            simp only []
            omega
        · have HSt := Lib.hid (Rk_stop i j hi256 hj HPv.out HNq.out)
          go_wp2_with fail
          go_roundw
          case rel =>
            refine ⟨i, hki, by omega, by go_num, FSt.out, Y, f, S, HBt.out.mono (Lm.le_refl _) (by have := lenC_cases i; omega), ?_⟩
            rw [← HSt.out]
            exact HGq.out
          case measure => (simp [Go.RowKit.intOf]; try omega)
    · obtain rfl : k = keep := by omega
      have hSt := HGr.out.stop
      rw [hSt] at HGr
      clear hSt
      have hk2 : (k : Int) - 1 < k := by omega
      go_wp2_with fail
      go_ret
      exact ⟨Y, f, rfl, HBr.out.mono (Lm.le_refl _) (by omega), HGr.out⟩
end Go.Proofs.YtgfgdfcedmcjeaaGreatDoor

namespace Go.Proofs.YtgfgdfcedmcjeaaGreatDoor
set_option linter.unusedSimpArgs false
set_option linter.unusedVariables false
open Go.RowKit Go.Maps

variable {ln : Lm}
theorem rep_byts (n : Nat) : List.replicate n (Value.int .u8 0) = byts n fun _ => 0 := by
  refine List.ext_getElem? fun j => ?_
  by_cases h : j < n
  · rw [byts_get _ h, List.getElem?_replicate, if_pos h]
  · rw [List.getElem?_eq_none (by simp; omega), List.getElem?_eq_none (by rw [byts_len]; omega)]
theorem Tryz.zero5v (w : World) : (zeroValue 5).run Tryz.prog w = .ok (.int .u8 0) w := by
  obtain ⟨i, hi, hz, -, -⟩ := Tryz.info5i
  simp [zeroValue, typeInfo, hi, hz]
theorem run_clear_mid (w : World) (ty : TypeId) (b o n c : Nat) (hn : 0 < n) (hc : ∀ j, j < n → (w.cell? ⟨b, o + j, none⟩).isSome = true) (hf : ∀ j, j < n → w.frozen? ⟨b, o + j, none⟩ = false) :
    (Builtin.clear_ #[27] ty #[.slice (some ⟨b, o, none⟩) n c]).run Tryz.prog w = .ok (.tuple #[]) (w.setCells b o (byts n fun _ => 0)) := by
  have := Lib.run_clear_slice (P := Tryz.prog) w 27 5 ty (.int .u8 0) Tryz.sl34 Tryz.zero5v rfl rfl b o n c hn hc hf
  rw [rep_byts] at this
  exact this
set_option maxHeartbeats 20000000 in
set_option maxRecDepth 100000 in
theorem wipe_any (b q p t m d gg lab B0 P0 M DA NB N K : Nat) (g : Cf.Ge) (Y : Nat → Nat → Int) (f : Nat → Int) (S : Nat → Bool) (B : Nat → Nat) (hF : Fi DA NB Y f S B) (o : Nat) (ho : o < 16384) (hr0 : ¬ o % 64 = 0) (hS : S (o / 64) = true) (hT : Has ln (DA + (B (o / 64) - 1)))
    (hK : K < 290000000) (hg : GG g B0 P0 M DA NB N) (w : World) (h : Bo w w b q p t m d gg lab g B0 NB N ln Y K f) :
    Calls Tryz.prog 79 #[.pointer (some ⟨b, 0, none⟩), .int .i64 o] w fun e w' => e = .returned (.int .i64 0) ∧ Bo w w' b q p t m d gg lab g B0 NB N ln (vput (DA + (B (o / 64) - 1)) (upd (Y (DA + (B (o / 64) - 1))) (o % 64) (64 - o % 64) fun _ => 0) Y) (K + 4) f := by
  have HRD := Lib.hid (fun W hW => read_slot (ln := ln) b q p t m d gg lab B0 P0 M DA NB N K g Y f S B hF o ho hS (by omega) hg W hW)
  obtain ⟨hy1, hy2⟩ := hF.rng _ hS
  have hby := h.gr.rd.vb (DA + (B (o / 64) - 1))
  obtain ⟨y, hy⟩ : ∃ y, B (o / 64) = y := ⟨_, rfl⟩
  rw [hy] at HRD hy1 hy2 hby hT ⊢
  obtain ⟨V, hV⟩ : ∃ V, Y (DA + (y - 1)) = V := ⟨_, rfl⟩
  rw [hV] at HRD hby ⊢
  obtain ⟨r, hr⟩ : ∃ r, o % 64 = r := ⟨_, rfl⟩
  have hr64 : r < 64 := by omega
  rw [hr] at hr0 ⊢
  obtain ⟨V2, hV2⟩ : ∃ V2, upd V r (64 - r) (fun _ => 0) = V2 := ⟨_, rfl⟩
  have hby2 : Byt V2 := by
    rw [← hV2]
    intro j hj
    unfold upd
    split
    · exact ⟨Int.le_refl _, (by show (0 : Int) < 256; decide)⟩
    · exact hby j hj
  rw [hV2]
  have HPu := Lib.hid (fun W hW => gput_in (ln := ln) q p t m d gg lab B0 P0 M DA NB N (K + 3) g Y y hy1 hy2 V2 hby2 hT hg W hW)
  have HV2 := Lib.hid hV2
  have HB := Lib.hid h
  obtain ⟨yi, hyi⟩ : ∃ z : Int, (y : Int) = z := ⟨_, rfl⟩
  rw [hyi] at HRD HPu
  obtain ⟨oi, hoi⟩ : ∃ z : Int, (o : Int) = z := ⟨_, rfl⟩
  have ho0 : 0 ≤ oi := by omega
  have ho1 : oi < 16384 := by omega
  have HR : Hid (oi % 64 = (r : Int)) := Lib.hid (by omega)
  rw [hoi] at HRD ⊢
  have hri : ¬ ((r : Int) = 0) := by omega
  clear hF hS hT hg h hy hV hr hV2 hyi hoi hy1 hy2 hby hby2 ho hr0
  have hRr := HR.out
  have hrr0 : (0 : Int) ≤ r := by omega
  have hrr1 : (r : Int) < 64 := by omega
  have hrr2 : (r : Int) ≤ 64 := by omega
  go_enter Tryz.func79, Tryz.ntmps79
  go_wp2_with fail
  refine (HRD.out w HB.out).mono ?_
  rintro e w3 ⟨rfl, hB3⟩
  have HB3 := Lib.hid hB3
  have hs3 : w.heap.size ≤ w3.heap.size := hB3.kf.size
  clear hB3 HRD
  go_upto_region 7 with (first | (refine wpList_alloc_byts (w := w3) rfl 157 64 rfl Tryz.zero36 ?_; intro w5 F5 hb5 hz5; simp only [Act.put, List.getElem_toArray, List.getElem_cons_zero, List.getElem_cons_succ, List.setIfInBounds_toArray, List.set_cons_zero, List.set_cons_succ]) | (refine wpList_store_blk rfl (.tmp 7) (.tmp 18) rfl w3.heap.size 0 64 (fun _ => 0) V F5.out (by omega) rfl rfl ?_; intro w6 F6 HK6; have HB5 := Lib.hid hb5; clear hb5 F5))
  obtain ⟨bB, hbB⟩ : ∃ x, w3.heap.size = x := ⟨_, rfl⟩
  have hB0 : w.heap.size ≤ bB := by omega
  have HB6 := Lib.hid ((HB3.out.keep HB5.out).new HK6.out (by omega))
  have F6' := Lib.hid (F6.out.congr (fun j hj => upd_zero 64 V j hj _))
  rw [hbB] at F6'
  try rw [hbB]
  clear F6 HK6 HB5 HB3 hbB hz5 hs3
  have hcl := fun ty => run_clear_mid w6 ty bB r (64 - r) (64 - r) (by omega) (fun j hj => by rw [F6'.out.c (r + j) (by omega)]; rfl) (fun j hj => F6'.out.z (r + j) (by omega))
  go_upto_region 8 with fail
  clear hcl hRr hrr0 hrr1 hrr2
  have hk7 : Kp w6 (w6.setCells bB r (byts (64 - r) fun _ => 0)) bB bB := (Kp.refl w6 bB bB).setCells bB r (.inl rfl) _
  have F7 := Lib.hid (F6'.out.store r (64 - r) (by omega) (fun _ => 0))
  rw [HV2.out] at F7
  have HB7 := Lib.hid (HB6.out.new hk7 hB0)
  obtain ⟨w7, hw7⟩ : ∃ x, w6.setCells bB r (byts (64 - r) fun _ => 0) = x := ⟨_, rfl⟩
  rw [hw7] at F7 HB7 ⊢
  clear hw7 hk7 F6' HB6
  refine wp_region_held (S := fun W => Fl W bB 64 V2 ∧ W.cell? ⟨b, 0, none⟩ = some (.pointer (some ⟨q, 0, none⟩))) (by kernel_rfl) ?_
  change wpAnyH _ _ _ _ _ _ _ _ (World.drew _)
  have hS0 : (fun W => Fl W bB 64 V2 ∧ W.cell? ⟨b, 0, none⟩ = some (.pointer (some ⟨q, 0, none⟩))) w7.drew := ⟨F7.out.below (Below.refl _ _).drew F7.out.lt, (HB7.out.keep (Below.refl _ _).drew).bd.c 0 _ rfl⟩
  have HB8 := Lib.hid (HB7.out.keep (Below.refl _ _).drew)
  obtain ⟨w8, hw8⟩ : ∃ x, World.drew w7 = x := ⟨_, rfl⟩
  rw [hw8] at hS0 HB8 ⊢
  clear hw8 HB7 F7
  refine wpAnyH_take (i := 0) (v := ?_) rfl (by kernel_rfl) (by kernel_rfl) (by kernel_rfl) (fun _ _ _ h => h) (Or.inl ⟨by rfl, ?_⟩) hS0 ?_
  rotate_left 1
  · intro W hW
    go_simp
    try with_reducible rfl
  simp only [Act.put, List.getElem_toArray, List.getElem_cons_zero, List.getElem_cons_succ, List.setIfInBounds_toArray, List.set_cons_zero, List.set_cons_succ]
  refine wpAnyH_take (i := 1) (v := ?_) rfl (by kernel_rfl) (by kernel_rfl) (by kernel_rfl) (fun _ _ _ h => h) (Or.inl ⟨by rfl, ?_⟩) hS0 ?_
  rotate_left 1
  · intro W hW
    go_simp
    try with_reducible rfl
  simp only [Act.put, List.getElem_toArray, List.getElem_cons_zero, List.getElem_cons_succ, List.setIfInBounds_toArray, List.set_cons_zero, List.set_cons_succ]
  refine wpAnyH_take (i := 2) (v := ?_) rfl (by kernel_rfl) (by kernel_rfl) (by kernel_rfl) (fun _ _ _ h => h) (Or.inl ⟨by rfl, ?_⟩) hS0 ?_
  rotate_left 1
  · intro W hW
    go_simp
    try with_reducible rfl
  simp only [Act.put, List.getElem_toArray, List.getElem_cons_zero, List.getElem_cons_succ, List.setIfInBounds_toArray, List.set_cons_zero, List.set_cons_succ]
  refine wpAnyH_take (i := 3) (v := ?_) rfl (by kernel_rfl) (by kernel_rfl) (by kernel_rfl) (fun _ _ _ h => h) (Or.inl ⟨by rfl, ?_⟩) hS0 ?_
  rotate_left 1
  · intro W hW
    have c0 := hW.2
    go_simp
    try with_reducible rfl
  simp only [Act.put, List.getElem_toArray, List.getElem_cons_zero, List.getElem_cons_succ, List.setIfInBounds_toArray, List.set_cons_zero, List.set_cons_succ]
  refine wpAnyH_take (i := 4) (v := ?_) rfl (by kernel_rfl) (by kernel_rfl) (by kernel_rfl) (fun _ _ _ h => h) (Or.inl ⟨by rfl, ?_⟩) hS0 ?_
  rotate_left 1
  · intro W hW
    go_simp
    try with_reducible rfl
  simp only [Act.put, List.getElem_toArray, List.getElem_cons_zero, List.getElem_cons_succ, List.setIfInBounds_toArray, List.set_cons_zero, List.set_cons_succ]
  refine wpAnyH_take (i := 5) (v := .agg (byts 64 V2).toArray) rfl (by kernel_rfl) (by kernel_rfl) (by kernel_rfl) (fun _ _ _ h => h) ?_ hS0 ?_
  · exact yieldsIf_load_mid (by rfl) 157 (.tmp 7) rfl bB 0 rfl (byts 64 V2) (.array 64 5) (fun W hW => hW.1.range0) Tryz.arr36 rfl (size36 _)
  simp only [Act.put, List.getElem_toArray, List.getElem_cons_zero, List.getElem_cons_succ, List.setIfInBounds_toArray, List.set_cons_zero, List.set_cons_succ]
  refine wpAnyH_ready (rs := [6]) (by kernel_rfl) (by simp) (AllReadyH.cons rfl (fun KK hKK => ?_) AllReadyH.nil)
  go_simp
  refine (HPu.out w8 HB8.out.gr).mono ?_
  rintro e w9 ⟨rfl, hG, hkk⟩
  have HB9 := Lib.hid (HB8.out.call hG hkk)
  replace hS0 : (fun W => Fl W bB 64 V2 ∧ W.cell? ⟨b, 0, none⟩ = some (.pointer (some ⟨q, 0, none⟩))) w9 := ⟨hS0.1.kf hkk (fun ha => by have := HB8.out.nin hB0; simp only [List.mem_cons, List.not_mem_nil, or_false, not_or] at this ha; omega), HB9.out.bd.c 0 _ rfl⟩
  clear hG hkk
  refine hKK _ _ hS0 ?_
  intro _
  clear hKK KK
  try simp only [Act.put, List.getElem_toArray, List.getElem_cons_zero, List.getElem_cons_succ, List.setIfInBounds_toArray, List.set_cons_zero, List.set_cons_succ]
  refine wpAnyH_take (i := 7) (v := ?_) rfl (by kernel_rfl) (by kernel_rfl) (by kernel_rfl) (fun _ _ _ h => h) (Or.inl ⟨by rfl, ?_⟩) hS0 ?_
  rotate_left 1
  · intro W hW
    go_simp
    try with_reducible rfl
  simp only [Act.put, List.getElem_toArray, List.getElem_cons_zero, List.getElem_cons_succ, List.setIfInBounds_toArray, List.set_cons_zero, List.set_cons_succ]
  refine wpAnyH_done (by kernel_rfl) ?_ _
  clear hS0
  go_wp2_with fail
  go_ret
  exact ⟨rfl, HB9.out.mono (Lm.le_refl _) (by omega)⟩
end Go.Proofs.YtgfgdfcedmcjeaaGreatDoor

namespace Go.Proofs.YtgfgdfcedmcjeaaGreatDoor
set_option linter.unusedSimpArgs false
set_option linter.unusedVariables false
open Go.RowKit Go.Maps

variable {ln : Lm}
theorem vput_self (k : Nat) (V : Nat → Nat → Int) : vput k (V k) V = V := by
  funext x
  unfold vput
  split
  · rename_i h
    rw [h]
  · rfl
theorem wipe_none (b q p t m d gg lab B0 NB N K : Nat) (g : Cf.Ge) (Y : Nat → Nat → Int) (f : Nat → Int) (o : Nat) (hr : o % 64 = 0) (ho : o ≤ 16384) (w : World) (h : Bo w w b q p t m d gg lab g B0 NB N ln Y K f) :
    Calls Tryz.prog 79 #[.pointer (some ⟨b, 0, none⟩), .int .i64 o] w fun e w' => e = .returned (.int .i64 0) ∧ Bo w w' b q p t m d gg lab g B0 NB N ln Y K f := by
  have HB := Lib.hid h
  obtain ⟨oi, hoi⟩ : ∃ z : Int, (o : Int) = z := ⟨_, rfl⟩
  have ho0 : 0 ≤ oi := by omega
  have ho1 : oi ≤ 16384 := by omega
  have hR : oi % 64 = 0 := by omega
  rw [hoi]
  clear h hoi hr ho
  go_enter Tryz.func79, Tryz.ntmps79
  go_wp2_with fail
  go_ret
  exact ⟨rfl, HB.out⟩
theorem Tab.ok {P0 M : Nat} {Y V : Nat → Nat → Int} (h : Tab P0 M Y V) (n : Nat) (h1 : 1 ≤ n) (h2 : n ≤ M) : NdOk (V n) := (h n h1 h2).2.1
set_option maxHeartbeats 40000000 in
set_option maxRecDepth 200000 in
theorem fcut_in (q p t m d gg lab B0 P0 M DA NB N K : Nat) (g : Cf.Ge) (Y0 V : Nat → Nat → Int) (b0 : Nat → Nat) (num : Nat) (h1 : 1 ≤ num) (h2 : num ≤ M) (hkd : ¬ V num 0 = 0) (hlk : 0 < V num 1) (sz : Nat) (hsz : V num 3 = sz) (hsz2 : sz ≤ 16384)
    (hFu : Fu B0 DA NB Y0 (V num) (ndS ((sz + 63) / 64)) b0) (hI : Tab P0 M Y0 V) (hT0 : Has ln B0) (hTB : Has ln (P0 + (num - 1) / 2)) (hK : K < 200000000) (hg : GG g B0 P0 M DA NB N) (w : World) (h : Gr w q p t m d gg lab g B0 NB N ln Y0 K)
    (x : Nat) (hx : x ≤ sz) (hmb : mbl (V num 0) (x : Nat) = true) (hT : 0 < x → ∀ i, i ≤ lenC ((x + 63) / 64 - 1) → Has ln (DA + (b0 (chS ((x + 63) / 64 - 1) i) - 1))) (hz : ∀ i, sz ≤ i → i < 64 * ((sz + 63) / 64) → ctF DA Y0 b0 i = 0) :
    Calls Tryz.prog 43 #[.pointer (some ⟨q, 0, none⟩), .int .i64 num, .int .i64 x] w fun e w' => ∃ (Y : Nat → Nat → Int) (f : Nat → Int), e = .returned (.int .i64 0) ∧ Gr w' q p t m d gg lab g B0 NB N ln Y (K + 11000) ∧ Kf w w' [t, m, d, gg] ∧ Tab P0 M Y (vput num f V) ∧ Fu B0 DA NB Y f (ndS ((x + 63) / 64)) b0 ∧ f 0 = V num 0 ∧ f 1 = V num 1 ∧ f 2 = V num 2 ∧ f 3 = (x : Nat)
      ∧ (∀ z, z ≠ B0 → z ≠ P0 + (num - 1) / 2 → (∀ c, ndS ((x + 63) / 64) c = true → z ≠ DA + (b0 c - 1)) → Y z = Y0 z)
      ∧ (∀ j, j < NB → (bt Y B0 j = true ↔ bt Y0 B0 j = true ∧ ¬ ∃ c, ndS ((sz + 63) / 64) c = true ∧ ndS ((x + 63) / 64) c = false ∧ b0 c = j + 1))
      ∧ (∀ i, i < 64 * ((x + 63) / 64) → ctF DA Y b0 i = if i < x then ctF DA Y0 b0 i else 0) := by
  obtain ⟨d27, hu, hd⟩ := Tryz.desc27
  have HU := Lib.hid hu
  have HD := Lib.hid hd
  have HO := Lib.hid (fopen_in (ln := ln) q p t m d gg lab B0 P0 M DA NB N K g Y0 V num h1 h2 hkd (by omega) hI hg w h)
  obtain ⟨f0, hf⟩ : ∃ f, V num = f := ⟨_, rfl⟩
  have hok := hI.ok num h1 h2
  rw [hf] at HO hsz hFu hlk hmb hok ⊢
  have HSz := Lib.hid (fun b q W hW => size_any b q f0 (by omega) (by omega) W hW)
  rw [hsz] at HSz
  obtain ⟨n0, hn0⟩ : ∃ n, (sz + 63) / 64 = n := ⟨_, rfl⟩
  obtain ⟨n1, hn1⟩ : ∃ n, (x + 63) / 64 = n := ⟨_, rfl⟩
  rw [hn0] at hFu hz
  rw [hn1] at hT
  rw [hn0, hn1]
  have h0lt : ∀ a ∈ [q, p, t, m, d, gg], a < w.heap.size := fun a ha => by
    obtain ⟨l1, l2, l3, l4, l5, l6⟩ := h.lts
    simp only [List.mem_cons, List.not_mem_nil, or_false] at ha
    rcases ha with rfl | rfl | rfl | rfl | rfl | rfl <;> assumption
  have H0 := Lib.hid h0lt
  have hx0 : (0 : Int) ≤ x := by omega
  have hx1 : (x : Int) ≤ 16384 := by omega
  have hxz : (x : Int) ≤ sz := by omega
  have hs1 : (sz : Int) ≤ 16384 := by omega
  have HF := Lib.hid hf
  have HI := Lib.hid hI
  have HFu := Lib.hid hFu
  have HZ := Lib.hid hz
  have HSZ := Lib.hid hsz
  have d1 : decide ((x : Int) < 0) = false := decide_eq_false (by omega)
  have d2 : decide ((sz : Int) < x) = false := decide_eq_false (by omega)
  by_cases hxs : x = sz
  · subst hxs
    obtain rfl : n0 = n1 := by omega
    obtain ⟨xi, hxi⟩ : ∃ z : Int, (x : Int) = z := ⟨_, rfl⟩
    have HXI := Lib.hid hxi
    rw [hxi] at HSz d1 d2 hx0 hx1 ⊢
    clear h1 h2 hkd hsz hFu hI hg h hf h0lt hlk hmb hT0 hTB hT hz hu hd hok hx hxz hs1 hn1 hn0
    go_enter Tryz.func43, Tryz.ntmps43
    go_wp2_with fail
    refine HO.out.mono ?_
    rintro e w1 ⟨b, rfl, hb, hG, hVb, hk⟩
    have HG1 := Lib.hid hG
    have HK1 := Lib.hid hk
    have HS1 := Lib.hid (HSz.out b q w1 hVb)
    clear hG hVb hk HO HSz
    go_wp2_with fail
    refine HS1.out.mono ?_
    rintro e wz ⟨rfl, hwz⟩
    rw [hwz]
    clear hwz
    go_wp2_with fail
    refine HS1.out.mono ?_
    rintro e wz ⟨rfl, hwz⟩
    rw [hwz]
    clear hwz HS1
    go_wp2_with fail
    go_ret
    refine ⟨Y0, f0, rfl, HG1.out.mono (Lm.le_refl _) (by omega), HK1.out, ?_, HFu.out, rfl, rfl, rfl, ?_, fun _ _ _ _ => rfl, fun j _ => ⟨fun hh => ⟨hh, fun ⟨c, k1, k2, _⟩ => by (rw [k1] at k2; cases k2)⟩, fun hh => hh.1⟩, fun i hi => ?_⟩
    · rw [← HF.out, vput_self]
      exact HI.out
    · exact HSZ.out.trans HXI.out
    · by_cases hh : i < x
      · rw [if_pos hh]
      · rw [if_neg hh]
        exact HZ.out i (by omega) hi
  · have hne : ¬ ((x : Int) = sz) := by omega
    have hxl : x < sz := by omega
    have hn01 : n1 ≤ n0 ∧ n0 ≤ 256 := by omega
    have hBD : B0 < P0 ∧ P0 + (num - 1) / 2 < DA := by have := hg.bp; have := hg.pd; omega
    have hN5 := hg.n512
    have HSp : Hid (∀ W, Calls Tryz.prog 77 #[.int .i64 x] W fun e w' => (∃ y, e = .returned (.tuple #[.int .i64 n1, .int .i64 y])) ∧ w' = W) := Lib.hid (fun W => by
      have hds : dataS x = (n1 : Int) := by unfold dataS; split <;> omega
      have := spread_any x (by omega) W
      rw [hds] at this
      exact this.mono (by
        rintro e w' ⟨rfl, hw⟩
        exact ⟨⟨_, rfl⟩, hw⟩))
    have HGF := Lib.hid (fun b W hW => givefrom_any (ln := ln) b q p t m d gg lab B0 P0 M DA NB N (K + 1) g Y0 f0 b0 sz n1 n0 hsz hsz2 hn0 hn01.1 hFu hT0 (fun hh => hT (by omega)) (by omega) hg W hW)
    have HTx := Lib.hid (fun (hh : 0 < x) => hT hh)
    have HSET := Lib.hid (fun Y f K' (hf' : NdOk f) (hc : codeN f = 0) (hK' : K' < 500000000) W hW => gset_in (ln := ln) q p t m d gg lab B0 P0 M DA NB N K' g Y f hf' hc num h1 h2 hTB (by omega) hg W hW)
    have HG0 := Lib.hid hg
    have Hok := Lib.hid hok
    have Hlk := Lib.hid hlk
    have HMb := Lib.hid hmb
    have HNum := Lib.hid (show 1 ≤ num ∧ num ≤ M from ⟨h1, h2⟩)
    have hWX : IntKind.u32.wrap (x : Int) = x := wraps_u32 _ (by omega) (by omega)
    have HWX := Lib.hid hWX
    have HN1 := Lib.hid hn1
    clear h1 h2 hkd hsz hFu hI hg h hf h0lt hlk hmb hT0 hTB hT hz hu hd hok hx hn1 hn0 hxs hWX
    go_enter Tryz.func43, Tryz.ntmps43
    go_wp2_with fail
    refine HO.out.mono ?_
    rintro e w1 ⟨b, rfl, hb, hG, hVb, hk⟩
    have HB1 := Lib.hid (Bo.start H0.out hb hG hVb)
    have HK1 := Lib.hid hk
    have HS1 := Lib.hid (HSz.out b q w1 hVb)
    have hbw := hVb.lt
    clear hG hVb hk HO HSz
    go_wp2_with fail
    refine HS1.out.mono ?_
    rintro e wz ⟨rfl, hwz⟩
    rw [hwz]
    clear hwz
    go_wp2_with fail
    refine HS1.out.mono ?_
    rintro e wz ⟨rfl, hwz⟩
    rw [hwz]
    clear hwz HS1
    go_wp2_with fail
    refine (HSp.out w1).mono ?_
    rintro e wz ⟨⟨xp, rfl⟩, hwz⟩
    rw [hwz]
    clear hwz HSp
    go_wp2_with fail
    refine (HGF.out b w1 HB1.out).mono ?_
    rintro e w2 ⟨Y1, f1, rfl, hB2, hG2⟩
    have HB2 := Lib.hid (HB1.out.trans hB2)
    have HGv := Lib.hid hG2
    clear hB2 hG2 HGF HB1
    have HWipe : Hid (∃ Y2, Calls Tryz.prog 79 #[.pointer (some ⟨b, 0, none⟩), .int .i64 x] w2 (fun e w' => e = .returned (.int .i64 0) ∧ Bo w2 w' b q p t m d gg lab g B0 NB N ln Y2 (K + 1 + 10300 + 4) f1) ∧ (∀ z, (∀ c, ndS n1 c = true → z ≠ DA + (b0 c - 1)) → Y2 z = Y1 z) ∧ (∀ c, ndS n1 c = true → 2000 ≤ c → Y2 (DA + (b0 c - 1)) = Y1 (DA + (b0 c - 1))) ∧ ∀ i, i < 64 * n1 → ctF DA Y2 b0 i = if i < x then ctF DA Y1 b0 i else 0) := Lib.hid (by
      have hx64 := HN1.out
      by_cases hr : x % 64 = 0
      · refine ⟨Y1, (wipe_none (ln := ln) b q p t m d gg lab B0 NB N (K + 1 + 10300) g Y1 f1 x hr (by omega) w2 HB2.out.self).mono (by
          rintro e w' ⟨he, hB⟩
          exact ⟨he, hB.mono (Lm.le_refl _) (by omega)⟩), fun _ _ => rfl, fun _ _ _ => rfl, fun i hi => ?_⟩
        rw [if_pos (by omega)]
      · have hS : ndS n1 (x / 64) = true := (ndS_iff _ _).2 (by omega)
        have hc1 : n1 - 1 = x / 64 := by omega
        have hT := HTx.out (by omega) (lenC (n1 - 1)) (Nat.le_refl _)
        rw [chS_last, hc1] at hT
        refine ⟨_, wipe_any (ln := ln) b q p t m d gg lab B0 P0 M DA NB N (K + 1 + 10300) g Y1 f1 (ndS n1) b0 HGv.out.fi x (by omega) hr hS hT (by omega) HG0.out w2 HB2.out.self, fun z hh => ?_, fun c hc hc2 => ?_, fun i hi => ?_⟩
        · exact vput_ne _ _ (hh _ hS).symm
        · refine vput_ne _ _ fun he => ?_
          have r1 := HGv.out.fi.rng c hc
          have r2 := HGv.out.fi.rng _ hS
          have := HGv.out.fi.inj _ _ hc hS (by omega)
          omega
        · unfold ctF
          have hSi : ndS n1 (i / 64) = true := (ndS_iff _ _).2 (by omega)
          by_cases e : i / 64 = x / 64
          · rw [e, vput_at]
            unfold upd
            by_cases hh : x % 64 ≤ i % 64 ∧ i % 64 < x % 64 + (64 - x % 64)
            · rw [if_pos hh, if_neg (by omega)]
            · rw [if_neg hh, if_pos (by omega)]
          · rw [vput_ne _ _ (fun he => ?_), if_pos (by omega)]
            have r1 := HGv.out.fi.rng _ hSi
            have r2 := HGv.out.fi.rng _ hS
            exact e (HGv.out.fi.inj _ _ hSi hS (by omega)))
    obtain ⟨Y2, HWc, hY2a, hY2b, hct2⟩ := HWipe.out
    have HWc := Lib.hid HWc
    have HYa := Lib.hid hY2a
    have HYb := Lib.hid hY2b
    have HCt := Lib.hid hct2
    clear hY2a hY2b hct2 HWipe
    go_wp2_with fail
    refine HWc.out.mono ?_
    rintro e w3 ⟨rfl, hB3⟩
    have HB3 := Lib.hid (HB2.out.trans hB3)
    clear hB3 HWc HB2
    have cb := HB3.out.bd.c (1 + 3) (.int .u32 (f1 3)) rfl
    have zb := HB3.out.bd.z (1 + 3) (by show 1 + 3 < 13; omega)
    have hWX := HWX.out
    go_upto_region 16 with fail
    have HB4 := Lib.hid (HB3.out.set 3 (by decide) (.int .u32 (x : Int)) (setZ f1 x) (bdc_setZ q f1 x))
    obtain ⟨w4, hw4⟩ : ∃ y, w3.setCell ⟨b, 1 + 3, none⟩ (.int .u32 (x : Int)) = y := ⟨_, rfl⟩
    rw [hw4] at HB4
    try rw [hw4]
    clear hw4 cb zb hWX HB3
    have hgv := HGv.out
    have hNd : NdOk (setZ f1 x) := setZ_ok (f := f1) (by
      have ho := Hok.out
      exact ⟨by rw [hgv.f4 0 (by omega)]; exact ho.k, by rw [hgv.f4 1 (by omega)]; exact ho.l, by rw [hgv.f4 2 (by omega)]; exact ho.g, by rw [hgv.f4 3 (by omega)]; exact ho.s, fun i h4 h12 => hgv.fi.ptr hN5 i h4 h12⟩) (by omega) (by omega)
    have hz3 : setZ f1 x 3 = (x : Int) := if_pos rfl
    have hzn : ∀ i, i ≠ 3 → setZ f1 x i = f1 i := fun i hi => if_neg hi
    have hCo : codeN (setZ f1 x) = 0 := code_of (by rw [hzn 1 (by omega), hgv.f4 1 (by omega)]; exact Hlk.out) (by rw [hz3, hzn 0 (by omega), hgv.f4 0 (by omega)]; exact HMb.out)
    have HSe := Lib.hid (HSET.out Y2 (setZ f1 x) (K + 1 + 10300 + 4) hNd hCo (by omega) w4 HB4.out.gr)
    have HNd := Lib.hid hNd
    have HCo := Lib.hid hCo
    have HZ3 := Lib.hid hz3
    have HZn := Lib.hid hzn
    clear hgv hNd hCo hz3 hzn
    have HRn := Lib.hid HB4.out.bd.node
    go_wp2_with (refine wpList_load_mid rfl 77 _ rfl b 1 rfl (ndc (setZ f1 x)) d27 HRn.out HU.out HD.out (size27 _) ?_)
    refine HSe.out.mono ?_
    rintro e w5 ⟨rfl, hG, hkk⟩
    have HG5 := Lib.hid hG
    have HKf : Hid (Kf w w5 [t, m, d, gg]) := Lib.hid ((HK1.out.join HB4.out.kf (fun a ha => by
      simp only [List.mem_cons, List.not_mem_nil, or_false] at ha ⊢
      omega)).trans hkk)
    clear hG hkk HSe
    go_wp2_with fail
    go_ret
    have hgv := HGv.out
    have hnm := HNum.out
    have hTz : ∀ z, z ≠ P0 + (num - 1) / 2 → tabW P0 num (setZ f1 x) Y2 z = Y2 z := fun z hz => tabW_ne P0 num _ Y2 z hz
    have hdt : ∀ c, tabW P0 num (setZ f1 x) Y2 (DA + (b0 c - 1)) = Y2 (DA + (b0 c - 1)) := fun c => hTz _ (by omega)
    have hrow : ∀ z, z < DA → Y2 z = Y1 z := fun z hz => HYa.out z (fun c hc => by omega)
    have hbt : ∀ j, j < NB → bt (tabW P0 num (setZ f1 x) Y2) B0 j = bt Y1 B0 j := fun j hj => by
      have e0 : B0 + j / 512 = B0 := by omega
      unfold bt
      rw [e0, hTz _ (by omega), hrow _ (by omega)]
    have hF2 : Fi DA NB (tabW P0 num (setZ f1 x) Y2) (setZ f1 x) (ndS n1) b0 := by
      have h1 := hgv.fi.congr (Y' := tabW P0 num (setZ f1 x) Y2) (fun c hc hc2 => by rw [hdt c, HYb.out c hc hc2])
      refine ⟨h1.ok, fun c hc => ?_, h1.wrd, h1.cl, h1.rng, h1.inj⟩
      rw [HZn.out _ (by have := (rtI_lt c hc).1; omega)]
      exact h1.root c hc
    have hkk : ∀ c, ndS n1 c = true → ndS n0 c = true := fun c hc => ndS_mono hn01.1 c hc
    refine ⟨_, setZ f1 x, rfl, HG5.out.mono (Lm.le_refl _) (by omega), HKf.out, ?_, ⟨hF2, fun c hc => ?_⟩, by rw [HZn.out 0 (by omega)]; exact hgv.f4 0 (by omega), by rw [HZn.out 1 (by omega)]; exact hgv.f4 1 (by omega), by rw [HZn.out 2 (by omega)]; exact hgv.f4 2 (by omega), HZ3.out, fun z z1 z2 z3 => ?_, fun j hj => ?_, fun i hi => ?_⟩
    · refine Tab.wr (HI.out.congr fun z z1 z2 => ?_) num hnm.1 hnm.2 (setZ f1 x) HNd.out HCo.out
      have := HG0.out.pd
      rw [hrow z (by omega)]
      exact hgv.y z (by omega) (fun c _ _ => by omega)
    · have r := hgv.fi.rng c hc
      rw [hbt _ (by omega)]
      exact hgv.told HFu.out.us HFu.out.fi.inj c hc
    · rw [hTz z z2, HYa.out z z3]
      exact hgv.y z z1 (fun c hc _ => z3 c hc)
    · rw [hbt j hj]
      exact hgv.u j hj
    · have : ctF DA (tabW P0 num (setZ f1 x) Y2) b0 i = ctF DA Y2 b0 i := by
        unfold ctF
        rw [hdt]
      rw [this, HCt.out i hi]
      by_cases hh : i < x
      · rw [if_pos hh, if_pos hh]
        unfold ctF
        have hSi : ndS n1 (i / 64) = true := (ndS_iff _ _).2 (by omega)
        rw [hgv.y _ (by omega) (fun c hc hc2 he => ?_)]
        have r1 := hgv.fi.rng c hc
        have r2 := hgv.fi.rng _ hSi
        have := hgv.fi.inj _ _ hc hSi (by omega)
        omega
      · rw [if_neg hh, if_neg hh]
end Go.Proofs.YtgfgdfcedmcjeaaGreatDoor
