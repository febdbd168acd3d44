import Derived.Test.YtnfadmifdncjoaaGreatKC
import Derived.Deep.RegionHeld
/- Configurations: New; Geo, Total. -/
namespace Go.Proofs.YtnfadmifdncjoaaGreat.Cf
set_option linter.unusedSimpArgs false
set_option linter.unusedVariables false
open Go.RowKit Go.Maps

theorem CB.start (n : Nat) (W : World) (hW : W.heap.size = n + 3) : CB n (W.alloc (.cells #[.slice none 0 0, .slice none 0 0, .slice none 0 0, .map (some n), .map (some (n + 1)), .map (some (n + 2))] 126)) (.slice none 0 0) (.slice none 0 0) (.slice none 0 0) := by
  refine ⟨by simp [hW], ?_, ?_, ?_, ?_, ?_, ?_, ?_, ?_, ?_⟩ <;> rw [← hW] <;> simp [World.cell?_alloc_new]
theorem RS.start (w : World) : RS w.heap.size ((((w.alloc (.map #[] 0)).alloc (.map #[] 0)).alloc (.map #[] 0)).alloc (.cells #[.slice none 0 0, .slice none 0 0, .slice none 0 0, .map (some w.heap.size), .map (some (w.heap.size + 1)), .map (some (w.heap.size + 2))] 126)) (.slice none 0 0) [] (.map []) (.map []) := by
  have h0 := World.ownsMap_made w Tryz.prog 9 (plainElem (H := Unit) Tryz.prog 3)
  have h1 := World.ownsMap_made (w.alloc (.map #[] 0)) Tryz.prog 39 (plainElem (H := Unit) Tryz.prog 3)
  have h2 := World.ownsMap_made ((w.alloc (.map #[] 0)).alloc (.map #[] 0)) Tryz.prog 177 (unitElem (H := Unit))
  have e1 : (w.alloc (.map #[] 0)).heap.size = w.heap.size + 1 := by simp
  have e2 : ((w.alloc (.map #[] 0)).alloc (.map #[] 0)).heap.size = w.heap.size + 2 := by simp
  rw [e1] at h1
  rw [e2] at h2
  exact ⟨CB.start _ _ (by simp), World.ownsRow_nil _ _ _ _, ((h0.alloc _).alloc _).alloc _, (h1.alloc _).alloc _, h2.alloc _⟩
theorem regsE_step (rs : List Rg) (k : Nat) (h : regsE rs k = 0) : regsE rs (k + 1) = oneE rs k := by rw [regsE, if_pos h]

theorem ownsRow_lt {w : World} {base : Nat} {e : TypeId} {size : Nat} {v : Value} {n : Nat} {xs : List Value} (h : w.ownsRow base e size v n xs) : ∀ k, v.ownBlock = some k → k < w.heap.size := by
  intro k hk
  obtain ⟨_, ⟨hv, _⟩ | ⟨g, cap, cur, hv, hg, hh, _⟩⟩ := h
  · rw [hv] at hk; simp [Value.ownBlock] at hk
  · rw [hv] at hk
    simp only [Value.ownBlock, Option.some.injEq] at hk
    subst hk
    exact (Array.getElem?_eq_some_iff.1 hh).1
theorem ownsRow_base {w : World} {base base' : Nat} {e : TypeId} {size : Nat} {v : Value} {n : Nat} {xs : List Value} (h : w.ownsRow base e size v n xs) (hb : base' ≤ base) : w.ownsRow base' e size v n xs := by
  obtain ⟨hl, h | ⟨g, cap, cur, hv, hg, r⟩⟩ := h
  · exact ⟨hl, .inl h⟩
  · exact ⟨hl, .inr ⟨g, cap, cur, hv, Nat.le_trans hb hg, r⟩⟩
theorem oneE_have (rs : List Rg) (k : Nat) (hk : k < rs.length) (h : oneE rs k = 0) : haveB rs[k] = true := by
  unfold oneE at h
  have e : rs.getD k zeroRg = rs[k] := by rw [List.getD_eq_getElem?_getD, List.getElem?_eq_getElem hk]; rfl
  simp only [e] at h
  split at h
  · cases h
  · split at h
    · cases h
    · rename_i h2
      simp only [Bool.not_eq_false, Bool.and_eq_true] at h2
      exact h2.1.1
theorem regsE_all (rs : List Rg) : ∀ n, regsE rs n = 0 → ∀ k, k < n → oneE rs k = 0
  | 0, _, k, hk => by omega
  | n + 1, h, k, hk => by
    have h0 : regsE rs n = 0 := by
      by_cases e : regsE rs n = 0
      · exact e
      · rw [regsE, if_neg e] at h; exact h
    by_cases e : k = n
    · subst e
      rw [regsE, if_pos h0] at h
      exact h
    · exact regsE_all rs n h0 k (by omega)
theorem small_of (rs : List Rg) (h : regsE rs rs.length = 0) : ∀ r ∈ rs, Small r := by
  intro r hr
  obtain ⟨k, hk, rfl⟩ := List.mem_iff_getElem.1 hr
  have := oneE_have rs k hk (regsE_all rs _ h k hk)
  simp only [haveB, Bool.and_eq_true, decide_eq_true_eq] at this
  unfold Small
  omega
theorem marksE_step (rs : List Rg) (ms : List (Int × Int)) (k : Nat) (h : marksE rs ms k = 0) : marksE rs ms (k + 1) = markOne rs ms k := by rw [marksE, if_pos h]
theorem newE_past (rs : List Rg) (ms : List (Int × Int)) (h1 : 0 < rs.length) (h2 : rs.length ≤ 64) (h3 : regsE rs rs.length = 0) (h4 : (rs.getD 0 zeroRg).lv = 0) (h5 : (rs.getD 0 zeroRg).cs = 0) : newE rs ms = if permB rs rs.length = false then 2 else marksE rs ms ms.length := by
  unfold newE
  rw [if_neg (by omega), if_neg (by rw [h3]; simp), if_neg (by rw [h4, h5]; decide)]

set_option maxHeartbeats 4000000 in
set_option maxRecDepth 100000 in
theorem new_some (b off cap : Nat) (rs : List Rg) (vm0 : Value) (ms : List (Int × Int)) (w : World) (hbl : b < w.heap.size) (h1 : 0 < rs.length) (h64 : rs.length ≤ 64) (hr : Row9 w b off rs) (hok : ∀ r ∈ rs, r.ok) (hm : Mks w vm0 ms) (hmk : ∀ m ∈ ms, markOk m) (hml : ms.length ≤ 5000) :
    Calls Tryz.prog 38 #[.slice (some ⟨b, off, none⟩) rs.length cap, vm0] w (NewPost rs ms w) := by
  have HR := Lib.hid hr
  have HOK := Lib.hid hok
  have HM := Lib.hid hm
  have HMK := Lib.hid hmk
  clear hr hok hm hmk
  have hmm := @run_makeMap Tryz.prog
  obtain ⟨N, hN⟩ : ∃ N, rs.length = N := ⟨_, rfl⟩
  have HN := Lib.hid hN
  rw [hN] at h1 h64 ⊢
  clear hN
  have hz : ¬ ((N : Int) = 0) := by omega
  have hz64 : ¬ (64 < (N : Int)) := by omega
  have HS0 := Lib.hid (RS.start w)
  go_enter Tryz.func38, Tryz.ntmps38
  go_wp2
  rw [show w.heap.size + 1 + 1 + 1 = w.heap.size + 3 from rfl, show w.heap.size + 1 + 1 = w.heap.size + 2 from rfl]
  have hB0 : Below w.heap.size w ((((w.alloc (.map #[] 0)).alloc (.map #[] 0)).alloc (.map #[] 0)).alloc (.cells #[.slice none 0 0, .slice none 0 0, .slice none 0 0, .map (some w.heap.size), .map (some (w.heap.size + 1)), .map (some (w.heap.size + 2))] 126)) :=
    ((((Below.refl _ w).alloc (Nat.le_refl _) _).alloc (by simp) _).alloc (by simp; omega) _).alloc (by simp; omega) _
  generalize (((w.alloc (.map #[] 0)).alloc (.map #[] 0)).alloc (.map #[] 0)).alloc (.cells #[.slice none 0 0, .slice none 0 0, .slice none 0 0, .map (some w.heap.size), .map (some (w.heap.size + 1)), .map (some (w.heap.size + 2))] 126) = W0 at *
  clear hmm hz hz64
  have HB0 := Lib.hid hB0
  clear hB0
  go_loopw [30] (fun i wr => ∃ k : Nat, k ≤ N ∧ i = .int .i64 k ∧ Below w.heap.size w wr ∧ regsE rs k = 0 ∧ ∃ vr, RS w.heap.size wr vr (rs.take k) (gD nmKey (rs.take k)) (gD lbKey (rs.take k))) (fun i _ => N - (intOf i).toNat)
  case atStart => exact ⟨0, by omega, rfl, HB0.out, rfl, _, HS0.out⟩
  case round =>
    obtain ⟨k, hk, rfl, hb, hE, vr, hS⟩ := hrel
    have HS := Lib.hid hS
    have HE := Lib.hid hE
    clear hS hE HS0 HB0
    by_cases hlt : k < N
    · have hltr : k < rs.length := by rw [HN.out]; exact hlt
      have HO := Lib.hid (regE_one rs HOK.out k hltr)
      have HT := Lib.hid (List.take_succ_eq_append_getElem hltr)
      have HrO := Lib.hid (HOK.out rs[k] (List.getElem_mem _))
      have HL := Lib.hid (show (rs.take k).length = k by rw [List.length_take]; omega)
      have e0 := (hb.cell (p := ⟨b, off + k * 9, none⟩) hbl).trans (HR.out.k0 k hltr)
      have e1 := (hb.cell (p := ⟨b, off + k * 9 + 1, none⟩) hbl).trans (HR.out.k1 k hltr)
      have e2 := (hb.cell (p := ⟨b, off + k * 9 + 2, none⟩) hbl).trans (HR.out.k2 k hltr)
      have e3 := (hb.cell (p := ⟨b, off + k * 9 + 3, none⟩) hbl).trans (HR.out.k3 k hltr)
      have e4 := (hb.cell (p := ⟨b, off + k * 9 + 4, none⟩) hbl).trans (HR.out.k4 k hltr)
      have e5 := (hb.cell (p := ⟨b, off + k * 9 + 5, none⟩) hbl).trans (HR.out.k5 k hltr)
      have e6 := (hb.cell (p := ⟨b, off + k * 9 + 6, none⟩) hbl).trans (HR.out.k6 k hltr)
      have e7 := (hb.cell (p := ⟨b, off + k * 9 + 7, none⟩) hbl).trans (HR.out.k7 k hltr)
      have e8 := (hb.cell (p := ⟨b, off + k * 9 + 8, none⟩) hbl).trans (HR.out.k8 k hltr)
      have hB := Lib.hid hb
      clear hb
      generalize rs[k] = r at *
      obtain ⟨nm, lv, cs, bl, nd, fr, pr, op, cl⟩ := r
      simp only at e0 e1 e2 e3 e4 e5 e6 e7 e8
      go_wp2_with fail
      have hbA : Below wr.heap.size wr (wr.alloc (.cells #[.string nm, .int .u8 lv, .int .u16 cs, .int .i64 bl, .int .i64 nd, .int .i64 fr, .int .i64 pr, .int .i64 op, .int .i64 cl] 41)) := (Below.refl _ wr).alloc (Nat.le_refl _) _
      refine (register_any w.heap.size vr (rs.take k) _ _ N ⟨nm, lv, cs, bl, nd, fr, pr, op, cl⟩ HrO.out _ (HS.out.below hbA) (by rw [HL.out]; omega)).mono ?_
      rintro e w1 ⟨rfl, hbad, hgood⟩
      rw [← HN.out, HO.out] at hbad hgood ⊢
      rw [HN.out]
      have HBA := Lib.hid (hB.out.trans (hbA.mono hB.out.size))
      clear hbA e0 e1 e2 e3 e4 e5 e6 e7 e8
      by_cases h0 : oneE rs k = 0
      · obtain ⟨hb1, vr', hS1⟩ := hgood h0
        have HB1 := Lib.hid (HBA.out.trans hb1)
        have HS1 := Lib.hid hS1
        have H0 := Lib.hid h0
        rw [h0]
        clear hbad hgood hb1 hS1 HBA h0 HS hB
        go_wp2
        go_roundw
        case rel =>
          refine ⟨k + 1, by omega, by go_num, HB1.out, (regsE_step rs k HE.out).trans H0.out, vr', ?_⟩
          rw [HT.out, gD_snoc, gD_snoc]
          have := HS1.out
          rw [HL.out] at this ⊢
          exact this
        case measure => simp [intOf]; omega
      · have hne : newE rs ms = oneE rs k := by
          have e1 : regsE rs rs.length = oneE rs k := (regsE_bad rs (k + 1) (by rw [regsE_step rs k HE.out]; exact h0) rs.length (by omega)).trans (regsE_step rs k HE.out)
          unfold newE
          rw [if_neg (by rw [HN.out]; omega), e1, if_pos h0]
        have HNE := Lib.hid hne
        have hb1 := HBA.out.trans ((hbad h0).mono (by have := hB.out.size; simp; omega))
        have HB1 := Lib.hid hb1
        have H0 := Lib.hid h0
        clear hbad hgood hne hb1 HBA
        generalize oneE rs k = E at *
        have hE0 : ¬ (E = 0) := h0
        go_wp2
        refine bodyPost_ret (v := .tuple #[.pointer none, .int .i64 E]) (by simp [results, Tryz.results38, go_sem]) rfl (NewPost.bad E HNE.out H0.out rfl HB1.out)
    · obtain rfl : k = N := by omega
      obtain ⟨w3, rfl⟩ : ∃ x, x = wr := ⟨wr, rfl⟩
      have HSn : Hid (RS w.heap.size w3 vr rs (gD nmKey rs) (gD lbKey rs)) := by
        have := HS.out
        rw [← HN.out, List.take_length] at this
        exact this
      have HEn : Hid (regsE rs rs.length = 0) := by show regsE rs rs.length = 0; rw [HN.out]; exact HE.out
      have hl0 : 0 < rs.length := by rw [HN.out]; exact h1
      have e1 : w3.cell? ⟨b, off + 1, none⟩ = some (.int .u8 rs[0].lv) := by have := (hb.cell (p := ⟨b, off + 0 * 9 + 1, none⟩) hbl).trans (HR.out.k1 0 hl0); simpa using this
      have e2 : w3.cell? ⟨b, off + 2, none⟩ = some (.int .u16 rs[0].cs) := by have := (hb.cell (p := ⟨b, off + 0 * 9 + 2, none⟩) hbl).trans (HR.out.k2 0 hl0); simpa using this
      have hg0 : rs.getD 0 zeroRg = rs[0] := by rw [List.getD_eq_getElem?_getD, List.getElem?_eq_getElem hl0]; rfl
      have HG0 := Lib.hid hg0
      have HB := Lib.hid hb
      clear hg0 hb HS HE
      by_cases hroot : rs[0].lv = 0 ∧ rs[0].cs = 0
      · have HP : Hid (newE rs ms = if permB rs rs.length = false then 2 else marksE rs ms ms.length) := by
          show newE rs ms = _
          exact newE_past rs ms hl0 (by rw [HN.out]; omega) HEn.out (by rw [HG0.out]; exact hroot.1) (by rw [HG0.out]; exact hroot.2)
        rw [hroot.1] at e1
        rw [hroot.2] at e2
        clear hroot
        have h1' : ¬ (k = 0) := by omega
        go_wp2
        go_loopw [51] (fun i wq => ∃ j : Nat, j ≤ k ∧ i = .int .i64 j ∧ Below w3.heap.size w3 wq ∧ permB rs j = true) (fun i _ => k - (intOf i).toNat)
        case atStart => exact ⟨0, by omega, rfl, Below.refl _ _, rfl⟩
        case round =>
          obtain ⟨j, hj, rfl, hbq, hpe⟩ := hrel
          have HPE := Lib.hid hpe
          clear hpe
          by_cases hlt : j < k
          · have hltr : j < rs.length := by rw [HN.out]; exact hlt
            have HBq := Lib.hid (HB.out.trans (hbq.mono HB.out.size))
            have hgj : rs.getD j zeroRg = rs[j] := by rw [List.getD_eq_getElem?_getD, List.getElem?_eq_getElem hltr]; rfl
            have HGJ := Lib.hid hgj
            clear hgj
            have e0 := (HBq.out.cell (p := ⟨b, off + j * 9, none⟩) hbl).trans (HR.out.k0 j hltr)
            have e1 := (HBq.out.cell (p := ⟨b, off + j * 9 + 1, none⟩) hbl).trans (HR.out.k1 j hltr)
            have e2 := (HBq.out.cell (p := ⟨b, off + j * 9 + 2, none⟩) hbl).trans (HR.out.k2 j hltr)
            have e3 := (HBq.out.cell (p := ⟨b, off + j * 9 + 3, none⟩) hbl).trans (HR.out.k3 j hltr)
            have e4 := (HBq.out.cell (p := ⟨b, off + j * 9 + 4, none⟩) hbl).trans (HR.out.k4 j hltr)
            have e5 := (HBq.out.cell (p := ⟨b, off + j * 9 + 5, none⟩) hbl).trans (HR.out.k5 j hltr)
            have e6 := (HBq.out.cell (p := ⟨b, off + j * 9 + 6, none⟩) hbl).trans (HR.out.k6 j hltr)
            have e7 := (HBq.out.cell (p := ⟨b, off + j * 9 + 7, none⟩) hbl).trans (HR.out.k7 j hltr)
            have e8 := (HBq.out.cell (p := ⟨b, off + j * 9 + 8, none⟩) hbl).trans (HR.out.k8 j hltr)
            have HSq := Lib.hid (HSn.out.below hbq)
            have hBq := Lib.hid hbq
            clear hbq
            generalize rs[j] = r at *
            obtain ⟨nm, lv, cs, bl, nd, fr, pr, op, cl⟩ := r
            simp only at e0 e1 e2 e3 e4 e5 e6 e7 e8
            go_wp2_with fail
            have hbA : Below wr.heap.size wr (wr.alloc (.cells #[.string nm, .int .u8 lv, .int .u16 cs, .int .i64 bl, .int .i64 nd, .int .i64 fr, .int .i64 pr, .int .i64 op, .int .i64 cl] 41)) := (Below.refl _ wr).alloc (Nat.le_refl _) _
            refine (cleq_any (w.heap.size + 3) vr rs j cl _ (Nat.lt_of_lt_of_le (by omega) ((HSq.out.below hbA).cb.lt)) (HSq.out.below hbA).cb.c0 (regs_of_row (HSq.out.below hbA).row)).mono ?_
            rintro e w1 ⟨rfl, hb1⟩
            have HB1 := Lib.hid (hBq.out.trans ((hbA.trans (hb1.mono (by simp))).mono hBq.out.size))
            have HLQ : Hid (permB rs (j + 1) = leqAt rs j cl) := by
              show permB rs (j + 1) = _
              rw [permB, HPE.out, HGJ.out, Bool.true_and]
            clear hb1 hbA e0 e1 e2 e3 e4 e5 e6 e7 e8 HSq HBq
            cases hq : leqAt rs j cl
            · have HF : Hid (newE rs ms = 2) := by
                show newE rs ms = 2
                rw [HP.out, if_pos (permB_bad rs (j + 1) (HLQ.out.trans hq) _ (by omega))]
              clear hq
              go_wp2
              refine bodyPost_ret (v := .tuple #[.pointer none, .int .i64 2]) (by simp [results, Tryz.results38, go_sem]) rfl (NewPost.bad 2 HF.out (by decide) rfl (HB.out.trans (HB1.out.mono HB.out.size)))
            · have HQ := Lib.hid hq
              clear hq
              go_wp2
              go_roundw
              case rel => exact ⟨j + 1, by omega, by go_num, HB1.out, HLQ.out.trans HQ.out⟩
              case measure => simp [intOf]; omega
          · obtain rfl : j = k := by omega
            have HPm : Hid (newE rs ms = marksE rs ms ms.length) := by
              show newE rs ms = _
              rw [HP.out, HN.out, if_neg (by rw [HPE.out]; decide)]
            obtain ⟨w4, rfl⟩ : ∃ x, x = wr := ⟨wr, rfl⟩
            have HS4 := Lib.hid (HSn.out.below hbq)
            have HB4 := Lib.hid (HB.out.trans (hbq.mono HB.out.size))
            clear HP hbq HB HSn e1 e2 HPE
            obtain ⟨ma, mc, rfl⟩ := HM.out.form
            obtain ⟨M, hM⟩ : ∃ M, ms.length = M := ⟨_, rfl⟩
            have HMl := Lib.hid hM
            rw [hM] at hml ⊢
            clear hM
            have HMS : Hid (MS w.heap.size w4.heap.size w4 vr (.slice none 0 0) rs (ms.take 0) (gD nmKey rs) (gD lbKey rs) (tD (ms.take 0))) :=
              ⟨HS4.out.cb, HS4.out.cb.lt, Nat.le_refl _, HS4.out.row, ownsRow_lt HS4.out.row, World.ownsRow_nil _ _ _ _, HS4.out.mn, HS4.out.ml, HS4.out.mt⟩
            go_wp2
            go_loopw [65] (fun i wq => ∃ j : Nat, j ≤ M ∧ i = .int .i64 j ∧ Below w.heap.size w wq ∧ marksE rs ms j = 0 ∧ ∃ vm, MS w.heap.size w4.heap.size wq vr vm rs (ms.take j) (gD nmKey rs) (gD lbKey rs) (tD (ms.take j))) (fun i _ => M - (intOf i).toNat)
            case atStart => exact ⟨0, by omega, rfl, HB4.out, rfl, _, HMS.out⟩
            case round =>
              obtain ⟨i, hi, rfl, hb, hE, vm, hS⟩ := hrel
              have HS := Lib.hid hS
              have HE := Lib.hid hE
              have HBi := Lib.hid hb
              clear hS hE HMS
              by_cases hlt : i < M
              · have hltm : i < ms.length := by rw [HMl.out]; exact hlt
                obtain ⟨b', off', cap', hv, hbl', -, hr2⟩ := HM.out.row (by omega)
                obtain ⟨rfl, rfl⟩ : ma = some ⟨b', off', none⟩ ∧ mc = cap' := by simpa using hv
                have m0 := (hb.cell (p := ⟨b', off' + i * 2, none⟩) hbl').trans (hr2.k0 i hltm)
                have m1 := (hb.cell (p := ⟨b', off' + i * 2 + 1, none⟩) hbl').trans (hr2.k1 i hltm)
                have HO := Lib.hid (markE_one rs ms HMK.out i hltm)
                have HT := Lib.hid (List.take_succ_eq_append_getElem hltm)
                have HmO := Lib.hid (HMK.out ms[i] (List.getElem_mem _))
                have HLm := Lib.hid (show (ms.take i).length = i by rw [List.length_take]; omega)
                clear hv hr2 hb
                generalize ms[i] = m at *
                obtain ⟨lab, num⟩ := m
                simp only at m0 m1
                go_wp2_with fail
                have hbA : Below wr.heap.size wr (wr.alloc (.cells #[.int .u8 lab, .int .u16 num] 177)) := (Below.refl _ wr).alloc (Nat.le_refl _) _
                refine (trust_any w.heap.size w4.heap.size vr vm rs (ms.take i) _ _ _ lab num HmO.out.1 HmO.out.2.1 HmO.out.2.2.1 HmO.out.2.2.2 _ (HS.out.below hbA) (by rw [HLm.out]; omega)).mono ?_
                rintro e w5 ⟨rfl, hbad, hgood⟩
                rw [HO.out] at hbad hgood ⊢
                have HBA := Lib.hid (HBi.out.trans (hbA.mono HBi.out.size))
                clear hbA m0 m1
                by_cases h0 : markOne rs ms i = 0
                · obtain ⟨hb5, vm', hS5⟩ := hgood h0
                  have HB5 := Lib.hid (HBA.out.trans hb5)
                  have HS5 := Lib.hid hS5
                  have H0 := Lib.hid h0
                  rw [h0]
                  clear hbad hgood hb5 hS5 HBA h0 HS
                  go_wp2
                  go_roundw
                  case rel =>
                    refine ⟨i + 1, by omega, by go_num, HB5.out, (marksE_step rs ms i HE.out).trans H0.out, vm', ?_⟩
                    rw [HT.out, tD_snoc]
                    exact HS5.out
                  case measure => simp [intOf]; omega
                · have HNE : Hid (newE rs ms = markOne rs ms i) := by
                    show newE rs ms = _
                    rw [HPm.out, marksE_bad rs ms (i + 1) (by rw [marksE_step rs ms i HE.out]; exact h0) ms.length (by omega), marksE_step rs ms i HE.out]
                  have HB5 := Lib.hid (HBA.out.trans ((hbad h0).mono (by have := HBi.out.size; simp; omega)))
                  have H0 := Lib.hid h0
                  clear hbad hgood HBA
                  generalize markOne rs ms i = E at *
                  have hE0 : ¬ (E = 0) := h0
                  go_wp2
                  refine bodyPost_ret (v := .tuple #[.pointer none, .int .i64 E]) (by simp [results, Tryz.results38, go_sem]) rfl (NewPost.bad E HNE.out H0.out rfl HB5.out)
              · obtain rfl : i = M := by omega
                have HZ : Hid (newE rs ms = 0) := by
                  show newE rs ms = 0
                  rw [HPm.out, HMl.out]; exact HE.out
                have HS6 : Hid (MS w.heap.size w4.heap.size wr vr vm rs ms (gD nmKey rs) (gD lbKey rs) (tD ms)) := by
                  have := HS.out
                  rw [← HMl.out, List.take_length] at this
                  exact this
                obtain ⟨w6, rfl⟩ : ∃ x, x = wr := ⟨wr, rfl⟩
                clear HS hb HPm HE
                obtain ⟨⟨lt, c0, c1, c2, c3, c4, c5, f0, f1, f2⟩, -, -, row, -, -, -, -, -⟩ := id HS6.out
                obtain ⟨g, go, gcap, rfl, hgl, -, hrow9⟩ := (regs_of_row row).row (by rw [HN.out]; exact h1)
                have HR9 := Lib.hid hrow9
                have hsm := small_of rs HEn.out
                have HSM := Lib.hid hsm
                clear hrow9 row c1 c2 c3 c4 c5 f0 f1 f2 hsm
                rw [HN.out] at c0
                go_wp2_with fail
                rw [← HN.out]
                refine (lay_some g go gcap rs _ hgl (by rw [HN.out]; exact h64) HSM.out HR9.out).mono ?_
                rintro e w7 ⟨vg, rfl, hown, hb7⟩
                obtain ⟨ga, gc, rfl⟩ := ownsRow_form hown
                have HS7 := Lib.hid (HS6.out.below hb7)
                have HG7 := Lib.hid (ownsRow_base hown (show w.heap.size + 4 ≤ w6.heap.size from lt))
                have HB7 := Lib.hid (HBi.out.trans (hb7.mono HBi.out.size))
                clear hown hb7 c0 lt
                obtain ⟨⟨lt, c0, c1, c2, c3, c4, c5, f0, f1, f2⟩, -, -, -, -, -, -, -, -⟩ := id HS7.out
                clear c0 c1 c3 c4 c5 f0 f1
                go_wp2
                refine bodyPost_ret (v := .tuple #[.pointer (some ⟨w.heap.size + 3, 0, none⟩), .int .i64 0]) (by simp [results, Tryz.results38, go_sem]) rfl ?_
                refine ⟨fun h => absurd HZ.out h, fun _ => ⟨w.heap.size, .slice (some ⟨g, go, none⟩) rs.length gcap, vm, .slice ga rs.length gc, rfl, Nat.le_refl _, HB7.out.setCell (by simp) _, ?_⟩⟩
                have e7 : ∀ b, b ≠ w.heap.size + 3 → (w7.setCell ⟨w.heap.size + 3, 2, none⟩ (.slice ga rs.length gc)).heap[b]? = w7.heap[b]? := fun b hb => heap_set _ _ _ _ hb
                exact ⟨HS7.out.cb.set2 _, ownsRow_same HS7.out.row (fun b hb _ => e7 b (by omega)), ownsRow_same (ownsRow_base HS7.out.rm HS7.out.lo) (fun b hb _ => e7 b (by omega)), ownsRow_same HG7.out (fun b hb _ => e7 b (by omega)), ownsMap_same HS7.out.mn (e7 _ (by omega)), ownsMap_same HS7.out.ml (e7 _ (by omega)), ownsMap_same HS7.out.mt (e7 _ (by omega))⟩
      · have HP : Hid (newE rs ms = 25) := by
          show newE rs ms = 25
          unfold newE
          rw [if_neg (by rw [HN.out]; omega), if_neg (by rw [HEn.out]; simp), if_pos]
          rw [HG0.out]
          simpa using hroot
        by_cases hr0 : rs[0].lv = 0
        · have hr1 : ¬ (rs[0].cs = 0) := fun h => hroot ⟨hr0, h⟩
          clear hroot
          go_wp2
          refine bodyPost_ret (v := .tuple #[.pointer none, .int .i64 25]) (by simp [results, Tryz.results38, go_sem]) rfl (NewPost.bad 25 HP.out (by decide) rfl HB.out)
        · clear hroot
          go_wp2
          refine bodyPost_ret (v := .tuple #[.pointer none, .int .i64 25]) (by simp [results, Tryz.results38, go_sem]) rfl (NewPost.bad 25 HP.out (by decide) rfl HB.out)
end Go.Proofs.YtnfadmifdncjoaaGreat.Cf
namespace Go.Proofs.YtnfadmifdncjoaaGreat.Cf
set_option linter.unusedSimpArgs false
set_option linter.unusedVariables false
open Go.RowKit Go.Maps

def Ge.val (g : Ge) : Value := .agg #[.int .i64 g.base, .int .i64 g.bm, .int .i64 g.tb, .int .i64 g.da, .int .i64 g.bl, .int .i64 g.nd]
theorem lay_len (rs : List Rg) : (layF rs).1.length = rs.length := by
  have := layF_len rs rs.length (Nat.le_refl _)
  rwa [List.take_length] at this
theorem CF.len {n : Nat} {w : World} {vr vm vg : Value} {rs : List Rg} {ms : List (Int × Int)} (h : CF n w vr vm vg rs ms) : ∃ a cap, vr = .slice a rs.length cap := ownsRow_form h.row
theorem CF.geo {n : Nat} {w : World} {vr vm vg : Value} {rs : List Rg} {ms : List (Int × Int)} (h : CF n w vr vm vg rs ms) (h0 : 0 < rs.length) : ∃ g cap, vg = .slice (some ⟨g, 0, none⟩) rs.length cap ∧ g < w.heap.size ∧ rs.length ≤ maxLen ∧ ∀ i (hi : i < rs.length) j, j < 6 → w.cell? ⟨g, i * 6 + j, none⟩ = ((layF rs).1[i]'(by rw [lay_len]; exact hi)).cells[j]? := by
  have hl := lay_len rs
  rcases ownsRow_cell (k := 6) (fun _ => rfl) hl.symm h.rg with ⟨-, h1⟩ | ⟨g, cap, hv, -, hlt, hm, hc⟩
  · rw [h1] at hl
    simp at hl
    omega
  · rw [hl] at hv hm
    exact ⟨g, cap, hv, hlt, hm, fun i hi j hj => hc i (by omega) j hj⟩

set_option maxHeartbeats 1000000 in
theorem geo_in (n : Nat) (vr vm vg : Value) (rs : List Rg) (ms : List (Int × Int)) (i : Nat) (hi : i < rs.length) (w : World) (h : CF n w vr vm vg rs ms) :
    Calls Tryz.prog 47 #[.pointer (some ⟨n + 3, 0, none⟩), .int .i64 i] w fun e w' => e = .returned (.tuple #[((layF rs).1[i]'(by rw [lay_len]; exact hi)).val, .bool true]) ∧ Below w.heap.size w w' := by
  obtain ⟨ra, rc, rfl⟩ := h.len
  obtain ⟨g, cap, rfl, hgl, hm, hc⟩ := h.geo (by omega)
  obtain ⟨lt, c0, c1, c2, c3, c4, c5, f0, f1, f2⟩ := h.cb
  have e0 := hc i hi 0 (by omega)
  have e1 := hc i hi 1 (by omega)
  have e2 := hc i hi 2 (by omega)
  have e3 := hc i hi 3 (by omega)
  have e4 := hc i hi 4 (by omega)
  have e5 := hc i hi 5 (by omega)
  generalize (layF rs).1[i]'(by rw [lay_len]; exact hi) = gg at *
  obtain ⟨bs, bm, tb, da, bl, nd⟩ := gg
  simp [Ge.cells] at e0 e1 e2 e3 e4 e5
  have hlen := fun W hW => len_any (n + 3) ra rs.length rc W hW hm
  unfold maxLen at hm
  have hlt : w.heap.size < w.heap.size + 1 := Nat.lt_succ_self _
  have hn3 : n + 3 < w.heap.size := by omega
  have hi0 : (0 : Int) ≤ (i : Int) := by omega
  have hi1 : (i : Int) < (rs.length : Int) := by omega
  have HC := Lib.hid hc
  clear hc h c1 c3 c4 c5 f0 f1 f2
  go_enter Tryz.func47, Tryz.ntmps47
  go_wp2_with fail
  refine (hlen _ (cell_al c0 _)).mono ?_
  rintro e w1 ⟨rfl, rfl⟩
  clear hlen
  go_wp2
  refine bodyPost_ret (v := .tuple #[.agg #[.int .i64 bs, .int .i64 bm, .int .i64 tb, .int .i64 da, .int .i64 bl, .int .i64 nd], .bool true]) (by simp [results, Tryz.results47, go_sem, World.cell?_alloc_new]) rfl ⟨rfl, (Below.refl _ _).alloc (Nat.le_refl _) _⟩

end Go.Proofs.YtnfadmifdncjoaaGreat.Cf

namespace Go.Proofs.YtnfadmifdncjoaaGreat.Cf
set_option linter.unusedSimpArgs false
set_option linter.unusedVariables false
open Go.RowKit Go.Maps

theorem lay_nth (rs : List Rg) (i : Nat) (hi : i < rs.length) : (layF rs).1[i]'(by rw [lay_len]; exact hi) = geoAt (layF (rs.take i)).2 rs[i] := by
  have key : ∀ k, k ≤ rs.length → ∀ (hik : i < k), (layF (rs.take k)).1[i]? = some (geoAt (layF (rs.take i)).2 rs[i]) := by
    intro k
    induction k with
    | zero => intro _ h; omega
    | succ k ih =>
      intro hk hik
      rw [layF_take rs k (by omega), layStep]
      simp only
      by_cases e : i = k
      · subst e
        rw [List.getElem?_append_right (by rw [layF_len rs i (by omega)]; exact Nat.le_refl _), layF_len rs i (by omega)]
        simp
      · rw [List.getElem?_append_left (by rw [layF_len rs k (by omega)]; omega)]
        exact ih (by omega) (by omega)
  have h1 := key rs.length (Nat.le_refl _) hi
  rw [List.take_length] at h1
  rw [List.getElem?_eq_getElem (by rw [lay_len]; exact hi)] at h1
  exact Option.some.inj h1
theorem lay_fin (rs : List Rg) (i : Nat) (hi : i < rs.length) : ((layF rs).1[i]'(by rw [lay_len]; exact hi)).fin = (layF (rs.take (i + 1))).2 := by
  rw [lay_nth rs i hi, layF_take rs i hi, layStep]
theorem lay_range (rs : List Rg) (hs : ∀ r ∈ rs, Small r) (h64 : rs.length ≤ 64) (i : Nat) (hi : i < rs.length) :
    32 ≤ ((layF rs).1[i]'(by rw [lay_len]; exact hi)).base ∧ ((layF rs).1[i]'(by rw [lay_len]; exact hi)).base < ((layF rs).1[i]'(by rw [lay_len]; exact hi)).da ∧ ((layF rs).1[i]'(by rw [lay_len]; exact hi)).da < 100000 ∧ 4 ≤ ((layF rs).1[i]'(by rw [lay_len]; exact hi)).bl ∧ ((layF rs).1[i]'(by rw [lay_len]; exact hi)).bl ≤ 512 ∧ 4 ≤ ((layF rs).1[i]'(by rw [lay_len]; exact hi)).nd ∧ ((layF rs).1[i]'(by rw [lay_len]; exact hi)).nd ≤ 128 ∧ ((layF rs).1[i]'(by rw [lay_len]; exact hi)).base < 50000 := by
  rw [lay_nth rs i hi]
  obtain ⟨s1, s2, s3, s4⟩ := hs rs[i] (List.getElem_mem _)
  obtain ⟨r1, r2⟩ := layF_range rs hs i (by omega)
  simp only [geoAt]
  omega

theorem clen_any (n : Nat) (vr vm vg : Value) (rs : List Rg) (ms : List (Int × Int)) (w : World) (h : CF n w vr vm vg rs ms) (h64 : rs.length ≤ 64) :
    Calls Tryz.prog 10 #[.pointer (some ⟨n + 3, 0, none⟩)] w fun e w' => e = .returned (.int .i64 rs.length) ∧ w' = w := by
  obtain ⟨ra, rc, rfl⟩ := h.len
  exact len_any (n + 3) ra rs.length rc w h.cb.c0 (by unfold maxLen; omega)

set_option maxHeartbeats 1000000 in
theorem total_any (n : Nat) (vr vm vg : Value) (rs : List Rg) (ms : List (Int × Int)) (hs : ∀ r ∈ rs, Small r) (h0 : 0 < rs.length) (h64 : rs.length ≤ 64) (w : World) (h : CF n w vr vm vg rs ms) :
    Calls Tryz.prog 44 #[.pointer (some ⟨n + 3, 0, none⟩)] w fun e w' => e = .returned (.int .i64 (layF rs).2) ∧ Below w.heap.size w w' := by
  have hlen := clen_any n vr vm vg rs ms w h h64
  have hgeo := geo_in n vr vm vg rs ms (rs.length - 1) (by omega) w h
  have hfin := lay_fin rs (rs.length - 1) (by omega)
  rw [show rs.length - 1 + 1 = rs.length by omega, List.take_length] at hfin
  have hran := lay_range rs hs h64 (rs.length - 1) (by omega)
  generalize (layF rs).1[rs.length - 1]'(by rw [lay_len]; omega) = g at *
  obtain ⟨bs, bm, tb, da, bl, nd⟩ := g
  simp only [Ge.val, Ge.fin] at hgeo hfin hran
  rw [← hfin]
  have e : ((rs.length - 1 : Nat) : Int) = (rs.length : Int) - 1 := by omega
  rw [e] at hgeo
  have hend := fun W => end_any bs bm tb da bl nd W (by omega) (by omega) (by omega) (by omega)
  clear h hfin e hs
  go_enter Tryz.func44, Tryz.ntmps44
  go_wp2_with fail
  refine hlen.mono ?_
  rintro e w1 ⟨rfl, rfl⟩
  go_wp2_with fail
  refine hgeo.mono ?_
  rintro e w2 ⟨rfl, hb2⟩
  have HB := Lib.hid hb2
  clear hlen hgeo hb2
  go_wp2_with fail
  refine (hend _).mono ?_
  rintro e w3 ⟨rfl, hb3⟩
  have HB3 := Lib.hid ((HB.out.alloc HB.out.size _).trans (hb3.mono (by have := HB.out.size; simp; omega)))
  clear hb3 hend
  go_wp2
  go_ret
  exact ⟨rfl, HB3.out⟩

def inG (g : Ge) (x : Int) : Prop := g.base ≤ x ∧ x < g.fin
instance (g : Ge) (x : Int) : Decidable (inG g x) := inferInstanceAs (Decidable (_ ∧ _))
end Go.Proofs.YtnfadmifdncjoaaGreat.Cf
namespace Go.Proofs.YtnfadmifdncjoaaGreat.Cf
set_option linter.unusedSimpArgs false
set_option linter.unusedVariables false
open Go.RowKit Go.Maps

theorem set9_other {w : World} {g b j : Nat} (r : Rg) (w' : World) (h : g ≠ b) : (set9 w g r).cell? ⟨b, j, none⟩ = w.cell? ⟨b, j, none⟩ := by
  unfold set9
  repeat rw [World.cell?_setCell_far _ _ _ _ (by exact h)]
theorem share4 {α β γ δ : Type} {F P : α → β → γ → δ → Prop} {G : Prop} (h1 : Shut (∀ a b c d, F a b c d → P a b c d) → G) (h2 : ∀ a b c d, F a b c d → P a b c d) : G := h1 h2
theorem U8s.below {w w' : World} {v : Value} {ts : List Int} (h : U8s w v ts) (hb : Below w.heap.size w w') : U8s w' v ts := by
  rcases h with h | ⟨b, off, cap, hv, hl, hm, hr⟩
  · exact .inl h
  · exact .inr ⟨b, off, cap, hv, Nat.lt_of_lt_of_le hl hb.size, hm, fun i hi => (hb.cell (p := ⟨b, off + i, none⟩) hl).trans (hr i hi)⟩
def acM (many : Nat) (ts : List Int) (j : Nat) : List (Int × Int) := ((ts.take j).foldl (sizeMStep many) ([], 0)).1
theorem acM_snd (many : Nat) : ∀ (ts : List Int) (a : List (Int × Int) × Nat), (ts.foldl (sizeMStep many) a).2 = a.2 + ts.length
  | [], _ => rfl
  | x :: ts, a => by rw [List.foldl_cons, acM_snd many ts]; simp only [sizeMStep, List.length_cons]; omega
theorem acM_zero (many : Nat) (ts : List Int) : acM many ts 0 = [] := rfl
theorem acM_all (many : Nat) (ts : List Int) : acM many ts ts.length = sizeMs many ts := by unfold acM sizeMs; rw [List.take_length]
theorem acM_succ (many : Nat) (ts : List Int) (j : Nat) (hj : j < ts.length) : acM many ts (j + 1) = if 8 < j ∨ sizeMk many ts[j] ∈ acM many ts j then acM many ts j else acM many ts j ++ [sizeMk many ts[j]] := by
  have h2 : ((ts.take j).foldl (sizeMStep many) ([], 0)).2 = j := by
    rw [acM_snd]
    simp only [List.length_take]
    omega
  unfold acM
  rw [List.take_succ_eq_append_getElem hj, List.foldl_append, List.foldl_cons, List.foldl_nil]
  simp only [sizeMStep, h2]
theorem acM_len (many : Nat) (ts : List Int) : ∀ j, j ≤ ts.length → (acM many ts j).length ≤ j
  | 0, _ => by rw [acM_zero]; exact Nat.le_refl _
  | j + 1, h => by
    have ih := acM_len many ts j (by omega)
    rw [acM_succ many ts j (by omega)]
    split
    · omega
    · rw [List.length_append]; simp only [List.length_cons, List.length_nil]; omega
theorem acM_nine (many : Nat) (ts : List Int) : ∀ j, j ≤ ts.length → (acM many ts j).length ≤ 9
  | 0, _ => by rw [acM_zero]; exact Nat.zero_le _
  | j + 1, h => by
    by_cases h8 : 8 < j
    · rw [acM_succ many ts j (by omega), if_pos (.inl h8)]
      exact acM_nine many ts j (by omega)
    · exact Nat.le_trans (acM_len many ts (j + 1) h) (by omega)
theorem sizeR0_len (M : Nat) (H : Nat → Nat → Int) : (sizeR0 M H).length = M := by simp [sizeR0]
theorem ownsRow_free {w : World} {base : Nat} {e : TypeId} {size : Nat} {v : Value} {n : Nat} {xs : List Value} (h : w.ownsRow base e size v n xs) (g : Nat) (hg : v.ownBlock = some g) (o : Nat) : w.frozen? ⟨g, o, none⟩ = false := by
  obtain ⟨_, ⟨hv, _⟩ | ⟨g', cap, cur, hv, _, hh, _⟩⟩ := h
  · rw [hv] at hg; simp [Value.ownBlock] at hg
  · rw [hv] at hg
    simp only [Value.ownBlock, Option.some.injEq] at hg
    subst hg
    simp [World.frozen?, hh]

theorem mks_of_row {w : World} {base : Nat} {v : Value} {ms : List (Int × Int)} {n : Nat} (hn : n = ms.length) (h : w.ownsRow base 177 2 v n (flatM ms)) : Mks w v ms := by
  rcases ownsRow_cell (k := 2) (fun _ => rfl) hn h with ⟨hv, hn⟩ | ⟨g, cap, hv, hg, hlt, hm, hc⟩
  · exact .inl ⟨none, 0, hv, hn⟩
  · refine .inr ⟨g, 0, cap, hv, hlt, hm, ?_⟩
    constructor
    · intro i hi; have := hc i hi 0 (by omega); simpa [markCells] using this
    · intro i hi; have := hc i hi 1 (by omega); simpa [markCells] using this
end Go.Proofs.YtnfadmifdncjoaaGreat.Cf
