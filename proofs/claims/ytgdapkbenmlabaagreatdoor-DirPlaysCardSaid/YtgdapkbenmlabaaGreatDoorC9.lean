import Derived.Test.YtgdapkbenmlabaaGreatDoorC8
/- Configurations: New; Geo, Total. -/
set_option linter.unusedSimpArgs false
set_option linter.unusedVariables false
set_option maxHeartbeats 40000000
set_option maxRecDepth 100000
namespace Go.Proofs.YtgdapkbenmlabaaGreatDoor.Cf
open Go.RowKit Go.Maps
theorem CB.start (n : Nat) (W : World) (hW : W.heap.size = n + 3) : CB n (W.alloc (.cells #[.slice none 0 0, .slice none 0 0, .slice none 0 0, .map (some n), .map (some (n + 1)), .map (some (n + 2))] 185)) (.slice none 0 0) (.slice none 0 0) (.slice none 0 0) := by
 refine ⟨by simp [hW], ?_, ?_, ?_, ?_, ?_, ?_, ?_, ?_, ?_⟩ <;> rw [← hW] <;> simp [World.cell?_alloc_new]
theorem RS.start (w : World) : RS w.heap.size ((((w.alloc (.map #[] 0)).alloc (.map #[] 0)).alloc (.map #[] 0)).alloc (.cells #[.slice none 0 0, .slice none 0 0, .slice none 0 0, .map (some w.heap.size), .map (some (w.heap.size + 1)), .map (some (w.heap.size + 2))] 185)) (.slice none 0 0) [] (.map []) (.map []) := by
 have h0 := World.ownsMap_made w Tryz.prog 9 (plainElem (H := Unit) Tryz.prog 3);have h1 := World.ownsMap_made (w.alloc (.map #[] 0)) Tryz.prog 38 (plainElem (H := Unit) Tryz.prog 3);have h2 := World.ownsMap_made ((w.alloc (.map #[] 0)).alloc (.map #[] 0)) Tryz.prog 272 (unitElem (H := Unit))
 have e1 : (w.alloc (.map #[] 0)).heap.size = w.heap.size + 1 := by simp
 have e2 : ((w.alloc (.map #[] 0)).alloc (.map #[] 0)).heap.size = w.heap.size + 2 := by simp
 rw [e1] at h1;rw [e2] at h2;exact ⟨CB.start _ _ (by simp), World.ownsRow_nil _ _ _ _, ((h0.alloc _).alloc _).alloc _, (h1.alloc _).alloc _, h2.alloc _⟩
theorem regsE_step (rs : List Rg) (k : Nat) (h : regsE rs k = 0) : regsE rs (k + 1) = oneE rs k := by rw [regsE, if_pos h]
theorem ownsRow_lt {w : World} {base : Nat} {e : TypeId} {size : Nat} {v : Value} {n : Nat} {xs : List Value} (h : w.ownsRow base e size v n xs) : ∀ k, v.ownBlock = some k → k < w.heap.size := by
 intro k hk;obtain ⟨_, ⟨hv, _⟩ | ⟨g, cap, cur, hv, hg, hh, _⟩⟩ := h
 ·rw [hv] at hk; simp [Value.ownBlock] at hk
 ·rw [hv] at hk;simp only [Value.ownBlock, Option.some.injEq] at hk;subst hk;exact (Array.getElem?_eq_some_iff.1 hh).1
theorem ownsRow_base {w : World} {base base' : Nat} {e : TypeId} {size : Nat} {v : Value} {n : Nat} {xs : List Value} (h : w.ownsRow base e size v n xs) (hb : base' ≤ base) : w.ownsRow base' e size v n xs := by
 obtain ⟨hl, h | ⟨g, cap, cur, hv, hg, r⟩⟩ := h
 ·exact ⟨hl, .inl h⟩
 ·exact ⟨hl, .inr ⟨g, cap, cur, hv, Nat.le_trans hb hg, r⟩⟩
theorem oneE_have (rs : List Rg) (k : Nat) (hk : k < rs.length) (h : oneE rs k = 0) : haveB rs[k] = true := by
 unfold oneE at h
 have e : rs.getD k zeroRg = rs[k] := by rw [List.getD_eq_getElem?_getD, List.getElem?_eq_getElem hk]; rfl
 simp only [e] at h
 split at h
 ·cases h
 ·split at h
  ·cases h
  ·rename_i h2
   simp only [Bool.not_eq_false, Bool.and_eq_true] at h2;exact h2.1.1
theorem regsE_all (rs : List Rg) : ∀ n, regsE rs n = 0 → ∀ k, k < n → oneE rs k = 0
 | 0, _, k, hk => by omega
 | n + 1, h, k, hk => by
  have h0 : regsE rs n = 0 := by
   by_cases e : regsE rs n = 0
   ·exact e
   ·rw [regsE, if_neg e] at h; exact h
  by_cases e : k = n
  ·subst e;rw [regsE, if_pos h0] at h;exact h
  ·exact regsE_all rs n h0 k (by omega)
theorem small_of (rs : List Rg) (h : regsE rs rs.length = 0) : ∀ r ∈ rs, Small r := by
 intro r hr;obtain ⟨k, hk, rfl⟩ := List.mem_iff_getElem.1 hr;have := oneE_have rs k hk (regsE_all rs _ h k hk);simp only [haveB, Bool.and_eq_true, decide_eq_true_eq] at this;unfold Small;omega
theorem marksE_step (rs : List Rg) (ms : List (Int × Int)) (k : Nat) (h : marksE rs ms k = 0) : marksE rs ms (k + 1) = markOne rs ms k := by rw [marksE, if_pos h]
theorem newE_past (rs : List Rg) (ms : List (Int × Int)) (h1 : 0 < rs.length) (h2 : rs.length ≤ 64) (h3 : regsE rs rs.length = 0) (h4 : (rs.getD 0 zeroRg).lv = 0) (h5 : (rs.getD 0 zeroRg).cs = 0) : newE rs ms = if permB rs rs.length = false then 2 else marksE rs ms ms.length := by
 unfold newE;rw [if_neg (by omega), if_neg (by rw [h3]; simp), if_neg (by rw [h4, h5]; decide)]
theorem new_some (b off cap : Nat) (rs : List Rg) (vm0 : Value) (ms : List (Int × Int)) (w : World) (hbl : b < w.heap.size) (h1 : 0 < rs.length) (h64 : rs.length ≤ 64) (hr : Row9 w b off rs) (hok : ∀ r ∈ rs, r.ok) (hm : Mks w vm0 ms) (hmk : ∀ m ∈ ms, markOk m) (hml : ms.length ≤ 5000) :
  Calls Tryz.prog 73 #[.slice (some ⟨b, off, none⟩) rs.length cap, vm0] w (NewPost rs ms w) := by
 have HR := jh hr;have HOK := jh hok;have HM := jh hm;have HMK := jh hmk;clear hr hok hm hmk;have hmm := @run_makeMap Tryz.prog
 obtain ⟨N, hN⟩ : ∃ N, rs.length = N := ⟨_, rfl⟩
 have HN := jh hN;rw [hN] at h1 h64 ⊢;clear hN
 have hz : ¬ ((N : Int) = 0) := by omega
 have hz64 : ¬ (64 < (N : Int)) := by omega
 have HS0 := jh (RS.start w)
 go_enter Tryz.func73, Tryz.ntmps73
 go_wp2
 rw [show w.heap.size + 1 + 1 + 1 = w.heap.size + 3 from rfl, show w.heap.size + 1 + 1 = w.heap.size + 2 from rfl]
 have hB0 : Below w.heap.size w ((((w.alloc (.map #[] 0)).alloc (.map #[] 0)).alloc (.map #[] 0)).alloc (.cells #[.slice none 0 0, .slice none 0 0, .slice none 0 0, .map (some w.heap.size), .map (some (w.heap.size + 1)), .map (some (w.heap.size + 2))] 185)) :=
  ((((Below.refl _ w).alloc (Nat.le_refl _) _).alloc (by simp) _).alloc (by simp; omega) _).alloc (by simp; omega) _
 generalize (((w.alloc (.map #[] 0)).alloc (.map #[] 0)).alloc (.map #[] 0)).alloc (.cells #[.slice none 0 0, .slice none 0 0, .slice none 0 0, .map (some w.heap.size), .map (some (w.heap.size + 1)), .map (some (w.heap.size + 2))] 185) = W0 at *;clear hmm hz hz64;have HB0 := jh hB0;clear hB0
 go_loopw [30] (fun i wr => ∃ k : Nat, k ≤ N ∧ i = .int .i64 k ∧ Below w.heap.size w wr ∧ regsE rs k = 0 ∧ ∃ vr, RS w.heap.size wr vr (rs.take k) (gD nmKey (rs.take k)) (gD lbKey (rs.take k))) (fun i _ => N - (intOf i).toNat)
 case atStart => exact ⟨0, by omega, rfl, HB0.out, rfl, _, HS0.out⟩
 case round =>
  obtain ⟨k, hk, rfl, hb, hE, vr, hS⟩ := hrel;have HS := jh hS;have HE := jh hE;clear hS hE HS0 HB0
  by_cases hlt : k < N
  ·have hltr : k < rs.length := by rw [HN.out]; exact hlt
   have HO := jh (regE_one rs HOK.out k hltr);have HT := jh (List.take_succ_eq_append_getElem hltr);have HrO := jh (HOK.out rs[k] (List.getElem_mem _));have HL := jh (show (rs.take k).length = k by rw [List.length_take]; omega);have e0 := (hb.cell (p := ⟨b, off + k * 9, none⟩) hbl).trans (HR.out.k0 k hltr);have e1 := (hb.cell (p := ⟨b, off + k * 9 + 1, none⟩) hbl).trans (HR.out.k1 k hltr);have e2 := (hb.cell (p := ⟨b, off + k * 9 + 2, none⟩) hbl).trans (HR.out.k2 k hltr);have e3 := (hb.cell (p := ⟨b, off + k * 9 + 3, none⟩) hbl).trans (HR.out.k3 k hltr);have e4 := (hb.cell (p := ⟨b, off + k * 9 + 4, none⟩) hbl).trans (HR.out.k4 k hltr);have e5 := (hb.cell (p := ⟨b, off + k * 9 + 5, none⟩) hbl).trans (HR.out.k5 k hltr);have e6 := (hb.cell (p := ⟨b, off + k * 9 + 6, none⟩) hbl).trans (HR.out.k6 k hltr);have e7 := (hb.cell (p := ⟨b, off + k * 9 + 7, none⟩) hbl).trans (HR.out.k7 k hltr);have e8 := (hb.cell (p := ⟨b, off + k * 9 + 8, none⟩) hbl).trans (HR.out.k8 k hltr);have hB := jh hb;clear hb;generalize rs[k] = r at *;obtain ⟨nm, lv, cs, bl, nd, fr, pr, op, cl⟩ := r;simp only at e0 e1 e2 e3 e4 e5 e6 e7 e8
   go_wp2_with fail
   have hbA : Below wr.heap.size wr (wr.alloc (.cells #[.string nm, .int .u8 lv, .int .u16 cs, .int .i64 bl, .int .i64 nd, .int .i64 fr, .int .i64 pr, .int .i64 op, .int .i64 cl] 40)) := (Below.refl _ wr).alloc (Nat.le_refl _) _;refine (register_any w.heap.size vr (rs.take k) _ _ N ⟨nm, lv, cs, bl, nd, fr, pr, op, cl⟩ HrO.out _ (HS.out.below hbA) (by rw [HL.out]; omega)).mono ?_;rintro e w1 ⟨rfl, hbad, hgood⟩;rw [← HN.out, HO.out] at hbad hgood ⊢;rw [HN.out];have HBA := jh (hB.out.trans (hbA.mono hB.out.size));clear hbA e0 e1 e2 e3 e4 e5 e6 e7 e8
   by_cases h0 : oneE rs k = 0
   ·obtain ⟨hb1, vr', hS1⟩ := hgood h0;have HB1 := jh (HBA.out.trans hb1);have HS1 := jh hS1;have H0 := jh h0;rw [h0];clear hbad hgood hb1 hS1 HBA h0 HS hB
    go_wp2
    go_roundw
    case rel =>
     refine ⟨k + 1, by omega, by go_num, HB1.out, (regsE_step rs k HE.out).trans H0.out, vr', ?_⟩;rw [HT.out, gD_snoc, gD_snoc];have := HS1.out;rw [HL.out] at this ⊢;exact this
    case measure => simp [intOf]; omega
   ·have hne : newE rs ms = oneE rs k := by
     have e1 : regsE rs rs.length = oneE rs k := (regsE_bad rs (k + 1) (by rw [regsE_step rs k HE.out]; exact h0) rs.length (by omega)).trans (regsE_step rs k HE.out);unfold newE;rw [if_neg (by rw [HN.out]; omega), e1, if_pos h0]
    have HNE := jh hne;have hb1 := HBA.out.trans ((hbad h0).mono (by have := hB.out.size; simp; omega));have HB1 := jh hb1;have H0 := jh h0;clear hbad hgood hne hb1 HBA;generalize oneE rs k = E at *;have hE0 : ¬ (E = 0) := h0
    go_wp2
    refine bodyPost_ret (v := .tuple #[.pointer none, .int .i64 E]) (by simp [results, Tryz.results73, go_sem]) rfl (NewPost.bad E HNE.out H0.out rfl HB1.out)
  ·obtain rfl : k = N := by omega
   obtain ⟨w3, rfl⟩ : ∃ x, x = wr := ⟨wr, rfl⟩
   have HSn : Hid (RS w.heap.size w3 vr rs (gD nmKey rs) (gD lbKey rs)) := by
    have := HS.out;rw [← HN.out, List.take_length] at this;exact this
   have HEn : Hid (regsE rs rs.length = 0) := by show regsE rs rs.length = 0; rw [HN.out]; exact HE.out
   have hl0 : 0 < rs.length := by rw [HN.out]; exact h1
   have e1 : w3.cell? ⟨b, off + 1, none⟩ = some (.int .u8 rs[0].lv) := by have := (hb.cell (p := ⟨b, off + 0 * 9 + 1, none⟩) hbl).trans (HR.out.k1 0 hl0); simpa using this
   have e2 : w3.cell? ⟨b, off + 2, none⟩ = some (.int .u16 rs[0].cs) := by have := (hb.cell (p := ⟨b, off + 0 * 9 + 2, none⟩) hbl).trans (HR.out.k2 0 hl0); simpa using this
   have hg0 : rs.getD 0 zeroRg = rs[0] := by rw [List.getD_eq_getElem?_getD, List.getElem?_eq_getElem hl0]; rfl
   have HG0 := jh hg0;have HB := jh hb;clear hg0 hb HS HE
   by_cases hroot : rs[0].lv = 0 ∧ rs[0].cs = 0
   ·have HP : Hid (newE rs ms = if permB rs rs.length = false then 2 else marksE rs ms ms.length) := by
     show newE rs ms = _
     exact newE_past rs ms hl0 (by rw [HN.out]; omega) HEn.out (by rw [HG0.out]; exact hroot.1) (by rw [HG0.out]; exact hroot.2)
    rw [hroot.1] at e1;rw [hroot.2] at e2;clear hroot
    have h1' : ¬ (k = 0) := by omega
    go_wp2
    go_loopw [51] (fun i wq => ∃ j : Nat, j ≤ k ∧ i = .int .i64 j ∧ Below w3.heap.size w3 wq ∧ permB rs j = true) (fun i _ => k - (intOf i).toNat)
    case atStart => exact ⟨0, by omega, rfl, Below.refl _ _, rfl⟩
    case round =>
     obtain ⟨j, hj, rfl, hbq, hpe⟩ := hrel;have HPE := jh hpe;clear hpe
     by_cases hlt : j < k
     ·have hltr : j < rs.length := by rw [HN.out]; exact hlt
      have HBq := jh (HB.out.trans (hbq.mono HB.out.size))
      have hgj : rs.getD j zeroRg = rs[j] := by rw [List.getD_eq_getElem?_getD, List.getElem?_eq_getElem hltr]; rfl
      have HGJ := jh hgj;clear hgj;have e0 := (HBq.out.cell (p := ⟨b, off + j * 9, none⟩) hbl).trans (HR.out.k0 j hltr);have e1 := (HBq.out.cell (p := ⟨b, off + j * 9 + 1, none⟩) hbl).trans (HR.out.k1 j hltr);have e2 := (HBq.out.cell (p := ⟨b, off + j * 9 + 2, none⟩) hbl).trans (HR.out.k2 j hltr);have e3 := (HBq.out.cell (p := ⟨b, off + j * 9 + 3, none⟩) hbl).trans (HR.out.k3 j hltr);have e4 := (HBq.out.cell (p := ⟨b, off + j * 9 + 4, none⟩) hbl).trans (HR.out.k4 j hltr);have e5 := (HBq.out.cell (p := ⟨b, off + j * 9 + 5, none⟩) hbl).trans (HR.out.k5 j hltr);have e6 := (HBq.out.cell (p := ⟨b, off + j * 9 + 6, none⟩) hbl).trans (HR.out.k6 j hltr);have e7 := (HBq.out.cell (p := ⟨b, off + j * 9 + 7, none⟩) hbl).trans (HR.out.k7 j hltr);have e8 := (HBq.out.cell (p := ⟨b, off + j * 9 + 8, none⟩) hbl).trans (HR.out.k8 j hltr);have HSq := jh (HSn.out.below hbq);have hBq := jh hbq;clear hbq;generalize rs[j] = r at *;obtain ⟨nm, lv, cs, bl, nd, fr, pr, op, cl⟩ := r;simp only at e0 e1 e2 e3 e4 e5 e6 e7 e8
      go_wp2_with fail
      have hbA : Below wr.heap.size wr (wr.alloc (.cells #[.string nm, .int .u8 lv, .int .u16 cs, .int .i64 bl, .int .i64 nd, .int .i64 fr, .int .i64 pr, .int .i64 op, .int .i64 cl] 40)) := (Below.refl _ wr).alloc (Nat.le_refl _) _;refine (cleq_any (w.heap.size + 3) vr rs j cl _ (Nat.lt_of_lt_of_le (by omega) ((HSq.out.below hbA).cb.lt)) (HSq.out.below hbA).cb.c0 (regs_of_row (HSq.out.below hbA).row)).mono ?_;rintro e w1 ⟨rfl, hb1⟩;have HB1 := jh (hBq.out.trans ((hbA.trans (hb1.mono (by simp))).mono hBq.out.size))
      have HLQ : Hid (permB rs (j + 1) = leqAt rs j cl) := by
       show permB rs (j + 1) = _
       rw [permB, HPE.out, HGJ.out, Bool.true_and]
      clear hb1 hbA e0 e1 e2 e3 e4 e5 e6 e7 e8 HSq HBq
      cases hq : leqAt rs j cl
      ·have HF : Hid (newE rs ms = 2) := by
        show newE rs ms = 2
        rw [HP.out, if_pos (permB_bad rs (j + 1) (HLQ.out.trans hq) _ (by omega))]
       clear hq
       go_wp2
       refine bodyPost_ret (v := .tuple #[.pointer none, .int .i64 2]) (by simp [results, Tryz.results73, go_sem]) rfl (NewPost.bad 2 HF.out (by decide) rfl (HB.out.trans (HB1.out.mono HB.out.size)))
      ·have HQ := jh hq;clear hq
       go_wp2
       go_roundw
       case rel => exact ⟨j + 1, by omega, by go_num, HB1.out, HLQ.out.trans HQ.out⟩
       case measure => simp [intOf]; omega
     ·obtain rfl : j = k := by omega
      have HPm : Hid (newE rs ms = marksE rs ms ms.length) := by
       show newE rs ms = _
       rw [HP.out, HN.out, if_neg (by rw [HPE.out]; decide)]
      obtain ⟨w4, rfl⟩ : ∃ x, x = wr := ⟨wr, rfl⟩
      have HS4 := jh (HSn.out.below hbq);have HB4 := jh (HB.out.trans (hbq.mono HB.out.size));clear HP hbq HB HSn e1 e2 HPE;obtain ⟨ma, mc, rfl⟩ := HM.out.form
      obtain ⟨M, hM⟩ : ∃ M, ms.length = M := ⟨_, rfl⟩
      have HMl := jh hM;rw [hM] at hml ⊢;clear hM
      have HMS : Hid (MS w.heap.size w4.heap.size w4 vr (.slice none 0 0) rs (ms.take 0) (gD nmKey rs) (gD lbKey rs) (tD (ms.take 0))) :=
       ⟨HS4.out.cb, HS4.out.cb.lt, Nat.le_refl _, HS4.out.row, ownsRow_lt HS4.out.row, World.ownsRow_nil _ _ _ _, HS4.out.mn, HS4.out.ml, HS4.out.mt⟩
      go_wp2
      go_loopw [65] (fun i wq => ∃ j : Nat, j ≤ M ∧ i = .int .i64 j ∧ Below w.heap.size w wq ∧ marksE rs ms j = 0 ∧ ∃ vm, MS w.heap.size w4.heap.size wq vr vm rs (ms.take j) (gD nmKey rs) (gD lbKey rs) (tD (ms.take j))) (fun i _ => M - (intOf i).toNat)
      case atStart => exact ⟨0, by omega, rfl, HB4.out, rfl, _, HMS.out⟩
      case round =>
       obtain ⟨i, hi, rfl, hb, hE, vm, hS⟩ := hrel;have HS := jh hS;have HE := jh hE;have HBi := jh hb;clear hS hE HMS
       by_cases hlt : i < M
       ·have hltm : i < ms.length := by rw [HMl.out]; exact hlt
        obtain ⟨b', off', cap', hv, hbl', -, hr2⟩ := HM.out.row (by omega)
        obtain ⟨rfl, rfl⟩ : ma = some ⟨b', off', none⟩ ∧ mc = cap' := by simpa using hv
        have m0 := (hb.cell (p := ⟨b', off' + i * 2, none⟩) hbl').trans (hr2.k0 i hltm);have m1 := (hb.cell (p := ⟨b', off' + i * 2 + 1, none⟩) hbl').trans (hr2.k1 i hltm);have HO := jh (markE_one rs ms HMK.out i hltm);have HT := jh (List.take_succ_eq_append_getElem hltm);have HmO := jh (HMK.out ms[i] (List.getElem_mem _));have HLm := jh (show (ms.take i).length = i by rw [List.length_take]; omega);clear hv hr2 hb;generalize ms[i] = m at *;obtain ⟨lab, num⟩ := m;simp only at m0 m1
        go_wp2_with fail
        have hbA : Below wr.heap.size wr (wr.alloc (.cells #[.int .u8 lab, .int .u16 num] 272)) := (Below.refl _ wr).alloc (Nat.le_refl _) _;refine (trust_any w.heap.size w4.heap.size vr vm rs (ms.take i) _ _ _ lab num HmO.out.1 HmO.out.2.1 HmO.out.2.2.1 HmO.out.2.2.2 _ (HS.out.below hbA) (by rw [HLm.out]; omega)).mono ?_;rintro e w5 ⟨rfl, hbad, hgood⟩;rw [HO.out] at hbad hgood ⊢;have HBA := jh (HBi.out.trans (hbA.mono HBi.out.size));clear hbA m0 m1
        by_cases h0 : markOne rs ms i = 0
        ·obtain ⟨hb5, vm', hS5⟩ := hgood h0;have HB5 := jh (HBA.out.trans hb5);have HS5 := jh hS5;have H0 := jh h0;rw [h0];clear hbad hgood hb5 hS5 HBA h0 HS
         go_wp2
         go_roundw
         case rel =>
          refine ⟨i + 1, by omega, by go_num, HB5.out, (marksE_step rs ms i HE.out).trans H0.out, vm', ?_⟩;rw [HT.out, tD_snoc];exact HS5.out
         case measure => simp [intOf]; omega
        ·have HNE : Hid (newE rs ms = markOne rs ms i) := by
          show newE rs ms = _
          rw [HPm.out, marksE_bad rs ms (i + 1) (by rw [marksE_step rs ms i HE.out]; exact h0) ms.length (by omega), marksE_step rs ms i HE.out]
         have HB5 := jh (HBA.out.trans ((hbad h0).mono (by have := HBi.out.size; simp; omega)));have H0 := jh h0;clear hbad hgood HBA;generalize markOne rs ms i = E at *;have hE0 : ¬ (E = 0) := h0
         go_wp2
         refine bodyPost_ret (v := .tuple #[.pointer none, .int .i64 E]) (by simp [results, Tryz.results73, go_sem]) rfl (NewPost.bad E HNE.out H0.out rfl HB5.out)
       ·obtain rfl : i = M := by omega
        have HZ : Hid (newE rs ms = 0) := by
         show newE rs ms = 0
         rw [HPm.out, HMl.out]; exact HE.out
        have HS6 : Hid (MS w.heap.size w4.heap.size wr vr vm rs ms (gD nmKey rs) (gD lbKey rs) (tD ms)) := by
         have := HS.out;rw [← HMl.out, List.take_length] at this;exact this
        obtain ⟨w6, rfl⟩ : ∃ x, x = wr := ⟨wr, rfl⟩
        clear HS hb HPm HE;obtain ⟨⟨lt, c0, c1, c2, c3, c4, c5, f0, f1, f2⟩, -, -, row, -, -, -, -, -⟩ := id HS6.out;obtain ⟨g, go, gcap, rfl, hgl, -, hrow9⟩ := (regs_of_row row).row (by rw [HN.out]; exact h1);have HR9 := jh hrow9;have hsm := small_of rs HEn.out;have HSM := jh hsm;clear hrow9 row c1 c2 c3 c4 c5 f0 f1 f2 hsm;rw [HN.out] at c0
        go_wp2_with fail
        rw [← HN.out];refine (lay_some g go gcap rs _ hgl (by rw [HN.out]; exact h64) HSM.out HR9.out).mono ?_;rintro e w7 ⟨vg, rfl, hown, hb7⟩;obtain ⟨ga, gc, rfl⟩ := ownsRow_form hown;have HS7 := jh (HS6.out.below hb7);have HG7 := jh (ownsRow_base hown (show w.heap.size + 4 ≤ w6.heap.size from lt));have HB7 := jh (HBi.out.trans (hb7.mono HBi.out.size));clear hown hb7 c0 lt;obtain ⟨⟨lt, c0, c1, c2, c3, c4, c5, f0, f1, f2⟩, -, -, -, -, -, -, -, -⟩ := id HS7.out;clear c0 c1 c3 c4 c5 f0 f1
        go_wp2
        refine bodyPost_ret (v := .tuple #[.pointer (some ⟨w.heap.size + 3, 0, none⟩), .int .i64 0]) (by simp [results, Tryz.results73, go_sem]) rfl ?_;refine ⟨fun h => absurd HZ.out h, fun _ => ⟨w.heap.size, .slice (some ⟨g, go, none⟩) rs.length gcap, vm, .slice ga rs.length gc, rfl, Nat.le_refl _, HB7.out.setCell (by simp) _, ?_⟩⟩;have e7 : ∀ b, b ≠ w.heap.size + 3 → (w7.setCell ⟨w.heap.size + 3, 2, none⟩ (.slice ga rs.length gc)).heap[b]? = w7.heap[b]? := fun b hb => heap_set _ _ _ _ hb;exact ⟨HS7.out.cb.set2 _, ownsRow_same HS7.out.row (fun b hb _ => e7 b (by omega)), ownsRow_same (ownsRow_base HS7.out.rm HS7.out.lo) (fun b hb _ => e7 b (by omega)), ownsRow_same HG7.out (fun b hb _ => e7 b (by omega)), ownsMap_same HS7.out.mn (e7 _ (by omega)), ownsMap_same HS7.out.ml (e7 _ (by omega)), ownsMap_same HS7.out.mt (e7 _ (by omega))⟩
   ·have HP : Hid (newE rs ms = 25) := by
     show newE rs ms = 25
     unfold newE;rw [if_neg (by rw [HN.out]; omega), if_neg (by rw [HEn.out]; simp), if_pos];rw [HG0.out]
     simpa using hroot
    by_cases hr0 : rs[0].lv = 0
    ·have hr1 : ¬ (rs[0].cs = 0) := fun h => hroot ⟨hr0, h⟩;clear hroot
     go_wp2
     refine bodyPost_ret (v := .tuple #[.pointer none, .int .i64 25]) (by simp [results, Tryz.results73, go_sem]) rfl (NewPost.bad 25 HP.out (by decide) rfl HB.out)
    ·clear hroot
     go_wp2
     refine bodyPost_ret (v := .tuple #[.pointer none, .int .i64 25]) (by simp [results, Tryz.results73, go_sem]) rfl (NewPost.bad 25 HP.out (by decide) rfl HB.out)
def Ge.val (g : Ge) : Value := .agg #[.int .i64 g.base, .int .i64 g.bm, .int .i64 g.tb, .int .i64 g.da, .int .i64 g.bl, .int .i64 g.nd]
theorem lay_len (rs : List Rg) : (layF rs).1.length = rs.length := by
 have := layF_len rs rs.length (Nat.le_refl _)
 rwa [List.take_length] at this
theorem CF.len {n : Nat} {w : World} {vr vm vg : Value} {rs : List Rg} {ms : List (Int × Int)} (h : CF n w vr vm vg rs ms) : ∃ a cap, vr = .slice a rs.length cap := ownsRow_form h.row
theorem CF.geo {n : Nat} {w : World} {vr vm vg : Value} {rs : List Rg} {ms : List (Int × Int)} (h : CF n w vr vm vg rs ms) (h0 : 0 < rs.length) : ∃ g cap, vg = .slice (some ⟨g, 0, none⟩) rs.length cap ∧ g < w.heap.size ∧ rs.length ≤ maxLen ∧ ∀ i (hi : i < rs.length) j, j < 6 → w.cell? ⟨g, i * 6 + j, none⟩ = ((layF rs).1[i]'(by rw [lay_len]; exact hi)).cells[j]? := by
 have hl := lay_len rs;rcases ownsRow_cell (k := 6) (fun _ => rfl) hl.symm h.rg with ⟨-, h1⟩ | ⟨g, cap, hv, -, hlt, hm, hc⟩
 ·rw [h1] at hl
  simp at hl
  omega
 ·rw [hl] at hv hm;exact ⟨g, cap, hv, hlt, hm, fun i hi j hj => hc i (by omega) j hj⟩
theorem geo_in (n : Nat) (vr vm vg : Value) (rs : List Rg) (ms : List (Int × Int)) (i : Nat) (hi : i < rs.length) (w : World) (h : CF n w vr vm vg rs ms) :
  Calls Tryz.prog 76 #[.pointer (some ⟨n + 3, 0, none⟩), .int .i64 i] w fun e w' => e = .returned (.tuple #[((layF rs).1[i]'(by rw [lay_len]; exact hi)).val, .bool true]) ∧ Below w.heap.size w w' := by
 obtain ⟨ra, rc, rfl⟩ := h.len;obtain ⟨g, cap, rfl, hgl, hm, hc⟩ := h.geo (by omega);obtain ⟨lt, c0, c1, c2, c3, c4, c5, f0, f1, f2⟩ := h.cb;have e0 := hc i hi 0 (by omega);have e1 := hc i hi 1 (by omega);have e2 := hc i hi 2 (by omega);have e3 := hc i hi 3 (by omega);have e4 := hc i hi 4 (by omega);have e5 := hc i hi 5 (by omega);generalize (layF rs).1[i]'(by rw [lay_len]; exact hi) = gg at *;obtain ⟨bs, bm, tb, da, bl, nd⟩ := gg
 simp [Ge.cells] at e0 e1 e2 e3 e4 e5
 have hlen := fun W hW => len_any (n + 3) ra rs.length rc W hW hm;unfold maxLen at hm;have hlt : w.heap.size < w.heap.size + 1 := Nat.lt_succ_self _
 have hn3 : n + 3 < w.heap.size := by omega
 have hi0 : (0 : Int) ≤ (i : Int) := by omega
 have hi1 : (i : Int) < (rs.length : Int) := by omega
 have HC := jh hc;clear hc h c1 c3 c4 c5 f0 f1 f2
 go_enter Tryz.func76, Tryz.ntmps76
 go_wp2_with fail
 refine (hlen _ (cell_al c0 _)).mono ?_;rintro e w1 ⟨rfl, rfl⟩;clear hlen
 go_wp2
 refine bodyPost_ret (v := .tuple #[.agg #[.int .i64 bs, .int .i64 bm, .int .i64 tb, .int .i64 da, .int .i64 bl, .int .i64 nd], .bool true]) (by simp [results, Tryz.results76, go_sem, World.cell?_alloc_new]) rfl ⟨rfl, (Below.refl _ _).alloc (Nat.le_refl _) _⟩
theorem lay_nth (rs : List Rg) (i : Nat) (hi : i < rs.length) : (layF rs).1[i]'(by rw [lay_len]; exact hi) = geoAt (layF (rs.take i)).2 rs[i] := by
 have key : ∀ k, k ≤ rs.length → ∀ (hik : i < k), (layF (rs.take k)).1[i]? = some (geoAt (layF (rs.take i)).2 rs[i]) := by
  intro k
  induction k with
  | zero => intro _ h; omega
  | succ k ih =>
   intro hk hik;rw [layF_take rs k (by omega), layStep];simp only
   by_cases e : i = k
   ·subst e;rw [List.getElem?_append_right (by rw [layF_len rs i (by omega)]; exact Nat.le_refl _), layF_len rs i (by omega)]
    simp
   ·rw [List.getElem?_append_left (by rw [layF_len rs k (by omega)]; omega)];exact ih (by omega) (by omega)
 have h1 := key rs.length (Nat.le_refl _) hi;rw [List.take_length] at h1;rw [List.getElem?_eq_getElem (by rw [lay_len]; exact hi)] at h1;exact Option.some.inj h1
theorem lay_fin (rs : List Rg) (i : Nat) (hi : i < rs.length) : ((layF rs).1[i]'(by rw [lay_len]; exact hi)).fin = (layF (rs.take (i + 1))).2 := by
 rw [lay_nth rs i hi, layF_take rs i hi, layStep]
theorem lay_range (rs : List Rg) (hs : ∀ r ∈ rs, Small r) (h64 : rs.length ≤ 64) (i : Nat) (hi : i < rs.length) :
  32 ≤ ((layF rs).1[i]'(by rw [lay_len]; exact hi)).base ∧ ((layF rs).1[i]'(by rw [lay_len]; exact hi)).base < ((layF rs).1[i]'(by rw [lay_len]; exact hi)).da ∧ ((layF rs).1[i]'(by rw [lay_len]; exact hi)).da < 100000 ∧ 4 ≤ ((layF rs).1[i]'(by rw [lay_len]; exact hi)).bl ∧ ((layF rs).1[i]'(by rw [lay_len]; exact hi)).bl ≤ 512 ∧ 4 ≤ ((layF rs).1[i]'(by rw [lay_len]; exact hi)).nd ∧ ((layF rs).1[i]'(by rw [lay_len]; exact hi)).nd ≤ 128 ∧ ((layF rs).1[i]'(by rw [lay_len]; exact hi)).base < 50000 := by
 rw [lay_nth rs i hi];obtain ⟨s1, s2, s3, s4⟩ := hs rs[i] (List.getElem_mem _);obtain ⟨r1, r2⟩ := layF_range rs hs i (by omega);simp only [geoAt];omega
theorem clen_any (n : Nat) (vr vm vg : Value) (rs : List Rg) (ms : List (Int × Int)) (w : World) (h : CF n w vr vm vg rs ms) (h64 : rs.length ≤ 64) :
  Calls Tryz.prog 51 #[.pointer (some ⟨n + 3, 0, none⟩)] w fun e w' => e = .returned (.int .i64 rs.length) ∧ w' = w := by
 obtain ⟨ra, rc, rfl⟩ := h.len;exact len_any (n + 3) ra rs.length rc w h.cb.c0 (by unfold maxLen; omega)
theorem total_any (n : Nat) (vr vm vg : Value) (rs : List Rg) (ms : List (Int × Int)) (hs : ∀ r ∈ rs, Small r) (h0 : 0 < rs.length) (h64 : rs.length ≤ 64) (w : World) (h : CF n w vr vm vg rs ms) :
  Calls Tryz.prog 137 #[.pointer (some ⟨n + 3, 0, none⟩)] w fun e w' => e = .returned (.int .i64 (layF rs).2) ∧ Below w.heap.size w w' := by
 have hlen := clen_any n vr vm vg rs ms w h h64;have hgeo := geo_in n vr vm vg rs ms (rs.length - 1) (by omega) w h;have hfin := lay_fin rs (rs.length - 1) (by omega);rw [show rs.length - 1 + 1 = rs.length by omega, List.take_length] at hfin;have hran := lay_range rs hs h64 (rs.length - 1) (by omega);generalize (layF rs).1[rs.length - 1]'(by rw [lay_len]; omega) = g at *;obtain ⟨bs, bm, tb, da, bl, nd⟩ := g;simp only [Ge.val, Ge.fin] at hgeo hfin hran;rw [← hfin]
 have e : ((rs.length - 1 : Nat) : Int) = (rs.length : Int) - 1 := by omega
 rw [e] at hgeo;have hend := fun W => end_any bs bm tb da bl nd W (by omega) (by omega) (by omega) (by omega);clear h hfin e hs
 go_enter Tryz.func137, Tryz.ntmps137
 go_wp2_with fail
 refine hlen.mono ?_;rintro e w1 ⟨rfl, rfl⟩
 go_wp2_with fail
 refine hgeo.mono ?_;rintro e w2 ⟨rfl, hb2⟩;have HB := jh hb2;clear hlen hgeo hb2
 go_wp2_with fail
 refine (hend _).mono ?_;rintro e w3 ⟨rfl, hb3⟩;have HB3 := jh ((HB.out.alloc HB.out.size _).trans (hb3.mono (by have := HB.out.size; simp; omega)));clear hb3 hend
 go_wp2
 go_ret
 exact ⟨rfl, HB3.out⟩
def inG (g : Ge) (x : Int) : Prop := g.base ≤ x ∧ x < g.fin
instance (g : Ge) (x : Int) : Decidable (inG g x) := inferInstanceAs (Decidable (_ ∧ _))
theorem set9_other {w : World} {g b j : Nat} (r : Rg) (w' : World) (h : g ≠ b) : (set9 w g r).cell? ⟨b, j, none⟩ = w.cell? ⟨b, j, none⟩ := by
 unfold set9
 repeat rw [World.cell?_setCell_far _ _ _ _ (by exact h)]
theorem share4 {α β γ δ : Type} {F P : α → β → γ → δ → Prop} {G : Prop} (h1 : Shut (∀ a b c d, F a b c d → P a b c d) → G) (h2 : ∀ a b c d, F a b c d → P a b c d) : G := h1 h2
theorem U8s.below {w w' : World} {v : Value} {ts : List Int} (h : U8s w v ts) (hb : Below w.heap.size w w') : U8s w' v ts := by
 rcases h with h | ⟨b, off, cap, hv, hl, hm, hr⟩
 ·exact .inl h
 ·exact .inr ⟨b, off, cap, hv, Nat.lt_of_lt_of_le hl hb.size, hm, fun i hi => (hb.cell (p := ⟨b, off + i, none⟩) hl).trans (hr i hi)⟩
def acM (many : Nat) (ts : List Int) (j : Nat) : List (Int × Int) := ((ts.take j).foldl (sizeMStep many) ([], 0)).1
theorem acM_snd (many : Nat) : ∀ (ts : List Int) (a : List (Int × Int) × Nat), (ts.foldl (sizeMStep many) a).2 = a.2 + ts.length
 | [], _ => rfl
 | x :: ts, a => by rw [List.foldl_cons, acM_snd many ts]; simp only [sizeMStep, List.length_cons]; omega
theorem acM_zero (many : Nat) (ts : List Int) : acM many ts 0 = [] := rfl
theorem acM_all (many : Nat) (ts : List Int) : acM many ts ts.length = sizeMs many ts := by unfold acM sizeMs; rw [List.take_length]
theorem acM_succ (many : Nat) (ts : List Int) (j : Nat) (hj : j < ts.length) : acM many ts (j + 1) = if 8 < j ∨ sizeMk many ts[j] ∈ acM many ts j then acM many ts j else acM many ts j ++ [sizeMk many ts[j]] := by
 have h2 : ((ts.take j).foldl (sizeMStep many) ([], 0)).2 = j := by
  rw [acM_snd];simp only [List.length_take];omega
 unfold acM;rw [List.take_succ_eq_append_getElem hj, List.foldl_append, List.foldl_cons, List.foldl_nil];simp only [sizeMStep, h2]
theorem acM_len (many : Nat) (ts : List Int) : ∀ j, j ≤ ts.length → (acM many ts j).length ≤ j
 | 0, _ => by rw [acM_zero]; exact Nat.le_refl _
 | j + 1, h => by
  have ih := acM_len many ts j (by omega);rw [acM_succ many ts j (by omega)]
  split
  ·omega
  ·rw [List.length_append]; simp only [List.length_cons, List.length_nil]; omega
theorem acM_nine (many : Nat) (ts : List Int) : ∀ j, j ≤ ts.length → (acM many ts j).length ≤ 9
 | 0, _ => by rw [acM_zero]; exact Nat.zero_le _
 | j + 1, h => by
  by_cases h8 : 8 < j
  ·rw [acM_succ many ts j (by omega), if_pos (.inl h8)];exact acM_nine many ts j (by omega)
  ·exact Nat.le_trans (acM_len many ts (j + 1) h) (by omega)
theorem sizeR0_len (M : Nat) (H : Nat → Nat → Int) : (sizeR0 M H).length = M := by simp [sizeR0]
theorem mks_of_row {w : World} {base : Nat} {v : Value} {ms : List (Int × Int)} {n : Nat} (hn : n = ms.length) (h : w.ownsRow base 272 2 v n (flatM ms)) : Mks w v ms := by
 rcases ownsRow_cell (k := 2) (fun _ => rfl) hn h with ⟨hv, hn⟩ | ⟨g, cap, hv, hg, hlt, hm, hc⟩
 ·exact .inl ⟨none, 0, hv, hn⟩
 ·refine .inr ⟨g, 0, cap, hv, hlt, hm, ?_⟩
  constructor
  ·intro i hi; have := hc i hi 0 (by omega); simpa [markCells] using this
  ·intro i hi; have := hc i hi 1 (by omega); simpa [markCells] using this
theorem sizelabs_2 (m : Int) (hm : 2 + m.toNat % 4 = 2) (m0 : 0 ≤ m) (m1 : m < 256) (H : Nat → Nat → Int) (hH : Hok H) (tv : Value) (ts : List Int) (hts : ∀ x ∈ ts, 0 ≤ x ∧ x < 256) (w : World) (htv : U8s w tv ts) (hl : ts.length ≤ maxLen) :
  Calls Tryz.prog 74 #[sizeVal m H tv] w fun e w' => ∃ v1 v2, e = .returned (.tuple #[v1, v2]) ∧ Below w.heap.size w w' ∧ Regs w' v1 (sizeRs 2 H) ∧ Mks w' v2 (sizeMs 2 ts) := by
 obtain ⟨i0, hi, hz0, hz1, hz2⟩ := info_parts Tryz.info39;have HTV := jh htv;have HTS := jh hts;have HH := jh hH
 have hMm : m % 4 = 2 - 2 := by omega
 simp only [show (2 : Int) - 2 = (0 : Int) from rfl] at hMm;have HB := jh (BoxS.new w m H tv 29);have hb00 := HB.out.c0;unfold sizeVal;clear htv hts hH
 go_enter Tryz.func74, Tryz.ntmps74
 go_wp2
 obtain ⟨w0, hw0⟩ : ∃ x, w.alloc (.cells #[.int .u8 m, .int .u8 (H 0 0), .int .u8 (H 0 1), .int .u8 (H 0 2), .int .u8 (H 0 3), .int .u8 (H 0 4), .int .u8 (H 1 0), .int .u8 (H 1 1), .int .u8 (H 1 2), .int .u8 (H 1 3), .int .u8 (H 1 4), .int .u8 (H 2 0), .int .u8 (H 2 1), .int .u8 (H 2 2), .int .u8 (H 2 3), .int .u8 (H 2 4), .int .u8 (H 3 0), .int .u8 (H 3 1), .int .u8 (H 3 2), .int .u8 (H 3 3), .int .u8 (H 3 4), .int .u8 (H 4 0), .int .u8 (H 4 1), .int .u8 (H 4 2), .int .u8 (H 4 3), .int .u8 (H 4 4), tv] 29) = x := ⟨_, rfl⟩
 rw [hw0] at HB ⊢
 obtain ⟨sv0, hsv⟩ : ∃ x : Value, Value.agg #[.int .u8 m, .int .u8 (H 0 0), .int .u8 (H 0 1), .int .u8 (H 0 2), .int .u8 (H 0 3), .int .u8 (H 0 4), .int .u8 (H 1 0), .int .u8 (H 1 1), .int .u8 (H 1 2), .int .u8 (H 1 3), .int .u8 (H 1 4), .int .u8 (H 2 0), .int .u8 (H 2 1), .int .u8 (H 2 2), .int .u8 (H 2 3), .int .u8 (H 2 4), .int .u8 (H 3 0), .int .u8 (H 3 1), .int .u8 (H 3 2), .int .u8 (H 3 3), .int .u8 (H 3 4), .int .u8 (H 4 0), .int .u8 (H 4 1), .int .u8 (H 4 2), .int .u8 (H 4 3), .int .u8 (H 4 4), tv] = x := ⟨_, rfl⟩
 rw [hsv]
 have hsz0 : w0.heap.size = w.heap.size + 1 := by rw [← hw0]; simp
 have HBW : Hid (Below w.heap.size w w0) := by rw [← hw0]; exact (Below.refl _ _).alloc (Nat.le_refl _) _
 have hbl : w.heap.size < w0.heap.size := by omega
 clear hw0 hb00 hsv hMm hsz0
 go_loopw [5, 22] (fun v i wr => ∃ k : Nat, k ≤ 2 ∧ i = .int .i64 k ∧ wr.ownsRow w0.heap.size 40 9 v k (flatR ((sizeR0 2 H).take k)) ∧ Below w0.heap.size w0 wr) (fun _ i _ => 2 - (intOf i).toNat)
 case atStart => exact ⟨0, by omega, rfl, World.ownsRow_nil _ _ _ _, Below.refl _ _⟩
 case round =>
  obtain ⟨k, hk, rfl, hown, hb⟩ := hrel;obtain ⟨ra, rcap, rfl⟩ := ownsRow_form hown;have HO := jh hown;have HBR := jh hb;have hwz := hb.size;have HBX := jh (HB.out.below hb (by omega));clear hown hb
  by_cases hlt : k < 2
  ·have h0 := HBX.out.ch k 0 (by omega) (by omega);have h1 := HBX.out.ch k 1 (by omega) (by omega);have h2 := HBX.out.ch k 2 (by omega) (by omega);have h3 := HBX.out.ch k 3 (by omega) (by omega);have h4 := HBX.out.ch k 4 (by omega) (by omega);simp only [Nat.add_zero] at h0
   go_wp2
   obtain ⟨x0, e0⟩ : ∃ x, H k 0 = x := ⟨_, rfl⟩
   obtain ⟨x1, e1⟩ : ∃ x, H k 1 = x := ⟨_, rfl⟩
   obtain ⟨x2, e2⟩ : ∃ x, H k 2 = x := ⟨_, rfl⟩
   obtain ⟨x3, e3⟩ : ∃ x, H k 3 = x := ⟨_, rfl⟩
   obtain ⟨x4, e4⟩ : ∃ x, H k 4 = x := ⟨_, rfl⟩
   have r0 := HH.out k 0 (by omega) (by omega);have r1 := HH.out k 1 (by omega) (by omega);have r2 := HH.out k 2 (by omega) (by omega);have r3 := HH.out k 3 (by omega) (by omega);have r4 := HH.out k 4 (by omega) (by omega)
   have HSE : Hid (sizeRg 2 H k = ⟨nmL k, lvL k, csL k, 8 + x0 % 60, 8 + 2 * (x1 % 12), 4 + x2 % 40, 1 + x3 % 6, 2 + x4 % 14, if 2 = 2 then 1 else if 2 < 4 ∧ 0 < k then (k : Int) else 1⟩) := by
    show sizeRg 2 H k = _
    unfold sizeRg;rw [e0, e1, e2, e3, e4]
    try rfl
   simp only [e0, e1, e2, e3, e4] at r0 r1 r2 r3 r4 ⊢;obtain ⟨r00, r01⟩ := r0;obtain ⟨r10, r11⟩ := r1;obtain ⟨r20, r21⟩ := r2;obtain ⟨r30, r31⟩ := r3;obtain ⟨r40, r41⟩ := r4
   have HT : Hid ((sizeR0 2 H).take (k + 1) = (sizeR0 2 H).take k ++ [sizeRg 2 H k]) := by
    have hl : k < (sizeR0 2 H).length := by rw [sizeR0_len]; exact hlt
    show (sizeR0 2 H).take (k + 1) = _
    rw [List.take_succ_eq_append_getElem hl]
    simp [sizeR0]
   obtain ⟨w1, hw1⟩ : ∃ x, wr.alloc (.cells #[.int .u8 x0, .int .u8 x1, .int .u8 x2, .int .u8 x3, .int .u8 x4] 25) = x := ⟨_, rfl⟩
   rw [hw1]
   have q0 : w1.cell? ⟨wr.heap.size, 0, none⟩ = some (.int .u8 x0) := by rw [← hw1]; simp [World.cell?_alloc_new]
   have q1 : w1.cell? ⟨wr.heap.size, 1, none⟩ = some (.int .u8 x1) := by rw [← hw1]; simp [World.cell?_alloc_new]
   have q2 : w1.cell? ⟨wr.heap.size, 2, none⟩ = some (.int .u8 x2) := by rw [← hw1]; simp [World.cell?_alloc_new]
   have q3 : w1.cell? ⟨wr.heap.size, 3, none⟩ = some (.int .u8 x3) := by rw [← hw1]; simp [World.cell?_alloc_new]
   have q4 : w1.cell? ⟨wr.heap.size, 4, none⟩ = some (.int .u8 x4) := by rw [← hw1]; simp [World.cell?_alloc_new]
   have hs1 : w1.heap.size = wr.heap.size + 1 := by rw [← hw1]; simp
   have hbr1 : Below wr.heap.size wr w1 := by rw [← hw1]; exact (Below.refl _ _).alloc (Nat.le_refl _) _
   have HO1 := jh (ownsRow_below HO.out hbr1);have HBR1 := jh (HBR.out.trans (hbr1.mono hwz))
   have hq : wr.heap.size < w1.heap.size := by omega
   clear hw1 hbr1 hs1 h0 h1 h2 h3 h4 e0 e1 e2 e3 e4;clear HO HBR HBX;apply share4 (F := fun (A A2 g : Nat) (w5 : World) => Box9 w5 g ⟨nmL k, lvL k, csL k, 8 + x0 % 60, 8 + 2 * (x1 % 12), 4 + x2 % 40, 1 + x3 % 6, 2 + x4 % 14, 1⟩ ∧ w5.frozen? ⟨g, 8, none⟩ = false ∧ Below w1.heap.size w1 w5 ∧ g < w5.heap.size ∧ w1.heap.size ≤ g)
   ·intro tail;refine wp_region_held (S := fun W => Below w1.heap.size w1 W) (by kernel_rfl) ?_;change wpAnyH _ _ _ _ _ _ _ _ (World.drew _);have hS0 : Below w1.heap.size w1 w1.drew := (Below.refl _ w1).drew;refine jk 1 (v:=?_) rfl (by kernel_rfl) (fun _ _ _=>id) (by rfl) ?_ hS0 ?_;rotate_left
    ·intro W hW;go_simp;try with_reducible rfl
    try simp only [Act.put,j4,j5,j6]
    refine jk 5 (v:=?_) rfl (by kernel_rfl) (fun _ _ _=>id) (by rfl) ?_ hS0 ?_;rotate_left
    ·intro W hW;go_simp;try with_reducible rfl
    try simp only [Act.put,j4,j5,j6]
    refine jk 8 (v:=?_) rfl (by kernel_rfl) (fun _ _ _=>id) (by rfl) ?_ hS0 ?_;rotate_left
    ·intro W hW;go_simp;try with_reducible rfl
    try simp only [Act.put,j4,j5,j6]
    refine jk 9 (v:=?_) rfl (by kernel_rfl) (fun _ _ _=>id) (by rfl) ?_ hS0 ?_;rotate_left 1
    ·intro W hW;have q_ := (hW.cell (p := ⟨wr.heap.size, 0, none⟩) hq).trans q0;go_simp
     try with_reducible rfl
    try simp only [Act.put,j4,j5,j6]
    refine jk 10 (v:=?_) rfl (by kernel_rfl) (fun _ _ _=>id) (by rfl) ?_ hS0 ?_;rotate_left
    ·intro W hW;go_simp;try with_reducible rfl
    try simp only [Act.put,j4,j5,j6]
    refine jk 11 (v:=?_) rfl (by kernel_rfl) (fun _ _ _=>id) (by rfl) ?_ hS0 ?_;rotate_left
    ·intro W hW;go_simp;try with_reducible rfl
    try simp only [Act.put,j4,j5,j6]
    refine jk 12 (v:=?_) rfl (by kernel_rfl) (fun _ _ _=>id) (by rfl) ?_ hS0 ?_;rotate_left
    ·intro W hW;go_simp;try with_reducible rfl
    try simp only [Act.put,j4,j5,j6]
    refine jk 13 (v:=?_) rfl (by kernel_rfl) (fun _ _ _=>id) (by rfl) ?_ hS0 ?_;rotate_left
    ·intro W hW;go_simp;try with_reducible rfl
    try simp only [Act.put,j4,j5,j6]
    refine jk 14 (v:=?_) rfl (by kernel_rfl) (fun _ _ _=>id) (by rfl) ?_ hS0 ?_;rotate_left 1
    ·intro W hW;have q_ := (hW.cell (p := ⟨wr.heap.size, 1, none⟩) hq).trans q1;go_simp
     try with_reducible rfl
    try simp only [Act.put,j4,j5,j6]
    refine jk 15 (v:=?_) rfl (by kernel_rfl) (fun _ _ _=>id) (by rfl) ?_ hS0 ?_;rotate_left
    ·intro W hW;go_simp;try with_reducible rfl
    try simp only [Act.put,j4,j5,j6]
    refine jk 16 (v:=?_) rfl (by kernel_rfl) (fun _ _ _=>id) (by rfl) ?_ hS0 ?_;rotate_left
    ·intro W hW;go_simp;try with_reducible rfl
    try simp only [Act.put,j4,j5,j6]
    refine jk 17 (v:=?_) rfl (by kernel_rfl) (fun _ _ _=>id) (by rfl) ?_ hS0 ?_;rotate_left
    ·intro W hW;go_simp;try with_reducible rfl
    try simp only [Act.put,j4,j5,j6]
    refine jk 18 (v:=?_) rfl (by kernel_rfl) (fun _ _ _=>id) (by rfl) ?_ hS0 ?_;rotate_left
    ·intro W hW;go_simp;try with_reducible rfl
    try simp only [Act.put,j4,j5,j6]
    refine jk 19 (v:=?_) rfl (by kernel_rfl) (fun _ _ _=>id) (by rfl) ?_ hS0 ?_;rotate_left
    ·intro W hW;go_simp;try with_reducible rfl
    try simp only [Act.put,j4,j5,j6]
    refine jk 20 (v:=?_) rfl (by kernel_rfl) (fun _ _ _=>id) (by rfl) ?_ hS0 ?_;rotate_left 1
    ·intro W hW;have q_ := (hW.cell (p := ⟨wr.heap.size, 2, none⟩) hq).trans q2;go_simp
     try with_reducible rfl
    try simp only [Act.put,j4,j5,j6]
    refine jk 21 (v:=?_) rfl (by kernel_rfl) (fun _ _ _=>id) (by rfl) ?_ hS0 ?_;rotate_left
    ·intro W hW;go_simp;try with_reducible rfl
    try simp only [Act.put,j4,j5,j6]
    refine jk 22 (v:=?_) rfl (by kernel_rfl) (fun _ _ _=>id) (by rfl) ?_ hS0 ?_;rotate_left
    ·intro W hW;go_simp;try with_reducible rfl
    try simp only [Act.put,j4,j5,j6]
    refine jk 23 (v:=?_) rfl (by kernel_rfl) (fun _ _ _=>id) (by rfl) ?_ hS0 ?_;rotate_left
    ·intro W hW;go_simp;try with_reducible rfl
    try simp only [Act.put,j4,j5,j6]
    refine jk 24 (v:=?_) rfl (by kernel_rfl) (fun _ _ _=>id) (by rfl) ?_ hS0 ?_;rotate_left
    ·intro W hW;go_simp;try with_reducible rfl
    try simp only [Act.put,j4,j5,j6]
    refine jk 25 (v:=?_) rfl (by kernel_rfl) (fun _ _ _=>id) (by rfl) ?_ hS0 ?_;rotate_left 1
    ·intro W hW;have q_ := (hW.cell (p := ⟨wr.heap.size, 3, none⟩) hq).trans q3;go_simp
     try with_reducible rfl
    try simp only [Act.put,j4,j5,j6]
    refine jk 26 (v:=?_) rfl (by kernel_rfl) (fun _ _ _=>id) (by rfl) ?_ hS0 ?_;rotate_left
    ·intro W hW;go_simp;try with_reducible rfl
    try simp only [Act.put,j4,j5,j6]
    refine jk 27 (v:=?_) rfl (by kernel_rfl) (fun _ _ _=>id) (by rfl) ?_ hS0 ?_;rotate_left
    ·intro W hW;go_simp;try with_reducible rfl
    try simp only [Act.put,j4,j5,j6]
    refine jk 28 (v:=?_) rfl (by kernel_rfl) (fun _ _ _=>id) (by rfl) ?_ hS0 ?_;rotate_left
    ·intro W hW;go_simp;try with_reducible rfl
    try simp only [Act.put,j4,j5,j6]
    refine jk 29 (v:=?_) rfl (by kernel_rfl) (fun _ _ _=>id) (by rfl) ?_ hS0 ?_;rotate_left
    ·intro W hW;go_simp;try with_reducible rfl
    try simp only [Act.put,j4,j5,j6]
    refine jk 30 (v:=?_) rfl (by kernel_rfl) (fun _ _ _=>id) (by rfl) ?_ hS0 ?_;rotate_left 1
    ·intro W hW;have q_ := (hW.cell (p := ⟨wr.heap.size, 4, none⟩) hq).trans q4;go_simp
     try with_reducible rfl
    try simp only [Act.put,j4,j5,j6]
    refine jk 31 (v:=?_) rfl (by kernel_rfl) (fun _ _ _=>id) (by rfl) ?_ hS0 ?_;rotate_left
    ·intro W hW;go_simp;try with_reducible rfl
    try simp only [Act.put,j4,j5,j6]
    refine jk 32 (v:=?_) rfl (by kernel_rfl) (fun _ _ _=>id) (by rfl) ?_ hS0 ?_;rotate_left
    ·intro W hW;go_simp;try with_reducible rfl
    try simp only [Act.put,j4,j5,j6]
    refine jk 33 (v:=?_) rfl (by kernel_rfl) (fun _ _ _=>id) (by rfl) ?_ hS0 ?_;rotate_left
    ·intro W hW;go_simp;try with_reducible rfl
    try simp only [Act.put,j4,j5,j6]
    refine jk 34 (v:=?_) rfl (by kernel_rfl) (fun _ _ _=>id) (by rfl) ?_ hS0 ?_;rotate_left
    ·intro W hW;go_simp;try with_reducible rfl
    try simp only [Act.put,j4,j5,j6]
    refine jk 35 (v:=?_) rfl (by kernel_rfl) (fun _ _ _=>id) (by rfl) ?_ hS0 ?_;rotate_left
    ·intro W hW;go_simp;try with_reducible rfl
    try simp only [Act.put,j4,j5,j6]
    have hk5 : (k : Int) < 5 := by omega
    have a00 : x0.tmod 60 = x0 % 60 := Int.tmod_eq_emod_of_nonneg r00
    have a01 : IntKind.i64.wrap (x0 % 60) = x0 % 60 := by rw [IntKind.wrap_i64]; omega
    have a02 : IntKind.i64.wrap (8 + x0 % 60) = 8 + x0 % 60 := by rw [IntKind.wrap_i64]; omega
    have a10 : x1.tmod 12 = x1 % 12 := Int.tmod_eq_emod_of_nonneg r10
    have a11 : IntKind.i64.wrap (x1 % 12) = x1 % 12 := by rw [IntKind.wrap_i64]; omega
    have a12 : IntKind.i64.wrap (2 * (x1 % 12)) = 2 * (x1 % 12) := by rw [IntKind.wrap_i64]; omega
    have a13 : IntKind.i64.wrap (8 + 2 * (x1 % 12)) = 8 + 2 * (x1 % 12) := by rw [IntKind.wrap_i64]; omega
    have a20 : x2.tmod 40 = x2 % 40 := Int.tmod_eq_emod_of_nonneg r20
    have a21 : IntKind.i64.wrap (x2 % 40) = x2 % 40 := by rw [IntKind.wrap_i64]; omega
    have a22 : IntKind.i64.wrap (4 + x2 % 40) = 4 + x2 % 40 := by rw [IntKind.wrap_i64]; omega
    have a30 : x3.tmod 6 = x3 % 6 := Int.tmod_eq_emod_of_nonneg r30
    have a31 : IntKind.i64.wrap (x3 % 6) = x3 % 6 := by rw [IntKind.wrap_i64]; omega
    have a32 : IntKind.i64.wrap (1 + x3 % 6) = 1 + x3 % 6 := by rw [IntKind.wrap_i64]; omega
    have a40 : x4.tmod 14 = x4 % 14 := Int.tmod_eq_emod_of_nonneg r40
    have a41 : IntKind.i64.wrap (x4 % 14) = x4 % 14 := by rw [IntKind.wrap_i64]; omega
    have a42 : IntKind.i64.wrap (2 + x4 % 14) = 2 + x4 % 14 := by rw [IntKind.wrap_i64]; omega
    have a50 : IntKind.i64.wrap 1 = 1 := by rw [IntKind.wrap_i64]; omega
    simp only [a00, a01, a02, a10, a11, a12, a13, a20, a21, a22, a30, a31, a32, a40, a41, a42, a50];clear a00 a01 a02 a10 a11 a12 a13 a20 a21 a22 a30 a31 a32 a40 a41 a42 a50;refine wpAnyH_ready (rs := [0, 37]) (by kernel_rfl) (by simp) (AllReadyH.cons rfl (fun K hK => ?_) (AllReadyH.cons rfl (fun K hK => ?_) AllReadyH.nil))
    ·go_simp;refine (lawnames_any _).mono ?_;rintro e w2 ⟨A, rfl, hA1, hA2, hA3, hb2⟩;have hBN : Below w1.heap.size w1 w2 := (hS0).trans (hb2.mono (hS0).size);have nA := hA3 k (by omega);refine hK _ _ hBN ?_
     try intro _
     clear hK K hA3;refine wpAnyH_mono (S' := fun W => (Below w1.heap.size w1 W ∧ W.cell? ⟨A, k, none⟩ = some (.string (nmL k)))) (fun _ h => h.1) _ _ _ _ ?_
     have hSN : (Below w1.heap.size w1 w2 ∧ w2.cell? ⟨A, k, none⟩ = some (.string (nmL k))) := ⟨hBN, nA⟩
     refine jk 2 (v:=?_) rfl (by kernel_rfl) (fun _ _ _=>id) (by rfl) ?_ hSN ?_;rotate_left
     ·intro W hW;go_simp;try with_reducible rfl
     try simp only [Act.put,j4,j5,j6]
     refine jk 3 (v:=?_) rfl (by kernel_rfl) (fun _ _ _=>id) (by rfl) ?_ hSN ?_;rotate_left 1
     ·intro W hW;have q_ := hW.2;go_simp
      try with_reducible rfl
     try simp only [Act.put,j4,j5,j6]
     clear hSN;refine wpAnyH_ready (rs := [4, 37]) (by kernel_rfl) (by simp) (AllReadyH.cons rfl (fun K hK => ?_) (AllReadyH.cons rfl (fun K hK => ?_) AllReadyH.nil))
     ·go_simp;refine (lawlabels_any _).mono ?_;rintro e w3 ⟨A2, rfl, hL1, hL2, hL3, hL4, hb3⟩;have hBL : Below w1.heap.size w1 w3 := (hBN).trans (hb3.mono (hBN).size);have nL := (hb3.cell (p := ⟨A, k, none⟩) (hA2)).trans (nA);have l0 := hL3 k (by omega);have l1 := hL4 k (by omega);refine hK _ _ ⟨hBL, nL⟩ ?_
      try intro _
      clear hK K hL3 hL4;refine wpAnyH_mono (S' := fun W => ((Below w1.heap.size w1 W ∧ W.cell? ⟨A, k, none⟩ = some (.string (nmL k))) ∧ W.cell? ⟨A2, k * 2, none⟩ = some (.int .u8 (lvL k)) ∧ W.cell? ⟨A2, k * 2 + 1, none⟩ = some (.int .u16 (csL k)))) (fun _ h => h.1) _ _ _ _ ?_
      have hSL : ((Below w1.heap.size w1 w3 ∧ w3.cell? ⟨A, k, none⟩ = some (.string (nmL k))) ∧ w3.cell? ⟨A2, k * 2, none⟩ = some (.int .u8 (lvL k)) ∧ w3.cell? ⟨A2, k * 2 + 1, none⟩ = some (.int .u16 (csL k))) := ⟨⟨hBL, nL⟩, l0, l1⟩
      refine jk 6 (v:=?_) rfl (by kernel_rfl) (fun _ _ _=>id) (by rfl) ?_ hSL ?_;rotate_left
      ·intro W hW;go_simp;try with_reducible rfl
      try simp only [Act.put,j4,j5,j6]
      refine jk 7 (v:=?_) rfl (by kernel_rfl) (fun _ _ _=>id) (by rfl) ?_ hSL ?_;rotate_left 1
      ·intro W hW;have q_ := hW.2.1;have q__ := hW.2.2;go_simp
       try with_reducible rfl
      try simp only [Act.put,j4,j5,j6]
      refine jk 36 (v:=?_) rfl (by kernel_rfl) (fun _ _ _=>id) (by rfl) ?_ hSL ?_;rotate_left
      ·intro W hW;go_simp;try with_reducible rfl
      try simp only [Act.put,j4,j5,j6]
      clear hSL;refine wpAnyH_ready (rs := [37]) (by kernel_rfl) (by simp) (AllReadyH.cons rfl (fun K hK => ?_) AllReadyH.nil);go_simp;refine hK _ _ ⟨⟨hBL.alloc hBL.size _, cell_al nL _⟩, cell_al l0 _, cell_al l1 _⟩ ?_
      try intro _
      clear hK K;have hF : Free9 ((w3.alloc (.cells #[.string ⟨#[]⟩, .int .u8 0, .int .u16 0, .int .i64 0, .int .i64 0, .int .i64 0, .int .i64 0, .int .i64 0, .int .i64 0] 40))) w3.heap.size := Free9.new w3 (.string ⟨#[]⟩) (.int .u8 0) (.int .u16 0) (.int .i64 0) (.int .i64 0) (.int .i64 0) (.int .i64 0) (.int .i64 0) (.int .i64 0) 40;have hBG : Below w1.heap.size w1 ((w3.alloc (.cells #[.string ⟨#[]⟩, .int .u8 0, .int .u16 0, .int .i64 0, .int .i64 0, .int .i64 0, .int .i64 0, .int .i64 0, .int .i64 0] 40))) := (hBL).alloc (hBL).size _;have hsG : w3.heap.size < ((w3.alloc (.cells #[.string ⟨#[]⟩, .int .u8 0, .int .u16 0, .int .i64 0, .int .i64 0, .int .i64 0, .int .i64 0, .int .i64 0, .int .i64 0] 40))).heap.size := hF.lt;have hgw := (hBL).size;have nZ := cell_al nL (.cells #[.string ⟨#[]⟩, .int .u8 0, .int .u16 0, .int .i64 0, .int .i64 0, .int .i64 0, .int .i64 0, .int .i64 0, .int .i64 0] 40);have l0Z := cell_al l0 (.cells #[.string ⟨#[]⟩, .int .u8 0, .int .u16 0, .int .i64 0, .int .i64 0, .int .i64 0, .int .i64 0, .int .i64 0, .int .i64 0] 40);have l1Z := cell_al l1 (.cells #[.string ⟨#[]⟩, .int .u8 0, .int .u16 0, .int .i64 0, .int .i64 0, .int .i64 0, .int .i64 0, .int .i64 0, .int .i64 0] 40)
      obtain ⟨w4, hq4⟩ : ∃ x, (w3.alloc (.cells #[.string ⟨#[]⟩, .int .u8 0, .int .u16 0, .int .i64 0, .int .i64 0, .int .i64 0, .int .i64 0, .int .i64 0, .int .i64 0] 40)) = x := ⟨_, rfl⟩
      rw [hq4] at hF hBG hsG nZ l0Z l1Z ⊢;clear hq4;have hb3s := hb3.size
      obtain ⟨g, hg⟩ : ∃ x, w3.heap.size = x := ⟨_, rfl⟩
      rw [hg] at hF hsG hgw hL2 hb3s ⊢;have hBZ := hBG
      have hAg : g ≠ A := by omega
      have hA2g : g ≠ A2 := by omega
      obtain ⟨-, ⟨v0, c0⟩, ⟨v1, c1⟩, ⟨v2, c2⟩, ⟨v3, c3⟩, ⟨v4, c4⟩, ⟨v5, c5⟩, ⟨v6, c6⟩, ⟨v7, c7⟩, ⟨v8, c8⟩, f0, f1, f2, f3, f4, f5, f6, f7, f8⟩ := id hF;have hglt := hF.lt;refine wpAnyH_ready (rs := [38]) (by kernel_rfl) (by simp) (AllReadyH.cons rfl (fun K hK => ?_) AllReadyH.nil);go_simp;refine hK _ (set9 w4 g ⟨nmL k, lvL k, csL k, 8 + x0 % 60, 8 + 2 * (x1 % 12), 4 + x2 % 40, 1 + x3 % 6, 2 + x4 % 14, 1⟩) ⟨⟨set9_below hBZ hgw _, (set9_other _ w4 hAg).trans nZ⟩, (set9_other _ w4 hA2g).trans l0Z, (set9_other _ w4 hA2g).trans l1Z⟩ ?_
      try intro _
      clear hK K;refine wpAnyH_done (by kernel_rfl) ?_ _;clear c0 c1 c2 c3 c4 c5 c6 c7 c8 f0 f1 f2 f3 f4 f5 f6 f7;exact tail.out A A2 g (set9 w4 g ⟨nmL k, lvL k, csL k, 8 + x0 % 60, 8 + 2 * (x1 % 12), 4 + x2 % 40, 1 + x3 % 6, 2 + x4 % 14, 1⟩) ⟨set9_box hF _, set9_free hF _ 8 f8, set9_below hBZ hgw _, by rw [set9_size]; exact hglt, hgw⟩
     ·go_simp;refine hK _ _ ⟨hBN.alloc hBN.size _, cell_al nA _⟩ ?_
      try intro _
      clear hK K;have hF : Free9 ((w2.alloc (.cells #[.string ⟨#[]⟩, .int .u8 0, .int .u16 0, .int .i64 0, .int .i64 0, .int .i64 0, .int .i64 0, .int .i64 0, .int .i64 0] 40))) w2.heap.size := Free9.new w2 (.string ⟨#[]⟩) (.int .u8 0) (.int .u16 0) (.int .i64 0) (.int .i64 0) (.int .i64 0) (.int .i64 0) (.int .i64 0) (.int .i64 0) 40;have hBG : Below w1.heap.size w1 ((w2.alloc (.cells #[.string ⟨#[]⟩, .int .u8 0, .int .u16 0, .int .i64 0, .int .i64 0, .int .i64 0, .int .i64 0, .int .i64 0, .int .i64 0] 40))) := (hBN).alloc (hBN).size _;have hsG : w2.heap.size < ((w2.alloc (.cells #[.string ⟨#[]⟩, .int .u8 0, .int .u16 0, .int .i64 0, .int .i64 0, .int .i64 0, .int .i64 0, .int .i64 0, .int .i64 0] 40))).heap.size := hF.lt;have hgw := (hBN).size;have nZ0 := cell_al nA (.cells #[.string ⟨#[]⟩, .int .u8 0, .int .u16 0, .int .i64 0, .int .i64 0, .int .i64 0, .int .i64 0, .int .i64 0, .int .i64 0] 40)
      obtain ⟨w3, hq4⟩ : ∃ x, (w2.alloc (.cells #[.string ⟨#[]⟩, .int .u8 0, .int .u16 0, .int .i64 0, .int .i64 0, .int .i64 0, .int .i64 0, .int .i64 0, .int .i64 0] 40)) = x := ⟨_, rfl⟩
      rw [hq4] at hF hBG hsG nZ0 ⊢;clear hq4
      obtain ⟨g, hg⟩ : ∃ x, w2.heap.size = x := ⟨_, rfl⟩
      rw [hg] at hF hsG hgw hA2 ⊢;refine wpAnyH_ready (rs := [4]) (by kernel_rfl) (by simp) (AllReadyH.cons rfl (fun K hK => ?_) AllReadyH.nil);go_simp;refine (lawlabels_any _).mono ?_;rintro e w4 ⟨A2, rfl, hL1, hL2, hL3, hL4, hb3⟩;have hBL : Below w1.heap.size w1 w4 := (hBG).trans (hb3.mono (hBG).size);have nL := (hb3.cell (p := ⟨A, k, none⟩) (Nat.lt_trans hA2 hsG)).trans (nZ0);have l0 := hL3 k (by omega);have l1 := hL4 k (by omega);refine hK _ _ ⟨hBL, nL⟩ ?_
      try intro _
      clear hK K hL3 hL4;refine wpAnyH_mono (S' := fun W => ((Below w1.heap.size w1 W ∧ W.cell? ⟨A, k, none⟩ = some (.string (nmL k))) ∧ W.cell? ⟨A2, k * 2, none⟩ = some (.int .u8 (lvL k)) ∧ W.cell? ⟨A2, k * 2 + 1, none⟩ = some (.int .u16 (csL k)))) (fun _ h => h.1) _ _ _ _ ?_
      have hSL : ((Below w1.heap.size w1 w4 ∧ w4.cell? ⟨A, k, none⟩ = some (.string (nmL k))) ∧ w4.cell? ⟨A2, k * 2, none⟩ = some (.int .u8 (lvL k)) ∧ w4.cell? ⟨A2, k * 2 + 1, none⟩ = some (.int .u16 (csL k))) := ⟨⟨hBL, nL⟩, l0, l1⟩
      refine jk 6 (v:=?_) rfl (by kernel_rfl) (fun _ _ _=>id) (by rfl) ?_ hSL ?_;rotate_left
      ·intro W hW;go_simp;try with_reducible rfl
      try simp only [Act.put,j4,j5,j6]
      refine jk 7 (v:=?_) rfl (by kernel_rfl) (fun _ _ _=>id) (by rfl) ?_ hSL ?_;rotate_left 1
      ·intro W hW;have q_ := hW.2.1;have q__ := hW.2.2;go_simp
       try with_reducible rfl
      try simp only [Act.put,j4,j5,j6]
      refine jk 36 (v:=?_) rfl (by kernel_rfl) (fun _ _ _=>id) (by rfl) ?_ hSL ?_;rotate_left
      ·intro W hW;go_simp;try with_reducible rfl
      try simp only [Act.put,j4,j5,j6]
      clear hSL;have hF := hF.below hb3 hsG;have hBZ := hBL;have nZ := nL;have l0Z := l0;have l1Z := l1
      have hAg : g ≠ A := by omega
      have hA2g : g ≠ A2 := by omega
      obtain ⟨-, ⟨v0, c0⟩, ⟨v1, c1⟩, ⟨v2, c2⟩, ⟨v3, c3⟩, ⟨v4, c4⟩, ⟨v5, c5⟩, ⟨v6, c6⟩, ⟨v7, c7⟩, ⟨v8, c8⟩, f0, f1, f2, f3, f4, f5, f6, f7, f8⟩ := id hF;have hglt := hF.lt;refine wpAnyH_ready (rs := [38]) (by kernel_rfl) (by simp) (AllReadyH.cons rfl (fun K hK => ?_) AllReadyH.nil);go_simp;refine hK _ (set9 w4 g ⟨nmL k, lvL k, csL k, 8 + x0 % 60, 8 + 2 * (x1 % 12), 4 + x2 % 40, 1 + x3 % 6, 2 + x4 % 14, 1⟩) ⟨⟨set9_below hBZ hgw _, (set9_other _ w4 hAg).trans nZ⟩, (set9_other _ w4 hA2g).trans l0Z, (set9_other _ w4 hA2g).trans l1Z⟩ ?_
      try intro _
      clear hK K;refine wpAnyH_done (by kernel_rfl) ?_ _;clear c0 c1 c2 c3 c4 c5 c6 c7 c8 f0 f1 f2 f3 f4 f5 f6 f7;exact tail.out A A2 g (set9 w4 g ⟨nmL k, lvL k, csL k, 8 + x0 % 60, 8 + 2 * (x1 % 12), 4 + x2 % 40, 1 + x3 % 6, 2 + x4 % 14, 1⟩) ⟨set9_box hF _, set9_free hF _ 8 f8, set9_below hBZ hgw _, by rw [set9_size]; exact hglt, hgw⟩
    ·go_simp;refine hK _ _ (((Below.refl _ w1).alloc (Nat.le_refl _) _).drew) ?_
     try intro _
     clear hK K;have hF : Free9 ((w1.alloc (.cells #[.string ⟨#[]⟩, .int .u8 0, .int .u16 0, .int .i64 0, .int .i64 0, .int .i64 0, .int .i64 0, .int .i64 0, .int .i64 0] 40)).drew) w1.heap.size := (Free9.new w1 (.string ⟨#[]⟩) (.int .u8 0) (.int .u16 0) (.int .i64 0) (.int .i64 0) (.int .i64 0) (.int .i64 0) (.int .i64 0) (.int .i64 0) 40).below (B := w1.heap.size + 1) ((Below.refl _ _).drew) (Nat.lt_succ_self _);have hBG : Below w1.heap.size w1 ((w1.alloc (.cells #[.string ⟨#[]⟩, .int .u8 0, .int .u16 0, .int .i64 0, .int .i64 0, .int .i64 0, .int .i64 0, .int .i64 0, .int .i64 0] 40)).drew) := (((Below.refl w1.heap.size w1)).alloc ((Below.refl w1.heap.size w1)).size _).drew;have hsG : w1.heap.size < ((w1.alloc (.cells #[.string ⟨#[]⟩, .int .u8 0, .int .u16 0, .int .i64 0, .int .i64 0, .int .i64 0, .int .i64 0, .int .i64 0, .int .i64 0] 40)).drew).heap.size := hF.lt;have hgw := ((Below.refl w1.heap.size w1)).size
     obtain ⟨w2, hq4⟩ : ∃ x, (w1.alloc (.cells #[.string ⟨#[]⟩, .int .u8 0, .int .u16 0, .int .i64 0, .int .i64 0, .int .i64 0, .int .i64 0, .int .i64 0, .int .i64 0] 40)).drew = x := ⟨_, rfl⟩
     rw [hq4] at hF hBG hsG  ⊢;clear hq4;refine wpAnyH_ready (rs := [0]) (by kernel_rfl) (by simp) (AllReadyH.cons rfl (fun K hK => ?_) AllReadyH.nil);go_simp;refine (lawnames_any _).mono ?_;rintro e w3 ⟨A, rfl, hA1, hA2, hA3, hb2⟩;have hBN : Below w1.heap.size w1 w3 := (hBG).trans (hb2.mono (hBG).size);have nA := hA3 k (by omega);refine hK _ _ hBN ?_
     try intro _
     clear hK K hA3;refine wpAnyH_mono (S' := fun W => (Below w1.heap.size w1 W ∧ W.cell? ⟨A, k, none⟩ = some (.string (nmL k)))) (fun _ h => h.1) _ _ _ _ ?_
     have hSN : (Below w1.heap.size w1 w3 ∧ w3.cell? ⟨A, k, none⟩ = some (.string (nmL k))) := ⟨hBN, nA⟩
     refine jk 2 (v:=?_) rfl (by kernel_rfl) (fun _ _ _=>id) (by rfl) ?_ hSN ?_;rotate_left
     ·intro W hW;go_simp;try with_reducible rfl
     try simp only [Act.put,j4,j5,j6]
     refine jk 3 (v:=?_) rfl (by kernel_rfl) (fun _ _ _=>id) (by rfl) ?_ hSN ?_;rotate_left 1
     ·intro W hW;have q_ := hW.2;go_simp
      try with_reducible rfl
     try simp only [Act.put,j4,j5,j6]
     clear hSN;have hF := hF.below hb2 hsG;refine wpAnyH_ready (rs := [4]) (by kernel_rfl) (by simp) (AllReadyH.cons rfl (fun K hK => ?_) AllReadyH.nil);go_simp;refine (lawlabels_any _).mono ?_;rintro e w4 ⟨A2, rfl, hL1, hL2, hL3, hL4, hb3⟩;have hBL : Below w1.heap.size w1 w4 := (hBN).trans (hb3.mono (hBN).size);have nL := (hb3.cell (p := ⟨A, k, none⟩) (hA2)).trans (nA);have l0 := hL3 k (by omega);have l1 := hL4 k (by omega);refine hK _ _ ⟨hBL, nL⟩ ?_
     try intro _
     clear hK K hL3 hL4;refine wpAnyH_mono (S' := fun W => ((Below w1.heap.size w1 W ∧ W.cell? ⟨A, k, none⟩ = some (.string (nmL k))) ∧ W.cell? ⟨A2, k * 2, none⟩ = some (.int .u8 (lvL k)) ∧ W.cell? ⟨A2, k * 2 + 1, none⟩ = some (.int .u16 (csL k)))) (fun _ h => h.1) _ _ _ _ ?_
     have hSL : ((Below w1.heap.size w1 w4 ∧ w4.cell? ⟨A, k, none⟩ = some (.string (nmL k))) ∧ w4.cell? ⟨A2, k * 2, none⟩ = some (.int .u8 (lvL k)) ∧ w4.cell? ⟨A2, k * 2 + 1, none⟩ = some (.int .u16 (csL k))) := ⟨⟨hBL, nL⟩, l0, l1⟩
     refine jk 6 (v:=?_) rfl (by kernel_rfl) (fun _ _ _=>id) (by rfl) ?_ hSL ?_;rotate_left
     ·intro W hW;go_simp;try with_reducible rfl
     try simp only [Act.put,j4,j5,j6]
     refine jk 7 (v:=?_) rfl (by kernel_rfl) (fun _ _ _=>id) (by rfl) ?_ hSL ?_;rotate_left 1
     ·intro W hW;have q_ := hW.2.1;have q__ := hW.2.2;go_simp
      try with_reducible rfl
     try simp only [Act.put,j4,j5,j6]
     refine jk 36 (v:=?_) rfl (by kernel_rfl) (fun _ _ _=>id) (by rfl) ?_ hSL ?_;rotate_left
     ·intro W hW;go_simp;try with_reducible rfl
     try simp only [Act.put,j4,j5,j6]
     clear hSL;have hsH := hF.lt;have hF := hF.below hb3 hsH;have hBZ := hBL;have nZ := nL;have l0Z := l0;have l1Z := l1
     have hAg : w1.heap.size ≠ A := by omega
     have hA2g : w1.heap.size ≠ A2 := by omega
     obtain ⟨-, ⟨v0, c0⟩, ⟨v1, c1⟩, ⟨v2, c2⟩, ⟨v3, c3⟩, ⟨v4, c4⟩, ⟨v5, c5⟩, ⟨v6, c6⟩, ⟨v7, c7⟩, ⟨v8, c8⟩, f0, f1, f2, f3, f4, f5, f6, f7, f8⟩ := id hF;have hglt := hF.lt;refine wpAnyH_ready (rs := [38]) (by kernel_rfl) (by simp) (AllReadyH.cons rfl (fun K hK => ?_) AllReadyH.nil);go_simp;refine hK _ (set9 w4 w1.heap.size ⟨nmL k, lvL k, csL k, 8 + x0 % 60, 8 + 2 * (x1 % 12), 4 + x2 % 40, 1 + x3 % 6, 2 + x4 % 14, 1⟩) ⟨⟨set9_below hBZ hgw _, (set9_other _ w4 hAg).trans nZ⟩, (set9_other _ w4 hA2g).trans l0Z, (set9_other _ w4 hA2g).trans l1Z⟩ ?_
     try intro _
     clear hK K;refine wpAnyH_done (by kernel_rfl) ?_ _;clear c0 c1 c2 c3 c4 c5 c6 c7 c8 f0 f1 f2 f3 f4 f5 f6 f7;exact tail.out A A2 w1.heap.size (set9 w4 w1.heap.size ⟨nmL k, lvL k, csL k, 8 + x0 % 60, 8 + 2 * (x1 % 12), 4 + x2 % 40, 1 + x3 % 6, 2 + x4 % 14, 1⟩) ⟨set9_box hF _, set9_free hF _ 8 f8, set9_below hBZ hgw _, by rw [set9_size]; exact hglt, hgw⟩
   ·rintro A A2 g w5 ⟨HBX, f8, hB5, hg5, hgw⟩;obtain ⟨-, b0, b1, b2, b3, b4, b5, b6, b7, b8⟩ := HBX;simp only at b0 b1 b2 b3 b4 b5 b6 b7 b8;have HBZ := jh hB5;clear hB5;have HK5 : True := trivial;rcases Nat.eq_zero_or_pos k with hk0 | hk0
    ·have HK0 := jh hk0;clear hk0
     have hE5 : ¬ ((0 : Int) < (k : Int)) := by have := HK0.out; omega
     have HSC : Hid (sizeRg 2 H k = ⟨nmL k, lvL k, csL k, 8 + x0 % 60, 8 + 2 * (x1 % 12), 4 + x2 % 40, 1 + x3 % 6, 2 + x4 % 14, 1⟩) := by
      show sizeRg 2 H k = _
      rw [HSE.out];rw [if_pos rfl]
     go_wp2_with (first | (at_builtin; refine wpList_append_own _ rfl _ _ 142 rfl w0.heap.size 40 i0 _ 9 72 Tryz.underlying142 hi hz0 hz1 hz2 rfl (by decide) _ _ _ rfl ((ownsRow_below HO1.out (HBZ.out.setCell hgw _)).alloc _) ⟨w5.heap.size, 0, none⟩ 1 1 [.string (nmL k), .int .u8 (lvL k), .int .u16 (csL k), .int .i64 (8 + x0 % 60), .int .i64 (8 + 2 * (x1 % 12)), .int .i64 (4 + x2 % 40), .int .i64 (1 + x3 % 6), .int .i64 (2 + x4 % 14), .int .i64 1] rfl rfl (by simpa only [size_set] using cells_new (w5.setCell ⟨g, 8, none⟩ (.int .i64 1)) [.string (nmL k), .int .u8 (lvL k), .int .u16 (csL k), .int .i64 (8 + x0 % 60), .int .i64 (8 + 2 * (x1 % 12)), .int .i64 (4 + x2 % 40), .int .i64 (1 + x3 % 6), .int .i64 (2 + x4 % 14), .int .i64 1] 40) (by simp [Value.oneCell']) (by unfold maxLen; omega) (by omega) (by have h1_ := HBR1.out.size; have h2_ := HBZ.out.size; first | omega | (simp; omega) | (simp only [size_set]; omega)) ?_))
     intro v' w7 hown' hgrow _;have HB7 := jh (((HBR1.out.trans ((by first | exact HBZ.out | exact HBZ.out.setCell hgw _ | exact (HBZ.out.setCell hgw _).setCell hgw _ : Below w1.heap.size w1 _).mono HBR1.out.size)).alloc (by have h1_ := HBR1.out.size; have h2_ := HBZ.out.size; first | omega | (simp only [size_set]; omega)) _).grown hgrow (by have h1_ := HBR1.out.size; have h2_ := HBZ.out.size; first | omega | (simp; omega) | (simp only [size_set]; omega)) (ownsRow_block HO1.out));have HO7 := jh hown';clear hown' hgrow
     go_wp2
     go_roundw
     case rel =>
      refine ⟨k + 1, by omega, by go_num, ?_, HB7.out⟩;rw [HT.out, flatR, List.flatMap_append]
      simpa [HSC.out, flatR, Rg.cells] using HO7.out
     case measure => simp [intOf]; omega
    ·have HK0 := jh hk0;clear hk0
     have hE5 : ((0 : Int) < (k : Int)) := by have := HK0.out; omega
     have HSC : Hid (sizeRg 2 H k = ⟨nmL k, lvL k, csL k, 8 + x0 % 60, 8 + 2 * (x1 % 12), 4 + x2 % 40, 1 + x3 % 6, 2 + x4 % 14, 1⟩) := by
      show sizeRg 2 H k = _
      rw [HSE.out];rw [if_pos rfl]
     go_wp2_with (first | (at_builtin; refine wpList_append_own _ rfl _ _ 142 rfl w0.heap.size 40 i0 _ 9 72 Tryz.underlying142 hi hz0 hz1 hz2 rfl (by decide) _ _ _ rfl ((ownsRow_below HO1.out ((HBZ.out.setCell hgw _).setCell hgw _)).alloc _) ⟨w5.heap.size, 0, none⟩ 1 1 [.string (nmL k), .int .u8 (lvL k), .int .u16 (csL k), .int .i64 (8 + x0 % 60), .int .i64 (8 + 2 * (x1 % 12)), .int .i64 (4 + x2 % 40), .int .i64 (1 + x3 % 6), .int .i64 (2 + x4 % 14), .int .i64 1] rfl rfl (by simpa only [size_set] using cells_new ((w5.setCell ⟨g, 8, none⟩ (.int .i64 k)).setCell ⟨g, 8, none⟩ (.int .i64 1)) [.string (nmL k), .int .u8 (lvL k), .int .u16 (csL k), .int .i64 (8 + x0 % 60), .int .i64 (8 + 2 * (x1 % 12)), .int .i64 (4 + x2 % 40), .int .i64 (1 + x3 % 6), .int .i64 (2 + x4 % 14), .int .i64 1] 40) (by simp [Value.oneCell']) (by unfold maxLen; omega) (by omega) (by have h1_ := HBR1.out.size; have h2_ := HBZ.out.size; first | omega | (simp; omega) | (simp only [size_set]; omega)) ?_))
     intro v' w7 hown' hgrow _;have HB7 := jh (((HBR1.out.trans ((by first | exact HBZ.out | exact HBZ.out.setCell hgw _ | exact (HBZ.out.setCell hgw _).setCell hgw _ : Below w1.heap.size w1 _).mono HBR1.out.size)).alloc (by have h1_ := HBR1.out.size; have h2_ := HBZ.out.size; first | omega | (simp only [size_set]; omega)) _).grown hgrow (by have h1_ := HBR1.out.size; have h2_ := HBZ.out.size; first | omega | (simp; omega) | (simp only [size_set]; omega)) (ownsRow_block HO1.out));have HO7 := jh hown';clear hown' hgrow
     go_wp2
     go_roundw
     case rel =>
      refine ⟨k + 1, by omega, by go_num, ?_, HB7.out⟩;rw [HT.out, flatR, List.flatMap_append]
      simpa [HSC.out, flatR, Rg.cells] using HO7.out
     case measure => simp [intOf]; omega
  ·obtain rfl : k = 2 := by omega
   obtain ⟨wR, rfl⟩ : ∃ x, x = wr := ⟨wr, rfl⟩
   have HOF : Hid (wR.ownsRow w0.heap.size 40 9 (.slice ra 2 rcap) 2 (flatR (sizeR0 2 H))) := by
    have := HO.out;rw [List.take_of_length_le (by rw [sizeR0_len]; exact Nat.le_refl _)] at this;exact this
   have c26 := HBX.out.c26;have HBF := jh (HBW.out.trans (HBR.out.mono HBW.out.size))
   have HRG : Hid (Regs wR (.slice ra 2 rcap) (sizeRs 2 H)) := by
    have h := HOF.out;have := regs_of_row (rs := sizeR0 2 H) (by rw [sizeR0_len]; exact h)
    show Regs wR _ (sizeRs 2 H)
    unfold sizeRs;rw [if_neg (by decide)];exact this
   have HTV2 := jh (HTV.out.below HBF.out);clear HO HBR HBX hlt;rcases HTV2.out with ⟨ta, tcap, rfl, rfl⟩ | ⟨tb, toff, tcap, rfl, tlt, tmax, tcell⟩
   ·go_wp2
    refine wp_loop_rounds 1 ?_;rw [rounds_succ]
    go_wp2
    refine bodyPost_ret (v := .tuple #[.slice ra 2 rcap, .slice none 0 0]) (by simp [results, Tryz.results74, go_sem]) rfl ⟨_, _, rfl, HBF.out, HRG.out, .inl ⟨none, 0, rfl, rfl⟩⟩
   ·obtain ⟨N, hN⟩ : ∃ N, ts.length = N := ⟨_, rfl⟩
    have HN := jh hN;rw [hN] at c26 hl;unfold maxLen at hl;have HC := jh tcell;clear tcell hN;obtain ⟨i1, hi', hy0, hy1, hy2⟩ := info_parts Tryz.info34;have hwb : w0.heap.size ≤ wR.heap.size := hwz
    go_wp2
    go_loopw [9, 90] (fun v i wx => ∃ j : Nat, j ≤ N ∧ i = .int .i64 j ∧ wx.ownsRow wR.heap.size 272 2 v (acM 2 ts j).length (flatM (acM 2 ts j)) ∧ Below wR.heap.size wR wx) (fun _ i _ => N - (intOf i).toNat)
    case atStart => exact ⟨0, by omega, rfl, World.ownsRow_nil _ _ _ _, Below.refl _ _⟩
    case round =>
     obtain ⟨j, hj, rfl, hown, hbx⟩ := hrel
     obtain ⟨wX, rfl⟩ : ∃ x, x = wr := ⟨wr, rfl⟩
     obtain ⟨va, vcap, rfl⟩ := ownsRow_form hown;have HOX := jh hown;have HBX := jh hbx;have hxz := hbx.size;have hlen := acM_nine 2 ts j (by rw [HN.out]; exact hj);clear hown hbx
     by_cases hjn : j < N
     ·have hjt : j < ts.length := by rw [HN.out]; exact hjn
      have ex := (HBX.out.cell (p := ⟨tb, toff + j, none⟩) tlt).trans (HC.out j hjt);have HSU := jh (acM_succ 2 ts j hjt);have hxr := HTS.out ts[j] (List.getElem_mem _);generalize ts[j] = x at *;obtain ⟨hx0, hx1⟩ := hxr;generalize hAC : acM 2 ts j = ac at *
      obtain ⟨L, hL⟩ : ∃ L, ac.length = L := ⟨_, rfl⟩
      have HLN := jh hL;rw [hL] at hlen ⊢
      have hL63 : (L : Int) ≤ 5000 := by omega
      have hnx : sizeMk 2 x = (x % 2, 4 + x / 8 % 4) := rfl;clear hL hAC hjt
      go_wp2
      obtain ⟨W, hW⟩ : ∃ z, wX.alloc (.cells #[.int .u8 (x % 2), .int .u16 (4 + x / 8 % 4)] 272) = z := ⟨_, rfl⟩
      rw [hW]
      have p0 : W.cell? ⟨wX.heap.size, 0, none⟩ = some (.int .u8 (x % 2)) := by rw [← hW]; simp [World.cell?_alloc_new]
      have p1 : W.cell? ⟨wX.heap.size, 1, none⟩ = some (.int .u16 (4 + x / 8 % 4)) := by rw [← hW]; simp [World.cell?_alloc_new]
      have hplt : wX.heap.size < W.heap.size := by rw [← hW]; simp
      have HBW2 : Hid (Below wR.heap.size wR W) := by rw [← hW]; exact HBX.out.alloc hxz _
      have HOW : Hid (W.ownsRow wR.heap.size 272 2 (.slice va L vcap) L (flatM ac)) := by
       have h := HOX.out;rw [HLN.out] at h;rw [← hW];exact h.alloc _
      have HQ : Hid (∀ q (hq : q < ac.length), ∃ vg, va = some ⟨vg, 0, none⟩ ∧ vg < W.heap.size ∧ W.cell? ⟨vg, q * 2, none⟩ = some (.int .u8 ac[q].1) ∧ W.cell? ⟨vg, q * 2 + 1, none⟩ = some (.int .u16 ac[q].2)) := by
       intro q hq;rcases ownsRow_cell (k := 2) (f := markCells) (l := ac) (fun _ => rfl) HLN.out.symm HOW.out with ⟨-, hn⟩ | ⟨vg, cc, hv, -, hgl, -, hcc⟩
       ·rw [hn] at hq; simp at hq
       ·simp at hv
        obtain ⟨rfl, -, rfl⟩ := hv;have h0 := hcc q hq 0 (by omega);have h1 := hcc q hq 1 (by omega)
        simp [markCells] at h0 h1
        exact ⟨vg, rfl, hgl, h0, h1⟩
      have hwW : wR.heap.size ≤ W.heap.size := by omega
      clear hW HOX
      go_loopw [13, 109] (fun o i wi => ∃ q : Nat, q ≤ L ∧ i = .int .i64 q ∧ o = .bool (decide ((8 : Int) < (j : Int)) || (ac.take q).any (fun y => decide (y = sizeMk 2 x))) ∧ Below W.heap.size W wi) (fun _ i _ => L - (intOf i).toNat)
      case atStart => exact ⟨0, by omega, rfl, by simp, Below.refl _ _⟩
      case round =>
       obtain ⟨q, hq, rfl, rfl, hbi⟩ := hrel
       obtain ⟨wI, rfl⟩ : ∃ x, x = wr := ⟨wr, rfl⟩
       obtain ⟨ob, hob⟩ : ∃ b, (decide ((8 : Int) < (j : Int)) || (ac.take q).any (fun y => decide (y = sizeMk 2 x))) = b := ⟨_, rfl⟩
       rw [hob];have HOB := jh hob;have g0 := (hbi.cell (p := ⟨wX.heap.size, 0, none⟩) hplt).trans p0;have g1 := (hbi.cell (p := ⟨wX.heap.size, 1, none⟩) hplt).trans p1;have hiz := hbi.size
       have hxI : wX.heap.size < wI.heap.size := by omega
       have HBI := jh hbi;clear hob
       by_cases hql : q < L
       ·have hqa : q < ac.length := by rw [HLN.out]; exact hql
        obtain ⟨vg, hva, hvl, d0, d1⟩ := HQ.out q hqa;have d0 := (hbi.cell (p := ⟨vg, q * 2, none⟩) hvl).trans d0;have d1 := (hbi.cell (p := ⟨vg, q * 2 + 1, none⟩) hvl).trans d1;have HTK := jh (List.take_succ_eq_append_getElem hqa);clear hbi;subst hva;generalize ac[q] = y at *;obtain ⟨y0, y1⟩ := y;simp only at d0 d1
        cases ob
        ·by_cases e0 : y0 = x % 2
         ·subst e0
          by_cases e1 : y1 = 4 + x / 8 % 4
          ·subst e1
           go_wp2
           go_roundw
           case rel =>
            refine ⟨q + 1, by omega, by go_num, ?_, HBI.out.alloc hiz _⟩;rw [HTK.out, List.any_append, ← Bool.or_assoc, HOB.out]
            simp [hnx]
           case measure => simp [intOf]; omega
          ·go_wp2
           go_roundw
           case rel =>
            refine ⟨q + 1, by omega, by go_num, ?_, HBI.out.alloc hiz _⟩;rw [HTK.out, List.any_append, ← Bool.or_assoc, HOB.out]
            simp [hnx, e1]
           case measure => simp [intOf]; omega
         ·go_wp2
          go_roundw
          case rel =>
           refine ⟨q + 1, by omega, by go_num, ?_, HBI.out.alloc hiz _⟩;rw [HTK.out, List.any_append, ← Bool.or_assoc, HOB.out]
           simp [hnx, e0]
          case measure => simp [intOf]; omega
        ·go_wp2
         go_roundw
         case rel =>
          refine ⟨q + 1, by omega, by go_num, ?_, HBI.out.alloc hiz _⟩;rw [HTK.out, List.any_append, ← Bool.or_assoc, HOB.out];rfl
         case measure => simp [intOf]; omega
       ·obtain rfl : q = L := by omega
        have HOB2 : Hid ((decide ((8 : Int) < (j : Int)) || ac.any (fun y => decide (y = sizeMk 2 x))) = ob) := by
         have := HOB.out;rw [← HLN.out, List.take_length] at this;exact this
        have hOI := ownsRow_below HOW.out HBI.out;have HOI := jh hOI;have HB9 := jh (HBW2.out.trans (HBI.out.mono hwW));clear hOI hbi
        cases ob
        ·have HA : Hid (acM 2 ts (j + 1) = ac ++ [(x % 2, 4 + x / 8 % 4)]) := by
          show acM 2 ts (j + 1) = _
          rw [HSU.out, if_neg]
          ·rw [hnx]
          ·have := HOB2.out
           simp at this
           intro h;rcases h with h | h
           ·omega
           ·exact this.2 _ _ h rfl
         have hwI : wR.heap.size ≤ wI.heap.size := by omega
         go_wp2_with (first | (at_builtin; refine wpList_append_own _ rfl _ _ 171 rfl wR.heap.size 272 i1 _ 2 4 Tryz.underlying171 hi' hy0 hy1 hy2 rfl (by decide) _ _ _ rfl (HOI.out.alloc _) ⟨wI.heap.size, 0, none⟩ 1 1 [.int .u8 (x % 2), .int .u16 (4 + x / 8 % 4)] rfl rfl (cells_new wI _ 272) (by simp [Value.oneCell']) (by unfold maxLen; omega) (by omega) (by simp; omega) ?_))
         intro v' w3 hown' hgrow _;have HB3 := jh ((HB9.out.alloc hwI (.cells #[.int .u8 (x % 2), .int .u16 (4 + x / 8 % 4)] 272)).grown hgrow (by simp; omega) (ownsRow_block HOI.out));have HO3 := jh hown';obtain ⟨va2, vc2, rfl⟩ := ownsRow_form hown';clear hown' hgrow HOI HOW HQ HOB2 HBI HSU HB9;clear g0 g1 p0 p1 ex c26
         go_wp2
         refine ⟨?_, ?measure⟩;apply Exists.intro;apply Exists.intro;apply Exists.intro
         repeat apply Exists.intro
         refine ⟨?rel, rfl⟩
         case rel =>
          refine ⟨j + 1, by omega, by go_num, ?_, HB3.out⟩;rw [HA.out, List.length_append, HLN.out, flatM, List.flatMap_append]
          simpa [flatM, markCells] using HO3.out
         case measure => simp [intOf]; omega
        ·have HA : Hid (acM 2 ts (j + 1) = ac) := by
          show acM 2 ts (j + 1) = ac
          rw [HSU.out, if_pos];have := HOB2.out
          simp at this
          rcases this with h | h
          ·exact .inl (by omega)
          ·exact .inr h
         go_wp2
         go_roundw
         case rel =>
          refine ⟨j + 1, by omega, by go_num, ?_, HB9.out⟩;rw [HA.out, HLN.out];exact HOI.out
         case measure => simp [intOf]; omega
     ·obtain rfl : j = N := by omega
      have HM : Hid (Mks wX (.slice va (acM 2 ts j).length vcap) (sizeMs 2 ts)) := by
       have h := mks_of_row rfl HOX.out;rw [← acM_all, HN.out];exact h
      go_wp2
      refine bodyPost_ret (v := .tuple #[.slice ra 2 rcap, .slice va (acM 2 ts j).length vcap]) (by simp [results, Tryz.results74, go_sem]) rfl ⟨_, _, rfl, HBF.out.trans (HBX.out.mono HBF.out.size), HRG.out.below HBX.out, ?_⟩;exact HM.out
end Go.Proofs.YtgdapkbenmlabaaGreatDoor.Cf
