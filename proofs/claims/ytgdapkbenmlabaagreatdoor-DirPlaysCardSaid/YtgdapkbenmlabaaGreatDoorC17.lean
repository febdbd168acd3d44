import Derived.Test.YtgdapkbenmlabaaGreatDoorC16
/- Files: Cut. -/
set_option linter.unusedSimpArgs false
set_option linter.unusedVariables false
set_option maxHeartbeats 40000000
set_option maxRecDepth 100000
namespace Go.Proofs.YtgdapkbenmlabaaGreatDoor
open Go.RowKit Go.Maps
variable {ln : Lm}
theorem vput_self (k : Nat) (V : Nat → Nat → Int) : vput k (V k) V = V := by
 funext x
 unfold vput
 split
 ·rename_i h
  rw [h]
 ·rfl
theorem wipe_none (b q p t m d gg lab B0 NB N K : Nat) (g : Cf.Ge) (Y : Nat → Nat → Int) (f : Nat → Int) (o : Nat) (hr : o % 64 = 0) (ho : o ≤ 16384) (w : World) (h : Bo w w b q p t m d gg lab g B0 NB N ln Y K f) :
  Calls Tryz.prog 148 #[.pointer (some ⟨b, 0, none⟩), .int .i64 o] w fun e w' => e = .returned (.int .i64 0) ∧ Bo w w' b q p t m d gg lab g B0 NB N ln Y K f := by
 have HB := jh h
 obtain ⟨oi, hoi⟩ : ∃ z : Int, (o : Int) = z := ⟨_, rfl⟩
 have ho0 : 0 ≤ oi := by omega
 have ho1 : oi ≤ 16384 := by omega
 have hR : oi % 64 = 0 := by omega
 rw [hoi];clear h hoi hr ho
 go_enter Tryz.func148, Tryz.ntmps148
 go_wp2_with fail
 go_ret
 exact ⟨rfl, HB.out⟩
theorem Tab.ok {P0 M : Nat} {Y V : Nat → Nat → Int} (h : Tab P0 M Y V) (n : Nat) (h1 : 1 ≤ n) (h2 : n ≤ M) : NdOk (V n) := (h n h1 h2).2.1
theorem fcut_in (q p t m d gg lab B0 P0 M DA NB N K : Nat) (g : Cf.Ge) (Y0 V : Nat → Nat → Int) (b0 : Nat → Nat) (num : Nat) (h1 : 1 ≤ num) (h2 : num ≤ M) (hkd : ¬ V num 0 = 0) (hlk : 0 < V num 1) (sz : Nat) (hsz : V num 3 = sz) (hsz2 : sz ≤ 16384)
  (hFu : Fu B0 DA NB Y0 (V num) (ndS ((sz + 63) / 64)) b0) (hI : Tab P0 M Y0 V) (hT0 : Has ln B0) (hTB : Has ln (P0 + (num - 1) / 2)) (hK : K < 200000000) (hg : GG g B0 P0 M DA NB N) (w : World) (h : Gr w q p t m d gg lab g B0 NB N ln Y0 K)
  (x : Nat) (hx : x ≤ sz) (hmb : mbl (V num 0) (x : Nat) = true) (hT : 0 < x → ∀ i, i ≤ lenC ((x + 63) / 64 - 1) → Has ln (DA + (b0 (chS ((x + 63) / 64 - 1) i) - 1))) (hz : ∀ i, sz ≤ i → i < 64 * ((sz + 63) / 64) → ctF DA Y0 b0 i = 0) :
  Calls Tryz.prog 83 #[.pointer (some ⟨q, 0, none⟩), .int .i64 num, .int .i64 x] w fun e w' => ∃ (Y : Nat → Nat → Int) (f : Nat → Int), e = .returned (.int .i64 0) ∧ Gr w' q p t m d gg lab g B0 NB N ln Y (K + 11000) ∧ Kf w w' [t, m, d, gg] ∧ Tab P0 M Y (vput num f V) ∧ Fu B0 DA NB Y f (ndS ((x + 63) / 64)) b0 ∧ f 0 = V num 0 ∧ f 1 = V num 1 ∧ f 2 = V num 2 ∧ f 3 = (x : Nat)
   ∧ (∀ z, z ≠ B0 → z ≠ P0 + (num - 1) / 2 → (∀ c, ndS ((x + 63) / 64) c = true → z ≠ DA + (b0 c - 1)) → Y z = Y0 z)
   ∧ (∀ j, j < NB → (bt Y B0 j = true ↔ bt Y0 B0 j = true ∧ ¬ ∃ c, ndS ((sz + 63) / 64) c = true ∧ ndS ((x + 63) / 64) c = false ∧ b0 c = j + 1))
   ∧ (∀ i, i < 64 * ((x + 63) / 64) → ctF DA Y b0 i = if i < x then ctF DA Y0 b0 i else 0) := by
 obtain ⟨d27, hu, hd⟩ := Tryz.desc27;have HU := jh hu;have HD := jh hd;have HO := jh (fopen_in (ln := ln) q p t m d gg lab B0 P0 M DA NB N K g Y0 V num h1 h2 hkd (by omega) hI hg w h)
 obtain ⟨f0, hf⟩ : ∃ f, V num = f := ⟨_, rfl⟩
 have hok := hI.ok num h1 h2;rw [hf] at HO hsz hFu hlk hmb hok ⊢;have HSz := jh (fun b q W hW => size_any b q f0 (by omega) (by omega) W hW);rw [hsz] at HSz
 obtain ⟨n0, hn0⟩ : ∃ n, (sz + 63) / 64 = n := ⟨_, rfl⟩
 obtain ⟨n1, hn1⟩ : ∃ n, (x + 63) / 64 = n := ⟨_, rfl⟩
 rw [hn0] at hFu hz;rw [hn1] at hT;rw [hn0, hn1]
 have h0lt : ∀ a ∈ [q, p, t, m, d, gg], a < w.heap.size := fun a ha => by
  obtain ⟨l1, l2, l3, l4, l5, l6⟩ := h.lts;simp only [List.mem_cons, List.not_mem_nil, or_false] at ha
  rcases ha with rfl | rfl | rfl | rfl | rfl | rfl <;> assumption
 have H0 := jh h0lt
 have hx0 : (0 : Int) ≤ x := by omega
 have hx1 : (x : Int) ≤ 16384 := by omega
 have hxz : (x : Int) ≤ sz := by omega
 have hs1 : (sz : Int) ≤ 16384 := by omega
 have HF := jh hf;have HI := jh hI;have HFu := jh hFu;have HZ := jh hz;have HSZ := jh hsz;have d1 : decide ((x : Int) < 0) = false := decide_eq_false (by omega);have d2 : decide ((sz : Int) < x) = false := decide_eq_false (by omega)
 by_cases hxs : x = sz
 ·subst hxs
  obtain rfl : n0 = n1 := by omega
  obtain ⟨xi, hxi⟩ : ∃ z : Int, (x : Int) = z := ⟨_, rfl⟩
  have HXI := jh hxi;rw [hxi] at HSz d1 d2 hx0 hx1 ⊢;clear h1 h2 hkd hsz hFu hI hg h hf h0lt hlk hmb hT0 hTB hT hz hu hd hok hx hxz hs1 hn1 hn0
  go_enter Tryz.func83, Tryz.ntmps83
  go_wp2_with fail
  refine HO.out.mono ?_;rintro e w1 ⟨b, rfl, hb, hG, hVb, hk⟩;have HG1 := jh hG;have HK1 := jh hk;have HS1 := jh (HSz.out b q w1 hVb);clear hG hVb hk HO HSz
  go_wp2_with fail
  refine HS1.out.mono ?_;rintro e wz ⟨rfl, hwz⟩;rw [hwz];clear hwz
  go_wp2_with fail
  refine HS1.out.mono ?_;rintro e wz ⟨rfl, hwz⟩;rw [hwz];clear hwz HS1
  go_wp2_with fail
  go_ret
  refine ⟨Y0, f0, rfl, HG1.out.mono (Lm.le_refl _) (by omega), HK1.out, ?_, HFu.out, rfl, rfl, rfl, ?_, fun _ _ _ _ => rfl, fun j _ => ⟨fun hh => ⟨hh, fun ⟨c, k1, k2, _⟩ => by (rw [k1] at k2; cases k2)⟩, fun hh => hh.1⟩, fun i hi => ?_⟩
  ·rw [← HF.out, vput_self];exact HI.out
  ·exact HSZ.out.trans HXI.out
  ·by_cases hh : i < x
   ·rw [if_pos hh]
   ·rw [if_neg hh];exact HZ.out i (by omega) hi
 ·have hne : ¬ ((x : Int) = sz) := by omega
  have hxl : x < sz := by omega
  have hn01 : n1 ≤ n0 ∧ n0 ≤ 256 := by omega
  have hBD : B0 < P0 ∧ P0 + (num - 1) / 2 < DA := by have := hg.bp; have := hg.pd; omega
  have hN5 := hg.n512
  have HSp : Hid (∀ W, Calls Tryz.prog 146 #[.int .i64 x] W fun e w' => (∃ y, e = .returned (.tuple #[.int .i64 n1, .int .i64 y])) ∧ w' = W) := jh (fun W => by
   have hds : dataS x = (n1 : Int) := by unfold dataS; split <;> omega
   have := spread_any x (by omega) W;rw [hds] at this
   exact this.mono (by
    rintro e w' ⟨rfl, hw⟩
    exact ⟨⟨_, rfl⟩, hw⟩))
  have HGF := jh (fun b W hW => givefrom_any (ln := ln) b q p t m d gg lab B0 P0 M DA NB N (K + 1) g Y0 f0 b0 sz n1 n0 hsz hsz2 hn0 hn01.1 hFu hT0 (fun hh => hT (by omega)) (by omega) hg W hW);have HTx := jh (fun (hh : 0 < x) => hT hh);have HSET := jh (fun Y f K' (hf' : NdOk f) (hc : codeN f = 0) (hK' : K' < 500000000) W hW => gset_in (ln := ln) q p t m d gg lab B0 P0 M DA NB N K' g Y f hf' hc num h1 h2 hTB (by omega) hg W hW);have HG0 := jh hg;have Hok := jh hok;have Hlk := jh hlk;have HMb := jh hmb;have HNum := jh (show 1 ≤ num ∧ num ≤ M from ⟨h1, h2⟩);have hWX : IntKind.u32.wrap (x : Int) = x := wraps_u32 _ (by omega) (by omega);have HWX := jh hWX;have HN1 := jh hn1;clear h1 h2 hkd hsz hFu hI hg h hf h0lt hlk hmb hT0 hTB hT hz hu hd hok hx hn1 hn0 hxs hWX
  go_enter Tryz.func83, Tryz.ntmps83
  go_wp2_with fail
  refine HO.out.mono ?_;rintro e w1 ⟨b, rfl, hb, hG, hVb, hk⟩;have HB1 := jh (Bo.start H0.out hb hG hVb);have HK1 := jh hk;have HS1 := jh (HSz.out b q w1 hVb);have hbw := hVb.lt;clear hG hVb hk HO HSz
  go_wp2_with fail
  refine HS1.out.mono ?_;rintro e wz ⟨rfl, hwz⟩;rw [hwz];clear hwz
  go_wp2_with fail
  refine HS1.out.mono ?_;rintro e wz ⟨rfl, hwz⟩;rw [hwz];clear hwz HS1
  go_wp2_with fail
  refine (HSp.out w1).mono ?_;rintro e wz ⟨⟨xp, rfl⟩, hwz⟩;rw [hwz];clear hwz HSp
  go_wp2_with fail
  refine (HGF.out b w1 HB1.out).mono ?_;rintro e w2 ⟨Y1, f1, rfl, hB2, hG2⟩;have HB2 := jh (HB1.out.trans hB2);have HGv := jh hG2;clear hB2 hG2 HGF HB1
  have HWipe : Hid (∃ Y2, Calls Tryz.prog 148 #[.pointer (some ⟨b, 0, none⟩), .int .i64 x] w2 (fun e w' => e = .returned (.int .i64 0) ∧ Bo w2 w' b q p t m d gg lab g B0 NB N ln Y2 (K + 1 + 10300 + 4) f1) ∧ (∀ z, (∀ c, ndS n1 c = true → z ≠ DA + (b0 c - 1)) → Y2 z = Y1 z) ∧ (∀ c, ndS n1 c = true → 2000 ≤ c → Y2 (DA + (b0 c - 1)) = Y1 (DA + (b0 c - 1))) ∧ ∀ i, i < 64 * n1 → ctF DA Y2 b0 i = if i < x then ctF DA Y1 b0 i else 0) := jh (by
   have hx64 := HN1.out
   by_cases hr : x % 64 = 0
   ·refine ⟨Y1, (wipe_none (ln := ln) b q p t m d gg lab B0 NB N (K + 1 + 10300) g Y1 f1 x hr (by omega) w2 HB2.out.self).mono (by
     rintro e w' ⟨he, hB⟩
     exact ⟨he, hB.mono (Lm.le_refl _) (by omega)⟩), fun _ _ => rfl, fun _ _ _ => rfl, fun i hi => ?_⟩
    rw [if_pos (by omega)]
   ·have hS : ndS n1 (x / 64) = true := (ndS_iff _ _).2 (by omega)
    have hc1 : n1 - 1 = x / 64 := by omega
    have hT := HTx.out (by omega) (lenC (n1 - 1)) (Nat.le_refl _);rw [chS_last, hc1] at hT;refine ⟨_, wipe_any (ln := ln) b q p t m d gg lab B0 P0 M DA NB N (K + 1 + 10300) g Y1 f1 (ndS n1) b0 HGv.out.fi x (by omega) hr hS hT (by omega) HG0.out w2 HB2.out.self, fun z hh => ?_, fun c hc hc2 => ?_, fun i hi => ?_⟩
    ·exact vput_ne _ _ (hh _ hS).symm
    ·refine vput_ne _ _ fun he => ?_;have r1 := HGv.out.fi.rng c hc;have r2 := HGv.out.fi.rng _ hS;have := HGv.out.fi.inj _ _ hc hS (by omega);omega
    ·unfold ctF;have hSi : ndS n1 (i / 64) = true := (ndS_iff _ _).2 (by omega)
     by_cases e : i / 64 = x / 64
     ·rw [e, vput_at];unfold upd
      by_cases hh : x % 64 ≤ i % 64 ∧ i % 64 < x % 64 + (64 - x % 64)
      ·rw [if_pos hh, if_neg (by omega)]
      ·rw [if_neg hh, if_pos (by omega)]
     ·rw [vput_ne _ _ (fun he => ?_), if_pos (by omega)];have r1 := HGv.out.fi.rng _ hSi;have r2 := HGv.out.fi.rng _ hS
      exact e (HGv.out.fi.inj _ _ hSi hS (by omega)))
  obtain ⟨Y2, HWc, hY2a, hY2b, hct2⟩ := HWipe.out;have HWc := jh HWc;have HYa := jh hY2a;have HYb := jh hY2b;have HCt := jh hct2;clear hY2a hY2b hct2 HWipe
  go_wp2_with fail
  refine HWc.out.mono ?_;rintro e w3 ⟨rfl, hB3⟩;have HB3 := jh (HB2.out.trans hB3);clear hB3 HWc HB2;have cb := HB3.out.bd.c (1 + 3) (.int .u32 (f1 3)) rfl;have zb := HB3.out.bd.z (1 + 3) (by show 1 + 3 < 13; omega);have hWX := HWX.out
  go_upto_region 16 with fail
  have HB4 := jh (HB3.out.set 3 (by decide) (.int .u32 (x : Int)) (setZ f1 x) (bdc_setZ q f1 x))
  obtain ⟨w4, hw4⟩ : ∃ y, w3.setCell ⟨b, 1 + 3, none⟩ (.int .u32 (x : Int)) = y := ⟨_, rfl⟩
  rw [hw4] at HB4
  try rw [hw4]
  clear hw4 cb zb hWX HB3;have hgv := HGv.out
  have hNd : NdOk (setZ f1 x) := setZ_ok (f := f1) (by
   have ho := Hok.out
   exact ⟨by rw [hgv.f4 0 (by omega)]; exact ho.k, by rw [hgv.f4 1 (by omega)]; exact ho.l, by rw [hgv.f4 2 (by omega)]; exact ho.g, by rw [hgv.f4 3 (by omega)]; exact ho.s, fun i h4 h12 => hgv.fi.ptr hN5 i h4 h12⟩) (by omega) (by omega)
  have hz3 : setZ f1 x 3 = (x : Int) := if_pos rfl;have hzn : ∀ i, i ≠ 3 → setZ f1 x i = f1 i := fun i hi => if_neg hi;have hCo : codeN (setZ f1 x) = 0 := code_of (by rw [hzn 1 (by omega), hgv.f4 1 (by omega)]; exact Hlk.out) (by rw [hz3, hzn 0 (by omega), hgv.f4 0 (by omega)]; exact HMb.out);have HSe := jh (HSET.out Y2 (setZ f1 x) (K + 1 + 10300 + 4) hNd hCo (by omega) w4 HB4.out.gr);have HNd := jh hNd;have HCo := jh hCo;have HZ3 := jh hz3;have HZn := jh hzn;clear hgv hNd hCo hz3 hzn;have HRn := jh HB4.out.bd.node
  go_wp2_with (refine wpList_load_mid rfl 77 _ rfl b 1 rfl (ndc (setZ f1 x)) d27 HRn.out HU.out HD.out (size27 _) ?_)
  refine HSe.out.mono ?_;rintro e w5 ⟨rfl, hG, hkk⟩;have HG5 := jh hG
  have HKf : Hid (Kf w w5 [t, m, d, gg]) := jh ((HK1.out.join HB4.out.kf (fun a ha => by
   simp only [List.mem_cons, List.not_mem_nil, or_false] at ha ⊢
   omega)).trans hkk)
  clear hG hkk HSe
  go_wp2_with fail
  go_ret
  have hgv := HGv.out;have hnm := HNum.out;have hTz : ∀ z, z ≠ P0 + (num - 1) / 2 → tabW P0 num (setZ f1 x) Y2 z = Y2 z := fun z hz => tabW_ne P0 num _ Y2 z hz;have hdt : ∀ c, tabW P0 num (setZ f1 x) Y2 (DA + (b0 c - 1)) = Y2 (DA + (b0 c - 1)) := fun c => hTz _ (by omega);have hrow : ∀ z, z < DA → Y2 z = Y1 z := fun z hz => HYa.out z (fun c hc => by omega)
  have hbt : ∀ j, j < NB → bt (tabW P0 num (setZ f1 x) Y2) B0 j = bt Y1 B0 j := fun j hj => by
   have e0 : B0 + j / 512 = B0 := by omega
   unfold bt;rw [e0, hTz _ (by omega), hrow _ (by omega)]
  have hF2 : Fi DA NB (tabW P0 num (setZ f1 x) Y2) (setZ f1 x) (ndS n1) b0 := by
   have h1 := hgv.fi.congr (Y' := tabW P0 num (setZ f1 x) Y2) (fun c hc hc2 => by rw [hdt c, HYb.out c hc hc2]);refine ⟨h1.ok, fun c hc => ?_, h1.wrd, h1.cl, h1.rng, h1.inj⟩;rw [HZn.out _ (by have := (rtI_lt c hc).1; omega)];exact h1.root c hc
  have hkk : ∀ c, ndS n1 c = true → ndS n0 c = true := fun c hc => ndS_mono hn01.1 c hc;refine ⟨_, setZ f1 x, rfl, HG5.out.mono (Lm.le_refl _) (by omega), HKf.out, ?_, ⟨hF2, fun c hc => ?_⟩, by rw [HZn.out 0 (by omega)]; exact hgv.f4 0 (by omega), by rw [HZn.out 1 (by omega)]; exact hgv.f4 1 (by omega), by rw [HZn.out 2 (by omega)]; exact hgv.f4 2 (by omega), HZ3.out, fun z z1 z2 z3 => ?_, fun j hj => ?_, fun i hi => ?_⟩
  ·refine Tab.wr (HI.out.congr fun z z1 z2 => ?_) num hnm.1 hnm.2 (setZ f1 x) HNd.out HCo.out;have := HG0.out.pd;rw [hrow z (by omega)];exact hgv.y z (by omega) (fun c _ _ => by omega)
  ·have r := hgv.fi.rng c hc;rw [hbt _ (by omega)];exact hgv.told HFu.out.us HFu.out.fi.inj c hc
  ·rw [hTz z z2, HYa.out z z3];exact hgv.y z z1 (fun c hc _ => z3 c hc)
  ·rw [hbt j hj];exact hgv.u j hj
  ·have : ctF DA (tabW P0 num (setZ f1 x) Y2) b0 i = ctF DA Y2 b0 i := by
    unfold ctF;rw [hdt]
   rw [this, HCt.out i hi]
   by_cases hh : i < x
   ·rw [if_pos hh, if_pos hh];unfold ctF;have hSi : ndS n1 (i / 64) = true := (ndS_iff _ _).2 (by omega);rw [hgv.y _ (by omega) (fun c hc hc2 he => ?_)];have r1 := hgv.fi.rng c hc;have r2 := hgv.fi.rng _ hSi;have := hgv.fi.inj _ _ hc hSi (by omega);omega
   ·rw [if_neg hh, if_neg hh]
end Go.Proofs.YtgdapkbenmlabaaGreatDoor
namespace Go.Proofs.YtgdapkbenmlabaaGreatDoor
open Go.RowKit Go.Maps
variable {ln : Lm}
def flatE (E : List En) : List Value := E.flatMap enc
theorem flatE_len (E : List En) : (flatE E).length = 2 * E.length := by
 unfold flatE
 induction E with
 | nil => rfl
 | cons e E ih => simp only [List.flatMap_cons, List.length_append, ih, List.length_cons]; show 2 + _ = _; omega
theorem flatE_snoc (E : List En) (e : En) : flatE (E ++ [e]) = flatE E ++ enc e := by
 unfold flatE
 simp
def dirC (E : List En) (i : Nat) : Int := match E[i / 16]? with
 | some e => pkF e (i % 16)
 | none => 0
structure Dir (B0 DA NB : Nat) (Y : Nat → Nat → Int) (f : Nat → Int) (b : Nat → Nat) (E : List En) : Prop where
 k : f 0 = 2
 l : 0 < f 1
 s : f 3 = ((16 * E.length : Nat) : Int)
 n : E.length ≤ 1024
 fu : Fu B0 DA NB Y f (ndS ((16 * E.length + 63) / 64)) b
 ok : ∀ e ∈ E, e = zE ∨ okE e
 ct : ∀ i, i < 64 * ((16 * E.length + 63) / 64) → ctF DA Y b i = dirC E i
def dcl (q num : Nat) (v : Value) : List Value := [.pointer (some ⟨q, 0, none⟩), .int .i64 num, v]
theorem Tryz.zeroDd : (Tryz.prog.info? 201).map (fun i => i.zero) = some (some (.agg [.pointer none, .int .i64 0, .slice none 0 0].toArray)) := by kernel_rfl
theorem Tryz.isizeDd : (Tryz.prog.info? 201).map (·.size) = some 3 := by kernel_rfl
theorem Tryz.buildDd (q : Nat) (n : Int) (w : World) : (Instr.build 201 #[(0, .pointer (some ⟨q, 0, none⟩)), (1, .int .i64 n)]).run Tryz.prog w = .ok (.agg [.pointer (some ⟨q, 0, none⟩), .int .i64 n, .slice none 0 0].toArray) w := by kernel_rfl
theorem Tryz.infoEn : ∃ i, Tryz.prog.info? 58 = some i ∧ i.zero = some (.agg (enc zE).toArray) ∧ i.size = 2 ∧ i.bytes = 24 := by
 have h : (Tryz.prog.info? 58).map (fun i => (i.zero, i.size, i.bytes)) = some (some (.agg (enc zE).toArray), 2, 24) := by kernel_rfl
 obtain ⟨i, hi, he⟩ := Option.map_eq_some_iff.1 h;simp only [Prod.mk.injEq] at he;exact ⟨i, hi, he.1, he.2.1, he.2.2⟩
theorem Vl.grownO {w w' : World} {v : Value} {g : Nat} {cs : List Value} (h : Vl w g cs) (hg : w.grownBy w' v.ownBlock) (hb : ∀ k, v.ownBlock = some k → k ≠ g) : Vl w' g cs := by
 have hbl : w'.heap[g]? = w.heap[g]? := hg.block g h.lt (fun he => hb g he.symm rfl);exact ⟨Nat.lt_of_lt_of_le h.lt hg.size, fun j u hj => (World.cell?_of_block (w := w) hbl).trans (h.c j u hj), fun j hj => (World.frozen?_of_block (w := w) hbl).trans (h.z j hj)⟩
theorem ownsRow_kpn {w w' : World} {x base : Nat} {e : TypeId} {size n : Nat} {v : Value} {xs : List Value} (h : w.ownsRow base e size v n xs) (hk : Kp w w' x x) (hx : x < base) : w'.ownsRow base e size v n xs := by
 refine ⟨h.1, ?_⟩;rcases h.2 with hn | ⟨g', cap, cur, hv, hb, hgg, rest⟩
 ·exact .inl hn
 ·refine .inr ⟨g', cap, cur, hv, hb, ?_, rest⟩;rw [hk.block g' (Array.getElem?_eq_some_iff.1 hgg).1 (by omega) (by omega)];exact hgg
theorem ownsRow_kpo {w w' : World} {x base : Nat} {e : TypeId} {size n : Nat} {v : Value} {xs : List Value} (h : w.ownsRow base e size v n xs) (hk : Kp w w' x x) (hx : ∀ k, v.ownBlock = some k → k ≠ x) : w'.ownsRow base e size v n xs := by
 refine ⟨h.1, ?_⟩;rcases h.2 with hn | ⟨g', cap, cur, hv, hb, hgg, rest⟩
 ·exact .inl hn
 ·refine .inr ⟨g', cap, cur, hv, hb, ?_, rest⟩;have := hx g' (by rw [hv]; rfl);rw [hk.block g' (Array.getElem?_eq_some_iff.1 hgg).1 this this];exact hgg
theorem dcl_one (q num : Nat) : ∀ v ∈ dcl q num (.slice none 0 0), v.oneCell' = true := by
 intro v hv;simp only [dcl, List.mem_cons, List.not_mem_nil, or_false] at hv
 rcases hv with rfl | rfl | rfl <;> rfl
theorem Kp.growO {w w1 w2 : World} {x base : Nat} {v : Value} (h : Kp w w1 x x) (hg : w1.grownBy w2 v.ownBlock) (hb : ∀ k, v.ownBlock = some k → w.heap.size ≤ k) : Kp w w2 x x :=
 ⟨hg.os.trans h.os, hg.tape.trans h.tape, hg.output.trans h.output, Nat.le_trans h.size hg.size, fun k hk h1 h2 => (hg.block k (Nat.lt_of_lt_of_le hk h.size) (fun he => by have := hb k he.symm; omega)).trans (h.block k hk h1 h2)⟩
theorem dopen_in (q p t m d gg lab B0 P0 M DA NB N K : Nat) (g : Cf.Ge) (Y V : Nat → Nat → Int) (num : Nat) (h1 : 1 ≤ num) (h2 : num ≤ M) (b0 : Nat → Nat) (E : List En) (hD : Dir B0 DA NB Y (V num) b0 E) (hI : Tab P0 M Y V) (hK : K < 190000000) (hg : GG g B0 P0 M DA NB N) (w : World) (h : Gr w q p t m d gg lab g B0 NB N ln Y K) :
  Calls Tryz.prog 79 #[.pointer (some ⟨q, 0, none⟩), .int .i64 num] w fun e w' => ∃ bd v base, e = .returned (.tuple #[.pointer (some ⟨bd, 0, none⟩), .int .i64 0]) ∧ w.heap.size ≤ bd ∧ bd < base ∧ Vl w' bd (dcl q num v) ∧ w'.ownsRow base 58 2 v E.length (flatE E) ∧ Gr w' q p t m d gg lab g B0 NB N ln Y (K + 1001) ∧ Kf w w' [t, m, d, gg] := by
 obtain ⟨iE, hi, hz, hs, hbE⟩ := Tryz.infoEn;have HI := jh hi;have HZ := jh hz;have HS := jh hs;have HBE := jh hbE;obtain ⟨dE, hu, hd⟩ := Tryz.descEn;have HU := jh hu;have HDd := jh hd;have hk2 := hD.k;have hlen := hD.n;have HN := jh (gnode_in (ln := ln) q p t m d gg lab B0 P0 M DA NB N K g Y V num h1 h2 (by omega) hI hg w h);have HRd := jh (fun W hW => fread_in (ln := ln) q p t m d gg lab B0 P0 M DA NB N (K + 1) g Y V num h1 h2 (by rw [hk2]; decide) (16 * E.length) hD.s (by omega) b0 (ndS ((16 * E.length + 63) / 64)) hD.fu.fi (fun c hc => (ndS_iff _ _).2 (by omega)) hI (by omega) hg W hW 0 (by decide) ((16 * E.length : Nat) : Int) (by omega) (by omega) (16 * E.length) (by omega));have h3 := hD.s
 obtain ⟨f0, hf⟩ : ∃ f, V num = f := ⟨_, rfl⟩
 rw [hf] at HN hk2 h3;have HZ0 := jh (show (ndc f0)[0]? = some (.int .u8 2) from by rw [← hk2]; rfl)
 obtain ⟨zn, hzn⟩ : ∃ z, 16 * E.length = z := ⟨_, rfl⟩
 rw [hzn] at HRd h3;have HZ3 := jh (show (ndc f0)[3]? = some (.int .u32 zn) from by rw [← h3]; rfl);have HCt : Hid (∀ i, i < zn → ctF DA Y b0 (0 + i) = dirC E i) := jh (fun i hi => by rw [Nat.zero_add]; exact hD.ct i (by omega));have HOk := jh hD.ok
 have hzl : zn ≤ 16384 := by omega
 have HZn := jh hzn
 have h0lt : ∀ a ∈ [q, p, t, m, d, gg], a < w.heap.size := fun a ha => by
  obtain ⟨l1, l2, l3, l4, l5, l6⟩ := h.lts;simp only [List.mem_cons, List.not_mem_nil, or_false] at ha
  rcases ha with rfl | rfl | rfl | rfl | rfl | rfl <;> assumption
 have H0 := jh h0lt
 have hzi0 : (0 : Int) ≤ zn := by omega
 have hzi1 : (zn : Int) ≤ 16384 := by omega
 clear hi hz hs hbE hu hd h1 h2 hI hg h hf hk2 h3 hD hzn h0lt
 go_enter Tryz.func79, Tryz.ntmps79
 go_wp2_with fail
 refine HN.out.mono ?_;rintro e w1 ⟨rfl, hG, hk⟩;have HG1 := jh hG;have HK1 := jh hk;clear hG hk HN
 go_upto_region 2 with (first | (refine wpList_alloc_list (w := w1) rfl 77 rfl (ndc zpt) Tryz.zero27 ?_; intro w2 F2 hb2 hz2; simp only [Act.put,j1,j2,j3,j4,j5,j6]; refine wpList_store_list rfl 77 (.tmp 6) (.tmp 17) rfl w1.heap.size (ndc zpt) (ndc f0) rfl rfl F2.out rfl (size27 _) (ndc_one _) ?_; intro w3 F3 HK3; have HQ2 := jh hb2; clear hb2 F2))
 obtain ⟨bN, hbN⟩ : ∃ x, w1.heap.size = x := ⟨_, rfl⟩
 have HG3 := jh ((HG1.out.keep HQ2.out).kp HK3.out (HG1.out.notin (Nat.le_refl _)));have HKa := jh ((HK1.out.more HQ2.out).new HK3.out HK1.out.size);rw [hbN] at F3
 try rw [hbN]
 clear HQ2 HK3 HG1 HK1 hbN hz2;have c0 := F3.out.c 0 _ HZ0.out;have c3 := F3.out.c 3 _ HZ3.out
 go_wp2_with fail
 clear c0 c3;refine (HRd.out w3 HG3.out).mono ?_;rintro e w4 ⟨bR, rfl, hbR, hF, hG, hk⟩;have HG4 := jh hG;have HKb := jh (HKa.out.trans hk);have FR := jh hF;have hRw : w.heap.size ≤ bR := Nat.le_trans HKa.out.size hbR;clear hG hk hF hbR HRd HG3 HKa F3
 go_wp2_with (first | (refine wpList_yields (.agg [.pointer (some ⟨q, 0, none⟩), .int .i64 num, .slice none 0 0].toArray) (yields_bld2 (by rfl) 201 0 1 _ _ rfl (.pointer (some ⟨q, 0, none⟩)) (.int .i64 num) rfl rfl _ (fun W => Tryz.buildDd q num W)) ?_) | (refine wpList_alloc_list (w := w4) rfl 201 rfl [.pointer none, .int .i64 0, .slice none 0 0] Tryz.zeroDd ?_; intro w5 F5 hb5 hz5; simp only [Act.put,j1,j2,j3,j4,j5,j6]; refine wpList_store_list rfl 201 (.tmp 9) (.tmp 42) rfl w4.heap.size [.pointer none, .int .i64 0, .slice none 0 0] (dcl q num (.slice none 0 0)) rfl rfl F5.out rfl Tryz.isizeDd (dcl_one _ _) ?_; intro w6 F6 HK6; have HQ5 := jh hb5; clear hb5 F5))
 obtain ⟨bd, hbd⟩ : ∃ x, w4.heap.size = x := ⟨_, rfl⟩
 have hdw : w.heap.size ≤ bd := by have := HKb.out.size; omega
 have hRd : bR < bd := by have := FR.out.lt; omega
 have hd6 : bd < w6.heap.size := by have := HK6.out.size; omega
 have HG6 := jh ((HG4.out.keep HQ5.out).kp HK6.out (HG4.out.notin (Nat.le_refl _)));have HKc := jh ((HKb.out.more HQ5.out).new HK6.out HKb.out.size);have FR6 := jh ((FR.out.below HQ5.out FR.out.lt).kp HK6.out (by omega) (by omega));rw [hbd] at F6
 try rw [hbd]
 clear HQ5 HK6 HG4 HKb FR hbd hz5;have HND : Hid (bd ∉ [q, p, t, m, d, gg]) := jh (fun ha => by have := H0.out bd ha; omega)
 try simp only [Act.put,j1,j2,j3,j4,j5,j6]
 go_loopw [10, 11, 12] (fun av _ _ wr => ∃ k : Nat, k ≤ E.length ∧ av = .int .i64 ((16 * k : Nat) : Int) ∧ Kp w6 wr bd bd ∧ ∃ v, Vl wr bd (dcl q num v) ∧ wr.ownsRow w6.heap.size 58 2 v k (flatE (E.take k))) (fun av _ _ _ => zn - (Go.RowKit.intOf av).toNat)
 case atStart => exact ⟨0, Nat.zero_le _, rfl, Kp.refl _ _ _, .slice none 0 0, F6.out, World.ownsRow_nil _ _ _ _⟩
 case round =>
  obtain ⟨k, hk, rfl, hkp, v, hV, hO⟩ := hrel;have HKp := jh hkp;have HV := jh hV;have HO := jh hO;have hsz := hkp.size;clear hkp hV hO F6
  obtain ⟨o, ho⟩ : ∃ o, 16 * k = o := ⟨_, rfl⟩
  rw [ho];have HOo := jh ho;have hzz := HZn.out
  by_cases hlt : k < E.length
  ·have ho16 : o + 16 ≤ zn := by omega
   have hoi : (o : Int) < zn := by omega
   have hoi0 : (0 : Int) ≤ o := by omega
   have hoi16 : (o : Int) + 16 ≤ zn := by omega
   have hoz : (o : Int) ≤ zn := by omega
   have hon : ¬ zn = o := by omega
   have hon2 : ¬ o = zn := by omega
   obtain ⟨e, he⟩ : ∃ e, E[k]? = some e := ⟨E[k], List.getElem?_eq_getElem hlt⟩
   have heE : e ∈ E := List.mem_of_getElem? he;have hok := HOk.out e heE
   have hsb : Sb wr bR o 16 (pkF e) := ⟨by have := FR6.out.lt; omega, fun j hj => by
    have := (FR6.out.kp HKp.out (by omega) (by omega)).c (o + j) (by omega);rw [HCt.out (o + j) (by omega)] at this;rw [this];unfold dirC
    rw [show (o + j) / 16 = k by omega, he, show (o + j) % 16 = j by omega]⟩
   have hun : ∀ cap, 16 ≤ cap → cap ≤ 100000 → Calls Tryz.prog 144 #[.slice (some ⟨bR, o, none⟩) 16 cap] wr fun x w' => x = .returned (.tuple #[.agg (enc e).toArray, .bool true]) ∧ Below wr.heap.size wr w' := fun cap hc1 hc2 => unpack_ok e hok bR o cap hc1 hc2 (by omega) wr hsb;have HUn := jh (hun (zn - o) (by omega) (by omega))
   have hsnoc : flatE (E.take (k + 1)) = flatE (E.take k) ++ enc e := by
    rw [← flatE_snoc]
    congr 1
    rw [List.take_add_one, he];rfl
   have HSn := jh hsnoc
   have hE5 : E.length ≤ 1024 := by omega
   obtain ⟨s, n⟩ := e;have HLt := jh hlt;clear hsb hun hsnoc he heE hok ho hzz hlt
   go_wp2_with fail
   refine HUn.out.mono ?_;rintro e w8 ⟨rfl, hb⟩;have HK8 := jh (HKp.out.trans (Kp.of_below hb bd bd));have HV8 := jh (HV.out.keep hb);have HO8 := jh (ownsRow_below HO.out hb);have hs8 := hb.size;clear hb HUn HKp HV HO
   go_upto_region 16 with (first | (refine wpList_alloc_list (w := w8) rfl 58 rfl (enc zE) Tryz.zeroEn ?_; intro w9 F9 hb9 hz9; simp only [Act.put,j1,j2,j3,j4,j5,j6]; refine wpList_store_list rfl 58 (.tmp 11) (.tmp 56) rfl w8.heap.size (enc zE) (enc (s, n)) rfl rfl F9.out rfl (sizeEn _) (enc_one _) ?_; intro wA FA HKA; have HQ9 := jh hb9; clear hb9 F9))
   obtain ⟨bx, hbx⟩ : ∃ x, w8.heap.size = x := ⟨_, rfl⟩
   have hx6 : w6.heap.size ≤ bx := by omega
   have hxA : bx < wA.heap.size := by have := HKA.out.size; omega
   have HKA6 := jh (HK8.out.trans ((Kp.of_below HQ9.out bd bd).after HKA.out (by omega)));have HVA := jh ((HV8.out.keep HQ9.out).kp HKA.out (by omega) (by omega))
   have hnx : ∀ kk, v.ownBlock = some kk → kk < bx := fun kk hkk => by
    have := World.ownsRow.lt HO8.out kk hkk;omega
   have HOA := jh (ownsRow_kpo (ownsRow_below HO8.out HQ9.out) HKA.out (fun kk hkk => by have := hnx kk hkk; omega));rw [hbx] at FA
   try rw [hbx]
   clear HQ9 HKA HK8 HV8 HO8 hbx hz9 hnx;have cV := HVA.out.c 2 _ rfl;have zV := HVA.out.z 2 (by show 2 < 3; decide);have hAd : bd < wA.heap.size := HVA.out.lt;have HRx : Hid (wA.rangeAt bx 0 [.string s, .int .u16 n]) := jh FA.out.range0
   go_wp2_with (first | (refine wpList_load_mid rfl 58 _ rfl bx 0 rfl [.string s, .int .u16 n] dE HRx.out HU.out HDd.out Tryz.isizeEn ?_) | (at_builtin; refine wpList_append_own _ rfl _ _ 68 rfl w6.heap.size 58 iE _ 2 24 Tryz.underlying68 HI.out HZ.out HS.out HBE.out rfl (by decide) _ _ _ rfl (HOA.out.alloc _) ⟨wA.heap.size, 0, none⟩ 1 1 [.string s, .int .u16 n] rfl rfl (Cf.cells_new wA _ 58) (by simp [Value.oneCell']) (by unfold maxLen; omega) (by omega) (by simp; omega) ?_; intro v' wB hown' hgrow _; obtain ⟨pa, pc, hv'⟩ := Cf.ownsRow_form hown'; subst hv'; have hob := ownsRow_block HOA.out; have HOB := jh hown'; have HVB := jh ((HVA.out.keep ((Below.refl _ _).alloc (Nat.le_refl _) _)).grownO hgrow (fun kk hkk => by have := hob kk hkk; omega)); have HKB := jh ((HKA6.out.trans (Kp.of_below ((Below.refl wA.heap.size wA).alloc (Nat.le_refl _) (.cells #[.string s, .int .u16 n] 58)) bd bd)).growO (base := w6.heap.size) hgrow hob); clear hown' hgrow hob cV zV; have cV := HVB.out.c 2 _ rfl; have zV := HVB.out.z 2 (by show 2 < 3; decide)))
   have hk15 : Kp wB (wB.setCell ⟨bd, 2, none⟩ (.slice pa (k + 1) pc)) bd bd := (Kp.refl wB bd bd).setA 2 _;have HVC : Hid (Vl (wB.setCell ⟨bd, 2, none⟩ (.slice pa (k + 1) pc)) bd (dcl q num (.slice pa (k + 1) pc))) := jh (HVB.out.set 2 (by show 2 < 3; decide) (.slice pa (k + 1) pc));have HOC := jh (ownsRow_kpn HOB.out hk15 hd6);have HKC := jh (HKB.out.trans hk15);clear hk15
   go_roundw
   case rel =>
    refine ⟨k + 1, HLt.out, ?_, HKC.out, _, HVC.out, ?_⟩
    ·have := HOo.out;rw [show ((16 * (k + 1) : Nat) : Int) = (o : Int) + 16 by omega]
    ·rw [HSn.out];exact HOC.out
   case measure => (have := HOo.out; have := HZn.out; simp [Go.RowKit.intOf]; try omega)
  ·obtain rfl : k = E.length := by omega
   have hoi : ¬ ((o : Int) < zn) := by omega
   have HOf := HO.out;rw [List.take_length] at HOf;have HOg := jh HOf;clear HOf
   go_wp2_with fail
   go_ret2
   exact ⟨bd, rfl, hdw, v, w6.heap.size, hd6, HV.out, HOg.out, (HG6.out.kp HKp.out HND.out).mono (Lm.le_refl _) (by omega), HKc.out.new HKp.out hdw⟩
end Go.Proofs.YtgdapkbenmlabaaGreatDoor
namespace Go.Proofs.YtgdapkbenmlabaaGreatDoor
open Go.RowKit Go.Maps
def smE (E : List En) : Prop := ∀ e ∈ E, e.1.size ≤ 14 ∧ e.2 < 65536
theorem smE_of {E : List En} (h : ∀ e ∈ E, e = zE ∨ okE e) : smE E := fun e he => by
 rcases h e he with rfl | h
 ·exact ⟨by decide, by decide⟩
 ·exact ⟨(nameC_ok h.2.2).2.1, h.2.1⟩
theorem flatE_get {E : List En} {k : Nat} {e : En} (h : E[k]? = some e) (j : Nat) (hj : j < 2) : (flatE E)[2 * k + j]? = (enc e)[j]? := by
 induction E generalizing k with
 | nil => simp at h
 | cons a E ih =>
  have hf : flatE (a :: E) = enc a ++ flatE E := rfl
  cases k with
  | zero =>
   simp only [List.getElem?_cons_zero, Option.some.injEq] at h;subst h;rw [hf, List.getElem?_append_left (by show 2 * 0 + j < 2; omega), Nat.mul_zero, Nat.zero_add]
  | succ k =>
   rw [List.getElem?_cons_succ] at h;rw [hf, List.getElem?_append_right (by show 2 ≤ _; omega), ← ih h, show 2 * (k + 1) + j - (enc a).length = 2 * k + j from by show 2 * (k + 1) + j - 2 = _; omega]
theorem own_some {w : World} {base n : Nat} {pa : Option Addr} {cap : Nat} {xs : List Value} (h : w.ownsRow base 58 2 (.slice pa n cap) n xs) (hn : 0 < n) : ∃ g, pa = some ⟨g, 0, none⟩ ∧ base ≤ g ∧ g < w.heap.size := by
 rcases h.2 with ⟨hv, hx⟩ | ⟨g', cap', cur, hv, hb, hgg, -⟩
 ·injection hv with h1 h2 h3
  omega
 ·injection hv with h1 h2 h3
  exact ⟨g', h1, hb, (Array.getElem?_eq_some_iff.1 hgg).1⟩
theorem own_at {w : World} {base n g cap : Nat} {E : List En} (h : w.ownsRow base 58 2 (.slice (some ⟨g, 0, none⟩) n cap) n (flatE E)) (hn : n = E.length) {k : Nat} {e : En} (he : E[k]? = some e) : w.rangeAt g (k * 2) (enc e) := fun j u hu => by
 have hk : k < E.length := (List.getElem?_eq_some_iff.1 he).1;have hj : j < 2 := (List.getElem?_eq_some_iff.1 hu).1;rw [World.ownsRow.cellAt h (k * 2 + j) (by rw [hn]; omega), Nat.mul_comm k 2, flatE_get he j hj];exact hu
theorem ownsRow_belowB {w w' : World} {base n g cap : Nat} {xs : List Value} (h : w.ownsRow base 58 2 (.slice (some ⟨g, 0, none⟩) n cap) n xs) (hb : Below w.heap.size w w') (hg : g < w.heap.size) : w'.ownsRow base 58 2 (.slice (some ⟨g, 0, none⟩) n cap) n xs := ownsRow_below h hb
def mtE (s : ByteArray) (e : En) : Bool := !vacE e && (e.1.toList == s.toList)
theorem find_any (q num bd base : Nat) (v : Value) (E : List En) (hE : smE E) (s : ByteArray) (hl : E.length ≤ 1024) (w : World) (hV : Vl w bd (dcl q num v)) (hO : w.ownsRow base 58 2 v E.length (flatE E)) :
  Calls Tryz.prog 80 #[.pointer (some ⟨bd, 0, none⟩), .string s] w fun x w' => Below w.heap.size w w' ∧ ((∃ (i : Nat) (e : En), E[i]? = some e ∧ mtE s e = true ∧ (∀ (j : Nat) (e' : En), j < i → E[j]? = some e' → mtE s e' = false) ∧ x = .returned (.tuple #[.int .i64 i, .int .i64 0])) ∨ ((∀ e ∈ E, mtE s e = false) ∧ x = .returned (.tuple #[.int .i64 0, .int .i64 3]))) := by
 obtain ⟨pa, cap, rfl⟩ := Cf.ownsRow_form hO;obtain ⟨dE, hu, hd⟩ := Tryz.descEn;have HU := jh hu;have HD := jh hd;have HV := jh hV;have HO := jh hO;have HE := jh hE
 obtain ⟨n, hn⟩ : ∃ n, E.length = n := ⟨_, rfl⟩
 rw [hn] at HV HO hl;have HN := jh hn
 have hn0 : (0 : Int) ≤ n := by omega
 have hn1 : (n : Int) ≤ 1024 := by omega
 have c2 : w.cell? ⟨bd, 2, none⟩ = some (.slice pa n cap) := HV.out.c 2 _ rfl;clear hu hd hV hO hE hn
 go_enter Tryz.func80, Tryz.ntmps80
 go_wp2_with fail
 clear c2
 go_loopw [6, 7, 13] (fun _ _ iv wr => ∃ k : Nat, k ≤ n ∧ iv = .int .i64 k ∧ Below w.heap.size w wr ∧ ∀ j e', j < k → E[j]? = some e' → mtE s e' = false) (fun _ _ iv _ => n - (Go.RowKit.intOf iv).toNat)
 case atStart => exact ⟨0, Nat.zero_le _, rfl, Below.refl _ _, fun j _ h => absurd h (Nat.not_lt_zero _)⟩
 case round =>
  obtain ⟨k, hk, rfl, hb, hall⟩ := hrel;have HB := jh hb;have HA := jh hall;have hsz := hb.size;clear hb hall
  by_cases hlt : k < n
  ·obtain ⟨g, rfl, hg1, hg2⟩ := own_some HO.out (by omega)
   have hke : k < E.length := by have := HN.out; omega
   obtain ⟨e, he⟩ : ∃ e, E[k]? = some e := ⟨E[k], List.getElem?_eq_getElem hke⟩
   obtain ⟨he1, he2⟩ := HE.out e (List.mem_of_getElem? he);have HRg := jh (own_at (ownsRow_belowB HO.out HB.out hg2) HN.out.symm he);have HVc := jh (fun W => vacant_any e (by unfold maxLen; omega) he2 W);have HHe := jh he
   have hki : (k : Int) < n := by omega
   have hk0 : (0 : Int) ≤ k := by omega
   have hmt : mtE s e = (!vacE e && (e.1.toList == s.toList)) := rfl
   obtain ⟨vc, hvc⟩ : ∃ x, vacE e = x := ⟨_, rfl⟩
   rw [hvc] at HVc hmt;have HMt := jh hmt;obtain ⟨es, en⟩ := e;clear he hke he1 he2 hmt hvc hlt
   go_upto_region 4 with (first | (refine wpList_load_mid rfl 58 _ rfl g (k * 2) rfl (enc (es, en)) dE HRg.out HU.out HD.out (sizeEn _) ?_) | (refine wpList_alloc_list (w := wr) rfl 58 rfl (enc zE) Tryz.zeroEn ?_; intro w2 F2 hb2 hz2; simp only [Act.put,j1,j2,j3,j4,j5,j6]) | (refine wpList_store_list rfl 58 (.tmp 7) (.tmp 17) rfl wr.heap.size (enc zE) (enc (es, en)) rfl rfl F2.out rfl (sizeEn _) (enc_one _) ?_; intro w3 F3 HK3; have HQ2 := jh hb2; clear hb2 F2))
   obtain ⟨bx, hbx⟩ : ∃ x, wr.heap.size = x := ⟨_, rfl⟩
   have HB3 := jh ((HB.out.trans (HQ2.out.mono hsz)).trans (HK3.out.below hsz hsz (Nat.le_trans hsz HQ2.out.size)));rw [hbx] at F3
   try rw [hbx]
   clear HQ2 HK3 HB hbx hz2 HRg;have HRx := jh F3.out.range0
   go_wp2_with (refine wpList_load_mid rfl 58 _ rfl bx 0 rfl (enc (es, en)) dE HRx.out HU.out HD.out (sizeEn _) ?_)
   refine (HVc.out w3).mono ?_;rintro x w4 ⟨rfl, hb⟩;have HB4 := jh (HB3.out.trans (hb.mono HB3.out.size));have F4 := jh (F3.out.keep hb);clear hb HVc HB3 F3 HRx
   cases vc
   ·have c0 := F4.out.c 0 _ rfl
    cases hm : (es.toList == s.toList)
    ·have HM := jh (HMt.out.trans (by rw [hm]; rfl) : mtE s (es, en) = false)
     go_wp2_with fail
     go_roundw
     case rel =>
      refine ⟨k + 1, by omega, by go_num, HB4.out, fun j e' hj he' => ?_⟩
      by_cases ej : j = k
      ·rw [ej, HHe.out] at he'
       injection he' with he'
       rw [← he'];exact HM.out
      ·exact HA.out j e' (by omega) he'
     case measure => (simp [Go.RowKit.intOf]; try omega)
    ·have HM := jh (HMt.out.trans (by rw [hm]; rfl) : mtE s (es, en) = true)
     go_wp2_with fail
     go_ret2
     exact ⟨HB4.out, .inl ⟨k, (es, en), HHe.out, HM.out, HA.out, rfl⟩⟩
   ·have HM := jh (HMt.out.trans (by rfl) : mtE s (es, en) = false)
    go_wp2_with fail
    go_roundw
    case rel =>
     refine ⟨k + 1, by omega, by go_num, HB4.out, fun j e' hj he' => ?_⟩
     by_cases ej : j = k
     ·rw [ej, HHe.out] at he'
      injection he' with he'
      rw [← he'];exact HM.out
     ·exact HA.out j e' (by omega) he'
    case measure => (simp [Go.RowKit.intOf]; try omega)
  ·obtain rfl : k = n := by omega
   go_wp2_with fail
   go_ret2
   refine ⟨HB.out, .inr ⟨fun e he => ?_, rfl⟩⟩;obtain ⟨j, hj, rfl⟩ := List.mem_iff_getElem.1 he;exact HA.out j _ (by have := HN.out; omega) (List.getElem?_eq_getElem hj)
def isRoom (E : List En) (i : Nat) : Prop := i ≤ E.length ∧ (∀ j e', j < i → E[j]? = some e' → vacE e' = false) ∧ (i = E.length ∨ ∃ e, E[i]? = some e ∧ vacE e = true)
theorem room_any (q num bd base : Nat) (v : Value) (E : List En) (hE : smE E) (hl : E.length ≤ 1024) (w : World) (hV : Vl w bd (dcl q num v)) (hO : w.ownsRow base 58 2 v E.length (flatE E)) :
  Calls Tryz.prog 86 #[.pointer (some ⟨bd, 0, none⟩)] w fun x w' => Below w.heap.size w w' ∧ ∃ i : Nat, isRoom E i ∧ x = .returned (.int .i64 i) := by
 obtain ⟨pa, cap, hv⟩ := Cf.ownsRow_form hO;subst hv;obtain ⟨dE, hu, hd⟩ := Tryz.descEn;have HU := jh hu;have HD := jh hd;have HV := jh hV;have HO := jh hO;have HE := jh hE
 obtain ⟨n, hn⟩ : ∃ n, E.length = n := ⟨_, rfl⟩
 rw [hn] at HV HO hl;have HN := jh hn
 have hn0 : (0 : Int) ≤ n := by omega
 have hn1 : (n : Int) ≤ 1024 := by omega
 have c2 : w.cell? ⟨bd, 2, none⟩ = some (.slice pa n cap) := HV.out.c 2 _ rfl;clear hu hd hV hO hE hn
 go_enter Tryz.func86, Tryz.ntmps86
 go_wp2_with fail
 clear c2
 go_loopw [3, 4, 10] (fun _ _ iv wr => ∃ k : Nat, k ≤ n ∧ iv = .int .i64 k ∧ Below w.heap.size w wr ∧ ∀ j e', j < k → E[j]? = some e' → vacE e' = false) (fun _ _ iv _ => n - (Go.RowKit.intOf iv).toNat)
 case atStart => exact ⟨0, Nat.zero_le _, rfl, Below.refl _ _, fun j _ h => absurd h (Nat.not_lt_zero _)⟩
 case round =>
  obtain ⟨k, hk, rfl, hb, hall⟩ := hrel;have HB := jh hb;have HA := jh hall;have hsz := hb.size;clear hb hall
  by_cases hlt : k < n
  ·obtain ⟨g, rfl, hg1, hg2⟩ := own_some HO.out (by omega)
   have hke : k < E.length := by have := HN.out; omega
   obtain ⟨e, he⟩ : ∃ e, E[k]? = some e := ⟨E[k], List.getElem?_eq_getElem hke⟩
   obtain ⟨he1, he2⟩ := HE.out e (List.mem_of_getElem? he);have HRg := jh (own_at (ownsRow_belowB HO.out HB.out hg2) HN.out.symm he);have HVc := jh (fun W => vacant_any e (by unfold maxLen; omega) he2 W);have HHe := jh he
   have hki : (k : Int) < n := by omega
   have hk0 : (0 : Int) ≤ k := by omega
   obtain ⟨vc, hvc⟩ : ∃ x, vacE e = x := ⟨_, rfl⟩
   rw [hvc] at HVc;have HMt := jh hvc;obtain ⟨es, en⟩ := e;have HKn := jh hke;clear he hke he1 he2 hvc hlt
   go_upto_region 4 with (first | (refine wpList_load_mid rfl 58 _ rfl g (k * 2) rfl (enc (es, en)) dE HRg.out HU.out HD.out (sizeEn _) ?_) | (refine wpList_alloc_list (w := wr) rfl 58 rfl (enc zE) Tryz.zeroEn ?_; intro w2 F2 hb2 hz2; simp only [Act.put,j1,j2,j3,j4,j5,j6]) | (refine wpList_store_list rfl 58 (.tmp 4) (.tmp 14) rfl wr.heap.size (enc zE) (enc (es, en)) rfl rfl F2.out rfl (sizeEn _) (enc_one _) ?_; intro w3 F3 HK3; have HQ2 := jh hb2; clear hb2 F2))
   obtain ⟨bx, hbx⟩ : ∃ x, wr.heap.size = x := ⟨_, rfl⟩
   have HB3 := jh ((HB.out.trans (HQ2.out.mono hsz)).trans (HK3.out.below hsz hsz (Nat.le_trans hsz HQ2.out.size)));rw [hbx] at F3
   try rw [hbx]
   clear HQ2 HK3 HB hbx hz2 HRg;have HRx := jh F3.out.range0
   go_wp2_with (refine wpList_load_mid rfl 58 _ rfl bx 0 rfl (enc (es, en)) dE HRx.out HU.out HD.out (sizeEn _) ?_)
   refine (HVc.out w3).mono ?_;rintro x w4 ⟨rfl, hb⟩;have HB4 := jh (HB3.out.trans (hb.mono HB3.out.size));clear hb HVc HB3 F3 HRx
   cases vc
   ·go_wp2_with fail
    go_roundw
    case rel =>
     refine ⟨k + 1, by omega, by go_num, HB4.out, fun j e' hj he' => ?_⟩
     by_cases ej : j = k
     ·rw [ej, HHe.out] at he'
      injection he' with he'
      rw [← he'];exact HMt.out
     ·exact HA.out j e' (by omega) he'
    case measure => (simp [Go.RowKit.intOf]; try omega)
   ·go_wp2_with fail
    go_ret
    exact ⟨HB4.out, k, ⟨Nat.le_of_lt HKn.out, HA.out, .inr ⟨(es, en), HHe.out, HMt.out⟩⟩, rfl⟩
  ·obtain rfl : k = n := by omega
   have c2 : wr.cell? ⟨bd, 2, none⟩ = some (.slice pa k cap) := (HV.out.below HB.out HV.out.lt).c 2 _ rfl
   go_wp2_with fail
   go_ret
   exact ⟨HB.out, k, ⟨Nat.le_of_eq HN.out.symm, HA.out, .inl HN.out.symm⟩, rfl⟩
def isUsed (E : List En) (u : Nat) : Prop := u ≤ E.length ∧ (∀ j e', u ≤ j → E[j]? = some e' → vacE e' = true) ∧ (u = 0 ∨ ∃ e, E[u - 1]? = some e ∧ vacE e = false)
theorem used_any (q num bd base : Nat) (v : Value) (E : List En) (hE : smE E) (hl : E.length ≤ 1024) (w : World) (hV : Vl w bd (dcl q num v)) (hO : w.ownsRow base 58 2 v E.length (flatE E)) :
  Calls Tryz.prog 81 #[.pointer (some ⟨bd, 0, none⟩)] w fun x w' => Below w.heap.size w w' ∧ ∃ i : Nat, isUsed E i ∧ x = .returned (.int .i64 i) := by
 obtain ⟨pa, cap, hv⟩ := Cf.ownsRow_form hO;subst hv;obtain ⟨dE, hu, hd⟩ := Tryz.descEn;have HU := jh hu;have HD := jh hd;have HV := jh hV;have HO := jh hO;have HE := jh hE
 obtain ⟨n, hn⟩ : ∃ n, E.length = n := ⟨_, rfl⟩
 rw [hn] at HV HO hl;have HN := jh hn
 have hn0 : (0 : Int) ≤ n := by omega
 have hn1 : (n : Int) ≤ 1024 := by omega
 have c2 : w.cell? ⟨bd, 2, none⟩ = some (.slice pa n cap) := HV.out.c 2 _ rfl;clear hu hd hV hO hE hn
 go_enter Tryz.func81, Tryz.ntmps81
 go_wp2_with fail
 clear c2
 go_loopw [3] (fun iv wr => ∃ u : Nat, u ≤ n ∧ iv = .int .i64 u ∧ Below w.heap.size w wr ∧ ∀ j e', u ≤ j → E[j]? = some e' → vacE e' = true) (fun iv _ => (Go.RowKit.intOf iv).toNat)
 case atStart => exact ⟨n, Nat.le_refl _, rfl, Below.refl _ _, fun j e' h he => by
  have := (List.getElem?_eq_some_iff.1 he).1;have := HN.out
  omega⟩
 case round =>
  obtain ⟨u, hk, rfl, hb, hall⟩ := hrel;have HB := jh hb;have HA := jh hall;have hsz := hb.size;clear hb hall
  have hun : u ≤ E.length := by have := HN.out; omega
  have HUn := jh hun;clear hun
  by_cases hlt : 0 < u
  ·obtain ⟨g, rfl, hg1, hg2⟩ := own_some HO.out (by omega)
   obtain ⟨k, rfl⟩ : ∃ k, u = k + 1 := ⟨u - 1, by omega⟩
   have hke : k < E.length := by have := HUn.out; omega
   obtain ⟨e, he⟩ : ∃ e, E[k]? = some e := ⟨E[k], List.getElem?_eq_getElem hke⟩
   obtain ⟨he1, he2⟩ := HE.out e (List.mem_of_getElem? he);have HRg := jh (own_at (ownsRow_belowB HO.out HB.out hg2) HN.out.symm he);have HVc := jh (fun W => vacant_any e (by unfold maxLen; omega) he2 W);have HHe := jh he
   obtain ⟨ui, hui⟩ : ∃ z : Int, ((k + 1 : Nat) : Int) = z := ⟨_, rfl⟩
   have hu1 : ui - 1 = (k : Int) := by omega
   have hki : (k : Int) < n := by omega
   have hk0 : (0 : Int) ≤ k := by omega
   have hu0 : 0 < ui := by omega
   have HUi := jh hui;rw [hui]
   obtain ⟨vc, hvc⟩ : ∃ x, vacE e = x := ⟨_, rfl⟩
   rw [hvc] at HVc;have HMt := jh hvc;obtain ⟨es, en⟩ := e;have c2 : wr.cell? ⟨bd, 2, none⟩ = some (.slice (some ⟨g, 0, none⟩) n cap) := (HV.out.below HB.out HV.out.lt).c 2 _ rfl;have HHk := jh hk;have cA : wr.cell? ⟨g, k * 2, none⟩ = some (.string es) := HRg.out 0 _ rfl;have cB : wr.cell? ⟨g, k * 2 + 1, none⟩ = some (.int .u16 en) := HRg.out 1 _ rfl;clear he hke he1 he2 hvc hlt hui hk
   go_wp2_with fail
   refine (HVc.out wr).mono ?_;rintro x w4 ⟨rfl, hb⟩;have HB4 := jh (HB.out.trans (hb.mono hsz));clear hb HVc HB HRg c2 cA cB
   cases vc
   ·go_wp2_with fail
    go_ret
    refine ⟨HB4.out, k + 1, ⟨HUn.out, HA.out, .inr ⟨(es, en), ?_, HMt.out⟩⟩, by rw [HUi.out]; rfl⟩;rw [show k + 1 - 1 = k by omega];exact HHe.out
   ·go_wp2_with fail
    go_roundw
    case rel =>
     refine ⟨k, by have := HHk.out; omega, ?_, HB4.out, fun j e' hj he' => ?_⟩
     ·first | rfl | go_num
     ·by_cases ej : j = k
      ·rw [ej, HHe.out] at he'
       injection he' with he'
       rw [← he'];exact HMt.out
      ·exact HA.out j e' (by omega) he'
    case measure => (have := HUi.out; simp [Go.RowKit.intOf]; try omega)
  ·obtain rfl : u = 0 := by omega
   go_wp2_with fail
   go_ret
   exact ⟨HB.out, 0, ⟨Nat.zero_le _, HA.out, .inl rfl⟩, rfl⟩
theorem put_any9 (q num bd : Nat) (v : Value) (e : En) (h1 : e.1.size ≤ 14) (h2 : e.2 < 65536) (i : Nat) (hi : i ≤ 1024) (Q : Int → World → Prop) (w : World) (hV : Vl w bd (dcl q num v))
  (hQ : ∀ W sb, Below w.heap.size w W → w.heap.size ≤ sb → Fl W sb 16 (pkF e) → Calls Tryz.prog 71 #[.pointer (some ⟨q, 0, none⟩), .int .i64 num, .int .i64 ((16 * i : Nat) : Int), .slice (some ⟨sb, 0, none⟩) 16 16] W fun x w' => ∃ c, x = .returned (.int .i64 c) ∧ Vl w' bd (dcl q num v) ∧ Q c w') :
  Calls Tryz.prog 82 #[.pointer (some ⟨bd, 0, none⟩), .int .i64 i, .agg (enc e).toArray] w fun x w' => ∃ c, x = .returned (.int .i64 c) ∧ Q c w' := by
 obtain ⟨dE, hu, hd⟩ := Tryz.descEn;have HU := jh hu;have HD := jh hd;have HP := jh (fun W => pack_any e h1 h2 W);have HQ := jh hQ;have HV := jh hV
 obtain ⟨P, hP⟩ : ∃ P, pkF e = P := ⟨_, rfl⟩
 rw [hP] at HP HQ
 obtain ⟨oi, hoi⟩ : ∃ z : Int, (i : Int) * 16 = z := ⟨_, rfl⟩
 rw [show ((16 * i : Nat) : Int) = oi by omega] at HQ
 have hi0 : (0 : Int) ≤ i := by omega
 have hi1 : (i : Int) ≤ 1024 := by omega
 have ho0 : 0 ≤ oi := by omega
 have ho1 : oi ≤ 16384 := by omega
 have hwr : IntKind.i64.wrap oi = oi := IntWalk.i64_in _ (by omega);clear hu hd h1 h2 hQ hV hP hi
 go_enter Tryz.func82, Tryz.ntmps82
 go_upto_region 1 with (first | (refine wpList_box_list (w := w) rfl 58 _ rfl (enc e) rfl ?_; intro w1 F1 hb1 hz1; have HB1 := jh hb1; clear hb1 hz1))
 have HRx := jh F1.out.range0
 go_wp2_with (refine wpList_load_mid rfl 58 _ rfl w.heap.size 0 rfl (enc e) dE HRx.out HU.out HD.out (sizeEn _) ?_)
 refine (HP.out w1).mono ?_;rintro x w2 ⟨rfl, hb⟩;have HB2 := jh (HB1.out.trans (hb.mono HB1.out.size));clear hb HP HRx HB1 F1
 go_upto_region 2 with (first | (refine wpList_alloc_byts (w := w2) rfl 295 16 rfl Tryz.zero171 ?_; intro w5 F5 hb5 hz5; simp only [Act.put,j1,j2,j3,j4,j5,j6]; refine wpList_store_mid rfl 295 _ _ rfl w2.heap.size 0 (byts 16 P).toArray rfl rfl (by rw [byts_size]; exact F5.out.there 0 16 (Nat.le_refl _)) (size171' _) (byts_all _ _) ?_; have HQ5 := jh hb5; clear hb5))
 obtain ⟨bT, hbT⟩ : ∃ x, w2.heap.size = x := ⟨_, rfl⟩
 have hTw : w.heap.size ≤ bT := by have := HB2.out.size; omega
 rw [hbT] at F5
 try rw [hbT]
 have F6 := jh (F5.out.stored P);have hk6 : Kp w5 (w5.setCells bT 0 (byts 16 P)) bT bT := (Kp.refl w5 bT bT).setCells bT 0 (.inl rfl) _;have HB6 := jh ((HB2.out.trans (HQ5.out.mono HB2.out.size)).trans (hk6.below hTw hTw (Nat.le_trans HB2.out.size HQ5.out.size)))
 obtain ⟨w6, hw6⟩ : ∃ x, w5.setCells bT 0 (byts 16 P) = x := ⟨_, rfl⟩
 rw [hw6] at F6 HB6
 try rw [hw6]
 try (change wp _ _ _ _ (w5.setCells bT 0 (byts 16 P)); rw [hw6])
 clear hw6 hk6 F5 HQ5 HB2 hbT hz5;refine wp_region_held (S := fun W => Vl W bd (dcl q num v)) (by kernel_rfl) ?_;change wpAnyH _ _ _ _ _ _ _ _ (World.drew _);have hS0 : (fun W => Vl W bd (dcl q num v)) w6.drew := (HV.out.below HB6.out HV.out.lt).keep (Below.refl _ _).drew;have F7 := jh (F6.out.below (Below.refl _ _).drew F6.out.lt);have HB7 := jh HB6.out.drew
 obtain ⟨w7, hw7⟩ : ∃ x, World.drew w6 = x := ⟨_, rfl⟩
 rw [hw7] at hS0 F7 HB7 ⊢;clear hw7 F6 HB6 HV;refine jk 0 (v:=?_) rfl (by kernel_rfl) (fun _ _ _=>id) (by rfl) ?_ hS0 ?_;rotate_left
 ·intro W hW;go_simp;try with_reducible rfl
 simp only [Act.put,j1,j2,j3,j4,j5,j6];refine jk 1 (v:=?_) rfl (by kernel_rfl) (fun _ _ _=>id) (by rfl) ?_ hS0 ?_;rotate_left
 ·intro W hW;go_simp;try with_reducible rfl
 simp only [Act.put,j1,j2,j3,j4,j5,j6];refine jk 2 (v:=?_) rfl (by kernel_rfl) (fun _ _ _=>id) (by rfl) ?_ hS0 ?_;rotate_left
 ·intro W hW;go_simp;try with_reducible rfl
 simp only [Act.put,j1,j2,j3,j4,j5,j6];refine jk 3 (v:=?_) rfl (by kernel_rfl) (fun _ _ _=>id) (by rfl) ?_ hS0 ?_;rotate_left 1
 ·intro W hW;have c0 : W.cell? ⟨bd, 0, none⟩ = some (.pointer (some ⟨q, 0, none⟩)) := hW.c 0 _ rfl;go_simp
  try with_reducible rfl
 simp only [Act.put,j1,j2,j3,j4,j5,j6];refine jk 4 (v:=?_) rfl (by kernel_rfl) (fun _ _ _=>id) (by rfl) ?_ hS0 ?_;rotate_left
 ·intro W hW;go_simp;try with_reducible rfl
 simp only [Act.put,j1,j2,j3,j4,j5,j6];refine jk 5 (v:=?_) rfl (by kernel_rfl) (fun _ _ _=>id) (by rfl) ?_ hS0 ?_;rotate_left
 ·intro W hW;go_simp;try with_reducible rfl
 simp only [Act.put,j1,j2,j3,j4,j5,j6];refine jk 6 (v:=?_) rfl (by kernel_rfl) (fun _ _ _=>id) (by rfl) ?_ hS0 ?_;rotate_left
 ·intro W hW;go_simp;try with_reducible rfl
 simp only [Act.put,j1,j2,j3,j4,j5,j6];refine jk 7 (v:=?_) rfl (by kernel_rfl) (fun _ _ _=>id) (by rfl) ?_ hS0 ?_;rotate_left 1
 ·intro W hW;have c1 : W.cell? ⟨bd, 1, none⟩ = some (.int .i64 num) := hW.c 1 _ rfl;go_simp
  try with_reducible rfl
 simp only [Act.put,j1,j2,j3,j4,j5,j6];refine jk 8 (v:=?_) rfl (by kernel_rfl) (fun _ _ _=>id) (by rfl) ?_ hS0 ?_;rotate_left
 ·intro W hW;go_simp;try with_reducible rfl
 simp only [Act.put,j1,j2,j3,j4,j5,j6];refine jk 9 (v:=?_) rfl (by kernel_rfl) (fun _ _ _=>id) (by rfl) ?_ hS0 ?_;rotate_left
 ·intro W hW;go_simp;try with_reducible rfl
 simp only [Act.put,j1,j2,j3,j4,j5,j6];refine jk 10 (v:=?_) rfl (by kernel_rfl) (fun _ _ _=>id) (by rfl) ?_ hS0 ?_;rotate_left
 ·intro W hW;go_simp;try with_reducible rfl
 simp only [Act.put,j1,j2,j3,j4,j5,j6];refine wpAnyH_ready (rs := [11]) (by kernel_rfl) (by simp) (AllReadyH.cons rfl (fun KK hKK => ?_) AllReadyH.nil);go_simp;refine (HQ.out w7 bT HB7.out hTw F7.out).mono ?_;rintro x w9 ⟨c, rfl, hv9, hq⟩;have HQq := jh hq
 replace hS0 : (fun W => Vl W bd (dcl q num v)) w9 := hv9
 clear hq hv9;refine hKK _ _ hS0 ?_;intro _;clear hKK KK
 try simp only [Act.put,j1,j2,j3,j4,j5,j6]
 refine jk 12 (v:=?_) rfl (by kernel_rfl) (fun _ _ _=>id) (by rfl) ?_ hS0 ?_;rotate_left
 ·intro W hW;go_simp;try with_reducible rfl
 simp only [Act.put,j1,j2,j3,j4,j5,j6];refine wpAnyH_done (by kernel_rfl) ?_ _;clear hS0
 go_wp2_with fail
 go_ret
 exact ⟨c, rfl, HQq.out⟩
end Go.Proofs.YtgdapkbenmlabaaGreatDoor
namespace Go.Proofs.YtgdapkbenmlabaaGreatDoor
open Go.RowKit Go.Maps
variable {ln : Lm}
end Go.Proofs.YtgdapkbenmlabaaGreatDoor
namespace Go.Proofs.YtgdapkbenmlabaaGreatDoor
open Go.RowKit Go.Maps
def setE (E : List En) (i : Nat) (e : En) : List En := if i < E.length then E.set i e else E ++ [e]
theorem setE_len (E : List En) (i : Nat) (e : En) (hi : i ≤ E.length) : (setE E i e).length = max E.length (i + 1) := by
 unfold setE
 split
 ·rw [List.length_set];omega
 ·rw [List.length_append, List.length_cons, List.length_nil];omega
theorem setE_get (E : List En) (i : Nat) (e : En) (hi : i ≤ E.length) (k : Nat) : (setE E i e)[k]? = if k = i then some e else E[k]? := by
 unfold setE
 split
 ·rename_i h
  rw [List.getElem?_set]
  by_cases hk : i = k
  ·subst hk;rw [if_pos rfl, if_pos h, if_pos rfl]
  ·rw [if_neg hk, if_neg (Ne.symm hk)]
 ·have : i = E.length := by omega
  subst this
  by_cases hk : k = E.length
  ·subst hk;rw [if_pos rfl, List.getElem?_append_right (Nat.le_refl _), Nat.sub_self];rfl
  ·rw [if_neg hk]
   by_cases hl : k < E.length
   ·rw [List.getElem?_append_left hl]
   ·rw [List.getElem?_eq_none (by simp; omega), List.getElem?_eq_none (by omega)]
theorem setE_mem {E : List En} {i : Nat} {e x : En} (hi : i ≤ E.length) (hx : x ∈ setE E i e) : x = e ∨ x ∈ E := by
 obtain ⟨k, hk⟩ := List.mem_iff_getElem?.1 hx;rw [setE_get E i e hi k] at hk
 by_cases h : k = i
 ·rw [if_pos h] at hk
  injection hk with hk
  exact .inl hk.symm
 ·rw [if_neg h] at hk;exact .inr (List.mem_of_getElem? hk)
structure Mv (B0 TB DA NB : Nat) (Y0 : Nat → Nat → Int) (n0 : Nat) (b0 : Nat → Nat) (Y : Nat → Nat → Int) (n : Nat) (b : Nat → Nat) : Prop where
 bb : ∀ c, ndS n0 c = true → ndS n c = true → b c = b0 c
 y : ∀ z, z ≠ B0 → z ≠ TB → (∀ c, ndS n0 c = true → z ≠ DA + (b0 c - 1)) → (∀ c, ndS n c = true → z ≠ DA + (b c - 1)) → Y z = Y0 z
 u : ∀ j, j < NB → (bt Y B0 j = true ↔ (bt Y0 B0 j = true ∧ ¬ ∃ c, ndS n0 c = true ∧ ndS n c = false ∧ b0 c = j + 1) ∨ ∃ c, ndS n c = true ∧ ndS n0 c = false ∧ b c = j + 1)
 fr : ∀ c, ndS n c = true → ndS n0 c = false → bt Y0 B0 (b c - 1) = false
def nbE (k : Nat) : Nat := (16 * k + 63) / 64
variable {ln : Lm}
theorem dwrite_in (q p t m d gg lab B0 P0 M DA NB N K TB : Nat) (g : Cf.Ge) (Y0 V : Nat → Nat → Int) (b0 : Nat → Nat) (L : List Nat) (D : Nat → Nat → Int) (hL : L.length ≤ 28) (num : Nat) (hTB : TB = P0 + (num - 1) / 2) (h1 : 1 ≤ num) (h2 : num ≤ M) (E : List En) (hD : Dir B0 DA NB Y0 (V num) b0 E) (hI : Tab P0 M Y0 V)
  (hK : K < 250000000) (hg : GG g B0 P0 M DA NB N) (w : World) (h : Gr w q p t m d gg lab g B0 NB N ⟨dl B0 TB DA b0 (ndS (nbE E.length)) L, D⟩ Y0 K) (i : Nat) (hi : i ≤ E.length) (hi2 : i < 1024) (e : En) (he : e = zE ∨ okE e) (hcL : ∀ j, j ≤ lenC (i / 4) → chS (i / 4) j ∈ L) (sb : Nat) (hF : Fl w sb 16 (pkF e)) (hsb : sb ∉ [t, m, d, gg]) :
  Calls Tryz.prog 71 #[.pointer (some ⟨q, 0, none⟩), .int .i64 num, .int .i64 ((16 * i : Nat) : Int), .slice (some ⟨sb, 0, none⟩) 16 16] w fun x w' =>
   (∃ (Y : Nat → Nat → Int) (f : Nat → Int) (B : Nat → Nat), x = .returned (.int .i64 0) ∧ Gr w' q p t m d gg lab g B0 NB N ⟨dl B0 TB DA B (ndS (nbE (setE E i e).length)) L, D⟩ Y (K + 25000) ∧ Kf w w' [t, m, d, gg] ∧ Tab P0 M Y (vput num f V) ∧ Dir B0 DA NB Y f B (setE E i e) ∧ Mv B0 TB DA NB Y0 (nbE E.length) b0 Y (nbE (setE E i e).length) B) ∨
   (∃ (Y : Nat → Nat → Int) (ln : Lm) (B : Nat → Nat) (n : Nat → Bool), x = .returned (.int .i64 10) ∧ ln.D = D ∧ Gr w' q p t m d gg lab g B0 NB N ln Y (K + 25000) ∧ Kf w w' [t, m, d, gg] ∧ (∀ j, j < NB → bt Y B0 j = true) ∧ (∀ c, n c = true → ndS (nbE (setE E i e).length) c = true) ∧ (∃ c, n c = false ∧ ndS (nbE (setE E i e).length) c = true)
    ∧ (∀ c, ndS (nbE E.length) c = true → n c = true ∧ B c = b0 c) ∧ (∀ j, j < NB → (bt Y B0 j = true ↔ bt Y0 B0 j = true ∨ ∃ c, n c = true ∧ ndS (nbE E.length) c = false ∧ B c = j + 1))) := by
 have hn := hD.n;have hk := hD.k;have hl := setE_len E i e hi
 have hm : max (16 * E.length) (16 * i + 16) = 16 * (setE E i e).length := by rw [hl]; omega
 have he2 : e.2 < 65536 := by
  rcases he with rfl | h
  ·decide
  ·exact h.2.1
 have hfu : Fu B0 DA NB Y0 (V num) (ndS ((16 * E.length + 63) / 64)) b0 := hD.fu
 have := fwrite_in q p t m d gg lab B0 P0 M DA NB N K TB g Y0 V b0 L D hL num hTB h1 h2 (by rw [hk]; decide) hD.l (16 * E.length) hD.s hfu hI (by omega) hg w h (16 * i) 16 (by omega) (by omega) (by omega) (by omega) (by
  rw [hm, hk]
  show mbl 2 ((16 * (setE E i e).length : Nat) : Int) = true
  unfold mbl;rw [if_neg (by decide), if_pos rfl, decide_eq_true (by omega), decide_eq_true (by omega)]
  rfl) (fun c hc1 hc2 j hj => by
  have : c = i / 4 := by omega
  rw [this] at hj ⊢
  exact hcL j hj) (.slice (some ⟨sb, 0, none⟩) 16 16) (pkF e) (fun j _ => pkF_bd e he2 j) (Src.made w sb 16 (pkF e) [t, m, d, gg] hF (by decide) hsb)
 rw [hm] at this;refine this.mono ?_;rintro x w' (⟨Y, f, B, rfl, hG, hkf, hT, hFu, hf0, hf1, -, hf3, hB, hy, hu, hfr, hct⟩ | ⟨Y, ln, B, n, rfl, hD', hG, hkf, hall, hn1, hn2, hB, -, -, hu, -⟩)
 ·refine .inl ⟨Y, f, B, rfl, hG, hkf, hT, ⟨by rw [hf0, hk], by rw [hf1]; exact hD.l, hf3, by rw [hl]; omega, hFu, fun x hx => ?_, fun j hj => ?_⟩, ⟨fun c h1 h2 => hB c h1, fun z z1 z2 _ z3 => hy z z1 z2 z3, fun j hj => ?_, hfr⟩⟩
  ·rcases setE_mem hi hx with rfl | hx
   ·exact he
   ·exact hD.ok x hx
  ·rw [hct j hj];unfold dirC;rw [setE_get E i e hi]
   by_cases hji : 16 * i ≤ j ∧ j < 16 * i + 16
   ·rw [if_pos hji, if_pos (show j / 16 = i by omega), show j - 16 * i = j % 16 by omega]
   ·rw [if_neg hji, if_neg (show ¬ j / 16 = i by omega)]
    by_cases hjn : j < 64 * ((16 * E.length + 63) / 64)
    ·rw [if_pos hjn];exact hD.ct j hjn
    ·rw [if_neg hjn, List.getElem?_eq_none (by omega)]
  ·have hle : ∀ c, ndS (nbE E.length) c = true → ndS (nbE (setE E i e).length) c = true := fun c hc => ndS_mono (by unfold nbE; rw [hl]; omega) c hc;rw [hu j hj]
   constructor
   ·rintro (h | h)
    ·exact .inl ⟨h, fun ⟨c, k1, k2, _⟩ => by rw [hle c k1] at k2; cases k2⟩
    ·exact .inr h
   ·rintro (⟨h, -⟩ | h)
    ·exact .inl h
    ·exact .inr h
 ·exact .inr ⟨Y, ln, B, n, rfl, hD', hG, hkf, hall, hn1, hn2, hB, hu⟩
theorem dcut_in (q p t m d gg lab B0 P0 M DA NB N K : Nat) (g : Cf.Ge) (Y0 V : Nat → Nat → Int) (b0 : Nat → Nat) (num : Nat) (h1 : 1 ≤ num) (h2 : num ≤ M) (E : List En) (hD : Dir B0 DA NB Y0 (V num) b0 E) (hI : Tab P0 M Y0 V) (hT0 : Has ln B0) (hTB : Has ln (P0 + (num - 1) / 2)) (hK : K < 200000000) (hg : GG g B0 P0 M DA NB N) (w : World) (h : Gr w q p t m d gg lab g B0 NB N ln Y0 K)
  (u : Nat) (hu : u ≤ E.length) (hT : 0 < u → ∀ i, i ≤ lenC (nbE u - 1) → Has ln (DA + (b0 (chS (nbE u - 1) i) - 1))) :
  Calls Tryz.prog 83 #[.pointer (some ⟨q, 0, none⟩), .int .i64 num, .int .i64 ((16 * u : Nat) : Int)] w fun x w' => ∃ (Y : Nat → Nat → Int) (f : Nat → Int), x = .returned (.int .i64 0) ∧ Gr w' q p t m d gg lab g B0 NB N ln Y (K + 11000) ∧ Kf w w' [t, m, d, gg] ∧ Tab P0 M Y (vput num f V) ∧ Dir B0 DA NB Y f b0 (E.take u) ∧ Mv B0 (P0 + (num - 1) / 2) DA NB Y0 (nbE E.length) b0 Y (nbE u) b0 := by
 have hn := hD.n;have hk := hD.k;have hfu : Fu B0 DA NB Y0 (V num) (ndS ((16 * E.length + 63) / 64)) b0 := hD.fu
 have hlen : (E.take u).length = u := by rw [List.length_take]; omega
 refine (fcut_in (ln := ln) q p t m d gg lab B0 P0 M DA NB N K g Y0 V b0 num h1 h2 (by rw [hk]; decide) hD.l (16 * E.length) hD.s (by omega) hfu hI hT0 hTB hK hg w h (16 * u) (by omega) (by
  rw [hk];unfold mbl;rw [if_neg (by decide), if_pos rfl, decide_eq_true (by omega), decide_eq_true (by omega)]
  rfl) (fun hh => hT (by omega)) (fun i hi1 hi2 => ?_)).mono ?_
 ·rw [hD.ct i hi2];unfold dirC;rw [List.getElem?_eq_none (by omega)]
 ·rintro x w' ⟨Y, f, rfl, hG, hkf, hTb, hFu, hf0, hf1, -, hf3, hy, hu2, hct⟩;refine ⟨Y, f, rfl, hG, hkf, hTb, ⟨by rw [hf0, hk], by rw [hf1]; exact hD.l, by rw [hlen]; exact hf3, by omega, by rw [hlen]; exact hFu, fun x hx => hD.ok x (List.mem_of_mem_take hx), fun i hi => ?_⟩, ⟨fun _ _ _ => rfl, fun z z1 z2 _ z3 => hy z z1 z2 z3, fun j hj => ?_, fun c k1 k2 => ?_⟩⟩
  ·rw [hlen] at hi;rw [hct i hi];unfold dirC
   by_cases hh : i < 16 * u
   ·rw [if_pos hh, List.getElem?_take_of_lt (by omega)];exact hD.ct i (by omega)
   ·rw [if_neg hh, List.getElem?_eq_none (by omega)]
  ·have hle : ∀ c, ndS (nbE u) c = true → ndS (nbE E.length) c = true := fun c hc => ndS_mono (by unfold nbE; omega) c hc;rw [hu2 j hj]
   constructor
   ·exact fun h => .inl h
   ·rintro (h | ⟨c, k1, k2, -⟩)
    ·exact h
    ·rw [hle c k1] at k2
     cases k2
  ·have := ndS_mono (n := nbE u) (n' := nbE E.length) (by unfold nbE; omega) c k1;rw [this] at k2
   cases k2
end Go.Proofs.YtgdapkbenmlabaaGreatDoor
namespace Go.Proofs.YtgdapkbenmlabaaGreatDoor
open Go.RowKit Go.Maps
def addC (E : List En) (x : En) : Int := if ¬ nameC x.1 = 0 then nameC x.1 else if x.2 = 0 then 27 else if E.any (mtE x.1) = true then 4 else 0
theorem addC_bad {E : List En} {x : En} (h : ¬ nameC x.1 = 0) : addC E x = nameC x.1 := if_pos h
theorem addC_num {E : List En} {x : En} (h : nameC x.1 = 0) (h2 : x.2 = 0) : addC E x = 27 := by unfold addC; rw [if_neg (by simpa using h), if_pos h2]
theorem addC_old {E : List En} {x : En} (h : nameC x.1 = 0) (h2 : ¬ x.2 = 0) (h3 : E.any (mtE x.1) = true) : addC E x = 4 := by unfold addC; rw [if_neg (by simpa using h), if_neg h2, if_pos h3]
theorem addC_ok {E : List En} {x : En} (h : nameC x.1 = 0) (h2 : ¬ x.2 = 0) (h3 : ∀ e ∈ E, mtE x.1 e = false) : addC E x = 0 := by
 unfold addC;rw [if_neg (by simpa using h), if_neg h2, if_neg];rw [List.any_eq_true];rintro ⟨e, he, hm⟩;rw [h3 e he] at hm
 cases hm
theorem nameC_size {s : ByteArray} (h : nameC s = 0) : s.size ≤ 14 := (nameC_ok h).2.1
variable {ln : Lm}
theorem dadd_any (q p t m d gg lab B0 P0 M DA NB N K : Nat) (g : Cf.Ge) (Y V : Nat → Nat → Int) (num : Nat) (h1 : 1 ≤ num) (h2 : num ≤ M) (b0 : Nat → Nat) (E : List En) (hD : Dir B0 DA NB Y (V num) b0 E) (hI : Tab P0 M Y V) (hK : K < 190000000) (hg : GG g B0 P0 M DA NB N) (w : World) (h : Gr w q p t m d gg lab g B0 NB N ln Y K) (x : En) (hx : x.2 < 65536) (Q : Int → World → Prop)
  (hW : nameC x.1 = 0 → ¬ x.2 = 0 → (∀ e ∈ E, mtE x.1 e = false) → ∀ i, isRoom E i → ∀ W sb, Gr W q p t m d gg lab g B0 NB N ln Y (K + 1001) → Kf w W [t, m, d, gg] → w.heap.size ≤ sb → Fl W sb 16 (pkF x) → Calls Tryz.prog 71 #[.pointer (some ⟨q, 0, none⟩), .int .i64 num, .int .i64 ((16 * i : Nat) : Int), .slice (some ⟨sb, 0, none⟩) 16 16] W fun r w' => ∃ c, r = .returned (.int .i64 c) ∧ Kf W w' [t, m, d, gg] ∧ Q c w') :
  Calls Tryz.prog 25 #[.pointer (some ⟨q, 0, none⟩), .int .i64 num, .agg (enc x).toArray] w fun r w' => ∃ c, r = .returned (.int .i64 c) ∧ ((¬ addC E x = 0 ∧ c = addC E x ∧ Gr w' q p t m d gg lab g B0 NB N ln Y (K + 1001) ∧ Kf w w' [t, m, d, gg]) ∨ (addC E x = 0 ∧ Q c w')) := by
 obtain ⟨xs, xn⟩ := x;obtain ⟨dE, hu, hd⟩ := Tryz.descEn;have HU := jh hu;have HDd := jh hd;have HOp := jh (fun W hW => dopen_in (ln := ln) q p t m d gg lab B0 P0 M DA NB N K g Y V num h1 h2 b0 E hD hI hK hg W hW);have HG0 := jh h;have hsm := smE_of hD.ok;have hl := hD.n
 have h0lt : ∀ a ∈ [q, p, t, m, d, gg], a < w.heap.size := fun a ha => by
  obtain ⟨l1, l2, l3, l4, l5, l6⟩ := h.lts;simp only [List.mem_cons, List.not_mem_nil, or_false] at ha
  rcases ha with rfl | rfl | rfl | rfl | rfl | rfl <;> assumption
 have H0 := jh h0lt;have HNm := jh (fun W => name_any xs W);have HFi := jh (fun bd base v W hV hO => find_any q num bd base v E hsm xs hl W hV hO);have HRo := jh (fun bd base v W hV hO => room_any q num bd base v E hsm hl W hV hO);have HWr := jh hW;have hxn : xn < 65536 := hx;have HL := jh hl
 obtain ⟨nc, hnc⟩ : ∃ z, nameC xs = z := ⟨_, rfl⟩
 rw [hnc] at HNm;have HNC := jh hnc;have HXn := jh hxn;clear hu hd h1 h2 hD hI hK hg h hsm hl h0lt hW hx hnc hxn
 go_enter Tryz.func25, Tryz.ntmps25
 go_wp2_with (first | (refine wpList_box_list (w := w) rfl 58 _ rfl (enc (xs, xn)) rfl ?_; intro w0 F0 hb0 hz0; have HQ0 := jh hb0; clear hb0 hz0))
 refine (HOp.out w0 (HG0.out.keep HQ0.out)).mono ?_;rintro e w1 ⟨bd, v, base, rfl, hbd, hbb, hV, hO, hG, hk⟩;have HV1 := jh hV;have HO1 := jh hO;have HG1 := jh hG;have HK1 := jh ((Kf.of_below HQ0.out [t, m, d, gg]).trans hk);have hbw : w.heap.size ≤ bd := Nat.le_trans HQ0.out.size hbd
 have HND : Hid (bd ∉ [t, m, d, gg]) := jh (fun ha => by
  have := H0.out bd (by simp only [List.mem_cons, List.not_mem_nil, or_false] at ha ⊢; omega)
  omega)
 have hk0 := hk;clear hV hO hG hk HOp hbd
 have F1 := jh (F0.out.kf hk0 (fun ha => by
  have := H0.out w.heap.size (by simp only [List.mem_cons, List.not_mem_nil, or_false] at ha ⊢; omega)
  omega))
 clear hk0;have c0 := F1.out.c 0 _ rfl
 go_wp2_with fail
 refine (HNm.out w1).mono ?_;rintro e wz ⟨rfl, hwz⟩;rw [hwz];clear hwz HNm
 by_cases hn0 : nc = 0
 ·subst hn0;have c1 := F1.out.c 1 _ rfl
  by_cases hx0 : (xn : Int) = 0
  ·have HA : Hid (addC E (xs, xn) = 27) := jh (addC_num HNC.out (by show xn = 0; omega))
   go_wp2_with fail
   go_ret
   exact ⟨27, rfl, .inl ⟨by rw [HA.out]; decide, HA.out.symm, HG1.out, HK1.out⟩⟩
  ·have HX0 : Hid (¬ xn = 0) := jh (by omega)
   go_wp2_with fail
   refine (HFi.out bd base v w1 HV1.out HO1.out).mono ?_;rintro r w2 ⟨hb, (⟨i, e, hie, hme, -, rfl⟩ | ⟨hno, rfl⟩)⟩
   ·have HA : Hid (addC E (xs, xn) = 4) := jh (addC_old HNC.out HX0.out (List.any_eq_true.2 ⟨e, List.mem_of_getElem? hie, hme⟩));have HG2 := jh (HG1.out.keep hb);have HK2 := jh (HK1.out.more hb);clear hb hie hme
    go_wp2_with fail
    go_ret
    exact ⟨4, rfl, .inl ⟨by rw [HA.out]; decide, HA.out.symm, HG2.out, HK2.out⟩⟩
   ·have HA : Hid (addC E (xs, xn) = 0) := jh (addC_ok HNC.out HX0.out hno);have HNo := jh hno;have HG2 := jh (HG1.out.keep hb);have HK2 := jh (HK1.out.more hb);have HV2 := jh (HV1.out.keep hb);have HO2 := jh (ownsRow_below HO1.out hb);have F2 := jh (F1.out.keep hb);clear hb hno c0 c1 HFi HG1 HK1 HV1 HO1 F1
    go_upto_region 12 with fail
    refine wp_region_held (S := fun W => Vl W w.heap.size (enc (xs, xn))) (by kernel_rfl) ?_;change wpAnyH _ _ _ _ _ _ _ _ (World.drew _);have hS0 : (fun W => Vl W w.heap.size (enc (xs, xn))) w2.drew := F2.out.keep (Below.refl _ _).drew;have hbd3 : Below w2.heap.size w2 w2.drew := (Below.refl _ _).drew;have HG3 := jh (HG2.out.keep hbd3);have HK3 := jh (HK2.out.more hbd3);have HV3 := jh (HV2.out.keep hbd3);have HO3 := jh (ownsRow_below HO2.out hbd3)
    obtain ⟨w3, hw3⟩ : ∃ x, World.drew w2 = x := ⟨_, rfl⟩
    rw [hw3] at hS0 HG3 HK3 HV3 HO3 ⊢;clear hw3 hbd3 HG2 HK2 HV2 HO2 F2;refine jk 0 (v:=?_) rfl (by kernel_rfl) (fun _ _ _=>id) (by rfl) ?_ hS0 ?_;rotate_left
    ·intro W hW;go_simp;try with_reducible rfl
    simp only [Act.put,j1,j2,j3,j4,j5,j6];refine jk 1 (v:=?_) rfl (by kernel_rfl) (fun _ _ _=>id) (by rfl) ?_ hS0 ?_;rotate_left
    ·intro W hW;go_simp;try with_reducible rfl
    simp only [Act.put,j1,j2,j3,j4,j5,j6];refine jx 3 (v := .agg (enc (xs, xn)).toArray) rfl (by kernel_rfl) (fun _ _ _=>id) ?_ hS0 ?_
    ·exact yieldsIf_load_mid (by rfl) 58 (.tmp 5) rfl w.heap.size 0 rfl (enc (xs, xn)) dE (fun W hW => hW.range0) HU.out HDd.out (sizeEn _)
    simp only [Act.put,j1,j2,j3,j4,j5,j6];refine wpAnyH_ready (rs := [2]) (by kernel_rfl) (by simp) (AllReadyH.cons rfl (fun KK hKK => ?_) AllReadyH.nil);go_simp;refine (HRo.out bd base v w3 HV3.out HO3.out).mono ?_;rintro r w4 ⟨hb, i, hi, rfl⟩;have HG4 := jh (HG3.out.keep hb);have HK4 := jh (HK3.out.more hb);have HV4 := jh (HV3.out.keep hb);have HRi := jh hi;have hi1 : i ≤ 1024 := Nat.le_trans hi.1 HL.out
    replace hS0 : (fun W => Vl W w.heap.size (enc (xs, xn))) w4 := hS0.keep hb
    clear hb hi HG3 HK3 HV3 HO3 HRo;refine hKK _ _ hS0 ?_;intro _;clear hKK KK
    try simp only [Act.put,j1,j2,j3,j4,j5,j6]
    refine wpAnyH_ready (rs := [4]) (by kernel_rfl) (by simp) (AllReadyH.cons rfl (fun KK hKK => ?_) AllReadyH.nil);go_simp;refine (put_any9 q num bd v (xs, xn) (nameC_size HNC.out) HXn.out i hi1 (fun c w' => Kf w4 w' [t, m, d, gg] ∧ Q c w') w4 HV4.out (fun W sb hbW hsb hF => ?_)).mono ?_
    ·refine (HWr.out HNC.out HX0.out HNo.out i HRi.out W sb (HG4.out.keep hbW) (HK4.out.more hbW) (Nat.le_trans HK4.out.size hsb) hF).mono ?_;rintro r w' ⟨c, rfl, hk, hq⟩;exact ⟨c, rfl, (HV4.out.keep hbW).kf hk HND.out, (Kf.of_below hbW _).trans hk, hq⟩
    rintro r w5 ⟨c, rfl, hk, hq⟩;have HQq := jh hq
    replace hS0 : (fun W => Vl W w.heap.size (enc (xs, xn))) w5 := hS0.kf hk (fun ha => by
     have := H0.out w.heap.size (by simp only [List.mem_cons, List.not_mem_nil, or_false] at ha ⊢; omega)
     omega)
    clear hk hq;refine hKK _ _ hS0 ?_;intro _;clear hKK KK
    try simp only [Act.put,j1,j2,j3,j4,j5,j6]
    refine jk 5 (v:=?_) rfl (by kernel_rfl) (fun _ _ _=>id) (by rfl) ?_ hS0 ?_;rotate_left
    ·intro W hW;go_simp;try with_reducible rfl
    simp only [Act.put,j1,j2,j3,j4,j5,j6];refine wpAnyH_done (by kernel_rfl) ?_ _;clear hS0
    go_wp2_with fail
    go_ret
    exact ⟨c, rfl, .inr ⟨HA.out, HQq.out⟩⟩
 ·have HA : Hid (addC E (xs, xn) = nc) := jh (by rw [addC_bad (by show ¬ nameC xs = 0; rw [HNC.out]; exact hn0)]; exact HNC.out);have HN0 := jh hn0
  go_wp2_with fail
  go_ret
  exact ⟨nc, rfl, .inl ⟨by rw [HA.out]; exact HN0.out, HA.out.symm, HG1.out, HK1.out⟩⟩
end Go.Proofs.YtgdapkbenmlabaaGreatDoor
