import Derived.Test.YtgdapkbenmlabaaGreatDoorC14
import Derived.Deep.DeepAppendRoom
import Derived.Laws.AppendOwnNone
/- Files: Write. -/
set_option linter.unusedSimpArgs false
set_option linter.unusedVariables false
set_option maxHeartbeats 40000000
set_option maxRecDepth 100000
namespace Go.Proofs.YtgdapkbenmlabaaGreatDoor
open Go.RowKit Go.Maps
def setZ (f : Nat → Int) (z : Int) : Nat → Int := fun i => if i = 3 then z else f i
theorem setZ_ok {f : Nat → Int} (h : NdOk f) {z : Int} (h0 : 0 ≤ z) (h1 : z < 4294967296) : NdOk (setZ f z) :=
 ⟨h.k, h.l, h.g, ⟨h0, h1⟩, fun i hi hi2 => by
  unfold setZ;rw [if_neg (by omega)]
  exact h.p i hi hi2⟩
theorem bdc_setZ (q : Nat) (f : Nat → Int) (z : Int) : (bdc q f).set (1 + 3) (.int .u32 z) = bdc q (setZ f z) := rfl
theorem Tab.same {P0 M : Nat} {Y V : Nat → Nat → Int} (h : Tab P0 M Y V) (n : Nat) (f : Nat → Int) (hf : NdOk f) (he : ∀ i, i < 12 → V n i = f i) : Tab P0 M Y (vput n f V) := fun k k1 k2 => by
 obtain ⟨g1, g2, g3⟩ := h k k1 k2
 by_cases e : n = k
 ·subst e;rw [vput_at];refine ⟨fun j hj => ?_, hf, by rw [← code_congr he]; exact g3⟩;rw [g1 j hj];unfold encF;have hz := fun i hi => he i hi
  by_cases a0 : j = 0
  ·rw [if_pos a0, if_pos a0]; exact he 0 (by omega)
  ·rw [if_neg a0, if_neg a0]
   by_cases a1 : j = 1
   ·rw [if_pos a1, if_pos a1]; exact he 1 (by omega)
   ·rw [if_neg a1, if_neg a1]
    by_cases a2 : j < 4
    ·rw [if_pos a2, if_pos a2, he 2 (by omega)]
    ·rw [if_neg a2, if_neg a2]
     by_cases a3 : j < 8
     ·rw [if_pos a3, if_pos a3, he 3 (by omega)]
     ·rw [if_neg a3, if_neg a3]
      by_cases a4 : j < 24
      ·rw [if_pos a4, if_pos a4, he _ (by omega)]
      ·rw [if_neg a4, if_neg a4]
 ·rw [vput_ne _ _ e];exact ⟨g1, g2, g3⟩
def Src (w : World) (v : Value) (n : Nat) (s : Nat → Int) (L : List Nat) : Prop := ∃ p cap, v = .slice p n cap ∧ n ≤ cap ∧ cap ≤ maxLen ∧ (0 < n → ∃ sb so, p = some ⟨sb, so, none⟩ ∧ Sb w sb so n s ∧ sb ∉ L)
theorem Vl.node {w : World} {b q : Nat} {f : Nat → Int} (h : Vl w b (bdc q f)) : w.rangeAt b 1 (ndc f) := fun j v hj => by
 rw [Nat.add_comm 1 j];exact h.c (j + 1) v hj
theorem Bo.start {w0 w : World} {b q p t m d gg lab B0 NB N K : Nat} {ln : Lm} {g : Cf.Ge} {Y : Nat → Nat → Int} {f : Nat → Int} (h0 : ∀ a ∈ [q, p, t, m, d, gg], a < w0.heap.size) (hb : w0.heap.size ≤ b) (hG : Gr w q p t m d gg lab g B0 NB N ln Y K) (hV : Vl w b (bdc q f)) : Bo w w b q p t m d gg lab g B0 NB N ln Y K f := by
 refine ⟨hG, hV, fun ha => ?_, Kf.refl _ _, fun a ha => ?_⟩
 ·have := h0 b ha;omega
 ·obtain ⟨l1, l2, l3, l4, l5, l6⟩ := hG.lts;have l7 := hV.lt;simp only [List.mem_cons, List.not_mem_nil, or_false] at ha
  rcases ha with rfl | rfl | rfl | rfl | rfl | rfl | rfl <;> assumption
theorem Src.kf {w w' : World} {v : Value} {n : Nat} {s : Nat → Int} {L L' : List Nat} (h : Src w v n s L) (hk : Kf w w' L') (hl' : ∀ a ∈ L', a ∈ L ∨ w.heap.size ≤ a) : Src w' v n s L := by
 obtain ⟨p, cap, h1, h2, h3, h4⟩ := h
 exact ⟨p, cap, h1, h2, h3, fun hn => by
  obtain ⟨sb, so, e, hs, hl⟩ := h4 hn
  exact ⟨sb, so, e, hs.kf hk fun ha => (hl' sb ha).elim hl (fun hh => by have := hs.lt; omega), hl⟩⟩
theorem Wx.lay {B0 DA NB : Nat} {Y0 Y Y1 : Nat → Nat → Int} {S0 S S1 : Nat → Bool} {b0 b b1 : Nat → Nat} (h : Wx B0 DA NB Y0 S0 b0 Y S b) (k : Ex B0 DA NB Y S b Y1 S1 b1) (rng : ∀ c, S1 c = true → 1 ≤ b1 c ∧ b1 c ≤ NB) : Wx B0 DA NB Y0 S0 b0 Y1 S1 b1 := by
 refine ⟨fun c' hc' => k.n c' (h.n c' hc'), fun c' hc' => (k.b c' (h.n c' hc')).trans (h.b c' hc'), fun z hz hf => ?_, fun j hj => ?_, fun c' hc' hn => ?_⟩
 ·rw [k.y z hz fun c' hc' _ => hf c' hc'];refine h.y z hz fun c' hc' => ?_;have := hf c' (k.n c' hc')
  rwa [k.b c' hc'] at this
 ·rw [k.u j hj, h.u j hj]
  constructor
  ·rintro ((h1 | ⟨c', h1, h2, h3⟩) | ⟨c', h1, h2, h3⟩)
   ·exact .inl h1
   ·exact .inr ⟨c', k.n c' h1, h2, (k.b c' h1).trans h3⟩
   ·refine .inr ⟨c', h1, ?_, h3⟩
    cases hh : S0 c'
    ·rfl
    ·rw [h.n c' hh] at h2
     cases h2
  ·rintro (h1 | ⟨c', h1, h2, h3⟩)
   ·exact .inl (.inl h1)
   ·cases hh : S c'
    ·exact .inr ⟨c', h1, hh, h3⟩
    ·exact .inl (.inr ⟨c', hh, h2, (k.b c' hh).symm.trans h3⟩)
 ·cases h1 : S c'
  ·have hf := k.fr c' hc' h1;have r := rng c' hc'
   cases hh : bt Y0 B0 (b1 c' - 1)
   ·rfl
   ·rw [(h.u (b1 c' - 1) (by omega)).2 (.inl hh)] at hf
    cases hf
  ·rw [k.b c' h1];exact h.fr c' h1 hn
theorem Fi.ptr {DA NB : Nat} {Y : Nat → Nat → Int} {f : Nat → Int} {S : Nat → Bool} {b : Nat → Nat} (h : Fi DA NB Y f S b) (hN : NB ≤ 512) (i : Nat) (h4 : 4 ≤ i) (h12 : i < 12) : 0 ≤ f i ∧ f i < 65536 := by
 obtain ⟨c, hc, rfl⟩ : ∃ c, isR c = true ∧ rtI c = i := by
  by_cases e : i < 10
  ·refine ⟨i - 4, (isR_iff _).2 (by omega), ?_⟩;unfold rtI;rw [if_neg (by omega), if_neg (by omega)];omega
  ·by_cases e2 : i = 10
   ·exact ⟨2000, rfl, by rw [e2]; rfl⟩
   ·have e3 : i = 11 := by omega
    exact ⟨2001, rfl, by rw [e3]; rfl⟩
 rw [h.root c hc]
 by_cases hs : b c = b c ∧ S c = true
 ·rw [if_pos hs.2];have := h.rng c hs.2;omega
 ·rw [if_neg (fun h => hs ⟨rfl, h⟩)];omega
theorem ndS_mono {n n' : Nat} (h : n ≤ n') (c : Nat) (hc : ndS n c = true) : ndS n' c = true := by
 rw [ndS_iff] at hc ⊢;omega
theorem fwrite_in (q p t m d gg lab B0 P0 M DA NB N K TB : Nat) (g : Cf.Ge) (Y0 V : Nat → Nat → Int) (b0 : Nat → Nat) (L : List Nat) (D : Nat → Nat → Int) (hL : L.length ≤ 28) (num : Nat) (hTB : TB = P0 + (num - 1) / 2) (h1 : 1 ≤ num) (h2 : num ≤ M) (hkd : ¬ V num 0 = 0) (hlk : 0 < V num 1) (sz : Nat) (hsz : V num 3 = sz)
  (hFu : Fu B0 DA NB Y0 (V num) (ndS ((sz + 63) / 64)) b0) (hI : Tab P0 M Y0 V) (hK : K < 260000000) (hg : GG g B0 P0 M DA NB N) (w : World) (h : Gr w q p t m d gg lab g B0 NB N ⟨dl B0 TB DA b0 (ndS ((sz + 63) / 64)) L, D⟩ Y0 K)
  (off len : Nat) (ho : off ≤ sz) (hl : len ≤ 1300) (hol : off + len ≤ 16384) (hsz2 : sz ≤ 16384) (hmb : mbl (V num 0) (max sz (off + len) : Nat) = true) (hcL : ∀ c, off / 64 ≤ c → 64 * c < off + len → ∀ i, i ≤ lenC c → chS c i ∈ L)
  (v : Value) (s : Nat → Int) (hs : ∀ j, j < len → 0 ≤ s j ∧ s j < 256) (hv : Src w v len s [t, m, d, gg]) :
  Calls Tryz.prog 71 #[.pointer (some ⟨q, 0, none⟩), .int .i64 num, .int .i64 off, v] w fun e w' =>
   (∃ (Y : Nat → Nat → Int) (f : Nat → Int) (B : Nat → Nat), e = .returned (.int .i64 0) ∧ Gr w' q p t m d gg lab g B0 NB N ⟨dl B0 TB DA B (ndS ((max sz (off + len) + 63) / 64)) L, D⟩ Y (K + 25000) ∧ Kf w w' [t, m, d, gg] ∧ Tab P0 M Y (vput num f V) ∧ Fu B0 DA NB Y f (ndS ((max sz (off + len) + 63) / 64)) B ∧ f 0 = V num 0 ∧ f 1 = V num 1 ∧ f 2 = V num 2 ∧ f 3 = (max sz (off + len) : Nat)
    ∧ (∀ c, ndS ((sz + 63) / 64) c = true → B c = b0 c) ∧ (∀ z, z ≠ B0 → z ≠ TB → (∀ c, ndS ((max sz (off + len) + 63) / 64) c = true → z ≠ DA + (B c - 1)) → Y z = Y0 z)
    ∧ (∀ j, j < NB → (bt Y B0 j = true ↔ bt Y0 B0 j = true ∨ ∃ c, ndS ((max sz (off + len) + 63) / 64) c = true ∧ ndS ((sz + 63) / 64) c = false ∧ B c = j + 1))
    ∧ (∀ c, ndS ((max sz (off + len) + 63) / 64) c = true → ndS ((sz + 63) / 64) c = false → bt Y0 B0 (B c - 1) = false)
    ∧ (∀ i, i < 64 * ((max sz (off + len) + 63) / 64) → ctF DA Y B i = if off ≤ i ∧ i < off + len then s (i - off) else if i < 64 * ((sz + 63) / 64) then ctF DA Y0 b0 i else 0)) ∨
   (∃ (Y : Nat → Nat → Int) (ln : Lm) (B : Nat → Nat) (n : Nat → Bool), e = .returned (.int .i64 10) ∧ ln.D = D ∧ Gr w' q p t m d gg lab g B0 NB N ln Y (K + 25000) ∧ Kf w w' [t, m, d, gg] ∧ (∀ j, j < NB → bt Y B0 j = true) ∧ (∀ c, n c = true → ndS ((max sz (off + len) + 63) / 64) c = true) ∧ (∃ c, n c = false ∧ ndS ((max sz (off + len) + 63) / 64) c = true)
    ∧ (∀ c, ndS ((sz + 63) / 64) c = true → n c = true ∧ B c = b0 c) ∧ (∀ c c', n c = true → n c' = true → B c = B c' → c = c') ∧ (∀ c, n c = true → 1 ≤ B c ∧ B c ≤ NB)
    ∧ (∀ j, j < NB → (bt Y B0 j = true ↔ bt Y0 B0 j = true ∨ ∃ c, n c = true ∧ ndS ((sz + 63) / 64) c = false ∧ B c = j + 1)) ∧ (∀ c, n c = true → ndS ((sz + 63) / 64) c = false → bt Y0 B0 (B c - 1) = false)) := by
 obtain ⟨n0, hn0⟩ : ∃ n0, (sz + 63) / 64 = n0 := ⟨_, rfl⟩
 obtain ⟨n1, hn1⟩ : ∃ n1, (max sz (off + len) + 63) / 64 = n1 := ⟨_, rfl⟩
 have hn01 : n0 ≤ 256 ∧ sz ≤ 64 * n0 ∧ n0 ≤ n1 ∧ n1 ≤ 256 := by omega
 have HN1 : Hid (max n0 ((off + len + 63) / 64) = n1) := jh (by omega);rw [hn0] at h hFu;rw [hn0, hn1];have HN0 := jh hn0;clear hn0 hn1;obtain ⟨d27, hu, hd⟩ := Tryz.desc27;have HU := jh hu;have HD := jh hd;have HO := jh (fopen_in (ln := ⟨dl B0 TB DA b0 (ndS n0) L, D⟩) q p t m d gg lab B0 P0 M DA NB N K g Y0 V num h1 h2 hkd (by omega) hI hg w h)
 obtain ⟨f0, hf⟩ : ∃ f, V num = f := ⟨_, rfl⟩
 rw [hf] at HO hsz hFu hmb hlk hkd ⊢
 have hNd : NdOk f0 := by rw [← hf]; exact (hI num h1 h2).2.1
 have HSz := jh (fun b q W hW => size_any b q f0 (by omega) (by omega) W hW);rw [hsz] at HSz;have HPUT := jh (fun b K' Y f S B hFu' o ho' hcL' sb so n' cap' s' hs' hn hn2 hK' W hW hsb hsn => put_any8 b q p t m d gg lab B0 P0 M DA NB N K' TB g Y f S B L D hL hFu' o ho' hcL' sb so n' cap' s' hs' hn hn2 hK' hg W hW hsb hsn);have HSET := jh (fun ln K' Y f hf' hc hT hK' W hW => gset_in (ln := ln) q p t m d gg lab B0 P0 M DA NB N K' g Y f hf' hc num h1 h2 hT hK' hg W hW);have HEQ := jh (fun f' hf' W => eq27 f' f0 hf' hNd W)
 have hD : B0 < DA := by have := hg.bp; have := hg.pd; omega
 have hTBl : P0 ≤ TB ∧ TB < DA := by have := hg.pd; omega
 have hB0P : B0 < P0 := hg.bp;have hN5 := hg.n512;have HI := jh hI;have HFu := jh hFu;have HMb := jh hmb;have Hlk := jh hlk;have HCL := jh hcL;have Hs := jh hs;have HV0 := jh hv;have HNd := jh hNd;have HF := jh hf;have HSZ := jh hsz;have HTB := jh hTB;have HNUM : Hid (1 ≤ num ∧ num ≤ M) := jh ⟨h1, h2⟩;have HG14 : Hid (P0 + (M + 1) / 2 ≤ DA) := jh hg.pd
 have h0lt : ∀ a ∈ [q, p, t, m, d, gg], a < w.heap.size := fun a ha => by
  obtain ⟨l1, l2, l3, l4, l5, l6⟩ := h.lts;simp only [List.mem_cons, List.not_mem_nil, or_false] at ha
  rcases ha with rfl | rfl | rfl | rfl | rfl | rfl <;> assumption
 have H0 := jh h0lt
 have hs0 : (0 : Int) ≤ sz := by omega
 have hs1 : (sz : Int) ≤ 16384 := by omega
 obtain ⟨zi, hzi⟩ : ∃ z : Int, (sz : Int) = z := ⟨_, rfl⟩
 rw [hzi] at HSz;have HZI := jh hzi
 have hz0 : 0 ≤ zi := by omega
 have hz1 : zi ≤ 16384 := by omega
 have ho0 : (0 : Int) ≤ off := by omega
 have hoz : (off : Int) ≤ zi := by omega
 have hll : (len : Int) ≤ 16384 - off := by omega
 have hl0 : (0 : Int) ≤ len := by omega
 have hl1 : (len : Int) ≤ 1300 := by omega
 have hmaxz : Hid (max sz (off + len) ≤ 16384) := jh (by omega);obtain ⟨pv, cap, rfl, hcap, hcm, -⟩ := hv;clear hu hd h1 h2 hkd hlk hsz hFu hI hg h hmb hcL hs hf hTB h0lt hNd hzi hs0 hs1;unfold maxLen at hcm
 go_enter Tryz.func71, Tryz.ntmps71
 go_wp2_with fail
 refine HO.out.mono ?_;rintro e w1 ⟨b, rfl, hb, hG, hVb, hk⟩;have HB1 := jh (Bo.start H0.out hb hG hVb);have HK1 := jh hk;have HV1 := jh (HV0.out.kf hk (fun a ha => .inl ha))
 have HSl : Hid (0 < len → ∃ sb so, pv = some ⟨sb, so, none⟩ ∧ sb < w.heap.size) := jh (fun hn => by
  obtain ⟨p', cap', e, -, -, h4⟩ := HV0.out;obtain ⟨sb, so, e2, hs2, hl2⟩ := h4 hn
  injection e with e3 e4 e5
  exact ⟨sb, so, e3.trans e2, hs2.lt⟩)
 have HS1 := jh (HSz.out b q w1 hVb);have hbw := hVb.lt;clear hG hVb hk HO HSz HV0;have h0' : decide ((off : Int) < 0) = false := decide_eq_false (by omega);have h0d : decide (zi < (off : Int)) = false := decide_eq_false (by omega);have h0e : decide (16384 - (off : Int) < (len : Int)) = false := decide_eq_false (by omega)
 go_wp2_with fail
 refine HS1.out.mono ?_;rintro e wz ⟨rfl, hwz⟩;rw [hwz];clear hwz HS1;have HR1 := jh HB1.out.bd.node
 go_upto_region 9 with (first | (refine wpList_load_mid rfl 77 _ rfl b 1 rfl (ndc f0) d27 HR1.out HU.out HD.out (size27 _) ?_) | (refine wpList_alloc_list (w := w1) rfl 77 rfl (ndc zpt) Tryz.zero27 ?_; intro w4 F4 hb4 hz4; simp only [Act.put,j1,j2,j3,j4,j5,j6]; refine wpList_store_list rfl 77 (.tmp 11) (.tmp 39) rfl w1.heap.size (ndc zpt) (ndc f0) rfl rfl F4.out rfl (size27 _) (ndc_one _) ?_; intro w5 F5 HK5; have HQ4 := jh hb4; clear hb4 F4))
 obtain ⟨bW, hbW⟩ : ∃ x, w1.heap.size = x := ⟨_, rfl⟩
 have hW0 : w1.heap.size ≤ bW := Nat.le_of_eq hbW;have HB5 := jh ((HB1.out.keep HQ4.out).new HK5.out (Nat.le_refl _))
 have HV5 : Hid (0 < len → ∃ sb so, pv = some ⟨sb, so, none⟩ ∧ Sb w5 sb so len s ∧ sb ∉ [t, m, d, gg, b]) := jh (fun hn => by
  obtain ⟨p', cap', e, -, -, h4⟩ := HV1.out;obtain ⟨sb, so, e2, hs2, hl2⟩ := h4 hn
  injection e with e3 e4 e5
  refine ⟨sb, so, e3.trans e2, (hs2.keep HQ4.out).kp HK5.out (by have := hs2.lt; omega), fun ha => ?_⟩;simp only [List.mem_cons, List.not_mem_nil, or_false] at ha hl2;obtain ⟨sb', so', e6, hsl⟩ := HSl.out hn;have e7 := e6.symm.trans (e3.trans e2)
  injection e7 with e8
  injection e8 with e9 e10
  omega)
 rw [hbW] at F5
 try rw [hbW]
 clear HK5 HQ4 HB1 hbW hz4 HR1 HV1;simp only [Act.put]
 go_loopw [2, 3, 12, 13] (fun x2 x3 _ _ wr => ∃ j o : Nat, j ≤ len ∧ Hid (off + j = o) ∧ x2 = .int .i64 o ∧ (∃ lj pj cj, Hid (len - j = lj) ∧ x3 = .slice pj lj cj ∧ lj ≤ cj ∧ cj ≤ 9223372036854775807 ∧ (0 < lj → ∃ sb so, pj = some ⟨sb, so, none⟩ ∧ Sb wr sb so lj (fun i => s (j + i)) ∧ sb ∉ [t, m, d, gg, b])) ∧ (∃ Y f B n k, Bo w1 wr b q p t m d gg lab g B0 NB N ⟨dl B0 TB DA B (ndS n) L, D⟩ Y (K + 1 + 1001 * k) f ∧ Fu B0 DA NB Y f (ndS n) B ∧ Wx B0 DA NB Y0 (ndS n0) b0 Y (ndS n) B ∧ (∀ i, i < 64 * n → i < 16384 → ctF DA Y B i = if off ≤ i ∧ i < off + j then s (i - off) else if i < 64 * n0 then ctF DA Y0 b0 i else 0) ∧ (∀ i, i < 4 → f i = f0 i) ∧ n = max n0 ((off + j + 63) / 64) ∧ k ≤ (off + j + 63) / 64 - off / 64 ∧ (j = 0 ∧ k = 0 ∨ (off + j) % 64 = 0 ∨ j = len)) ∧ Vl wr bW (ndc f0)) (fun x2 _ _ _ _ => off + len - (Go.RowKit.intOf x2).toNat)
 case atStart =>
  refine ⟨0, off, Nat.zero_le _, jh rfl, rfl, ⟨len, pv, cap, jh rfl, rfl, hcap, by omega, fun hn => ?_⟩, ⟨Y0, f0, b0, n0, 0, HB5.out, HFu.out, Wx.refl _ _ _ _ _ _, fun i h1 h2 => by rw [if_neg (by omega), if_pos h1], fun _ _ => rfl, by omega, Nat.zero_le _, .inl ⟨rfl, rfl⟩⟩, F5.out⟩;obtain ⟨sb, so, e1, e2, e3⟩ := HV5.out hn;refine ⟨sb, so, e1, ?_, e3⟩
  simpa using e2
 case round =>
  obtain ⟨j, o, hj, HOj, rfl, ⟨lj, pj, cj, HLj, rfl, hlc, hcj, hsrc⟩, ⟨Y, f, B, n, k, hB, hFu', hWx, hct, hf4, hn, hk, hj3⟩, hFw⟩ := hrel;have HSr := jh hsrc;have HBr := jh hB;have HFr := jh hFu';have HWr := jh hWx;have HCr := jh hct;have Hf4 := jh hf4;have HFw := jh hFw;have hoj := HOj.out;have hlj := HLj.out;have HNn := jh hn
  have hnb : n ≤ 256 ∧ o ≤ 64 * n := by omega
  have hk20 : k ≤ 22 := by omega
  clear hsrc hB hFu' hWx hct hf4 hFw hn HV5 HB5 F5
  by_cases hlt : 0 < lj
  ·obtain ⟨sb, so, rfl, hsb, hsn⟩ := HSr.out hlt
   have hjl : j < len := by omega
   have hPu := HPUT.out b (K + 1 + 1001 * k) Y f (ndS n) B HFr.out o (by omega) (HCL.out (o / 64) (by omega) (by omega)) sb so lj cj (fun i => s (j + i)) (fun i hi => Hs.out _ (by omega)) hlt (by omega) (by omega) wr HBr.out.self hsb hsn;have HSc1 := jh (ndS_grow n (o / 64) (by omega) (by omega));have hr : o % 64 < 64 := Nat.mod_lt _ (by decide)
   obtain ⟨mn, hmn⟩ : ∃ mn, Nat.min lj (64 - o % 64) = mn := ⟨_, rfl⟩
   have hmn1 : mn ≤ lj ∧ mn ≤ 64 - o % 64 ∧ 0 < mn ∧ (mn = lj ∨ mn = 64 - o % 64) := by
    have : Nat.min lj (64 - o % 64) = min lj (64 - o % 64) := rfl;omega
   rw [hmn] at hPu;have HPu := jh hPu;have HSb := jh hsb;have HSn := jh hsn
   have hl0' : (0 : Int) < lj := by omega
   have hm0 : (0 : Int) ≤ mn := by omega
   have hm1 : (mn : Int) ≤ lj := by omega
   have hm2 : (mn : Int) ≤ 64 := by omega
   have hoi0 : (0 : Int) ≤ o := by omega
   have hoi1 : (o : Int) ≤ 16384 := by omega
   clear hPu hsb hsn hmn hoj hlj
   go_wp2_with fail
   refine HPu.out.mono ?_;rintro e w6 (⟨Y1, f1, S1, B1, rfl, hB6, hLy, hSc, hf41⟩ | ⟨Y1, f1, S1, B1, rfl, hB6, hLy, hSc, hall, hno⟩)
   ·have HB6 := jh (HBr.out.trans hB6);have HLy := jh hLy;have HSc := jh hSc;have Hf41 := jh hf41
    have hwn : bW ∉ [t, m, d, gg, b] := fun ha => by
     have := HBr.out.nin hW0;simp only [List.mem_cons, List.not_mem_nil, or_false, not_or] at this ha;omega
    have HSb6 := jh (HSb.out.kf hB6.kf HSn.out);have HFw6 := jh (HFw.out.kf hB6.kf hwn);clear hB6 hLy hSc hf41 hwn HPu HBr HFw
    have HSt : Hid (∃ Y f B n k, Bo w1 w6 b q p t m d gg lab g B0 NB N ⟨dl B0 TB DA B (ndS n) L, D⟩ Y (K + 1 + 1001 * k) f ∧ Fu B0 DA NB Y f (ndS n) B ∧ Wx B0 DA NB Y0 (ndS n0) b0 Y (ndS n) B ∧ (∀ i, i < 64 * n → i < 16384 → ctF DA Y B i = if off ≤ i ∧ i < off + (j + mn) then s (i - off) else if i < 64 * n0 then ctF DA Y0 b0 i else 0) ∧ (∀ i, i < 4 → f i = f0 i) ∧ n = max n0 ((off + (j + mn) + 63) / 64) ∧ k ≤ (off + (j + mn) + 63) / 64 - off / 64 ∧ (j + mn = 0 ∧ k = 0 ∨ (off + (j + mn)) % 64 = 0 ∨ j + mn = len)) := by
     have hoj := HOj.out;have hnn2 := HNn.out;have hS1 : S1 = ndS (max n (o / 64 + 1)) := HSc1.out S1 HSc.out
     have hcS : S1 (o / 64) = true := by
      rw [hS1, ndS_iff];omega
     have hst := Wx.step hD hN5 HWr.out HLy.out.ex HLy.out.fu (o / 64) hcS (by omega) (upd (Y1 (DA + (B1 (o / 64) - 1))) (o % 64) mn (fun i => s (j + i)));have hcc := ct_step hD n HLy.out.ex HLy.out.fu off j mn s (by omega) (by rw [hoj]; exact hS1) (by omega) (by omega) (fun i => if i < 64 * n0 then ctF DA Y0 b0 i else 0) (fun i hi => if_neg (by omega)) HCr.out;rw [hoj] at hcc;have hB := HB6.out;rw [hS1] at hst hB;have hlj := HLj.out;refine jh ⟨_, f1, B1, max n (o / 64 + 1), k + 1, hB.mono (Lm.le_refl _) (by omega), hst.2, hst.1, hcc, fun i hi => (Hf41.out i hi).trans (Hf4.out i hi), ?_, ?_, ?_⟩
     ·have := HNn.out;omega
     ·omega
     ·omega
    have hlj := HLj.out;have hoj := HOj.out
    by_cases hcc : cj = mn
    ·have HCC := jh hcc
     go_wp2_with fail
     go_roundw
     case rel =>
      refine ⟨j + mn, o + mn, by omega, jh (by omega), by go_num, ⟨lj - mn, _, _, jh (by omega), rfl, by omega, by omega, fun hh => by omega⟩, HSt.out, HFw6.out⟩
     case measure => simp [Go.RowKit.intOf]; omega
    ·go_wp2_with fail
     go_roundw
     case rel =>
      refine ⟨j + mn, o + mn, by omega, jh (by omega), by go_num, ⟨lj - mn, _, _, jh (by omega), rfl, by omega, by omega, fun hh => ⟨sb, so + mn, rfl, ?_, HSn.out⟩⟩, HSt.out, HFw6.out⟩;have := HSb6.out.drop mn
      simpa [Nat.add_assoc] using this
     case measure => simp [Go.RowKit.intOf]; omega
   ·have hB7 := HBr.out.trans hB6;have hj2 := HOj.out;have hlj := HLj.out;have hn2 := HNn.out
    have hle : n ≤ n1 ∧ o / 64 + 1 ≤ n1 := by
     have := HN1.out;omega
    have hWx := HWr.out.lay hLy.ex hLy.fu.fi.rng
    have hch : ∀ i, i ≤ lenC (o / 64) → ndS n1 (chS (o / 64) i) = true := fun i hi => by
     have := (chS_cases (o / 64) (by omega) (chS (o / 64) i)).1 ⟨i, hi, rfl⟩;rw [ndS_iff];omega
    have HE : Hid (Gr w6 q p t m d gg lab g B0 NB N ⟨dl B0 TB DA B1 S1 L, D⟩ Y1 (K + 25000) ∧ Kf w w6 [t, m, d, gg] ∧ (∀ j, j < NB → bt Y1 B0 j = true) ∧ (∀ c, S1 c = true → ndS n1 c = true) ∧ (∃ c, S1 c = false ∧ ndS n1 c = true)
      ∧ (∀ c, ndS n0 c = true → S1 c = true ∧ B1 c = b0 c) ∧ (∀ c c', S1 c = true → S1 c' = true → B1 c = B1 c' → c = c') ∧ (∀ c, S1 c = true → 1 ≤ B1 c ∧ B1 c ≤ NB)
      ∧ (∀ j, j < NB → (bt Y1 B0 j = true ↔ bt Y0 B0 j = true ∨ ∃ c, S1 c = true ∧ ndS n0 c = false ∧ B1 c = j + 1)) ∧ (∀ c, S1 c = true → ndS n0 c = false → bt Y0 B0 (B1 c - 1) = false)) := by
     obtain ⟨i, hi, hno'⟩ := hno;refine jh ⟨hB7.gr.mono (Lm.le_refl _) (by omega), HK1.out.join hB7.kf (fun a ha => ?_), hall, fun c hc => ?_, ⟨_, hno', hch i hi⟩, fun c hc => ⟨hWx.n c hc, hWx.b c hc⟩, hLy.fu.fi.inj, hLy.fu.fi.rng, hWx.u, hWx.fr⟩
     ·simp only [List.mem_cons, List.not_mem_nil, or_false] at ha ⊢;omega
     ·rcases hSc c hc with h | ⟨i, hi, rfl⟩
      ·exact ndS_mono hle.1 c h
      ·exact hch i hi
    clear hB7 hWx hch hle hno hall hSc hLy hB6 hj2 hlj hn2 HPu HBr
    go_wp2_with fail
    go_ret
    exact .inr ⟨Y1, _, B1, S1, rfl, rfl, HE.out⟩
  ·obtain rfl : lj = 0 := by omega
   have c4 := HBr.out.bd.c 4 _ rfl;have z4 := HBr.out.bd.z 4 (by show 4 < 13; decide)
   have hf3 : f 3 = zi := by rw [Hf4.out 3 (by decide), HSZ.out]; exact HZI.out
   rw [hf3] at c4
   have hoi0 : (0 : Int) ≤ o := by omega
   have hoi1 : (o : Int) ≤ 16384 := by omega
   obtain ⟨oi, hoi⟩ : ∃ z : Int, (o : Int) = z := ⟨_, rfl⟩
   rw [hoi] at hoi0 hoi1 ⊢;have HOI := jh hoi;have HF3 := jh hf3;clear hf3 hoi hoj hlj hj3 hnb hk20
   obtain ⟨mx, hmx⟩ : ∃ z, max zi oi = z := ⟨_, rfl⟩
   have hmx0 : 0 ≤ mx ∧ mx ≤ 16384 := by omega
   go_upto_region 16 with fail
   try rw [hmx]
   have HB6 := jh (HBr.out.set 3 (by decide) (.int .u32 mx) (setZ f mx) (bdc_setZ q f mx));have hk6 : Kp wr (wr.setCell ⟨b, 1 + 3, none⟩ (.int .u32 mx)) b b := (Kp.refl wr b b).setA (1 + 3) _
   have hne : bW ≠ b := fun e => by
    have := HBr.out.nin hW0;simp only [List.mem_cons, List.not_mem_nil, or_false, not_or] at this;omega
   have HFw6 := jh (HFw.out.kp hk6 hne hne)
   obtain ⟨w6, hw6⟩ : ∃ x, wr.setCell ⟨b, 1 + 3, none⟩ (.int .u32 mx) = x := ⟨_, rfl⟩
   have hw6' : wr.setCell ⟨b, 4, none⟩ (.int .u32 mx) = w6 := hw6;rw [hw6] at HB6 HFw6
   try rw [hw6']
   clear hw6 hw6' hk6 HBr HFw c4 z4 hne;have HMX := jh hmx
   obtain ⟨f6, hf6⟩ : ∃ f', setZ f mx = f' := ⟨_, rfl⟩
   have HF6 : Hid (f6 0 = f0 0 ∧ f6 1 = f0 1 ∧ f6 2 = f0 2 ∧ f6 3 = mx ∧ ∀ i, 4 ≤ i → f6 i = f i) := jh (by
    rw [← hf6];refine ⟨Hf4.out 0 (by decide), Hf4.out 1 (by decide), Hf4.out 2 (by decide), rfl, fun i hi => ?_⟩
    show (if i = 3 then mx else f i) = f i
    rw [if_neg (by omega)])
   rw [hf6] at HB6;clear hf6 hmx
   have hNd6 : NdOk f6 := by
    obtain ⟨e0, e1, e2, e3, e4⟩ := HF6.out;refine ⟨by rw [e0]; exact HNd.out.k, by rw [e1]; exact HNd.out.l, by rw [e2]; exact HNd.out.g, by rw [e3]; omega, fun i hi hi2 => ?_⟩;rw [e4 i hi];exact HFr.out.fi.ptr hN5 i hi hi2
   have HNd6 := jh hNd6;have hEq := HEQ.out f6 hNd6
   obtain ⟨eb, heb⟩ : ∃ b, eqb 12 f6 f0 = b := ⟨_, rfl⟩
   rw [heb] at hEq;have HEb := jh heb;have HEq := jh hEq;clear hNd6 hEq heb HEQ;have HRn := jh HB6.out.bd.node;refine wp_region_held (S := fun W => W.rangeAt b 1 (ndc f6) ∧ W.rangeAt bW 0 (ndc f0)) (by kernel_rfl) ?_;change wpAnyH _ _ _ _ _ _ _ _ (World.drew _)
   have hS0 : (fun W => W.rangeAt b 1 (ndc f6) ∧ W.rangeAt bW 0 (ndc f0)) w6.drew := ⟨(HB6.out.keep (Below.refl _ _).drew).bd.node, (HFw6.out.keep (Below.refl _ _).drew).range0⟩
   have HB7 := jh (HB6.out.keep (Below.refl _ _).drew)
   obtain ⟨w7, hw7⟩ : ∃ x, World.drew w6 = x := ⟨_, rfl⟩
   rw [hw7] at hS0 HB7 ⊢;clear hw7;refine jk 0 (v:=?_) rfl (by kernel_rfl) (fun _ _ _=>id) (by rfl) ?_ hS0 ?_;rotate_left
   ·intro W hW;go_simp;try with_reducible rfl
   simp only [Act.put,j1,j2,j3,j4,j5,j6];refine jk 1 (v:=?_) rfl (by kernel_rfl) (fun _ _ _=>id) (by rfl) ?_ hS0 ?_;rotate_left
   ·intro W hW;go_simp;try with_reducible rfl
   simp only [Act.put,j1,j2,j3,j4,j5,j6];refine jk 2 (v:=?_) rfl (by kernel_rfl) (fun _ _ _=>id) (by rfl) ?_ hS0 ?_;rotate_left
   ·intro W hW;go_simp;try with_reducible rfl
   simp only [Act.put,j1,j2,j3,j4,j5,j6];refine jx 3 (v := .agg (ndc f6).toArray) rfl (by kernel_rfl) (fun _ _ _=>id) ?_ hS0 ?_
   ·exact yieldsIf_load_mid (by rfl) 77 (.tmp 73) rfl b 1 rfl (ndc f6) d27 (fun W hW => hW.1) HU.out HD.out (size27 _)
   simp only [Act.put,j1,j2,j3,j4,j5,j6];refine jx 4 (v := .agg (ndc f0).toArray) rfl (by kernel_rfl) (fun _ _ _=>id) ?_ hS0 ?_
   ·exact yieldsIf_load_mid (by rfl) 77 (.tmp 11) rfl bW 0 rfl (ndc f0) d27 (fun W hW => hW.2) HU.out HD.out (size27 _)
   simp only [Act.put,j1,j2,j3,j4,j5,j6];refine jx 5 (v := .bool eb) rfl (by kernel_rfl) (fun _ _ _=>id) ?_ hS0 ?_
   ·exact yields_eql (by rfl) 77 77 (.tmp 74) (.tmp 75) rfl (ndc f6).toArray (ndc f0).toArray rfl rfl eb Tryz.guard27 (fun W _ => HEq.out W)
   simp only [Act.put,j1,j2,j3,j4,j5,j6];refine wpAnyH_done (by kernel_rfl) ?_ _;clear hS0 HRn;have hoj := HOj.out;have hlj := HLj.out
   have hjj : j = len := by omega
   have hnn : n = n1 := by rw [HNn.out, hjj]; exact HN1.out
   have hn7 : k ≤ 22 := by
    subst hjj;omega
   have hB7 := HB7.out;have hFr := HFr.out;have hWr := HWr.out;have hCr := HCr.out;rw [hnn] at hB7 hFr hWr hCr;rw [hjj] at hCr;have HB8 := jh hB7;have HCr8 := jh hCr;have HWr8 := jh hWr
   have hFi8 : Fi DA NB Y f6 (ndS n1) B := by
    obtain ⟨-, -, -, -, e4⟩ := HF6.out;refine ⟨hFr.fi.ok, fun c hc => ?_, hFr.fi.wrd, hFr.fi.cl, hFr.fi.rng, hFr.fi.inj⟩;rw [e4 _ (rtI_lt c hc).1];exact hFr.fi.root c hc
   have HFu8 : Hid (Fu B0 DA NB Y f6 (ndS n1) B) := jh ⟨hFi8, hFr.us⟩
   have HKf : ∀ W, Kf w1 W [t, m, d, gg, b] → Kf w W [t, m, d, gg] := fun W hk => HK1.out.join hk (fun a ha => by
    simp only [List.mem_cons, List.not_mem_nil, or_false] at ha ⊢
    omega)
   have HKf := jh HKf
   have hmx3 : Hid (mx = ((max sz (off + len) : Nat) : Int)) := jh (by
    have := HMX.out;have := HOI.out;have := HZI.out;rw [hjj] at hoj
    omega)
   have hTab : Tab P0 M Y V := HI.out.congr fun x hx1 hx2 => hWr.y x (by omega) fun c hc => by
    have := hFr.fi.rng c hc;have := HG14.out;omega
   have HTab := jh hTab
   have hcode : codeN f6 = 0 := by
    obtain ⟨e0, e1, -, e3, -⟩ := HF6.out;refine code_of (by rw [e1]; exact Hlk.out) ?_;rw [e0, e3, hmx3.out];exact HMb.out
   have HCode := jh hcode;have HTl : Hid (∀ z, z ≠ B0 → (∀ c, ndS n1 c = true → z ≠ DA + (B c - 1)) → Y z = Y0 z) := jh hWr.y
   have HLast : Hid (f6 0 = f0 0 ∧ f6 1 = f0 1 ∧ f6 2 = f0 2 ∧ f6 3 = ((max sz (off + len) : Nat) : Int)) := jh (by
    obtain ⟨e0, e1, e2, e3, -⟩ := HF6.out
    exact ⟨e0, e1, e2, e3.trans hmx3.out⟩)
   have HCt : Hid (∀ i, i < 64 * n1 → ctF DA Y B i = if off ≤ i ∧ i < off + len then s (i - off) else if i < 64 * n0 then ctF DA Y0 b0 i else 0) := jh (fun i hi => hCr i hi (by omega));clear hoj hlj hjj hnn hB7 hFr hWr hCr hFi8 hTab hcode HFr HWr HCr HB6 HB7 HFw6 HNn HEq
   cases eb
   ·have HRn := jh HB8.out.bd.node;have HSe := jh (HSET.out ⟨dl B0 TB DA B (ndS n1) L, D⟩ (K + 1 + 1001 * k) Y f6 HNd6.out HCode.out ⟨by rw [← HTB.out]; exact List.mem_cons_of_mem _ (List.mem_cons_self ..), Ly.len L hL B0 TB DA B (ndS n1)⟩ (by omega) w7 HB8.out.gr)
    go_wp2_with (refine wpList_load_mid rfl 77 _ rfl b 1 rfl (ndc f6) d27 HRn.out HU.out HD.out (size27 _) ?_)
    refine HSe.out.mono ?_;rintro e w8 ⟨rfl, hG, hkk⟩;have HG8 := jh hG;have HK8 := jh ((HKf.out w7 HB8.out.kf).trans hkk);clear hG hkk HSe
    go_wp2_with fail
    go_ret
    have hTz : ∀ z, z ≠ TB → tabW P0 num f6 Y z = Y z := fun z hz => tabW_ne P0 num f6 Y z (by rw [← HTB.out]; exact hz)
    have hbt : ∀ j, j < NB → bt (tabW P0 num f6 Y) B0 j = bt Y B0 j := fun j hj => by
     unfold bt;rw [hTz _ (by omega)]
    have hdt : ∀ c, ndS n1 c = true → tabW P0 num f6 Y (DA + (B c - 1)) = Y (DA + (B c - 1)) := fun c hc => hTz _ (by omega);refine .inl ⟨_, f6, B, rfl, HG8.out.mono (Lm.le_refl _) (by omega), HK8.out, ?_, ⟨HFu8.out.fi.congr fun c hc _ => hdt c hc, fun c hc => ?_⟩, HLast.out.1, HLast.out.2.1, HLast.out.2.2.1, HLast.out.2.2.2, fun c hc => HWr8.out.b c hc, fun z hz hz2 hz3 => ?_, fun j hj => ?_, HWr8.out.fr, fun i hi => ?_⟩
    ·have := HTab.out.wr num HNUM.out.1 HNUM.out.2 f6 HNd6.out HCode.out;exact this
    ·have := HFu8.out.fi.rng c hc;rw [hbt _ (by omega)];exact HFu8.out.us c hc
    ·rw [hTz z hz2];exact HTl.out z hz hz3
    ·rw [hbt j hj];exact HWr8.out.u j hj
    ·rw [← HCt.out i hi];unfold ctF;rw [hdt _ ((ndS_iff _ _).2 (by omega))]
   ·go_wp2_with fail
    go_ret
    refine .inl ⟨Y, f6, B, rfl, HB8.out.gr.mono (Lm.le_refl _) (by omega), HKf.out w7 HB8.out.kf, ?_, HFu8.out, HLast.out.1, HLast.out.2.1, HLast.out.2.2.1, HLast.out.2.2.2, fun c hc => HWr8.out.b c hc, fun z hz _ hz3 => HTl.out z hz hz3, HWr8.out.u, HWr8.out.fr, HCt.out⟩;refine HTab.out.same num f6 HNd6.out fun i hi => ?_;rw [HF.out];exact ((eqb_iff 12 f6 f0).1 HEb.out i hi).symm
end Go.Proofs.YtgdapkbenmlabaaGreatDoor
namespace Go.Proofs.YtgdapkbenmlabaaGreatDoor
open Go.RowKit Go.Maps
variable {ln : Lm}
theorem ownsRow_kf {w w' : World} {L : List Nat} {base : Nat} {e : TypeId} {size n g c : Nat} {xs : List Value} (h : w.ownsRow base e size (.slice (some ⟨g, 0, none⟩) n c) n xs) (hk : Kf w w' L) (hg : g ∉ L) : w'.ownsRow base e size (.slice (some ⟨g, 0, none⟩) n c) n xs := by
 refine ⟨h.1, ?_⟩;rcases h.2 with hn | ⟨g', cap, cur, hv, hb, hgg, rest⟩
 ·exact .inl hn
 ·refine .inr ⟨g', cap, cur, hv, hb, ?_, rest⟩
  injection hv with h1 h2 h3
  injection h1 with h4
  injection h4 with h5
  subst h5;rw [hk.block g (Array.getElem?_eq_some_iff.1 hgg).1 hg];exact hgg
theorem ownsRow_kp {w w' : World} {x base : Nat} {e : TypeId} {size n g c : Nat} {xs : List Value} (h : w.ownsRow base e size (.slice (some ⟨g, 0, none⟩) n c) n xs) (hk : Kp w w' x x) (hg : g ≠ x) : w'.ownsRow base e size (.slice (some ⟨g, 0, none⟩) n c) n xs :=
 ownsRow_kf h (Kf.of_kp hk (L := [x]) (by simp) (by simp)) (by simpa using hg)
theorem Kp.of_grown {w w' : World} {g : Nat} (h : w.grownBy w' (some g)) : Kp w w' g g :=
 ⟨h.os, h.tape, h.output, h.size, fun k hk h1 _ => h.block k hk (by simpa using h1)⟩
theorem ownsRow_lt {w : World} {base : Nat} {e : TypeId} {size n g c : Nat} {xs : List Value} (h : w.ownsRow base e size (.slice (some ⟨g, 0, none⟩) n c) n xs) : base ≤ g ∧ g < w.heap.size := World.ownsRow.lt h g rfl
theorem fl_of_owns {w : World} {base n g c : Nat} {F : Nat → Int} (h : w.ownsRow base 5 1 (.slice (some ⟨g, 0, none⟩) n c) n (byts n F)) : Fl w g n F :=
 ⟨(ownsRow_lt h).2, fun j hj => by
  rw [World.ownsRow.cellAt h j (by omega)]
  exact byts_get F hj, fun j _ => World.ownsRow.frozenAt h j⟩
theorem Tryz.info5i : ∃ i, Tryz.prog.info? 5 = some i ∧ i.zero = some (.int .u8 0) ∧ i.size = 1 ∧ i.bytes = 1 := by
 have h : (Tryz.prog.info? 5).map (fun i => (i.zero, i.size, i.bytes)) = some (some (.int .u8 0), 1, 1) := by kernel_rfl
 obtain ⟨i, hi, he⟩ := Option.map_eq_some_iff.1 h;simp only [Prod.mk.injEq] at he;exact ⟨i, hi, he.1, he.2.1, he.2.2⟩
theorem run_make8 (w : World) (c : Nat) (hc : c ≤ 65536) : (Instr.makeSlice 27 (.int .i64 0) (.int .i64 (c : Int))).run Tryz.prog w = .ok (.slice (some ⟨w.heap.size, 0, none⟩) 0 c) (w.alloc (.cells (madeCells #[.int .u8 0] c) 5)) := by
 obtain ⟨i, hi, hz, hs, hb⟩ := Tryz.info5i;have := run_make (P := Tryz.prog) w 27 5 i _ (by kernel_rfl) hi hz .i64 .i64 0 c (by omega) (by omega) (by rw [hb]; omega) (by omega);simp only [hs, Int.toNat_natCast, Int.toNat_zero, Nat.mul_one] at this;exact this
theorem fread_in (q p t m d gg lab B0 P0 M DA NB N K : Nat) (g : Cf.Ge) (Y V : Nat → Nat → Int) (num : Nat) (h1 : 1 ≤ num) (h2 : num ≤ M) (hkd : ¬ V num 0 = 0) (sz : Nat) (hsz : V num 3 = sz) (hsz2 : sz ≤ 16384) (b0 : Nat → Nat) (S0 : Nat → Bool)
  (hFu : Fi DA NB Y (V num) S0 b0) (hS0 : ∀ c, 64 * c < sz → S0 c = true) (hI : Tab P0 M Y V) (hK : K < 200000000) (hg : GG g B0 P0 M DA NB N) (w : World) (h : Gr w q p t m d gg lab g B0 NB N ln Y K)
  (off : Nat) (ho : off ≤ 100000) (mi : Int) (m0 : 0 ≤ mi) (m1 : mi < 9223372036854775808) (cnt : Nat) (hcnt : (cnt : Int) = min mi (max ((sz : Int) - off) 0)) :
  Calls Tryz.prog 120 #[.pointer (some ⟨q, 0, none⟩), .int .i64 num, .int .i64 off, .int .i64 mi] w fun e w' => ∃ bR, e = .returned (.tuple #[.slice (some ⟨bR, 0, none⟩) cnt cnt, .int .i64 0]) ∧ w.heap.size ≤ bR ∧ Fl w' bR cnt (fun i => ctF DA Y b0 (off + i)) ∧ Gr w' q p t m d gg lab g B0 NB N ln Y (K + 1000) ∧ Kf w w' [t, m, d, gg] := by
 obtain ⟨i5, hi5, hz5, hs5, hb5⟩ := Tryz.info5i;have HI5 := jh hi5;have HS5 := jh hs5;have HO := jh (fopen_in (ln := ln) q p t m d gg lab B0 P0 M DA NB N K g Y V num h1 h2 hkd (by omega) hI hg w h)
 obtain ⟨f0, hf⟩ : ∃ f, V num = f := ⟨_, rfl⟩
 rw [hf] at HO hsz hFu;have HSz := jh (fun b q W hW => size_any b q f0 (by omega) (by omega) W hW);rw [hsz] at HSz;have HRD := jh (fun b K' o ho' hS hK' W hW => read_slot (ln := ln) b q p t m d gg lab B0 P0 M DA NB N K' g Y f0 S0 b0 hFu o ho' hS hK' hg W hW);have HFi := jh hFu;have HS0 := jh hS0
 have h0lt : ∀ a ∈ [q, p, t, m, d, gg], a < w.heap.size := fun a ha => by
  obtain ⟨l1, l2, l3, l4, l5, l6⟩ := h.lts;simp only [List.mem_cons, List.not_mem_nil, or_false] at ha
  rcases ha with rfl | rfl | rfl | rfl | rfl | rfl <;> assumption
 have H0 := jh h0lt
 have hcs : cnt ≤ 16384 ∧ (cnt = 0 ∨ off + cnt ≤ sz) := by omega
 have HCN := jh hcnt
 obtain ⟨zi, hzi⟩ : ∃ z : Int, (sz : Int) = z := ⟨_, rfl⟩
 rw [hzi] at HSz HCN;have HZI := jh hzi
 have hz0 : 0 ≤ zi := by omega
 have hz1 : zi ≤ 16384 := by omega
 obtain ⟨oi, hoi⟩ : ∃ z : Int, (off : Int) = z := ⟨_, rfl⟩
 rw [hoi] at HCN ⊢;have HOI := jh hoi
 have ho0 : 0 ≤ oi := by omega
 have ho1 : oi ≤ 100000 := by omega
 clear h1 h2 hkd hsz hFu hI hg h hf h0lt hzi hoi hcnt hS0 hi5 hz5 hs5 hb5
 go_enter Tryz.func120, Tryz.ntmps120
 go_wp2_with fail
 refine HO.out.mono ?_;rintro e w1 ⟨b, rfl, hb, hG, hVb, hk⟩;have HB1 := jh (Bo.start H0.out hb hG hVb);have HK1 := jh hk;have HS1 := jh (HSz.out b q w1 hVb);have hbw := hVb.lt;clear hG hVb hk HO HSz;have d1 : decide (oi < 0) = false := decide_eq_false (by omega);have d2 : decide (mi < 0) = false := decide_eq_false (by omega)
 go_wp2_with fail
 refine HS1.out.mono ?_;rintro e wz ⟨rfl, hwz⟩;rw [hwz];clear hwz HS1;have hcn : min mi (max (zi - oi) 0) = (cnt : Int) := HCN.out.symm;have hmk := run_make8 w1 cnt (by omega)
 go_upto_region 8 with fail
 have hO2 : (w1.alloc (.cells (madeCells #[.int .u8 0] cnt) 5)).ownsRow w1.heap.size 5 1 (.slice (some ⟨w1.heap.size, 0, none⟩) 0 cnt) 0 [] := World.ownsRow_made w1 _ cnt (Nat.le_refl _) (by unfold maxLen; omega) (by simp [madeCells]);have hb2 : Below w1.heap.size w1 (w1.alloc (.cells (madeCells #[.int .u8 0] cnt) 5)) := (Below.refl _ _).alloc (Nat.le_refl _) _;have HB2 := jh (HB1.out.keep hb2);have HO2 := jh hO2
 obtain ⟨w2, hw2⟩ : ∃ x, w1.alloc (.cells (madeCells #[.int .u8 0] cnt) 5) = x := ⟨_, rfl⟩
 obtain ⟨bR, hbR⟩ : ∃ x, w1.heap.size = x := ⟨_, rfl⟩
 have hR0 : w1.heap.size ≤ bR := Nat.le_of_eq hbR;rw [hw2] at HB2 HO2
 try rw [hw2]
 rw [hbR] at HO2
 try rw [hbR]
 clear hw2 hmk hcn hO2 hb2 HB1;have HO3 : Hid (w2.ownsRow bR 5 1 (.slice (some ⟨bR, 0, none⟩) 0 cnt) 0 (byts 0 fun j => ctF DA Y b0 (off + j))) := HO2;clear HO2
 go_loopw [12, 13, 14, 15, 16, 17] (fun bs _ _ _ _ _ wr => ∃ i : Nat, i ≤ cnt ∧ bs = .slice (some ⟨bR, 0, none⟩) i cnt ∧ (∃ k, Bo w1 wr b q p t m d gg lab g B0 NB N ln Y (K + 1 + 3 * k) f0 ∧ k ≤ (off + i + 63) / 64 - off / 64 ∧ (i = 0 ∧ k = 0 ∨ (off + i) % 64 = 0 ∨ i = cnt)) ∧ wr.ownsRow bR 5 1 (.slice (some ⟨bR, 0, none⟩) i cnt) i (byts i fun j => ctF DA Y b0 (off + j))) (fun bs _ _ _ _ _ _ => cnt - (match bs with | .slice _ n _ => n | _ => 0))
 case atStart => exact ⟨0, Nat.zero_le _, rfl, ⟨0, HB2.out, Nat.zero_le _, .inl ⟨rfl, rfl⟩⟩, HO3.out⟩
 case round =>
  obtain ⟨i, hi, rfl, ⟨k, hB, hk, hk3⟩, hO⟩ := hrel;have HBr := jh hB;have HOr := jh hO;clear hB hO HB2 HO3
  have hi0 : (0 : Int) ≤ i := by omega
  have hc0 : (cnt : Int) ≤ 16384 := by omega
  by_cases hlt : i < cnt
  ·have hic : (i : Int) < cnt := by omega
   have ha16 : off + i < 16384 := by omega
   have hk258 : k ≤ 257 := by omega
   have hS := HS0.out ((off + i) / 64) (by omega);have hRd := HRD.out b (K + 1 + 3 * k) (off + i) ha16 hS (by omega) wr HBr.out.self
   obtain ⟨V, hV⟩ : ∃ V, Y (DA + (b0 ((off + i) / 64) - 1)) = V := ⟨_, rfl⟩
   rw [hV] at hRd
   obtain ⟨ai, hai⟩ : ∃ z : Int, oi + (i : Int) = z := ⟨_, rfl⟩
   have hai2 : ((off + i : Nat) : Int) = ai := by have := HOI.out; omega
   rw [hai2] at hRd;have HRd := jh hRd
   have ha0 : 0 ≤ ai := by omega
   have ha1 : ai < 16384 := by omega
   obtain ⟨r, hr⟩ : ∃ r, (off + i) % 64 = r := ⟨_, rfl⟩
   have hr64 : r < 64 := by omega
   have HR : Hid (ai % 64 = (r : Int)) := jh (by omega)
   obtain ⟨mm, hmm⟩ : ∃ mm, min (64 - r) (cnt - i) = mm := ⟨_, rfl⟩
   have hm1 : mm ≤ 64 - r ∧ mm ≤ cnt - i ∧ 0 < mm ∧ (mm = 64 - r ∨ mm = cnt - i) := by omega
   have HM : Hid (min ((64 - r : Nat) : Int) ((cnt : Int) - i) = (mm : Int)) := jh (by omega);have HV := jh hV;have HA2 := jh hai2;have HRr := jh hr;clear hRd hV hai2 hr hmm hS
   go_wp2_with fail
   clear hai;refine HRd.out.mono ?_;rintro e w3 ⟨rfl, hB3⟩;have HB3 := jh (HBr.out.trans hB3)
   have hRn : bR ∉ [t, m, d, gg, b] := fun ha => by
    have := HBr.out.nin hR0;simp only [List.mem_cons, List.not_mem_nil, or_false, not_or] at this ha;omega
   have HO3 := jh (ownsRow_kf HOr.out hB3.kf hRn);have hs3 : w1.heap.size ≤ w3.heap.size := HB3.out.kf.size;clear hB3 HRd HBr HOr hRn
   go_upto_region 11 with (first | (refine wpList_alloc_byts (w := w3) rfl 162 64 rfl Tryz.zero36 ?_; intro w5 F5 hb5 hz5; simp only [Act.put,j1,j2,j3,j4,j5,j6]) | (refine wpList_store_blk rfl (.tmp 15) (.tmp 55) rfl w3.heap.size 0 64 (fun _ => 0) V F5.out (by omega) rfl rfl ?_; intro w6 F6 HK6; have HB5 := jh hb5; clear hb5 F5))
   obtain ⟨bB, hbB⟩ : ∃ x, w3.heap.size = x := ⟨_, rfl⟩
   have hB0 : w1.heap.size ≤ bB := by omega
   have hRl := (ownsRow_lt HO3.out).2;have HB6 := jh ((HB3.out.keep HB5.out).new HK6.out (by omega));have HO6 := jh (ownsRow_kp (ownsRow_below HO3.out HB5.out) HK6.out (by omega));have F6' := jh (F6.out.congr (fun j hj => upd_zero 64 V j hj _));rw [hbB] at F6' hRl
   try rw [hbB]
   clear F6 HK6 HB5 HB3 HO3 hbB hz5 hs3;have hrr := HR.out
   have hr0 : (0 : Int) ≤ r := by omega
   have hr1 : (r : Int) < 64 := by omega
   have hr2 : (r : Int) ≤ 64 := by omega
   have hmw := HM.out
   have hm0 : (0 : Int) ≤ mm := by omega
   have hm2 : (mm : Int) ≤ ((64 - r : Nat) : Int) := by omega
   have hcl : (byts mm fun j => V (r + j)).length = mm * 1 := by rw [byts_len, Nat.mul_one]
   have hcn : ∀ j u, (byts mm fun j => V (r + j))[j]? = some u → w6.cell? ((⟨bB, r, none⟩ : Addr).add j) = some u := fun j u hj => by
    obtain ⟨h1, rfl⟩ := byts_of hj;rw [Addr.add_mid];exact F6'.out.c (r + j) (by omega)
   have HCL := jh hcl;have HCn := jh hcn;clear hcl hcn
   have hroom : i + mm ≤ cnt := by omega
   go_wp2_with (at_builtin; refine wpList_append_own_spare _ rfl _ _ 27 rfl bR 5 i5 1 Tryz.sl34 HI5.out HS5.out bR i cnt _ rfl HO6.out ⟨bB, r, none⟩ mm (64 - r) (byts mm fun j => V (r + j)) rfl HCL.out HCn.out (byts_one _ _) hroom ?_; intro w7 hown7 hgr7; have HOw7 := jh hown7; have HB7 := jh (HB6.out.new (Kp.of_grown hgr7) hR0); clear hown7 hgr7)
   go_roundw
   case rel =>
    have hrr2 := HRr.out;refine ⟨i + mm, by omega, rfl, ⟨k + 1, HB7.out.mono (Lm.le_refl _) (by omega), by omega, by omega⟩, ?_⟩
    have hcg : byts mm (fun j => V (r + j)) = byts mm (fun j => ctF DA Y b0 (off + (i + j))) := byts_congr fun j hj => by
     have hrr := HRr.out;unfold ctF;rw [show (off + (i + j)) / 64 = (off + i) / 64 by omega, show (off + (i + j)) % 64 = r + j by omega, HV.out]
    rw [byts_append, ← hcg];exact HOw7.out
   case measure => simp; omega
  ·obtain rfl : i = cnt := by omega
   go_wp2_with fail
   go_ret2
   refine ⟨bR, rfl, by have := HK1.out.size; omega, fl_of_owns HOr.out, HBr.out.gr.mono (Lm.le_refl _) (by omega), HK1.out.join HBr.out.kf (fun a ha => ?_)⟩;simp only [List.mem_cons, List.not_mem_nil, or_false] at ha ⊢;omega
end Go.Proofs.YtgdapkbenmlabaaGreatDoor
namespace Go.Proofs.YtgdapkbenmlabaaGreatDoor
open Go.RowKit Go.Maps
def H8 : Nat → Nat → Int := fun i j => if i = 0 ∧ j = 0 then 59 else if i = 1 ∧ j = 0 then 10 else 0
theorem H8_ok : Cf.Hok H8 := fun i j _ _ => by
 unfold H8
 split
 ·decide
 ·split <;> decide
def R8 : List Cf.Rg := Cf.sizeRs 2 H8
theorem R8_len : R8.length = 2 := Cf.sizeRs_len 2 (.inl rfl) H8
theorem R8_small : ∀ r ∈ R8, Cf.Small r := Cf.size_small 2 (.inl rfl) H8 H8_ok
structure C8 (N : Nat) (g : Cf.Ge) (B0 P0 DA : Nat) : Prop where
 hN : (Cf.layF R8).2 = N
 n0 : 32 ≤ N
 n1 : N ≤ 65536
 hg : (Cf.layF R8).1[0]'(by rw [Cf.lay_len, R8_len]; decide) = g
 gg : GG g B0 P0 8 DA 67 N
theorem c8 : ∃ N g B0 P0 DA, C8 N g B0 P0 DA := by
 have hT := Cf.layF_range R8 R8_small R8.length (Nat.le_refl _);rw [List.take_length] at hT;have hl := R8_len;obtain ⟨N, hN⟩ := Int.eq_ofNat_of_zero_le (show 0 ≤ (Cf.layF R8).2 by omega)
 obtain ⟨g, hgi⟩ : ∃ g, (Cf.layF R8).1[0]'(by rw [Cf.lay_len, R8_len]; decide) = g := ⟨_, rfl⟩
 obtain ⟨B0, P0, M, DA, NB, hg, hbl, hnd⟩ := geo_gg R8 R8_small (by rw [hl]; decide) N hN 0 (by rw [hl]; decide) g hgi
 have e1 : (R8[0]'(by rw [hl]; decide)).bl = 67 := by kernel_rfl
 have e2 : (R8[0]'(by rw [hl]; decide)).nd = 8 := by kernel_rfl
 rw [e1] at hbl;rw [e2] at hnd
 obtain rfl : NB = 67 := by omega
 obtain rfl : M = 8 := by omega
 exact ⟨N, g, B0, P0, DA, hN, by omega, by omega, hgi, hg⟩
theorem Fu.none (B0 DA NB : Nat) (Y : Nat → Nat → Int) (f : Nat → Int) (b : Nat → Nat) (hf : ∀ i, 4 ≤ i → i < 12 → f i = 0) : Fu B0 DA NB Y f (ndS 0) b := by
 have hno : ∀ c, ndS 0 c = true → False := fun c hc => by
  rw [ndS_iff] at hc;omega
 refine ⟨⟨fun c hc => (hno c hc).elim, fun c hc => ?_, fun c _ _ hc => (hno _ hc).elim, fun c _ hc => (hno c hc).elim, fun c hc => (hno c hc).elim, fun c c' hc => (hno c hc).elim⟩, fun c hc => (hno c hc).elim⟩;rw [if_neg (fun hh => hno c hh)];exact hf _ (rtI_lt c hc).1 (rtI_lt c hc).2
theorem own_noblocks (k : Int) (i : Nat) (h4 : 4 ≤ i) : own k i = 0 := by
 unfold own;rw [if_neg (by omega), if_neg (by omega), if_neg (by omega)]
theorem no_space (NB : Nat) (n : Nat → Bool) (B : Nat → Nat) (Ls : List Nat) (hLs : ∀ c, n c = true → c ∈ Ls) (hall : ∀ j, j < NB → ∃ c, n c = true ∧ B c = j + 1) : NB ≤ Ls.length := by
 have hch : ∃ f : Nat → Nat, ∀ j, j < NB → n (f j) = true ∧ B (f j) = j + 1 := by
  refine ⟨fun j => if h : j < NB then Classical.choose (hall j h) else 0, fun j hj => ?_⟩;simp only [dif_pos hj];exact Classical.choose_spec (hall j hj)
 obtain ⟨f, hf⟩ := hch
 have h1 : ((List.range NB).map f).Nodup := by
  unfold List.Nodup;rw [List.pairwise_map];refine List.Pairwise.imp_of_mem (R := fun a b => a ≠ b) (fun {a b} ha hb hab he => hab ?_) (List.nodup_range (n := NB));have h1 := (hf a (List.mem_range.1 ha)).2;have h2 := (hf b (List.mem_range.1 hb)).2;rw [he] at h1;omega
 have := nodup_le _ Ls h1 (fun a ha => by
  obtain ⟨j, hj, rfl⟩ := List.mem_map.1 ha
  exact hLs _ (hf j (List.mem_range.1 hj)).1)
 simpa using this
theorem Src.made (w : World) (sb n : Nat) (s : Nat → Int) (L : List Nat) (hF : Fl w sb n s) (hn : n ≤ maxLen) (hL : sb ∉ L) : Src w (.slice (some ⟨sb, 0, none⟩) n n) n s L :=
 ⟨_, n, rfl, Nat.le_refl _, hn, fun _ => ⟨sb, 0, rfl, ⟨hF.lt, fun j hj => by rw [Nat.zero_add]; exact hF.c j hj⟩, hL⟩⟩
def strOf (n : Nat) (s : Nat → Int) : ByteArray := ⟨((List.range n).map fun j => UInt8.ofNat (s j).toNat).toArray⟩
theorem u8_back (x : Int) (h0 : 0 ≤ x) (h1 : x < 256) : ((UInt8.ofNat x.toNat).toNat : Int) = x := by
 rw [UInt8.toNat_ofNat'];omega
theorem str_cells {w : World} {b off n c : Nat} {s : Nat → Int} (hs : ∀ j, j < n → 0 ≤ s j ∧ s j < 256) (h : ∀ j, j < n → w.cell? ⟨b, off + j, none⟩ = some (.int .u8 (s j))) :
  (convert 27 9 (.slice (some ⟨b, off, none⟩) n c)).run Tryz.prog w = .ok (.string (strOf n s)) w := by
 have := run_convert_bytes_back (P := Tryz.prog) w 27 9 5 ⟨b, off, none⟩ c ((List.range n).map fun j => UInt8.ofNat (s j).toNat) (by kernel_rfl) (by kernel_rfl) (by kernel_rfl) (fun j hj => by
  have hj' : j < n := by simpa using hj
  rw [List.getElem_map, List.getElem_range, u8_back _ (hs j hj').1 (hs j hj').2, Addr.add_lit]
  exact h j hj')
 rw [List.length_map, List.length_range] at this;exact this
theorem yields_conv {P : Program} {ops : Array Oper} {S : World → Prop} {op : Oper} {a : Act} (hw : Region.wanted op (yielded ops a.tmps) = true) (src dst : TypeId) (x : Operand) (ho : op.op = .convert src dst x) (vx v : Value) (hx : a.eval x = vx)
  (hr : ∀ w, S w → (convert src dst vx).run P w = .ok v w) : YieldsIf P ops S op v a :=
 .inl ⟨hw, fun w hS => by
  have hr := hr w hS;unfold execOp
  simp [ho, hx, hr, Result.andThen]⟩
theorem yields_bld2 {P : Program} {ops : Array Oper} {S : World → Prop} {op : Oper} {a : Act} (hw : Region.wanted op (yielded ops a.tmps) = true) (ty : TypeId) (i j : Nat) (x y : Operand) (ho : op.op = .build ty #[(i, x), (j, y)]) (vx vy : Value) (hx : a.eval x = vx) (hy : a.eval y = vy) (v : Value)
  (hr : ∀ w, (Instr.build ty #[(i, vx), (j, vy)]).run P w = .ok v w) : YieldsIf P ops S op v a :=
 .inl ⟨hw, fun w _ => by
  have hr := hr w;unfold execOp
  simp [ho, hx, hy, hr, Result.andThen]⟩
def okE (e : En) : Prop := 0 < e.2 ∧ e.2 < 65536 ∧ nameC e.1 = 0
theorem nameC_ok {s : ByteArray} (h : nameC s = 0) : 1 ≤ s.size ∧ s.size ≤ 14 ∧ ∀ b ∈ s.data.toList, maySt b = true := by
 unfold nameC at h
 split at h
 ·cases h
 ·rename_i h1
  split at h
  ·cases h
  ·split at h
   ·rename_i h3
    refine ⟨?_, by omega, fun b hb => List.all_eq_true.1 h3 b hb⟩;have : ¬ s.size = 0 := fun hh => h1 (.inl hh);omega
   ·cases h
theorem maySt_ne {b : UInt8} (h : maySt b = true) : b ≠ 0 := by
 rintro rfl
 revert h
 decide
theorem trim_pk (s : ByteArray) (h14 : s.size ≤ 14) (h0 : ∀ b ∈ s.data.toList, b ≠ 0) : (Lib.trimRightB (strOf 14 (btF s)).data.toList 0).toArray = s.data := by
 have hl : (strOf 14 (btF s)).data.toList = (List.range 14).map fun j => UInt8.ofNat (btF s j).toNat := rfl;have hlen : s.data.toList.length = s.size := (Lib.size_eq s).symm
 have hget : ∀ (j : Nat) (hj : j < s.size), UInt8.ofNat (btF s j).toNat = s.data.toList[j]'(by rw [hlen]; exact hj) := fun j hj => by
  unfold btF;rw [List.getElem?_eq_getElem (by rw [hlen]; exact hj)]
  simp
 rw [hl, Lib.trimRightB_take _ 0 s.size (by simp; omega) (fun j b hj hb => ?_) (fun b hs hb => ?_)]
 ·have : ((List.range 14).map fun j => UInt8.ofNat (btF s j).toNat).take s.size = s.data.toList := by
   refine List.ext_getElem? fun j => ?_
   by_cases hj : j < s.size
   ·rw [List.getElem?_take_of_lt hj, List.getElem?_map, List.getElem?_range (by omega), List.getElem?_eq_getElem (by rw [hlen]; exact hj), ← hget j hj];rfl
   ·rw [List.getElem?_eq_none (by simp; omega), List.getElem?_eq_none (by omega)]
  rw [this]
 ·rw [List.getElem?_map] at hb
  by_cases hj2 : j < 14
  ·rw [List.getElem?_range hj2] at hb;simp only [Option.map_some, Option.some.injEq] at hb;rw [← hb, btF_past s j hj];rfl
  ·rw [List.getElem?_eq_none (by simp; omega)] at hb
   cases hb
 ·rw [List.getElem?_map, List.getElem?_range (by omega)] at hb;simp only [Option.map_some, Option.some.injEq] at hb;rw [← hb, hget (s.size - 1) (by omega)];exact h0 _ (List.getElem_mem _)
theorem unpack_ok (e : En) (h : e = zE ∨ okE e) (sb so cap : Nat) (hcap : 16 ≤ cap) (hc2 : cap ≤ 100000) (hso : so ≤ 100000) (w : World) (hS : Sb w sb so 16 (pkF e)) :
  Calls Tryz.prog 144 #[.slice (some ⟨sb, so, none⟩) 16 cap] w fun x w' => x = .returned (.tuple #[.agg (enc e).toArray, .bool true]) ∧ Below w.heap.size w w' := by
 obtain ⟨d, hu, hd⟩ := Tryz.descEn;have HU := jh hu;have HD := jh hd;obtain ⟨s, n⟩ := e
 have hb : s.size ≤ 14 ∧ n < 65536 ∧ ∀ b ∈ s.data.toList, b ≠ 0 := by
  rcases h with h | h
  ·cases h
   exact ⟨by decide, by decide, fun b hb => by cases hb⟩
  ·obtain ⟨h1, h2, h3⟩ := h;obtain ⟨h4, h5, h6⟩ := nameC_ok h3;exact ⟨h5, h2, fun b hb => maySt_ne (h6 b hb)⟩
 obtain ⟨h14, hn, hnz⟩ := hb
 have n0 : (0 : Int) ≤ n := by omega
 have n1 : (n : Int) < 65536 := by omega
 have HTr := jh (trim_pk s h14 hnz);have htr := fun W => Tryz.strings_TrimRight_one (strOf 14 (btF s)) 0 (by decide) W (by show (List.map _ _).toArray.size ≤ _; simp);rw [trim_pk s h14 hnz] at htr;have HTR := jh htr;have HV := jh (fun W => vacant_any (s, n) (by show s.size ≤ maxLen; unfold maxLen; omega) hn W);have hvac : vacE (s, n) = decide ((s, n) = zE) := rfl
 have HNm : Hid (¬ (s, n) = zE → ¬ ((n : Int) = 0) ∧ nameC s = 0) := jh (fun hne => by
  rcases h with h | h
  ·exact absurd h hne
  ·obtain ⟨h1, h2, h3⟩ := h;have : 0 < n := h1
   exact ⟨by omega, h3⟩)
 have HNa := jh (fun W => name_any s W);have p0 : pkF (s, n) 0 = (n : Int) % 256 := rfl;have p1 : pkF (s, n) 1 = (n : Int) / 256 := rfl
 have p2 : ∀ j, pkF (s, n) (2 + j) = btF s j := fun j => by
  unfold pkF;rw [if_neg (by omega), if_neg (by omega), show 2 + j - 2 = j by omega]
 have HP0 := jh p0;have HP1 := jh p1;have HP2 := jh p2;have HSb := jh hS;have hor := u16_or8 ((n : Int) % 256) ((n : Int) / 256 * 256) (by omega) (by omega) (by omega) (by omega) (by omega);rw [show (n : Int) % 256 + (n : Int) / 256 * 256 = n by omega] at hor;have HOR := jh hor;have HSH := jh (shl8 ((n : Int) / 256) (by omega) (by omega));have HUW := jh (wraps_u16 ((n : Int) % 256) (by omega) (by omega));have HVW := jh (wraps_u16 ((n : Int) / 256) (by omega) (by omega))
 obtain ⟨P, hP⟩ : ∃ P, pkF (s, n) = P := ⟨_, rfl⟩
 rw [hP] at HP0 HP1 HP2 HSb
 obtain ⟨lo, hlo⟩ : ∃ x : Int, (n : Int) % 256 = x := ⟨_, rfl⟩
 obtain ⟨hi, hhi⟩ : ∃ x : Int, (n : Int) / 256 = x := ⟨_, rfl⟩
 have l0 : 0 ≤ lo ∧ lo < 256 := by omega
 have m0 : 0 ≤ hi ∧ hi < 256 := by omega
 obtain ⟨l0, l1⟩ := l0;obtain ⟨m0, m1⟩ := m0;rw [hlo] at HOR HUW HP0;rw [hhi] at HOR HSH HVW HP1
 obtain ⟨vc, hvc⟩ : ∃ x, vacE (s, n) = x := ⟨_, rfl⟩
 rw [hvc] at HV hvac;have HVc := jh hvac
 obtain ⟨ni, hni⟩ : ∃ x : Int, (n : Int) = x := ⟨_, rfl⟩
 rw [hni] at HNm HOR n0 n1;have HNI := jh hni
 have hcp : (16 : Int) ≤ cap := by omega
 have hcn : ¬ cap = 2 := by omega
 clear hu hd h h14 hn hnz htr hvac p0 p1 p2 hS hor hP hlo hhi hvc hni
 go_enter Tryz.func144, Tryz.ntmps144
 go_upto_region 3 with (first | (refine wpList_alloc_list (w := w) rfl 58 rfl (enc zE) Tryz.zeroEn ?_; intro w1 F1 hb1 hz1; have HB1 := jh hb1; have hq1 : w.heap.size < w1.heap.size := (by omega); clear hb1 hz1))
 obtain ⟨b2, hb2⟩ : ∃ b, w.heap.size = b := ⟨_, rfl⟩
 have hsb : sb < b2 := by have := HSb.out.lt; omega
 have HSb1 := jh (HSb.out.keep HB1.out);rw [hb2] at F1 HB1 hq1
 try rw [hb2]
 have HW := jh hb2;clear hb2 HSb;refine wp_region_held (S := fun W => Sb W sb so 16 P) (by kernel_rfl) ?_;change wpAnyH _ _ _ _ _ _ _ _ (World.drew _);have hS0 : (fun W => Sb W sb so 16 P) w1.drew := HSb1.out.keep (Below.refl _ _).drew;have F2 := jh (F1.out.keep (Below.refl _ _).drew);have HB2 := jh HB1.out.drew;have hq2 : b2 < (World.drew w1).heap.size := hq1
 obtain ⟨w2, hw2⟩ : ∃ x, World.drew w1 = x := ⟨_, rfl⟩
 rw [hw2] at hS0 F2 HB2 hq2 ⊢;clear hw2 F1 HB1 hq1 HSb1;refine jk 0 (v:=?_) rfl (by kernel_rfl) (fun _ _ _=>id) (by rfl) ?_ hS0 ?_;rotate_left
 ·intro W hW;go_simp;try with_reducible rfl
 simp only [Act.put,j1,j2,j3,j4,j5,j6];refine jk 1 (v:=?_) rfl (by kernel_rfl) (fun _ _ _=>id) (by rfl) ?_ hS0 ?_;rotate_left
 ·intro W hW;go_simp;try with_reducible rfl
 simp only [Act.put,j1,j2,j3,j4,j5,j6];refine jx 2 (v := .string (strOf 14 (btF s))) rfl (by kernel_rfl) (fun _ _ _=>id) ?_ hS0 ?_
 ·exact yields_conv (by rfl) 27 9 (.tmp 10) rfl (.slice (some ⟨sb, so + 2, none⟩) 14 (cap - 2)) _ rfl (fun W hW => str_cells (fun j _ => btF_bd s j) (fun j hj => by
   have := hW.c (2 + j) (by omega);rw [HP2.out, ← Nat.add_assoc] at this
   exact this))
 simp only [Act.put,j1,j2,j3,j4,j5,j6];refine jk 4 (v:=?_) rfl (by kernel_rfl) (fun _ _ _=>id) (by rfl) ?_ hS0 ?_;rotate_left
 ·intro W hW;go_simp;try with_reducible rfl
 simp only [Act.put,j1,j2,j3,j4,j5,j6];refine jk 5 (v:=?_) rfl (by kernel_rfl) (fun _ _ _=>id) (by rfl) ?_ hS0 ?_;rotate_left
 ·intro W hW;go_simp;try with_reducible rfl
 simp only [Act.put,j1,j2,j3,j4,j5,j6];refine jk 6 (v:=?_) rfl (by kernel_rfl) (fun _ _ _=>id) (by rfl) ?_ hS0 ?_;rotate_left 1
 ·intro W hW
  have c0 : W.cell? ⟨sb, so, none⟩ = some (.int .u8 lo) := by
   have := hW.c 0 (by decide);rw [HP0.out] at this;exact this
  go_simp
  try with_reducible rfl
 simp only [Act.put,j1,j2,j3,j4,j5,j6];refine jk 7 (v:=?_) rfl (by kernel_rfl) (fun _ _ _=>id) (by rfl) ?_ hS0 ?_;rotate_left 1
 ·intro W hW;have k3 := HUW.out;go_simp
  try with_reducible rfl
 simp only [Act.put,j1,j2,j3,j4,j5,j6];refine jk 8 (v:=?_) rfl (by kernel_rfl) (fun _ _ _=>id) (by rfl) ?_ hS0 ?_;rotate_left
 ·intro W hW;go_simp;try with_reducible rfl
 simp only [Act.put,j1,j2,j3,j4,j5,j6];refine jk 9 (v:=?_) rfl (by kernel_rfl) (fun _ _ _=>id) (by rfl) ?_ hS0 ?_;rotate_left
 ·intro W hW;go_simp;try with_reducible rfl
 simp only [Act.put,j1,j2,j3,j4,j5,j6];refine jk 10 (v:=?_) rfl (by kernel_rfl) (fun _ _ _=>id) (by rfl) ?_ hS0 ?_;rotate_left 1
 ·intro W hW
  have c1 : W.cell? ⟨sb, so + 1, none⟩ = some (.int .u8 hi) := by
   have := hW.c 1 (by decide);rw [HP1.out] at this;exact this
  go_simp
  try with_reducible rfl
 simp only [Act.put,j1,j2,j3,j4,j5,j6];refine jk 11 (v:=?_) rfl (by kernel_rfl) (fun _ _ _=>id) (by rfl) ?_ hS0 ?_;rotate_left 1
 ·intro W hW;have k4 := HVW.out;go_simp
  try with_reducible rfl
 simp only [Act.put,j1,j2,j3,j4,j5,j6];refine jk 12 (v:=?_) rfl (by kernel_rfl) (fun _ _ _=>id) (by rfl) ?_ hS0 ?_;rotate_left 1
 ·intro W hW;have k2 := HSH.out;go_simp
  try with_reducible rfl
 simp only [Act.put,j1,j2,j3,j4,j5,j6];refine jk 13 (v:=?_) rfl (by kernel_rfl) (fun _ _ _=>id) (by rfl) ?_ hS0 ?_;rotate_left 1
 ·intro W hW;have k1 := HOR.out;go_simp
  try with_reducible rfl
 simp only [Act.put,j1,j2,j3,j4,j5,j6];refine wpAnyH_ready (rs := [3, 15]) (by kernel_rfl) (by simp) (AllReadyH.cons rfl (fun KK hKK => ?_) (AllReadyH.cons rfl (fun KK hKK => ?_) AllReadyH.nil))
 ·go_simp;refine (HTR.out w2).mono ?_;rintro e wz ⟨rfl, hwz⟩;rw [hwz];clear hwz;refine hKK _ _ hS0 ?_;intro _;clear hKK KK
  try simp only [Act.put,j1,j2,j3,j4,j5,j6]
  refine jx 14 (v := .agg (enc (s, n)).toArray) rfl (by kernel_rfl) (fun _ _ _=>id) ?_ hS0 ?_
  ·exact yields_bld2 (by rfl) 58 0 1 (.tmp 12) (.tmp 22) rfl (.string s) (.int .u16 ni) rfl rfl _ (fun W => by
     rw [show (enc (s, n)) = [.string s, .int .u16 ni] from by unfold enc; rw [HNI.out]]
     exact Tryz.buildEn2 s ni W)
  simp only [Act.put,j1,j2,j3,j4,j5,j6];refine wpAnyH_ready (rs := [15]) (by kernel_rfl) (by simp) (AllReadyH.cons rfl (fun KK hKK => ?_) AllReadyH.nil);refine step_alloc_list rfl 58 (enc zE) rfl Tryz.zeroEn ?_;intro wA FA hbA hzA;have hS1 : (fun W => Sb W sb so 16 P) wA := hS0.keep hbA;have GA := jh (F2.out.keep hbA);have HBA := jh (HB2.out.trans (hbA.mono (by omega)))
  obtain ⟨b4, hb4⟩ : ∃ x, w2.heap.size = x := ⟨_, rfl⟩
  have hq4 : b2 < b4 ∧ b4 < wA.heap.size := by omega
  rw [hb4] at FA
  try rw [hb4]
  clear hS0 hbA hzA hb4 F2 HB2;have hS0 := hS1;clear hS1;refine hKK _ _ hS0 ?_;intro _;clear hKK KK
  try simp only [Act.put,j1,j2,j3,j4,j5,j6]
  have PF := jh (FA.out.stored (enc (s, n)) rfl);refine wpAnyH_ready (rs := [16]) (by kernel_rfl) (by simp) (AllReadyH.cons rfl (fun KK hKK => ?_) AllReadyH.nil);refine step_store_mid rfl 58 _ _ rfl b4 0 (enc (s, n)).toArray rfl rfl (FA.out.there0 2 rfl) (sizeEn _) (all_oneCell_toArray (enc_one _)) ?_;have hk : Kp wA (wA.setCells b4 0 (enc (s, n))) b4 b4 := (Kp.refl wA b4 b4).setCells b4 0 (.inl rfl) _;have hS1 : (fun W => Sb W sb so 16 P) (wA.setCells b4 0 (enc (s, n))) := hS0.kp hk (by omega);have GB := jh (GA.out.kp hk (by omega) (by omega));have HBB := jh (HBA.out.trans (hk.below (by omega) (by omega) (by omega)));have hqb := hk.size
  obtain ⟨wB, hwB⟩ : ∃ x, wA.setCells b4 0 (enc (s, n)) = x := ⟨_, rfl⟩
  change KK _ (wA.setCells b4 0 (enc (s, n)));rw [hwB] at hS1 PF GB HBB hqb ⊢;clear hS0 hwB hk FA GA HBA;refine hKK _ _ hS1 ?_;intro _;clear hKK KK hS1;refine wpAnyH_done (by kernel_rfl) ?_ _;have HR := jh PF.out.range0
  go_wp2_with (refine wpList_load_mid rfl 58 _ rfl b4 0 rfl (enc (s, n)) d HR.out HU.out HD.out (sizeEn _) ?_)
  refine (HV.out wB).mono ?_;rintro e wC ⟨rfl, hb⟩;have PC := jh (PF.out.keep hb);have GC := jh (GB.out.keep hb);have HBC := jh (HBB.out.trans (hb.mono (by omega)));clear hb HV PF GB HBB HR;have HR := jh PC.out.range0;have GS := jh (GC.out.stored (enc (s, n)) rfl)
  cases vc
  ·have hne : ¬ (s, n) = zE := by
    have := HVc.out;exact of_decide_eq_false this.symm
   obtain ⟨hn0, hnm⟩ := HNm.out hne
   have cN : wC.cell? ⟨b4, 1, none⟩ = some (.int .u16 ni) := by rw [← HNI.out]; exact PC.out.c 1 _ rfl
   have cS := PC.out.c 0 _ rfl;have HNa2 := HNa.out;rw [hnm] at HNa2;have HNa3 := jh HNa2;clear hnm HNa2 hne
   go_wp2_with fail
   refine (HNa3.out wC).mono ?_;rintro e wz ⟨rfl, hwz⟩;rw [hwz];clear hwz
   go_wp2_with (first | (refine wpList_load_mid rfl 58 _ rfl b4 0 rfl (enc (s, n)) d HR.out HU.out HD.out (sizeEn _) ?_) | (refine wpList_store_mid rfl 58 _ _ rfl b2 0 (enc (s, n)).toArray rfl rfl (GC.out.there0 2 rfl) (sizeEn _) (all_oneCell_toArray (enc_one _)) ?_))
   exact bodyPost_ret_by (results_mid_tmp rfl _ _ b2 _ d rfl GS.out.range0 HU.out HD.out (sizeEn _)) rfl ⟨rfl, by rw [HW.out]; exact below_setCells HBC.out b2 0 (by omega) _⟩
  ·go_wp2_with (first | (refine wpList_load_mid rfl 58 _ rfl b4 0 rfl (enc (s, n)) d HR.out HU.out HD.out (sizeEn _) ?_) | (refine wpList_store_mid rfl 58 _ _ rfl b2 0 (enc (s, n)).toArray rfl rfl (GC.out.there0 2 rfl) (sizeEn _) (all_oneCell_toArray (enc_one _)) ?_))
   exact bodyPost_ret_by (results_mid_tmp rfl _ _ b2 _ d rfl GS.out.range0 HU.out HD.out (sizeEn _)) rfl ⟨rfl, by rw [HW.out]; exact below_setCells HBC.out b2 0 (by omega) _⟩
 ·refine step_alloc_list rfl 58 (enc zE) rfl Tryz.zeroEn ?_;intro wA FA hbA hzA;have hS1 : (fun W => Sb W sb so 16 P) wA := hS0.keep hbA;have GA := jh (F2.out.keep hbA);have HBA := jh (HB2.out.trans (hbA.mono (by omega)))
  obtain ⟨b4, hb4⟩ : ∃ x, w2.heap.size = x := ⟨_, rfl⟩
  have hq4 : b2 < b4 ∧ b4 < wA.heap.size := by omega
  rw [hb4] at FA
  try rw [hb4]
  clear hS0 hbA hzA hb4 F2 HB2;have hS0 := hS1;clear hS1;refine hKK _ _ hS0 ?_;intro _;clear hKK KK
  try simp only [Act.put,j1,j2,j3,j4,j5,j6]
  refine wpAnyH_ready (rs := [3]) (by kernel_rfl) (by simp) (AllReadyH.cons rfl (fun KK hKK => ?_) AllReadyH.nil);go_simp;refine (HTR.out wA).mono ?_;rintro e wz ⟨rfl, hwz⟩;rw [hwz];clear hwz;refine hKK _ _ hS0 ?_;intro _;clear hKK KK
  try simp only [Act.put,j1,j2,j3,j4,j5,j6]
  refine jx 14 (v := .agg (enc (s, n)).toArray) rfl (by kernel_rfl) (fun _ _ _=>id) ?_ hS0 ?_
  ·exact yields_bld2 (by rfl) 58 0 1 (.tmp 12) (.tmp 22) rfl (.string s) (.int .u16 ni) rfl rfl _ (fun W => by
     rw [show (enc (s, n)) = [.string s, .int .u16 ni] from by unfold enc; rw [HNI.out]]
     exact Tryz.buildEn2 s ni W)
  simp only [Act.put,j1,j2,j3,j4,j5,j6];have PF := jh (FA.out.stored (enc (s, n)) rfl);refine wpAnyH_ready (rs := [16]) (by kernel_rfl) (by simp) (AllReadyH.cons rfl (fun KK hKK => ?_) AllReadyH.nil);refine step_store_mid rfl 58 _ _ rfl b4 0 (enc (s, n)).toArray rfl rfl (FA.out.there0 2 rfl) (sizeEn _) (all_oneCell_toArray (enc_one _)) ?_;have hk : Kp wA (wA.setCells b4 0 (enc (s, n))) b4 b4 := (Kp.refl wA b4 b4).setCells b4 0 (.inl rfl) _;have hS1 : (fun W => Sb W sb so 16 P) (wA.setCells b4 0 (enc (s, n))) := hS0.kp hk (by omega);have GB := jh (GA.out.kp hk (by omega) (by omega));have HBB := jh (HBA.out.trans (hk.below (by omega) (by omega) (by omega)));have hqb := hk.size
  obtain ⟨wB, hwB⟩ : ∃ x, wA.setCells b4 0 (enc (s, n)) = x := ⟨_, rfl⟩
  change KK _ (wA.setCells b4 0 (enc (s, n)));rw [hwB] at hS1 PF GB HBB hqb ⊢;clear hS0 hwB hk FA GA HBA;refine hKK _ _ hS1 ?_;intro _;clear hKK KK hS1;refine wpAnyH_done (by kernel_rfl) ?_ _;have HR := jh PF.out.range0
  go_wp2_with (refine wpList_load_mid rfl 58 _ rfl b4 0 rfl (enc (s, n)) d HR.out HU.out HD.out (sizeEn _) ?_)
  refine (HV.out wB).mono ?_;rintro e wC ⟨rfl, hb⟩;have PC := jh (PF.out.keep hb);have GC := jh (GB.out.keep hb);have HBC := jh (HBB.out.trans (hb.mono (by omega)));clear hb HV PF GB HBB HR;have HR := jh PC.out.range0;have GS := jh (GC.out.stored (enc (s, n)) rfl)
  cases vc
  ·have hne : ¬ (s, n) = zE := by
    have := HVc.out;exact of_decide_eq_false this.symm
   obtain ⟨hn0, hnm⟩ := HNm.out hne
   have cN : wC.cell? ⟨b4, 1, none⟩ = some (.int .u16 ni) := by rw [← HNI.out]; exact PC.out.c 1 _ rfl
   have cS := PC.out.c 0 _ rfl;have HNa2 := HNa.out;rw [hnm] at HNa2;have HNa3 := jh HNa2;clear hnm HNa2 hne
   go_wp2_with fail
   refine (HNa3.out wC).mono ?_;rintro e wz ⟨rfl, hwz⟩;rw [hwz];clear hwz
   go_wp2_with (first | (refine wpList_load_mid rfl 58 _ rfl b4 0 rfl (enc (s, n)) d HR.out HU.out HD.out (sizeEn _) ?_) | (refine wpList_store_mid rfl 58 _ _ rfl b2 0 (enc (s, n)).toArray rfl rfl (GC.out.there0 2 rfl) (sizeEn _) (all_oneCell_toArray (enc_one _)) ?_))
   exact bodyPost_ret_by (results_mid_tmp rfl _ _ b2 _ d rfl GS.out.range0 HU.out HD.out (sizeEn _)) rfl ⟨rfl, by rw [HW.out]; exact below_setCells HBC.out b2 0 (by omega) _⟩
  ·go_wp2_with (first | (refine wpList_load_mid rfl 58 _ rfl b4 0 rfl (enc (s, n)) d HR.out HU.out HD.out (sizeEn _) ?_) | (refine wpList_store_mid rfl 58 _ _ rfl b2 0 (enc (s, n)).toArray rfl rfl (GC.out.there0 2 rfl) (sizeEn _) (all_oneCell_toArray (enc_one _)) ?_))
   exact bodyPost_ret_by (results_mid_tmp rfl _ _ b2 _ d rfl GS.out.range0 HU.out HD.out (sizeEn _)) rfl ⟨rfl, by rw [HW.out]; exact below_setCells HBC.out b2 0 (by omega) _⟩
theorem Tryz.arrWy : Tryz.prog.underlying 325 = some (.array 3 3) := by kernel_rfl
theorem Tryz.int3 : Tryz.prog.underlying 3 = some (.int .i64) := by kernel_rfl
theorem Tryz.cells3 : Tryz.prog.cellsOf 3 = 1 := by kernel_rfl
theorem Tryz.guardWy : Tryz.prog.eqGuardType Tryz.prog.depth 325 = false := by kernel_rfl
def eqW (a b c x y z : Int) : Bool := (a == x) && ((b == y) && (c == z))
theorem eqWy (a b c x y z : Int) (w : World) : (Op.equalIn 10000 325 (.agg (wyc a b c).toArray) (.agg (wyc x y z).toArray)).run Tryz.prog w = .ok (eqW a b c x y z) w := by
 obtain ⟨i, hi⟩ : ∃ i, Tryz.prog.info? 3 = some i := by
  have := Tryz.isizeInt
  cases h : Tryz.prog.info? 3 with
  | none => simp [h] at this
  | some i => exact ⟨i, rfl⟩
 rw [run_equalIn_array w 9999 (wyc a b c).toArray (wyc x y z).toArray Tryz.arrWy hi, Tryz.cells3]
 have hag : (isAgg 3).run Tryz.prog w = .ok false w := by
  unfold isAgg;rw [Sem.run_bind, run_underlying Tryz.int3 w];rfl
 have p : ∀ (i : Nat) (v : Value) (a b c : Int), (wyc a b c)[i]? = some v → (part 3 (wyc a b c).toArray (i * 1)).run Tryz.prog w = .ok v w := fun i v a b c h => by
  simp [part, Sem.run_bind, hag, h]
 have q : ∀ (i : Nat) (is : List Nat) (u v : Int), (wyc a b c)[i]? = some (.int .i64 u) → (wyc x y z)[i]? = some (.int .i64 v) → (Op.eqItems 9999 3 1 (wyc a b c).toArray (wyc x y z).toArray (i :: is)).run Tryz.prog w = if (u == v) = true then (Op.eqItems 9999 3 1 (wyc a b c).toArray (wyc x y z).toArray is).run Tryz.prog w else .ok false w := fun i is u v h1 h2 => by
  simp only [Op.eqItems, Sem.run_bind, p i _ _ _ _ h1, p i _ _ _ _ h2, Result.andThen_ok, run_equalIn_int w 9998 3 .i64 .i64 _ _ Tryz.int3]
  cases hb : (u == v) <;> simp
 rw [show List.range 3 = [0, 1, 2] from rfl, q 0 _ a x rfl rfl, q 1 _ b y rfl rfl, q 2 _ c z rfl rfl]
 have h0 : (Op.eqItems 9999 3 1 (wyc a b c).toArray (wyc x y z).toArray []).run Tryz.prog w = .ok true w := by simp [Op.eqItems]
 rw [h0];unfold eqW
 cases h1 : (a == x) <;> cases h2 : (b == y) <;> cases h3 : (c == z) <;> rfl
theorem passes_gen (a b c x y z u1 u2 u3 n : Int)
  (hst : ∀ W, Calls Tryz.prog 227 #[.agg (wyc x y z).toArray] W fun e w' => e = .returned (.int .i64 n) ∧ Below W.heap.size W w')
  (hfi : ∀ W, Calls Tryz.prog 228 #[.agg (wyc a b c).toArray, .int .i64 n] W fun e w' => e = .returned (.agg (wyc u1 u2 u3).toArray) ∧ Below W.heap.size W w') (w : World) :
  Calls Tryz.prog 200 #[.agg (wyc a b c).toArray, .agg (wyc x y z).toArray] w fun e w' => e = .returned (.bool (eqW u1 u2 u3 x y z)) ∧ Below w.heap.size w w' := by
 obtain ⟨d, hu, hd⟩ := Tryz.descWy;have HU := jh hu;have HD := jh hd;have HST := jh hst;have HFI := jh hfi;have HEQ := jh (fun W => eqWy u1 u2 u3 x y z W)
 obtain ⟨eb, heb⟩ : ∃ e, eqW u1 u2 u3 x y z = e := ⟨_, rfl⟩
 rw [heb] at HEQ ⊢;clear hu hd hst hfi heb
 go_enter Tryz.func200, Tryz.ntmps200
 go_upto_region 1 with (first | (refine wpList_box_list (w := w) rfl 325 _ rfl (wyc a b c) rfl ?_; intro w1 F1 hb1 hz1; have HB1 := jh hb1; have hq1 : w.heap.size < w1.heap.size := (by omega); clear hb1 hz1) | (refine wpList_box_list (w := w1) rfl 325 _ rfl (wyc x y z) rfl ?_; intro w2 F2 hb2 hz2; have HB2 := jh hb2; have hq2 : w1.heap.size < w2.heap.size := (by omega); clear hb2 hz2))
 obtain ⟨b1, hb1⟩ : ∃ b, w.heap.size = b := ⟨_, rfl⟩
 obtain ⟨b2, hb2⟩ : ∃ b, w1.heap.size = b := ⟨_, rfl⟩
 have G1 := jh (F1.out.keep HB2.out);have HB := jh (HB1.out.trans (HB2.out.mono HB1.out.size));rw [hb1, hb2] at hq1;rw [hb2] at hq2;rw [hb1] at G1 HB;rw [hb2] at F2;have HW := jh hb1
 try rw [hb1]
 try rw [hb2]
 clear hb1 hb2 HB1 HB2 F1;refine wp_region_held (S := fun W => Vl W b1 (wyc a b c) ∧ Vl W b2 (wyc x y z) ∧ Below b1 w W) (by kernel_rfl) ?_;change wpAnyH _ _ _ _ _ _ _ _ (World.drew _)
 have hS0 : (fun W => Vl W b1 (wyc a b c) ∧ Vl W b2 (wyc x y z) ∧ Below b1 w W) w2.drew := ⟨G1.out.keep (Below.refl _ _).drew, F2.out.keep (Below.refl _ _).drew, HB.out.drew⟩
 obtain ⟨w3, hw3⟩ : ∃ x, World.drew w2 = x := ⟨_, rfl⟩
 rw [hw3] at hS0 ⊢;clear hw3;refine jx 0 (v := .agg (wyc a b c).toArray) rfl (by kernel_rfl) (fun _ _ _=>id) ?_ hS0 ?_
 ·exact yieldsIf_load_mid (by rfl) 325 (.tmp 2) rfl b1 0 rfl (wyc a b c) d (fun W hW => hW.1.range0) HU.out HD.out (sizeWy _ _ _)
 simp only [Act.put,j1,j2,j3,j4,j5,j6];refine jx 1 (v := .agg (wyc x y z).toArray) rfl (by kernel_rfl) (fun _ _ _=>id) ?_ hS0 ?_
 ·exact yieldsIf_load_mid (by rfl) 325 (.tmp 3) rfl b2 0 rfl (wyc x y z) d (fun W hW => hW.2.1.range0) HU.out HD.out (sizeWy _ _ _)
 simp only [Act.put,j1,j2,j3,j4,j5,j6];refine jx 4 (v := .agg (wyc x y z).toArray) rfl (by kernel_rfl) (fun _ _ _=>id) ?_ hS0 ?_
 ·exact yieldsIf_load_mid (by rfl) 325 (.tmp 3) rfl b2 0 rfl (wyc x y z) d (fun W hW => hW.2.1.range0) HU.out HD.out (sizeWy _ _ _)
 simp only [Act.put,j1,j2,j3,j4,j5,j6];refine wpAnyH_ready (rs := [2]) (by kernel_rfl) (by simp) (AllReadyH.cons rfl (fun KK hKK => ?_) AllReadyH.nil);go_simp;refine (HST.out w3).mono ?_;rintro e w4 ⟨rfl, hb⟩
 replace hS0 : (fun W => Vl W b1 (wyc a b c) ∧ Vl W b2 (wyc x y z) ∧ Below b1 w W) w4 := ⟨hS0.1.keep hb, hS0.2.1.keep hb, hS0.2.2.trans (hb.mono (Nat.le_of_lt hS0.1.lt))⟩
 clear hb;refine hKK _ _ hS0 ?_;intro _;clear hKK KK
 try simp only [Act.put,j1,j2,j3,j4,j5,j6]
 refine wpAnyH_ready (rs := [3]) (by kernel_rfl) (by simp) (AllReadyH.cons rfl (fun KK hKK => ?_) AllReadyH.nil);go_simp;refine (HFI.out w4).mono ?_;rintro e w5 ⟨rfl, hb⟩
 replace hS0 : (fun W => Vl W b1 (wyc a b c) ∧ Vl W b2 (wyc x y z) ∧ Below b1 w W) w5 := ⟨hS0.1.keep hb, hS0.2.1.keep hb, hS0.2.2.trans (hb.mono (Nat.le_of_lt hS0.1.lt))⟩
 clear hb;refine hKK _ _ hS0 ?_;intro _;clear hKK KK
 try simp only [Act.put,j1,j2,j3,j4,j5,j6]
 refine jx 5 (v := .bool eb) rfl (by kernel_rfl) (fun _ _ _=>id) ?_ hS0 ?_
 ·exact yields_eql (by rfl) 325 325 (.tmp 8) (.tmp 9) rfl (wyc u1 u2 u3).toArray (wyc x y z).toArray rfl rfl eb Tryz.guardWy (fun W _ => HEQ.out W)
 simp only [Act.put,j1,j2,j3,j4,j5,j6];refine jk 6 (v:=?_) rfl (by kernel_rfl) (fun _ _ _=>id) (by rfl) ?_ hS0 ?_;rotate_left
 ·intro W hW;go_simp;try with_reducible rfl
 simp only [Act.put,j1,j2,j3,j4,j5,j6];refine wpAnyH_done (by kernel_rfl) ?_ _;have HBz := jh hS0.2.2;clear hS0
 go_wp2_with fail
 go_ret
 exact ⟨rfl, by rw [HW.out]; exact HBz.out⟩
theorem passes0 (a b c : Int) (w : World) : Calls Tryz.prog 200 #[.agg (wyc a b c).toArray, .agg (wyc 0 0 0).toArray] w fun e w' => e = .returned (.bool true) ∧ Below w.heap.size w w' :=
 passes_gen a b c 0 0 0 0 0 0 0 (fun W => steps0 W) (fun W => first0 a b c W) w
theorem passes1 (a b c x : Int) (hx : 0 < x) (w : World) : Calls Tryz.prog 200 #[.agg (wyc a b c).toArray, .agg (wyc x 0 0).toArray] w fun e w' => e = .returned (.bool (decide (a = x))) ∧ Below w.heap.size w w' := by
 have := passes_gen a b c x 0 0 a 0 0 1 (fun W => steps1 x hx W) (fun W => first1 a b c W) w
 rwa [show eqW a 0 0 x 0 0 = decide (a = x) from by unfold eqW; simp; rfl] at this
theorem passes2 (a b c x y : Int) (hx : 0 < x) (hy : 0 < y) (w : World) : Calls Tryz.prog 200 #[.agg (wyc a b c).toArray, .agg (wyc x y 0).toArray] w fun e w' => e = .returned (.bool (decide (a = x ∧ b = y))) ∧ Below w.heap.size w w' := by
 have := passes_gen a b c x y 0 a b 0 2 (fun W => steps2 x y hx hy W) (fun W => first2 a b c W) w
 rwa [show eqW a b 0 x y 0 = decide (a = x ∧ b = y) from by unfold eqW; rw [Bool.eq_iff_iff]; simp] at this
theorem passes3 (a b c x y z : Int) (hx : 0 < x) (hy : 0 < y) (hz : 0 < z) (w : World) : Calls Tryz.prog 200 #[.agg (wyc a b c).toArray, .agg (wyc x y z).toArray] w fun e w' => e = .returned (.bool (decide (a = x ∧ b = y ∧ c = z))) ∧ Below w.heap.size w w' := by
 have := passes_gen a b c x y z a b c 3 (fun W => steps3 x y z hx hy hz W) (fun W => first3 a b c W) w
 rwa [show eqW a b c x y z = decide (a = x ∧ b = y ∧ c = z) from by unfold eqW; rw [Bool.eq_iff_iff]; simp] at this
end Go.Proofs.YtgdapkbenmlabaaGreatDoor
