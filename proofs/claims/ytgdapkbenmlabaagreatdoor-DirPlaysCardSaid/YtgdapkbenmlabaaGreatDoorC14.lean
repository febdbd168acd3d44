import Derived.Test.YtgdapkbenmlabaaGreatDoorC13
/- Files: lay: the blocks on a way to a block. -/
set_option linter.unusedSimpArgs false
set_option linter.unusedVariables false
set_option maxHeartbeats 40000000
set_option maxRecDepth 100000
namespace Go.Proofs.YtgdapkbenmlabaaGreatDoor
open Go.RowKit Go.Maps
def lenC (c : Nat) : Nat := if c < 6 then 0 else if c < 38 then 1 else 2
def chS (c i : Nat) : Nat := if i = lenC c then c else if i + 1 = lenC c then parS c else 2001
theorem chS_last (c : Nat) : chS c (lenC c) = c := if_pos rfl
theorem chS_ok (c : Nat) (hc : c < 256) (i : Nat) (hi : i ≤ lenC c) : okS (chS c i) = true ∧ (isR (chS c i) = true ∨ (1 ≤ i ∧ parS (chS c i) = chS c (i - 1))) := by
 have hl : c < 6 ∧ lenC c = 0 ∨ 6 ≤ c ∧ c < 38 ∧ lenC c = 1 ∨ 38 ≤ c ∧ lenC c = 2 := by
  unfold lenC
  split
  ·omega
  ·split <;> omega
 rcases hl with ⟨h, e⟩ | ⟨h, h', e⟩ | ⟨h, e⟩
 ·obtain rfl : i = 0 := by omega
  unfold chS;rw [e];exact ⟨(okS_iff _).2 (by simp; omega), .inl ((isR_iff _).2 (by simp; omega))⟩
 ·have hp : parS c = 2000 := by unfold parS; rw [if_pos h']
  have hi2 : i = 0 ∨ i = 1 := by omega
  rcases hi2 with rfl | rfl
  ·have : chS c 0 = 2000 := by unfold chS; rw [e, if_neg (by decide), if_pos rfl, hp]
   rw [this];exact ⟨rfl, .inl rfl⟩
  ·have h1 : chS c 1 = c := by unfold chS; rw [e, if_pos rfl]
   have h0 : chS c (1 - 1) = 2000 := by unfold chS; rw [e, if_neg (by decide), if_pos rfl, hp]
   rw [h1, h0, hp];exact ⟨(okS_iff _).2 (by omega), .inr ⟨by decide, rfl⟩⟩
 ·have hp : parS c = 2002 + (c - 38) / 32 := by unfold parS; rw [if_neg (by omega), if_pos (by omega)]
  have hi2 : i = 0 ∨ i = 1 ∨ i = 2 := by omega
  have h2 : chS c 2 = c := by unfold chS; rw [e, if_pos rfl]
  have h1 : chS c 1 = 2002 + (c - 38) / 32 := by unfold chS; rw [e, if_neg (by decide), if_pos rfl, hp]
  have h0 : chS c 0 = 2001 := by unfold chS; rw [e, if_neg (by decide), if_neg (by decide)]
  rcases hi2 with rfl | rfl | rfl
  ·rw [h0];exact ⟨rfl, .inl rfl⟩
  ·rw [h1, show 1 - 1 = 0 from rfl, h0];refine ⟨(okS_iff _).2 (by omega), .inr ⟨by decide, ?_⟩⟩;unfold parS;rw [if_neg (by omega), if_neg (by omega)]
  ·rw [h2, show 2 - 1 = 1 from rfl, h1, hp];exact ⟨(okS_iff _).2 (by omega), .inr ⟨by decide, rfl⟩⟩
theorem wyS_steps (c : Nat) (hc : c < 256) (W : World) : Calls Tryz.prog 227 #[wyS c] W fun e w' => e = .returned (.int .i64 (lenC c + 1)) ∧ Below W.heap.size W w' := by
 by_cases h6 : c < 6
 ·have hr : isR c = true := (isR_iff c).2 (.inl h6);have hw := wy_root c hr
  have e : lenC c = 0 := by unfold lenC; rw [if_pos h6]
  unfold wyS;rw [hw.2.1, hw.2.2, e];exact steps1 _ (by omega) W
 ·have hr : isR c = false := (isR_no c).2 (by omega);have ho : okS c = true := (okS_iff c).2 (by omega)
  by_cases h3 : 38 ≤ c ∧ c < 1062
  ·obtain ⟨e1, e2, e3, -, -⟩ := wy_three c h3
   have e : lenC c = 2 := by unfold lenC; rw [if_neg h6, if_neg (by omega)]
   unfold wyS;rw [e1, e2, e3, e];exact steps3 _ _ _ (by decide) (by omega) (by omega) W
  ·obtain ⟨e1, e2, e3, hpr⟩ := wy_two c ho hr h3
   have e : lenC c = 1 := by unfold lenC; rw [if_neg h6, if_pos (by omega)]
   have := (wy_root _ hpr).1;unfold wyS;rw [e2, e3, e];exact steps2 _ _ (by omega) (by omega) W
theorem wyS_first (c : Nat) (hc : c < 256) (i : Nat) (hi : i ≤ lenC c) (W : World) : Calls Tryz.prog 228 #[wyS c, .int .i64 (i + 1)] W fun e w' => e = .returned (wyS (chS c i)) ∧ Below W.heap.size W w' := by
 by_cases h6 : c < 6
 ·have hr : isR c = true := (isR_iff c).2 (.inl h6);have hw := wy_root c hr
  have e : lenC c = 0 := by unfold lenC; rw [if_pos h6]
  obtain rfl : i = 0 := by omega
  have h0 : chS c 0 = c := by unfold chS; rw [e, if_pos rfl]
  rw [h0];unfold wyS;rw [hw.2.1, hw.2.2];exact first1 _ _ _ W
 ·have hr : isR c = false := (isR_no c).2 (by omega);have ho : okS c = true := (okS_iff c).2 (by omega)
  by_cases h3 : 38 ≤ c ∧ c < 1062
  ·obtain ⟨e1, e2, e3, hp, -⟩ := wy_three c h3
   have e : lenC c = 2 := by unfold lenC; rw [if_neg h6, if_neg (by omega)]
   have hi2 : i = 0 ∨ i = 1 ∨ i = 2 := by omega
   rcases hi2 with rfl | rfl | rfl
   ·have h0 : chS c 0 = 2001 := by unfold chS; rw [e, if_neg (by decide), if_neg (by decide)]
    rw [h0];have := first1 (wy1 c) (wy2 c) (wy3 c) W;rw [e1] at this;unfold wyS;rw [e1];exact this
   ·have h1 : chS c 1 = parS c := by unfold chS; rw [e, if_neg (by decide), if_pos rfl]
    rw [h1, wy_par3 c h3];have := first2 (wy1 c) (wy2 c) (wy3 c) W;rw [e1, e2] at this;unfold wyS;rw [e1, e2];exact this
   ·have h2 : chS c 2 = c := by unfold chS; rw [e, if_pos rfl]
    rw [h2];exact first3 _ _ _ W
  ·obtain ⟨e1, e2, e3, hpr⟩ := wy_two c ho hr h3
   have e : lenC c = 1 := by unfold lenC; rw [if_neg h6, if_pos (by omega)]
   have hwr := wy_root _ hpr
   have hi2 : i = 0 ∨ i = 1 := by omega
   rcases hi2 with rfl | rfl
   ·have h0 : chS c 0 = parS c := by unfold chS; rw [e, if_neg (by decide), if_pos rfl]
    rw [h0];have := first1 (wy1 c) (wy2 c) (wy3 c) W;unfold wyS;rw [hwr.2.1, hwr.2.2, ← e1];exact this
   ·have h1 : chS c 1 = c := by unfold chS; rw [e, if_pos rfl]
    rw [h1];have := first2 (wy1 c) (wy2 c) (wy3 c) W;unfold wyS;rw [e3];rw [e3] at this;exact this
theorem Fi.congr {DA NB : Nat} {Y Y' : Nat → Nat → Int} {f : Nat → Int} {S : Nat → Bool} {b : Nat → Nat} (h : Fi DA NB Y f S b) (hy : ∀ c, S c = true → 2000 ≤ c → Y' (DA + (b c - 1)) = Y (DA + (b c - 1))) : Fi DA NB Y' f S b :=
 ⟨h.ok, h.root, fun c ho hr hp => by
  rw [hy _ hp (parS_ok c ho hr).2.1]
  exact h.wrd c ho hr hp, h.cl, h.rng, h.inj⟩
theorem fpoint_any (b q p t m d gg lab B0 P0 M DA NB N K : Nat) (ln : Lm) (g : Cf.Ge) (Y : Nat → Nat → Int) (f : Nat → Int) (S : Nat → Bool) (B : Nat → Nat) (hF : Fi DA NB Y f S B) (c x : Nat) (ho : okS c = true) (hx : x < 65536) (hr : isR c = true ∨ S (parS c) = true) (hT : isR c = false → Has ln (DA + (B (parS c) - 1)))
  (hK : K < 600000000) (hg : GG g B0 P0 M DA NB N) (w : World) (h : Bo w w b q p t m d gg lab g B0 NB N ln Y K f) :
  Calls Tryz.prog 229 #[.pointer (some ⟨b, 0, none⟩), wyS c, .int .u16 x] w fun e w' => e = .returned (.int .i64 0) ∧ Bo w w' b q p t m d gg lab g B0 NB N ln (addY DA Y B c x) (K + 3) (addF f c x) := by
 cases hc : isR c
 ·have hf : addF f c x = f := if_neg (by rw [hc]; decide);rw [hf];exact point_in (ln := ln) b q p t m d gg lab B0 P0 M DA NB N K g Y f S B hF c x ho hc (hr.resolve_left (by rw [hc]; decide)) hx (hT hc) hK hg w h
 ·refine (point_root (ln := ln) b q p t m d gg lab B0 P0 M DA NB N K g Y f c x hc hx w h).mono ?_;rintro e w' ⟨he, hB⟩;have hY : addY DA Y B c x = Y := if_pos hc;rw [hY];exact ⟨he, hB.mono (Lm.le_refl _) (by omega)⟩
structure Fu (B0 DA NB : Nat) (Y : Nat → Nat → Int) (f : Nat → Int) (S : Nat → Bool) (b : Nat → Nat) : Prop where
 fi : Fi DA NB Y f S b
 us : ∀ c, S c = true → bt Y B0 (b c - 1) = true
structure Ly (B0 TB DA NB : Nat) (L : List Nat) (D : Nat → Nat → Int) (Y0 : Nat → Nat → Int) (S0 : Nat → Bool) (b0 : Nat → Nat) (Y : Nat → Nat → Int) (f : Nat → Int) (S : Nat → Bool) (b : Nat → Nat) : Prop where
 fu : Fu B0 DA NB Y f S b
 ex : Ex B0 DA NB Y0 S0 b0 Y S b
theorem Ly.len (L : List Nat) (hL : L.length ≤ 28) (B0 TB DA : Nat) (b : Nat → Nat) (S : Nat → Bool) : (dl B0 TB DA b S L).length ≤ 30 := Nat.le_trans (dl_len B0 TB DA b S L) (by omega)
theorem lay_any (b q p t m d gg lab B0 P0 M DA NB N K TB : Nat) (g : Cf.Ge) (Y0 : Nat → Nat → Int) (f0 : Nat → Int) (S0 : Nat → Bool) (b0 : Nat → Nat) (L : List Nat) (D : Nat → Nat → Int) (hL : L.length ≤ 28) (hFu : Fu B0 DA NB Y0 f0 S0 b0) (c : Nat) (hc : c < 256) (hcL : ∀ i, i ≤ lenC c → chS c i ∈ L)
  (hK : K < 400000000) (hg : GG g B0 P0 M DA NB N) (w : World) (h : Bo w w b q p t m d gg lab g B0 NB N ⟨dl B0 TB DA b0 S0 L, D⟩ Y0 K f0) :
  Calls Tryz.prog 186 #[.pointer (some ⟨b, 0, none⟩), wyS c] w fun e w' =>
   (∃ Y f S B, e = .returned (.tuple #[.int .u16 (B c), .int .i64 0]) ∧ Bo w w' b q p t m d gg lab g B0 NB N ⟨dl B0 TB DA B S L, D⟩ Y (K + 1000) f ∧ Ly B0 TB DA NB L D Y0 S0 b0 Y f S B ∧ (∀ c', S c' = true ↔ S0 c' = true ∨ ∃ i, i ≤ lenC c ∧ c' = chS c i) ∧ (∀ i, i < 4 → f i = f0 i)) ∨
   (∃ Y f S B, e = .returned (.tuple #[.int .u16 0, .int .i64 10]) ∧ Bo w w' b q p t m d gg lab g B0 NB N ⟨dl B0 TB DA B S L, D⟩ Y (K + 1000) f ∧ Ly B0 TB DA NB L D Y0 S0 b0 Y f S B ∧ (∀ c', S c' = true → S0 c' = true ∨ ∃ i, i ≤ lenC c ∧ c' = chS c i) ∧ (∀ j, j < NB → bt Y B0 j = true) ∧ ∃ i, i ≤ lenC c ∧ S (chS c i) = false) := by
 have hn2 : lenC c ≤ 2 := by
  unfold lenC
  split
  ·decide
  ·split <;> decide
 have HST := jh (fun W => wyS_steps c hc W);have HFI := jh (fun i hi W => wyS_first c hc i hi W);have HOK := jh (fun i hi => chS_ok c hc i hi);have HLA := jh (chS_last c);have HB := jh h;have HF0 := jh hFu;have HG := jh hg;have HCL := jh hcL;have hN5 := hg.n512
 have hD : B0 < DA := by have := hg.bp; have := hg.pd; omega
 have HTA := jh (fun (ln : Lm) (K : Nat) (Y : Nat → Nat → Int) (i : Nat) hi hF hT hT2 hK W hW => gtake7 (ln := ln) q p t m d gg lab B0 P0 M DA NB N K g Y i ((i + 1 : Nat) : Int) (by omega) hi hF hT hT2 hK hg W hW);have HTN := jh (fun (ln : Lm) (K : Nat) (Y : Nat → Nat → Int) hF hK W hW => gtake_none (ln := ln) q p t m d gg lab B0 P0 M DA NB N K g Y hF hK hg W hW)
 obtain ⟨n, hn⟩ : ∃ n, lenC c = n := ⟨_, rfl⟩
 rw [hn] at HST HFI HOK HLA hn2 HCL ⊢;obtain ⟨dW, hu, hd⟩ := Tryz.descWy;have HU := jh hu;have HD := jh hd
 obtain ⟨va, vb, vc, hwv⟩ : ∃ x y z : Int, wyS c = .agg (wyc x y z).toArray := ⟨_, _, _, rfl⟩
 rw [hwv] at HST HFI ⊢
 obtain ⟨ch, hch⟩ : ∃ ch, chS c = ch := ⟨_, rfl⟩
 rw [hch] at HFI HOK HLA HCL ⊢;clear hu hd h hFu hg hcL hn hwv hc hch
 go_enter Tryz.func186, Tryz.ntmps186
 go_upto_region 1 with (first | (refine wpList_box_list (w := w) rfl 325 _ rfl (wyc va vb vc) rfl ?_; intro w1 F1 hb1 hz1; have HQ1 := jh hb1; clear hb1))
 obtain ⟨bW, hbW⟩ : ∃ x, w.heap.size = x := ⟨_, rfl⟩
 have HB1 := jh (HB.out.keep HQ1.out);have hW0 : w.heap.size ≤ bW := Nat.le_of_eq hbW;rw [hbW] at F1
 try rw [hbW]
 clear hz1 HQ1 HB hbW;have HR1 := jh F1.out.range0
 go_wp2_with (refine wpList_load_mid rfl 325 _ rfl bW 0 rfl (wyc va vb vc) dW HR1.out HU.out HD.out (sizeWy _ _ _) ?_)
 refine (HST.out w1).mono ?_;rintro e w2 ⟨rfl, hb⟩;have HB2 := jh (HB1.out.keep hb);have F2 := jh (F1.out.keep hb);clear hb HST HR1 F1 HB1
 have hn0 : (0 : Int) ≤ n := by omega
 have hn3 : (n : Int) ≤ 2 := by omega
 go_wp2_with fail
 go_loopw [6, 7, 8, 9, 10, 13] (fun v _ _ _ _ i wr => ∃ k : Nat, k ≤ n + 1 ∧ i = .int .i64 k ∧ ∃ x : Nat, v = .int .u16 x ∧ (∃ Y f S B, (1 ≤ k → x = B (ch (k - 1))) ∧ Bo w wr b q p t m d gg lab g B0 NB N ⟨dl B0 TB DA B S L, D⟩ Y (K + 300 * k) f ∧ Ly B0 TB DA NB L D Y0 S0 b0 Y f S B ∧ (∀ j, j < k → S (ch j) = true) ∧ (∀ c', S c' = true → S0 c' = true ∨ ∃ j, j < k ∧ c' = ch j) ∧ (∀ i, i < 4 → f i = f0 i)) ∧ Vl wr bW (wyc va vb vc)) (fun _ _ _ _ _ i _ => n + 1 - (Go.RowKit.intOf i).toNat)
 case atStart => exact ⟨0, Nat.zero_le _, rfl, 0, rfl, ⟨Y0, f0, S0, b0, fun h => absurd h (by decide), HB2.out, ⟨HF0.out, Ex.refl _ _ _ _ _ _⟩, fun j hj => absurd hj (Nat.not_lt_zero j), fun c' h => .inl h, fun _ _ => rfl⟩, F2.out⟩
 case round =>
  obtain ⟨k, hk, rfl, x, rfl, ⟨Y, f, S, B, hx, hB, hLy, hS, hSc, hf4⟩, hF⟩ := hrel;have HX := jh hx;have HBr := jh hB;have HLy := jh hLy;have HS := jh hS;have HSc := jh hSc;have Hf4 := jh hf4;have HFr := jh hF;clear hx hB hLy hS hSc hf4 hF HB2 F2
  by_cases hlt : k < n + 1
  ·have hk0 : (0 : Int) ≤ k := by omega
   have hkk : (k : Int) < (n : Int) + 1 := by omega
   have hk2 : (k : Int) ≤ 2 := by omega
   have hkn : k ≤ n := by omega
   obtain ⟨hok, hpar⟩ := HOK.out k hkn
   have hparS : isR (ch k) = true ∨ S (parS (ch k)) = true := hpar.imp id fun hh => by
    rw [hh.2];exact HS.out (k - 1) (by omega)
   have HFk := jh (HFI.out k hkn);have HAt := jh (fun W hW => at_slot (ln := ⟨dl B0 TB DA B S L, D⟩) b q p t m d gg lab B0 P0 M DA NB N (K + 300 * k) g Y f S B HLy.out.fu.fi (ch k) hok (by omega) HG.out W hW);have HPt := jh (fun ln Y1 xx K' hF hT hx hK' W hW => fpoint_any b q p t m d gg lab B0 P0 M DA NB N K' ln g Y1 f S B hF (ch k) xx hok hx hparS hT hK' HG.out W hW)
   obtain ⟨pa, pb, pc, hpw⟩ : ∃ x y z : Int, wyS (ch k) = .agg (wyc x y z).toArray := ⟨_, _, _, rfl⟩
   rw [hpw] at HFk HAt HPt;have hr2 := HFr.out.range0;have HR2 := jh hr2;have HOKk := jh hok;have HPAR := jh hpar;have HPS := jh hparS;clear hpw hr2 hok hpar hparS
   go_wp2_with (refine wpList_load_mid rfl 325 _ rfl bW 0 rfl (wyc va vb vc) dW HR2.out HU.out HD.out (sizeWy _ _ _) ?_)
   refine (HFk.out wr).mono ?_;rintro e w3 ⟨rfl, hb⟩;have HB3 := jh (HBr.out.keep hb);have F3 := jh (HFr.out.keep hb);have hs3 : w.heap.size ≤ w3.heap.size := HB3.out.kf.size;clear hb HFk HR2 HBr HFr
   go_upto_region 6 with (first | (refine wpList_alloc_list (w := w3) rfl 325 rfl (wyc 0 0 0) Tryz.zeroWy ?_; intro w4 F4 hb4 hz4; simp only [Act.put,j1,j2,j3,j4,j5,j6]; refine wpList_store_list rfl 325 (.tmp 8) (.tmp 19) rfl w3.heap.size (wyc 0 0 0) (wyc pa pb pc) rfl rfl F4.out rfl (sizeWy _ _ _) (wyc_one _ _ _) ?_; intro w5 F5 HK5; have HQ4 := jh hb4; clear hb4 F4))
   obtain ⟨bP, hbP⟩ : ∃ x, w3.heap.size = x := ⟨_, rfl⟩
   have hP0 : w.heap.size ≤ bP := by omega
   have hF3l := F3.out.lt;have HB5 := jh ((HB3.out.keep HQ4.out).new HK5.out (by omega));have G5 := jh ((F3.out.keep HQ4.out).kp HK5.out (by omega) (by omega));rw [hbP] at F5 hF3l
   try rw [hbP]
   clear HK5 HQ4 HB3 F3 hbP hz4 hs3;have HR5 := jh F5.out.range0
   go_wp2_with (refine wpList_load_mid rfl 325 _ rfl bP 0 rfl (wyc pa pb pc) dW HR5.out HU.out HD.out (sizeWy _ _ _) ?_)
   refine (HAt.out w5 HB5.out.self).mono ?_;rintro e w6 ⟨rfl, hB6⟩;have HB6 := jh (HB5.out.trans hB6);have hnW : bW ∉ [b, q, p, t, m, d, gg] := HB5.out.nin hW0;have hnP : bP ∉ [b, q, p, t, m, d, gg] := HB5.out.nin hP0;have HNW : Hid (bW ∉ [t, m, d, gg, b]) := jh (by simp only [List.mem_cons, List.not_mem_nil, or_false, not_or] at hnW ⊢; omega);have HNP : Hid (bP ∉ [t, m, d, gg, b]) := jh (by simp only [List.mem_cons, List.not_mem_nil, or_false, not_or] at hnP ⊢; omega);have HNW4 : Hid (bW ∉ [t, m, d, gg]) := jh (by simp only [List.mem_cons, List.not_mem_nil, or_false, not_or] at hnW ⊢; omega);have HNP4 : Hid (bP ∉ [t, m, d, gg]) := jh (by simp only [List.mem_cons, List.not_mem_nil, or_false, not_or] at hnP ⊢; omega);have G6 := jh (G5.out.kf hB6.kf HNW.out);have F6 := jh (F5.out.kf hB6.kf HNP.out);clear hB6 HAt HB5 G5 F5 HR5 hnW hnP
   cases hsc : S (ch k)
   ·
    have hv : vS S B (ch k) = 0 := by unfold vS; rw [hsc]; rfl
    rw [hv];have HSC := jh hsc;clear hv hsc;have hqe := HB6.out.bd.c 0 _ rfl;rcases least_free (bt Y B0) NB with hall | ⟨i, hi, hfree, hlow⟩
    ·have HT := jh (HTN.out ⟨dl B0 TB DA B S L, D⟩ (K + 300 * k + 2) Y hall (by omega));have HAll := jh hall;clear hall
     go_wp2_with fail
     refine (HT.out w6 HB6.out.gr).mono ?_;rintro e w7 ⟨rfl, hG, hkk7⟩;have HB7 := jh (HB6.out.call hG hkk7);clear hG hkk7 HT HB6 hqe
     go_wp2_with fail
     go_ret2
     exact .inr ⟨Y, f, S, B, rfl, HB7.out.mono (Lm.le_refl _) (by omega), HLy.out, fun c' hc' => (HSc.out c' hc').imp id fun ⟨j, hj, e⟩ => ⟨j, by omega, e⟩, HAll.out, k, hkn, HSC.out⟩
    ·obtain ⟨Y1, hY1⟩ : ∃ Y1, vput (DA + i) (fun _ => 0) (setV Y B0 i true) = Y1 := ⟨_, rfl⟩
     have hadd := add_ex HLy.out.fu.fi HB6.out.gr.rd.vb hD (ch k) HOKk.out HSC.out HPS.out i hi hN5 hfree HLy.out.fu.us Y1 hY1;have hle : Lm.Le ⟨dl B0 TB DA B S L, D⟩ ⟨dl B0 TB DA (addB B (ch k) (i + 1)) (addN S (ch k)) L, D⟩ := dl_le L D hadd.2.1.n hadd.2.1.b
     have hmem : DA + i ∈ dl B0 TB DA (addB B (ch k) (i + 1)) (addN S (ch k)) L := by
      have := dl_mem B0 TB DA (addB B (ch k) (i + 1)) (addN S (ch k)) L (ch k) (okS_lt HOKk.out) (HCL.out k hkn) (addN_self S _)
      rwa [addB_self, show i + 1 - 1 = i by omega] at this
     have hlen := Ly.len L hL B0 TB DA (addB B (ch k) (i + 1)) (addN S (ch k));have hT := HTA.out ⟨dl B0 TB DA (addB B (ch k) (i + 1)) (addN S (ch k)) L, D⟩ (K + 300 * k + 2) Y i hi (fr_of hi hfree hlow) ⟨List.mem_cons_self .., hlen⟩ ⟨hmem, hlen⟩ (by omega);rw [hY1] at hT;have HT := jh hT
     have hFi1 : Fi DA NB Y1 f S B := HLy.out.fu.fi.congr fun c' hc' _ => by
      have hne : B c' ≠ i + 1 := fun he => by
       have := HLy.out.fu.us c' hc';rw [he, show i + 1 - 1 = i by omega, hfree] at this
       cases this
      have hr := HLy.out.fu.fi.rng c' hc';rw [← hY1, vput_ne _ _ (by omega), setV_ne _ _ _ _ (by omega)]
     have hTp : isR (ch k) = false → Has ⟨dl B0 TB DA (addB B (ch k) (i + 1)) (addN S (ch k)) L, D⟩ (DA + (B (parS (ch k)) - 1)) := fun hr => by
      have hp := HPAR.out.resolve_left (by rw [hr]; decide);have hps := HPS.out.resolve_left (by rw [hr]; decide);have hne : parS (ch k) ≠ ch k := (parS_ok _ HOKk.out hr).2.2;have := dl_mem B0 TB DA (addB B (ch k) (i + 1)) (addN S (ch k)) L (parS (ch k)) (okS_lt (parS_ok _ HOKk.out hr).1) (by rw [hp.2]; exact HCL.out (k - 1) (by omega)) (addN_old S _ hps);rw [addB_ne B _ hne] at this;exact ⟨this, hlen⟩
     have HPn := jh (HPt.out ⟨dl B0 TB DA (addB B (ch k) (i + 1)) (addN S (ch k)) L, D⟩ Y1 (i + 1) (K + 300 * k + 2 + 201) hFi1 hTp (by omega) (by omega));have HLe := jh hle;have HAdd := jh hadd
     obtain ⟨xi, hxi⟩ : ∃ z : Int, ((i + 1 : Nat) : Int) = z := ⟨_, rfl⟩
     rw [hxi] at HT HPn;have HXI := jh hxi
     have hx0 : ¬ xi = 0 := by omega
     clear hadd hle hmem hlen hT hFi1 hTp hxi hfree hlow hY1
     go_wp2_with fail
     refine (HT.out w6 (HB6.out.mono HLe.out (Nat.le_refl _)).gr).mono ?_;rintro e w7 ⟨rfl, hG, hkk7⟩;have HB7 := jh ((HB6.out.mono HLe.out (Nat.le_refl _)).call hG hkk7);have G7 := jh (G6.out.kf hkk7 HNW4.out);have F7 := jh (F6.out.kf hkk7 HNP4.out);clear hG hkk7 HT HB6 hqe G6 F6;have HR7 := jh F7.out.range0
     go_wp2_with (refine wpList_load_mid rfl 325 _ rfl bP 0 rfl (wyc pa pb pc) dW HR7.out HU.out HD.out (sizeWy _ _ _) ?_)
     refine (HPn.out w7 HB7.out.self).mono ?_;rintro e w8 ⟨rfl, hB8⟩;have HB8 := jh (HB7.out.trans hB8);have G8 := jh (G7.out.kf hB8.kf HNW.out);clear hB8 HPn HB7 G7 F7 HR7
     go_wp2_with fail
     go_roundw
     case rel =>
      refine ⟨k + 1, by omega, by go_num, i + 1, by rw [HXI.out], ⟨_, _, _, _, fun _ => ?_, HB8.out.mono (Lm.le_refl _) (by omega), ⟨⟨HAdd.out.1, HAdd.out.2.2⟩, HLy.out.ex.trans hD HAdd.out.2.1 HAdd.out.1.rng HAdd.out.1.inj⟩, fun j hj => ?_, fun c' hc' => ?_, fun j hj => ?_⟩, G8.out⟩
      ·rw [show k + 1 - 1 = k by omega, addB_self]
      ·by_cases e : j = k
       ·rw [e];exact addN_self S _
       ·exact addN_old S _ (HS.out j (by omega))
      ·rcases addN_of S hc' with rfl | hc'
       ·exact .inr ⟨k, by omega, rfl⟩
       ·exact (HSc.out c' hc').imp id fun ⟨j, hj, e⟩ => ⟨j, by omega, e⟩
      ·unfold addF
       split
       ·rename_i hcr
        have := (rtI_lt _ hcr).1
        show (if j = rtI (ch k) then _ else f j) = f0 j
        rw [if_neg (by omega)];exact Hf4.out j hj
       ·exact Hf4.out j hj
     case measure => simp [Go.RowKit.intOf]; omega
   ·have hv : vS S B (ch k) = B (ch k) := by unfold vS; rw [hsc]; rfl
    have hpos := (HLy.out.fu.fi.rng _ hsc).1;rw [hv];have HSC := jh hsc
    obtain ⟨y, hy⟩ : ∃ y, B (ch k) = y := ⟨_, rfl⟩
    rw [hy] at hpos ⊢;have HY := jh hy
    obtain ⟨yi, hyi⟩ : ∃ z : Int, (y : Int) = z := ⟨_, rfl⟩
    have hy0 : 0 < yi := by omega
    rw [hyi];have HYI := jh hyi;clear hv hsc hy hyi hpos
    go_wp2_with fail
    go_roundw
    case rel =>
     refine ⟨k + 1, by omega, by go_num, y, by rw [HYI.out], ⟨Y, f, S, B, fun _ => ?_, HB6.out.mono (Lm.le_refl _) (by omega), HLy.out, fun j hj => ?_, fun c' hc' => (HSc.out c' hc').imp id fun ⟨j, hj, e⟩ => ⟨j, by omega, e⟩, Hf4.out⟩, G6.out⟩
     ·rw [show k + 1 - 1 = k by omega];exact HY.out.symm
     ·by_cases e : j = k
      ·rw [e];exact HSC.out
      ·exact HS.out j (by omega)
    case measure => simp [Go.RowKit.intOf]; omega
  ·obtain rfl : k = n + 1 := by omega
   go_wp2_with fail
   go_ret2
   refine .inl ⟨Y, f, S, B, ?_, HBr.out.mono (Lm.le_refl _) (by omega), HLy.out, fun c' => ⟨fun hc' => (HSc.out c' hc').imp id fun ⟨j, hj, e⟩ => ⟨j, by omega, e⟩, fun hc' => ?_⟩, Hf4.out⟩
   ·have := HX.out (by omega);rw [show n + 1 - 1 = n by omega, HLA.out] at this;rw [this];rfl
   ·rcases hc' with hc' | ⟨j, hj, rfl⟩
    ·exact HLy.out.ex.n c' hc'
    ·exact HS.out j (by omega)
end Go.Proofs.YtgdapkbenmlabaaGreatDoor
namespace Go.Proofs.YtgdapkbenmlabaaGreatDoor
open Go.RowKit Go.Maps
variable {ln : Lm}
theorem wayto_slot (c : Nat) (hc : c < 256) (x : Int) (hx : x = c) (w : World) : Calls Tryz.prog 187 #[.int .i64 x] w fun e w' => e = .returned (wyS c) ∧ Below w.heap.size w w' := by
 subst hx
 by_cases h6 : c < 6
 ·have h := wayto_dir c (by omega) (by omega) w;have hw := wy_root c ((isR_iff c).2 (.inl h6));unfold wyS;rw [hw.2.1, hw.2.2];unfold wy1;rw [if_pos h6];exact h
 ·by_cases h3 : c < 38
  ·have h := wayto_sin c (by omega) (by omega) w;obtain ⟨e1, e2, e3, -⟩ := wy_two c ((okS_iff c).2 (by omega)) ((isR_no c).2 (by omega)) (by omega)
   have e4 : wy1 c = 7 := by unfold wy1; rw [if_neg h6, if_pos (.inl h3)]
   have e5 : ((wy2 c : Nat) : Int) = c - 6 + 1 := by unfold wy2; rw [if_neg (by omega), if_pos h3]; omega
   unfold wyS;rw [e3, e4, e5];exact h
  ·have h := wayto_dbl c (by omega) (by omega) w;obtain ⟨e1, e2, e3, -⟩ := wy_three c ⟨by omega, by omega⟩
   have e4 : ((wy2 c : Nat) : Int) = (c - 6 - 32) / 32 + 1 := by rw [e2]; omega
   have e5 : ((wy3 c : Nat) : Int) = (c - 6) % 32 + 1 := by rw [e3]; omega
   unfold wyS;rw [e1, e4, e5];exact h
structure Sb (w : World) (sb so n : Nat) (s : Nat → Int) : Prop where
 lt : sb < w.heap.size
 c : ∀ j, j < n → w.cell? ⟨sb, so + j, none⟩ = some (.int .u8 (s j))
theorem Sb.keep {w w' : World} {sb so n : Nat} {s : Nat → Int} (h : Sb w sb so n s) (hb : Below w.heap.size w w') : Sb w' sb so n s := ⟨Nat.lt_of_lt_of_le h.lt hb.size, fun j hj => (hb.cell (p := ⟨sb, so + j, none⟩) h.lt).trans (h.c j hj)⟩
theorem Sb.kf {w w' : World} {L : List Nat} {sb so n : Nat} {s : Nat → Int} (h : Sb w sb so n s) (hk : Kf w w' L) (hn : sb ∉ L) : Sb w' sb so n s := ⟨Nat.lt_of_lt_of_le h.lt hk.size, fun j hj => (hk.cell (p := ⟨sb, so + j, none⟩) h.lt hn).trans (h.c j hj)⟩
theorem Sb.kp {w w' : World} {x sb so n : Nat} {s : Nat → Int} (h : Sb w sb so n s) (hk : Kp w w' x x) (hn : sb ≠ x) : Sb w' sb so n s := ⟨Nat.lt_of_lt_of_le h.lt hk.size, fun j hj => (hk.cell (p := ⟨sb, so + j, none⟩) h.lt hn hn).trans (h.c j hj)⟩
theorem Sb.drop {w : World} {sb so n : Nat} {s : Nat → Int} (h : Sb w sb so n s) (k : Nat) : Sb w sb (so + k) (n - k) (fun j => s (k + j)) := ⟨h.lt, fun j hj => by rw [Nat.add_assoc]; exact h.c (k + j) (by omega)⟩
theorem put_any8 (b q p t m d gg lab B0 P0 M DA NB N K TB : Nat) (g : Cf.Ge) (Y0 : Nat → Nat → Int) (f0 : Nat → Int) (S0 : Nat → Bool) (b0 : Nat → Nat) (L : List Nat) (D : Nat → Nat → Int) (hL : L.length ≤ 28) (hFu : Fu B0 DA NB Y0 f0 S0 b0) (o : Nat) (ho : o < 16384) (hcL : ∀ i, i ≤ lenC (o / 64) → chS (o / 64) i ∈ L)
  (sb so n cap : Nat) (s : Nat → Int) (hs : ∀ j, j < n → 0 ≤ s j ∧ s j < 256) (hn : 0 < n) (hn2 : n < 100000) (hK : K < 300000000) (hg : GG g B0 P0 M DA NB N) (w : World) (h : Bo w w b q p t m d gg lab g B0 NB N ⟨dl B0 TB DA b0 S0 L, D⟩ Y0 K f0) (hsb : Sb w sb so n s) (hsn : sb ∉ [t, m, d, gg, b]) :
  Calls Tryz.prog 130 #[.pointer (some ⟨b, 0, none⟩), .int .i64 o, .slice (some ⟨sb, so, none⟩) n cap] w fun e w' =>
   (∃ Y f S B, e = .returned (.tuple #[.int .i64 (Nat.min n (64 - o % 64)), .int .i64 0]) ∧ Bo w w' b q p t m d gg lab g B0 NB N ⟨dl B0 TB DA B S L, D⟩ (vput (DA + (B (o / 64) - 1)) (upd (Y (DA + (B (o / 64) - 1))) (o % 64) (Nat.min n (64 - o % 64)) s) Y) (K + 1001) f ∧ Ly B0 TB DA NB L D Y0 S0 b0 Y f S B ∧ (∀ c', S c' = true ↔ S0 c' = true ∨ ∃ i, i ≤ lenC (o / 64) ∧ c' = chS (o / 64) i) ∧ (∀ i, i < 4 → f i = f0 i)) ∨
   (∃ Y f S B, e = .returned (.tuple #[.int .i64 0, .int .i64 10]) ∧ Bo w w' b q p t m d gg lab g B0 NB N ⟨dl B0 TB DA B S L, D⟩ Y (K + 1001) f ∧ Ly B0 TB DA NB L D Y0 S0 b0 Y f S B ∧ (∀ c', S c' = true → S0 c' = true ∨ ∃ i, i ≤ lenC (o / 64) ∧ c' = chS (o / 64) i) ∧ (∀ j, j < NB → bt Y B0 j = true) ∧ ∃ i, i ≤ lenC (o / 64) ∧ S (chS (o / 64) i) = false) := by
 have hc : o / 64 < 256 := by omega
 have HWT := jh (fun x hx W => wayto_slot (o / 64) hc x hx W);have HLA := jh (fun W hW => lay_any b q p t m d gg lab B0 P0 M DA NB N K TB g Y0 f0 S0 b0 L D hL hFu (o / 64) hc hcL (by omega) hg W hW);have HCc := jh (hcL (lenC (o / 64)) (Nat.le_refl _));rw [chS_last] at HCc;have HSl := jh (chS_last (o / 64));have HB := jh h;have HS := jh hsb;have HSN := jh hsn;have Hs := jh hs;have HG := jh hg;have hN5 := hg.n512
 obtain ⟨c, hcc⟩ : ∃ c, o / 64 = c := ⟨_, rfl⟩
 obtain ⟨r, hr⟩ : ∃ r, o % 64 = r := ⟨_, rfl⟩
 have hr64 : r < 64 := by omega
 rw [hcc] at HWT HLA HCc HSl ⊢;rw [hr]
 obtain ⟨oi, hoi⟩ : ∃ z : Int, (o : Int) = z := ⟨_, rfl⟩
 have ho0 : 0 ≤ oi := by omega
 have ho1 : oi < 16384 := by omega
 have HQ : Hid (oi / 64 = (c : Int)) := jh (by omega);have HR : Hid (oi % 64 = (r : Int)) := jh (by omega)
 obtain ⟨va, vb, vc, hwv⟩ : ∃ x y z : Int, wyS c = .agg (wyc x y z).toArray := ⟨_, _, _, rfl⟩
 rw [hwv] at HWT HLA;rw [hoi];clear hc h hsb hsn hs hFu hcL hg hcc hr hoi ho hwv
 go_enter Tryz.func130, Tryz.ntmps130
 go_wp2_with fail
 refine (HWT.out _ HQ.out w).mono ?_;rintro e w1 ⟨rfl, hb⟩;have HB1 := jh (HB.out.keep hb);have HS1 := jh (HS.out.keep hb);clear hb HWT HS HB
 go_wp2_with fail
 refine (HLA.out w1 HB1.out.self).mono ?_;rintro e w2 (⟨Y, f, S, B, rfl, hB2, hLy, hSc, hf4⟩ | ⟨Y, f, S, B, rfl, hB2, hLy, hSc, hall, hno⟩)
 ·have HB2 := jh (HB1.out.trans hB2);have HS2 := jh (HS1.out.kf hB2.kf HSN.out);have HLy := jh hLy;have HSc := jh hSc;have Hf4 := jh hf4;have hSc1 : S c = true := (hSc c).2 (.inr ⟨lenC c, Nat.le_refl _, HSl.out.symm⟩);obtain ⟨hy1, hy2⟩ := hLy.fu.fi.rng c hSc1
  have hT : Has ⟨dl B0 TB DA B S L, D⟩ (DA + (B c - 1)) := ⟨dl_mem B0 TB DA B S L c (okS_lt (hLy.fu.fi.ok c hSc1)) HCc.out hSc1, Ly.len L hL B0 TB DA B S⟩
  obtain ⟨y, hy⟩ : ∃ y, B c = y := ⟨_, rfl⟩
  rw [hy] at hy1 hy2 hT;have hby := hB2.gr.rd.vb (DA + (y - 1));have HGt := jh (fun W hW => gget_in (ln := ⟨dl B0 TB DA B S L, D⟩) q p t m d gg lab B0 P0 M DA NB N (K + 1000) g Y y hy1 hy2 (by omega) HG.out W hW)
  obtain ⟨V, hV⟩ : ∃ V, Y (DA + (y - 1)) = V := ⟨_, rfl⟩
  rw [hV] at hby HGt
  obtain ⟨mn, hmn⟩ : ∃ mn, Nat.min n (64 - r) = mn := ⟨_, rfl⟩
  have hmn1 : mn ≤ n ∧ mn ≤ 64 - r := ⟨by rw [← hmn]; exact Nat.min_le_left _ _, by rw [← hmn]; exact Nat.min_le_right _ _⟩
  obtain ⟨V2, hV2⟩ : ∃ V2, upd V r mn s = V2 := ⟨_, rfl⟩
  have hby2 : Byt V2 := by
   rw [← hV2];intro j hj;unfold upd
   split
   ·exact Hs.out _ (by omega)
   ·exact hby j hj
  have HPu := jh (fun W hW => gput_in (ln := ⟨dl B0 TB DA B S L, D⟩) q p t m d gg lab B0 P0 M DA NB N (K + 1001) g Y y hy1 hy2 V2 hby2 hT HG.out W hW)
  obtain ⟨yi, hyi⟩ : ∃ z : Int, (y : Int) = z := ⟨_, rfl⟩
  rw [hy];rw [hyi] at HGt HPu ⊢;have HY := jh hy;have HV := jh hV;have HV2 := jh hV2;have HMn := jh hmn;clear hB2 hLy hSc hf4 hSc1 hT hy hby hV hV2 hby2 hyi hmn HLA HS1 HB1;have hqe := HB2.out.bd.c 0 _ rfl
  go_wp2_with fail
  refine (HGt.out w2 HB2.out.gr).mono ?_;rintro e w3 ⟨rfl, hG, hkk⟩;have HB3 := jh (HB2.out.call hG hkk);have HS3 := jh (HS2.out.kf hkk (fun ha => HSN.out (by simp only [List.mem_cons, List.not_mem_nil, or_false] at ha ⊢; omega)));have hs3 : w.heap.size ≤ w3.heap.size := HB3.out.kf.size;clear hG hkk HGt HB2 HS2 hqe
  go_upto_region 5 with (first | (refine wpList_alloc_byts (w := w3) rfl 162 64 rfl Tryz.zero36 ?_; intro w5 F5 hb5 hz5; simp only [Act.put,j1,j2,j3,j4,j5,j6]; refine wpList_store_blk rfl (.tmp 10) (.tmp 30) rfl w3.heap.size 0 64 (fun _ => 0) V F5.out (by omega) rfl rfl ?_; intro w6 F6 HK6; have HB5 := jh hb5; clear hb5 F5))
  obtain ⟨bB, hbB⟩ : ∃ x, w3.heap.size = x := ⟨_, rfl⟩
  have hB0 : w.heap.size ≤ bB := by omega
  have hSl := HS3.out.lt;have HB6 := jh ((HB3.out.keep HB5.out).new HK6.out (by omega));have HS6 := jh ((HS3.out.keep HB5.out).kp HK6.out (by omega));have F6' := jh (F6.out.congr (fun j hj => upd_zero 64 V j hj _));rw [hbB] at F6' hSl
  try rw [hbB]
  clear F6 HK6 HB5 HB3 HS3 hbB hz5 hs3
  go_upto_region 7 with fail
  have hRr := HR.out
  have hr0 : (0 : Int) ≤ r := by omega
  have hr1 : (r : Int) < 64 := by omega
  have hr2 : (r : Int) ≤ 64 := by omega
  have hcp := run_copy_mid (P := Tryz.prog) w6 27 27 3 5 1 bB r (64 - r) (64 - r) (some ⟨sb, so, none⟩) n cap (byts mn s) Tryz.sl34 Tryz.isize5 (by rw [byts_len, Nat.mul_one]; exact HMn.out.symm) (fun _ => ⟨⟨sb, so, none⟩, rfl, fun j v hj => by
   obtain ⟨h1, rfl⟩ := byts_of hj;rw [Addr.add_mid]
   exact HS6.out.c j (by omega)⟩) (by rw [byts_len]; exact F6'.out.there r mn (by omega)) (byts_one _ _)
  rw [HMn.out] at hcp
  go_upto_region 8 with fail
  clear hcp hRr hr0 hr1 hr2;have hk7 : Kp w6 (w6.setCells bB r (byts mn s)) bB bB := (Kp.refl w6 bB bB).setCells bB r (.inl rfl) _;have F7 := jh (F6'.out.store r mn (by omega) s);rw [HV2.out] at F7;have HB7 := jh (HB6.out.new hk7 hB0)
  obtain ⟨w7, hw7⟩ : ∃ x, w6.setCells bB r (byts mn s) = x := ⟨_, rfl⟩
  rw [hw7] at F7 HB7 ⊢;clear hw7 hk7 F6' HB6 HS6
  have hmi : (0 : Int) ≤ mn := by omega
  refine wp_region_held (S := fun W => Fl W bB 64 V2 ∧ W.cell? ⟨b, 0, none⟩ = some (.pointer (some ⟨q, 0, none⟩))) (by kernel_rfl) ?_;change wpAnyH _ _ _ _ _ _ _ _ (World.drew _)
  have hS0 : (fun W => Fl W bB 64 V2 ∧ W.cell? ⟨b, 0, none⟩ = some (.pointer (some ⟨q, 0, none⟩))) w7.drew := ⟨F7.out.below (Below.refl _ _).drew F7.out.lt, (HB7.out.keep (Below.refl _ _).drew).bd.c 0 _ rfl⟩
  have HB8 := jh (HB7.out.keep (Below.refl _ _).drew)
  obtain ⟨w8, hw8⟩ : ∃ x, World.drew w7 = x := ⟨_, rfl⟩
  rw [hw8] at hS0 HB8 ⊢;clear hw8;refine jk 0 (v:=?_) rfl (by kernel_rfl) (fun _ _ _=>id) (by rfl) ?_ hS0 ?_;rotate_left
  ·intro W hW;go_simp;try with_reducible rfl
  simp only [Act.put,j1,j2,j3,j4,j5,j6];refine jk 1 (v:=?_) rfl (by kernel_rfl) (fun _ _ _=>id) (by rfl) ?_ hS0 ?_;rotate_left
  ·intro W hW;go_simp;try with_reducible rfl
  simp only [Act.put,j1,j2,j3,j4,j5,j6];refine jk 2 (v:=?_) rfl (by kernel_rfl) (fun _ _ _=>id) (by rfl) ?_ hS0 ?_;rotate_left
  ·intro W hW;go_simp;try with_reducible rfl
  simp only [Act.put,j1,j2,j3,j4,j5,j6];refine jk 3 (v:=?_) rfl (by kernel_rfl) (fun _ _ _=>id) (by rfl) ?_ hS0 ?_;rotate_left
  ·intro W hW;go_simp;try with_reducible rfl
  simp only [Act.put,j1,j2,j3,j4,j5,j6];refine jk 4 (v:=?_) rfl (by kernel_rfl) (fun _ _ _=>id) (by rfl) ?_ hS0 ?_;rotate_left 1
  ·intro W hW;have c0 := hW.2;go_simp
   try with_reducible rfl
  simp only [Act.put,j1,j2,j3,j4,j5,j6];refine jk 5 (v:=?_) rfl (by kernel_rfl) (fun _ _ _=>id) (by rfl) ?_ hS0 ?_;rotate_left
  ·intro W hW;go_simp;try with_reducible rfl
  simp only [Act.put,j1,j2,j3,j4,j5,j6];refine jx 6 (v := .agg (byts 64 V2).toArray) rfl (by kernel_rfl) (fun _ _ _=>id) ?_ hS0 ?_
  ·exact yieldsIf_load_mid (by rfl) 162 (.tmp 10) rfl bB 0 rfl (byts 64 V2) (.array 64 5) (fun W hW => hW.1.range0) Tryz.arr36 rfl (size36 _)
  simp only [Act.put,j1,j2,j3,j4,j5,j6];refine wpAnyH_ready (rs := [7]) (by kernel_rfl) (by simp) (AllReadyH.cons rfl (fun KK hKK => ?_) AllReadyH.nil);go_simp;refine (HPu.out w8 HB8.out.gr).mono ?_;rintro e w9 ⟨rfl, hG, hkk⟩;have HB9 := jh (HB8.out.call hG hkk)
  replace hS0 : (fun W => Fl W bB 64 V2 ∧ W.cell? ⟨b, 0, none⟩ = some (.pointer (some ⟨q, 0, none⟩))) w9 := ⟨hS0.1.kf hkk (fun ha => by have := HB8.out.nin hB0; simp only [List.mem_cons, List.not_mem_nil, or_false, not_or] at this ha; omega), HB9.out.bd.c 0 _ rfl⟩
  clear hG hkk;refine hKK _ _ hS0 ?_;intro _;clear hKK KK
  try simp only [Act.put,j1,j2,j3,j4,j5,j6]
  refine jk 8 (v:=?_) rfl (by kernel_rfl) (fun _ _ _=>id) (by rfl) ?_ hS0 ?_;rotate_left
  ·intro W hW;go_simp;try with_reducible rfl
  simp only [Act.put,j1,j2,j3,j4,j5,j6];refine jk 9 (v:=?_) rfl (by kernel_rfl) (fun _ _ _=>id) (by rfl) ?_ hS0 ?_;rotate_left
  ·intro W hW;go_simp;try with_reducible rfl
  simp only [Act.put,j1,j2,j3,j4,j5,j6];refine wpAnyH_done (by kernel_rfl) ?_ _;clear hS0
  go_wp2_with fail
  go_ret2
  refine .inl ⟨Y, f, S, B, by rw [HMn.out]; rfl, ?_, HLy.out, HSc.out, Hf4.out⟩;rw [HY.out, HMn.out, HV.out, HV2.out];exact HB9.out.mono (Lm.le_refl _) (by omega)
 ·have HB2 := jh (HB1.out.trans hB2);have HLy := jh hLy;have HSc := jh hSc;have HAll := jh hall;have HNo := jh hno;clear hB2 hLy hSc hall hno HLA HS1 HB1
  go_wp2_with fail
  go_ret2
  exact .inr ⟨Y, f, S, B, rfl, HB2.out.mono (Lm.le_refl _) (by omega), HLy.out, HSc.out, HAll.out, HNo.out⟩
end Go.Proofs.YtgdapkbenmlabaaGreatDoor
namespace Go.Proofs.YtgdapkbenmlabaaGreatDoor
open Go.RowKit Go.Maps
variable {ln : Lm}
end Go.Proofs.YtgdapkbenmlabaaGreatDoor
namespace Go.Proofs.YtgdapkbenmlabaaGreatDoor
open Go.RowKit Go.Maps
variable {ln : Lm}
theorem results_tmt {P : Program} {fn : Func} {a p u : Tmp} {ty : TypeId} (h : fn.results = #[.tmp a, .cell p ty, .tmp u]) (tmps : Array Value) (w : World) (b : Nat) (cs : List Value) (d : TypeDesc)
  (hp : tmps.getD p undef = .pointer (some ⟨b, 0, none⟩)) (hc : w.rangeAt b 0 cs) (hu : P.underlying ty = some d) (hd : d.isRow = true) (hi : (P.info? ty).map (·.size) = some cs.length) :
  (results fn tmps).run P w = .ok (.tuple #[tmps.getD a undef, .agg cs.toArray, tmps.getD u undef]) w := by
 simp only [results, h];have hp' := hp;simp only [Array.getD_eq_getD_getElem?] at hp'
 simp [Sem.run_bind, Result.andThen, asAddr, hp', run_loadVar_mid w b 0 ty cs d hc hu hd hi]
theorem read_slot (b q p t m d gg lab B0 P0 M DA NB N K : Nat) (g : Cf.Ge) (Y : Nat → Nat → Int) (f : Nat → Int) (S : Nat → Bool) (B : Nat → Nat) (hF : Fi DA NB Y f S B) (o : Nat) (ho : o < 16384) (hS : S (o / 64) = true)
  (hK : K < 300000000) (hg : GG g B0 P0 M DA NB N) (w : World) (h : Bo w w b q p t m d gg lab g B0 NB N ln Y K f) :
  Calls Tryz.prog 177 #[.pointer (some ⟨b, 0, none⟩), .int .i64 o] w fun e w' => e = .returned (.tuple #[.int .u16 (B (o / 64)), .agg (byts 64 (Y (DA + (B (o / 64) - 1)))).toArray, .int .i64 0]) ∧ Bo w w' b q p t m d gg lab g B0 NB N ln Y (K + 3) f := by
 have hc : o / 64 < 256 := by omega
 have HWT := jh (fun x hx W => wayto_slot (o / 64) hc x hx W);have HAt := jh (fun W hW => at_slot (ln := ln) b q p t m d gg lab B0 P0 M DA NB N K g Y f S B hF (o / 64) ((okS_iff _).2 (by omega)) (by omega) hg W hW);have hv : vS S B (o / 64) = B (o / 64) := if_pos hS;rw [hv] at HAt;obtain ⟨hy1, hy2⟩ := hF.rng _ hS;have HB := jh h;have hN5 := hg.n512
 obtain ⟨y, hy⟩ : ∃ y, B (o / 64) = y := ⟨_, rfl⟩
 rw [hy] at HAt hy1 hy2 ⊢;have HGt := jh (fun W hW => gget_in (ln := ln) q p t m d gg lab B0 P0 M DA NB N (K + 2) g Y y hy1 hy2 (by omega) hg W hW)
 obtain ⟨V, hV⟩ : ∃ V, Y (DA + (y - 1)) = V := ⟨_, rfl⟩
 rw [hV] at HGt ⊢
 obtain ⟨yi, hyi⟩ : ∃ z : Int, (y : Int) = z := ⟨_, rfl⟩
 rw [hyi] at HGt HAt ⊢
 obtain ⟨oi, hoi⟩ : ∃ z : Int, (o : Int) = z := ⟨_, rfl⟩
 have ho0 : 0 ≤ oi := by omega
 have ho1 : oi < 16384 := by omega
 have HQ : Hid (oi / 64 = ((o / 64 : Nat) : Int)) := jh (by omega)
 obtain ⟨va, vb, vc, hwv⟩ : ∃ x y z : Int, wyS (o / 64) = .agg (wyc x y z).toArray := ⟨_, _, _, rfl⟩
 rw [hwv] at HWT HAt;rw [hoi];clear hc hF hS hv h hg hy hV hyi hoi hwv hy1 hy2
 go_enter Tryz.func177, Tryz.ntmps177
 go_upto_region 1 with (first | (refine wpList_alloc_byts (w := w) rfl 162 64 rfl Tryz.zero36 ?_; intro w0 F0 hb0 hz0; have HQ0 := jh hb0; clear hb0))
 obtain ⟨bR, hbR⟩ : ∃ x, w.heap.size = x := ⟨_, rfl⟩
 have hR0 : w.heap.size ≤ bR := by omega
 have HB0 := jh (HB.out.keep HQ0.out);rw [hbR] at F0
 try rw [hbR]
 clear hbR HQ0 HB hz0
 go_wp2_with fail
 refine (HWT.out _ HQ.out w0).mono ?_;rintro e w1 ⟨rfl, hb⟩;have HB1 := jh (HB0.out.keep hb);have F1 := jh (F0.out.below hb F0.out.lt);clear hb HWT HB0 F0
 go_wp2_with fail
 refine (HAt.out w1 HB1.out.self).mono ?_;rintro e w2 ⟨rfl, hB2⟩;have HB2 := jh (HB1.out.trans hB2);have F2 := jh (F1.out.kf hB2.kf (fun ha => by have := HB1.out.nin hR0; simp only [List.mem_cons, List.not_mem_nil, or_false, not_or] at this ha; omega));clear hB2 HAt HB1 F1;have hqe := HB2.out.bd.c 0 _ rfl
 go_wp2_with fail
 refine (HGt.out w2 HB2.out.gr).mono ?_;rintro e w3 ⟨rfl, hG, hkk⟩;have HB3 := jh (HB2.out.call hG hkk);have F3 := jh (F2.out.kf hkk (fun ha => by have := HB2.out.nin hR0; simp only [List.mem_cons, List.not_mem_nil, or_false, not_or] at this ha; omega));have hs3 : w.heap.size ≤ w3.heap.size := HB3.out.kf.size;clear hG hkk HGt HB2 hqe F2
 go_upto_region 5 with (first | (refine wpList_alloc_byts (w := w3) rfl 162 64 rfl Tryz.zero36 ?_; intro w5 F5 hb5 hz5; simp only [Act.put,j1,j2,j3,j4,j5,j6]; refine wpList_store_blk rfl (.tmp 9) (.tmp 29) rfl w3.heap.size 0 64 (fun _ => 0) V F5.out (by omega) rfl rfl ?_; intro w6 F6 HK6; have HB5 := jh hb5; clear hb5 F5))
 obtain ⟨bB, hbB⟩ : ∃ x, w3.heap.size = x := ⟨_, rfl⟩
 have hB0 : w.heap.size ≤ bB := by omega
 have hF3 := F3.out.lt;have HB6 := jh ((HB3.out.keep HB5.out).new HK6.out (by omega));have G6 := jh ((F3.out.below HB5.out F3.out.lt).kp HK6.out (by omega) (by omega));have F6' := jh (F6.out.congr (fun j hj => upd_zero 64 V j hj _));rw [hbB] at F6' hF3
 try rw [hbB]
 clear F6 HK6 HB5 HB3 F3 hbB hz5 hs3;refine wp_region_held (S := fun W => Fl W bB 64 V ∧ ∃ F, Fl W bR 64 F) (by kernel_rfl) ?_;change wpAnyH _ _ _ _ _ _ _ _ (World.drew _)
 have hS0 : (fun W => Fl W bB 64 V ∧ ∃ F, Fl W bR 64 F) w6.drew := ⟨F6'.out.below (Below.refl _ _).drew F6'.out.lt, _, G6.out.below (Below.refl _ _).drew G6.out.lt⟩
 have HB7 := jh (HB6.out.keep (Below.refl _ _).drew)
 obtain ⟨w7, hw7⟩ : ∃ x, World.drew w6 = x := ⟨_, rfl⟩
 rw [hw7] at hS0 HB7 ⊢;clear hw7;refine jk 0 (v:=?_) rfl (by kernel_rfl) (fun _ _ _=>id) (by rfl) ?_ hS0 ?_;rotate_left
 ·intro W hW;go_simp;try with_reducible rfl
 simp only [Act.put,j1,j2,j3,j4,j5,j6];refine jx 1 (v := .agg (byts 64 V).toArray) rfl (by kernel_rfl) (fun _ _ _=>id) ?_ hS0 ?_
 ·exact yieldsIf_load_mid (by rfl) 162 (.tmp 9) rfl bB 0 rfl (byts 64 V) (.array 64 5) (fun W hW => hW.1.range0) Tryz.arr36 rfl (size36 _)
 simp only [Act.put,j1,j2,j3,j4,j5,j6];refine jk 2 (v:=?_) rfl (by kernel_rfl) (fun _ _ _=>id) (by rfl) ?_ hS0 ?_;rotate_left
 ·intro W hW;go_simp;try with_reducible rfl
 simp only [Act.put,j1,j2,j3,j4,j5,j6];refine jk 3 (v:=?_) rfl (by kernel_rfl) (fun _ _ _=>id) (by rfl) ?_ hS0 ?_;rotate_left
 ·intro W hW;go_simp;try with_reducible rfl
 simp only [Act.put,j1,j2,j3,j4,j5,j6];obtain ⟨FF, hFF⟩ := hS0.2;have PF := jh (hFF.stored V);refine wpAnyH_ready (rs := [4]) (by kernel_rfl) (by simp) (AllReadyH.cons rfl (fun KK hKK => ?_) AllReadyH.nil);refine step_store_mid rfl 162 _ _ rfl bR 0 (byts 64 V).toArray rfl rfl (by rw [byts_size]; exact hFF.there 0 64 (Nat.le_refl _)) (size36' _) (byts_all _ _) ?_;have hk : Kp w7 (w7.setCells bR 0 (byts 64 V)) bR bR := (Kp.refl w7 bR bR).setCells bR 0 (.inl rfl) _
 have hS1 : (fun W => Fl W bB 64 V ∧ ∃ F, Fl W bR 64 F) (w7.setCells bR 0 (byts 64 V)) := ⟨hS0.1.kp hk (by omega) (by omega), _, PF.out⟩
 have HB8 := jh (HB7.out.new hk hR0)
 obtain ⟨w8, hw8⟩ : ∃ x, w7.setCells bR 0 (byts 64 V) = x := ⟨_, rfl⟩
 change KK _ (w7.setCells bR 0 (byts 64 V));rw [hw8] at hS1 PF HB8 ⊢;clear hS0 hw8 hk hFF HB7;refine hKK _ _ hS1 ?_;intro _;clear hKK KK;have hS0 := hS1;clear hS1
 try simp only [Act.put,j1,j2,j3,j4,j5,j6]
 refine jk 5 (v:=?_) rfl (by kernel_rfl) (fun _ _ _=>id) (by rfl) ?_ hS0 ?_;rotate_left
 ·intro W hW;go_simp;try with_reducible rfl
 simp only [Act.put,j1,j2,j3,j4,j5,j6];refine wpAnyH_done (by kernel_rfl) ?_ _;clear hS0
 go_wp2_with fail
 exact bodyPost_ret_by (results_tmt rfl _ _ bR _ (.array 64 5) rfl PF.out.range0 Tryz.arr36 rfl (size36 _)) rfl ⟨rfl, HB8.out⟩
theorem Tryz.buildBody (q : Nat) (f : Nat → Int) (w : World) : (Instr.build 268 #[(0, .pointer (some ⟨q, 0, none⟩)), (1, .agg (ndc f).toArray)]).run Tryz.prog w = .ok (.agg (bdc q f).toArray) w := by kernel_rfl
theorem fopen_in (q p t m d gg lab B0 P0 M DA NB N K : Nat) (g : Cf.Ge) (Y V : Nat → Nat → Int) (x : Nat) (h1 : 1 ≤ x) (h2 : x ≤ M) (hz : ¬ V x 0 = 0) (hK : K < 500000000) (hI : Tab P0 M Y V) (hg : GG g B0 P0 M DA NB N) (w : World) (h : Gr w q p t m d gg lab g B0 NB N ln Y K) :
  Calls Tryz.prog 128 #[.pointer (some ⟨q, 0, none⟩), .int .i64 x] w fun e w' => ∃ b, e = .returned (.tuple #[.pointer (some ⟨b, 0, none⟩), .int .i64 0]) ∧ w.heap.size ≤ b ∧ Gr w' q p t m d gg lab g B0 NB N ln Y (K + 1) ∧ Vl w' b (bdc q (V x)) ∧ Kf w w' [t, m, d, gg] := by
 obtain ⟨d27, hu, hd⟩ := Tryz.desc27;have HU := jh hu;have HD := jh hd;have HN := jh (gnode_in (ln := ln) q p t m d gg lab B0 P0 M DA NB N K g Y V x h1 h2 (by omega) hI hg w h)
 obtain ⟨f, hf⟩ : ∃ f, V x = f := ⟨_, rfl⟩
 rw [hf] at hz HN ⊢;have HZ := jh (show (ndc f)[0]? = some (.int .u8 (f 0)) from rfl)
 obtain ⟨kd0, hkd⟩ : ∃ z, f 0 = z := ⟨_, rfl⟩
 rw [hkd] at hz HZ;clear h hg h1 h2 hf hI hu hd hkd
 go_enter Tryz.func128, Tryz.ntmps128
 go_wp2_with fail
 refine HN.out.mono ?_;rintro e w1 ⟨rfl, hG, hk⟩;have HG1 := jh hG;have HK1 := jh hk;clear hG hk HN
 go_upto_region 2 with (first | (refine wpList_alloc_list (w := w1) rfl 77 rfl (ndc zpt) Tryz.zero27 ?_; intro w4 F4 hb4 hz4; simp only [Act.put,j1,j2,j3,j4,j5,j6]; refine wpList_store_list rfl 77 (.tmp 6) (.tmp 12) rfl w1.heap.size (ndc zpt) (ndc f) rfl rfl F4.out rfl (size27 _) (ndc_one _) ?_; intro w5 F5 HK5; have HQ4 := jh hb4; clear hb4 F4))
 obtain ⟨bN, hbN⟩ : ∃ x, w1.heap.size = x := ⟨_, rfl⟩
 have HG5 := jh ((HG1.out.keep HQ4.out).kp HK5.out (HG1.out.notin (Nat.le_refl _)));have HK6 := jh ((HK1.out.more HQ4.out).new HK5.out HK1.out.size);rw [hbN] at F5
 try rw [hbN]
 clear HG1 HK1 HQ4 HK5 hbN hz4;have c0 := F5.out.c 0 _ HZ.out;have HR5 := jh F5.out.range0
 go_upto_region 6 with fail
 clear c0
 go_wp2_with (first | (refine wpList_load_mid rfl 77 _ rfl bN 0 rfl (ndc f) d27 HR5.out HU.out HD.out (size27 _) ?_) | (refine wpList_bld2 rfl 268 0 1 (.tmp 20) (.tmp 21) rfl (.pointer (some ⟨q, 0, none⟩)) (.agg (ndc f).toArray) rfl rfl _ (Tryz.buildBody q f _) ?_) | (refine wpList_box_list (w := w5) rfl 268 _ rfl (bdc q f) rfl ?_; intro w6 F6 hb6 hz6; have HQ6 := jh hb6; clear hb6))
 go_ret2
 exact ⟨_, rfl, HK6.out.size, HG5.out.keep HQ6.out, F6.out, HK6.out.more HQ6.out⟩
end Go.Proofs.YtgdapkbenmlabaaGreatDoor
namespace Go.Proofs.YtgdapkbenmlabaaGreatDoor
open Go.RowKit Go.Maps
def ndS (n c : Nat) : Bool := if c < 2000 then decide (c < n) else if c = 2000 then decide (6 < n) else if c = 2001 then decide (38 < n) else decide (38 + 32 * (c - 2002) < n)
theorem ndS_iff (n c : Nat) : ndS n c = true ↔ (c < 2000 ∧ c < n) ∨ (c = 2000 ∧ 6 < n) ∨ (c = 2001 ∧ 38 < n) ∨ (2002 ≤ c ∧ 38 + 32 * (c - 2002) < n) := by
 unfold ndS
 split
 ·simp
  omega
 ·split
  ·simp
   omega
  ·split
   ·simp
    omega
   ·simp
    omega
theorem ndS_no (n c : Nat) : ndS n c = false ↔ ¬ ((c < 2000 ∧ c < n) ∨ (c = 2000 ∧ 6 < n) ∨ (c = 2001 ∧ 38 < n) ∨ (2002 ≤ c ∧ 38 + 32 * (c - 2002) < n)) := by
 rw [← ndS_iff]
 simp
theorem chS_cases (c : Nat) (hc : c < 256) (c' : Nat) : (∃ i, i ≤ lenC c ∧ c' = chS c i) ↔ c' = c ∨ (6 ≤ c ∧ c < 38 ∧ c' = 2000) ∨ (38 ≤ c ∧ (c' = 2001 ∨ c' = 2002 + (c - 38) / 32)) := by
 have hl : c < 6 ∧ lenC c = 0 ∨ 6 ≤ c ∧ c < 38 ∧ lenC c = 1 ∨ 38 ≤ c ∧ lenC c = 2 := by
  unfold lenC
  split
  ·omega
  ·split <;> omega
 rcases hl with ⟨h, e⟩ | ⟨h, h', e⟩ | ⟨h, e⟩
 ·have h0 : chS c 0 = c := by unfold chS; rw [e, if_pos rfl]
  rw [e]
  constructor
  ·rintro ⟨i, hi, rfl⟩
   obtain rfl : i = 0 := by omega
   exact .inl h0
  ·rintro (rfl | h | h)
   ·exact ⟨0, Nat.le_refl _, h0.symm⟩
   ·omega
   ·omega
 ·have hp : parS c = 2000 := by unfold parS; rw [if_pos h']
  have h1 : chS c 1 = c := by unfold chS; rw [e, if_pos rfl]
  have h0 : chS c 0 = 2000 := by unfold chS; rw [e, if_neg (by decide), if_pos rfl, hp]
  rw [e]
  constructor
  ·rintro ⟨i, hi, rfl⟩
   have hi2 : i = 0 ∨ i = 1 := by omega
   rcases hi2 with rfl | rfl
   ·exact .inr (.inl ⟨h, h', h0⟩)
   ·exact .inl h1
  ·rintro (rfl | ⟨-, -, rfl⟩ | h)
   ·exact ⟨1, Nat.le_refl _, h1.symm⟩
   ·exact ⟨0, by decide, h0.symm⟩
   ·omega
 ·have hp : parS c = 2002 + (c - 38) / 32 := by unfold parS; rw [if_neg (by omega), if_pos (by omega)]
  have h2 : chS c 2 = c := by unfold chS; rw [e, if_pos rfl]
  have h1 : chS c 1 = 2002 + (c - 38) / 32 := by unfold chS; rw [e, if_neg (by decide), if_pos rfl, hp]
  have h0 : chS c 0 = 2001 := by unfold chS; rw [e, if_neg (by decide), if_neg (by decide)]
  rw [e]
  constructor
  ·rintro ⟨i, hi, rfl⟩
   have hi2 : i = 0 ∨ i = 1 ∨ i = 2 := by omega
   rcases hi2 with rfl | rfl | rfl
   ·exact .inr (.inr ⟨h, .inl h0⟩)
   ·exact .inr (.inr ⟨h, .inr h1⟩)
   ·exact .inl h2
  ·rintro (rfl | h | ⟨-, rfl | rfl⟩)
   ·exact ⟨2, Nat.le_refl _, h2.symm⟩
   ·omega
   ·exact ⟨0, by decide, h0.symm⟩
   ·exact ⟨1, by decide, h1.symm⟩
theorem ndS_grow (n c : Nat) (hc : c < 256) (hn : c ≤ n) (S : Nat → Bool) (hS : ∀ c', S c' = true ↔ ndS n c' = true ∨ ∃ i, i ≤ lenC c ∧ c' = chS c i) : S = ndS (max n (c + 1)) := by
 funext c'
 rw [Bool.eq_iff_iff, hS, chS_cases c hc, ndS_iff, ndS_iff];omega
def ctF (DA : Nat) (Y : Nat → Nat → Int) (b : Nat → Nat) (i : Nat) : Int := Y (DA + (b (i / 64) - 1)) (i % 64)
structure Wx (B0 DA NB : Nat) (Y : Nat → Nat → Int) (S : Nat → Bool) (b : Nat → Nat) (Y' : Nat → Nat → Int) (S' : Nat → Bool) (b' : Nat → Nat) : Prop where
 n : ∀ c, S c = true → S' c = true
 b : ∀ c, S c = true → b' c = b c
 y : ∀ z, z ≠ B0 → (∀ c, S' c = true → z ≠ DA + (b' c - 1)) → Y' z = Y z
 u : ∀ j, j < NB → (bt Y' B0 j = true ↔ bt Y B0 j = true ∨ ∃ c, S' c = true ∧ S c = false ∧ b' c = j + 1)
 fr : ∀ c, S' c = true → S c = false → bt Y B0 (b' c - 1) = false
theorem Wx.refl (B0 DA NB : Nat) (Y : Nat → Nat → Int) (S : Nat → Bool) (b : Nat → Nat) : Wx B0 DA NB Y S b Y S b :=
 ⟨fun _ h => h, fun _ _ => rfl, fun _ _ _ => rfl, (Ex.refl B0 DA NB Y S b).u, (Ex.refl B0 DA NB Y S b).fr⟩
theorem Wx.step {B0 DA NB : Nat} {Y0 Y Y1 : Nat → Nat → Int} {S0 S S1 : Nat → Bool} {b0 b b1 : Nat → Nat} {f1 : Nat → Int} (hB : B0 < DA) (hNB : NB ≤ 512) (h : Wx B0 DA NB Y0 S0 b0 Y S b) (k : Ex B0 DA NB Y S b Y1 S1 b1) (hFu : Fu B0 DA NB Y1 f1 S1 b1) (c : Nat) (hc : S1 c = true) (hcd : c < 2000) (F : Nat → Int) :
  Wx B0 DA NB Y0 S0 b0 (vput (DA + (b1 c - 1)) F Y1) S1 b1 ∧ Fu B0 DA NB (vput (DA + (b1 c - 1)) F Y1) f1 S1 b1 := by
 have hbt : ∀ j, j < NB → bt (vput (DA + (b1 c - 1)) F Y1) B0 j = bt Y1 B0 j := fun j hj => bt_put _ _ _ _ _ (by omega);refine ⟨⟨fun c' hc' => k.n c' (h.n c' hc'), fun c' hc' => (k.b c' (h.n c' hc')).trans (h.b c' hc'), fun z hz hf => ?_, fun j hj => ?_, fun c' hc' hn => ?_⟩, ⟨hFu.fi.congr fun c' hc' h2 => ?_, fun c' hc' => ?_⟩⟩
 ·rw [vput_ne _ _ (fun e => hf c hc e.symm), k.y z hz fun c' hc' _ => hf c' hc'];refine h.y z hz fun c' hc' => ?_;have := hf c' (k.n c' hc')
  rwa [k.b c' hc'] at this
 ·rw [hbt j hj, k.u j hj, h.u j hj]
  constructor
  ·rintro ((h1 | ⟨c', h1, h2, h3⟩) | ⟨c', h1, h2, h3⟩)
   ·exact .inl h1
   ·exact .inr ⟨c', k.n c' h1, h2, (k.b c' h1).trans h3⟩
   ·refine .inr ⟨c', h1, ?_, h3⟩
    cases hh : S0 c'
    ·rfl
    ·rw [h.n c' hh] at h2
     cases h2
  ·rintro (h1 | ⟨c', h1, h2, h3⟩)
   ·exact .inl (.inl h1)
   ·cases hh : S c'
    ·exact .inr ⟨c', h1, hh, h3⟩
    ·exact .inl (.inr ⟨c', hh, h2, (k.b c' hh).symm.trans h3⟩)
 ·cases h1 : S c'
  ·have hf := k.fr c' hc' h1;have r := hFu.fi.rng c' hc'
   cases hh : bt Y0 B0 (b1 c' - 1)
   ·rfl
   ·rw [(h.u (b1 c' - 1) (by omega)).2 (.inl hh)] at hf
    cases hf
  ·rw [k.b c' h1];exact h.fr c' h1 hn
 ·refine vput_ne _ _ fun he => ?_;have r1 := hFu.fi.rng c hc;have r2 := hFu.fi.rng c' hc';have := hFu.fi.inj c c' hc hc' (by omega);omega
 ·have r := hFu.fi.rng c' hc';rw [hbt _ (by omega)];exact hFu.us c' hc'
theorem Ex.data {B0 DA NB : Nat} {Y Y1 : Nat → Nat → Int} {S S1 : Nat → Bool} {b b1 : Nat → Nat} (hB : B0 < DA) (k : Ex B0 DA NB Y S b Y1 S1 b1) (rng : ∀ c, S1 c = true → 1 ≤ b1 c ∧ b1 c ≤ NB) (inj : ∀ c c', S1 c = true → S1 c' = true → b1 c = b1 c' → c = c')
  (c : Nat) (hc : S c = true) (hcd : c < 2000) : Y1 (DA + (b1 c - 1)) = Y (DA + (b c - 1)) := by
 rw [k.y _ (by omega) fun c' hc' ho he => ?_, k.b c hc];have r1 := rng c (k.n c hc);have r2 := rng c' hc';obtain rfl := inj c c' (k.n c hc) hc' (by omega);rcases ho with ho | ho
 ·omega
 ·rw [hc] at ho
  cases ho
theorem ct_step {B0 DA NB : Nat} {Y Y1 : Nat → Nat → Int} {S1 : Nat → Bool} {b b1 : Nat → Nat} {f1 : Nat → Int} (hB : B0 < DA) (n : Nat) (k : Ex B0 DA NB Y (ndS n) b Y1 S1 b1) (hFu : Fu B0 DA NB Y1 f1 S1 b1) (off j mn : Nat) (s : Nat → Int) (hc : (off + j) / 64 < 256) (hS1 : S1 = ndS (max n ((off + j) / 64 + 1))) (ho : off + j ≤ 64 * n) (hmn : (off + j) % 64 + mn ≤ 64)
  (C : Nat → Int) (hC : ∀ i, 64 * n ≤ i → C i = 0) (hct : ∀ i, i < 64 * n → i < 16384 → ctF DA Y b i = if off ≤ i ∧ i < off + j then s (i - off) else C i) :
  ∀ i, i < 64 * (max n ((off + j) / 64 + 1)) → i < 16384 → ctF DA (vput (DA + (b1 ((off + j) / 64) - 1)) (upd (Y1 (DA + (b1 ((off + j) / 64) - 1))) ((off + j) % 64) mn (fun i => s (j + i))) Y1) b1 i = if off ≤ i ∧ i < off + (j + mn) then s (i - off) else C i := by
 intro i hi hi2
 have hi1 : S1 (i / 64) = true := by
  rw [hS1, ndS_iff];omega
 have hc1 : S1 ((off + j) / 64) = true := by
  rw [hS1, ndS_iff];omega
 have hold : ∀ i, i < 64 * n → i < 16384 → Y1 (DA + (b1 (i / 64) - 1)) (i % 64) = if off ≤ i ∧ i < off + j then s (i - off) else C i := fun i h1 h2 => by
  rw [k.data hB hFu.fi.rng hFu.fi.inj (i / 64) ((ndS_iff _ _).2 (by omega)) (by omega)];exact hct i h1 h2
 have hnew : 64 * n ≤ i → Y1 (DA + (b1 (i / 64) - 1)) (i % 64) = 0 := fun h1 => by
  rw [k.z (i / 64) hi1 ((ndS_no _ _).2 (by omega)) (by omega)]
 unfold ctF
 by_cases e : i / 64 = (off + j) / 64
 ·rw [e, vput_at];unfold upd
  by_cases h1 : (off + j) % 64 ≤ i % 64 ∧ i % 64 < (off + j) % 64 + mn
  ·rw [if_pos h1, if_pos (by omega)]
   show s (j + (i % 64 - (off + j) % 64)) = s (i - off)
   congr 1
   omega
  ·rw [if_neg h1, ← e]
   by_cases h2 : i < 64 * n
   ·rw [hold i h2 hi2]
    by_cases h3 : off ≤ i ∧ i < off + j
    ·rw [if_pos h3, if_pos (by omega)]
    ·rw [if_neg h3, if_neg (by omega)]
   ·rw [hnew (by omega), if_neg (by omega), hC i (by omega)]
 ·have hz : DA + (b1 ((off + j) / 64) - 1) ≠ DA + (b1 (i / 64) - 1) := fun he => by
   have r1 := hFu.fi.rng _ hi1;have r2 := hFu.fi.rng _ hc1;exact e (hFu.fi.inj _ _ hi1 hc1 (by omega))
  rw [vput_ne _ _ hz]
  have h2 : i < 64 * n := by omega
  rw [hold i h2 hi2]
  by_cases h3 : off ≤ i ∧ i < off + j
  ·rw [if_pos h3, if_pos (by omega)]
  ·rw [if_neg h3, if_neg (by omega)]
end Go.Proofs.YtgdapkbenmlabaaGreatDoor
