import Derived.Test.YtgdapkbenmlabaaGreatDoorC10
import Derived.Laws.AppendOwn
import Derived.Laws.OwnMore
/- The map of bits: each, Free, List, Count. -/
set_option linter.unusedSimpArgs false
set_option linter.unusedVariables false
set_option maxHeartbeats 40000000
set_option maxRecDepth 100000
namespace Go.Proofs.YtgdapkbenmlabaaGreatDoor
open Go.RowKit Go.Maps
variable {N : Nat} {ln : Lm}
structure Kb (B : Nat) (w w' : World) (q : Nat) : Prop where
 os : w'.os = w.os
 tape : w'.tape = w.tape
 output : w'.output = w.output
 size : w.heap.size ≤ w'.heap.size
 block : ∀ k, k < B → k ≠ q → w'.heap[k]? = w.heap[k]?
theorem Kb.cell {B : Nat} {w w' : World} {q : Nat} (h : Kb B w w' q) {p : Addr} (hp : p.block < B) (h1 : p.block ≠ q) : w'.cell? p = w.cell? p := World.cell?_of_block (w := w) (h.block p.block hp h1)
theorem Kb.frozen {B : Nat} {w w' : World} {q : Nat} (h : Kb B w w' q) {p : Addr} (hp : p.block < B) (h1 : p.block ≠ q) : w'.frozen? p = w.frozen? p := World.frozen?_of_block (w := w) (h.block p.block hp h1)
theorem Kb.fl {B : Nat} {w w' : World} {q b N : Nat} {f : Nat → Int} (h : Kb B w w' q) (hf : Fl w b N f) (hb : b < B) (hq : b ≠ q) : Fl w' b N f :=
 ⟨Nat.lt_of_lt_of_le hf.lt h.size, fun j hj => (h.cell (p := ⟨b, j, none⟩) hb hq).trans (hf.c j hj), fun j hj => (h.frozen (p := ⟨b, j, none⟩) hb hq).trans (hf.z j hj)⟩
theorem Kb.kf {B : Nat} {w0 w w' : World} {q : Nat} {L : List Nat} (h : Kb B w w' q) (k : Kf w0 w L) (hB : w0.heap.size ≤ B) (hq : q ∈ L) : Kf w0 w' L :=
 ⟨h.os.trans k.os, h.tape.trans k.tape, h.output.trans k.output, Nat.le_trans k.size h.size, fun i hi hn => (h.block i (by omega) (fun e => hn (e ▸ hq))).trans (k.block i hi hn)⟩
theorem Kb.mb {B : Nat} {w w' : World} {q p t fi n : Nat} (h : Kb B w w' q) (hm : Mb w p t fi n) (hb : p < B) (hq : p ≠ q) : Mb w' p t fi n :=
 ⟨Nat.lt_of_lt_of_le hm.lt h.size, (h.cell (p := ⟨p, 0, none⟩) hb hq).trans hm.c0, (h.cell (p := ⟨p, 1, none⟩) hb hq).trans hm.c1, (h.cell (p := ⟨p, 2, none⟩) hb hq).trans hm.c2, hm.f32⟩
theorem Kb.rd {B : Nat} {w w' : World} {q t m d g N K : Nat} {ln : Lm} {Y : Nat → Nat → Int} (h : Kb B w w' q) (hr' : Rd w t m d g N ln Y K) (hB : t < B ∧ m < B ∧ d < B ∧ g < B) (hq : q ∉ [t, m, d, g]) : Rd w' t m d g N ln Y K := by
 obtain ⟨T, D, s, ht, hd, hs, ha, hA, hY, hl, hT⟩ := hr'.ex;obtain ⟨b1, b2, b3, b4⟩ := hB;simp only [List.mem_cons, List.not_mem_nil, or_false, not_or] at hq;obtain ⟨q1, q2, q3, q4⟩ := hq;have ct : ∀ i, w'.cell? ⟨t, i, none⟩ = w.cell? ⟨t, i, none⟩ := fun i => h.cell (p := ⟨t, i, none⟩) b1 (fun e => q1 e.symm);have cd : ∀ i, w'.cell? ⟨d, i, none⟩ = w.cell? ⟨d, i, none⟩ := fun i => h.cell (p := ⟨d, i, none⟩) b3 (fun e => q3 e.symm);have zt : ∀ i, w'.frozen? ⟨t, i, none⟩ = w.frozen? ⟨t, i, none⟩ := fun i => h.frozen (p := ⟨t, i, none⟩) b1 (fun e => q1 e.symm);have zd : ∀ i, w'.frozen? ⟨d, i, none⟩ = w.frozen? ⟨d, i, none⟩ := fun i => h.frozen (p := ⟨d, i, none⟩) b3 (fun e => q3 e.symm)
 have hD : Dk w' d g s := ⟨Nat.lt_of_lt_of_le hd.lt h.size, hd.ne, (cd 0).trans hd.c0, (cd 1).trans hd.c1, (cd 2).trans hd.c2, (cd 3).trans hd.c3, (cd 4).trans hd.c4, (cd 5).trans hd.c5, (zd 1).trans hd.z1, (zd 2).trans hd.z2, (zd 3).trans hd.z3, (zd 4).trans hd.z4, (zd 5).trans hd.z5, h.fl hd.fl b4 (fun e => q4 e.symm)⟩
 have hTx : Tx w' t m d 1 T 0 := ⟨⟨Nat.lt_of_lt_of_le ht.lg.lt h.size, (ct 0).trans ht.lg.c0, (ct 1).trans ht.lg.c1⟩, (ct 2).trans ht.c2, (ct 3).trans ht.c3, (zt 3).trans ht.z3, ht.mp.block (h.block m b2 (fun e => q2 e.symm)), ht.ne⟩
 exact ⟨⟨T, D, s, hTx, hD, hs, ha, hA, hY, hl, hT⟩, hr'.n1, hr'.n2, hr'.n3, hr'.n4, hr'.vb, hr'.h32, hr'.hN⟩
theorem each_any (p t m d g fi n K fk q : Nat) (Y : Nat → Nat → Int) (Inv : Nat → World → Prop) (Fin' : World → Prop) (hf : fi ≤ 65536) (hn : n ≤ 65536) (hx : ∀ i, i < n → fi + i / 512 < N) (hK : K < 600000000) (w : World) (hm : Mb w p t fi n) (hr : Rd w t m d g N ln Y K)
  (hp : p ∉ [t, m, d, g]) (hq : q ∉ [p, t, m, d, g]) (hql : q < w.heap.size)
  (hfk : ∀ args W, (callFunc fk args).run Tryz.prog W = .ok (.enter fk args) W)
  (h0 : ∀ W, Below w.heap.size w W → Inv 0 W)
  (hs : ∀ i W W', Inv i W → Kf W W' [t, m, d, g, w.heap.size] → Inv i W')
  (hc : ∀ i W, i < n → Inv i W → w.heap.size < W.heap.size → Calls Tryz.prog fk #[.int .i64 i, .bool (bitOf (Y (fi + i / 512)) i), .pointer (some ⟨q, 0, none⟩)] W fun e w' => ∃ c, e = .returned (.bool c) ∧ Kb (w.heap.size + 1) W w' q ∧ if c = true then Inv (i + 1) w' else Fin' w') :
  Calls Tryz.prog 178 #[.pointer (some ⟨p, 0, none⟩), .func (.func fk) #[] #[.pointer (some ⟨q, 0, none⟩)]] w fun e w' => e = .returned (.int .i64 0) ∧ Rd w' t m d g N ln Y (K + 200) ∧ Kf w w' [t, m, d, g, q] ∧ (Inv n w' ∨ Fin' w') := by
 have hf32 := hm.f32;have HM := jh hm;have HR := jh hr;have c2 := hm.c2;have hpl := hm.lt;have hlts := hr.lts;have HSt := jh hs;have HC := jh hc;have H0 := jh h0;have HXx := jh hx;have HTb := jh hr.vb
 obtain ⟨hq1, hq2, hq3, hq4, hq5⟩ : q ≠ p ∧ q ≠ t ∧ q ≠ m ∧ q ≠ d ∧ q ≠ g := by simpa using hq
 clear hm hr hs hc h0 hx hq
 have h0n : (0 : Int) ≤ n := by omega
 have h1n : (n : Int) ≤ 65536 := by omega
 go_enter Tryz.func178, Tryz.ntmps178
 go_wp2_with (refine wpList_alloc_byts rfl 162 64 rfl Tryz.zero36 ?_; intro w1 F1 hb1 hz1; have HF1 := F1; have HK1 := jh (Kf.of_below hb1 [t, m, d, g, q]); have HM1 := jh (HM.out.keep hb1); have HR1 := jh (HR.out.keep hb1); have HI1 := jh (H0.out w1 hb1); replace c2 := HM1.out.c2; clear hb1 hz1 F1)
 obtain ⟨b5, hb5⟩ : ∃ b, w.heap.size = b := ⟨_, rfl⟩
 have hb5' : w.heap.size ≤ b5 := by omega
 rw [hb5] at HF1 hpl hlts hql HSt HC ⊢;clear hb5 H0 HM HR c2
 go_loopw [6, 7, 14] (fun _ _ i wr => ∃ k : Nat, k ≤ n ∧ i = .int .i64 k ∧ Mb wr p t fi n ∧ Rd wr t m d g N ln Y (K + (k + 511) / 512) ∧ (∃ F, Fl wr b5 64 F ∧ (k % 512 ≠ 0 → F = Y (fi + k / 512)) ∧ Byt F) ∧ Inv k wr ∧ Kf w wr [t, m, d, g, q] ∧ b5 < wr.heap.size) (fun _ _ i _ => n - (Go.RowKit.intOf i).toNat)
 case atStart => exact ⟨0, by omega, rfl, HM1.out, HR1.out, ⟨_, HF1.out, fun h => absurd rfl h, byt_zero⟩, HI1.out, HK1.out, HF1.out.lt⟩
 case round =>
  obtain ⟨k, hk, rfl, hM, hR, ⟨F, hF, hFv, hFb⟩, hI, hKf, hz⟩ := hrel;have HM0 := jh hM;have HR0 := jh hR;have HF0 := jh hF;have HFv := jh hFv;have HFb := jh hFb;have HI0 := jh hI;have HK0 := jh hKf;clear hM hR hF hFv hFb hI hKf HM1 HR1 HF1 HI1 HK1
  have hk0 : (0 : Int) ≤ k := by omega
  have hkn : (k : Int) ≤ 65536 := by omega
  obtain ⟨wX, rfl⟩ : ∃ x, x = wr := ⟨wr, rfl⟩
  by_cases hlt : k < n
  ·have hlti : (k : Int) < n := by omega
   by_cases hm : k % 512 = 0
   ·have hmi : (k : Int) % 512 = 0 := by omega
    have HP := jh (fun W h => place_any p t fi n k hf (by omega) W h);have HG := jh (fun W (h : Rd W t m d g N ln Y (K + (k + 511) / 512)) => get6 t m d g (K + (k + 511) / 512) Y (fi + k / 512) (by omega) (HXx.out k hlt) (by omega) W h);have HVb := jh (HTb.out (fi + k / 512))
    have HVe : Hid ((k + 1) % 512 ≠ 0 → Y (fi + k / 512) = Y (fi + (k + 1) / 512)) := fun h => by rw [show (k + 1) / 512 = k / 512 by omega]
    have HIs := jh (isset_any (Y (fi + k / 512)) HVb.out k (by omega))
    obtain ⟨V, hV⟩ : ∃ V, Y (fi + k / 512) = V := ⟨_, rfl⟩
    have HCk := jh (fun W => HC.out k W hlt);rw [hV] at HG HVb HVe HIs HCk
    obtain ⟨X, hX⟩ : ∃ X, fi + k / 512 = X := ⟨_, rfl⟩
    rw [hX] at HG HP;clear hV hX HC;have HC := jh HCk.out;clear HCk
    go_wp2_with fail
    obtain ⟨w1, rfl⟩ : ∃ x, x = wX := ⟨wX, rfl⟩
    have HM1 := jh HM0.out;have HR1 := jh HR0.out;have HF1 := HF0;have HK1 := jh HK0.out;have HI1 := jh HI0.out;clear HM0 HR0 HF0 HK0 HI0 HFv HFb;refine wp_region_held (S := fun W => Mb W p t fi n) (by kernel_rfl) ?_;change wpAnyH _ _ _ _ _ _ _ _ (World.drew _);have hS0 : Mb w1.drew p t fi n := HM1.out.keep (Below.refl _ _).drew;have HI2 := jh (HSt.out k w1 w1.drew HI1.out (Kf.of_below (Below.refl w1.heap.size w1).drew _));have HR2 := jh (HR1.out.keep (Below.refl _ _).drew);have HF2 := jh (HF1.out.below (Below.refl _ _).drew HF1.out.lt);have HK2 := jh (HK1.out.trans (Kf.of_below (Below.refl w1.heap.size w1).drew [t, m, d, g, q]))
    obtain ⟨w2, hw2⟩ : ∃ x, World.drew w1 = x := ⟨_, rfl⟩
    rw [hw2] at hS0 HR2 HF2 HK2 HI2 ⊢;clear hw2 HR1 HK1 HM1 HF1 HI1;refine jk 0 (v:=?_) rfl (by kernel_rfl) (fun _ _ _=>id) (by rfl) ?_ hS0 ?_;rotate_left
    ·intro W hW;go_simp;try with_reducible rfl
    simp only [Act.put,j1,j2,j3,j4,j5,j6];refine jk 1 (v:=?_) rfl (by kernel_rfl) (fun _ _ _=>id) (by rfl) ?_ hS0 ?_;rotate_left
    ·intro W hW;go_simp;try with_reducible rfl
    simp only [Act.put,j1,j2,j3,j4,j5,j6];refine jk 2 (v:=?_) rfl (by kernel_rfl) (fun _ _ _=>id) (by rfl) ?_ hS0 ?_;rotate_left
    ·intro W hW;go_simp;try with_reducible rfl
    simp only [Act.put,j1,j2,j3,j4,j5,j6];refine jk 3 (v:=?_) rfl (by kernel_rfl) (fun _ _ _=>id) (by rfl) ?_ hS0 ?_;rotate_left 1
    ·intro W hW;have c0 := hW.c0;go_simp
     try with_reducible rfl
    simp only [Act.put,j1,j2,j3,j4,j5,j6];refine jk 4 (v:=?_) rfl (by kernel_rfl) (fun _ _ _=>id) (by rfl) ?_ hS0 ?_;rotate_left
    ·intro W hW;go_simp;try with_reducible rfl
    simp only [Act.put,j1,j2,j3,j4,j5,j6];refine jk 5 (v:=?_) rfl (by kernel_rfl) (fun _ _ _=>id) (by rfl) ?_ hS0 ?_;rotate_left
    ·intro W hW;go_simp;try with_reducible rfl
    simp only [Act.put,j1,j2,j3,j4,j5,j6];refine jk 7 (v:=?_) rfl (by kernel_rfl) (fun _ _ _=>id) (by rfl) ?_ hS0 ?_;rotate_left
    ·intro W hW;go_simp;try with_reducible rfl
    simp only [Act.put,j1,j2,j3,j4,j5,j6];refine jk 8 (v:=?_) rfl (by kernel_rfl) (fun _ _ _=>id) (by rfl) ?_ hS0 ?_;rotate_left
    ·intro W hW;go_simp;try with_reducible rfl
    simp only [Act.put,j1,j2,j3,j4,j5,j6];refine wpAnyH_ready (rs := [6]) (by kernel_rfl) (by simp) (AllReadyH.cons rfl (fun KK hKK => ?_) AllReadyH.nil);go_simp;refine (HP.out w2 hS0).mono ?_;rintro e wz ⟨rfl, hwz⟩;rw [hwz];clear hwz;refine hKK _ _ hS0 ?_;intro _;clear hKK KK
    try simp only [Act.put,j1,j2,j3,j4,j5,j6]
    refine wpAnyH_ready (rs := [9]) (by kernel_rfl) (by simp) (AllReadyH.cons rfl (fun KK hKK => ?_) AllReadyH.nil);have hmg := method_get t;go_simp;clear hmg;refine (HG.out w2 HR2.out).mono ?_;rintro e w3 ⟨rfl, hR3, hk3⟩;have HR3 := jh hR3;have HI3 := jh (HSt.out k w2 w3 HI2.out (hk3.wide (by simp)));have HF3 := jh (HF2.out.kf hk3 (by have := HR2.out.lts; first | (simp; done) | (simp; omega)));have HK3 := jh (HK2.out.trans (hk3.wide (by simp)))
    replace hS0 : Mb w3 p t fi n := hS0.kf hk3 hp
    clear hR3 hk3 HR2 HK2 HF2 HI2;refine hKK _ _ hS0 ?_;intro _;clear hKK KK
    try simp only [Act.put,j1,j2,j3,j4,j5,j6]
    refine jk 10 (v:=?_) rfl (by kernel_rfl) (fun _ _ _=>id) (by rfl) ?_ hS0 ?_;rotate_left
    ·intro W hW;go_simp;try with_reducible rfl
    simp only [Act.put,j1,j2,j3,j4,j5,j6];refine jk 11 (v:=?_) rfl (by kernel_rfl) (fun _ _ _=>id) (by rfl) ?_ hS0 ?_;rotate_left
    ·intro W hW;go_simp;try with_reducible rfl
    simp only [Act.put,j1,j2,j3,j4,j5,j6];refine jk 12 (v:=?_) rfl (by kernel_rfl) (fun _ _ _=>id) (by rfl) ?_ hS0 ?_;rotate_left
    ·intro W hW;go_simp;try with_reducible rfl
    simp only [Act.put,j1,j2,j3,j4,j5,j6];refine wpAnyH_ready (rs := [13]) (by kernel_rfl) (by simp) (AllReadyH.cons rfl (fun KK hKK => ?_) AllReadyH.nil);refine step_store_mid rfl 162 _ _ rfl b5 0 (byts 64 V).toArray rfl rfl (by rw [byts_size]; exact HF3.out.there 0 64 (Nat.le_refl _)) (size36' _) (byts_all _ _) ?_;rw [List.toList_toArray];have HF4 := jh (HF3.out.stored V);have hk4 : Kp w3 (w3.setCells b5 0 (byts 64 V)) b5 b5 := (Kp.refl _ _ _).setCells b5 0 (.inl rfl) _;have HR4 := jh (HR3.out.kp hk4 (by first | (simp; done) | (simp; omega)) (by first | (simp; done) | (simp; omega)));have HI4 := jh (HSt.out k w3 _ HI3.out (Kf.of_kp hk4 (L := [t, m, d, g, b5]) (by simp) (by simp)));have HM4 := jh (hS0.kp hk4 (by omega));have HK4 := jh (HK3.out.setNew b5 (by omega) (byts 64 V))
    obtain ⟨w4, hw4⟩ : ∃ x, w3.setCells b5 0 (byts 64 V) = x := ⟨_, rfl⟩
    rw [hw4] at HF4 HR4 HM4 HK4 HI4 ⊢;clear hS0 hk4 hw4 HF3 HR3 HK3 HI3;have hS0 : Mb w4 p t fi n := HM4.out;refine hKK _ _ hS0 ?_;intro _;clear hKK KK
    try simp only [Act.put,j1,j2,j3,j4,j5,j6]
    refine jk 14 (v:=?_) rfl (by kernel_rfl) (fun _ _ _=>id) (by rfl) ?_ hS0 ?_;rotate_left
    ·intro W hW;go_simp;try with_reducible rfl
    simp only [Act.put,j1,j2,j3,j4,j5,j6];refine wpAnyH_done (by kernel_rfl) ?_ _;clear hS0;have hz4 : b5 < w4.heap.size := HF4.out.lt
    go_wp2_with (refine wpList_load_mid rfl 162 (.tmp 5) rfl b5 0 rfl (byts 64 V) (.array 64 5) HF4.out.range0 Tryz.arr36 rfl (size36 _) ?_)
    refine (HIs.out w4).mono ?_;rintro e w7 ⟨rfl, hb7⟩;have HF7 := jh (HF4.out.below hb7 HF4.out.lt);have HR7 := jh (HR4.out.keep hb7);have HM7 := jh (HM4.out.keep hb7);have HK7 := jh (HK4.out.trans (Kf.of_below hb7 _));have HI7 := jh (HSt.out k w4 w7 HI4.out (Kf.of_below hb7 _));have hz7 : b5 < w7.heap.size := HF7.out.lt;clear hb7 HF4 HR4 HM4 HK4 HI4 HIs
    go_wp2_with fail
    refine (HC.out w7 HI7.out hz7).mono ?_;rintro e w8 ⟨c, rfl, hk8, hi8⟩;have HF8 := jh (hk8.fl HF7.out (by omega) (by omega));have HR8 := jh (hk8.rd HR7.out (by omega) (by simp; omega));have HM8 := jh (hk8.mb HM7.out (by omega) (by omega));have HK8 := jh (hk8.kf HK7.out (by omega) (by simp));have hz8 : b5 < w8.heap.size := HF8.out.lt;have HI8 := jh hi8;clear hi8 hk8 HF7 HR7 HM7 HK7 HI7 HC
    cases c with
    | true =>
     go_wp2_with fail
     go_roundw
     case rel => exact ⟨k + 1, by omega, by go_num, HM8.out, HR8.out.mono (by omega), ⟨_, HF8.out, HVe.out, HVb.out⟩, by simpa using HI8.out, HK8.out, hz8⟩
     case measure => simp [Go.RowKit.intOf]; omega
    | false =>
     go_wp2_with fail
     go_ret
     exact ⟨rfl, HR8.out.mono (by omega), HK8.out, .inr (by simpa using HI8.out)⟩
   ·have hmi : ¬ ((k : Int) % 512 = 0) := by omega
    have HVb := HFb
    have HVe : Hid ((k + 1) % 512 ≠ 0 → F = Y (fi + (k + 1) / 512)) := fun h => by rw [show (k + 1) / 512 = k / 512 by omega]; exact HFv.out hm
    have HIs := jh (isset_any F HFb.out k (by omega));have HCk := jh (fun W => HC.out k W hlt);rw [← HFv.out hm] at HCk;clear HC;have HC := jh HCk.out;have HF4 := HF0;have HR4 := HR0;have HM4 := HM0;have HK4 := HK0;have HI4 := HI0
    obtain ⟨w4, rfl⟩ : ∃ x, x = wX := ⟨wX, rfl⟩
    clear HCk HFv HFb HF0 HR0 HM0 HK0 HI0
    go_wp2_with (refine wpList_load_mid rfl 162 (.tmp 5) rfl b5 0 rfl (byts 64 F) (.array 64 5) HF4.out.range0 Tryz.arr36 rfl (size36 _) ?_)
    refine (HIs.out w4).mono ?_;rintro e w7 ⟨rfl, hb7⟩;have HF7 := jh (HF4.out.below hb7 HF4.out.lt);have HR7 := jh (HR4.out.keep hb7);have HM7 := jh (HM4.out.keep hb7);have HK7 := jh (HK4.out.trans (Kf.of_below hb7 _));have HI7 := jh (HSt.out k w4 w7 HI4.out (Kf.of_below hb7 _));have hz7 : b5 < w7.heap.size := HF7.out.lt;clear hb7 HF4 HR4 HM4 HK4 HI4 HIs
    go_wp2_with fail
    refine (HC.out w7 HI7.out hz7).mono ?_;rintro e w8 ⟨c, rfl, hk8, hi8⟩;have HF8 := jh (hk8.fl HF7.out (by omega) (by omega));have HR8 := jh (hk8.rd HR7.out (by omega) (by simp; omega));have HM8 := jh (hk8.mb HM7.out (by omega) (by omega));have HK8 := jh (hk8.kf HK7.out (by omega) (by simp));have hz8 : b5 < w8.heap.size := HF8.out.lt;have HI8 := jh hi8;clear hi8 hk8 HF7 HR7 HM7 HK7 HI7 HC
    cases c with
    | true =>
     go_wp2_with fail
     go_roundw
     case rel => exact ⟨k + 1, by omega, by go_num, HM8.out, HR8.out.mono (by omega), ⟨_, HF8.out, HVe.out, HVb.out⟩, by simpa using HI8.out, HK8.out, hz8⟩
     case measure => simp [Go.RowKit.intOf]; omega
    | false =>
     go_wp2_with fail
     go_ret
     exact ⟨rfl, HR8.out.mono (by omega), HK8.out, .inr (by simpa using HI8.out)⟩
  ·obtain rfl : k = n := by omega
   go_wp2_with fail
   go_ret
   exact ⟨rfl, HR0.out.mono (by omega), HK0.out, .inl HI0.out⟩
theorem ownsRow_keep {w w' : World} {base : Nat} {e : TypeId} {size n : Nat} {v : Value} {xs : List Value} (h : w.ownsRow base e size v n xs) (hk : ∀ k, v.ownBlock = some k → w'.heap[k]? = w.heap[k]?) : w'.ownsRow base e size v n xs := by
 obtain ⟨hl, ⟨hv, hn⟩ | ⟨g, cap, cur, hv, hg, hh, r⟩⟩ := h
 ·exact ⟨hl, .inl ⟨hv, hn⟩⟩
 ·refine ⟨hl, .inr ⟨g, cap, cur, hv, hg, ?_, r⟩⟩;rw [hk g (by rw [hv]; simp [Value.ownBlock])];exact hh
theorem ownsRow_slice {w : World} {base : Nat} {e : TypeId} {size n : Nat} {v : Value} {xs : List Value} (h : w.ownsRow base e size v n xs) : ∃ a c, v = .slice a n c := by
 obtain ⟨hl, ⟨hv, hn⟩ | ⟨g, cap, cur, hv, r⟩⟩ := h
 ·exact ⟨_, _, by rw [hv, hn]⟩
 ·exact ⟨_, _, hv⟩
def bt (Y : Nat → Nat → Int) (fi i : Nat) : Bool := bitOf (Y (fi + i / 512)) i
def Fr (b : Nat → Bool) (n : Nat) (v : Int) : Prop := (v = -1 ∧ ∀ j, j < n → b j = true) ∨ ∃ i : Nat, i < n ∧ v = i ∧ b i = false ∧ ∀ j, j < i → b j = true
theorem free1_any (q i : Nat) (on : Bool) (v : Value) (w : World) (hc : w.cell? ⟨q, 0, none⟩ = some v) (hz : w.frozen? ⟨q, 0, none⟩ = false) :
  Calls Tryz.prog 179 #[.int .i64 i, .bool on, .pointer (some ⟨q, 0, none⟩)] w fun e w' => e = .returned (.bool on) ∧ w' = if on = true then w else w.setCell ⟨q, 0, none⟩ (.int .i64 i) := by
 cases on
 ·go_enter Tryz.func179, Tryz.ntmps179
  go_wp2
  go_ret
  exact ⟨rfl, rfl⟩
 ·clear hc hz
  go_enter Tryz.func179, Tryz.ntmps179
  go_wp2
  go_ret
  exact ⟨rfl, rfl⟩
theorem free_any (p t m d g fi n K : Nat) (Y : Nat → Nat → Int) (hf : fi ≤ 65536) (hn : n ≤ 65536) (hx : ∀ i, i < n → fi + i / 512 < N) (hK : K < 600000000) (w : World) (hm : Mb w p t fi n) (hr : Rd w t m d g N ln Y K) (hp : p ∉ [t, m, d, g]) :
  Calls Tryz.prog 123 #[.pointer (some ⟨p, 0, none⟩)] w fun e w' => ∃ v, e = .returned (.tuple #[.int .i64 v, .int .i64 0]) ∧ Fr (bt Y fi) n v ∧ Rd w' t m d g N ln Y (K + 200) ∧ Kf w w' [t, m, d, g] := by
 have hmf : ∀ (fn : Fn) (first cap : Array Value) (w : World), (Instr.makeFunc fn first cap).run Tryz.prog w = .ok (.func fn first cap) w := fun _ _ _ _ => rfl;have HM := jh hm;have HR := jh hr;clear hm hr
 go_enter Tryz.func123, Tryz.ntmps123
 go_wp2_with fail
 obtain ⟨w1, hw1⟩ : ∃ x, w.alloc (Obj.cells #[Value.int IntKind.i64 (-1)] 3) = x := ⟨_, rfl⟩
 have hb1 : Below w.heap.size w w1 := by rw [← hw1]; exact (Below.refl _ _).alloc (Nat.le_refl _) _
 have hc1 : w1.cell? ⟨w.heap.size, 0, none⟩ = some (.int .i64 (-1)) := by rw [← hw1, World.cell?_alloc_at _ _ _ _ rfl]; rfl
 have hz1 : w1.frozen? ⟨w.heap.size, 0, none⟩ = false := by rw [← hw1]; simp
 have hs1 : w.heap.size < w1.heap.size := by rw [← hw1]; simp
 have hlts := HR.out.lts;have hpl := HM.out.lt;have HB1 := jh hb1;rw [hw1];clear hw1
 obtain ⟨q, hq⟩ : ∃ q, w.heap.size = q := ⟨_, rfl⟩
 have HB0 := hb1;rw [hq] at hc1 hz1 hs1 hlts hpl ⊢
 have hE := each_any p t m d g fi n K 179 q Y
  (fun i W => W.cell? ⟨q, 0, none⟩ = some (.int .i64 (-1)) ∧ W.frozen? ⟨q, 0, none⟩ = false ∧ q < W.heap.size ∧ ∀ j, j < i → bt Y fi j = true)
  (fun W => ∃ i : Nat, i < n ∧ W.cell? ⟨q, 0, none⟩ = some (.int .i64 i) ∧ bt Y fi i = false ∧ ∀ j, j < i → bt Y fi j = true)
  hf hn hx hK w1 (HM.out.keep hb1) (HR.out.keep hb1) hp (by simp; omega) hs1 (fun args W => by rfl)
  (fun W hb => ⟨(hb.cell (p := ⟨q, 0, none⟩) hs1).trans hc1, (hb.frozen (p := ⟨q, 0, none⟩) hs1).trans hz1, Nat.lt_of_lt_of_le hs1 hb.size, fun j hj => absurd hj (by omega)⟩)
  (fun i W W' h hk => ⟨(hk.cell (p := ⟨q, 0, none⟩) h.2.2.1 (by simp; omega)).trans h.1, (hk.frozen (p := ⟨q, 0, none⟩) h.2.2.1 (by simp; omega)).trans h.2.1, Nat.lt_of_lt_of_le h.2.2.1 hk.size, h.2.2.2⟩)
  (fun i W hi h hz => by
   refine (free1_any q i _ _ W h.1 h.2.1).mono ?_;rintro e w' ⟨he, hw'⟩;refine ⟨_, he, ?_⟩;have hbt : bitOf (Y (fi + i / 512)) i = bt Y fi i := rfl;rw [hbt] at hw' ⊢
   cases hb : bt Y fi i
   ·rw [hb] at hw';simp only [Bool.false_eq_true, if_false] at hw' ⊢;subst hw';refine ⟨⟨rfl, rfl, rfl, by simp [World.setCell], fun k _ hk => Below.heap_setCell _ _ _ _ hk⟩, i, hi, World.cell?_setCell_same _ _ _ h.1, hb, h.2.2.2⟩
   ·rw [hb] at hw';simp only [if_true] at hw' ⊢;subst hw';refine ⟨⟨rfl, rfl, rfl, Nat.le_refl _, fun _ _ _ => rfl⟩, h.1, h.2.1, h.2.2.1, fun j hj => ?_⟩
    by_cases e : j = i
    ·subst e; exact hb
    ·exact h.2.2.2 j (by omega))
 refine hE.mono ?_;rintro e w2 ⟨rfl, hR2, hK2, hI⟩;have HR2 := jh hR2
 have HK2 : Hid (Kf w w2 [t, m, d, g]) := by
  refine ⟨hK2.os.trans HB1.out.os, hK2.tape.trans HB1.out.tape, hK2.output.trans HB1.out.output, Nat.le_trans HB1.out.size hK2.size, fun k hk hn => ?_⟩;refine (hK2.block k (Nat.lt_of_lt_of_le hk HB1.out.size) (fun hm => hn ?_)).trans (HB1.out.block k hk)
  simp at hm ⊢
  omega
 obtain ⟨v, hv, hF⟩ : ∃ v, w2.cell? ⟨q, 0, none⟩ = some (.int .i64 v) ∧ Fr (bt Y fi) n v := by
  rcases hI with h | ⟨i, hi, h1, h2, h3⟩
  ·exact ⟨-1, h.1, .inl ⟨rfl, h.2.2.2⟩⟩
  ·exact ⟨i, h1, .inr ⟨i, hi, rfl, h2, h3⟩⟩
 have HF := jh hF;clear hI hE hR2 hK2 hF HB1 HB0 hb1 hc1 hz1 HM HR hx
 go_wp2_with fail
 refine bodyPost_ret (v := .tuple #[.int .i64 v, .int .i64 0]) (by simp [results, Tryz.results123, go_sem]) rfl ⟨v, rfl, HF.out, HR2.out, HK2.out⟩
theorem bt_set {Y : Nat → Nat → Int} (hv : ∀ x, Byt (Y x)) (fi i j : Nat) (on : Bool) : bt (setV Y (fi + i / 512) i on) fi j = if i = j then on else bt Y fi j := by
 unfold setV bt
 by_cases h : bitOf (Y (fi + i / 512)) i = on
 ·rw [if_pos h]
  by_cases e : i = j
  ·subst e; rw [if_pos rfl, h]
  ·rw [if_neg e]
 ·rw [if_neg h];unfold vput
  by_cases c : i / 512 = j / 512
  ·rw [if_pos (by omega), bitOf_flp (hv _) i j c]
   by_cases e : i = j
   ·subst e;rw [if_pos rfl]
    cases on <;> simpa using h
   ·rw [if_neg e, c]
    simp [e]
  ·rw [if_neg (by omega)];have e : ¬ i = j := fun e => c (by rw [e]);rw [if_neg e]
theorem setV_ne (Y : Nat → Nat → Int) (X i : Nat) (on : Bool) {x : Nat} (h : x ≠ X) : setV Y X i on x = Y x := by
 unfold setV
 split
 ·rfl
 ·exact vput_ne _ _ (Ne.symm h)
theorem Fr.uniq {b : Nat → Bool} {n : Nat} {v v' : Int} (h : Fr b n v) (h' : Fr b n v') : v = v' := by
 rcases h with ⟨rfl, h⟩ | ⟨i, hi, rfl, hb, hj⟩ <;> rcases h' with ⟨rfl, h'⟩ | ⟨i', hi', rfl, hb', hj'⟩
 ·rfl
 ·rw [h i' hi'] at hb'; cases hb'
 ·rw [h' i hi] at hb; cases hb
 ·have : i = i' := by
   rcases Nat.lt_trichotomy i i' with c | c | c
   ·rw [hj' i c] at hb; cases hb
   ·exact c
   ·rw [hj i' c] at hb'; cases hb'
  rw [this]
theorem ownsRow_base {w : World} {base base' : Nat} {e : TypeId} {size n : Nat} {v : Value} {xs : List Value} (h : w.ownsRow base e size v n xs) (hb : base' ≤ base) : w.ownsRow base' e size v n xs := by
 obtain ⟨hl, ⟨hv, hn⟩ | ⟨g, cap, cur, hv, hg, r⟩⟩ := h
 ·exact ⟨hl, .inl ⟨hv, hn⟩⟩
 ·exact ⟨hl, .inr ⟨g, cap, cur, hv, by omega, r⟩⟩
end Go.Proofs.YtgdapkbenmlabaaGreatDoor
namespace Go.Proofs.YtgdapkbenmlabaaGreatDoor
open Go.RowKit Go.Maps
def wd (f : Nat → Int) (k : Nat) : Int := f (2 * k) + f (2 * k + 1) * 256
theorem shl8 (x : Int) (h0 : 0 ≤ x) (h1 : x < 256) : IntKind.u16.wrap (x * 256) = x * 256 := wraps_u16 _ (by omega) (by omega)
theorem num_any (f : Nat → Int) (hf : Byt f) (k : Nat) (hk : k < 32) (x : Int) (hx : x = k + 1) (w : World) : Calls Tryz.prog 261 #[.agg (byts 64 f).toArray, .int .i64 x] w fun e w' => e = .returned (.int .u16 (wd f k)) ∧ Below w.heap.size w w' := by
 have x1 : 1 ≤ x := by omega
 have x2 : x ≤ 32 := by omega
 have hp : 2 * (x - 1) = ((2 * k : Nat) : Int) := by omega
 obtain ⟨h1, h2⟩ := hf (2 * k) (by omega);obtain ⟨h3, h4⟩ := hf (2 * k + 1) (by omega);have hW : wd f k = f (2 * k) + f (2 * k + 1) * 256 := rfl
 obtain ⟨p, hpp⟩ : ∃ p, 2 * k = p := ⟨_, rfl⟩
 rw [hpp] at hp h1 h2 h3 h4 hW
 have hp62 : p + 1 < 64 := by omega
 obtain ⟨u, hu⟩ : ∃ u, f p = u := ⟨_, rfl⟩
 obtain ⟨v, hv⟩ : ∃ u, f (p + 1) = u := ⟨_, rfl⟩
 rw [hu] at h1 h2 hW;rw [hv] at h3 h4 hW;have hor := u16_or8 u (v * 256) h1 h2 (by omega) (by omega) (by omega);rw [← hW] at hor;have HOR := jh hor;have HSH := jh (shl8 v h3 h4);have HUW := jh (wraps_u16 u h1 (by omega));have HVW := jh (wraps_u16 v h3 (by omega));have HU := jh hu;have HV := jh hv
 obtain ⟨z, hz⟩ : ∃ z, wd f k = z := ⟨_, rfl⟩
 rw [hz] at HOR ⊢;have HP := jh hp;clear hx hp hpp hu hv hW hor hf hz
 go_enter Tryz.func261, Tryz.ntmps261
 go_upto_region 2 with (first | (refine wpList_box_byts (w := w) rfl 162 _ 64 rfl f rfl ?_; intro w1 F1 hb1 hz1; have HB1 := jh hb1; clear hb1 hz1))
 have hp0 : (0 : Int) ≤ p := by omega
 have hp1 : (p : Int) + 1 < 64 := by omega
 have hpt : ((p : Int) + 1).toNat = p + 1 := by omega
 have hwr : IntKind.i64.wrap ((p : Int) + 1) = p + 1 := IntWalk.i64_in _ (by omega);have c0 := F1.out.c p (by omega);have c1 := F1.out.c (p + 1) hp62;rw [HU.out] at c0;rw [HV.out] at c1;rw [HP.out];have k1 := HOR.out;have k2 := HSH.out;have k3 := HUW.out;have k4 := HVW.out
 go_quiet (fail)
 go_wp2_with fail
 go_ret
 exact ⟨rfl, Cf.below_drewN' HB1.out _⟩
theorem putnum8 (g : Nat) (f : Nat → Int) (k : Nat) (hk : k < 32) (x : Int) (hx : x = k + 1) (q : Nat) (hq : q < 65536) (w : World) (F : Fl w g 64 f) : Calls Tryz.prog 262 #[.pointer (some ⟨g, 0, none⟩), .int .i64 x, .int .u16 q] w fun e w' => e = .returned (.tuple #[]) ∧ Fl w' g 64 (putN f (2 * k) q) ∧ Kp w w' g g := by
 have x1 : 1 ≤ x := by omega
 have x2 : x ≤ 32 := by omega
 have hp : 2 * (x - 1) = ((2 * k : Nat) : Int) := by omega
 obtain ⟨p, hpp⟩ : ∃ p, 2 * k = p := ⟨_, rfl⟩
 rw [hpp] at hp ⊢
 have hp62 : p + 1 < 64 := by omega
 have HP := jh hp;have HF := jh F
 have q0 : (0 : Int) ≤ q := by omega
 have q1 : (q : Int) < 65536 := by omega
 clear hx hp hpp F
 go_enter Tryz.func262, Tryz.ntmps262
 go_upto_region 1 with fail
 have hp0 : (0 : Int) ≤ p := by omega
 have hp1 : (p : Int) + 1 < 64 := by omega
 have hpt : ((p : Int) + 1).toNat = p + 1 := by omega
 have c0 := HF.out.c p (by omega);have z0 := HF.out.z p (by omega);rw [HP.out]
 go_upto_region 2 with fail
 have F1 := jh (HF.out.set p (by omega) (q % 256));have hk1 : Kp w (w.setCell ⟨g, p, none⟩ (.int .u8 (q % 256))) g g := (Kp.refl w g g).setA p _
 obtain ⟨w1, hw1⟩ : ∃ y, w.setCell ⟨g, p, none⟩ (.int .u8 ((q : Int) % 256)) = y := ⟨_, rfl⟩
 rw [hw1] at F1 hk1 ⊢;clear hw1 c0 z0;have HK1 := jh hk1;clear hk1;have hwr : IntKind.i64.wrap ((p : Int) + 1) = p + 1 := IntWalk.i64_in _ (by omega);have c1 := F1.out.c (p + 1) hp62;have z1 := F1.out.z (p + 1) hp62
 go_wp2_with fail
 go_end0
 refine ⟨rfl, ?_, HK1.out.setA (p + 1) _⟩;refine (F1.out.set (p + 1) hp62 (q / 256)).congr fun j hj => ?_;unfold putN
 by_cases e1 : j = p + 1
 ·rw [if_pos e1, if_pos e1];omega
 ·rw [if_neg e1, if_neg e1]
def bdc (q : Nat) (f : Nat → Int) : List Value := .pointer (some ⟨q, 0, none⟩) :: ndc f
theorem size_any (b q : Nat) (f : Nat → Int) (h0 : 0 ≤ f 3) (h1 : f 3 < 4294967296) (w : World) (hV : Vl w b (bdc q f)) : Calls Tryz.prog 129 #[.pointer (some ⟨b, 0, none⟩)] w fun e w' => e = .returned (.int .i64 (f 3)) ∧ w' = w := by
 have c := hV.c 4 _ rfl;clear hV
 go_enter Tryz.func129, Tryz.ntmps129
 go_wp2
 go_ret
 exact ⟨rfl, rfl⟩
theorem own_sin (b : Nat) (w : World) : Calls Tryz.prog 260 #[.pointer (some ⟨b, 0, none⟩), .int .i64 7] w fun e w' => e = .returned (.pointer (some ⟨b, 11, none⟩)) ∧ w' = w := by
 go_enter Tryz.func260, Tryz.ntmps260
 go_wp2
 go_ret
 exact ⟨rfl, rfl⟩
theorem own_dbl (b : Nat) (w : World) : Calls Tryz.prog 260 #[.pointer (some ⟨b, 0, none⟩), .int .i64 8] w fun e w' => e = .returned (.pointer (some ⟨b, 12, none⟩)) ∧ w' = w := by
 go_enter Tryz.func260, Tryz.ntmps260
 go_wp2
 go_ret
 exact ⟨rfl, rfl⟩
theorem own_dir (b : Nat) (a : Nat) (h1 : 1 ≤ a) (h2 : a ≤ 6) (w : World) : Calls Tryz.prog 260 #[.pointer (some ⟨b, 0, none⟩), .int .i64 a] w fun e w' => e = .returned (.pointer (some ⟨b, 5 + (a - 1), none⟩)) ∧ w' = w := by
 obtain ⟨k, rfl⟩ : ∃ k, a = k + 1 := ⟨a - 1, by omega⟩
 have hk : k < 6 := by omega
 clear h1 h2
 have hc : k = 0 ∨ k = 1 ∨ k = 2 ∨ k = 3 ∨ k = 4 ∨ k = 5 := by omega
 rcases hc with rfl | rfl | rfl | rfl | rfl | rfl
 all_goals
  go_enter Tryz.func260, Tryz.ntmps260
  go_wp2
  go_ret
  exact ⟨rfl, rfl⟩
end Go.Proofs.YtgdapkbenmlabaaGreatDoor
namespace Go.Proofs.YtgdapkbenmlabaaGreatDoor
open Go.RowKit Go.Maps
variable {ln : Lm}
theorem Tryz.desc53 : ∃ d, Tryz.prog.underlying 175 = some d ∧ d.isRow = true := ⟨_, Tryz.underlying175, rfl⟩
theorem Tryz.isize53 : (Tryz.prog.info? 175).map (·.size) = some 6 := by kernel_rfl
theorem size53 (g : Cf.Ge) : (Tryz.prog.info? 175).map (·.size) = some g.cells.length := Tryz.isize53
theorem Tryz.sl34 : Tryz.prog.underlying 27 = some (.slice 5) := Tryz.underlying27
theorem Tryz.isize5 : (Tryz.prog.info? 5).map (·.size) = some 1 := by kernel_rfl
theorem read_in0 (g : Cf.Ge) (x : Int) (t m d gg N K kB : Nat) (Y : Nat → Nat → Int) (hx : inP g x) (hb0 : 0 ≤ g.base) (hb1 : g.base < 100000) (hm0 : 0 ≤ g.bm) (hm1 : g.bm < 100000) (hn1 : g.nd ≤ 128) (hkB : g.base + g.bm + (x - 1) / 2 = kB) (ha : (x - 1) % 2 * 32 = 0) (hk : kB < N) (hk32 : 32 ≤ kB) (hN : N ≤ 65536) (hK : K < 600000000) (F : Nat → Int) (hB : Byt32 F) (hF : ∀ j, j < 32 → Y kB (0 + j) = F j) (w : World) (h : Rd w t m d gg N ln Y K) :
  Calls Tryz.prog 93 #[.pointer (some ⟨t, 0, none⟩), g.val, .int .i64 x] w fun e w' => e = .returned (.tuple #[.agg (ndc (decV F)).toArray, .int .i64 (decE F)]) ∧ Rd w' t m d gg N ln Y (K + 1) ∧ Kf w w' [t, m, d, gg] := by
 obtain ⟨d27, hu27, hd27⟩ := Tryz.desc27;obtain ⟨d53, hu53, hd53⟩ := Tryz.desc53;have HU27 := jh hu27;have HD27 := jh hd27;have HU53 := jh hu53;have HD53 := jh hd53
 have HP : Hid (∀ W, Calls Tryz.prog 140 #[g.val, .int .i64 x] W fun e w' => e = .returned (.tuple #[.int .i64 kB, .int .i64 0, .bool true]) ∧ Below W.heap.size W w') := fun W => by
  have := place_in g x hx hb0 hb1 hm0 hm1 hn1 W
  rwa [hkB, ha] at this
 have HG := jh (fun W (h : Rd W t m d gg N ln Y K) => get6 t m d gg K Y kB hk32 hk (by omega) W h);have HC := jh (fun W => decode_any F hB W)
 obtain ⟨V, hV⟩ : ∃ V, Y kB = V := ⟨_, rfl⟩
 rw [hV] at HG hF;have HFj := jh hF;obtain ⟨lt1, lt2, lt3, lt4⟩ := h.lts;have HR := jh h;clear hu27 hd27 hu53 hd53 hx hb0 hb1 hm0 hm1 hn1 hkB ha hk hN hK hB hV hF h;change Calls _ _ #[_, .agg g.cells.toArray, _] _ _;have HP : Hid (∀ W, Calls Tryz.prog 140 #[.agg g.cells.toArray, .int .i64 x] W fun e w' => e = .returned (.tuple #[.int .i64 kB, .int .i64 0, .bool true]) ∧ Below W.heap.size W w') := HP
 obtain ⟨gs, hgs⟩ : ∃ gs, g.cells = gs := ⟨_, rfl⟩
 have HS53 : Hid ((Tryz.prog.info? 175).map (·.size) = some gs.length) := by rw [← hgs]; exact size53 g
 rw [hgs] at HP ⊢;clear hgs
 go_enter Tryz.func93, Tryz.ntmps93
 go_upto_region 1 with (first | (refine wpList_box_list (w := w) rfl 175 _ rfl gs rfl ?_; intro w1 F1 hb1 hz1; have HB1 := jh hb1; have hq1 : w.heap.size < w1.heap.size := (by omega); clear hb1 hz1) | (refine wpList_alloc_list (w := w1) rfl 77 rfl (ndc zpt) Tryz.zero27 ?_; intro w2 F2 hb2 hz2; have HB2 := jh hb2; have hq2 : w1.heap.size < w2.heap.size := (by omega); clear hb2 hz2))
 obtain ⟨b1, hb1⟩ : ∃ b, w.heap.size = b := ⟨_, rfl⟩
 obtain ⟨b2, hb2⟩ : ∃ b, w1.heap.size = b := ⟨_, rfl⟩
 have G1 := jh (F1.out.keep HB2.out);have G2 := F2;have HB := jh (HB1.out.trans (HB2.out.mono HB1.out.size));have R2 := jh (HR.out.keep HB.out);have HK := jh (Kf.of_below HB.out [t, m, d, gg]);rw [hb1, hb2] at hq1;rw [hb2] at hq2;rw [hb1] at G1 HB lt1 lt2 lt3 lt4;rw [hb2] at G2;have HW := jh hb1;have hwb : w.heap.size ≤ b1 := Nat.le_of_eq hb1
 try rw [hb1]
 try rw [hb2]
 clear hb1 hb2 HB1 HB2 F1 F2 HR HB;have N2 := jh (nin4 lt1 lt2 lt3 lt4 (b := b2) (by omega));have HR1 := jh G1.out.range0
 go_wp2_with (refine wpList_load_mid rfl 175 _ rfl b1 0 rfl gs d53 HR1.out HU53.out HD53.out HS53.out ?_)
 refine (HP.out w2).mono ?_;rintro e w3 ⟨rfl, hb⟩;have G3 := jh (G2.out.keep hb);have R3 := jh (R2.out.keep hb);have K3 := jh (HK.out.low hb (by omega));have hq3 : b2 < w3.heap.size := G3.out.lt;clear hb HR1 G1 G2 R2 HK HP
 go_wp2_with fail
 refine (HG.out w3 R3.out).mono ?_;rintro e w4 ⟨rfl, hR, hk⟩;have R4 := jh hR;have G4 := jh (G3.out.kf hk N2.out);have K4 := jh (K3.out.trans hk);have hq4 : b2 < w4.heap.size := G4.out.lt;clear hR hk G3 R3 K3 HG
 go_upto_region 5 with (first | (refine wpList_alloc_byts (w := w4) rfl 162 64 rfl Tryz.zero36 ?_; intro w5 F5 hb5 hz5; simp only [Act.put,j1,j2,j3,j4,j5,j6]; refine wpList_store_blk rfl (.tmp 11) (.tmp 28) rfl w4.heap.size 0 64 (fun _ => 0) V F5.out (by omega) rfl rfl ?_; intro w6 F6 HK6; have HB5 := jh hb5; clear hb5 F5))
 obtain ⟨b5, hb5⟩ : ∃ b, w4.heap.size = b := ⟨_, rfl⟩
 have R5 := jh (R4.out.keep HB5.out);have G5 := jh (G4.out.keep HB5.out);have K5 := jh (K4.out.low HB5.out (by omega))
 have hq5 : b5 < w5.heap.size := by omega
 rw [hb5] at hq4 F6 HK6
 try rw [hb5]
 clear hb5 hz5 HB5 R4 G4 K4;have N5 := jh (nin4 lt1 lt2 lt3 lt4 (b := b5) (by omega));have R6 := jh (R5.out.kp HK6.out N5.out N5.out);have G6 := jh (G5.out.kp HK6.out (by omega) (by omega));have K6 := jh (K5.out.fresh HK6.out (by omega));have F6' := jh (F6.out.congr (fun j hj => upd_zero 64 V j hj _));have hq6 := HK6.out.size;clear F6 R5 G5 K5 HK6
 go_upto_region 8 with (first | (refine wpList_alloc_byts (w := w6) rfl 287 32 rfl Tryz.zero28 ?_; intro w7 F7 hb7 hz7; have HB7 := jh hb7; have hq7 : w6.heap.size < w7.heap.size := (by omega); clear hb7 hz7))
 obtain ⟨b7, hb7⟩ : ∃ b, w6.heap.size = b := ⟨_, rfl⟩
 have R7 := jh (R6.out.keep HB7.out);have G7 := jh (G6.out.keep HB7.out);have K7 := jh (K6.out.low HB7.out (by omega));have E7 := jh (F6'.out.below HB7.out F6'.out.lt)
 have hq8 : b5 < b7 := by rw [← hb7]; exact F6'.out.lt
 rw [hb7] at F7 hq6 hq7
 try rw [hb7]
 clear hb7 HB7 R6 G6 K6 F6'
 go_still_tail 3, (by kernel_rfl)
 have R8 := jh (R7.out.keep (Below.refl w7.heap.size w7).drew);have G8 := jh (G7.out.keep (Below.refl w7.heap.size w7).drew);have E8 := jh (E7.out.below (Below.refl w7.heap.size w7).drew E7.out.lt);have F8 := jh (F7.out.below (Below.refl w7.heap.size w7).drew F7.out.lt);have K8 := jh (K7.out.low (Below.refl w7.heap.size w7).drew (by omega));change wpList _ _ _ _ _ (World.drew w7);have hq9 : b7 < (World.drew w7).heap.size := hq7
 obtain ⟨w8, hw8⟩ : ∃ x, World.drew w7 = x := ⟨_, rfl⟩
 rw [hw8] at R8 G8 E8 F8 K8 hq9 ⊢;clear hw8 R7 G7 E7 F7 K7 hq7;refine wpList_copy_mid rfl (.tmp 34) (.tmp 36) 27 27 rfl 5 Tryz.sl34 1 Tryz.isize5 b7 0 32 32 (some ⟨b5, 0, none⟩) 64 64 rfl rfl (byts 32 F) rfl (fun _ => ⟨_, rfl, fun j v hj => ?_⟩) ?_ (byts_one _ _) ?_
 ·obtain ⟨hjl, rfl⟩ := byts_of hj;rw [Addr.add_mid, ← HFj.out j hjl];exact E8.out.c (0 + j) (by omega)
 ·rw [byts_len];exact F8.out.there 0 32 (Nat.le_refl _)
 have hk9 : Kp w8 (w8.setCells b7 0 (byts 32 F)) b7 b7 := (Kp.refl w8 b7 b7).setCells b7 0 (.inl rfl) _;have N7 := jh (nin4 lt1 lt2 lt3 lt4 (b := b7) (by omega));have R9 := jh (R8.out.kp hk9 N7.out N7.out);have G9 := jh (G8.out.kp hk9 (by omega) (by omega));have F9 := jh ((F8.out.store 0 32 (Nat.le_refl _) F).congr (fun j hj => upd_zero 32 F j hj _));have K9 := jh (K8.out.fresh hk9 (by omega))
 obtain ⟨w9, hw9⟩ : ∃ x, w8.setCells b7 0 (byts 32 F) = x := ⟨_, rfl⟩
 have hqA := hk9.size;rw [hw9] at R9 G9 F9 K9 hqA ⊢;clear hw9 hk9 R8 G8 E8 F8 K8;have HR9 := jh (F9.out.range 0 32 (Nat.le_refl _))
 have HRF : Hid (w9.rangeAt b7 0 (byts 32 F)) := jh (by
  have := HR9.out;simp only [Nat.zero_add] at this
  exact this)
 go_wp2_with (refine wpList_load_mid rfl 287 _ rfl b7 0 rfl (byts 32 F) (.array 32 5) HRF.out Tryz.arr28 rfl (size28 _) ?_)
 refine (HC.out w9).mono ?_;rintro e wa ⟨rfl, hb⟩;have Ra := jh (R9.out.keep hb);have Ga := jh (G9.out.keep hb);have Ka := jh (K9.out.low hb (by omega));clear hb R9 G9 K9 F9 HR9 HRF HC
 go_wp2_with (refine wpList_store_mid rfl 77 _ _ rfl b2 0 (ndc (decV F)).toArray rfl rfl (Ga.out.there0 12 rfl) (size27' _) (all_oneCell_toArray (ndc_one _)) ?_)
 have hkb : Kp wa (wa.setCells b2 0 (ndc (decV F))) b2 b2 := (Kp.refl wa b2 b2).setCells b2 0 (.inl rfl) _;exact bodyPost_ret_by (results_mid_tmp rfl _ _ b2 (ndc (decV F)) d27 rfl (Ga.out.stored (ndc (decV F)) rfl).range0 HU27.out HD27.out (size27 _)) rfl ⟨rfl, Ra.out.kp hkb N2.out N2.out, Ka.out.fresh hkb (by omega)⟩
theorem read_in32 (g : Cf.Ge) (x : Int) (t m d gg N K kB : Nat) (Y : Nat → Nat → Int) (hx : inP g x) (hb0 : 0 ≤ g.base) (hb1 : g.base < 100000) (hm0 : 0 ≤ g.bm) (hm1 : g.bm < 100000) (hn1 : g.nd ≤ 128) (hkB : g.base + g.bm + (x - 1) / 2 = kB) (ha : (x - 1) % 2 * 32 = 32) (hk : kB < N) (hk32 : 32 ≤ kB) (hN : N ≤ 65536) (hK : K < 600000000) (F : Nat → Int) (hB : Byt32 F) (hF : ∀ j, j < 32 → Y kB (32 + j) = F j) (w : World) (h : Rd w t m d gg N ln Y K) :
  Calls Tryz.prog 93 #[.pointer (some ⟨t, 0, none⟩), g.val, .int .i64 x] w fun e w' => e = .returned (.tuple #[.agg (ndc (decV F)).toArray, .int .i64 (decE F)]) ∧ Rd w' t m d gg N ln Y (K + 1) ∧ Kf w w' [t, m, d, gg] := by
 obtain ⟨d27, hu27, hd27⟩ := Tryz.desc27;obtain ⟨d53, hu53, hd53⟩ := Tryz.desc53;have HU27 := jh hu27;have HD27 := jh hd27;have HU53 := jh hu53;have HD53 := jh hd53
 have HP : Hid (∀ W, Calls Tryz.prog 140 #[g.val, .int .i64 x] W fun e w' => e = .returned (.tuple #[.int .i64 kB, .int .i64 32, .bool true]) ∧ Below W.heap.size W w') := fun W => by
  have := place_in g x hx hb0 hb1 hm0 hm1 hn1 W
  rwa [hkB, ha] at this
 have HG := jh (fun W (h : Rd W t m d gg N ln Y K) => get6 t m d gg K Y kB hk32 hk (by omega) W h);have HC := jh (fun W => decode_any F hB W)
 obtain ⟨V, hV⟩ : ∃ V, Y kB = V := ⟨_, rfl⟩
 rw [hV] at HG hF;have HFj := jh hF;obtain ⟨lt1, lt2, lt3, lt4⟩ := h.lts;have HR := jh h;clear hu27 hd27 hu53 hd53 hx hb0 hb1 hm0 hm1 hn1 hkB ha hk hN hK hB hV hF h;change Calls _ _ #[_, .agg g.cells.toArray, _] _ _;have HP : Hid (∀ W, Calls Tryz.prog 140 #[.agg g.cells.toArray, .int .i64 x] W fun e w' => e = .returned (.tuple #[.int .i64 kB, .int .i64 32, .bool true]) ∧ Below W.heap.size W w') := HP
 obtain ⟨gs, hgs⟩ : ∃ gs, g.cells = gs := ⟨_, rfl⟩
 have HS53 : Hid ((Tryz.prog.info? 175).map (·.size) = some gs.length) := by rw [← hgs]; exact size53 g
 rw [hgs] at HP ⊢;clear hgs
 go_enter Tryz.func93, Tryz.ntmps93
 go_upto_region 1 with (first | (refine wpList_box_list (w := w) rfl 175 _ rfl gs rfl ?_; intro w1 F1 hb1 hz1; have HB1 := jh hb1; have hq1 : w.heap.size < w1.heap.size := (by omega); clear hb1 hz1) | (refine wpList_alloc_list (w := w1) rfl 77 rfl (ndc zpt) Tryz.zero27 ?_; intro w2 F2 hb2 hz2; have HB2 := jh hb2; have hq2 : w1.heap.size < w2.heap.size := (by omega); clear hb2 hz2))
 obtain ⟨b1, hb1⟩ : ∃ b, w.heap.size = b := ⟨_, rfl⟩
 obtain ⟨b2, hb2⟩ : ∃ b, w1.heap.size = b := ⟨_, rfl⟩
 have G1 := jh (F1.out.keep HB2.out);have G2 := F2;have HB := jh (HB1.out.trans (HB2.out.mono HB1.out.size));have R2 := jh (HR.out.keep HB.out);have HK := jh (Kf.of_below HB.out [t, m, d, gg]);rw [hb1, hb2] at hq1;rw [hb2] at hq2;rw [hb1] at G1 HB lt1 lt2 lt3 lt4;rw [hb2] at G2;have HW := jh hb1;have hwb : w.heap.size ≤ b1 := Nat.le_of_eq hb1
 try rw [hb1]
 try rw [hb2]
 clear hb1 hb2 HB1 HB2 F1 F2 HR HB;have N2 := jh (nin4 lt1 lt2 lt3 lt4 (b := b2) (by omega));have HR1 := jh G1.out.range0
 go_wp2_with (refine wpList_load_mid rfl 175 _ rfl b1 0 rfl gs d53 HR1.out HU53.out HD53.out HS53.out ?_)
 refine (HP.out w2).mono ?_;rintro e w3 ⟨rfl, hb⟩;have G3 := jh (G2.out.keep hb);have R3 := jh (R2.out.keep hb);have K3 := jh (HK.out.low hb (by omega));have hq3 : b2 < w3.heap.size := G3.out.lt;clear hb HR1 G1 G2 R2 HK HP
 go_wp2_with fail
 refine (HG.out w3 R3.out).mono ?_;rintro e w4 ⟨rfl, hR, hk⟩;have R4 := jh hR;have G4 := jh (G3.out.kf hk N2.out);have K4 := jh (K3.out.trans hk);have hq4 : b2 < w4.heap.size := G4.out.lt;clear hR hk G3 R3 K3 HG
 go_upto_region 5 with (first | (refine wpList_alloc_byts (w := w4) rfl 162 64 rfl Tryz.zero36 ?_; intro w5 F5 hb5 hz5; simp only [Act.put,j1,j2,j3,j4,j5,j6]; refine wpList_store_blk rfl (.tmp 11) (.tmp 28) rfl w4.heap.size 0 64 (fun _ => 0) V F5.out (by omega) rfl rfl ?_; intro w6 F6 HK6; have HB5 := jh hb5; clear hb5 F5))
 obtain ⟨b5, hb5⟩ : ∃ b, w4.heap.size = b := ⟨_, rfl⟩
 have R5 := jh (R4.out.keep HB5.out);have G5 := jh (G4.out.keep HB5.out);have K5 := jh (K4.out.low HB5.out (by omega))
 have hq5 : b5 < w5.heap.size := by omega
 rw [hb5] at hq4 F6 HK6
 try rw [hb5]
 clear hb5 hz5 HB5 R4 G4 K4;have N5 := jh (nin4 lt1 lt2 lt3 lt4 (b := b5) (by omega));have R6 := jh (R5.out.kp HK6.out N5.out N5.out);have G6 := jh (G5.out.kp HK6.out (by omega) (by omega));have K6 := jh (K5.out.fresh HK6.out (by omega));have F6' := jh (F6.out.congr (fun j hj => upd_zero 64 V j hj _));have hq6 := HK6.out.size;clear F6 R5 G5 K5 HK6
 go_upto_region 8 with (first | (refine wpList_alloc_byts (w := w6) rfl 287 32 rfl Tryz.zero28 ?_; intro w7 F7 hb7 hz7; have HB7 := jh hb7; have hq7 : w6.heap.size < w7.heap.size := (by omega); clear hb7 hz7))
 obtain ⟨b7, hb7⟩ : ∃ b, w6.heap.size = b := ⟨_, rfl⟩
 have R7 := jh (R6.out.keep HB7.out);have G7 := jh (G6.out.keep HB7.out);have K7 := jh (K6.out.low HB7.out (by omega));have E7 := jh (F6'.out.below HB7.out F6'.out.lt)
 have hq8 : b5 < b7 := by rw [← hb7]; exact F6'.out.lt
 rw [hb7] at F7 hq6 hq7
 try rw [hb7]
 clear hb7 HB7 R6 G6 K6 F6'
 go_still_tail 3, (by kernel_rfl)
 have R8 := jh (R7.out.keep (Below.refl w7.heap.size w7).drew);have G8 := jh (G7.out.keep (Below.refl w7.heap.size w7).drew);have E8 := jh (E7.out.below (Below.refl w7.heap.size w7).drew E7.out.lt);have F8 := jh (F7.out.below (Below.refl w7.heap.size w7).drew F7.out.lt);have K8 := jh (K7.out.low (Below.refl w7.heap.size w7).drew (by omega));change wpList _ _ _ _ _ (World.drew w7);have hq9 : b7 < (World.drew w7).heap.size := hq7
 obtain ⟨w8, hw8⟩ : ∃ x, World.drew w7 = x := ⟨_, rfl⟩
 rw [hw8] at R8 G8 E8 F8 K8 hq9 ⊢;clear hw8 R7 G7 E7 F7 K7 hq7;refine wpList_copy_mid rfl (.tmp 34) (.tmp 36) 27 27 rfl 5 Tryz.sl34 1 Tryz.isize5 b7 0 32 32 (some ⟨b5, 32, none⟩) 32 32 rfl rfl (byts 32 F) rfl (fun _ => ⟨_, rfl, fun j v hj => ?_⟩) ?_ (byts_one _ _) ?_
 ·obtain ⟨hjl, rfl⟩ := byts_of hj;rw [Addr.add_mid, ← HFj.out j hjl];exact E8.out.c (32 + j) (by omega)
 ·rw [byts_len];exact F8.out.there 0 32 (Nat.le_refl _)
 have hk9 : Kp w8 (w8.setCells b7 0 (byts 32 F)) b7 b7 := (Kp.refl w8 b7 b7).setCells b7 0 (.inl rfl) _;have N7 := jh (nin4 lt1 lt2 lt3 lt4 (b := b7) (by omega));have R9 := jh (R8.out.kp hk9 N7.out N7.out);have G9 := jh (G8.out.kp hk9 (by omega) (by omega));have F9 := jh ((F8.out.store 0 32 (Nat.le_refl _) F).congr (fun j hj => upd_zero 32 F j hj _));have K9 := jh (K8.out.fresh hk9 (by omega))
 obtain ⟨w9, hw9⟩ : ∃ x, w8.setCells b7 0 (byts 32 F) = x := ⟨_, rfl⟩
 have hqA := hk9.size;rw [hw9] at R9 G9 F9 K9 hqA ⊢;clear hw9 hk9 R8 G8 E8 F8 K8;have HR9 := jh (F9.out.range 0 32 (Nat.le_refl _))
 have HRF : Hid (w9.rangeAt b7 0 (byts 32 F)) := jh (by
  have := HR9.out;simp only [Nat.zero_add] at this
  exact this)
 go_wp2_with (refine wpList_load_mid rfl 287 _ rfl b7 0 rfl (byts 32 F) (.array 32 5) HRF.out Tryz.arr28 rfl (size28 _) ?_)
 refine (HC.out w9).mono ?_;rintro e wa ⟨rfl, hb⟩;have Ra := jh (R9.out.keep hb);have Ga := jh (G9.out.keep hb);have Ka := jh (K9.out.low hb (by omega));clear hb R9 G9 K9 F9 HR9 HRF HC
 go_wp2_with (refine wpList_store_mid rfl 77 _ _ rfl b2 0 (ndc (decV F)).toArray rfl rfl (Ga.out.there0 12 rfl) (size27' _) (all_oneCell_toArray (ndc_one _)) ?_)
 have hkb : Kp wa (wa.setCells b2 0 (ndc (decV F))) b2 b2 := (Kp.refl wa b2 b2).setCells b2 0 (.inl rfl) _;exact bodyPost_ret_by (results_mid_tmp rfl _ _ b2 (ndc (decV F)) d27 rfl (Ga.out.stored (ndc (decV F)) rfl).range0 HU27.out HD27.out (size27 _)) rfl ⟨rfl, Ra.out.kp hkb N2.out N2.out, Ka.out.fresh hkb (by omega)⟩
def wrB (V : Nat → Int) (a : Nat) (f : Nat → Int) : Nat → Int := upd V a 32 (encF f)
theorem wrB_byt {V : Nat → Int} (h : Byt V) {f : Nat → Int} (hf : NdOk f) (a : Nat) (ha : a + 32 ≤ 64) : Byt (wrB V a f) := by
 intro j hj;unfold wrB upd
 split
 ·exact encF_byt hf _ (by omega)
 ·exact h j hj
theorem write_in0 (g : Cf.Ge) (x : Int) (t m d gg N K kB : Nat) (Y : Nat → Nat → Int) (f : Nat → Int) (hf : NdOk f) (hcd : codeN f = 0) (hx : inP g x) (hb0 : 0 ≤ g.base) (hb1 : g.base < 100000) (hm0 : 0 ≤ g.bm) (hm1 : g.bm < 100000) (hn1 : g.nd ≤ 128) (hkB : g.base + g.bm + (x - 1) / 2 = kB) (ha : (x - 1) % 2 * 32 = 0) (hk : kB < N) (hk32 : 32 ≤ kB) (hN : N ≤ 65536) (hT : Has ln kB) (hK : K < 600000000) (w : World) (h : Rd w t m d gg N ln Y K) :
  Calls Tryz.prog 77 #[.pointer (some ⟨t, 0, none⟩), g.val, .int .i64 x, .agg (ndc f).toArray] w fun e w' => e = .returned (.int .i64 0) ∧ Rd w' t m d gg N ln (vput kB (wrB (Y kB) 0 f) Y) (K + 1) ∧ Kf w w' [t, m, d, gg] := by
 obtain ⟨d27, hu27, hd27⟩ := Tryz.desc27;obtain ⟨d53, hu53, hd53⟩ := Tryz.desc53;have HU27 := jh hu27;have HD27 := jh hd27;have HU53 := jh hu53;have HD53 := jh hd53
 have HP : Hid (∀ W, Calls Tryz.prog 140 #[.agg g.cells.toArray, .int .i64 x] W fun e w' => e = .returned (.tuple #[.int .i64 kB, .int .i64 0, .bool true]) ∧ Below W.heap.size W w') := fun W => by
  have := place_in g x hx hb0 hb1 hm0 hm1 hn1 W;rw [hkB, ha] at this;exact this
 have HCk := jh (fun W => check_any f hf W);rw [hcd] at HCk;have HEn := jh (fun W => encode_any f hf W);have HG := jh (fun W (h : Rd W t m d gg N ln Y K) => get6 t m d gg K Y kB hk32 hk (by omega) W h);have HPut := jh (fun W (h' : Rd W t m d gg N ln Y (K + 1)) => put6 t m d gg (K + 1) Y kB (wrB (Y kB) 0 f) (wrB_byt (h.vb kB) hf 0 (by decide)) hk32 hk hT W h')
 obtain ⟨V, hV⟩ : ∃ V, Y kB = V := ⟨_, rfl⟩
 rw [hV] at HG HPut ⊢
 obtain ⟨F, hF⟩ : ∃ F : Nat → Int, encF f = F := ⟨_, rfl⟩
 have hW : wrB V 0 f = upd V 0 32 F := by unfold wrB; rw [hF]
 rw [hF] at HEn;rw [hW] at HPut ⊢;obtain ⟨lt1, lt2, lt3, lt4⟩ := h.lts;have HR := jh h;clear hu27 hd27 hu53 hd53 hx hb0 hb1 hm0 hm1 hn1 hkB ha hk hk32 hN hT hK hV hF hf hcd hW h;change Calls _ _ #[_, .agg g.cells.toArray, _, _] _ _
 obtain ⟨gs, hgs⟩ : ∃ gs, g.cells = gs := ⟨_, rfl⟩
 have HS53 : Hid ((Tryz.prog.info? 175).map (·.size) = some gs.length) := by rw [← hgs]; exact size53 g
 rw [hgs] at HP ⊢;clear hgs
 go_enter Tryz.func77, Tryz.ntmps77
 go_upto_region 1 with (first | (refine wpList_box_list (w := w) rfl 175 _ rfl gs rfl ?_; intro w1 F1 hb1 hz1; have HB1 := jh hb1; have hq1 : w.heap.size < w1.heap.size := (by omega); clear hb1 hz1) | (refine wpList_box_list (w := w1) rfl 77 _ rfl (ndc f) rfl ?_; intro w2 F2 hb2 hz2; have HB2 := jh hb2; have hq2 : w1.heap.size < w2.heap.size := (by omega); clear hb2 hz2))
 obtain ⟨b1, hb1⟩ : ∃ b, w.heap.size = b := ⟨_, rfl⟩
 obtain ⟨b2, hb2⟩ : ∃ b, w1.heap.size = b := ⟨_, rfl⟩
 have G1 := jh (F1.out.keep HB2.out);have G2 := F2;have HB := jh (HB1.out.trans (HB2.out.mono HB1.out.size));have R2 := jh (HR.out.keep HB.out);have HK := jh (Kf.of_below HB.out [t, m, d, gg]);rw [hb1, hb2] at hq1;rw [hb2] at hq2;rw [hb1] at G1 lt1 lt2 lt3 lt4;rw [hb2] at G2;have hwb : w.heap.size ≤ b1 := Nat.le_of_eq hb1
 try rw [hb1]
 try rw [hb2]
 clear hb1 hb2 HB1 HB2 F1 F2 HR HB;have N2 := jh (nin4 lt1 lt2 lt3 lt4 (b := b2) (by omega));have HR1 := jh G1.out.range0
 go_wp2_with (refine wpList_load_mid rfl 175 _ rfl b1 0 rfl gs d53 HR1.out HU53.out HD53.out HS53.out ?_)
 refine (HP.out w2).mono ?_;rintro e w3 ⟨rfl, hb⟩;have G3 := jh (G2.out.keep hb);have R3 := jh (R2.out.keep hb);have K3 := jh (HK.out.low hb (by omega));have hq3 : b2 < w3.heap.size := G3.out.lt;clear hb HR1 G1 G2 R2 HK HP;have HR2 := jh G3.out.range0
 go_wp2_with (refine wpList_load_mid rfl 77 _ rfl b2 0 rfl (ndc f) d27 HR2.out HU27.out HD27.out (size27 _) ?_)
 refine (HCk.out w3).mono ?_;rintro e w4 ⟨rfl, hb⟩;have G4 := jh (G3.out.keep hb);have R4 := jh (R3.out.keep hb);have K4 := jh (K3.out.low hb (by omega));have hq4 : b2 < w4.heap.size := G4.out.lt;clear hb HR2 G3 R3 K3 HCk
 go_wp2_with fail
 refine (HG.out w4 R4.out).mono ?_;rintro e w5 ⟨rfl, hR, hk⟩;have R5 := jh hR;have G5 := jh (G4.out.kf hk N2.out);have K5 := jh (K4.out.trans hk);have hq5 : b2 < w5.heap.size := G5.out.lt;clear hR hk G4 R4 K4 HG
 go_upto_region 8 with (first | (refine wpList_alloc_byts (w := w5) rfl 162 64 rfl Tryz.zero36 ?_; intro w6 F6 hb6 hz6; simp only [Act.put,j1,j2,j3,j4,j5,j6]; refine wpList_store_blk rfl (.tmp 13) (.tmp 34) rfl w5.heap.size 0 64 (fun _ => 0) V F6.out (by omega) rfl rfl ?_; intro w7 F7 HK7; have HB6 := jh hb6; clear hb6 F6))
 obtain ⟨b5, hb5⟩ : ∃ b, w5.heap.size = b := ⟨_, rfl⟩
 have R6 := jh (R5.out.keep HB6.out);have G6 := jh (G5.out.keep HB6.out);have K6 := jh (K5.out.low HB6.out (by omega))
 have hq6 : b5 < w6.heap.size := by omega
 rw [hb5] at hq5 F7 HK7
 try rw [hb5]
 clear hb5 hz6 HB6 R5 G5 K5;have N5 := jh (nin4 lt1 lt2 lt3 lt4 (b := b5) (by omega));have R7 := jh (R6.out.kp HK7.out N5.out N5.out);have G7 := jh (G6.out.kp HK7.out (by omega) (by omega));have K7 := jh (K6.out.fresh HK7.out (by omega));have E7 := jh (F7.out.congr (fun j hj => upd_zero 64 V j hj _));have hq7 := HK7.out.size;clear F7 R6 G6 K6 HK7;have HR2 := jh G7.out.range0
 go_upto_region 10 with fail
 go_wp2_with (refine wpList_load_mid rfl 77 _ rfl b2 0 rfl (ndc f) d27 HR2.out HU27.out HD27.out (size27 _) ?_)
 refine (HEn.out w7).mono ?_;rintro e w8 ⟨rfl, hb⟩;have R8 := jh (R7.out.keep hb);have E8 := jh (E7.out.below hb E7.out.lt);have K8 := jh (K7.out.low hb (by omega));have hq8 : b5 < w8.heap.size := E8.out.lt;clear hb HR2 G7 R7 K7 E7 HEn
 go_upto_region 11 with (first | (refine wpList_alloc_byts (w := w8) rfl 287 32 rfl Tryz.zero28 ?_; intro w9 F9 hb9 hz9; simp only [Act.put,j1,j2,j3,j4,j5,j6]; refine wpList_store_mid rfl 287 _ _ rfl w8.heap.size 0 (byts 32 F).toArray rfl rfl (by rw [byts_size]; exact F9.out.there 0 32 (Nat.le_refl _)) (size28' _) (byts_all _ _) ?_; have HB9 := jh hb9; clear hb9))
 obtain ⟨b8, hb8⟩ : ∃ b, w8.heap.size = b := ⟨_, rfl⟩
 have R9 := jh (R8.out.keep HB9.out);have E9 := jh (E8.out.below HB9.out E8.out.lt);have K9 := jh (K8.out.low HB9.out (by omega))
 have hq9 : b8 < w9.heap.size := by omega
 rw [hb8] at hq8 F9
 try rw [hb8]
 clear hb8 hz9 HB9 R8 E8 K8
 try rw [List.toList_toArray]
 have hkA : Kp w9 (w9.setCells b8 0 (byts 32 F)) b8 b8 := (Kp.refl w9 b8 b8).setCells b8 0 (.inl rfl) _;have N8 := jh (nin4 lt1 lt2 lt3 lt4 (b := b8) (by omega));have RA := jh (R9.out.kp hkA N8.out N8.out);have EA := jh (E9.out.kp hkA (by omega) (by omega));have FA := jh ((F9.out.store 0 32 (Nat.le_refl _) F).congr (fun j hj => upd_zero 32 F j hj _));have KA := jh (K9.out.fresh hkA (by omega));have hqA := hkA.size
 obtain ⟨wA, hwA⟩ : ∃ x, w9.setCells b8 0 (byts 32 F) = x := ⟨_, rfl⟩
 rw [hwA] at RA EA FA KA hqA ⊢;clear hwA hkA R9 E9 F9 K9
 go_still_tail 3, (by kernel_rfl)
 have RB := jh (RA.out.keep (Below.refl wA.heap.size wA).drew);have EB := jh (EA.out.below (Below.refl wA.heap.size wA).drew EA.out.lt);have FB := jh (FA.out.below (Below.refl wA.heap.size wA).drew FA.out.lt);have KB := jh (KA.out.low (Below.refl wA.heap.size wA).drew (by omega));change wpList _ _ _ _ _ (World.drew wA);have hqB : b8 < (World.drew wA).heap.size := FA.out.lt
 obtain ⟨wB, hwB⟩ : ∃ x, World.drew wA = x := ⟨_, rfl⟩
 rw [hwB] at RB EB FB KB hqB ⊢;clear hwB RA EA FA KA;refine wpList_copy_mid rfl (.tmp 42) (.tmp 43) 27 27 rfl 5 Tryz.sl34 1 Tryz.isize5 b5 0 64 64 (some ⟨b8, 0, none⟩) 32 32 rfl rfl (byts 32 F) rfl (fun _ => ⟨_, rfl, fun j v hj => ?_⟩) ?_ (byts_one _ _) ?_
 ·obtain ⟨hjl, rfl⟩ := byts_of hj;rw [Addr.add_mid, Nat.zero_add];exact FB.out.c j hjl
 ·rw [byts_len];exact EB.out.there 0 32 (by decide)
 have hkC : Kp wB (wB.setCells b5 0 (byts 32 F)) b5 b5 := (Kp.refl wB b5 b5).setCells b5 0 (.inl rfl) _;have RC := jh (RB.out.kp hkC N5.out N5.out);have EC := jh (EB.out.store 0 32 (by decide) F);have KC := jh (KB.out.fresh hkC (by omega));have hqC := hkC.size
 obtain ⟨wC, hwC⟩ : ∃ x, wB.setCells b5 0 (byts 32 F) = x := ⟨_, rfl⟩
 rw [hwC] at RC EC KC hqC ⊢;clear hwC hkC RB EB FB KB
 have HRF : Hid (wC.rangeAt b5 0 (byts 64 (upd V 0 32 F))) := jh (by
  have := EC.out.range 0 64 (Nat.le_refl _);simp only [Nat.zero_add] at this
  exact this)
 obtain ⟨V', hV'⟩ : ∃ V', upd V 0 32 F = V' := ⟨_, rfl⟩
 rw [hV'] at HRF HPut;clear EC
 go_wp2_with (refine wpList_load_mid rfl 162 _ rfl b5 0 rfl (byts 64 V') (.array 64 5) HRF.out Tryz.arr36 rfl (size36 _) ?_)
 refine (HPut.out wC RC.out).mono ?_;rintro e wD ⟨rfl, hR, hk⟩;have RD := jh hR;have KD := jh (KC.out.trans hk);clear hR hk RC KC HRF HPut
 go_wp2_with fail
 go_ret
 rw [hV'];exact ⟨rfl, RD.out, KD.out⟩
theorem write_in32 (g : Cf.Ge) (x : Int) (t m d gg N K kB : Nat) (Y : Nat → Nat → Int) (f : Nat → Int) (hf : NdOk f) (hcd : codeN f = 0) (hx : inP g x) (hb0 : 0 ≤ g.base) (hb1 : g.base < 100000) (hm0 : 0 ≤ g.bm) (hm1 : g.bm < 100000) (hn1 : g.nd ≤ 128) (hkB : g.base + g.bm + (x - 1) / 2 = kB) (ha : (x - 1) % 2 * 32 = 32) (hk : kB < N) (hk32 : 32 ≤ kB) (hN : N ≤ 65536) (hT : Has ln kB) (hK : K < 600000000) (w : World) (h : Rd w t m d gg N ln Y K) :
  Calls Tryz.prog 77 #[.pointer (some ⟨t, 0, none⟩), g.val, .int .i64 x, .agg (ndc f).toArray] w fun e w' => e = .returned (.int .i64 0) ∧ Rd w' t m d gg N ln (vput kB (wrB (Y kB) 32 f) Y) (K + 1) ∧ Kf w w' [t, m, d, gg] := by
 obtain ⟨d27, hu27, hd27⟩ := Tryz.desc27;obtain ⟨d53, hu53, hd53⟩ := Tryz.desc53;have HU27 := jh hu27;have HD27 := jh hd27;have HU53 := jh hu53;have HD53 := jh hd53
 have HP : Hid (∀ W, Calls Tryz.prog 140 #[.agg g.cells.toArray, .int .i64 x] W fun e w' => e = .returned (.tuple #[.int .i64 kB, .int .i64 32, .bool true]) ∧ Below W.heap.size W w') := fun W => by
  have := place_in g x hx hb0 hb1 hm0 hm1 hn1 W;rw [hkB, ha] at this;exact this
 have HCk := jh (fun W => check_any f hf W);rw [hcd] at HCk;have HEn := jh (fun W => encode_any f hf W);have HG := jh (fun W (h : Rd W t m d gg N ln Y K) => get6 t m d gg K Y kB hk32 hk (by omega) W h);have HPut := jh (fun W (h' : Rd W t m d gg N ln Y (K + 1)) => put6 t m d gg (K + 1) Y kB (wrB (Y kB) 32 f) (wrB_byt (h.vb kB) hf 32 (by decide)) hk32 hk hT W h')
 obtain ⟨V, hV⟩ : ∃ V, Y kB = V := ⟨_, rfl⟩
 rw [hV] at HG HPut ⊢
 obtain ⟨F, hF⟩ : ∃ F : Nat → Int, encF f = F := ⟨_, rfl⟩
 have hW : wrB V 32 f = upd V 32 32 F := by unfold wrB; rw [hF]
 rw [hF] at HEn;rw [hW] at HPut ⊢;obtain ⟨lt1, lt2, lt3, lt4⟩ := h.lts;have HR := jh h;clear hu27 hd27 hu53 hd53 hx hb0 hb1 hm0 hm1 hn1 hkB ha hk hk32 hN hT hK hV hF hf hcd hW h;change Calls _ _ #[_, .agg g.cells.toArray, _, _] _ _
 obtain ⟨gs, hgs⟩ : ∃ gs, g.cells = gs := ⟨_, rfl⟩
 have HS53 : Hid ((Tryz.prog.info? 175).map (·.size) = some gs.length) := by rw [← hgs]; exact size53 g
 rw [hgs] at HP ⊢;clear hgs
 go_enter Tryz.func77, Tryz.ntmps77
 go_upto_region 1 with (first | (refine wpList_box_list (w := w) rfl 175 _ rfl gs rfl ?_; intro w1 F1 hb1 hz1; have HB1 := jh hb1; have hq1 : w.heap.size < w1.heap.size := (by omega); clear hb1 hz1) | (refine wpList_box_list (w := w1) rfl 77 _ rfl (ndc f) rfl ?_; intro w2 F2 hb2 hz2; have HB2 := jh hb2; have hq2 : w1.heap.size < w2.heap.size := (by omega); clear hb2 hz2))
 obtain ⟨b1, hb1⟩ : ∃ b, w.heap.size = b := ⟨_, rfl⟩
 obtain ⟨b2, hb2⟩ : ∃ b, w1.heap.size = b := ⟨_, rfl⟩
 have G1 := jh (F1.out.keep HB2.out);have G2 := F2;have HB := jh (HB1.out.trans (HB2.out.mono HB1.out.size));have R2 := jh (HR.out.keep HB.out);have HK := jh (Kf.of_below HB.out [t, m, d, gg]);rw [hb1, hb2] at hq1;rw [hb2] at hq2;rw [hb1] at G1 lt1 lt2 lt3 lt4;rw [hb2] at G2;have hwb : w.heap.size ≤ b1 := Nat.le_of_eq hb1
 try rw [hb1]
 try rw [hb2]
 clear hb1 hb2 HB1 HB2 F1 F2 HR HB;have N2 := jh (nin4 lt1 lt2 lt3 lt4 (b := b2) (by omega));have HR1 := jh G1.out.range0
 go_wp2_with (refine wpList_load_mid rfl 175 _ rfl b1 0 rfl gs d53 HR1.out HU53.out HD53.out HS53.out ?_)
 refine (HP.out w2).mono ?_;rintro e w3 ⟨rfl, hb⟩;have G3 := jh (G2.out.keep hb);have R3 := jh (R2.out.keep hb);have K3 := jh (HK.out.low hb (by omega));have hq3 : b2 < w3.heap.size := G3.out.lt;clear hb HR1 G1 G2 R2 HK HP;have HR2 := jh G3.out.range0
 go_wp2_with (refine wpList_load_mid rfl 77 _ rfl b2 0 rfl (ndc f) d27 HR2.out HU27.out HD27.out (size27 _) ?_)
 refine (HCk.out w3).mono ?_;rintro e w4 ⟨rfl, hb⟩;have G4 := jh (G3.out.keep hb);have R4 := jh (R3.out.keep hb);have K4 := jh (K3.out.low hb (by omega));have hq4 : b2 < w4.heap.size := G4.out.lt;clear hb HR2 G3 R3 K3 HCk
 go_wp2_with fail
 refine (HG.out w4 R4.out).mono ?_;rintro e w5 ⟨rfl, hR, hk⟩;have R5 := jh hR;have G5 := jh (G4.out.kf hk N2.out);have K5 := jh (K4.out.trans hk);have hq5 : b2 < w5.heap.size := G5.out.lt;clear hR hk G4 R4 K4 HG
 go_upto_region 8 with (first | (refine wpList_alloc_byts (w := w5) rfl 162 64 rfl Tryz.zero36 ?_; intro w6 F6 hb6 hz6; simp only [Act.put,j1,j2,j3,j4,j5,j6]; refine wpList_store_blk rfl (.tmp 13) (.tmp 34) rfl w5.heap.size 0 64 (fun _ => 0) V F6.out (by omega) rfl rfl ?_; intro w7 F7 HK7; have HB6 := jh hb6; clear hb6 F6))
 obtain ⟨b5, hb5⟩ : ∃ b, w5.heap.size = b := ⟨_, rfl⟩
 have R6 := jh (R5.out.keep HB6.out);have G6 := jh (G5.out.keep HB6.out);have K6 := jh (K5.out.low HB6.out (by omega))
 have hq6 : b5 < w6.heap.size := by omega
 rw [hb5] at hq5 F7 HK7
 try rw [hb5]
 clear hb5 hz6 HB6 R5 G5 K5;have N5 := jh (nin4 lt1 lt2 lt3 lt4 (b := b5) (by omega));have R7 := jh (R6.out.kp HK7.out N5.out N5.out);have G7 := jh (G6.out.kp HK7.out (by omega) (by omega));have K7 := jh (K6.out.fresh HK7.out (by omega));have E7 := jh (F7.out.congr (fun j hj => upd_zero 64 V j hj _));have hq7 := HK7.out.size;clear F7 R6 G6 K6 HK7;have HR2 := jh G7.out.range0
 go_upto_region 10 with fail
 go_wp2_with (refine wpList_load_mid rfl 77 _ rfl b2 0 rfl (ndc f) d27 HR2.out HU27.out HD27.out (size27 _) ?_)
 refine (HEn.out w7).mono ?_;rintro e w8 ⟨rfl, hb⟩;have R8 := jh (R7.out.keep hb);have E8 := jh (E7.out.below hb E7.out.lt);have K8 := jh (K7.out.low hb (by omega));have hq8 : b5 < w8.heap.size := E8.out.lt;clear hb HR2 G7 R7 K7 E7 HEn
 go_upto_region 11 with (first | (refine wpList_alloc_byts (w := w8) rfl 287 32 rfl Tryz.zero28 ?_; intro w9 F9 hb9 hz9; simp only [Act.put,j1,j2,j3,j4,j5,j6]; refine wpList_store_mid rfl 287 _ _ rfl w8.heap.size 0 (byts 32 F).toArray rfl rfl (by rw [byts_size]; exact F9.out.there 0 32 (Nat.le_refl _)) (size28' _) (byts_all _ _) ?_; have HB9 := jh hb9; clear hb9))
 obtain ⟨b8, hb8⟩ : ∃ b, w8.heap.size = b := ⟨_, rfl⟩
 have R9 := jh (R8.out.keep HB9.out);have E9 := jh (E8.out.below HB9.out E8.out.lt);have K9 := jh (K8.out.low HB9.out (by omega))
 have hq9 : b8 < w9.heap.size := by omega
 rw [hb8] at hq8 F9
 try rw [hb8]
 clear hb8 hz9 HB9 R8 E8 K8
 try rw [List.toList_toArray]
 have hkA : Kp w9 (w9.setCells b8 0 (byts 32 F)) b8 b8 := (Kp.refl w9 b8 b8).setCells b8 0 (.inl rfl) _;have N8 := jh (nin4 lt1 lt2 lt3 lt4 (b := b8) (by omega));have RA := jh (R9.out.kp hkA N8.out N8.out);have EA := jh (E9.out.kp hkA (by omega) (by omega));have FA := jh ((F9.out.store 0 32 (Nat.le_refl _) F).congr (fun j hj => upd_zero 32 F j hj _));have KA := jh (K9.out.fresh hkA (by omega));have hqA := hkA.size
 obtain ⟨wA, hwA⟩ : ∃ x, w9.setCells b8 0 (byts 32 F) = x := ⟨_, rfl⟩
 rw [hwA] at RA EA FA KA hqA ⊢;clear hwA hkA R9 E9 F9 K9
 go_still_tail 3, (by kernel_rfl)
 have RB := jh (RA.out.keep (Below.refl wA.heap.size wA).drew);have EB := jh (EA.out.below (Below.refl wA.heap.size wA).drew EA.out.lt);have FB := jh (FA.out.below (Below.refl wA.heap.size wA).drew FA.out.lt);have KB := jh (KA.out.low (Below.refl wA.heap.size wA).drew (by omega));change wpList _ _ _ _ _ (World.drew wA);have hqB : b8 < (World.drew wA).heap.size := FA.out.lt
 obtain ⟨wB, hwB⟩ : ∃ x, World.drew wA = x := ⟨_, rfl⟩
 rw [hwB] at RB EB FB KB hqB ⊢;clear hwB RA EA FA KA;refine wpList_copy_mid rfl (.tmp 42) (.tmp 43) 27 27 rfl 5 Tryz.sl34 1 Tryz.isize5 b5 32 32 32 (some ⟨b8, 0, none⟩) 32 32 rfl rfl (byts 32 F) rfl (fun _ => ⟨_, rfl, fun j v hj => ?_⟩) ?_ (byts_one _ _) ?_
 ·obtain ⟨hjl, rfl⟩ := byts_of hj;rw [Addr.add_mid, Nat.zero_add];exact FB.out.c j hjl
 ·rw [byts_len];exact EB.out.there 32 32 (by decide)
 have hkC : Kp wB (wB.setCells b5 32 (byts 32 F)) b5 b5 := (Kp.refl wB b5 b5).setCells b5 32 (.inl rfl) _;have RC := jh (RB.out.kp hkC N5.out N5.out);have EC := jh (EB.out.store 32 32 (by decide) F);have KC := jh (KB.out.fresh hkC (by omega));have hqC := hkC.size
 obtain ⟨wC, hwC⟩ : ∃ x, wB.setCells b5 32 (byts 32 F) = x := ⟨_, rfl⟩
 rw [hwC] at RC EC KC hqC ⊢;clear hwC hkC RB EB FB KB
 have HRF : Hid (wC.rangeAt b5 0 (byts 64 (upd V 32 32 F))) := jh (by
  have := EC.out.range 0 64 (Nat.le_refl _);simp only [Nat.zero_add] at this
  exact this)
 obtain ⟨V', hV'⟩ : ∃ V', upd V 32 32 F = V' := ⟨_, rfl⟩
 rw [hV'] at HRF HPut;clear EC
 go_wp2_with (refine wpList_load_mid rfl 162 _ rfl b5 0 rfl (byts 64 V') (.array 64 5) HRF.out Tryz.arr36 rfl (size36 _) ?_)
 refine (HPut.out wC RC.out).mono ?_;rintro e wD ⟨rfl, hR, hk⟩;have RD := jh hR;have KD := jh (KC.out.trans hk);clear hR hk RC KC HRF HPut
 go_wp2_with fail
 go_ret
 rw [hV'];exact ⟨rfl, RD.out, KD.out⟩
theorem codeN_zero : codeN zpt = 0 := by kernel_rfl
theorem encF_zero (j : Nat) : encF zpt j = 0 := by
 have hd : ∀ i, dig 0 i = 0 := fun i => by simp [dig]
 unfold encF;have hz : ∀ i, zpt i = 0 := fun _ => rfl;simp only [hz, hd]
 split <;> (try rfl)
 split <;> (try rfl)
 split <;> (try rfl)
 split <;> (try rfl)
 split <;> rfl
theorem half {x : Int} {n : Nat} (hx : x = n) (h1 : 1 ≤ n) : (x - 1) % 2 * 32 = 0 ∧ (n - 1) % 2 * 32 = 0 ∨ (x - 1) % 2 * 32 = 32 ∧ (n - 1) % 2 * 32 = 32 := by omega
def Tab (P0 M : Nat) (Y : Nat → Nat → Int) (V : Nat → Nat → Int) : Prop := ∀ n, 1 ≤ n → n ≤ M → (∀ j, j < 32 → Y (P0 + (n - 1) / 2) ((n - 1) % 2 * 32 + j) = encF (V n) j) ∧ NdOk (V n) ∧ codeN (V n) = 0
theorem Tab.new (P0 M : Nat) : Tab P0 M (fun _ _ => 0) (fun _ => zpt) := fun n _ _ => ⟨fun j _ => (encF_zero j).symm, zpt_ok, codeN_zero⟩
theorem Tab.congr {P0 M : Nat} {Y Y' V : Nat → Nat → Int} (h : Tab P0 M Y V) (hY : ∀ x, P0 ≤ x → x < P0 + (M + 1) / 2 → Y' x = Y x) : Tab P0 M Y' V := fun n h1 h2 => by
 obtain ⟨g1, g2, g3⟩ := h n h1 h2;exact ⟨fun j hj => by rw [hY _ (by omega) (by omega)]; exact g1 j hj, g2, g3⟩
theorem Tab.put {P0 M : Nat} {Y V : Nat → Nat → Int} (h : Tab P0 M Y V) (n : Nat) (h1 : 1 ≤ n) (h2 : n ≤ M) (f : Nat → Int) (hf : NdOk f) (hc : codeN f = 0) (kB A : Nat) (hkB : kB = P0 + (n - 1) / 2) (hA : A = (n - 1) % 2 * 32) :
  Tab P0 M (vput kB (wrB (Y kB) A f) Y) (vput n f V) := fun k k1 k2 => by
 obtain ⟨g1, g2, g3⟩ := h k k1 k2
 by_cases e : n = k
 ·subst e;rw [vput_at];refine ⟨fun j hj => ?_, hf, hc⟩;rw [← hkB, vput_at, hA];unfold wrB upd;rw [if_pos (by omega)]
  congr 1
  omega
 ·rw [vput_ne _ _ e];refine ⟨fun j hj => ?_, g2, g3⟩;rw [← g1 j hj]
  by_cases eb : kB = P0 + (k - 1) / 2
  ·rw [← eb, vput_at];unfold wrB upd;rw [if_neg (by omega)]
  ·rw [vput_ne _ _ eb]
theorem read_any6 (g : Cf.Ge) (n : Nat) (t m d gg N K P0 M : Nat) (Y V : Nat → Nat → Int) (h1 : 1 ≤ n) (h2 : n ≤ M) (hM : g.nd = M) (hP : g.base + g.bm = P0) (hb0 : 0 ≤ g.base) (hb1 : g.base < 100000) (hm0 : 0 ≤ g.bm) (hm1 : g.bm < 100000) (hn1 : g.nd ≤ 128) (hk : P0 + (M + 1) / 2 ≤ N) (hk32 : 32 ≤ P0) (hK : K < 600000000) (hI : Tab P0 M Y V) (w : World) (h : Rd w t m d gg N ln Y K) :
  Calls Tryz.prog 93 #[.pointer (some ⟨t, 0, none⟩), g.val, .int .i64 n] w fun e w' => e = .returned (.tuple #[.agg (ndc (V n)).toArray, .int .i64 0]) ∧ Rd w' t m d gg N ln Y (K + 1) ∧ Kf w w' [t, m, d, gg] := by
 obtain ⟨g1, g2, g3⟩ := hI n h1 h2;have hN := h.hN
 have hx : inP g n := ⟨by omega, by omega⟩
 have hkB : g.base + g.bm + ((n : Int) - 1) / 2 = ((P0 + (n - 1) / 2 : Nat) : Int) := by omega
 have hE := decE_enc g2;rw [g3] at hE;have hV := ndc_dec g2 g3;rcases half (x := n) rfl h1 with ⟨ha, ha'⟩ | ⟨ha, ha'⟩
 ·have := read_in0 g n t m d gg N K (P0 + (n - 1) / 2) Y hx hb0 hb1 hm0 hm1 hn1 hkB ha (by omega) (by omega) hN hK (encF (V n)) (encF_byt g2) (fun j hj => by have := g1 j hj; rwa [ha'] at this) w h
  rwa [hE, hV] at this
 ·have := read_in32 g n t m d gg N K (P0 + (n - 1) / 2) Y hx hb0 hb1 hm0 hm1 hn1 hkB ha (by omega) (by omega) hN hK (encF (V n)) (encF_byt g2) (fun j hj => by have := g1 j hj; rwa [ha'] at this) w h
  rwa [hE, hV] at this
def tabW (P0 n : Nat) (f : Nat → Int) (Y : Nat → Nat → Int) : Nat → Nat → Int := vput (P0 + (n - 1) / 2) (wrB (Y (P0 + (n - 1) / 2)) ((n - 1) % 2 * 32) f) Y
theorem write_any6 (g : Cf.Ge) (n : Nat) (t m d gg N K P0 M : Nat) (Y : Nat → Nat → Int) (f : Nat → Int) (hf : NdOk f) (hcd : codeN f = 0) (h1 : 1 ≤ n) (h2 : n ≤ M) (hM : g.nd = M) (hP : g.base + g.bm = P0) (hb0 : 0 ≤ g.base) (hb1 : g.base < 100000) (hm0 : 0 ≤ g.bm) (hm1 : g.bm < 100000) (hn1 : g.nd ≤ 128) (hk : P0 + (M + 1) / 2 ≤ N) (hk32 : 32 ≤ P0) (hT : Has ln (P0 + (n - 1) / 2)) (hK : K < 600000000) (w : World) (h : Rd w t m d gg N ln Y K) :
  Calls Tryz.prog 77 #[.pointer (some ⟨t, 0, none⟩), g.val, .int .i64 n, .agg (ndc f).toArray] w fun e w' => e = .returned (.int .i64 0) ∧ Rd w' t m d gg N ln (tabW P0 n f Y) (K + 1) ∧ Kf w w' [t, m, d, gg] := by
 have hN := h.hN
 have hx : inP g n := ⟨by omega, by omega⟩
 have hkB : g.base + g.bm + ((n : Int) - 1) / 2 = ((P0 + (n - 1) / 2 : Nat) : Int) := by omega
 unfold tabW;rcases half (x := n) rfl h1 with ⟨ha, ha'⟩ | ⟨ha, ha'⟩
 ·rw [ha'];exact write_in0 g n t m d gg N K (P0 + (n - 1) / 2) Y f hf hcd hx hb0 hb1 hm0 hm1 hn1 hkB ha (by omega) (by omega) hN hT hK w h
 ·rw [ha'];exact write_in32 g n t m d gg N K (P0 + (n - 1) / 2) Y f hf hcd hx hb0 hb1 hm0 hm1 hn1 hkB ha (by omega) (by omega) hN hT hK w h
theorem Tab.wr {P0 M : Nat} {Y V : Nat → Nat → Int} (h : Tab P0 M Y V) (n : Nat) (h1 : 1 ≤ n) (h2 : n ≤ M) (f : Nat → Int) (hf : NdOk f) (hc : codeN f = 0) : Tab P0 M (tabW P0 n f Y) (vput n f V) :=
 h.put n h1 h2 f hf hc _ _ rfl rfl
theorem tabW_ne (P0 n : Nat) (f : Nat → Int) (Y : Nat → Nat → Int) (x : Nat) (h : x ≠ P0 + (n - 1) / 2) : tabW P0 n f Y x = Y x := vput_ne _ _ (Ne.symm h)
end Go.Proofs.YtgdapkbenmlabaaGreatDoor
