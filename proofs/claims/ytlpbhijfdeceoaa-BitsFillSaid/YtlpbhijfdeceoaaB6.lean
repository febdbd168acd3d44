import Derived.Test.YtlpbhijfdeceoaaB5
import Derived.Deep.CutBlock
import Derived.Deep.DeepCutAuto
/- The map of bits: each. -/
namespace Go.Proofs.Ytlpbhijfdeceoaa
set_option linter.unusedSimpArgs false
set_option linter.unusedVariables false
open Go.RowKit Go.Maps


theorem Kf.wide {w w' : World} {L L' : List Nat} (h : Kf w w' L) (hl : ∀ k ∈ L, k ∈ L') : Kf w w' L' := ⟨h.os, h.tape, h.output, h.size, fun k hk hn => h.block k hk (fun hm => hn (hl k hm))⟩
/-- below B nothing has turned but block q -/
structure Kb (B : Nat) (w w' : World) (q : Nat) : Prop where
  os : w'.os = w.os
  tape : w'.tape = w.tape
  output : w'.output = w.output
  size : w.heap.size ≤ w'.heap.size
  block : ∀ k, k < B → k ≠ q → w'.heap[k]? = w.heap[k]?
theorem Kb.cell {B : Nat} {w w' : World} {q : Nat} (h : Kb B w w' q) {p : Addr} (hp : p.block < B) (h1 : p.block ≠ q) : w'.cell? p = w.cell? p := World.cell?_of_block (w := w) (h.block p.block hp h1)
theorem Kb.frozen {B : Nat} {w w' : World} {q : Nat} (h : Kb B w w' q) {p : Addr} (hp : p.block < B) (h1 : p.block ≠ q) : w'.frozen? p = w.frozen? p := World.frozen?_of_block (w := w) (h.block p.block hp h1)
theorem Kb.fl {B : Nat} {w w' : World} {q b N : Nat} {f : Nat → Int} (h : Kb B w w' q) (hf : Fl w b N f) (hb : b < B) (hq : b ≠ q) : Fl w' b N f :=
  ⟨Nat.lt_of_lt_of_le hf.lt h.size, fun j hj => (h.cell (p := ⟨b, j, none⟩) hb hq).trans (hf.c j hj), fun j hj => (h.frozen (p := ⟨b, j, none⟩) hb hq).trans (hf.z j hj)⟩
theorem Kb.mb {B : Nat} {w w' : World} {q p t fi n : Nat} (h : Kb B w w' q) (hm : Mb w p t fi n) (hb : p < B) (hq : p ≠ q) : Mb w' p t fi n :=
  ⟨Nat.lt_of_lt_of_le hm.lt h.size, (h.cell (p := ⟨p, 0, none⟩) hb hq).trans hm.c0, (h.cell (p := ⟨p, 1, none⟩) hb hq).trans hm.c1, (h.cell (p := ⟨p, 2, none⟩) hb hq).trans hm.c2⟩
theorem Kb.kf {B : Nat} {w0 w w' : World} {q : Nat} {L : List Nat} (h : Kb B w w' q) (k : Kf w0 w L) (hB : w0.heap.size ≤ B) (hq : q ∈ L) : Kf w0 w' L :=
  ⟨h.os.trans k.os, h.tape.trans k.tape, h.output.trans k.output, Nat.le_trans k.size h.size, fun i hi hn => (h.block i (by omega) (fun e => hn (e ▸ hq))).trans (k.block i hi hn)⟩
theorem Kb.rd {B : Nat} {w w' : World} {q t m d g K : Nat} {T : TS} (h : Kb B w w' q) (hr : Rd w t m d g T K) (hB : t < B ∧ m < B ∧ d < B ∧ g < B) (hq : q ∉ [t, m, d, g]) : Rd w' t m d g T K := by
  obtain ⟨r, hr1, hd⟩ := hr.dk
  obtain ⟨b1, b2, b3, b4⟩ := hB
  simp only [List.mem_cons, List.not_mem_nil, or_false, not_or] at hq
  obtain ⟨q1, q2, q3, q4⟩ := hq
  have ct : ∀ i, w'.cell? ⟨t, i, none⟩ = w.cell? ⟨t, i, none⟩ := fun i => h.cell (p := ⟨t, i, none⟩) b1 (fun e => q1 e.symm)
  have cd : ∀ i, w'.cell? ⟨d, i, none⟩ = w.cell? ⟨d, i, none⟩ := fun i => h.cell (p := ⟨d, i, none⟩) b3 (fun e => q3 e.symm)
  have zt : ∀ i, w'.frozen? ⟨t, i, none⟩ = w.frozen? ⟨t, i, none⟩ := fun i => h.frozen (p := ⟨t, i, none⟩) b1 (fun e => q1 e.symm)
  have zd : ∀ i, w'.frozen? ⟨d, i, none⟩ = w.frozen? ⟨d, i, none⟩ := fun i => h.frozen (p := ⟨d, i, none⟩) b3 (fun e => q3 e.symm)
  refine ⟨⟨⟨Nat.lt_of_lt_of_le hr.tx.lg.lt h.size, (ct 0).trans hr.tx.lg.c0, (ct 1).trans hr.tx.lg.c1⟩, (ct 2).trans hr.tx.c2, (ct 3).trans hr.tx.c3, (zt 3).trans hr.tx.z3, hr.tx.mp.block (h.block m b2 (fun e => q2 e.symm)), hr.tx.ne⟩, ⟨r, hr1, ?_⟩, hr.n1, hr.n2, hr.n3, hr.n4, hr.tb⟩
  exact ⟨Nat.lt_of_lt_of_le hd.lt h.size, hd.ne, (cd 0).trans hd.c0, (cd 1).trans hd.c1, (cd 2).trans hd.c2, (cd 3).trans hd.c3, (cd 4).trans hd.c4, (cd 5).trans hd.c5, (zd 1).trans hd.z1, (zd 2).trans hd.z2, (zd 3).trans hd.z3, (zd 4).trans hd.z4, (zd 5).trans hd.z5, h.fl hd.fl b4 (fun e => q4 e.symm)⟩

set_option maxHeartbeats 40000000 in
set_option maxRecDepth 100000 in
theorem each_any (p t m d g fi n K fk q : Nat) (T : TS) (Inv : Nat → World → Prop) (Fin' : World → Prop) (hf : fi ≤ 65536) (hn : n ≤ 65536) (hx : ∀ i, i < n → fi + i / 512 < 40) (hK : K < 600000) (w : World) (hm : Mb w p t fi n) (hr : Rd w t m d g T K)
    (hp : p ∉ [t, m, d, g]) (hq : q ∉ [p, t, m, d, g]) (hql : q < w.heap.size)
    (hfk : ∀ args W, (callFunc fk args).run Try.prog W = .ok (.enter fk args) W)
    (h0 : ∀ W, Below w.heap.size w W → Inv 0 W)
    (hs : ∀ i W W', Inv i W → Kf W W' [t, m, d, g, w.heap.size] → Inv i W')
    (hc : ∀ i W, i < n → Inv i W → w.heap.size < W.heap.size → Calls Try.prog fk #[.int .i64 i, .bool (bitOf (vw T (fi + i / 512)) i), .pointer (some ⟨q, 0, none⟩)] W fun e w' => ∃ c, e = .returned (.bool c) ∧ Kb (w.heap.size + 1) W w' q ∧ if c = true then Inv (i + 1) w' else Fin' w') :
    Calls Try.prog 29 #[.pointer (some ⟨p, 0, none⟩), .func (.func fk) #[] #[.pointer (some ⟨q, 0, none⟩)]] w fun e w' => e = .returned (.int .i64 0) ∧ Rd w' t m d g T (K + 200) ∧ Kf w w' [t, m, d, g, q] ∧ (Inv n w' ∨ Fin' w') := by
  have HM := Lib.hid hm
  have HR := Lib.hid hr
  have c2 := hm.c2
  have hpl := hm.lt
  have hlts := hr.lts
  have HSt := Lib.hid hs
  have HC := Lib.hid hc
  have H0 := Lib.hid h0
  have HXx := Lib.hid hx
  have HTb := Lib.hid hr.tb
  obtain ⟨hq1, hq2, hq3, hq4, hq5⟩ : q ≠ p ∧ q ≠ t ∧ q ≠ m ∧ q ≠ d ∧ q ≠ g := by simpa using hq
  clear hm hr hs hc h0 hx hq
  have h0n : (0 : Int) ≤ n := by omega
  have h1n : (n : Int) ≤ 65536 := by omega
  go_enter Try.func29, Try.ntmps29
  go_wp2_with (refine wpList_alloc_byts rfl 49 64 rfl Try.zero36 ?_; intro w1 F1 hb1 hz1; have HF1 := F1; have HK1 := Lib.hid (Kf.of_below hb1 [t, m, d, g, q]); have HM1 := Lib.hid (HM.out.keep hb1); have HR1 := Lib.hid (HR.out.keep hb1); have HI1 := Lib.hid (H0.out w1 hb1); replace c2 := HM1.out.c2; clear hb1 hz1 F1)
  obtain ⟨b5, hb5⟩ : ∃ b, w.heap.size = b := ⟨_, rfl⟩
  have hb5' : w.heap.size ≤ b5 := by omega
  rw [hb5] at HF1 hpl hlts hql HSt HC ⊢
  clear hb5 H0 HM HR c2
  go_loopw [6, 7, 14] (fun _ _ i wr => ∃ k : Nat, k ≤ n ∧ i = .int .i64 k ∧ Mb wr p t fi n ∧ Rd wr t m d g T (K + (k + 511) / 512) ∧ (∃ F, Fl wr b5 64 F ∧ (k % 512 ≠ 0 → F = vw T (fi + k / 512)) ∧ Byt F) ∧ Inv k wr ∧ Kf w wr [t, m, d, g, q] ∧ b5 < wr.heap.size) (fun _ _ i _ => n - (Go.RowKit.intOf i).toNat)
  case atStart => exact ⟨0, by omega, rfl, HM1.out, HR1.out, ⟨_, HF1.out, fun h => absurd rfl h, byt_zero⟩, HI1.out, HK1.out, HF1.out.lt⟩
  case round =>
    obtain ⟨k, hk, rfl, hM, hR, ⟨F, hF, hFv, hFb⟩, hI, hKf, hz⟩ := hrel
    have HM0 := Lib.hid hM
    have HR0 := Lib.hid hR
    have HF0 := Lib.hid hF
    have HFv := Lib.hid hFv
    have HFb := Lib.hid hFb
    have HI0 := Lib.hid hI
    have HK0 := Lib.hid hKf
    clear hM hR hF hFv hFb hI hKf HM1 HR1 HF1 HI1 HK1
    have hk0 : (0 : Int) ≤ k := by omega
    have hkn : (k : Int) ≤ 65536 := by omega
    obtain ⟨wX, rfl⟩ : ∃ x, x = wr := ⟨wr, rfl⟩
    by_cases hlt : k < n
    · have hlti : (k : Int) < n := by omega
      by_cases hm : k % 512 = 0
      · have hmi : (k : Int) % 512 = 0 := by omega
        have HP := Lib.hid (fun W h => place_any p t fi n k hf (by omega) W h)
        have HG := Lib.hid (fun W h => get5 t m d g (K + (k + 511) / 512) T (fi + k / 512) (HXx.out k hlt) (by omega) W h)
        have HVb := Lib.hid (vw_byt HTb.out (fi + k / 512))
        have HVe : Hid ((k + 1) % 512 ≠ 0 → vw T (fi + k / 512) = vw T (fi + (k + 1) / 512)) := fun h => by rw [show (k + 1) / 512 = k / 512 by omega]
        have HIs := Lib.hid (isset_any (vw T (fi + k / 512)) HVb.out k (by omega))
        obtain ⟨V, hV⟩ : ∃ V, vw T (fi + k / 512) = V := ⟨_, rfl⟩
        have HCk := Lib.hid (fun W => HC.out k W hlt)
        rw [hV] at HG HVb HVe HIs HCk
        obtain ⟨X, hX⟩ : ∃ X, fi + k / 512 = X := ⟨_, rfl⟩
        rw [hX] at HG HP
        clear hV hX HC
        have HC := Lib.hid HCk.out
        clear HCk
        go_wp2_with fail
        obtain ⟨w1, rfl⟩ : ∃ x, x = wX := ⟨wX, rfl⟩
        have HM1 := Lib.hid HM0.out
        have HR1 := Lib.hid HR0.out
        have HF1 := HF0
        have HK1 := Lib.hid HK0.out
        have HI1 := Lib.hid HI0.out
        clear HM0 HR0 HF0 HK0 HI0 HFv HFb
        refine wp_region_held (S := fun W => Mb W p t fi n) (by kernel_rfl) ?_
        change wpAnyH _ _ _ _ _ _ _ _ (World.drew _)
        have hS0 : Mb w1.drew p t fi n := HM1.out.keep (Below.refl _ _).drew
        have HI2 := Lib.hid (HSt.out k w1 w1.drew HI1.out (Kf.of_below (Below.refl w1.heap.size w1).drew _))
        have HR2 := Lib.hid (HR1.out.keep (Below.refl _ _).drew)
        have HF2 := Lib.hid (HF1.out.below (Below.refl _ _).drew HF1.out.lt)
        have HK2 := Lib.hid (HK1.out.trans (Kf.of_below (Below.refl w1.heap.size w1).drew [t, m, d, g, q]))
        obtain ⟨w2, hw2⟩ : ∃ x, World.drew w1 = x := ⟨_, rfl⟩
        rw [hw2] at hS0 HR2 HF2 HK2 HI2 ⊢
        clear hw2 HR1 HK1 HM1 HF1 HI1
        refine wpAnyH_take (i := 0) (v := ?_) rfl (by kernel_rfl) (by kernel_rfl) (by kernel_rfl) (fun _ _ _ h => h) (Or.inl ⟨by rfl, ?_⟩) hS0 ?_
        rotate_left 1
        · intro W hW
          go_simp
          try with_reducible rfl
        simp only [Act.put, List.getElem_toArray, List.getElem_cons_zero, List.getElem_cons_succ, List.setIfInBounds_toArray, List.set_cons_zero, List.set_cons_succ]
        refine wpAnyH_take (i := 1) (v := ?_) rfl (by kernel_rfl) (by kernel_rfl) (by kernel_rfl) (fun _ _ _ h => h) (Or.inl ⟨by rfl, ?_⟩) hS0 ?_
        rotate_left 1
        · intro W hW
          go_simp
          try with_reducible rfl
        simp only [Act.put, List.getElem_toArray, List.getElem_cons_zero, List.getElem_cons_succ, List.setIfInBounds_toArray, List.set_cons_zero, List.set_cons_succ]
        refine wpAnyH_take (i := 2) (v := ?_) rfl (by kernel_rfl) (by kernel_rfl) (by kernel_rfl) (fun _ _ _ h => h) (Or.inl ⟨by rfl, ?_⟩) hS0 ?_
        rotate_left 1
        · intro W hW
          go_simp
          try with_reducible rfl
        simp only [Act.put, List.getElem_toArray, List.getElem_cons_zero, List.getElem_cons_succ, List.setIfInBounds_toArray, List.set_cons_zero, List.set_cons_succ]
        refine wpAnyH_take (i := 3) (v := ?_) rfl (by kernel_rfl) (by kernel_rfl) (by kernel_rfl) (fun _ _ _ h => h) (Or.inl ⟨by rfl, ?_⟩) hS0 ?_
        rotate_left 1
        · intro W hW
          have c0 := hW.c0
          go_simp
          try with_reducible rfl
        simp only [Act.put, List.getElem_toArray, List.getElem_cons_zero, List.getElem_cons_succ, List.setIfInBounds_toArray, List.set_cons_zero, List.set_cons_succ]
        refine wpAnyH_take (i := 4) (v := ?_) rfl (by kernel_rfl) (by kernel_rfl) (by kernel_rfl) (fun _ _ _ h => h) (Or.inl ⟨by rfl, ?_⟩) hS0 ?_
        rotate_left 1
        · intro W hW
          go_simp
          try with_reducible rfl
        simp only [Act.put, List.getElem_toArray, List.getElem_cons_zero, List.getElem_cons_succ, List.setIfInBounds_toArray, List.set_cons_zero, List.set_cons_succ]
        refine wpAnyH_take (i := 5) (v := ?_) rfl (by kernel_rfl) (by kernel_rfl) (by kernel_rfl) (fun _ _ _ h => h) (Or.inl ⟨by rfl, ?_⟩) hS0 ?_
        rotate_left 1
        · intro W hW
          go_simp
          try with_reducible rfl
        simp only [Act.put, List.getElem_toArray, List.getElem_cons_zero, List.getElem_cons_succ, List.setIfInBounds_toArray, List.set_cons_zero, List.set_cons_succ]
        refine wpAnyH_take (i := 7) (v := ?_) rfl (by kernel_rfl) (by kernel_rfl) (by kernel_rfl) (fun _ _ _ h => h) (Or.inl ⟨by rfl, ?_⟩) hS0 ?_
        rotate_left 1
        · intro W hW
          go_simp
          try with_reducible rfl
        simp only [Act.put, List.getElem_toArray, List.getElem_cons_zero, List.getElem_cons_succ, List.setIfInBounds_toArray, List.set_cons_zero, List.set_cons_succ]
        refine wpAnyH_take (i := 8) (v := ?_) rfl (by kernel_rfl) (by kernel_rfl) (by kernel_rfl) (fun _ _ _ h => h) (Or.inl ⟨by rfl, ?_⟩) hS0 ?_
        rotate_left 1
        · intro W hW
          go_simp
          try with_reducible rfl
        simp only [Act.put, List.getElem_toArray, List.getElem_cons_zero, List.getElem_cons_succ, List.setIfInBounds_toArray, List.set_cons_zero, List.set_cons_succ]
        refine wpAnyH_ready (rs := [6]) (by kernel_rfl) (by simp) (AllReadyH.cons rfl (fun KK hKK => ?_) AllReadyH.nil)
        go_simp
        refine (HP.out w2 hS0).mono ?_
        rintro e wz ⟨rfl, hwz⟩
        rw [hwz]
        clear hwz
        refine hKK _ _ hS0 ?_
        intro _
        clear hKK KK
        try simp only [Act.put, List.getElem_toArray, List.getElem_cons_zero, List.getElem_cons_succ, List.setIfInBounds_toArray, List.set_cons_zero, List.set_cons_succ]
        refine wpAnyH_ready (rs := [9]) (by kernel_rfl) (by simp) (AllReadyH.cons rfl (fun KK hKK => ?_) AllReadyH.nil)
        have hmg := method_get t
        go_simp
        clear hmg
        refine (HG.out w2 HR2.out).mono ?_
        rintro e w3 ⟨rfl, hR3, hk3⟩
        have HR3 := Lib.hid hR3
        have HI3 := Lib.hid (HSt.out k w2 w3 HI2.out (hk3.wide (by simp)))
        have HF3 := Lib.hid (HF2.out.kf hk3 (by have := HR2.out.lts; first | (simp; done) | (simp; omega)))
        have HK3 := Lib.hid (HK2.out.trans (hk3.wide (by simp)))
        replace hS0 : Mb w3 p t fi n := hS0.kf hk3 hp
        clear hR3 hk3 HR2 HK2 HF2 HI2
        refine hKK _ _ hS0 ?_
        intro _
        clear hKK KK
        try simp only [Act.put, List.getElem_toArray, List.getElem_cons_zero, List.getElem_cons_succ, List.setIfInBounds_toArray, List.set_cons_zero, List.set_cons_succ]
        refine wpAnyH_take (i := 10) (v := ?_) rfl (by kernel_rfl) (by kernel_rfl) (by kernel_rfl) (fun _ _ _ h => h) (Or.inl ⟨by rfl, ?_⟩) hS0 ?_
        rotate_left 1
        · intro W hW
          go_simp
          try with_reducible rfl
        simp only [Act.put, List.getElem_toArray, List.getElem_cons_zero, List.getElem_cons_succ, List.setIfInBounds_toArray, List.set_cons_zero, List.set_cons_succ]
        refine wpAnyH_take (i := 11) (v := ?_) rfl (by kernel_rfl) (by kernel_rfl) (by kernel_rfl) (fun _ _ _ h => h) (Or.inl ⟨by rfl, ?_⟩) hS0 ?_
        rotate_left 1
        · intro W hW
          go_simp
          try with_reducible rfl
        simp only [Act.put, List.getElem_toArray, List.getElem_cons_zero, List.getElem_cons_succ, List.setIfInBounds_toArray, List.set_cons_zero, List.set_cons_succ]
        refine wpAnyH_take (i := 12) (v := ?_) rfl (by kernel_rfl) (by kernel_rfl) (by kernel_rfl) (fun _ _ _ h => h) (Or.inl ⟨by rfl, ?_⟩) hS0 ?_
        rotate_left 1
        · intro W hW
          go_simp
          try with_reducible rfl
        simp only [Act.put, List.getElem_toArray, List.getElem_cons_zero, List.getElem_cons_succ, List.setIfInBounds_toArray, List.set_cons_zero, List.set_cons_succ]
        refine wpAnyH_ready (rs := [13]) (by kernel_rfl) (by simp) (AllReadyH.cons rfl (fun KK hKK => ?_) AllReadyH.nil)
        refine step_store_mid rfl 49 _ _ rfl b5 0 (byts 64 V).toArray rfl rfl (by rw [byts_size]; exact HF3.out.there 0 64 (Nat.le_refl _)) (size36' _) (byts_all _ _) ?_
        rw [List.toList_toArray]
        have HF4 := Lib.hid (HF3.out.stored V)
        have hk4 : Kp w3 (w3.setCells b5 0 (byts 64 V)) b5 b5 := (Kp.refl _ _ _).setCells b5 0 (.inl rfl) _
        have HR4 := Lib.hid (HR3.out.kp hk4 (by first | (simp; done) | (simp; omega)) (by first | (simp; done) | (simp; omega)))
        have HI4 := Lib.hid (HSt.out k w3 _ HI3.out (Kf.of_kp hk4 (L := [t, m, d, g, b5]) (by simp) (by simp)))
        have HM4 := Lib.hid (hS0.kp hk4 (by omega))
        have HK4 := Lib.hid (HK3.out.setNew b5 (by omega) (byts 64 V))
        obtain ⟨w4, hw4⟩ : ∃ x, w3.setCells b5 0 (byts 64 V) = x := ⟨_, rfl⟩
        rw [hw4] at HF4 HR4 HM4 HK4 HI4 ⊢
        clear hS0 hk4 hw4 HF3 HR3 HK3 HI3
        have hS0 : Mb w4 p t fi n := HM4.out
        refine hKK _ _ hS0 ?_
        intro _
        clear hKK KK
        try simp only [Act.put, List.getElem_toArray, List.getElem_cons_zero, List.getElem_cons_succ, List.setIfInBounds_toArray, List.set_cons_zero, List.set_cons_succ]
        refine wpAnyH_take (i := 14) (v := ?_) rfl (by kernel_rfl) (by kernel_rfl) (by kernel_rfl) (fun _ _ _ h => h) (Or.inl ⟨by rfl, ?_⟩) hS0 ?_
        rotate_left 1
        · intro W hW
          go_simp
          try with_reducible rfl
        simp only [Act.put, List.getElem_toArray, List.getElem_cons_zero, List.getElem_cons_succ, List.setIfInBounds_toArray, List.set_cons_zero, List.set_cons_succ]
        refine wpAnyH_done (by kernel_rfl) ?_ _
        clear hS0
        have hz4 : b5 < w4.heap.size := HF4.out.lt
        go_wp2_with (refine wpList_load_mid rfl 49 (.tmp 5) rfl b5 0 rfl (byts 64 V) (.array 64 5) HF4.out.range0 Try.arr36 rfl (size36 _) ?_)
        refine (HIs.out w4).mono ?_
        rintro e w7 ⟨rfl, hb7⟩
        have HF7 := Lib.hid (HF4.out.below hb7 HF4.out.lt)
        have HR7 := Lib.hid (HR4.out.keep hb7)
        have HM7 := Lib.hid (HM4.out.keep hb7)
        have HK7 := Lib.hid (HK4.out.trans (Kf.of_below hb7 _))
        have HI7 := Lib.hid (HSt.out k w4 w7 HI4.out (Kf.of_below hb7 _))
        have hz7 : b5 < w7.heap.size := HF7.out.lt
        clear hb7 HF4 HR4 HM4 HK4 HI4 HIs
        go_wp2_with fail
        refine (HC.out w7 HI7.out hz7).mono ?_
        rintro e w8 ⟨c, rfl, hk8, hi8⟩
        have HF8 := Lib.hid (hk8.fl HF7.out (by omega) (by omega))
        have HR8 := Lib.hid (hk8.rd HR7.out (by omega) (by simp; omega))
        have HM8 := Lib.hid (hk8.mb HM7.out (by omega) (by omega))
        have HK8 := Lib.hid (hk8.kf HK7.out (by omega) (by simp))
        have hz8 : b5 < w8.heap.size := HF8.out.lt
        have HI8 := Lib.hid hi8
        clear hi8 hk8 HF7 HR7 HM7 HK7 HI7 HC
        cases c with
        | true =>
          go_wp2_with fail
          go_roundw
          case rel => exact ⟨k + 1, by omega, by go_num, HM8.out, HR8.out.mono (by omega), ⟨_, HF8.out, HVe.out, HVb.out⟩, by simpa using HI8.out, HK8.out, hz8⟩
          case measure => simp [Go.RowKit.intOf]; omega
        | false =>
          go_wp2_with fail
          go_ret
          exact ⟨rfl, HR8.out.mono (by omega), HK8.out, .inr (by simpa using HI8.out)⟩

      · have hmi : ¬ ((k : Int) % 512 = 0) := by omega
        have HVb := HFb
        have HVe : Hid ((k + 1) % 512 ≠ 0 → F = vw T (fi + (k + 1) / 512)) := fun h => by rw [show (k + 1) / 512 = k / 512 by omega]; exact HFv.out hm
        have HIs := Lib.hid (isset_any F HFb.out k (by omega))
        have HCk := Lib.hid (fun W => HC.out k W hlt)
        rw [← HFv.out hm] at HCk
        clear HC
        have HC := Lib.hid HCk.out
        have HF4 := HF0
        have HR4 := HR0
        have HM4 := HM0
        have HK4 := HK0
        have HI4 := HI0
        obtain ⟨w4, rfl⟩ : ∃ x, x = wX := ⟨wX, rfl⟩
        clear HCk HFv HFb HF0 HR0 HM0 HK0 HI0
        go_wp2_with (refine wpList_load_mid rfl 49 (.tmp 5) rfl b5 0 rfl (byts 64 F) (.array 64 5) HF4.out.range0 Try.arr36 rfl (size36 _) ?_)
        refine (HIs.out w4).mono ?_
        rintro e w7 ⟨rfl, hb7⟩
        have HF7 := Lib.hid (HF4.out.below hb7 HF4.out.lt)
        have HR7 := Lib.hid (HR4.out.keep hb7)
        have HM7 := Lib.hid (HM4.out.keep hb7)
        have HK7 := Lib.hid (HK4.out.trans (Kf.of_below hb7 _))
        have HI7 := Lib.hid (HSt.out k w4 w7 HI4.out (Kf.of_below hb7 _))
        have hz7 : b5 < w7.heap.size := HF7.out.lt
        clear hb7 HF4 HR4 HM4 HK4 HI4 HIs
        go_wp2_with fail
        refine (HC.out w7 HI7.out hz7).mono ?_
        rintro e w8 ⟨c, rfl, hk8, hi8⟩
        have HF8 := Lib.hid (hk8.fl HF7.out (by omega) (by omega))
        have HR8 := Lib.hid (hk8.rd HR7.out (by omega) (by simp; omega))
        have HM8 := Lib.hid (hk8.mb HM7.out (by omega) (by omega))
        have HK8 := Lib.hid (hk8.kf HK7.out (by omega) (by simp))
        have hz8 : b5 < w8.heap.size := HF8.out.lt
        have HI8 := Lib.hid hi8
        clear hi8 hk8 HF7 HR7 HM7 HK7 HI7 HC
        cases c with
        | true =>
          go_wp2_with fail
          go_roundw
          case rel => exact ⟨k + 1, by omega, by go_num, HM8.out, HR8.out.mono (by omega), ⟨_, HF8.out, HVe.out, HVb.out⟩, by simpa using HI8.out, HK8.out, hz8⟩
          case measure => simp [Go.RowKit.intOf]; omega
        | false =>
          go_wp2_with fail
          go_ret
          exact ⟨rfl, HR8.out.mono (by omega), HK8.out, .inr (by simpa using HI8.out)⟩

    · obtain rfl : k = n := by omega
      go_wp2_with fail
      go_ret
      exact ⟨rfl, HR0.out.mono (by omega), HK0.out, .inl HI0.out⟩
end Go.Proofs.Ytlpbhijfdeceoaa
