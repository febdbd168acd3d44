import Derived.Test.YtnfadmifdncjoaaGreatBA
import Derived.Deep.CutBlock
import Derived.Deep.DeepCutAuto
import Derived.Laws.AppendOwn
import Derived.Laws.OwnMore
import Derived.Sort.OwnSorted
/- The map of bits: each, Free, List, Count. -/
namespace Go.Proofs.YtnfadmifdncjoaaGreat
set_option linter.unusedSimpArgs false
set_option linter.unusedVariables false
open Go.RowKit Go.Maps
variable {N : Nat} {ln : Lm}
/-- below B nothing has turned but block q -/
structure Kb (B : Nat) (w w' : World) (q : Nat) : Prop where
  os : w'.os = w.os
  tape : w'.tape = w.tape
  output : w'.output = w.output
  size : w.heap.size ≤ w'.heap.size
  block : ∀ k, k < B → k ≠ q → w'.heap[k]? = w.heap[k]?
theorem Kb.cell {B : Nat} {w w' : World} {q : Nat} (h : Kb B w w' q) {p : Addr} (hp : p.block < B) (h1 : p.block ≠ q) : w'.cell? p = w.cell? p := World.cell?_of_block (w := w) (h.block p.block hp h1)
theorem Kb.frozen {B : Nat} {w w' : World} {q : Nat} (h : Kb B w w' q) {p : Addr} (hp : p.block < B) (h1 : p.block ≠ q) : w'.frozen? p = w.frozen? p := World.frozen?_of_block (w := w) (h.block p.block hp h1)
theorem Kb.fl {B : Nat} {w w' : World} {q b N : Nat} {f : Nat → Int} (h : Kb B w w' q) (hf : Fl w b N f) (hb : b < B) (hq : b ≠ q) : Fl w' b N f :=
  ⟨Nat.lt_of_lt_of_le hf.lt h.size, fun j hj => (h.cell (p := ⟨b, j, none⟩) hb hq).trans (hf.c j hj), fun j hj => (h.frozen (p := ⟨b, j, none⟩) hb hq).trans (hf.z j hj)⟩
theorem Kb.kf {B : Nat} {w0 w w' : World} {q : Nat} {L : List Nat} (h : Kb B w w' q) (k : Kf w0 w L) (hB : w0.heap.size ≤ B) (hq : q ∈ L) : Kf w0 w' L :=
  ⟨h.os.trans k.os, h.tape.trans k.tape, h.output.trans k.output, Nat.le_trans k.size h.size, fun i hi hn => (h.block i (by omega) (fun e => hn (e ▸ hq))).trans (k.block i hi hn)⟩
theorem Kb.mb {B : Nat} {w w' : World} {q p t fi n : Nat} (h : Kb B w w' q) (hm : Mb w p t fi n) (hb : p < B) (hq : p ≠ q) : Mb w' p t fi n :=
  ⟨Nat.lt_of_lt_of_le hm.lt h.size, (h.cell (p := ⟨p, 0, none⟩) hb hq).trans hm.c0, (h.cell (p := ⟨p, 1, none⟩) hb hq).trans hm.c1, (h.cell (p := ⟨p, 2, none⟩) hb hq).trans hm.c2, hm.f32⟩
theorem Kb.rd {B : Nat} {w w' : World} {q t m d g N K : Nat} {ln : Lm} {Y : Nat → Nat → Int} (h : Kb B w w' q) (hr' : Rd w t m d g N ln Y K) (hB : t < B ∧ m < B ∧ d < B ∧ g < B) (hq : q ∉ [t, m, d, g]) : Rd w' t m d g N ln Y K := by
  obtain ⟨T, D, s, ht, hd, hs, ha, hA, hY, hl, hT⟩ := hr'.ex
  obtain ⟨b1, b2, b3, b4⟩ := hB
  simp only [List.mem_cons, List.not_mem_nil, or_false, not_or] at hq
  obtain ⟨q1, q2, q3, q4⟩ := hq
  have ct : ∀ i, w'.cell? ⟨t, i, none⟩ = w.cell? ⟨t, i, none⟩ := fun i => h.cell (p := ⟨t, i, none⟩) b1 (fun e => q1 e.symm)
  have cd : ∀ i, w'.cell? ⟨d, i, none⟩ = w.cell? ⟨d, i, none⟩ := fun i => h.cell (p := ⟨d, i, none⟩) b3 (fun e => q3 e.symm)
  have zt : ∀ i, w'.frozen? ⟨t, i, none⟩ = w.frozen? ⟨t, i, none⟩ := fun i => h.frozen (p := ⟨t, i, none⟩) b1 (fun e => q1 e.symm)
  have zd : ∀ i, w'.frozen? ⟨d, i, none⟩ = w.frozen? ⟨d, i, none⟩ := fun i => h.frozen (p := ⟨d, i, none⟩) b3 (fun e => q3 e.symm)
  have hD : Dk w' d g s := ⟨Nat.lt_of_lt_of_le hd.lt h.size, hd.ne, (cd 0).trans hd.c0, (cd 1).trans hd.c1, (cd 2).trans hd.c2, (cd 3).trans hd.c3, (cd 4).trans hd.c4, (cd 5).trans hd.c5, (zd 1).trans hd.z1, (zd 2).trans hd.z2, (zd 3).trans hd.z3, (zd 4).trans hd.z4, (zd 5).trans hd.z5, h.fl hd.fl b4 (fun e => q4 e.symm)⟩
  have hTx : Tx w' t m d 1 T 0 := ⟨⟨Nat.lt_of_lt_of_le ht.lg.lt h.size, (ct 0).trans ht.lg.c0, (ct 1).trans ht.lg.c1⟩, (ct 2).trans ht.c2, (ct 3).trans ht.c3, (zt 3).trans ht.z3, ht.mp.block (h.block m b2 (fun e => q2 e.symm)), ht.ne⟩
  exact ⟨⟨T, D, s, hTx, hD, hs, ha, hA, hY, hl, hT⟩, hr'.n1, hr'.n2, hr'.n3, hr'.n4, hr'.vb, hr'.h32, hr'.hN⟩
set_option maxHeartbeats 40000000 in
set_option maxRecDepth 100000 in
theorem each_any (p t m d g fi n K fk q : Nat) (Y : Nat → Nat → Int) (Inv : Nat → World → Prop) (Fin' : World → Prop) (hf : fi ≤ 65536) (hn : n ≤ 65536) (hx : ∀ i, i < n → fi + i / 512 < N) (hK : K < 600000000) (w : World) (hm : Mb w p t fi n) (hr : Rd w t m d g N ln Y K)
    (hp : p ∉ [t, m, d, g]) (hq : q ∉ [p, t, m, d, g]) (hql : q < w.heap.size)
    (hfk : ∀ args W, (callFunc fk args).run Tryz.prog W = .ok (.enter fk args) W)
    (h0 : ∀ W, Below w.heap.size w W → Inv 0 W)
    (hs : ∀ i W W', Inv i W → Kf W W' [t, m, d, g, w.heap.size] → Inv i W')
    (hc : ∀ i W, i < n → Inv i W → w.heap.size < W.heap.size → Calls Tryz.prog fk #[.int .i64 i, .bool (bitOf (Y (fi + i / 512)) i), .pointer (some ⟨q, 0, none⟩)] W fun e w' => ∃ c, e = .returned (.bool c) ∧ Kb (w.heap.size + 1) W w' q ∧ if c = true then Inv (i + 1) w' else Fin' w') :
    Calls Tryz.prog 100 #[.pointer (some ⟨p, 0, none⟩), .func (.func fk) #[] #[.pointer (some ⟨q, 0, none⟩)]] w fun e w' => e = .returned (.int .i64 0) ∧ Rd w' t m d g N ln Y (K + 200) ∧ Kf w w' [t, m, d, g, q] ∧ (Inv n w' ∨ Fin' w') := by
  have hf32 := hm.f32
  have HM := Lib.hid hm
  have HR := Lib.hid hr
  have c2 := hm.c2
  have hpl := hm.lt
  have hlts := hr.lts
  have HSt := Lib.hid hs
  have HC := Lib.hid hc
  have H0 := Lib.hid h0
  have HXx := Lib.hid hx
  have HTb := Lib.hid hr.vb
  obtain ⟨hq1, hq2, hq3, hq4, hq5⟩ : q ≠ p ∧ q ≠ t ∧ q ≠ m ∧ q ≠ d ∧ q ≠ g := by simpa using hq
  clear hm hr hs hc h0 hx hq
  have h0n : (0 : Int) ≤ n := by omega
  have h1n : (n : Int) ≤ 65536 := by omega
  go_enter Tryz.func100, Tryz.ntmps100
  go_wp2_with (refine wpList_alloc_byts rfl 59 64 rfl Tryz.zero36 ?_; intro w1 F1 hb1 hz1; have HF1 := F1; have HK1 := Lib.hid (Kf.of_below hb1 [t, m, d, g, q]); have HM1 := Lib.hid (HM.out.keep hb1); have HR1 := Lib.hid (HR.out.keep hb1); have HI1 := Lib.hid (H0.out w1 hb1); replace c2 := HM1.out.c2; clear hb1 hz1 F1)
  obtain ⟨b5, hb5⟩ : ∃ b, w.heap.size = b := ⟨_, rfl⟩
  have hb5' : w.heap.size ≤ b5 := by omega
  rw [hb5] at HF1 hpl hlts hql HSt HC ⊢
  clear hb5 H0 HM HR c2
  go_loopw [6, 7, 14] (fun _ _ i wr => ∃ k : Nat, k ≤ n ∧ i = .int .i64 k ∧ Mb wr p t fi n ∧ Rd wr t m d g N ln Y (K + (k + 511) / 512) ∧ (∃ F, Fl wr b5 64 F ∧ (k % 512 ≠ 0 → F = Y (fi + k / 512)) ∧ Byt F) ∧ Inv k wr ∧ Kf w wr [t, m, d, g, q] ∧ b5 < wr.heap.size) (fun _ _ i _ => n - (Go.RowKit.intOf i).toNat)
  case atStart => exact ⟨0, by omega, rfl, HM1.out, HR1.out, ⟨_, HF1.out, fun h => absurd rfl h, byt_zero⟩, HI1.out, HK1.out, HF1.out.lt⟩
  case round =>
    obtain ⟨k, hk, rfl, hM, hR, ⟨F, hF, hFv, hFb⟩, hI, hKf, hz⟩ := hrel
    have HM0 := Lib.hid hM
    have HR0 := Lib.hid hR
    have HF0 := Lib.hid hF
    have HFv := Lib.hid hFv
    have HFb := Lib.hid hFb
    have HI0 := Lib.hid hI
    have HK0 := Lib.hid hKf
    clear hM hR hF hFv hFb hI hKf HM1 HR1 HF1 HI1 HK1
    have hk0 : (0 : Int) ≤ k := by omega
    have hkn : (k : Int) ≤ 65536 := by omega
    obtain ⟨wX, rfl⟩ : ∃ x, x = wr := ⟨wr, rfl⟩
    by_cases hlt : k < n
    · have hlti : (k : Int) < n := by omega
      by_cases hm : k % 512 = 0
      · have hmi : (k : Int) % 512 = 0 := by omega
        have HP := Lib.hid (fun W h => place_any p t fi n k hf (by omega) W h)
        have HG := Lib.hid (fun W (h : Rd W t m d g N ln Y (K + (k + 511) / 512)) => get6 t m d g (K + (k + 511) / 512) Y (fi + k / 512) (by omega) (HXx.out k hlt) (by omega) W h)
        have HVb := Lib.hid (HTb.out (fi + k / 512))
        have HVe : Hid ((k + 1) % 512 ≠ 0 → Y (fi + k / 512) = Y (fi + (k + 1) / 512)) := fun h => by rw [show (k + 1) / 512 = k / 512 by omega]
        have HIs := Lib.hid (isset_any (Y (fi + k / 512)) HVb.out k (by omega))
        obtain ⟨V, hV⟩ : ∃ V, Y (fi + k / 512) = V := ⟨_, rfl⟩
        have HCk := Lib.hid (fun W => HC.out k W hlt)
        rw [hV] at HG HVb HVe HIs HCk
        obtain ⟨X, hX⟩ : ∃ X, fi + k / 512 = X := ⟨_, rfl⟩
        rw [hX] at HG HP
        clear hV hX HC
        have HC := Lib.hid HCk.out
        clear HCk
        go_wp2_with fail
        obtain ⟨w1, rfl⟩ : ∃ x, x = wX := ⟨wX, rfl⟩
        have HM1 := Lib.hid HM0.out
        have HR1 := Lib.hid HR0.out
        have HF1 := HF0
        have HK1 := Lib.hid HK0.out
        have HI1 := Lib.hid HI0.out
        clear HM0 HR0 HF0 HK0 HI0 HFv HFb
        refine wp_region_held (S := fun W => Mb W p t fi n) (by kernel_rfl) ?_
        change wpAnyH _ _ _ _ _ _ _ _ (World.drew _)
        have hS0 : Mb w1.drew p t fi n := HM1.out.keep (Below.refl _ _).drew
        have HI2 := Lib.hid (HSt.out k w1 w1.drew HI1.out (Kf.of_below (Below.refl w1.heap.size w1).drew _))
        have HR2 := Lib.hid (HR1.out.keep (Below.refl _ _).drew)
        have HF2 := Lib.hid (HF1.out.below (Below.refl _ _).drew HF1.out.lt)
        have HK2 := Lib.hid (HK1.out.trans (Kf.of_below (Below.refl w1.heap.size w1).drew [t, m, d, g, q]))
        obtain ⟨w2, hw2⟩ : ∃ x, World.drew w1 = x := ⟨_, rfl⟩
        rw [hw2] at hS0 HR2 HF2 HK2 HI2 ⊢
        clear hw2 HR1 HK1 HM1 HF1 HI1
        refine wpAnyH_take (i := 0) (v := ?_) rfl (by kernel_rfl) (by kernel_rfl) (by kernel_rfl) (fun _ _ _ h => h) (Or.inl ⟨by rfl, ?_⟩) hS0 ?_
        rotate_left 1
        · intro W hW
          go_simp
          try with_reducible rfl
        simp only [Act.put, List.getElem_toArray, List.getElem_cons_zero, List.getElem_cons_succ, List.setIfInBounds_toArray, List.set_cons_zero, List.set_cons_succ]
        refine wpAnyH_take (i := 1) (v := ?_) rfl (by kernel_rfl) (by kernel_rfl) (by kernel_rfl) (fun _ _ _ h => h) (Or.inl ⟨by rfl, ?_⟩) hS0 ?_
        rotate_left 1
        · intro W hW
          go_simp
          try with_reducible rfl
        simp only [Act.put, List.getElem_toArray, List.getElem_cons_zero, List.getElem_cons_succ, List.setIfInBounds_toArray, List.set_cons_zero, List.set_cons_succ]
        refine wpAnyH_take (i := 2) (v := ?_) rfl (by kernel_rfl) (by kernel_rfl) (by kernel_rfl) (fun _ _ _ h => h) (Or.inl ⟨by rfl, ?_⟩) hS0 ?_
        rotate_left 1
        · intro W hW
          go_simp
          try with_reducible rfl
        simp only [Act.put, List.getElem_toArray, List.getElem_cons_zero, List.getElem_cons_succ, List.setIfInBounds_toArray, List.set_cons_zero, List.set_cons_succ]
        refine wpAnyH_take (i := 3) (v := ?_) rfl (by kernel_rfl) (by kernel_rfl) (by kernel_rfl) (fun _ _ _ h => h) (Or.inl ⟨by rfl, ?_⟩) hS0 ?_
        rotate_left 1
        · intro W hW
          have c0 := hW.c0
          go_simp
          try with_reducible rfl
        simp only [Act.put, List.getElem_toArray, List.getElem_cons_zero, List.getElem_cons_succ, List.setIfInBounds_toArray, List.set_cons_zero, List.set_cons_succ]
        refine wpAnyH_take (i := 4) (v := ?_) rfl (by kernel_rfl) (by kernel_rfl) (by kernel_rfl) (fun _ _ _ h => h) (Or.inl ⟨by rfl, ?_⟩) hS0 ?_
        rotate_left 1
        · intro W hW
          go_simp
          try with_reducible rfl
        simp only [Act.put, List.getElem_toArray, List.getElem_cons_zero, List.getElem_cons_succ, List.setIfInBounds_toArray, List.set_cons_zero, List.set_cons_succ]
        refine wpAnyH_take (i := 5) (v := ?_) rfl (by kernel_rfl) (by kernel_rfl) (by kernel_rfl) (fun _ _ _ h => h) (Or.inl ⟨by rfl, ?_⟩) hS0 ?_
        rotate_left 1
        · intro W hW
          go_simp
          try with_reducible rfl
        simp only [Act.put, List.getElem_toArray, List.getElem_cons_zero, List.getElem_cons_succ, List.setIfInBounds_toArray, List.set_cons_zero, List.set_cons_succ]
        refine wpAnyH_take (i := 7) (v := ?_) rfl (by kernel_rfl) (by kernel_rfl) (by kernel_rfl) (fun _ _ _ h => h) (Or.inl ⟨by rfl, ?_⟩) hS0 ?_
        rotate_left 1
        · intro W hW
          go_simp
          try with_reducible rfl
        simp only [Act.put, List.getElem_toArray, List.getElem_cons_zero, List.getElem_cons_succ, List.setIfInBounds_toArray, List.set_cons_zero, List.set_cons_succ]
        refine wpAnyH_take (i := 8) (v := ?_) rfl (by kernel_rfl) (by kernel_rfl) (by kernel_rfl) (fun _ _ _ h => h) (Or.inl ⟨by rfl, ?_⟩) hS0 ?_
        rotate_left 1
        · intro W hW
          go_simp
          try with_reducible rfl
        simp only [Act.put, List.getElem_toArray, List.getElem_cons_zero, List.getElem_cons_succ, List.setIfInBounds_toArray, List.set_cons_zero, List.set_cons_succ]
        refine wpAnyH_ready (rs := [6]) (by kernel_rfl) (by simp) (AllReadyH.cons rfl (fun KK hKK => ?_) AllReadyH.nil)
        go_simp
        refine (HP.out w2 hS0).mono ?_
        rintro e wz ⟨rfl, hwz⟩
        rw [hwz]
        clear hwz
        refine hKK _ _ hS0 ?_
        intro _
        clear hKK KK
        try simp only [Act.put, List.getElem_toArray, List.getElem_cons_zero, List.getElem_cons_succ, List.setIfInBounds_toArray, List.set_cons_zero, List.set_cons_succ]
        refine wpAnyH_ready (rs := [9]) (by kernel_rfl) (by simp) (AllReadyH.cons rfl (fun KK hKK => ?_) AllReadyH.nil)
        have hmg := method_get t
        go_simp
        clear hmg
        refine (HG.out w2 HR2.out).mono ?_
        rintro e w3 ⟨rfl, hR3, hk3⟩
        have HR3 := Lib.hid hR3
        have HI3 := Lib.hid (HSt.out k w2 w3 HI2.out (hk3.wide (by simp)))
        have HF3 := Lib.hid (HF2.out.kf hk3 (by have := HR2.out.lts; first | (simp; done) | (simp; omega)))
        have HK3 := Lib.hid (HK2.out.trans (hk3.wide (by simp)))
        replace hS0 : Mb w3 p t fi n := hS0.kf hk3 hp
        clear hR3 hk3 HR2 HK2 HF2 HI2
        refine hKK _ _ hS0 ?_
        intro _
        clear hKK KK
        try simp only [Act.put, List.getElem_toArray, List.getElem_cons_zero, List.getElem_cons_succ, List.setIfInBounds_toArray, List.set_cons_zero, List.set_cons_succ]
        refine wpAnyH_take (i := 10) (v := ?_) rfl (by kernel_rfl) (by kernel_rfl) (by kernel_rfl) (fun _ _ _ h => h) (Or.inl ⟨by rfl, ?_⟩) hS0 ?_
        rotate_left 1
        · intro W hW
          go_simp
          try with_reducible rfl
        simp only [Act.put, List.getElem_toArray, List.getElem_cons_zero, List.getElem_cons_succ, List.setIfInBounds_toArray, List.set_cons_zero, List.set_cons_succ]
        refine wpAnyH_take (i := 11) (v := ?_) rfl (by kernel_rfl) (by kernel_rfl) (by kernel_rfl) (fun _ _ _ h => h) (Or.inl ⟨by rfl, ?_⟩) hS0 ?_
        rotate_left 1
        · intro W hW
          go_simp
          try with_reducible rfl
        simp only [Act.put, List.getElem_toArray, List.getElem_cons_zero, List.getElem_cons_succ, List.setIfInBounds_toArray, List.set_cons_zero, List.set_cons_succ]
        refine wpAnyH_take (i := 12) (v := ?_) rfl (by kernel_rfl) (by kernel_rfl) (by kernel_rfl) (fun _ _ _ h => h) (Or.inl ⟨by rfl, ?_⟩) hS0 ?_
        rotate_left 1
        · intro W hW
          go_simp
          try with_reducible rfl
        simp only [Act.put, List.getElem_toArray, List.getElem_cons_zero, List.getElem_cons_succ, List.setIfInBounds_toArray, List.set_cons_zero, List.set_cons_succ]
        refine wpAnyH_ready (rs := [13]) (by kernel_rfl) (by simp) (AllReadyH.cons rfl (fun KK hKK => ?_) AllReadyH.nil)
        refine step_store_mid rfl 59 _ _ rfl b5 0 (byts 64 V).toArray rfl rfl (by rw [byts_size]; exact HF3.out.there 0 64 (Nat.le_refl _)) (size36' _) (byts_all _ _) ?_
        rw [List.toList_toArray]
        have HF4 := Lib.hid (HF3.out.stored V)
        have hk4 : Kp w3 (w3.setCells b5 0 (byts 64 V)) b5 b5 := (Kp.refl _ _ _).setCells b5 0 (.inl rfl) _
        have HR4 := Lib.hid (HR3.out.kp hk4 (by first | (simp; done) | (simp; omega)) (by first | (simp; done) | (simp; omega)))
        have HI4 := Lib.hid (HSt.out k w3 _ HI3.out (Kf.of_kp hk4 (L := [t, m, d, g, b5]) (by simp) (by simp)))
        have HM4 := Lib.hid (hS0.kp hk4 (by omega))
        have HK4 := Lib.hid (HK3.out.setNew b5 (by omega) (byts 64 V))
        obtain ⟨w4, hw4⟩ : ∃ x, w3.setCells b5 0 (byts 64 V) = x := ⟨_, rfl⟩
        rw [hw4] at HF4 HR4 HM4 HK4 HI4 ⊢
        clear hS0 hk4 hw4 HF3 HR3 HK3 HI3
        have hS0 : Mb w4 p t fi n := HM4.out
        refine hKK _ _ hS0 ?_
        intro _
        clear hKK KK
        try simp only [Act.put, List.getElem_toArray, List.getElem_cons_zero, List.getElem_cons_succ, List.setIfInBounds_toArray, List.set_cons_zero, List.set_cons_succ]
        refine wpAnyH_take (i := 14) (v := ?_) rfl (by kernel_rfl) (by kernel_rfl) (by kernel_rfl) (fun _ _ _ h => h) (Or.inl ⟨by rfl, ?_⟩) hS0 ?_
        rotate_left 1
        · intro W hW
          go_simp
          try with_reducible rfl
        simp only [Act.put, List.getElem_toArray, List.getElem_cons_zero, List.getElem_cons_succ, List.setIfInBounds_toArray, List.set_cons_zero, List.set_cons_succ]
        refine wpAnyH_done (by kernel_rfl) ?_ _
        clear hS0
        have hz4 : b5 < w4.heap.size := HF4.out.lt
        go_wp2_with (refine wpList_load_mid rfl 59 (.tmp 5) rfl b5 0 rfl (byts 64 V) (.array 64 5) HF4.out.range0 Tryz.arr36 rfl (size36 _) ?_)
        refine (HIs.out w4).mono ?_
        rintro e w7 ⟨rfl, hb7⟩
        have HF7 := Lib.hid (HF4.out.below hb7 HF4.out.lt)
        have HR7 := Lib.hid (HR4.out.keep hb7)
        have HM7 := Lib.hid (HM4.out.keep hb7)
        have HK7 := Lib.hid (HK4.out.trans (Kf.of_below hb7 _))
        have HI7 := Lib.hid (HSt.out k w4 w7 HI4.out (Kf.of_below hb7 _))
        have hz7 : b5 < w7.heap.size := HF7.out.lt
        clear hb7 HF4 HR4 HM4 HK4 HI4 HIs
        go_wp2_with fail
        refine (HC.out w7 HI7.out hz7).mono ?_
        rintro e w8 ⟨c, rfl, hk8, hi8⟩
        have HF8 := Lib.hid (hk8.fl HF7.out (by omega) (by omega))
        have HR8 := Lib.hid (hk8.rd HR7.out (by omega) (by simp; omega))
        have HM8 := Lib.hid (hk8.mb HM7.out (by omega) (by omega))
        have HK8 := Lib.hid (hk8.kf HK7.out (by omega) (by simp))
        have hz8 : b5 < w8.heap.size := HF8.out.lt
        have HI8 := Lib.hid hi8
        clear hi8 hk8 HF7 HR7 HM7 HK7 HI7 HC
        cases c with
        | true =>
          go_wp2_with fail
          go_roundw
          case rel => exact ⟨k + 1, by omega, by go_num, HM8.out, HR8.out.mono (by omega), ⟨_, HF8.out, HVe.out, HVb.out⟩, by simpa using HI8.out, HK8.out, hz8⟩
          case measure => simp [Go.RowKit.intOf]; omega
        | false =>
          go_wp2_with fail
          go_ret
          exact ⟨rfl, HR8.out.mono (by omega), HK8.out, .inr (by simpa using HI8.out)⟩

      · have hmi : ¬ ((k : Int) % 512 = 0) := by omega
        have HVb := HFb
        have HVe : Hid ((k + 1) % 512 ≠ 0 → F = Y (fi + (k + 1) / 512)) := fun h => by rw [show (k + 1) / 512 = k / 512 by omega]; exact HFv.out hm
        have HIs := Lib.hid (isset_any F HFb.out k (by omega))
        have HCk := Lib.hid (fun W => HC.out k W hlt)
        rw [← HFv.out hm] at HCk
        clear HC
        have HC := Lib.hid HCk.out
        have HF4 := HF0
        have HR4 := HR0
        have HM4 := HM0
        have HK4 := HK0
        have HI4 := HI0
        obtain ⟨w4, rfl⟩ : ∃ x, x = wX := ⟨wX, rfl⟩
        clear HCk HFv HFb HF0 HR0 HM0 HK0 HI0
        go_wp2_with (refine wpList_load_mid rfl 59 (.tmp 5) rfl b5 0 rfl (byts 64 F) (.array 64 5) HF4.out.range0 Tryz.arr36 rfl (size36 _) ?_)
        refine (HIs.out w4).mono ?_
        rintro e w7 ⟨rfl, hb7⟩
        have HF7 := Lib.hid (HF4.out.below hb7 HF4.out.lt)
        have HR7 := Lib.hid (HR4.out.keep hb7)
        have HM7 := Lib.hid (HM4.out.keep hb7)
        have HK7 := Lib.hid (HK4.out.trans (Kf.of_below hb7 _))
        have HI7 := Lib.hid (HSt.out k w4 w7 HI4.out (Kf.of_below hb7 _))
        have hz7 : b5 < w7.heap.size := HF7.out.lt
        clear hb7 HF4 HR4 HM4 HK4 HI4 HIs
        go_wp2_with fail
        refine (HC.out w7 HI7.out hz7).mono ?_
        rintro e w8 ⟨c, rfl, hk8, hi8⟩
        have HF8 := Lib.hid (hk8.fl HF7.out (by omega) (by omega))
        have HR8 := Lib.hid (hk8.rd HR7.out (by omega) (by simp; omega))
        have HM8 := Lib.hid (hk8.mb HM7.out (by omega) (by omega))
        have HK8 := Lib.hid (hk8.kf HK7.out (by omega) (by simp))
        have hz8 : b5 < w8.heap.size := HF8.out.lt
        have HI8 := Lib.hid hi8
        clear hi8 hk8 HF7 HR7 HM7 HK7 HI7 HC
        cases c with
        | true =>
          go_wp2_with fail
          go_roundw
          case rel => exact ⟨k + 1, by omega, by go_num, HM8.out, HR8.out.mono (by omega), ⟨_, HF8.out, HVe.out, HVb.out⟩, by simpa using HI8.out, HK8.out, hz8⟩
          case measure => simp [Go.RowKit.intOf]; omega
        | false =>
          go_wp2_with fail
          go_ret
          exact ⟨rfl, HR8.out.mono (by omega), HK8.out, .inr (by simpa using HI8.out)⟩

    · obtain rfl : k = n := by omega
      go_wp2_with fail
      go_ret
      exact ⟨rfl, HR0.out.mono (by omega), HK0.out, .inl HI0.out⟩
theorem ownsRow_keep {w w' : World} {base : Nat} {e : TypeId} {size n : Nat} {v : Value} {xs : List Value} (h : w.ownsRow base e size v n xs) (hk : ∀ k, v.ownBlock = some k → w'.heap[k]? = w.heap[k]?) : w'.ownsRow base e size v n xs := by
  obtain ⟨hl, ⟨hv, hn⟩ | ⟨g, cap, cur, hv, hg, hh, r⟩⟩ := h
  · exact ⟨hl, .inl ⟨hv, hn⟩⟩
  · refine ⟨hl, .inr ⟨g, cap, cur, hv, hg, ?_, r⟩⟩
    rw [hk g (by rw [hv]; simp [Value.ownBlock])]
    exact hh
theorem ownsRow_slice {w : World} {base : Nat} {e : TypeId} {size n : Nat} {v : Value} {xs : List Value} (h : w.ownsRow base e size v n xs) : ∃ a c, v = .slice a n c := by
  obtain ⟨hl, ⟨hv, hn⟩ | ⟨g, cap, cur, hv, r⟩⟩ := h
  · exact ⟨_, _, by rw [hv, hn]⟩
  · exact ⟨_, _, hv⟩
/-- bit i of a map from block fi on -/
def bt (Y : Nat → Nat → Int) (fi i : Nat) : Bool := bitOf (Y (fi + i / 512)) i
/-- v is the first of n that isn't set, or -1 -/
def Fr (b : Nat → Bool) (n : Nat) (v : Int) : Prop := (v = -1 ∧ ∀ j, j < n → b j = true) ∨ ∃ i : Nat, i < n ∧ v = i ∧ b i = false ∧ ∀ j, j < i → b j = true
def setL (b : Nat → Bool) (n : Nat) : List Nat := (List.range n).filter b
theorem setL_succ (b : Nat → Bool) (n : Nat) : setL b (n + 1) = if b n = true then setL b n ++ [n] else setL b n := by
  unfold setL
  rw [List.range_succ, List.filter_append]
  cases h : b n <;> simp [h]
theorem setL_len (b : Nat → Bool) (n : Nat) : (setL b n).length ≤ n := by
  have := List.length_filter_le b (List.range n)
  rwa [List.length_range] at this

theorem each_nil (f : Value) (w : World) : Calls Tryz.prog 100 #[.pointer none, f] w fun e w' => e = .returned (.int .i64 1) ∧ w' = w := by
  go_enter Tryz.func100, Tryz.ntmps100
  go_wp2
  go_ret
  exact ⟨rfl, rfl⟩
set_option maxHeartbeats 2000000 in
theorem free1_any (q i : Nat) (on : Bool) (v : Value) (w : World) (hc : w.cell? ⟨q, 0, none⟩ = some v) (hz : w.frozen? ⟨q, 0, none⟩ = false) :
    Calls Tryz.prog 101 #[.int .i64 i, .bool on, .pointer (some ⟨q, 0, none⟩)] w fun e w' => e = .returned (.bool on) ∧ w' = if on = true then w else w.setCell ⟨q, 0, none⟩ (.int .i64 i) := by
  cases on
  · go_enter Tryz.func101, Tryz.ntmps101
    go_wp2
    go_ret
    exact ⟨rfl, rfl⟩
  · clear hc hz
    go_enter Tryz.func101, Tryz.ntmps101
    go_wp2
    go_ret
    exact ⟨rfl, rfl⟩
set_option maxHeartbeats 4000000 in
set_option maxRecDepth 100000 in
theorem free_any (p t m d g fi n K : Nat) (Y : Nat → Nat → Int) (hf : fi ≤ 65536) (hn : n ≤ 65536) (hx : ∀ i, i < n → fi + i / 512 < N) (hK : K < 600000000) (w : World) (hm : Mb w p t fi n) (hr : Rd w t m d g N ln Y K) (hp : p ∉ [t, m, d, g]) :
    Calls Tryz.prog 60 #[.pointer (some ⟨p, 0, none⟩)] w fun e w' => ∃ v, e = .returned (.tuple #[.int .i64 v, .int .i64 0]) ∧ Fr (bt Y fi) n v ∧ Rd w' t m d g N ln Y (K + 200) ∧ Kf w w' [t, m, d, g] := by
  have hmf : ∀ (fn : Fn) (first cap : Array Value) (w : World), (Instr.makeFunc fn first cap).run Tryz.prog w = .ok (.func fn first cap) w := fun _ _ _ _ => rfl
  have HM := Lib.hid hm
  have HR := Lib.hid hr
  clear hm hr
  go_enter Tryz.func60, Tryz.ntmps60
  go_wp2_with fail
  obtain ⟨w1, hw1⟩ : ∃ x, w.alloc (Obj.cells #[Value.int IntKind.i64 (-1)] 3) = x := ⟨_, rfl⟩
  have hb1 : Below w.heap.size w w1 := by rw [← hw1]; exact (Below.refl _ _).alloc (Nat.le_refl _) _
  have hc1 : w1.cell? ⟨w.heap.size, 0, none⟩ = some (.int .i64 (-1)) := by rw [← hw1, World.cell?_alloc_at _ _ _ _ rfl]; rfl
  have hz1 : w1.frozen? ⟨w.heap.size, 0, none⟩ = false := by rw [← hw1]; simp
  have hs1 : w.heap.size < w1.heap.size := by rw [← hw1]; simp
  have hlts := HR.out.lts
  have hpl := HM.out.lt
  have HB1 := Lib.hid hb1
  rw [hw1]
  clear hw1
  obtain ⟨q, hq⟩ : ∃ q, w.heap.size = q := ⟨_, rfl⟩
  have HB0 := hb1
  rw [hq] at hc1 hz1 hs1 hlts hpl ⊢
  have hE := each_any p t m d g fi n K 101 q Y
    (fun i W => W.cell? ⟨q, 0, none⟩ = some (.int .i64 (-1)) ∧ W.frozen? ⟨q, 0, none⟩ = false ∧ q < W.heap.size ∧ ∀ j, j < i → bt Y fi j = true)
    (fun W => ∃ i : Nat, i < n ∧ W.cell? ⟨q, 0, none⟩ = some (.int .i64 i) ∧ bt Y fi i = false ∧ ∀ j, j < i → bt Y fi j = true)
    hf hn hx hK w1 (HM.out.keep hb1) (HR.out.keep hb1) hp (by simp; omega) hs1 (fun args W => by rfl)
    (fun W hb => ⟨(hb.cell (p := ⟨q, 0, none⟩) hs1).trans hc1, (hb.frozen (p := ⟨q, 0, none⟩) hs1).trans hz1, Nat.lt_of_lt_of_le hs1 hb.size, fun j hj => absurd hj (by omega)⟩)
    (fun i W W' h hk => ⟨(hk.cell (p := ⟨q, 0, none⟩) h.2.2.1 (by simp; omega)).trans h.1, (hk.frozen (p := ⟨q, 0, none⟩) h.2.2.1 (by simp; omega)).trans h.2.1, Nat.lt_of_lt_of_le h.2.2.1 hk.size, h.2.2.2⟩)
    (fun i W hi h hz => by
      refine (free1_any q i _ _ W h.1 h.2.1).mono ?_
      rintro e w' ⟨he, hw'⟩
      refine ⟨_, he, ?_⟩
      have hbt : bitOf (Y (fi + i / 512)) i = bt Y fi i := rfl
      rw [hbt] at hw' ⊢
      cases hb : bt Y fi i
      · rw [hb] at hw'
        simp only [Bool.false_eq_true, if_false] at hw' ⊢
        subst hw'
        refine ⟨⟨rfl, rfl, rfl, by simp [World.setCell], fun k _ hk => Below.heap_setCell _ _ _ _ hk⟩, i, hi, World.cell?_setCell_same _ _ _ h.1, hb, h.2.2.2⟩
      · rw [hb] at hw'
        simp only [if_true] at hw' ⊢
        subst hw'
        refine ⟨⟨rfl, rfl, rfl, Nat.le_refl _, fun _ _ _ => rfl⟩, h.1, h.2.1, h.2.2.1, fun j hj => ?_⟩
        by_cases e : j = i
        · subst e; exact hb
        · exact h.2.2.2 j (by omega))
  refine hE.mono ?_
  rintro e w2 ⟨rfl, hR2, hK2, hI⟩
  have HR2 := Lib.hid hR2
  have HK2 : Hid (Kf w w2 [t, m, d, g]) := by
    refine ⟨hK2.os.trans HB1.out.os, hK2.tape.trans HB1.out.tape, hK2.output.trans HB1.out.output, Nat.le_trans HB1.out.size hK2.size, fun k hk hn => ?_⟩
    refine (hK2.block k (Nat.lt_of_lt_of_le hk HB1.out.size) (fun hm => hn ?_)).trans (HB1.out.block k hk)
    simp at hm ⊢
    omega
  obtain ⟨v, hv, hF⟩ : ∃ v, w2.cell? ⟨q, 0, none⟩ = some (.int .i64 v) ∧ Fr (bt Y fi) n v := by
    rcases hI with h | ⟨i, hi, h1, h2, h3⟩
    · exact ⟨-1, h.1, .inl ⟨rfl, h.2.2.2⟩⟩
    · exact ⟨i, h1, .inr ⟨i, hi, rfl, h2, h3⟩⟩
  have HF := Lib.hid hF
  clear hI hE hR2 hK2 hF HB1 HB0 hb1 hc1 hz1 HM HR hx
  go_wp2_with fail
  refine bodyPost_ret (v := .tuple #[.int .i64 v, .int .i64 0]) (by simp [results, Tryz.results60, go_sem]) rfl ⟨v, rfl, HF.out, HR2.out, HK2.out⟩
theorem free_nil (w : World) : Calls Tryz.prog 60 #[.pointer none] w fun e w' => e = .returned (.tuple #[.int .i64 (-1), .int .i64 1]) ∧ Below w.heap.size w w' := by
  have hmf : ∀ (fn : Fn) (first cap : Array Value) (w : World), (Instr.makeFunc fn first cap).run Tryz.prog w = .ok (.func fn first cap) w := fun _ _ _ _ => rfl
  go_enter Tryz.func60, Tryz.ntmps60
  go_wp2_with fail
  refine (each_nil _ _).mono ?_
  rintro e w1 ⟨rfl, hw⟩
  rw [hw]
  clear hw
  have hc : (w.alloc (Obj.cells #[Value.int IntKind.i64 (-1)] 3)).cell? ⟨w.heap.size, 0, none⟩ = some (.int .i64 (-1)) := by rw [World.cell?_alloc_at _ _ _ _ rfl]; rfl
  go_wp2_with fail
  refine bodyPost_ret (v := .tuple #[.int .i64 (-1), .int .i64 1]) (by simp [results, Tryz.results60, go_sem]) rfl ⟨rfl, (Below.refl _ _).alloc (Nat.le_refl _) _⟩
set_option maxHeartbeats 4000000 in
set_option maxRecDepth 100000 in
theorem list1_any (q i B : Nat) (on : Bool) (v : Value) (L : List Nat) (w : World) (hc : w.cell? ⟨q, 0, none⟩ = some v) (hz : w.frozen? ⟨q, 0, none⟩ = false) (ho : w.ownsRow B 3 1 v L.length (L.map fun (k : Nat) => Value.int .i64 (k : Int))) (hB : B ≤ w.heap.size) (hL : L.length ≤ 65536) (hq : q < B) :
    Calls Tryz.prog 133 #[.int .i64 i, .bool on, .pointer (some ⟨q, 0, none⟩)] w fun e w' => e = .returned (.bool true) ∧ Kb B w w' q ∧ ∃ v', w'.cell? ⟨q, 0, none⟩ = some v' ∧ w'.frozen? ⟨q, 0, none⟩ = false ∧ w'.ownsRow B 3 1 v' (if on = true then L ++ [i] else L).length ((if on = true then L ++ [i] else L).map fun (k : Nat) => Value.int .i64 (k : Int)) := by
  obtain ⟨i0, hi, hz0, hz1, hz2⟩ := Tryz.info3i
  have HI := Lib.hid hi
  have HZ0 := Lib.hid hz0
  have HZ1 := Lib.hid hz1
  have HZ2 := Lib.hid hz2
  have HU : Hid (Tryz.prog.underlying 153 = some (.slice 3)) := by show _ = _; kernel_rfl
  have HO := Lib.hid ho
  clear hi hz0 hz1 hz2 ho
  cases on
  · have HC := Lib.hid hc
    have HZ := Lib.hid hz
    clear hc hz
    go_enter Tryz.func133, Tryz.ntmps133
    go_wp2
    go_ret
    exact ⟨rfl, ⟨rfl, rfl, rfl, Nat.le_refl _, fun _ _ _ => rfl⟩, v, HC.out, HZ.out, by simpa using HO.out⟩
  · have HC := Lib.hid hc
    have HZ := Lib.hid hz
    clear hz
    go_enter Tryz.func133, Tryz.ntmps133
    go_wp2_with (at_builtin; refine wpList_append_own _ rfl _ _ 153 rfl B 3 i0 (.int .i64 0) 1 8 HU.out HI.out HZ0.out HZ1.out HZ2.out rfl (by decide) _ _ _ rfl (HO.out.alloc _) ⟨w.heap.size, 0, none⟩ 1 1 [.int .i64 i] rfl rfl (cell_one_new _ _ _) (by simp [Value.oneCell']) (by unfold maxLen; omega) (by omega) (by simp; omega) ?_; intro v' w3 hown' hg3 hnil3; obtain ⟨av, cv, hvv⟩ := ownsRow_slice hown'; subst hvv; have HOW3 := Lib.hid hown'; have HB3 := Lib.hid (((Below.refl B w).alloc hB _).grown hg3 (by simp; omega) (fun k hk => ownsRow_block HO.out k hk)); have c3 : w3.cell? ⟨q, 0, none⟩ = some v := ((HB3.out.cell (p := ⟨q, 0, none⟩) hq).trans HC.out); have z3 : w3.frozen? ⟨q, 0, none⟩ = false := ((HB3.out.frozen (p := ⟨q, 0, none⟩) hq).trans HZ.out); clear hown' hg3 hnil3)
    go_ret
    have h1 : (w3.setCell ⟨q, 0, none⟩ (.slice av (L.length + 1) cv)).ownsRow B 3 1 (.slice av (L.length + 1) cv) (L ++ [i]).length ((L ++ [i]).map fun (k : Nat) => Value.int .i64 (k : Int)) := by
      refine ownsRow_keep (by simpa using HOW3.out) (fun k hk => Below.heap_setCell _ _ _ _ ?_)
      have := ownsRow_block HOW3.out k hk
      show k ≠ q
      omega
    refine ⟨rfl, ⟨HB3.out.os, HB3.out.tape, HB3.out.output, by simpa [World.setCell] using HB3.out.size, fun k hk hne => (Below.heap_setCell _ _ _ _ hne).trans (HB3.out.block k hk)⟩, _, World.cell?_setCell_same _ _ _ c3, by rw [World.frozen?_setCell]; exact z3, by simpa using h1⟩
theorem bt_set {Y : Nat → Nat → Int} (hv : ∀ x, Byt (Y x)) (fi i j : Nat) (on : Bool) : bt (setV Y (fi + i / 512) i on) fi j = if i = j then on else bt Y fi j := by
  unfold setV bt
  by_cases h : bitOf (Y (fi + i / 512)) i = on
  · rw [if_pos h]
    by_cases e : i = j
    · subst e; rw [if_pos rfl, h]
    · rw [if_neg e]
  · rw [if_neg h]
    unfold vput
    by_cases c : i / 512 = j / 512
    · rw [if_pos (by omega), bitOf_flp (hv _) i j c]
      by_cases e : i = j
      · subst e
        rw [if_pos rfl]
        cases on <;> simpa using h
      · rw [if_neg e, c]
        simp [e]
    · rw [if_neg (by omega)]
      have e : ¬ i = j := fun e => c (by rw [e])
      rw [if_neg e]
theorem setV_ne (Y : Nat → Nat → Int) (X i : Nat) (on : Bool) {x : Nat} (h : x ≠ X) : setV Y X i on x = Y x := by
  unfold setV
  split
  · rfl
  · exact vput_ne _ _ (Ne.symm h)
theorem bt_zero (fi i : Nat) : bt (fun _ _ => 0) fi i = false := bitOf_zero _
theorem Fr.uniq {b : Nat → Bool} {n : Nat} {v v' : Int} (h : Fr b n v) (h' : Fr b n v') : v = v' := by
  rcases h with ⟨rfl, h⟩ | ⟨i, hi, rfl, hb, hj⟩ <;> rcases h' with ⟨rfl, h'⟩ | ⟨i', hi', rfl, hb', hj'⟩
  · rfl
  · rw [h i' hi'] at hb'; cases hb'
  · rw [h' i hi] at hb; cases hb
  · have : i = i' := by
      rcases Nat.lt_trichotomy i i' with c | c | c
      · rw [hj' i c] at hb; cases hb
      · exact c
      · rw [hj i' c] at hb'; cases hb'
    rw [this]
theorem setL_congr {b b' : Nat → Bool} {n : Nat} (h : ∀ i, i < n → b i = b' i) : setL b n = setL b' n := by
  unfold setL
  exact List.filter_congr fun i hi => h i (List.mem_range.1 hi)
theorem ownsRow_base {w : World} {base base' : Nat} {e : TypeId} {size n : Nat} {v : Value} {xs : List Value} (h : w.ownsRow base e size v n xs) (hb : base' ≤ base) : w.ownsRow base' e size v n xs := by
  obtain ⟨hl, ⟨hv, hn⟩ | ⟨g, cap, cur, hv, hg, r⟩⟩ := h
  · exact ⟨hl, .inl ⟨hv, hn⟩⟩
  · exact ⟨hl, .inr ⟨g, cap, cur, hv, by omega, r⟩⟩
def nsV (L : List Nat) : List Value := L.map fun (k : Nat) => Value.int .i64 (k : Int)
set_option maxHeartbeats 4000000 in
set_option maxRecDepth 100000 in
theorem list_any (p t m d g fi n K : Nat) (Y : Nat → Nat → Int) (hf : fi ≤ 65536) (hn : n ≤ 65536) (hx : ∀ i, i < n → fi + i / 512 < N) (hK : K < 600000000) (w : World) (hm : Mb w p t fi n) (hr : Rd w t m d g N ln Y K) (hp : p ∉ [t, m, d, g]) :
    Calls Tryz.prog 116 #[.pointer (some ⟨p, 0, none⟩)] w fun e w' => ∃ v, e = .returned (.tuple #[v, .int .i64 0]) ∧ w'.ownsRow w.heap.size 3 1 v (setL (bt Y fi) n).length (nsV (setL (bt Y fi) n)) ∧ Rd w' t m d g N ln Y (K + 200) ∧ Kf w w' [t, m, d, g] := by
  have hmf : ∀ (fn : Fn) (first cap : Array Value) (w : World), (Instr.makeFunc fn first cap).run Tryz.prog w = .ok (.func fn first cap) w := fun _ _ _ _ => rfl
  have HM := Lib.hid hm
  have HR := Lib.hid hr
  clear hm hr
  go_enter Tryz.func116, Tryz.ntmps116
  go_wp2_with fail
  obtain ⟨w1, hw1⟩ : ∃ x, w.alloc (Obj.cells #[Value.slice none 0 0] 153) = x := ⟨_, rfl⟩
  have hb1 : Below w.heap.size w w1 := by rw [← hw1]; exact (Below.refl _ _).alloc (Nat.le_refl _) _
  have hc1 : w1.cell? ⟨w.heap.size, 0, none⟩ = some (.slice none 0 0) := by rw [← hw1, World.cell?_alloc_at _ _ _ _ rfl]; rfl
  have hz1 : w1.frozen? ⟨w.heap.size, 0, none⟩ = false := by rw [← hw1]; simp
  have hs1 : w.heap.size < w1.heap.size := by rw [← hw1]; simp
  have hlts := HR.out.lts
  have hpl := HM.out.lt
  have HB1 := Lib.hid hb1
  rw [hw1]
  clear hw1
  obtain ⟨q, hq⟩ : ∃ q, w.heap.size = q := ⟨_, rfl⟩
  have hB0 : w.heap.size ≤ q := by omega
  rw [hq] at hc1 hz1 hs1 hlts hpl ⊢
  have hE := each_any p t m d g fi n K 133 q Y
    (fun i W => (∃ v, W.cell? ⟨q, 0, none⟩ = some v ∧ W.frozen? ⟨q, 0, none⟩ = false ∧ W.ownsRow (w1.heap.size + 1) 3 1 v (setL (bt Y fi) i).length (nsV (setL (bt Y fi) i))) ∧ q < W.heap.size)
    (fun _ => False)
    hf hn hx hK w1 (HM.out.keep hb1) (HR.out.keep hb1) hp (by simp; omega) hs1 (fun args W => by rfl)
    (fun W hb => ⟨⟨_, (hb.cell (p := ⟨q, 0, none⟩) hs1).trans hc1, (hb.frozen (p := ⟨q, 0, none⟩) hs1).trans hz1, World.ownsRow_nil _ _ _ _⟩, Nat.lt_of_lt_of_le hs1 hb.size⟩)
    (fun i W W' h hk => by
      obtain ⟨⟨v, h1, h2, h3⟩, h4⟩ := h
      refine ⟨⟨v, (hk.cell (p := ⟨q, 0, none⟩) h4 (by simp; omega)).trans h1, (hk.frozen (p := ⟨q, 0, none⟩) h4 (by simp; omega)).trans h2, ownsRow_keep h3 (fun k hk' => hk.block k (h3.lt k hk').2 ?_)⟩, Nat.lt_of_lt_of_le h4 hk.size⟩
      have := (h3.lt k hk').1
      simp
      omega)
    (fun i W hi h hz => by
      obtain ⟨⟨v, h1, h2, h3⟩, h4⟩ := h
      refine (list1_any q i (w1.heap.size + 1) _ v (setL (bt Y fi) i) W h1 h2 h3 (by omega) (by have := setL_len (bt Y fi) i; omega) (by omega)).mono ?_
      rintro e w' ⟨he, hk, v', h5, h6, h7⟩
      refine ⟨_, he, hk, ?_⟩
      simp only [if_true]
      have hbt : bitOf (Y (fi + i / 512)) i = bt Y fi i := rfl
      rw [hbt] at h7
      refine ⟨⟨v', h5, h6, ?_⟩, Nat.lt_of_lt_of_le h4 hk.size⟩
      rw [setL_succ]
      exact h7)
  refine hE.mono ?_
  rintro e w2 ⟨rfl, hR2, hK2, hI⟩
  have HR2 := Lib.hid hR2
  have HK2 : Hid (Kf w w2 [t, m, d, g]) := by
    refine ⟨hK2.os.trans HB1.out.os, hK2.tape.trans HB1.out.tape, hK2.output.trans HB1.out.output, Nat.le_trans HB1.out.size hK2.size, fun k hk hn => ?_⟩
    refine (hK2.block k (Nat.lt_of_lt_of_le hk HB1.out.size) (fun hm => hn ?_)).trans (HB1.out.block k hk)
    simp at hm ⊢
    omega
  obtain ⟨v, hv, hO⟩ : ∃ v, w2.cell? ⟨q, 0, none⟩ = some v ∧ w2.ownsRow q 3 1 v (setL (bt Y fi) n).length (nsV (setL (bt Y fi) n)) := by
    rcases hI with ⟨⟨v, h1, _, h3⟩, _⟩ | h
    · exact ⟨v, h1, ownsRow_base h3 (by omega)⟩
    · exact h.elim
  have HO := Lib.hid hO
  clear hI hE hR2 hK2 hO HB1 hb1 hc1 hz1 HM HR hx
  obtain ⟨av, cv, rfl⟩ := ownsRow_slice HO.out
  go_wp2_with fail
  refine bodyPost_ret (v := .tuple #[.slice av (setL (bt Y fi) n).length cv, .int .i64 0]) (by simp [results, Tryz.results116, go_sem]) rfl ⟨_, rfl, ownsRow_base HO.out hB0, HR2.out, HK2.out⟩
theorem list_err (q : Value) (c : Int) (hc : c ≠ 0) (w : World) (HE : ∀ f W, Below w.heap.size w W → Calls Tryz.prog 100 #[q, f] W fun e w' => e = .returned (.int .i64 c) ∧ Below w.heap.size w w') :
    Calls Tryz.prog 116 #[q] w fun e w' => e = .returned (.tuple #[.slice none 0 0, .int .i64 c]) ∧ Below w.heap.size w w' := by
  have hmf : ∀ (fn : Fn) (first cap : Array Value) (w : World), (Instr.makeFunc fn first cap).run Tryz.prog w = .ok (.func fn first cap) w := fun _ _ _ _ => rfl
  have HH := Lib.hid HE
  clear HE
  go_enter Tryz.func116, Tryz.ntmps116
  go_wp2_with fail
  refine (HH.out _ _ ((Below.refl _ _).alloc (Nat.le_refl _) _)).mono ?_
  rintro e w1 ⟨rfl, hb⟩
  have HB := Lib.hid hb
  clear hb HH
  go_wp2_with fail
  refine bodyPost_ret (v := .tuple #[.slice none 0 0, .int .i64 c]) (by simp [results, Tryz.results116, go_sem]) rfl ⟨rfl, HB.out⟩
theorem list_nil (w : World) : Calls Tryz.prog 116 #[.pointer none] w fun e w' => e = .returned (.tuple #[.slice none 0 0, .int .i64 1]) ∧ Below w.heap.size w w' :=
  list_err _ 1 (by decide) w fun f W hb => (each_nil f W).mono fun e w' ⟨h1, h2⟩ => ⟨h1, by rw [h2]; exact hb⟩
theorem count_nil (w : World) : Calls Tryz.prog 81 #[.pointer none] w fun e w' => e = .returned (.tuple #[.int .i64 0, .int .i64 1]) ∧ Below w.heap.size w w' := by
  go_enter Tryz.func81, Tryz.ntmps81
  go_wp2_with fail
  refine (list_nil w).mono ?_
  rintro e w1 ⟨rfl, hb⟩
  have HB := Lib.hid hb
  clear hb
  go_wp2
  refine bodyPost_ret (v := .tuple #[.int .i64 0, .int .i64 1]) (by simp [results, Tryz.results81, go_sem]) rfl ⟨rfl, HB.out⟩
set_option maxHeartbeats 2000000 in
theorem count_any (p t m d g fi n K : Nat) (Y : Nat → Nat → Int) (hf : fi ≤ 65536) (hn : n ≤ 65536) (hx : ∀ i, i < n → fi + i / 512 < N) (hK : K < 600000000) (w : World) (hm : Mb w p t fi n) (hr : Rd w t m d g N ln Y K) (hp : p ∉ [t, m, d, g]) :
    Calls Tryz.prog 81 #[.pointer (some ⟨p, 0, none⟩)] w fun e w' => e = .returned (.tuple #[.int .i64 (setL (bt Y fi) n).length, .int .i64 0]) ∧ Rd w' t m d g N ln Y (K + 200) ∧ Kf w w' [t, m, d, g] := by
  have HL := Lib.hid (list_any p t m d g fi n K Y hf hn hx hK w hm hr hp)
  obtain ⟨L, hL⟩ : ∃ L, setL (bt Y fi) n = L := ⟨_, rfl⟩
  have hlen := setL_len (bt Y fi) n
  rw [hL] at HL hlen ⊢
  clear hm hr hL hx
  go_enter Tryz.func81, Tryz.ntmps81
  go_wp2_with fail
  refine HL.out.mono ?_
  rintro e w1 ⟨v, rfl, hO, hR, hK1⟩
  obtain ⟨av, cv, rfl⟩ := ownsRow_slice hO
  have HR := Lib.hid hR
  have HK := Lib.hid hK1
  clear hO hR hK1 HL
  go_wp2
  refine bodyPost_ret (v := .tuple #[.int .i64 L.length, .int .i64 0]) (by simp [results, Tryz.results81, go_sem]) rfl ⟨rfl, HR.out, HK.out⟩
end Go.Proofs.YtnfadmifdncjoaaGreat
