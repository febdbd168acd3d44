import Derived.Test.YtbnpgkclnebnmaaGreatZ22
import Derived.Test.YtbnpgkclnebnmaaGreatZ20
import Derived.Lib.SliceRun
import Derived.Test.YtbnpgkclnebnmaaGreatZ21
import Derived.Test.YtbnpgkclnebnmaaGreatZ1
import Derived.OrdersHeld
import Derived.Deep.RegionHeld
/- Files: wipeBehind. -/
/- Files: Cut. -/
/- Files: one that grows and is cut, beside the reference's. -/
/- A drawn region whose last operation may break what is held: what is held is shown anew behind all others. -/
/- A drawn region: an operation that waits, through others, ahead of the one behind which nothing is held; and what is behind that one. -/

namespace Go.Proofs.YtbnpgkclnebnmaaGreat
set_option linter.unusedSimpArgs false
set_option linter.unusedVariables false
open Go.RowKit Go.Maps

variable {ln : Lm}
theorem rep_byts (n : Nat) : List.replicate n (Value.int .u8 0) = byts n fun _ => 0 := by
  refine List.ext_getElem? fun j => ?_
  by_cases h : j < n
  · rw [byts_get _ h, List.getElem?_replicate, if_pos h]
  · rw [List.getElem?_eq_none (by simp; omega), List.getElem?_eq_none (by rw [byts_len]; omega)]
theorem Tryz.zero5v (w : World) : (zeroValue 5).run Tryz.prog w = .ok (.int .u8 0) w := by
  obtain ⟨i, hi, hz, -, -⟩ := Tryz.info5i
  simp [zeroValue, typeInfo, hi, hz]
theorem run_clear_mid (w : World) (ty : TypeId) (b o n c : Nat) (hn : 0 < n) (hc : ∀ j, j < n → (w.cell? ⟨b, o + j, none⟩).isSome = true) (hf : ∀ j, j < n → w.frozen? ⟨b, o + j, none⟩ = false) :
    (Builtin.clear_ #[24] ty #[.slice (some ⟨b, o, none⟩) n c]).run Tryz.prog w = .ok (.tuple #[]) (w.setCells b o (byts n fun _ => 0)) := by
  have := Lib.run_clear_slice (P := Tryz.prog) w 24 5 ty (.int .u8 0) Tryz.sl34 Tryz.zero5v rfl rfl b o n c hn hc hf
  rw [rep_byts] at this
  exact this
set_option maxHeartbeats 20000000 in
set_option maxRecDepth 100000 in
theorem wipe_any (b q p t m d gg lab B0 P0 M DA NB N K : Nat) (g : Cf.Ge) (Y : Nat → Nat → Int) (f : Nat → Int) (S : Nat → Bool) (B : Nat → Nat) (hF : Fi DA NB Y f S B) (o : Nat) (ho : o < 16384) (hr0 : ¬ o % 64 = 0) (hS : S (o / 64) = true) (hT : Has ln (DA + (B (o / 64) - 1)))
    (hK : K < 290000000) (hg : GG g B0 P0 M DA NB N) (w : World) (h : Bo w w b q p t m d gg lab g B0 NB N ln Y K f) :
    Calls Tryz.prog 71 #[.pointer (some ⟨b, 0, none⟩), .int .i64 o] w fun e w' => e = .returned (.int .i64 0) ∧ Bo w w' b q p t m d gg lab g B0 NB N ln (vput (DA + (B (o / 64) - 1)) (upd (Y (DA + (B (o / 64) - 1))) (o % 64) (64 - o % 64) fun _ => 0) Y) (K + 4) f := by
  have HRD := Lib.hid (fun W hW => read_slot (ln := ln) b q p t m d gg lab B0 P0 M DA NB N K g Y f S B hF o ho hS (by omega) hg W hW)
  obtain ⟨hy1, hy2⟩ := hF.rng _ hS
  have hby := h.gr.rd.vb (DA + (B (o / 64) - 1))
  obtain ⟨y, hy⟩ : ∃ y, B (o / 64) = y := ⟨_, rfl⟩
  rw [hy] at HRD hy1 hy2 hby hT ⊢
  obtain ⟨V, hV⟩ : ∃ V, Y (DA + (y - 1)) = V := ⟨_, rfl⟩
  rw [hV] at HRD hby ⊢
  obtain ⟨r, hr⟩ : ∃ r, o % 64 = r := ⟨_, rfl⟩
  have hr64 : r < 64 := by omega
  rw [hr] at hr0 ⊢
  obtain ⟨V2, hV2⟩ : ∃ V2, upd V r (64 - r) (fun _ => 0) = V2 := ⟨_, rfl⟩
  have hby2 : Byt V2 := by
    rw [← hV2]
    intro j hj
    unfold upd
    split
    · exact ⟨Int.le_refl _, (by show (0 : Int) < 256; decide)⟩
    · exact hby j hj
  rw [hV2]
  have HPu := Lib.hid (fun W hW => gput_in (ln := ln) q p t m d gg lab B0 P0 M DA NB N (K + 3) g Y y hy1 hy2 V2 hby2 hT hg W hW)
  have HV2 := Lib.hid hV2
  have HB := Lib.hid h
  obtain ⟨yi, hyi⟩ : ∃ z : Int, (y : Int) = z := ⟨_, rfl⟩
  rw [hyi] at HRD HPu
  obtain ⟨oi, hoi⟩ : ∃ z : Int, (o : Int) = z := ⟨_, rfl⟩
  have ho0 : 0 ≤ oi := by omega
  have ho1 : oi < 16384 := by omega
  have HR : Hid (oi % 64 = (r : Int)) := Lib.hid (by omega)
  rw [hoi] at HRD ⊢
  have hri : ¬ ((r : Int) = 0) := by omega
  clear hF hS hT hg h hy hV hr hV2 hyi hoi hy1 hy2 hby hby2 ho hr0
  have hRr := HR.out
  have hrr0 : (0 : Int) ≤ r := by omega
  have hrr1 : (r : Int) < 64 := by omega
  have hrr2 : (r : Int) ≤ 64 := by omega
  go_enter Tryz.func71, Tryz.ntmps71
  go_wp2_with fail
  refine (HRD.out w HB.out).mono ?_
  rintro e w3 ⟨rfl, hB3⟩
  have HB3 := Lib.hid hB3
  have hs3 : w.heap.size ≤ w3.heap.size := hB3.kf.size
  clear hB3 HRD
  go_upto_region 7 with (first | (refine wpList_alloc_byts (w := w3) rfl 59 64 rfl Tryz.zero36 ?_; intro w5 F5 hb5 hz5; simp only [Act.put, List.getElem_toArray, List.getElem_cons_zero, List.getElem_cons_succ, List.setIfInBounds_toArray, List.set_cons_zero, List.set_cons_succ]) | (refine wpList_store_blk rfl (.tmp 7) (.tmp 18) rfl w3.heap.size 0 64 (fun _ => 0) V F5.out (by omega) rfl rfl ?_; intro w6 F6 HK6; have HB5 := Lib.hid hb5; clear hb5 F5))
  obtain ⟨bB, hbB⟩ : ∃ x, w3.heap.size = x := ⟨_, rfl⟩
  have hB0 : w.heap.size ≤ bB := by omega
  have HB6 := Lib.hid ((HB3.out.keep HB5.out).new HK6.out (by omega))
  have F6' := Lib.hid (F6.out.congr (fun j hj => upd_zero 64 V j hj _))
  rw [hbB] at F6'
  try rw [hbB]
  clear F6 HK6 HB5 HB3 hbB hz5 hs3
  have hcl := fun ty => run_clear_mid w6 ty bB r (64 - r) (64 - r) (by omega) (fun j hj => by rw [F6'.out.c (r + j) (by omega)]; rfl) (fun j hj => F6'.out.z (r + j) (by omega))
  go_upto_region 8 with fail
  clear hcl hRr hrr0 hrr1 hrr2
  have hk7 : Kp w6 (w6.setCells bB r (byts (64 - r) fun _ => 0)) bB bB := (Kp.refl w6 bB bB).setCells bB r (.inl rfl) _
  have F7 := Lib.hid (F6'.out.store r (64 - r) (by omega) (fun _ => 0))
  rw [HV2.out] at F7
  have HB7 := Lib.hid (HB6.out.new hk7 hB0)
  obtain ⟨w7, hw7⟩ : ∃ x, w6.setCells bB r (byts (64 - r) fun _ => 0) = x := ⟨_, rfl⟩
  rw [hw7] at F7 HB7 ⊢
  clear hw7 hk7 F6' HB6
  refine wp_region_held (S := fun W => Fl W bB 64 V2 ∧ W.cell? ⟨b, 0, none⟩ = some (.pointer (some ⟨q, 0, none⟩))) (by kernel_rfl) ?_
  change wpAnyH _ _ _ _ _ _ _ _ (World.drew _)
  have hS0 : (fun W => Fl W bB 64 V2 ∧ W.cell? ⟨b, 0, none⟩ = some (.pointer (some ⟨q, 0, none⟩))) w7.drew := ⟨F7.out.below (Below.refl _ _).drew F7.out.lt, (HB7.out.keep (Below.refl _ _).drew).bd.c 0 _ rfl⟩
  have HB8 := Lib.hid (HB7.out.keep (Below.refl _ _).drew)
  obtain ⟨w8, hw8⟩ : ∃ x, World.drew w7 = x := ⟨_, rfl⟩
  rw [hw8] at hS0 HB8 ⊢
  clear hw8 HB7 F7
  refine wpAnyH_take (i := 0) (v := ?_) rfl (by kernel_rfl) (by kernel_rfl) (by kernel_rfl) (fun _ _ _ h => h) (Or.inl ⟨by rfl, ?_⟩) hS0 ?_
  rotate_left 1
  · intro W hW
    go_simp
    try with_reducible rfl
  simp only [Act.put, List.getElem_toArray, List.getElem_cons_zero, List.getElem_cons_succ, List.setIfInBounds_toArray, List.set_cons_zero, List.set_cons_succ]
  refine wpAnyH_take (i := 1) (v := ?_) rfl (by kernel_rfl) (by kernel_rfl) (by kernel_rfl) (fun _ _ _ h => h) (Or.inl ⟨by rfl, ?_⟩) hS0 ?_
  rotate_left 1
  · intro W hW
    go_simp
    try with_reducible rfl
  simp only [Act.put, List.getElem_toArray, List.getElem_cons_zero, List.getElem_cons_succ, List.setIfInBounds_toArray, List.set_cons_zero, List.set_cons_succ]
  refine wpAnyH_take (i := 2) (v := ?_) rfl (by kernel_rfl) (by kernel_rfl) (by kernel_rfl) (fun _ _ _ h => h) (Or.inl ⟨by rfl, ?_⟩) hS0 ?_
  rotate_left 1
  · intro W hW
    go_simp
    try with_reducible rfl
  simp only [Act.put, List.getElem_toArray, List.getElem_cons_zero, List.getElem_cons_succ, List.setIfInBounds_toArray, List.set_cons_zero, List.set_cons_succ]
  refine wpAnyH_take (i := 3) (v := ?_) rfl (by kernel_rfl) (by kernel_rfl) (by kernel_rfl) (fun _ _ _ h => h) (Or.inl ⟨by rfl, ?_⟩) hS0 ?_
  rotate_left 1
  · intro W hW
    have c0 := hW.2
    go_simp
    try with_reducible rfl
  simp only [Act.put, List.getElem_toArray, List.getElem_cons_zero, List.getElem_cons_succ, List.setIfInBounds_toArray, List.set_cons_zero, List.set_cons_succ]
  refine wpAnyH_take (i := 4) (v := ?_) rfl (by kernel_rfl) (by kernel_rfl) (by kernel_rfl) (fun _ _ _ h => h) (Or.inl ⟨by rfl, ?_⟩) hS0 ?_
  rotate_left 1
  · intro W hW
    go_simp
    try with_reducible rfl
  simp only [Act.put, List.getElem_toArray, List.getElem_cons_zero, List.getElem_cons_succ, List.setIfInBounds_toArray, List.set_cons_zero, List.set_cons_succ]
  refine wpAnyH_take (i := 5) (v := .agg (byts 64 V2).toArray) rfl (by kernel_rfl) (by kernel_rfl) (by kernel_rfl) (fun _ _ _ h => h) ?_ hS0 ?_
  · exact yieldsIf_load_mid (by rfl) 59 (.tmp 7) rfl bB 0 rfl (byts 64 V2) (.array 64 5) (fun W hW => hW.1.range0) Tryz.arr36 rfl (size36 _)
  simp only [Act.put, List.getElem_toArray, List.getElem_cons_zero, List.getElem_cons_succ, List.setIfInBounds_toArray, List.set_cons_zero, List.set_cons_succ]
  refine wpAnyH_ready (rs := [6]) (by kernel_rfl) (by simp) (AllReadyH.cons rfl (fun KK hKK => ?_) AllReadyH.nil)
  go_simp
  refine (HPu.out w8 HB8.out.gr).mono ?_
  rintro e w9 ⟨rfl, hG, hkk⟩
  have HB9 := Lib.hid (HB8.out.call hG hkk)
  replace hS0 : (fun W => Fl W bB 64 V2 ∧ W.cell? ⟨b, 0, none⟩ = some (.pointer (some ⟨q, 0, none⟩))) w9 := ⟨hS0.1.kf hkk (fun ha => by have := HB8.out.nin hB0; simp only [List.mem_cons, List.not_mem_nil, or_false, not_or] at this ha; omega), HB9.out.bd.c 0 _ rfl⟩
  clear hG hkk
  refine hKK _ _ hS0 ?_
  intro _
  clear hKK KK
  try simp only [Act.put, List.getElem_toArray, List.getElem_cons_zero, List.getElem_cons_succ, List.setIfInBounds_toArray, List.set_cons_zero, List.set_cons_succ]
  refine wpAnyH_take (i := 7) (v := ?_) rfl (by kernel_rfl) (by kernel_rfl) (by kernel_rfl) (fun _ _ _ h => h) (Or.inl ⟨by rfl, ?_⟩) hS0 ?_
  rotate_left 1
  · intro W hW
    go_simp
    try with_reducible rfl
  simp only [Act.put, List.getElem_toArray, List.getElem_cons_zero, List.getElem_cons_succ, List.setIfInBounds_toArray, List.set_cons_zero, List.set_cons_succ]
  refine wpAnyH_done (by kernel_rfl) ?_ _
  clear hS0
  go_wp2_with fail
  go_ret
  exact ⟨rfl, HB9.out.mono (Lm.le_refl _) (by omega)⟩
end Go.Proofs.YtbnpgkclnebnmaaGreat

namespace Go.Proofs.YtbnpgkclnebnmaaGreat
set_option linter.unusedSimpArgs false
set_option linter.unusedVariables false
open Go.RowKit Go.Maps

variable {ln : Lm}
theorem vput_self (k : Nat) (V : Nat → Nat → Int) : vput k (V k) V = V := by
  funext x
  unfold vput
  split
  · rename_i h
    rw [h]
  · rfl
theorem wipe_none (b q p t m d gg lab B0 NB N K : Nat) (g : Cf.Ge) (Y : Nat → Nat → Int) (f : Nat → Int) (o : Nat) (hr : o % 64 = 0) (ho : o ≤ 16384) (w : World) (h : Bo w w b q p t m d gg lab g B0 NB N ln Y K f) :
    Calls Tryz.prog 71 #[.pointer (some ⟨b, 0, none⟩), .int .i64 o] w fun e w' => e = .returned (.int .i64 0) ∧ Bo w w' b q p t m d gg lab g B0 NB N ln Y K f := by
  have HB := Lib.hid h
  obtain ⟨oi, hoi⟩ : ∃ z : Int, (o : Int) = z := ⟨_, rfl⟩
  have ho0 : 0 ≤ oi := by omega
  have ho1 : oi ≤ 16384 := by omega
  have hR : oi % 64 = 0 := by omega
  rw [hoi]
  clear h hoi hr ho
  go_enter Tryz.func71, Tryz.ntmps71
  go_wp2_with fail
  go_ret
  exact ⟨rfl, HB.out⟩
theorem Tab.ok {P0 M : Nat} {Y V : Nat → Nat → Int} (h : Tab P0 M Y V) (n : Nat) (h1 : 1 ≤ n) (h2 : n ≤ M) : NdOk (V n) := (h n h1 h2).2.1
set_option maxHeartbeats 40000000 in
set_option maxRecDepth 200000 in
theorem fcut_in (q p t m d gg lab B0 P0 M DA NB N K : Nat) (g : Cf.Ge) (Y0 V : Nat → Nat → Int) (b0 : Nat → Nat) (num : Nat) (h1 : 1 ≤ num) (h2 : num ≤ M) (hkd : ¬ V num 0 = 0) (hlk : 0 < V num 1) (sz : Nat) (hsz : V num 3 = sz) (hsz2 : sz ≤ 16384)
    (hFu : Fu B0 DA NB Y0 (V num) (ndS ((sz + 63) / 64)) b0) (hI : Tab P0 M Y0 V) (hT0 : Has ln B0) (hTB : Has ln (P0 + (num - 1) / 2)) (hK : K < 200000000) (hg : GG g B0 P0 M DA NB N) (w : World) (h : Gr w q p t m d gg lab g B0 NB N ln Y0 K)
    (x : Nat) (hx : x ≤ sz) (hmb : mbl (V num 0) (x : Nat) = true) (hT : 0 < x → ∀ i, i ≤ lenC ((x + 63) / 64 - 1) → Has ln (DA + (b0 (chS ((x + 63) / 64 - 1) i) - 1))) (hz : ∀ i, sz ≤ i → i < 64 * ((sz + 63) / 64) → ctF DA Y0 b0 i = 0) :
    Calls Tryz.prog 29 #[.pointer (some ⟨q, 0, none⟩), .int .i64 num, .int .i64 x] w fun e w' => ∃ (Y : Nat → Nat → Int) (f : Nat → Int), e = .returned (.int .i64 0) ∧ Gr w' q p t m d gg lab g B0 NB N ln Y (K + 11000) ∧ Kf w w' [t, m, d, gg] ∧ Tab P0 M Y (vput num f V) ∧ Fu B0 DA NB Y f (ndS ((x + 63) / 64)) b0 ∧ f 0 = V num 0 ∧ f 1 = V num 1 ∧ f 2 = V num 2 ∧ f 3 = (x : Nat)
      ∧ (∀ z, z ≠ B0 → z ≠ P0 + (num - 1) / 2 → (∀ c, ndS ((x + 63) / 64) c = true → z ≠ DA + (b0 c - 1)) → Y z = Y0 z)
      ∧ (∀ j, j < NB → (bt Y B0 j = true ↔ bt Y0 B0 j = true ∧ ¬ ∃ c, ndS ((sz + 63) / 64) c = true ∧ ndS ((x + 63) / 64) c = false ∧ b0 c = j + 1))
      ∧ (∀ i, i < 64 * ((x + 63) / 64) → ctF DA Y b0 i = if i < x then ctF DA Y0 b0 i else 0) := by
  obtain ⟨d27, hu, hd⟩ := Tryz.desc27
  have HU := Lib.hid hu
  have HD := Lib.hid hd
  have HO := Lib.hid (fopen_in (ln := ln) q p t m d gg lab B0 P0 M DA NB N K g Y0 V num h1 h2 hkd (by omega) hI hg w h)
  obtain ⟨f0, hf⟩ : ∃ f, V num = f := ⟨_, rfl⟩
  have hok := hI.ok num h1 h2
  rw [hf] at HO hsz hFu hlk hmb hok ⊢
  have HSz := Lib.hid (fun b q W hW => size_any b q f0 (by omega) (by omega) W hW)
  rw [hsz] at HSz
  obtain ⟨n0, hn0⟩ : ∃ n, (sz + 63) / 64 = n := ⟨_, rfl⟩
  obtain ⟨n1, hn1⟩ : ∃ n, (x + 63) / 64 = n := ⟨_, rfl⟩
  rw [hn0] at hFu hz
  rw [hn1] at hT
  rw [hn0, hn1]
  have h0lt : ∀ a ∈ [q, p, t, m, d, gg], a < w.heap.size := fun a ha => by
    obtain ⟨l1, l2, l3, l4, l5, l6⟩ := h.lts
    simp only [List.mem_cons, List.not_mem_nil, or_false] at ha
    rcases ha with rfl | rfl | rfl | rfl | rfl | rfl <;> assumption
  have H0 := Lib.hid h0lt
  have hx0 : (0 : Int) ≤ x := by omega
  have hx1 : (x : Int) ≤ 16384 := by omega
  have hxz : (x : Int) ≤ sz := by omega
  have hs1 : (sz : Int) ≤ 16384 := by omega
  have HF := Lib.hid hf
  have HI := Lib.hid hI
  have HFu := Lib.hid hFu
  have HZ := Lib.hid hz
  have HSZ := Lib.hid hsz
  have d1 : decide ((x : Int) < 0) = false := decide_eq_false (by omega)
  have d2 : decide ((sz : Int) < x) = false := decide_eq_false (by omega)
  by_cases hxs : x = sz
  · subst hxs
    obtain rfl : n0 = n1 := by omega
    obtain ⟨xi, hxi⟩ : ∃ z : Int, (x : Int) = z := ⟨_, rfl⟩
    have HXI := Lib.hid hxi
    rw [hxi] at HSz d1 d2 hx0 hx1 ⊢
    clear h1 h2 hkd hsz hFu hI hg h hf h0lt hlk hmb hT0 hTB hT hz hu hd hok hx hxz hs1 hn1 hn0
    go_enter Tryz.func29, Tryz.ntmps29
    go_wp2_with fail
    refine HO.out.mono ?_
    rintro e w1 ⟨b, rfl, hb, hG, hVb, hk⟩
    have HG1 := Lib.hid hG
    have HK1 := Lib.hid hk
    have HS1 := Lib.hid (HSz.out b q w1 hVb)
    clear hG hVb hk HO HSz
    go_wp2_with fail
    refine HS1.out.mono ?_
    rintro e wz ⟨rfl, hwz⟩
    rw [hwz]
    clear hwz
    go_wp2_with fail
    refine HS1.out.mono ?_
    rintro e wz ⟨rfl, hwz⟩
    rw [hwz]
    clear hwz HS1
    go_wp2_with fail
    go_ret
    refine ⟨Y0, f0, rfl, HG1.out.mono (Lm.le_refl _) (by omega), HK1.out, ?_, HFu.out, rfl, rfl, rfl, ?_, fun _ _ _ _ => rfl, fun j _ => ⟨fun hh => ⟨hh, fun ⟨c, k1, k2, _⟩ => by (rw [k1] at k2; cases k2)⟩, fun hh => hh.1⟩, fun i hi => ?_⟩
    · rw [← HF.out, vput_self]
      exact HI.out
    · exact HSZ.out.trans HXI.out
    · by_cases hh : i < x
      · rw [if_pos hh]
      · rw [if_neg hh]
        exact HZ.out i (by omega) hi
  · have hne : ¬ ((x : Int) = sz) := by omega
    have hxl : x < sz := by omega
    have hn01 : n1 ≤ n0 ∧ n0 ≤ 256 := by omega
    have hBD : B0 < P0 ∧ P0 + (num - 1) / 2 < DA := by have := hg.bp; have := hg.pd; omega
    have hN5 := hg.n512
    have HSp : Hid (∀ W, Calls Tryz.prog 69 #[.int .i64 x] W fun e w' => (∃ y, e = .returned (.tuple #[.int .i64 n1, .int .i64 y])) ∧ w' = W) := Lib.hid (fun W => by
      have hds : dataS x = (n1 : Int) := by unfold dataS; split <;> omega
      have := spread_any x (by omega) W
      rw [hds] at this
      exact this.mono (by
        rintro e w' ⟨rfl, hw⟩
        exact ⟨⟨_, rfl⟩, hw⟩))
    have HGF := Lib.hid (fun b W hW => givefrom_any (ln := ln) b q p t m d gg lab B0 P0 M DA NB N (K + 1) g Y0 f0 b0 sz n1 n0 hsz hsz2 hn0 hn01.1 hFu hT0 (fun hh => hT (by omega)) (by omega) hg W hW)
    have HTx := Lib.hid (fun (hh : 0 < x) => hT hh)
    have HSET := Lib.hid (fun Y f K' (hf' : NdOk f) (hc : codeN f = 0) (hK' : K' < 500000000) W hW => gset_in (ln := ln) q p t m d gg lab B0 P0 M DA NB N K' g Y f hf' hc num h1 h2 hTB (by omega) hg W hW)
    have HG0 := Lib.hid hg
    have Hok := Lib.hid hok
    have Hlk := Lib.hid hlk
    have HMb := Lib.hid hmb
    have HNum := Lib.hid (show 1 ≤ num ∧ num ≤ M from ⟨h1, h2⟩)
    have hWX : IntKind.u32.wrap (x : Int) = x := wraps_u32 _ (by omega) (by omega)
    have HWX := Lib.hid hWX
    have HN1 := Lib.hid hn1
    clear h1 h2 hkd hsz hFu hI hg h hf h0lt hlk hmb hT0 hTB hT hz hu hd hok hx hn1 hn0 hxs hWX
    go_enter Tryz.func29, Tryz.ntmps29
    go_wp2_with fail
    refine HO.out.mono ?_
    rintro e w1 ⟨b, rfl, hb, hG, hVb, hk⟩
    have HB1 := Lib.hid (Bo.start H0.out hb hG hVb)
    have HK1 := Lib.hid hk
    have HS1 := Lib.hid (HSz.out b q w1 hVb)
    have hbw := hVb.lt
    clear hG hVb hk HO HSz
    go_wp2_with fail
    refine HS1.out.mono ?_
    rintro e wz ⟨rfl, hwz⟩
    rw [hwz]
    clear hwz
    go_wp2_with fail
    refine HS1.out.mono ?_
    rintro e wz ⟨rfl, hwz⟩
    rw [hwz]
    clear hwz HS1
    go_wp2_with fail
    refine (HSp.out w1).mono ?_
    rintro e wz ⟨⟨xp, rfl⟩, hwz⟩
    rw [hwz]
    clear hwz HSp
    go_wp2_with fail
    refine (HGF.out b w1 HB1.out).mono ?_
    rintro e w2 ⟨Y1, f1, rfl, hB2, hG2⟩
    have HB2 := Lib.hid (HB1.out.trans hB2)
    have HGv := Lib.hid hG2
    clear hB2 hG2 HGF HB1
    have HWipe : Hid (∃ Y2, Calls Tryz.prog 71 #[.pointer (some ⟨b, 0, none⟩), .int .i64 x] w2 (fun e w' => e = .returned (.int .i64 0) ∧ Bo w2 w' b q p t m d gg lab g B0 NB N ln Y2 (K + 1 + 10300 + 4) f1) ∧ (∀ z, (∀ c, ndS n1 c = true → z ≠ DA + (b0 c - 1)) → Y2 z = Y1 z) ∧ (∀ c, ndS n1 c = true → 2000 ≤ c → Y2 (DA + (b0 c - 1)) = Y1 (DA + (b0 c - 1))) ∧ ∀ i, i < 64 * n1 → ctF DA Y2 b0 i = if i < x then ctF DA Y1 b0 i else 0) := Lib.hid (by
      have hx64 := HN1.out
      by_cases hr : x % 64 = 0
      · refine ⟨Y1, (wipe_none (ln := ln) b q p t m d gg lab B0 NB N (K + 1 + 10300) g Y1 f1 x hr (by omega) w2 HB2.out.self).mono (by
          rintro e w' ⟨he, hB⟩
          exact ⟨he, hB.mono (Lm.le_refl _) (by omega)⟩), fun _ _ => rfl, fun _ _ _ => rfl, fun i hi => ?_⟩
        rw [if_pos (by omega)]
      · have hS : ndS n1 (x / 64) = true := (ndS_iff _ _).2 (by omega)
        have hc1 : n1 - 1 = x / 64 := by omega
        have hT := HTx.out (by omega) (lenC (n1 - 1)) (Nat.le_refl _)
        rw [chS_last, hc1] at hT
        refine ⟨_, wipe_any (ln := ln) b q p t m d gg lab B0 P0 M DA NB N (K + 1 + 10300) g Y1 f1 (ndS n1) b0 HGv.out.fi x (by omega) hr hS hT (by omega) HG0.out w2 HB2.out.self, fun z hh => ?_, fun c hc hc2 => ?_, fun i hi => ?_⟩
        · exact vput_ne _ _ (hh _ hS).symm
        · refine vput_ne _ _ fun he => ?_
          have r1 := HGv.out.fi.rng c hc
          have r2 := HGv.out.fi.rng _ hS
          have := HGv.out.fi.inj _ _ hc hS (by omega)
          omega
        · unfold ctF
          have hSi : ndS n1 (i / 64) = true := (ndS_iff _ _).2 (by omega)
          by_cases e : i / 64 = x / 64
          · rw [e, vput_at]
            unfold upd
            by_cases hh : x % 64 ≤ i % 64 ∧ i % 64 < x % 64 + (64 - x % 64)
            · rw [if_pos hh, if_neg (by omega)]
            · rw [if_neg hh, if_pos (by omega)]
          · rw [vput_ne _ _ (fun he => ?_), if_pos (by omega)]
            have r1 := HGv.out.fi.rng _ hSi
            have r2 := HGv.out.fi.rng _ hS
            exact e (HGv.out.fi.inj _ _ hSi hS (by omega)))
    obtain ⟨Y2, HWc, hY2a, hY2b, hct2⟩ := HWipe.out
    have HWc := Lib.hid HWc
    have HYa := Lib.hid hY2a
    have HYb := Lib.hid hY2b
    have HCt := Lib.hid hct2
    clear hY2a hY2b hct2 HWipe
    go_wp2_with fail
    refine HWc.out.mono ?_
    rintro e w3 ⟨rfl, hB3⟩
    have HB3 := Lib.hid (HB2.out.trans hB3)
    clear hB3 HWc HB2
    have cb := HB3.out.bd.c (1 + 3) (.int .u32 (f1 3)) rfl
    have zb := HB3.out.bd.z (1 + 3) (by show 1 + 3 < 13; omega)
    have hWX := HWX.out
    go_upto_region 16 with fail
    have HB4 := Lib.hid (HB3.out.set 3 (by decide) (.int .u32 (x : Int)) (setZ f1 x) (bdc_setZ q f1 x))
    obtain ⟨w4, hw4⟩ : ∃ y, w3.setCell ⟨b, 1 + 3, none⟩ (.int .u32 (x : Int)) = y := ⟨_, rfl⟩
    rw [hw4] at HB4
    try rw [hw4]
    clear hw4 cb zb hWX HB3
    have hgv := HGv.out
    have hNd : NdOk (setZ f1 x) := setZ_ok (f := f1) (by
      have ho := Hok.out
      exact ⟨by rw [hgv.f4 0 (by omega)]; exact ho.k, by rw [hgv.f4 1 (by omega)]; exact ho.l, by rw [hgv.f4 2 (by omega)]; exact ho.g, by rw [hgv.f4 3 (by omega)]; exact ho.s, fun i h4 h12 => hgv.fi.ptr hN5 i h4 h12⟩) (by omega) (by omega)
    have hz3 : setZ f1 x 3 = (x : Int) := if_pos rfl
    have hzn : ∀ i, i ≠ 3 → setZ f1 x i = f1 i := fun i hi => if_neg hi
    have hCo : codeN (setZ f1 x) = 0 := code_of (by rw [hzn 1 (by omega), hgv.f4 1 (by omega)]; exact Hlk.out) (by rw [hz3, hzn 0 (by omega), hgv.f4 0 (by omega)]; exact HMb.out)
    have HSe := Lib.hid (HSET.out Y2 (setZ f1 x) (K + 1 + 10300 + 4) hNd hCo (by omega) w4 HB4.out.gr)
    have HNd := Lib.hid hNd
    have HCo := Lib.hid hCo
    have HZ3 := Lib.hid hz3
    have HZn := Lib.hid hzn
    clear hgv hNd hCo hz3 hzn
    have HRn := Lib.hid HB4.out.bd.node
    go_wp2_with (refine wpList_load_mid rfl 68 _ rfl b 1 rfl (ndc (setZ f1 x)) d27 HRn.out HU.out HD.out (size27 _) ?_)
    refine HSe.out.mono ?_
    rintro e w5 ⟨rfl, hG, hkk⟩
    have HG5 := Lib.hid hG
    have HKf : Hid (Kf w w5 [t, m, d, gg]) := Lib.hid ((HK1.out.join HB4.out.kf (fun a ha => by
      simp only [List.mem_cons, List.not_mem_nil, or_false] at ha ⊢
      omega)).trans hkk)
    clear hG hkk HSe
    go_wp2_with fail
    go_ret
    have hgv := HGv.out
    have hnm := HNum.out
    have hTz : ∀ z, z ≠ P0 + (num - 1) / 2 → tabW P0 num (setZ f1 x) Y2 z = Y2 z := fun z hz => tabW_ne P0 num _ Y2 z hz
    have hdt : ∀ c, tabW P0 num (setZ f1 x) Y2 (DA + (b0 c - 1)) = Y2 (DA + (b0 c - 1)) := fun c => hTz _ (by omega)
    have hrow : ∀ z, z < DA → Y2 z = Y1 z := fun z hz => HYa.out z (fun c hc => by omega)
    have hbt : ∀ j, j < NB → bt (tabW P0 num (setZ f1 x) Y2) B0 j = bt Y1 B0 j := fun j hj => by
      have e0 : B0 + j / 512 = B0 := by omega
      unfold bt
      rw [e0, hTz _ (by omega), hrow _ (by omega)]
    have hF2 : Fi DA NB (tabW P0 num (setZ f1 x) Y2) (setZ f1 x) (ndS n1) b0 := by
      have h1 := hgv.fi.congr (Y' := tabW P0 num (setZ f1 x) Y2) (fun c hc hc2 => by rw [hdt c, HYb.out c hc hc2])
      refine ⟨h1.ok, fun c hc => ?_, h1.wrd, h1.cl, h1.rng, h1.inj⟩
      rw [HZn.out _ (by have := (rtI_lt c hc).1; omega)]
      exact h1.root c hc
    have hkk : ∀ c, ndS n1 c = true → ndS n0 c = true := fun c hc => ndS_mono hn01.1 c hc
    refine ⟨_, setZ f1 x, rfl, HG5.out.mono (Lm.le_refl _) (by omega), HKf.out, ?_, ⟨hF2, fun c hc => ?_⟩, by rw [HZn.out 0 (by omega)]; exact hgv.f4 0 (by omega), by rw [HZn.out 1 (by omega)]; exact hgv.f4 1 (by omega), by rw [HZn.out 2 (by omega)]; exact hgv.f4 2 (by omega), HZ3.out, fun z z1 z2 z3 => ?_, fun j hj => ?_, fun i hi => ?_⟩
    · refine Tab.wr (HI.out.congr fun z z1 z2 => ?_) num hnm.1 hnm.2 (setZ f1 x) HNd.out HCo.out
      have := HG0.out.pd
      rw [hrow z (by omega)]
      exact hgv.y z (by omega) (fun c _ _ => by omega)
    · have r := hgv.fi.rng c hc
      rw [hbt _ (by omega)]
      exact hgv.told HFu.out.us HFu.out.fi.inj c hc
    · rw [hTz z z2, HYa.out z z3]
      exact hgv.y z z1 (fun c hc _ => z3 c hc)
    · rw [hbt j hj]
      exact hgv.u j hj
    · have : ctF DA (tabW P0 num (setZ f1 x) Y2) b0 i = ctF DA Y2 b0 i := by
        unfold ctF
        rw [hdt]
      rw [this, HCt.out i hi]
      by_cases hh : i < x
      · rw [if_pos hh, if_pos hh]
        unfold ctF
        have hSi : ndS n1 (i / 64) = true := (ndS_iff _ _).2 (by omega)
        rw [hgv.y _ (by omega) (fun c hc hc2 he => ?_)]
        have r1 := hgv.fi.rng c hc
        have r2 := hgv.fi.rng _ hSi
        have := hgv.fi.inj _ _ hc hSi (by omega)
        omega
      · rw [if_neg hh, if_neg hh]
end Go.Proofs.YtbnpgkclnebnmaaGreat

namespace Go.Proofs.YtbnpgkclnebnmaaGreat
set_option linter.unusedSimpArgs false
set_option linter.unusedVariables false
open Go.RowKit Go.Maps

def M3 (sz : Nat) (X : Nat → Int) (v : Value) : List Mf := newF8.set 3 (⟨1, 1, 1, sz⟩, X, v, .slice none 0 0)
theorem M3_len (sz : Nat) (X : Nat → Int) (v : Value) : (M3 sz X v).length = 9 := rfl
theorem M3_three (sz : Nat) (X : Nat → Int) (v : Value) : (M3 sz X v)[3]? = some (⟨1, 1, 1, sz⟩, X, v, .slice none 0 0) := rfl
theorem M3_le (sz : Nat) (X : Nat → Int) (v : Value) (h : sz ≤ 16384) : ∀ m ∈ M3 sz X v, m.1.n ≤ 16384 := fun m hm => by
  simp only [M3, newF8, z0F, d0F, n0F, List.set_cons_succ, List.set_cons_zero, List.mem_cons, List.not_mem_nil, or_false] at hm
  rcases hm with rfl | rfl | rfl | rfl | rfl | rfl | rfl | rfl | rfl
  all_goals first | exact h | exact Nat.zero_le _
theorem dataS_nat (sz : Nat) : dataS (sz : Int) = ((sz + 63) / 64 : Nat) := by
  unfold dataS
  split <;> omega
theorem ptrS_nat (n : Nat) : ptrS (n : Int) = (ptsN n : Nat) := by
  unfold ptrS ptsN
  by_cases h6 : n ≤ 6
  · rw [if_pos (show (n : Int) ≤ 6 by omega), if_pos h6]
    rfl
  · rw [if_neg (show ¬ (n : Int) ≤ 6 by omega), if_neg h6]
    by_cases h38 : n ≤ 38
    · rw [if_pos (show (n : Int) ≤ 38 by omega), if_pos h38]
      rfl
    · rw [if_neg (show ¬ (n : Int) ≤ 38 by omega), if_neg h38]
      omega
theorem M3_uB (sz : Nat) (X : Nat → Int) (v : Value) : uBF 0 ((M3 sz X v).map fun m => m.1) 9 = (((sz + 63) / 64 + ptsN ((sz + 63) / 64) : Nat) : Int) := by
  have e : (M3 sz X v).map (fun m => m.1) = [⟨0, 0, 0, 0⟩, ⟨2, 1, 1, 0⟩, ⟨1, 1, 1, 0⟩, ⟨1, 1, 1, sz⟩, ⟨0, 0, 0, 0⟩, ⟨0, 0, 0, 0⟩, ⟨0, 0, 0, 0⟩, ⟨0, 0, 0, 0⟩, ⟨0, 0, 0, 0⟩] := rfl
  have h0 : ∀ i, bkF 0 i ⟨0, 0, 0, 0⟩ = 0 := fun i => rfl
  have h1 : bkF 0 1 ⟨2, 1, 1, 0⟩ = 0 := by decide
  have h2 : bkF 0 2 ⟨1, 1, 1, 0⟩ = 0 := by decide
  have h3 : bkF 0 3 ⟨1, 1, 1, sz⟩ = (((sz + 63) / 64 + ptsN ((sz + 63) / 64) : Nat) : Int) := by
    show dataS (sz : Int) + ptrS (dataS (sz : Int)) = _
    rw [dataS_nat, ptrS_nat]
    omega
  rw [e]
  show uBF 0 _ 8 + bkF 0 8 ⟨0, 0, 0, 0⟩ = _
  show ((((((((0 : Int) + bkF 0 1 ⟨2, 1, 1, 0⟩) + bkF 0 2 ⟨1, 1, 1, 0⟩) + bkF 0 3 ⟨1, 1, 1, sz⟩) + bkF 0 4 ⟨0, 0, 0, 0⟩) + bkF 0 5 ⟨0, 0, 0, 0⟩) + bkF 0 6 ⟨0, 0, 0, 0⟩) + bkF 0 7 ⟨0, 0, 0, 0⟩) + bkF 0 8 ⟨0, 0, 0, 0⟩ = _
  rw [h0, h0, h0, h0, h0, h1, h2, h3]
  omega
theorem rwriteO (r nb cap sz : Nat) (X : Nat → Int) (v : Value) (L : List Nat) (len e : Nat) (he : sz + len = e) (he2 : e ≤ 16384) (pv : Option Addr) (cv : Nat) (s : Nat → Int) (w : World) (hs : B8 w pv len cv s) (h : Mm w r nb cap 300 (M3 sz X v) L) (hL : ∀ a ∈ L, a < w.heap.size) :
    Calls Tryz.prog 36 #[.pointer (some ⟨r, 0, none⟩), .int .i64 3, .int .i64 sz, .slice pv len cv] w fun x w' => ∃ v', x = .returned (.int .i64 0) ∧ Mm w' r nb cap 300 (M3 e (fun j => if j < sz then X j else s (j - sz)) v') L ∧ Kp w w' nb nb := by
  have := rwrite_end r nb cap 9 300 (M3 sz X v) L 3 _ (M3_three sz X v) (show ¬ (1 : Int) = 0 by decide) (by decide) (by decide) (M3_len sz X v) (M3_le sz X v (by omega)) sz len e ⟨Nat.le_refl _, by show sz ≤ e; omega, he, he2⟩ pv cv s w hs h hL
  refine this.mono ?_
  rintro x w' ⟨g2, c2, hx, hM, hk⟩
  have h9 := ptsN_le ((e + 63) / 64) (by omega)
  have hu : ¬ (300 : Int) < uBF 0 ((M3 e (fun j => if j < sz then X j else s (j - sz)) (.slice (some ⟨g2, 0, none⟩) e c2)).map fun m => m.1) 9 := by
    rw [M3_uB]
    omega
  refine ⟨.slice (some ⟨g2, 0, none⟩) e c2, ?_, hM, hk⟩
  rw [hx]
  exact congrArg (fun z => Ending.returned (.int .i64 z)) (if_neg hu)
theorem rcutO (r nb cap sz : Nat) (X : Nat → Int) (v : Value) (L : List Nat) (h16 : sz ≤ 16384) (x : Nat) (hx : x ≤ sz) (w : World) (h : Mm w r nb cap 300 (M3 sz X v) L) (hL : ∀ a ∈ L, a < w.heap.size) :
    Calls Tryz.prog 30 #[.pointer (some ⟨r, 0, none⟩), .int .i64 3, .int .i64 x] w fun e w' => ∃ v', e = .returned (.int .i64 0) ∧ Mm w' r nb cap 300 (M3 x X v') L ∧ Kp w w' nb nb := by
  refine (rcut_in r nb cap 9 300 (M3 sz X v) L 3 _ (M3_three sz X v) (show ¬ (1 : Int) = 0 by decide) (M3_len sz X v) (M3_le sz X v h16) x hx w h hL).mono ?_
  rintro e w' ⟨g2, c2, he, hM, hk⟩
  exact ⟨_, he, hM, hk⟩
theorem newF8_mm {w : World} {g c r : Nat} {B : Int} {L : List Nat} (hv : Vl w g (flF newF8)) (hr : Vl w r [.slice (some ⟨g, 0, none⟩) 9 c, .slice none 0 0, .int .i64 B]) (hne : r ≠ g) (h1 : r ∈ L) (h2 : g ∈ L) : Mm w r g c B (M3 0 (fun _ => 0) (.slice none 0 0)) L := by
  have hnil : ∀ m ∈ newF8, m.1.n = 0 ∧ m.2.2.1 = .slice none 0 0 ∧ m.2.2.2 = .slice none 0 0 := fun m hm => by
    unfold newF8 at hm
    simp only [List.mem_cons, List.not_mem_nil, or_false] at hm
    rcases hm with rfl | rfl | rfl | rfl | rfl | rfl | rfl | rfl | rfl <;> exact ⟨rfl, rfl, rfl⟩
  exact ⟨hr, hv, fun m hm => .inl ⟨(hnil m hm).2.1, (hnil m hm).1⟩, fun m hm => ⟨none, 0, (hnil m hm).2.2⟩, hne, h1, h2⟩
/-- the law's state between two transactions -/
structure FS (w2 w : World) (N dd gg l r nb cap B0 P0 DA KB sz : Nat) (X : Nat → Int) (v : Value) (L : List Nat) (t m K : Nat) (Y V : Nat → Nat → Int) (B : Nat → Nat) : Prop where
  rd : Rd w t m dd gg N ⟨[], Y⟩ Y K
  kb : K ≤ KB
  st : St B0 P0 DA 300 Y V B sz X
  xb : ∀ j, 0 ≤ X j ∧ X j < 256
  mm : Mm w r nb cap 300 (M3 sz X v) L
  ll : ∀ a ∈ L, a < w.heap.size
  hd : dd ∈ L
  hg : gg ∈ L
  lg : Lg w l dd 1
  bw : Below w2.heap.size w2 w
/-- blocks that a cut may touch -/
def LC (B0 P0 DA : Nat) (b : Nat → Nat) (x : Nat) : List Nat := [B0, P0 + 1, DA + (b (chS ((x + 63) / 64 - 1) 0) - 1), DA + (b (chS ((x + 63) / 64 - 1) 1) - 1), DA + (b (chS ((x + 63) / 64 - 1) 2) - 1)]
/-- a cut of that one file -/
theorem cutO {bl N : Nat} {g : Cf.Ge} {B0 P0 DA : Nat} (hc : CO bl N g B0 P0 DA) (q p t m d gg K : Nat) (Y0 V D : Nat → Nat → Int) (b0 : Nat → Nat) (sz : Nat) (X : Nat → Int) (hS : St B0 P0 DA bl Y0 V b0 sz X) (hK : K < 200000000) (x : Nat) (hx : x ≤ sz) (w : World) (h : Gr w q p t m d gg 0 g B0 bl N ⟨LC B0 P0 DA b0 x, D⟩ Y0 K) :
    Calls Tryz.prog 29 #[.pointer (some ⟨q, 0, none⟩), .int .i64 3, .int .i64 x] w fun e w' => ∃ (Y V' : Nat → Nat → Int), e = .returned (.int .i64 0) ∧ Gr w' q p t m d gg 0 g B0 bl N ⟨LC B0 P0 DA b0 x, D⟩ Y (K + 11000) ∧ Kf w w' [t, m, d, gg] ∧ St B0 P0 DA bl Y V' b0 x X := by
  have hs2 := hS.s2
  have hl5 : (LC B0 P0 DA b0 x).length ≤ 30 := by show 5 ≤ 30; decide
  have := fcut_in (ln := ⟨LC B0 P0 DA b0 x, D⟩) q p t m d gg 0 B0 P0 8 DA bl N K g Y0 V b0 3 (by decide) (by decide) (by rw [hS.k]; decide) (by rw [hS.l]; decide) sz hS.s hs2 hS.fu hS.tab (Has.of (by unfold LC; simp) hl5) (Has.of (by unfold LC; simp) hl5) hK hc.gg w h x hx
    (by
      rw [hS.k]
      show mbl 1 ((x : Nat) : Int) = true
      unfold mbl
      rw [if_pos rfl]
      exact decide_eq_true (by omega))
    (fun _ i hi => by
      have h2 : lenC ((x + 63) / 64 - 1) ≤ 2 := by
        unfold lenC
        split
        · omega
        · split <;> omega
      have h3 : i = 0 ∨ i = 1 ∨ i = 2 := by omega
      rcases h3 with rfl | rfl | rfl <;> exact Has.of (by unfold LC; simp) hl5)
    (fun i h1 h2 => by rw [hS.ct i h2, if_neg (by omega)])
  refine this.mono ?_
  rintro e w' ⟨Y, f, rfl, hG, hk, hT, hF, h0, h1, -, h3, hy, hu, hct⟩
  have hv3 : vput 3 f V 3 = f := vput_at _ _ _
  refine ⟨Y, vput 3 f V, rfl, hG, hk, ⟨hT, by rw [hv3]; exact hF, by rw [hv3, h0, hS.k], by rw [hv3, h1, hS.l], by rw [hv3, h3], by omega, fun j hj => ?_, fun i hi => ?_⟩⟩
  · rw [hu j hj, hS.bit j hj]
    constructor
    · rintro ⟨⟨c, h1, h2⟩, h3⟩
      refine ⟨c, ?_, h2⟩
      cases hh : ndS ((x + 63) / 64) c with
      | true => rfl
      | false => exact absurd ⟨c, h1, hh, h2⟩ h3
    · rintro ⟨c, h1, h2⟩
      have h1' := ndS_mono (show (x + 63) / 64 ≤ (sz + 63) / 64 by omega) c h1
      refine ⟨⟨c, h1', h2⟩, ?_⟩
      rintro ⟨c', h3, h4, h5⟩
      have := hS.fu.fi.inj c c' h1' h3 (by omega)
      subst this
      rw [h1] at h4
      cases h4
  · rw [hct i hi]
    by_cases e : i < x
    · rw [if_pos e, if_pos e, hS.ct i (by omega), if_pos (by omega)]
    · rw [if_neg e, if_neg e]
/-- a slice of numbers of two bytes as handed in -/
def B16 (w : World) (pa : Option Addr) (n c : Nat) (s : Nat → Int) : Prop :=
  n = 0 ∨ ∃ b off, pa = some ⟨b, off, none⟩ ∧ b < w.heap.size ∧ ∀ j, j < n → w.cell? ⟨b, off + j, none⟩ = some (.int .u16 (s j))
end Go.Proofs.YtbnpgkclnebnmaaGreat

namespace Go.Proofs.YtbnpgkclnebnmaaGreat
set_option linter.unusedSimpArgs false
set_option linter.unusedVariables false
open Go.RowKit Go.Maps

/-- as wpAnyH; but behind operation x0 nothing need be held any more -/
def wpAnyG (P : Program) (md : Region.Mode) (ops : Array Oper) (Q : Exit → Act → World → Prop) (S : World → Prop) (x0 : Nat) : Nat → Array Bool → Act → World → Prop
  | 0, listed, a, w => Region.ready md ops listed = [] ∧ Q .normal a w
  | fuel + 1, listed, a, w =>
    (Region.ready md ops listed = [] → Q .normal a w) ∧
    ∀ i ∈ Region.ready md ops listed, wpOp P ops Q i (fun a' w' => ((listed.setIfInBounds i true).getD x0 true = false → S w') ∧ wpAnyG P md ops Q S x0 fuel (listed.setIfInBounds i true) a' w') a w
section
variable {P : Program} {md : Region.Mode} {ops : Array Oper} {Q : Exit → Act → World → Prop} {S : World → Prop} {x0 : Nat}
theorem wpAny_of_G : ∀ (fuel : Nat) (listed : Array Bool) (a : Act) (w : World), wpAnyG P md ops Q S x0 fuel listed a w → wpAny P md ops Q fuel listed a w
  | 0, _, _, _, h => h
  | fuel + 1, _, _, _, h => ⟨h.1, fun i hi => wpOp_mono (fun a' w' h' => wpAny_of_G fuel _ a' w' h'.2) (h.2 i hi)⟩
theorem wpAnyG_first {i : Nat} {oi : Oper} {v : Value} {S2 : World → Prop} (hi : ops[i]? = some oi) (hsel : ∀ (j : Nat) (o : Oper) cs b, ops[j]? = some o → o.op ≠ .select cs b)
    (hQ : ∀ c a w, Q (.panic c) (a.put oi.dst v) w → Q (.panic c) a w) (hix : i ≠ x0)
    (hS2 : ∀ (listed : Array Bool) (w : World), listed.getD i true = false → (listed.getD x0 true = false → S w) → (listed.getD x0 true = false ∨ ∀ w, S2 w) → S2 w) 
    (hkeep : (∀ w, S2 w) ∨ (∀ o, ops[x0]? = some o → ∃ e ∈ o.after, Region.binds md e = true ∧ e.on = i)) :
    ∀ (fuel : Nat) (listed : Array Bool) (a : Act) (w : World),
      (∀ j oj, ops[j]? = some oj → j ≠ i → listed.getD j true = false → (∀ e ∈ oj.after, Region.binds md e = true → e.on ≠ i) → oi.apart ops oj = true) →
      i ∈ Region.ready md ops listed → YieldsIf P ops S2 oi v a → (listed.getD x0 true = false → S w) → (listed.getD x0 true = false ∨ ∀ w, S2 w) →
      wpAnyG P md ops Q S x0 fuel (listed.setIfInBounds i true) (a.put oi.dst v) w → wpAnyG P md ops Q S x0 (fuel + 1) listed a w := by
  intro fuel
  have hgi : ∀ (listed : Array Bool), i ∈ Region.ready md ops listed → listed.getD i true = false := fun l h => (mem_ready.1 h).1
  have hself : ∀ (listed : Array Bool) (w : World), (listed.getD x0 true = false → S w) → ((listed.setIfInBounds i true).getD x0 true = false → S w) := fun l w h h2 => by
    by_cases e : i = x0
    · subst e
      refine h ?_
      by_cases hl : i < l.size
      · simp [hl] at h2
      · rw [show l.setIfInBounds i true = l from by simp [Array.setIfInBounds, hl]] at h2
        exact h2
    · rw [getD_set_ne true e] at h2
      exact h h2
  induction fuel with
  | zero =>
    intro listed a w _ hr hy hS hx H
    refine ⟨fun h => (by rw [h] at hr; cases hr), fun j hj => ?_⟩
    by_cases hji : j = i
    · subst hji; exact hy.wpOp hi (hS2 listed w (hgi listed hr) hS hx) ⟨hself listed w hS, H⟩
    · have := ready_mono hj hji
      rw [H.1] at this
      cases this
  | succ fuel ih =>
    intro listed a w hfree hr hy hS hx H
    refine ⟨fun h => (by rw [h] at hr; cases hr), fun j hj => ?_⟩
    by_cases hji : j = i
    · subst hji; exact hy.wpOp hi (hS2 listed w (hgi listed hr) hS hx) ⟨hself listed w hS, H⟩
    · have h1 := H.2 j (ready_mono hj hji)
      obtain ⟨hjun, oj, hoj, hall⟩ := mem_ready.1 hj
      have hnot : ∀ e ∈ oj.after, Region.binds md e = true → e.on ≠ i := fun e he hb heq => by
        have h1 := hall e he hb
        have h0 := (mem_ready.1 hr).1
        rw [heq] at h1
        rcases Nat.lt_or_ge i listed.size with h' | h'
        · simp [h'] at h0 h1; rw [h0] at h1; cases h1
        · simp [Array.getElem?_eq_none h'] at h1
      have h2 := wpOp_putIf hoj (hfree j oj hoj hji hjun hnot) (fun cs b => hsel i oi cs b hi) (fun cs b => hsel j oj cs b hoj) hQ hy h1
      have hfree' : ∀ k ok, ops[k]? = some ok → k ≠ i → (listed.setIfInBounds j true).getD k true = false →
          (∀ e ∈ ok.after, Region.binds md e = true → e.on ≠ i) → oi.apart ops ok = true := fun k ok hk hki hun hno => by
        refine hfree k ok hk hki ?_ hno
        by_cases hjk : j = k
        · subst hjk; exact hjun
        · rw [getD_set_ne true hjk] at hun; exact hun
      have hx' : (listed.setIfInBounds j true).getD x0 true = false ∨ ∀ w, S2 w := by
        rcases hx with hx | hx
        · rcases hkeep with hk | hk2
          · exact .inr hk
          · refine .inl ?_
            have hjx : j ≠ x0 := fun e => by
              subst e
              obtain ⟨e, he, hb, hon⟩ := hk2 oj hoj
              exact hnot e he hb hon
            rw [getD_set_ne true hjx]
            exact hx
        · exact .inr hx
      have hdown : ∀ (w' : World), (((listed.setIfInBounds i true).setIfInBounds j true).getD x0 true = false → S w') → ((listed.setIfInBounds j true).getD x0 true = false → S w') ∨ x0 = i := fun w' h => by
        by_cases e : i = x0
        · exact .inr e.symm
        · refine .inl fun h2 => h ?_
          rw [Array.setIfInBounds_comm _ _ (Ne.symm hji), getD_set_ne true e]
          exact h2
      refine wpOp_mono (fun a' w' h3 => ?_) h2
      have hSd : (listed.setIfInBounds j true).getD x0 true = false → S w' := by
        rcases hdown w' h3.2.1 with h | h
        · exact h
        · exact absurd h hix.symm
      refine ⟨hSd, ih (listed.setIfInBounds j true) a' w' hfree' (ready_mono hr (Ne.symm hji)) h3.1 hSd hx' ?_⟩
      rw [Array.setIfInBounds_comm _ _ hji]
      exact h3.2.2
/-- an operation that yields in any world -/
theorem wpAnyG_pure {i : Nat} {oi : Oper} {v : Value} {fuel : Nat} {listed : Array Bool} {a : Act} {w : World} (hi : ops[i]? = some oi)
    (hs : Region.noSelect ops = true) (hf : Region.free md ops listed i = true) (hr : (Region.ready md ops listed).contains i = true) (hx : decide (i ≠ x0) = true)
    (hQ : ∀ c a w, Q (.panic c) (a.put oi.dst v) w → Q (.panic c) a w) (hy : YieldsIf P ops (fun _ => True) oi v a) (hS : S w)
    (h : wpAnyG P md ops Q S x0 fuel (listed.setIfInBounds i true) (a.put oi.dst v) w) : wpAnyG P md ops Q S x0 (fuel + 1) listed a w :=
  wpAnyG_first (S2 := fun _ => True) hi (Region.noSelect_spec hs) hQ (of_decide_eq_true hx) (fun _ _ _ _ _ => trivial) (.inl fun _ => trivial) fuel listed a w (Region.free_spec hi hf) (by simpa using hr) hy (fun _ => hS) (.inr fun _ => trivial) h
def AllReadyG (P : Program) (md : Region.Mode) (ops : Array Oper) (Q : Exit → Act → World → Prop) (S : World → Prop) (x0 : Nat) (fuel : Nat) (listed : Array Bool) (a : Act) (w : World) (rs : List Nat) : Prop :=
  ∀ i ∈ rs, wpOp P ops Q i (fun a' w' => ((listed.setIfInBounds i true).getD x0 true = false → S w') ∧ wpAnyG P md ops Q S x0 fuel (listed.setIfInBounds i true) a' w') a w
theorem AllReadyG.nil {fuel : Nat} {listed : Array Bool} {a : Act} {w : World} : AllReadyG P md ops Q S x0 fuel listed a w [] := fun _ h => by cases h
theorem AllReadyG.cons {fuel : Nat} {listed : Array Bool} {a : Act} {w : World} {i : Nat} {o : Oper} {rs : List Nat} (ho : ops[i]? = some o)
    (h : ∀ K' : Act → World → Prop, Shut (∀ a w, ((listed.setIfInBounds i true).getD x0 true = false → S w) → wpAnyG P md ops Q S x0 fuel (listed.setIfInBounds i true) a w → K' a w) → if Region.wanted o (yielded ops a.tmps) = true then Oper.wp P o a w K' Q else K' (a.put o.dst undef) w)
    (hs : AllReadyG P md ops Q S x0 fuel listed a w rs) : AllReadyG P md ops Q S x0 fuel listed a w (i :: rs) := fun j hj => by
  rcases List.mem_cons.1 hj with rfl | hj
  · exact wpOp_step ho (fun K' hK => h K' (fun a w hS hW => hK a w ⟨hS, hW⟩))
  · exact hs j hj
theorem wpAnyG_ready {rs : List Nat} {fuel : Nat} {listed : Array Bool} {a : Act} {w : World} (hr : Region.ready md ops listed = rs) (hne : rs ≠ [])
    (h : AllReadyG P md ops Q S x0 fuel listed a w rs) : wpAnyG P md ops Q S x0 (fuel + 1) listed a w := ⟨fun h0 => absurd (hr ▸ h0) hne, hr ▸ h⟩
theorem wp_region_G (x0 : Nat) {id : Nat} {a : Act} {w : World} (hm : P.follows .mixedOrders = true)
    (h : wpAnyG P .any ops Q S x0 ops.size (Array.replicate ops.size false) a { w with drawn := w.drawn + 1 }) : (Code.region id ops true).wp P Q a w :=
  wp_region_any hm (wpAny_of_G _ _ _ _ h)
end
end Go.Proofs.YtbnpgkclnebnmaaGreat

namespace Go.Proofs.YtbnpgkclnebnmaaGreat
set_option linter.unusedSimpArgs false
set_option linter.unusedVariables false
open Go.RowKit Go.Maps

section
variable {P : Program} {md : Region.Mode} {ops : Array Oper} {Q : Exit → Act → World → Prop} {S : World → Prop} {x0 : Nat}
theorem wpAnyG_firstW {i : Nat} {oi : Oper} {v : Value} {S2 : World → Prop} (hi : ops[i]? = some oi) (hsel : ∀ (j : Nat) (o : Oper) cs b, ops[j]? = some o → o.op ≠ .select cs b)
    (hQ : ∀ c a w, Q (.panic c) (a.put oi.dst v) w → Q (.panic c) a w) (hix : i ≠ x0)
    (hS2 : ∀ (listed : Array Bool) (w : World), listed.getD i true = false → (listed.getD x0 true = false → S w) → (listed.getD x0 true = false ∨ ∀ w, S2 w) → S2 w) 
    (Wt : List Nat) (hxW : x0 ∈ Wt) (hWe : ∀ k ∈ Wt, ∀ o, ops[k]? = some o → ∃ e ∈ o.after, Region.binds md e = true ∧ (e.on = i ∨ e.on ∈ Wt)) :
    ∀ (fuel : Nat) (listed : Array Bool) (a : Act) (w : World),
      (∀ j oj, ops[j]? = some oj → j ≠ i → listed.getD j true = false → (∀ e ∈ oj.after, Region.binds md e = true → e.on ≠ i) → oi.apart ops oj = true) →
      i ∈ Region.ready md ops listed → YieldsIf P ops S2 oi v a → (listed.getD x0 true = false → S w) → (∀ k ∈ Wt, listed.getD k true = false) →
      wpAnyG P md ops Q S x0 fuel (listed.setIfInBounds i true) (a.put oi.dst v) w → wpAnyG P md ops Q S x0 (fuel + 1) listed a w := by
  intro fuel
  have hgi : ∀ (listed : Array Bool), i ∈ Region.ready md ops listed → listed.getD i true = false := fun l h => (mem_ready.1 h).1
  have hself : ∀ (listed : Array Bool) (w : World), (listed.getD x0 true = false → S w) → ((listed.setIfInBounds i true).getD x0 true = false → S w) := fun l w h h2 => by
    by_cases e : i = x0
    · subst e
      refine h ?_
      by_cases hl : i < l.size
      · simp [hl] at h2
      · rw [show l.setIfInBounds i true = l from by simp [Array.setIfInBounds, hl]] at h2
        exact h2
    · rw [getD_set_ne true e] at h2
      exact h h2
  induction fuel with
  | zero =>
    intro listed a w _ hr hy hS hx H
    refine ⟨fun h => (by rw [h] at hr; cases hr), fun j hj => ?_⟩
    by_cases hji : j = i
    · subst hji; exact hy.wpOp hi (hS2 listed w (hgi listed hr) hS (.inl (hx x0 hxW))) ⟨hself listed w hS, H⟩
    · have := ready_mono hj hji
      rw [H.1] at this
      cases this
  | succ fuel ih =>
    intro listed a w hfree hr hy hS hx H
    refine ⟨fun h => (by rw [h] at hr; cases hr), fun j hj => ?_⟩
    by_cases hji : j = i
    · subst hji; exact hy.wpOp hi (hS2 listed w (hgi listed hr) hS (.inl (hx x0 hxW))) ⟨hself listed w hS, H⟩
    · have h1 := H.2 j (ready_mono hj hji)
      obtain ⟨hjun, oj, hoj, hall⟩ := mem_ready.1 hj
      have hnot : ∀ e ∈ oj.after, Region.binds md e = true → e.on ≠ i := fun e he hb heq => by
        have h1 := hall e he hb
        have h0 := (mem_ready.1 hr).1
        rw [heq] at h1
        rcases Nat.lt_or_ge i listed.size with h' | h'
        · simp [h'] at h0 h1; rw [h0] at h1; cases h1
        · simp [Array.getElem?_eq_none h'] at h1
      have h2 := wpOp_putIf hoj (hfree j oj hoj hji hjun hnot) (fun cs b => hsel i oi cs b hi) (fun cs b => hsel j oj cs b hoj) hQ hy h1
      have hfree' : ∀ k ok, ops[k]? = some ok → k ≠ i → (listed.setIfInBounds j true).getD k true = false →
          (∀ e ∈ ok.after, Region.binds md e = true → e.on ≠ i) → oi.apart ops ok = true := fun k ok hk hki hun hno => by
        refine hfree k ok hk hki ?_ hno
        by_cases hjk : j = k
        · subst hjk; exact hjun
        · rw [getD_set_ne true hjk] at hun; exact hun
      have hnW : j ∉ Wt := fun hjW => by
        obtain ⟨e, he, hb, hon⟩ := hWe j hjW oj hoj
        have h1 := hall e he hb
        have h0 : listed.getD e.on true = false := by
          rcases hon with hon | hon
          · rw [hon]; exact (mem_ready.1 hr).1
          · exact hx e.on hon
        rcases Nat.lt_or_ge e.on listed.size with h' | h'
        · simp [h'] at h0 h1; rw [h0] at h1; cases h1
        · simp [Array.getElem?_eq_none h'] at h1
      have hx' : ∀ k ∈ Wt, (listed.setIfInBounds j true).getD k true = false := fun k hk => by
        rw [getD_set_ne true (fun e => hnW (by rw [e]; exact hk))]
        exact hx k hk
      have hdown : ∀ (w' : World), (((listed.setIfInBounds i true).setIfInBounds j true).getD x0 true = false → S w') → ((listed.setIfInBounds j true).getD x0 true = false → S w') ∨ x0 = i := fun w' h => by
        by_cases e : i = x0
        · exact .inr e.symm
        · refine .inl fun h2 => h ?_
          rw [Array.setIfInBounds_comm _ _ (Ne.symm hji), getD_set_ne true e]
          exact h2
      refine wpOp_mono (fun a' w' h3 => ?_) h2
      have hSd : (listed.setIfInBounds j true).getD x0 true = false → S w' := by
        rcases hdown w' h3.2.1 with h | h
        · exact h
        · exact absurd h hix.symm
      refine ⟨hSd, ih (listed.setIfInBounds j true) a' w' hfree' (ready_mono hr (Ne.symm hji)) h3.1 hSd hx' ?_⟩
      rw [Array.setIfInBounds_comm _ _ hji]
      exact h3.2.2
/-- each of W waits for i, or for another of W -/
def waitsW (md : Region.Mode) (ops : Array Oper) (W : List Nat) (i : Nat) : Bool := W.all fun k => (ops[k]?).all fun o => o.after.any fun e => Region.binds md e && (e.on == i || W.contains e.on)
theorem waitsW_spec {W : List Nat} {i : Nat} (h : waitsW md ops W i = true) : ∀ k ∈ W, ∀ o, ops[k]? = some o → ∃ e ∈ o.after, Region.binds md e = true ∧ (e.on = i ∨ e.on ∈ W) := by
  intro k hk o ho
  unfold waitsW at h
  rw [List.all_eq_true] at h
  have h := h k hk
  rw [ho] at h
  simp only [Option.all_some, Array.any_eq_true] at h
  obtain ⟨n, hn, hb⟩ := h
  simp only [Bool.and_eq_true, Bool.or_eq_true, beq_iff_eq, List.contains_iff_mem] at hb
  exact ⟨o.after[n], Array.getElem_mem hn, hb.1, hb.2⟩
theorem wpAnyG_takeW (W : List Nat) {i : Nat} {oi : Oper} {v : Value} {fuel : Nat} {listed : Array Bool} {a : Act} {w : World} (hi : ops[i]? = some oi)
    (hs : Region.noSelect ops = true) (hf : Region.free md ops listed i = true) (hr : (Region.ready md ops listed).contains i = true) (hx : (decide (i ≠ x0) && waitsW md ops W i && W.contains x0) = true) (hx0 : (W.all fun k => !listed.getD k true) = true)
    (hQ : ∀ c a w, Q (.panic c) (a.put oi.dst v) w → Q (.panic c) a w) (hy : YieldsIf P ops S oi v a) (hS : S w)
    (h : wpAnyG P md ops Q S x0 fuel (listed.setIfInBounds i true) (a.put oi.dst v) w) : wpAnyG P md ops Q S x0 (fuel + 1) listed a w := by
  rw [Bool.and_eq_true, Bool.and_eq_true, decide_eq_true_eq, List.contains_iff_mem] at hx
  rw [List.all_eq_true] at hx0
  have hun : ∀ k ∈ W, listed.getD k true = false := fun k hk => by simpa using hx0 k hk
  exact wpAnyG_firstW (S2 := S) hi (Region.noSelect_spec hs) hQ hx.1.1 (fun l w _ h1 h2 => h2.elim h1 fun h => h w) W hx.2 (waitsW_spec hx.1.2) fuel listed a w (Region.free_spec hi hf) (by simpa using hr) hy (fun _ => hS) hun h
theorem getD_set_true (l : Array Bool) (i k : Nat) (h : l.getD k true = true) : (l.setIfInBounds i true).getD k true = true := by
  by_cases e : i = k
  · subst e
    by_cases hl : i < l.size
    · simp [hl]
    · simp [hl]
  · rw [getD_set_ne true e]
    exact h
/-- behind that operation: as if nothing were held -/
theorem wpAnyG_past : ∀ (fuel : Nat) (listed : Array Bool) (a : Act) (w : World), listed.getD x0 true = true → wpAnyH P md ops Q (fun _ => True) fuel listed a w → wpAnyG P md ops Q S x0 fuel listed a w
  | 0, _, _, _, _, h => h
  | fuel + 1, listed, a, w, hl, h => by
    refine ⟨h.1, fun i hi => wpOp_mono (fun a' w' h' => ?_) (h.2 i hi)⟩
    have ht := getD_set_true listed i x0 hl
    refine ⟨fun hf => ?_, wpAnyG_past fuel _ a' w' ht h'.2⟩
    rw [ht] at hf
    cases hf
end
end Go.Proofs.YtbnpgkclnebnmaaGreat
