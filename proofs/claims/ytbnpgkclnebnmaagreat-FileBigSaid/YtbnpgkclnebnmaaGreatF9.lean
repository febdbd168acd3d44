import Derived.Test.YtbnpgkclnebnmaaGreatF8
/- Files: lay: the blocks on a way to a block. -/
namespace Go.Proofs.YtbnpgkclnebnmaaGreat
set_option linter.unusedSimpArgs false
set_option linter.unusedVariables false
open Go.RowKit Go.Maps

/-- the slots on the way to a slot, itself the last -/
def lenC (c : Nat) : Nat := if c < 6 then 0 else if c < 38 then 1 else 2
def chS (c i : Nat) : Nat := if i = lenC c then c else if i + 1 = lenC c then parS c else 2001
theorem chS_last (c : Nat) : chS c (lenC c) = c := if_pos rfl
theorem chS_ok (c : Nat) (hc : c < 256) (i : Nat) (hi : i ≤ lenC c) : okS (chS c i) = true ∧ (isR (chS c i) = true ∨ (1 ≤ i ∧ parS (chS c i) = chS c (i - 1))) := by
  have hl : c < 6 ∧ lenC c = 0 ∨ 6 ≤ c ∧ c < 38 ∧ lenC c = 1 ∨ 38 ≤ c ∧ lenC c = 2 := by
    unfold lenC
    split
    · omega
    · split <;> omega
  rcases hl with ⟨h, e⟩ | ⟨h, h', e⟩ | ⟨h, e⟩
  · obtain rfl : i = 0 := by omega
    unfold chS
    rw [e]
    exact ⟨(okS_iff _).2 (by simp; omega), .inl ((isR_iff _).2 (by simp; omega))⟩
  · have hp : parS c = 2000 := by unfold parS; rw [if_pos h']
    have hi2 : i = 0 ∨ i = 1 := by omega
    rcases hi2 with rfl | rfl
    · have : chS c 0 = 2000 := by unfold chS; rw [e, if_neg (by decide), if_pos rfl, hp]
      rw [this]
      exact ⟨rfl, .inl rfl⟩
    · have h1 : chS c 1 = c := by unfold chS; rw [e, if_pos rfl]
      have h0 : chS c (1 - 1) = 2000 := by unfold chS; rw [e, if_neg (by decide), if_pos rfl, hp]
      rw [h1, h0, hp]
      exact ⟨(okS_iff _).2 (by omega), .inr ⟨by decide, rfl⟩⟩
  · have hp : parS c = 2002 + (c - 38) / 32 := by unfold parS; rw [if_neg (by omega), if_pos (by omega)]
    have hi2 : i = 0 ∨ i = 1 ∨ i = 2 := by omega
    have h2 : chS c 2 = c := by unfold chS; rw [e, if_pos rfl]
    have h1 : chS c 1 = 2002 + (c - 38) / 32 := by unfold chS; rw [e, if_neg (by decide), if_pos rfl, hp]
    have h0 : chS c 0 = 2001 := by unfold chS; rw [e, if_neg (by decide), if_neg (by decide)]
    rcases hi2 with rfl | rfl | rfl
    · rw [h0]
      exact ⟨rfl, .inl rfl⟩
    · rw [h1, show 1 - 1 = 0 from rfl, h0]
      refine ⟨(okS_iff _).2 (by omega), .inr ⟨by decide, ?_⟩⟩
      unfold parS
      rw [if_neg (by omega), if_neg (by omega)]
    · rw [h2, show 2 - 1 = 1 from rfl, h1, hp]
      exact ⟨(okS_iff _).2 (by omega), .inr ⟨by decide, rfl⟩⟩
theorem wyS_steps (c : Nat) (hc : c < 256) (W : World) : Calls Tryz.prog 118 #[wyS c] W fun e w' => e = .returned (.int .i64 (lenC c + 1)) ∧ Below W.heap.size W w' := by
  by_cases h6 : c < 6
  · have hr : isR c = true := (isR_iff c).2 (.inl h6)
    have hw := wy_root c hr
    have e : lenC c = 0 := by unfold lenC; rw [if_pos h6]
    unfold wyS
    rw [hw.2.1, hw.2.2, e]
    exact steps1 _ (by omega) W
  · have hr : isR c = false := (isR_no c).2 (by omega)
    have ho : okS c = true := (okS_iff c).2 (by omega)
    by_cases h3 : 38 ≤ c ∧ c < 1062
    · obtain ⟨e1, e2, e3, -, -⟩ := wy_three c h3
      have e : lenC c = 2 := by unfold lenC; rw [if_neg h6, if_neg (by omega)]
      unfold wyS
      rw [e1, e2, e3, e]
      exact steps3 _ _ _ (by decide) (by omega) (by omega) W
    · obtain ⟨e1, e2, e3, hpr⟩ := wy_two c ho hr h3
      have e : lenC c = 1 := by unfold lenC; rw [if_neg h6, if_pos (by omega)]
      have := (wy_root _ hpr).1
      unfold wyS
      rw [e2, e3, e]
      exact steps2 _ _ (by omega) (by omega) W
theorem wyS_first (c : Nat) (hc : c < 256) (i : Nat) (hi : i ≤ lenC c) (W : World) : Calls Tryz.prog 129 #[wyS c, .int .i64 (i + 1)] W fun e w' => e = .returned (wyS (chS c i)) ∧ Below W.heap.size W w' := by
  by_cases h6 : c < 6
  · have hr : isR c = true := (isR_iff c).2 (.inl h6)
    have hw := wy_root c hr
    have e : lenC c = 0 := by unfold lenC; rw [if_pos h6]
    obtain rfl : i = 0 := by omega
    have h0 : chS c 0 = c := by unfold chS; rw [e, if_pos rfl]
    rw [h0]
    unfold wyS
    rw [hw.2.1, hw.2.2]
    exact first1 _ _ _ W
  · have hr : isR c = false := (isR_no c).2 (by omega)
    have ho : okS c = true := (okS_iff c).2 (by omega)
    by_cases h3 : 38 ≤ c ∧ c < 1062
    · obtain ⟨e1, e2, e3, hp, -⟩ := wy_three c h3
      have e : lenC c = 2 := by unfold lenC; rw [if_neg h6, if_neg (by omega)]
      have hi2 : i = 0 ∨ i = 1 ∨ i = 2 := by omega
      rcases hi2 with rfl | rfl | rfl
      · have h0 : chS c 0 = 2001 := by unfold chS; rw [e, if_neg (by decide), if_neg (by decide)]
        rw [h0]
        have := first1 (wy1 c) (wy2 c) (wy3 c) W
        rw [e1] at this
        unfold wyS
        rw [e1]
        exact this
      · have h1 : chS c 1 = parS c := by unfold chS; rw [e, if_neg (by decide), if_pos rfl]
        rw [h1, wy_par3 c h3]
        have := first2 (wy1 c) (wy2 c) (wy3 c) W
        rw [e1, e2] at this
        unfold wyS
        rw [e1, e2]
        exact this
      · have h2 : chS c 2 = c := by unfold chS; rw [e, if_pos rfl]
        rw [h2]
        exact first3 _ _ _ W
    · obtain ⟨e1, e2, e3, hpr⟩ := wy_two c ho hr h3
      have e : lenC c = 1 := by unfold lenC; rw [if_neg h6, if_pos (by omega)]
      have hwr := wy_root _ hpr
      have hi2 : i = 0 ∨ i = 1 := by omega
      rcases hi2 with rfl | rfl
      · have h0 : chS c 0 = parS c := by unfold chS; rw [e, if_neg (by decide), if_pos rfl]
        rw [h0]
        have := first1 (wy1 c) (wy2 c) (wy3 c) W
        unfold wyS
        rw [hwr.2.1, hwr.2.2, ← e1]
        exact this
      · have h1 : chS c 1 = c := by unfold chS; rw [e, if_pos rfl]
        rw [h1]
        have := first2 (wy1 c) (wy2 c) (wy3 c) W
        unfold wyS
        rw [e3]
        rw [e3] at this
        exact this
theorem Fi.congr {DA NB : Nat} {Y Y' : Nat → Nat → Int} {f : Nat → Int} {S : Nat → Bool} {b : Nat → Nat} (h : Fi DA NB Y f S b) (hy : ∀ c, S c = true → 2000 ≤ c → Y' (DA + (b c - 1)) = Y (DA + (b c - 1))) : Fi DA NB Y' f S b :=
  ⟨h.ok, h.root, fun c ho hr hp => by
    rw [hy _ hp (parS_ok c ho hr).2.1]
    exact h.wrd c ho hr hp, h.cl, h.rng, h.inj⟩
/-- point, whether the slot is a node's own or not -/
theorem fpoint_any (b q p t m d gg lab B0 P0 M DA NB N K : Nat) (ln : Lm) (g : Cf.Ge) (Y : Nat → Nat → Int) (f : Nat → Int) (S : Nat → Bool) (B : Nat → Nat) (hF : Fi DA NB Y f S B) (c x : Nat) (ho : okS c = true) (hx : x < 65536) (hr : isR c = true ∨ S (parS c) = true) (hT : isR c = false → Has ln (DA + (B (parS c) - 1)))
    (hK : K < 600000000) (hg : GG g B0 P0 M DA NB N) (w : World) (h : Bo w w b q p t m d gg lab g B0 NB N ln Y K f) :
    Calls Tryz.prog 130 #[.pointer (some ⟨b, 0, none⟩), wyS c, .int .u16 x] w fun e w' => e = .returned (.int .i64 0) ∧ Bo w w' b q p t m d gg lab g B0 NB N ln (addY DA Y B c x) (K + 3) (addF f c x) := by
  cases hc : isR c
  · have hf : addF f c x = f := if_neg (by rw [hc]; decide)
    rw [hf]
    exact point_in (ln := ln) b q p t m d gg lab B0 P0 M DA NB N K g Y f S B hF c x ho hc (hr.resolve_left (by rw [hc]; decide)) hx (hT hc) hK hg w h
  · refine (point_root (ln := ln) b q p t m d gg lab B0 P0 M DA NB N K g Y f c x hc hx w h).mono ?_
    rintro e w' ⟨he, hB⟩
    have hY : addY DA Y B c x = Y := if_pos hc
    rw [hY]
    exact ⟨he, hB.mono (Lm.le_refl _) (by omega)⟩
/-- where a node's blocks stand: what it has, that its bits are set -/
structure Fu (B0 DA NB : Nat) (Y : Nat → Nat → Int) (f : Nat → Int) (S : Nat → Bool) (b : Nat → Nat) : Prop where
  fi : Fi DA NB Y f S b
  us : ∀ c, S c = true → bt Y B0 (b c - 1) = true
/-- from one state to a later one, of a body in its group -/
structure Ly (B0 TB DA NB : Nat) (L : List Nat) (D : Nat → Nat → Int) (Y0 : Nat → Nat → Int) (S0 : Nat → Bool) (b0 : Nat → Nat) (Y : Nat → Nat → Int) (f : Nat → Int) (S : Nat → Bool) (b : Nat → Nat) : Prop where
  fu : Fu B0 DA NB Y f S b
  ex : Ex B0 DA NB Y0 S0 b0 Y S b
theorem Ly.len (L : List Nat) (hL : L.length ≤ 28) (B0 TB DA : Nat) (b : Nat → Nat) (S : Nat → Bool) : (dl B0 TB DA b S L).length ≤ 30 := Nat.le_trans (dl_len B0 TB DA b S L) (by omega)
set_option maxHeartbeats 40000000 in
set_option maxRecDepth 100000 in
theorem lay_any (b q p t m d gg lab B0 P0 M DA NB N K TB : Nat) (g : Cf.Ge) (Y0 : Nat → Nat → Int) (f0 : Nat → Int) (S0 : Nat → Bool) (b0 : Nat → Nat) (L : List Nat) (D : Nat → Nat → Int) (hL : L.length ≤ 28) (hFu : Fu B0 DA NB Y0 f0 S0 b0) (c : Nat) (hc : c < 256) (hcL : ∀ i, i ≤ lenC c → chS c i ∈ L)
    (hK : K < 400000000) (hg : GG g B0 P0 M DA NB N) (w : World) (h : Bo w w b q p t m d gg lab g B0 NB N ⟨dl B0 TB DA b0 S0 L, D⟩ Y0 K f0) :
    Calls Tryz.prog 110 #[.pointer (some ⟨b, 0, none⟩), wyS c] w fun e w' =>
      (∃ Y f S B, e = .returned (.tuple #[.int .u16 (B c), .int .i64 0]) ∧ Bo w w' b q p t m d gg lab g B0 NB N ⟨dl B0 TB DA B S L, D⟩ Y (K + 1000) f ∧ Ly B0 TB DA NB L D Y0 S0 b0 Y f S B ∧ (∀ c', S c' = true ↔ S0 c' = true ∨ ∃ i, i ≤ lenC c ∧ c' = chS c i) ∧ (∀ i, i < 4 → f i = f0 i)) ∨
      (∃ Y f S B, e = .returned (.tuple #[.int .u16 0, .int .i64 10]) ∧ Bo w w' b q p t m d gg lab g B0 NB N ⟨dl B0 TB DA B S L, D⟩ Y (K + 1000) f ∧ Ly B0 TB DA NB L D Y0 S0 b0 Y f S B ∧ (∀ c', S c' = true → S0 c' = true ∨ ∃ i, i ≤ lenC c ∧ c' = chS c i) ∧ (∀ j, j < NB → bt Y B0 j = true) ∧ ∃ i, i ≤ lenC c ∧ S (chS c i) = false) := by
  have hn2 : lenC c ≤ 2 := by
    unfold lenC
    split
    · decide
    · split <;> decide
  have HST := Lib.hid (fun W => wyS_steps c hc W)
  have HFI := Lib.hid (fun i hi W => wyS_first c hc i hi W)
  have HOK := Lib.hid (fun i hi => chS_ok c hc i hi)
  have HLA := Lib.hid (chS_last c)
  have HB := Lib.hid h
  have HF0 := Lib.hid hFu
  have HG := Lib.hid hg
  have HCL := Lib.hid hcL
  have hN5 := hg.n512
  have hD : B0 < DA := by have := hg.bp; have := hg.pd; omega
  have HTA := Lib.hid (fun (ln : Lm) (K : Nat) (Y : Nat → Nat → Int) (i : Nat) hi hF hT hT2 hK W hW => gtake7 (ln := ln) q p t m d gg lab B0 P0 M DA NB N K g Y i ((i + 1 : Nat) : Int) (by omega) hi hF hT hT2 hK hg W hW)
  have HTN := Lib.hid (fun (ln : Lm) (K : Nat) (Y : Nat → Nat → Int) hF hK W hW => gtake_none (ln := ln) q p t m d gg lab B0 P0 M DA NB N K g Y hF hK hg W hW)
  obtain ⟨n, hn⟩ : ∃ n, lenC c = n := ⟨_, rfl⟩
  rw [hn] at HST HFI HOK HLA hn2 HCL ⊢
  obtain ⟨dW, hu, hd⟩ := Tryz.descWy
  have HU := Lib.hid hu
  have HD := Lib.hid hd
  obtain ⟨va, vb, vc, hwv⟩ : ∃ x y z : Int, wyS c = .agg (wyc x y z).toArray := ⟨_, _, _, rfl⟩
  rw [hwv] at HST HFI ⊢
  obtain ⟨ch, hch⟩ : ∃ ch, chS c = ch := ⟨_, rfl⟩
  rw [hch] at HFI HOK HLA HCL ⊢
  clear hu hd h hFu hg hcL hn hwv hc hch
  go_enter Tryz.func110, Tryz.ntmps110
  go_upto_region 1 with (first | (refine wpList_box_list (w := w) rfl 181 _ rfl (wyc va vb vc) rfl ?_; intro w1 F1 hb1 hz1; have HQ1 := Lib.hid hb1; clear hb1))
  obtain ⟨bW, hbW⟩ : ∃ x, w.heap.size = x := ⟨_, rfl⟩
  have HB1 := Lib.hid (HB.out.keep HQ1.out)
  have hW0 : w.heap.size ≤ bW := Nat.le_of_eq hbW
  rw [hbW] at F1
  try rw [hbW]
  clear hz1 HQ1 HB hbW
  have HR1 := Lib.hid F1.out.range0
  go_wp2_with (refine wpList_load_mid rfl 181 _ rfl bW 0 rfl (wyc va vb vc) dW HR1.out HU.out HD.out (sizeWy _ _ _) ?_)
  refine (HST.out w1).mono ?_
  rintro e w2 ⟨rfl, hb⟩
  have HB2 := Lib.hid (HB1.out.keep hb)
  have F2 := Lib.hid (F1.out.keep hb)
  clear hb HST HR1 F1 HB1
  have hn0 : (0 : Int) ≤ n := by omega
  have hn3 : (n : Int) ≤ 2 := by omega
  go_wp2_with fail
  go_loopw [6, 7, 8, 9, 10, 13] (fun v _ _ _ _ i wr => ∃ k : Nat, k ≤ n + 1 ∧ i = .int .i64 k ∧ ∃ x : Nat, v = .int .u16 x ∧ (∃ Y f S B, (1 ≤ k → x = B (ch (k - 1))) ∧ Bo w wr b q p t m d gg lab g B0 NB N ⟨dl B0 TB DA B S L, D⟩ Y (K + 300 * k) f ∧ Ly B0 TB DA NB L D Y0 S0 b0 Y f S B ∧ (∀ j, j < k → S (ch j) = true) ∧ (∀ c', S c' = true → S0 c' = true ∨ ∃ j, j < k ∧ c' = ch j) ∧ (∀ i, i < 4 → f i = f0 i)) ∧ Vl wr bW (wyc va vb vc)) (fun _ _ _ _ _ i _ => n + 1 - (Go.RowKit.intOf i).toNat)
  case atStart => exact ⟨0, Nat.zero_le _, rfl, 0, rfl, ⟨Y0, f0, S0, b0, fun h => absurd h (by decide), HB2.out, ⟨HF0.out, Ex.refl _ _ _ _ _ _⟩, fun j hj => absurd hj (Nat.not_lt_zero j), fun c' h => .inl h, fun _ _ => rfl⟩, F2.out⟩
  case round =>
    obtain ⟨k, hk, rfl, x, rfl, ⟨Y, f, S, B, hx, hB, hLy, hS, hSc, hf4⟩, hF⟩ := hrel
    have HX := Lib.hid hx
    have HBr := Lib.hid hB
    have HLy := Lib.hid hLy
    have HS := Lib.hid hS
    have HSc := Lib.hid hSc
    have Hf4 := Lib.hid hf4
    have HFr := Lib.hid hF
    clear hx hB hLy hS hSc hf4 hF HB2 F2
    by_cases hlt : k < n + 1
    · have hk0 : (0 : Int) ≤ k := by omega
      have hkk : (k : Int) < (n : Int) + 1 := by omega
      have hk2 : (k : Int) ≤ 2 := by omega
      have hkn : k ≤ n := by omega
      obtain ⟨hok, hpar⟩ := HOK.out k hkn
      have hparS : isR (ch k) = true ∨ S (parS (ch k)) = true := hpar.imp id fun hh => by
        rw [hh.2]
        exact HS.out (k - 1) (by omega)
      have HFk := Lib.hid (HFI.out k hkn)
      have HAt := Lib.hid (fun W hW => at_slot (ln := ⟨dl B0 TB DA B S L, D⟩) b q p t m d gg lab B0 P0 M DA NB N (K + 300 * k) g Y f S B HLy.out.fu.fi (ch k) hok (by omega) HG.out W hW)
      have HPt := Lib.hid (fun ln Y1 xx K' hF hT hx hK' W hW => fpoint_any b q p t m d gg lab B0 P0 M DA NB N K' ln g Y1 f S B hF (ch k) xx hok hx hparS hT hK' HG.out W hW)
      obtain ⟨pa, pb, pc, hpw⟩ : ∃ x y z : Int, wyS (ch k) = .agg (wyc x y z).toArray := ⟨_, _, _, rfl⟩
      rw [hpw] at HFk HAt HPt
      have hr2 := HFr.out.range0
      have HR2 := Lib.hid hr2
      have HOKk := Lib.hid hok
      have HPAR := Lib.hid hpar
      have HPS := Lib.hid hparS
      clear hpw hr2 hok hpar hparS
      go_wp2_with (refine wpList_load_mid rfl 181 _ rfl bW 0 rfl (wyc va vb vc) dW HR2.out HU.out HD.out (sizeWy _ _ _) ?_)
      refine (HFk.out wr).mono ?_
      rintro e w3 ⟨rfl, hb⟩
      have HB3 := Lib.hid (HBr.out.keep hb)
      have F3 := Lib.hid (HFr.out.keep hb)
      have hs3 : w.heap.size ≤ w3.heap.size := HB3.out.kf.size
      clear hb HFk HR2 HBr HFr
      go_upto_region 6 with (first | (refine wpList_alloc_list (w := w3) rfl 181 rfl (wyc 0 0 0) Tryz.zeroWy ?_; intro w4 F4 hb4 hz4; simp only [Act.put, List.getElem_toArray, List.getElem_cons_zero, List.getElem_cons_succ, List.setIfInBounds_toArray, List.set_cons_zero, List.set_cons_succ]; refine wpList_store_list rfl 181 (.tmp 8) (.tmp 19) rfl w3.heap.size (wyc 0 0 0) (wyc pa pb pc) rfl rfl F4.out rfl (sizeWy _ _ _) (wyc_one _ _ _) ?_; intro w5 F5 HK5; have HQ4 := Lib.hid hb4; clear hb4 F4))
      obtain ⟨bP, hbP⟩ : ∃ x, w3.heap.size = x := ⟨_, rfl⟩
      have hP0 : w.heap.size ≤ bP := by omega
      have hF3l := F3.out.lt
      have HB5 := Lib.hid ((HB3.out.keep HQ4.out).new HK5.out (by omega))
      have G5 := Lib.hid ((F3.out.keep HQ4.out).kp HK5.out (by omega) (by omega))
      rw [hbP] at F5 hF3l
      try rw [hbP]
      clear HK5 HQ4 HB3 F3 hbP hz4 hs3
      have HR5 := Lib.hid F5.out.range0
      go_wp2_with (refine wpList_load_mid rfl 181 _ rfl bP 0 rfl (wyc pa pb pc) dW HR5.out HU.out HD.out (sizeWy _ _ _) ?_)
      refine (HAt.out w5 HB5.out.self).mono ?_
      rintro e w6 ⟨rfl, hB6⟩
      have HB6 := Lib.hid (HB5.out.trans hB6)
      have hnW : bW ∉ [b, q, p, t, m, d, gg] := HB5.out.nin hW0
      have hnP : bP ∉ [b, q, p, t, m, d, gg] := HB5.out.nin hP0
      have HNW : Hid (bW ∉ [t, m, d, gg, b]) := Lib.hid (by simp only [List.mem_cons, List.not_mem_nil, or_false, not_or] at hnW ⊢; omega)
      have HNP : Hid (bP ∉ [t, m, d, gg, b]) := Lib.hid (by simp only [List.mem_cons, List.not_mem_nil, or_false, not_or] at hnP ⊢; omega)
      have HNW4 : Hid (bW ∉ [t, m, d, gg]) := Lib.hid (by simp only [List.mem_cons, List.not_mem_nil, or_false, not_or] at hnW ⊢; omega)
      have HNP4 : Hid (bP ∉ [t, m, d, gg]) := Lib.hid (by simp only [List.mem_cons, List.not_mem_nil, or_false, not_or] at hnP ⊢; omega)
      have G6 := Lib.hid (G5.out.kf hB6.kf HNW.out)
      have F6 := Lib.hid (F5.out.kf hB6.kf HNP.out)
      clear hB6 HAt HB5 G5 F5 HR5 hnW hnP
      cases hsc : S (ch k)
      · -- it lacks
        have hv : vS S B (ch k) = 0 := by unfold vS; rw [hsc]; rfl
        rw [hv]
        have HSC := Lib.hid hsc
        clear hv hsc
        have hqe := HB6.out.bd.c 0 _ rfl
        rcases least_free (bt Y B0) NB with hall | ⟨i, hi, hfree, hlow⟩
        · have HT := Lib.hid (HTN.out ⟨dl B0 TB DA B S L, D⟩ (K + 300 * k + 2) Y hall (by omega))
          have HAll := Lib.hid hall
          clear hall
          go_wp2_with fail
          refine (HT.out w6 HB6.out.gr).mono ?_
          rintro e w7 ⟨rfl, hG, hkk7⟩
          have HB7 := Lib.hid (HB6.out.call hG hkk7)
          clear hG hkk7 HT HB6 hqe
          go_wp2_with fail
          go_ret2
          exact .inr ⟨Y, f, S, B, rfl, HB7.out.mono (Lm.le_refl _) (by omega), HLy.out, fun c' hc' => (HSc.out c' hc').imp id fun ⟨j, hj, e⟩ => ⟨j, by omega, e⟩, HAll.out, k, hkn, HSC.out⟩
        · obtain ⟨Y1, hY1⟩ : ∃ Y1, vput (DA + i) (fun _ => 0) (setV Y B0 i true) = Y1 := ⟨_, rfl⟩
          have hadd := add_ex HLy.out.fu.fi HB6.out.gr.rd.vb hD (ch k) HOKk.out HSC.out HPS.out i hi hN5 hfree HLy.out.fu.us Y1 hY1
          have hle : Lm.Le ⟨dl B0 TB DA B S L, D⟩ ⟨dl B0 TB DA (addB B (ch k) (i + 1)) (addN S (ch k)) L, D⟩ := dl_le L D hadd.2.1.n hadd.2.1.b
          have hmem : DA + i ∈ dl B0 TB DA (addB B (ch k) (i + 1)) (addN S (ch k)) L := by
            have := dl_mem B0 TB DA (addB B (ch k) (i + 1)) (addN S (ch k)) L (ch k) (okS_lt HOKk.out) (HCL.out k hkn) (addN_self S _)
            rwa [addB_self, show i + 1 - 1 = i by omega] at this
          have hlen := Ly.len L hL B0 TB DA (addB B (ch k) (i + 1)) (addN S (ch k))
          have hT := HTA.out ⟨dl B0 TB DA (addB B (ch k) (i + 1)) (addN S (ch k)) L, D⟩ (K + 300 * k + 2) Y i hi (fr_of hi hfree hlow) ⟨List.mem_cons_self .., hlen⟩ ⟨hmem, hlen⟩ (by omega)
          rw [hY1] at hT
          have HT := Lib.hid hT
          have hFi1 : Fi DA NB Y1 f S B := HLy.out.fu.fi.congr fun c' hc' _ => by
            have hne : B c' ≠ i + 1 := fun he => by
              have := HLy.out.fu.us c' hc'
              rw [he, show i + 1 - 1 = i by omega, hfree] at this
              cases this
            have hr := HLy.out.fu.fi.rng c' hc'
            rw [← hY1, vput_ne _ _ (by omega), setV_ne _ _ _ _ (by omega)]
          have hTp : isR (ch k) = false → Has ⟨dl B0 TB DA (addB B (ch k) (i + 1)) (addN S (ch k)) L, D⟩ (DA + (B (parS (ch k)) - 1)) := fun hr => by
            have hp := HPAR.out.resolve_left (by rw [hr]; decide)
            have hps := HPS.out.resolve_left (by rw [hr]; decide)
            have hne : parS (ch k) ≠ ch k := (parS_ok _ HOKk.out hr).2.2
            have := dl_mem B0 TB DA (addB B (ch k) (i + 1)) (addN S (ch k)) L (parS (ch k)) (okS_lt (parS_ok _ HOKk.out hr).1) (by rw [hp.2]; exact HCL.out (k - 1) (by omega)) (addN_old S _ hps)
            rw [addB_ne B _ hne] at this
            exact ⟨this, hlen⟩
          have HPn := Lib.hid (HPt.out ⟨dl B0 TB DA (addB B (ch k) (i + 1)) (addN S (ch k)) L, D⟩ Y1 (i + 1) (K + 300 * k + 2 + 201) hFi1 hTp (by omega) (by omega))
          have HLe := Lib.hid hle
          have HAdd := Lib.hid hadd
          obtain ⟨xi, hxi⟩ : ∃ z : Int, ((i + 1 : Nat) : Int) = z := ⟨_, rfl⟩
          rw [hxi] at HT HPn
          have HXI := Lib.hid hxi
          have hx0 : ¬ xi = 0 := by omega
          clear hadd hle hmem hlen hT hFi1 hTp hxi hfree hlow hY1
          go_wp2_with fail
          refine (HT.out w6 (HB6.out.mono HLe.out (Nat.le_refl _)).gr).mono ?_
          rintro e w7 ⟨rfl, hG, hkk7⟩
          have HB7 := Lib.hid ((HB6.out.mono HLe.out (Nat.le_refl _)).call hG hkk7)
          have G7 := Lib.hid (G6.out.kf hkk7 HNW4.out)
          have F7 := Lib.hid (F6.out.kf hkk7 HNP4.out)
          clear hG hkk7 HT HB6 hqe G6 F6
          have HR7 := Lib.hid F7.out.range0
          go_wp2_with (refine wpList_load_mid rfl 181 _ rfl bP 0 rfl (wyc pa pb pc) dW HR7.out HU.out HD.out (sizeWy _ _ _) ?_)
          refine (HPn.out w7 HB7.out.self).mono ?_
          rintro e w8 ⟨rfl, hB8⟩
          have HB8 := Lib.hid (HB7.out.trans hB8)
          have G8 := Lib.hid (G7.out.kf hB8.kf HNW.out)
          clear hB8 HPn HB7 G7 F7 HR7
          go_wp2_with fail
          go_roundw
          case rel =>
            refine ⟨k + 1, by omega, by go_num, i + 1, by rw [HXI.out], ⟨_, _, _, _, fun _ => ?_, HB8.out.mono (Lm.le_refl _) (by omega), ⟨⟨HAdd.out.1, HAdd.out.2.2⟩, HLy.out.ex.trans hD HAdd.out.2.1 HAdd.out.1.rng HAdd.out.1.inj⟩, fun j hj => ?_, fun c' hc' => ?_, fun j hj => ?_⟩, G8.out⟩
            · rw [show k + 1 - 1 = k by omega, addB_self]
            · by_cases e : j = k
              · rw [e]
                exact addN_self S _
              · exact addN_old S _ (HS.out j (by omega))
            · rcases addN_of S hc' with rfl | hc'
              · exact .inr ⟨k, by omega, rfl⟩
              · exact (HSc.out c' hc').imp id fun ⟨j, hj, e⟩ => ⟨j, by omega, e⟩
            · unfold addF
              split
              · rename_i hcr
                have := (rtI_lt _ hcr).1
                show (if j = rtI (ch k) then _ else f j) = f0 j
                rw [if_neg (by omega)]
                exact Hf4.out j hj
              · exact Hf4.out j hj
          case measure => simp [Go.RowKit.intOf]; omega
      · have hv : vS S B (ch k) = B (ch k) := by unfold vS; rw [hsc]; rfl
        have hpos := (HLy.out.fu.fi.rng _ hsc).1
        rw [hv]
        have HSC := Lib.hid hsc
        obtain ⟨y, hy⟩ : ∃ y, B (ch k) = y := ⟨_, rfl⟩
        rw [hy] at hpos ⊢
        have HY := Lib.hid hy
        obtain ⟨yi, hyi⟩ : ∃ z : Int, (y : Int) = z := ⟨_, rfl⟩
        have hy0 : 0 < yi := by omega
        rw [hyi]
        have HYI := Lib.hid hyi
        clear hv hsc hy hyi hpos
        go_wp2_with fail
        go_roundw
        case rel =>
          refine ⟨k + 1, by omega, by go_num, y, by rw [HYI.out], ⟨Y, f, S, B, fun _ => ?_, HB6.out.mono (Lm.le_refl _) (by omega), HLy.out, fun j hj => ?_, fun c' hc' => (HSc.out c' hc').imp id fun ⟨j, hj, e⟩ => ⟨j, by omega, e⟩, Hf4.out⟩, G6.out⟩
          · rw [show k + 1 - 1 = k by omega]
            exact HY.out.symm
          · by_cases e : j = k
            · rw [e]
              exact HSC.out
            · exact HS.out j (by omega)
        case measure => simp [Go.RowKit.intOf]; omega
    · obtain rfl : k = n + 1 := by omega
      go_wp2_with fail
      go_ret2
      refine .inl ⟨Y, f, S, B, ?_, HBr.out.mono (Lm.le_refl _) (by omega), HLy.out, fun c' => ⟨fun hc' => (HSc.out c' hc').imp id fun ⟨j, hj, e⟩ => ⟨j, by omega, e⟩, fun hc' => ?_⟩, Hf4.out⟩
      · have := HX.out (by omega)
        rw [show n + 1 - 1 = n by omega, HLA.out] at this
        rw [this]
        rfl
      · rcases hc' with hc' | ⟨j, hj, rfl⟩
        · exact HLy.out.ex.n c' hc'
        · exact HS.out j (by omega)
end Go.Proofs.YtbnpgkclnebnmaaGreat
