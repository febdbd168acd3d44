import Derived.Test.YtbnpgkclnebnmaaGreatF15
import Derived.Test.YtbnpgkclnebnmaaGreatQ9
/- Files: a configuration of one label with many blocks; one file that grows at its end. -/
namespace Go.Proofs.YtbnpgkclnebnmaaGreat
set_option linter.unusedSimpArgs false
set_option linter.unusedVariables false
open Go.RowKit Go.Maps

def RBc (bl : Nat) : Cf.Rg := ⟨⟨#[108, 111, 119]⟩, 0, 0, bl, 8, 1, 1, 1, 0⟩
def RB (bl : Nat) : List Cf.Rg := [RBc bl]
theorem RB_small (bl : Nat) (h4 : 4 ≤ bl) (h5 : bl ≤ 512) : ∀ r ∈ RB bl, Cf.Small r := fun r hr => by
  unfold RB at hr
  rw [List.mem_singleton] at hr
  subst hr
  exact ⟨by show (4 : Int) ≤ (bl : Int); omega, by show (bl : Int) ≤ 512; omega, by show (4 : Int) ≤ 8; decide, by show (8 : Int) ≤ 128; decide⟩
theorem RB_ok (bl : Nat) : ∀ r ∈ RB bl, Cf.Rg.ok r := fun r hr => by
  unfold RB at hr
  rw [List.mem_singleton] at hr
  subst hr
  exact ⟨by show 3 ≤ maxLen; decide, by show (0 : Int) ≤ 0; decide, by show (0 : Int) < 256; decide, by show (0 : Int) ≤ 0; decide, by show (0 : Int) < 65536; decide⟩
theorem RB_new (bl : Nat) (h : bl = 270 ∨ bl = 300) : Cf.newE (RB bl) [] = 0 := by
  rcases h with rfl | rfl <;> decide +kernel
/-- what is known of that configuration, and of its label's group -/
structure CO (bl N : Nat) (g : Cf.Ge) (B0 P0 DA : Nat) : Prop where
  hN : (Cf.layF (RB bl)).2 = N
  n0 : 32 ≤ N
  n1 : N ≤ 65536
  hg : (Cf.layF (RB bl)).1[0]'(by rw [Cf.lay_len]; exact Nat.one_pos) = g
  gg : GG g B0 P0 8 DA bl N
theorem co_any (bl : Nat) (h4 : 4 ≤ bl) (h5 : bl ≤ 512) : ∃ N g B0 P0 DA, CO bl N g B0 P0 DA := by
  have hs := RB_small bl h4 h5
  have hl : (RB bl).length = 1 := rfl
  have hT := Cf.layF_range (RB bl) hs (RB bl).length (Nat.le_refl _)
  rw [List.take_length] at hT
  obtain ⟨N, hN⟩ := Int.eq_ofNat_of_zero_le (show 0 ≤ (Cf.layF (RB bl)).2 by omega)
  obtain ⟨g, hgi⟩ : ∃ g, (Cf.layF (RB bl)).1[0]'(by rw [Cf.lay_len]; exact Nat.one_pos) = g := ⟨_, rfl⟩
  obtain ⟨B0, P0, M, DA, NB, hg, hbl, hnd⟩ := geo_gg (RB bl) hs (by rw [hl]; decide) N hN 0 (by rw [hl]; decide) g hgi
  have e1 : ((RB bl)[0]'(by rw [hl]; decide)).bl = bl := rfl
  have e2 : ((RB bl)[0]'(by rw [hl]; decide)).nd = 8 := rfl
  rw [e1] at hbl
  rw [e2] at hnd
  obtain rfl : NB = bl := by omega
  obtain rfl : M = 8 := by omega
  exact ⟨N, g, B0, P0, DA, hN, by omega, by omega, hgi, hg⟩
theorem freshO {bl N : Nat} {g : Cf.Ge} {B0 P0 DA : Nat} (h4 : 4 ≤ bl) (h5 : bl ≤ 512) (hc : CO bl N g B0 P0 DA) (n : Nat) (vr vm vg : Value) (w : World) (h : Cf.CF n w vr vm vg (RB bl) []) :
    Calls Tryz.prog 25 #[.pointer (some ⟨n + 3, 0, none⟩)] w fun e w' => ∃ t m d g' l Y, e = .returned (.tuple #[.pointer (some ⟨d, 0, none⟩), .pointer (some ⟨l, 0, none⟩), .pointer (some ⟨t, 0, none⟩)]) ∧ From w.heap.size t m d g' ∧ w.heap.size ≤ l ∧ l ∉ [t, m, d, g'] ∧ Lg w' l d 1 ∧ Rd w' t m d g' N ⟨[], Y⟩ Y 7000 ∧ Tab P0 8 Y (VF 3) ∧ (∀ j, j < 512 → bt Y B0 j = false) ∧ Below w.heap.size w w' := by
  have hl : (RB bl).length = 1 := rfl
  refine (fresh_any n vr vm vg (RB bl) [] (RB_small bl h4 h5) (by rw [hl]; decide) (by rw [hl]; decide) N hc.hN hc.n0 hc.n1 w h).mono ?_
  rintro e w' ⟨t, m, d, g', l, Y, he, h1, h2, h3, h4, h5, h6, h7⟩
  have h8 := h6.done 0 (by rw [hl]; decide) (by rw [hl]; decide)
  rw [hc.hg] at h8
  obtain ⟨h9, h10⟩ := h8 B0 P0 8 DA bl hc.gg
  exact ⟨t, m, d, g', l, Y, he, h1, h2, h3, h4, h5, h9, h10, h7⟩
theorem openO {bl N : Nat} {g : Cf.Ge} {B0 P0 DA : Nat} (hc : CO bl N g B0 P0 DA) (ln : Lm) (t m d gg n K : Nat) (Y : Nat → Nat → Int) (vr vm vg : Value) (w : World) (h : Cf.CF n w vr vm vg (RB bl) []) (hr : Rd w t m d gg N ln Y K) :
    Calls Tryz.prog 13 #[.pointer (some ⟨t, 0, none⟩), .pointer (some ⟨n + 3, 0, none⟩), .int .i64 0] w fun e w' => ∃ q p, e = .returned (.tuple #[.pointer (some ⟨q, 0, none⟩), .int .i64 0]) ∧ w.heap.size ≤ q ∧ w.heap.size ≤ p ∧ Gr w' q p t m d gg 0 g B0 bl N ln Y K ∧ Below w.heap.size w w' :=
  gopen_in (ln := ln) t m d gg n B0 P0 8 DA bl N K Y vr vm vg (RB bl) [] 0 Nat.one_pos g hc.hg hc.gg w h hr
/-- slots that a write of at most 1024 bytes touches, from a block on -/
def LQ (a : Nat) : List Nat := 2000 :: 2001 :: (2002 + (a - 38) / 32) :: (2003 + (a - 38) / 32) :: List.range' a 17
theorem LQ_len (a : Nat) : (LQ a).length = 21 := by
  unfold LQ
  simp
theorem LQ_mem (a c : Nat) : c ∈ LQ a ↔ c = 2000 ∨ c = 2001 ∨ c = 2002 + (a - 38) / 32 ∨ c = 2003 + (a - 38) / 32 ∨ a ≤ c ∧ c < a + 17 := by
  unfold LQ
  simp [List.mem_range'_1]
theorem LQ_has (off len : Nat) (hl : len ≤ 1024) (hol : off + len ≤ 16384) (c : Nat) (h1 : off / 64 ≤ c) (h2 : 64 * c < off + len) (i : Nat) (hi : i ≤ lenC c) : chS c i ∈ LQ (off / 64) := by
  have := (chS_cases c (by omega) (chS c i)).1 ⟨i, hi, rfl⟩
  rw [LQ_mem]
  omega
/-- the slots of a file of so many blocks -/
def SL (n : Nat) : List Nat := List.range n ++ ((if 6 < n then [2000] else []) ++ (if 38 < n then 2001 :: List.range' 2002 ((n - 38 + 31) / 32) else []))
theorem SL_mem (n c : Nat) (hn : n ≤ 256) : c ∈ SL n ↔ ndS n c = true := by
  rw [ndS_iff]
  unfold SL
  rw [List.mem_append, List.mem_append, List.mem_range]
  by_cases h6 : 6 < n
  · rw [if_pos h6]
    by_cases h38 : 38 < n
    · rw [if_pos h38]
      simp only [List.mem_cons, List.not_mem_nil, or_false, List.mem_range'_1]
      omega
    · rw [if_neg h38]
      simp only [List.mem_cons, List.not_mem_nil, or_false]
      omega
  · rw [if_neg h6, if_neg (show ¬ 38 < n by omega)]
    simp only [List.not_mem_nil, or_false]
    omega
theorem SL_nodup (n : Nat) (hn : n ≤ 256) : (SL n).Nodup := by
  unfold SL
  rw [List.nodup_append, List.nodup_append]
  refine ⟨List.nodup_range, ⟨?_, ?_, fun a ha b hb => ?_⟩, fun a ha b hb => ?_⟩
  · split <;> simp
  · split
    · rw [List.nodup_cons]
      refine ⟨fun h => ?_, List.nodup_range'⟩
      rw [List.mem_range'_1] at h
      omega
    · exact List.nodup_nil
  · by_cases h6 : 6 < n
    · rw [if_pos h6] at ha
      by_cases h38 : 38 < n
      · rw [if_pos h38] at hb
        simp only [List.mem_cons, List.not_mem_nil, or_false, List.mem_range'_1] at ha hb
        omega
      · rw [if_neg h38] at hb
        cases hb
    · rw [if_neg h6] at ha
      cases ha
  · rw [List.mem_range] at ha
    rw [List.mem_append] at hb
    by_cases h6 : 6 < n
    · by_cases h38 : 38 < n
      · rw [if_pos h6, if_pos h38] at hb
        simp only [List.mem_cons, List.not_mem_nil, or_false, List.mem_range'_1] at hb
        omega
      · rw [if_pos h6, if_neg h38] at hb
        simp only [List.mem_cons, List.not_mem_nil, or_false] at hb
        omega
    · rw [if_neg h6, if_neg (show ¬ 38 < n by omega)] at hb
      simp at hb
/-- how many blocks: of data, of pointers -/
def ptsN (n : Nat) : Nat := if n ≤ 6 then 0 else if n ≤ 38 then 1 else 2 + (n - 38 + 31) / 32
theorem ptsN_le (n : Nat) (h : n ≤ 256) : ptsN n ≤ 9 := by
  unfold ptsN
  split
  · omega
  · split <;> omega
theorem SL_len (n : Nat) : (SL n).length = n + ptsN n := by
  unfold SL ptsN
  by_cases h6 : 6 < n
  · by_cases h38 : 38 < n
    · rw [if_pos h6, if_pos h38, if_neg (by omega), if_neg (by omega)]
      simp
      omega
    · rw [if_pos h6, if_neg h38, if_neg (by omega), if_pos (by omega)]
      simp
  · rw [if_neg h6, if_neg (show ¬ 38 < n by omega), if_pos (by omega)]
    simp
/-- one file, node 3: its blocks are all that are taken -/
structure St (B0 P0 DA NB : Nat) (Y V : Nat → Nat → Int) (B : Nat → Nat) (sz : Nat) (X : Nat → Int) : Prop where
  tab : Tab P0 8 Y V
  fu : Fu B0 DA NB Y (V 3) (ndS ((sz + 63) / 64)) B
  k : V 3 0 = 1
  l : V 3 1 = 1
  s : V 3 3 = sz
  s2 : sz ≤ 16384
  bit : ∀ j, j < NB → (bt Y B0 j = true ↔ ∃ c, ndS ((sz + 63) / 64) c = true ∧ B c = j + 1)
  ct : ∀ i, i < 64 * ((sz + 63) / 64) → ctF DA Y B i = if i < sz then X i else 0
theorem St.start {B0 P0 DA NB : Nat} {Y : Nat → Nat → Int} (h : Tab P0 8 Y (VF 3)) (hb : ∀ j, j < 512 → bt Y B0 j = false) (hN : NB ≤ 512) (B : Nat → Nat) (X : Nat → Int) : St B0 P0 DA NB Y (VF 3) B 0 X := by
  refine ⟨h, ?_, by rw [VF3]; rfl, by rw [VF3]; rfl, by rw [VF3]; rfl, by decide, fun j hj => ?_, fun i hi => absurd hi (by omega)⟩
  · rw [VF3]
    exact Fu.none B0 DA NB Y (own 1) B (fun i h4 _ => own_noblocks 1 i h4)
  · rw [hb j (by omega)]
    constructor
    · intro h
      cases h
    · rintro ⟨c, h1, -⟩
      rw [ndS_iff] at h1
      omega
theorem St.count {B0 P0 DA NB : Nat} {Y V : Nat → Nat → Int} {B : Nat → Nat} {sz : Nat} {X : Nat → Int} (h : St B0 P0 DA NB Y V B sz X) : (setL (bt Y B0) NB).length = (sz + 63) / 64 + ptsN ((sz + 63) / 64) := by
  obtain ⟨n, hn⟩ : ∃ n, (sz + 63) / 64 = n := ⟨_, rfl⟩
  have h256 : n ≤ 256 := by have := h.s2; omega
  have hbit := h.bit
  have hfi := h.fu.fi
  have hus := h.fu.us
  rw [hn] at hbit hfi hus
  rw [hn, ← SL_len n]
  apply Nat.le_antisymm
  · have hm : (setL (bt Y B0) NB).length ≤ ((SL n).map fun c => B c - 1).length := nodup_le _ _ (List.nodup_range.filter _) (fun a ha => by
      unfold setL at ha
      rw [List.mem_filter, List.mem_range] at ha
      obtain ⟨c, h1, h2⟩ := (hbit a ha.1).1 ha.2
      rw [List.mem_map]
      exact ⟨c, (SL_mem n c h256).2 h1, by omega⟩)
    rw [List.length_map] at hm
    exact hm
  · have hnd : ((SL n).map fun c => B c - 1).Nodup := by
      unfold List.Nodup
      rw [List.pairwise_map]
      refine List.Pairwise.imp_of_mem (R := fun a b => a ≠ b) (fun {a b} ha hb hab he => hab ?_) (SL_nodup n h256)
      have h1 := (SL_mem n a h256).1 ha
      have h2 := (SL_mem n b h256).1 hb
      have r1 := hfi.rng a h1
      have r2 := hfi.rng b h2
      exact hfi.inj a b h1 h2 (by omega)
    have hm := nodup_le _ (setL (bt Y B0) NB) hnd (fun a ha => by
      obtain ⟨c, hc, rfl⟩ := List.mem_map.1 ha
      have h1 := (SL_mem n c h256).1 hc
      have r1 := hfi.rng c h1
      unfold setL
      rw [List.mem_filter, List.mem_range]
      exact ⟨by omega, hus c h1⟩)
    rw [List.length_map] at hm
    exact hm
/-- a write at its end -/
theorem writeO {bl N : Nat} {g : Cf.Ge} {B0 P0 DA : Nat} (hc : CO bl N g B0 P0 DA) (h270 : 270 ≤ bl) (q p t m d gg K : Nat) (Y0 V D : Nat → Nat → Int) (b0 : Nat → Nat) (sz : Nat) (X : Nat → Int) (hS : St B0 P0 DA bl Y0 V b0 sz X) (hK : K < 260000000) (w : World) (h : Gr w q p t m d gg 0 g B0 bl N ⟨dl B0 (P0 + 1) DA b0 (ndS ((sz + 63) / 64)) (LQ (sz / 64)), D⟩ Y0 K)
    (len : Nat) (hl : len ≤ 1024) (hol : sz + len ≤ 16384) (v : Value) (s : Nat → Int) (hs : ∀ j, j < len → 0 ≤ s j ∧ s j < 256) (hv : Src w v len s [t, m, d, gg]) :
    Calls Tryz.prog 35 #[.pointer (some ⟨q, 0, none⟩), .int .i64 3, .int .i64 sz, v] w fun e w' => ∃ (Y V' : Nat → Nat → Int) (B : Nat → Nat), e = .returned (.int .i64 0) ∧ Gr w' q p t m d gg 0 g B0 bl N ⟨dl B0 (P0 + 1) DA B (ndS ((sz + len + 63) / 64)) (LQ (sz / 64)), D⟩ Y (K + 25000) ∧ Kf w w' [t, m, d, gg] ∧ St B0 P0 DA bl Y V' B (sz + len) (fun i => if i < sz then X i else s (i - sz)) := by
  have hmax : max sz (sz + len) = sz + len := by omega
  have := fwrite_in q p t m d gg 0 B0 P0 8 DA bl N K (P0 + 1) g Y0 V b0 (LQ (sz / 64)) D (by rw [LQ_len]; decide) 3 rfl (by decide) (by decide) (by rw [hS.k]; decide) (by rw [hS.l]; decide) sz hS.s hS.fu hS.tab hK hc.gg w h sz len (Nat.le_refl _) (by omega) hol hS.s2
    (by
      rw [hmax, hS.k]
      show mbl 1 ((sz + len : Nat) : Int) = true
      unfold mbl
      rw [if_pos rfl]
      exact decide_eq_true (by omega)) (fun c h1 h2 i hi => LQ_has sz len hl hol c h1 h2 i hi) v s hs hv
  rw [hmax] at this
  refine this.mono ?_
  rintro e w' (⟨Y, f, B, rfl, hG, hk, hT, hF, h0, h1, -, h3, hB, hy, hu, hfr, hct⟩ | ⟨Y, ln, B, n, -, -, -, -, hall, hn1, -, hn0, -, -, hu, -⟩)
  · have hv3 : vput 3 f V 3 = f := vput_at _ _ _
    refine ⟨Y, vput 3 f V, B, rfl, hG, hk, ⟨hT, by rw [hv3]; exact hF, by rw [hv3, h0, hS.k], by rw [hv3, h1, hS.l], by rw [hv3, h3], hol, fun j hj => ?_, fun i hi => ?_⟩⟩
    · rw [hu j hj, hS.bit j hj]
      constructor
      · rintro (⟨c, h1, h2⟩ | ⟨c, h1, -, h2⟩)
        · exact ⟨c, ndS_mono (by omega) c h1, by rw [hB c h1]; exact h2⟩
        · exact ⟨c, h1, h2⟩
      · rintro ⟨c, h1, h2⟩
        by_cases hh : ndS ((sz + 63) / 64) c = true
        · exact .inl ⟨c, hh, by rw [← hB c hh]; exact h2⟩
        · exact .inr ⟨c, h1, by simpa using hh, h2⟩
    · rw [hct i hi]
      by_cases e1 : sz ≤ i ∧ i < sz + len
      · rw [if_pos e1, if_pos e1.2, if_neg (by omega)]
      · rw [if_neg e1]
        by_cases e2 : i < 64 * ((sz + 63) / 64)
        · rw [if_pos e2, hS.ct i e2]
          by_cases e3 : i < sz
          · rw [if_pos e3, if_pos (by omega), if_pos e3]
          · rw [if_neg e3, if_neg (by omega)]
        · rw [if_neg e2, if_neg (by omega)]
  · exfalso
    have h256 : (sz + len + 63) / 64 ≤ 256 := by omega
    have := no_space bl n B (SL ((sz + len + 63) / 64)) (fun c hc2 => (SL_mem _ c h256).2 (hn1 c hc2)) (fun j hj => by
      have := (hu j hj).1 (hall j hj)
      rw [hS.bit j hj] at this
      rcases this with ⟨c, h1, h2⟩ | ⟨c, h1, -, h2⟩
      · have := hn0 c h1
        exact ⟨c, this.1, by rw [this.2]; exact h2⟩
      · exact ⟨c, h1, h2⟩)
    rw [SL_len] at this
    have := ptsN_le _ h256
    omega
end Go.Proofs.YtbnpgkclnebnmaaGreat
