import Derived.Test.YtbnpgkclnebnmaaGreatF15
/- Files: Awake. -/
namespace Go.Proofs.YtbnpgkclnebnmaaGreat
set_option linter.unusedSimpArgs false
set_option linter.unusedVariables false
open Go.RowKit Go.Maps

theorem own1_mb (z : Nat) (hz : z ≤ 16384) : mbl (own 1 0) (z : Nat) = true := by
  show mbl 1 ((z : Nat) : Int) = true
  unfold mbl
  rw [if_pos rfl]
  exact decide_eq_true (by omega)
theorem chS_small (c : Nat) (h : c < 6) (i : Nat) (hi : i ≤ lenC c) : chS c i = c := by
  have e : lenC c = 0 := by unfold lenC; rw [if_pos h]
  obtain rfl : i = 0 := by omega
  unfold chS
  rw [e, if_pos rfl]
theorem Src.made (w : World) (sb n : Nat) (s : Nat → Int) (L : List Nat) (hF : Fl w sb n s) (hn : n ≤ maxLen) (hL : sb ∉ L) : Src w (.slice (some ⟨sb, 0, none⟩) n n) n s L :=
  ⟨_, n, rfl, Nat.le_refl _, hn, fun _ => ⟨sb, 0, rfl, ⟨hF.lt, fun j hj => by rw [Nat.zero_add]; exact hF.c j hj⟩, hL⟩⟩
theorem run_make100 (w : World) : (Instr.makeSlice 24 (.int .i64 100) (.int .i64 100)).run Tryz.prog w = .ok (.slice (some ⟨w.heap.size, 0, none⟩) 100 100) (w.alloc (.cells (madeCells #[.int .u8 0] 100) 5)) := by
  obtain ⟨i, hi, hz, hs, hb⟩ := Tryz.info5i
  have := run_make (P := Tryz.prog) w 24 5 i _ (by kernel_rfl) hi hz .i64 .i64 100 100 (by omega) (by omega) (by rw [hb]; omega) (by omega)
  simp only [hs] at this
  exact this
theorem Fl.zeros (w : World) (c : Nat) : Fl (w.alloc (.cells (madeCells #[.int .u8 0] c) 5)) w.heap.size c (fun _ => 0) := by
  refine ⟨by simp, fun j hj => ?_, fun j _ => by simp⟩
  rw [World.cell?_alloc_at _ _ _ _ rfl]
  simp [madeCells, hj, Nat.mod_one]
/-- the slots that these laws touch -/
def L8 : List Nat := 2000 :: List.range 19
theorem L8_mem (c : Nat) : c ∈ L8 ↔ c = 2000 ∨ c < 19 := by
  unfold L8
  simp
theorem L8_len : L8.length = 20 := rfl
theorem L8_has (c : Nat) (hc : c < 19) (i : Nat) (hi : i ≤ lenC c) : chS c i ∈ L8 := by
  have := (chS_cases c (by omega) (chS c i)).1 ⟨i, hi, rfl⟩
  rw [L8_mem]
  omega
theorem L8_nd (n c : Nat) (hn : n ≤ 19) (h : ndS n c = true) : c ∈ L8 := by
  rw [ndS_iff] at h
  rw [L8_mem]
  omega
/-- a write into a fresh file, from its beginning on -/
theorem write8 {N : Nat} {g : Cf.Ge} {B0 P0 DA : Nat} (hc : C8 N g B0 P0 DA) (q p t m d gg K : Nat) (Y0 D : Nat → Nat → Int) (b0 : Nat → Nat) (hI : Tab P0 8 Y0 (VF 3)) (hbit : ∀ j, j < 512 → bt Y0 B0 j = false) (hK : K < 260000000) (w : World) (h : Gr w q p t m d gg 0 g B0 67 N ⟨dl B0 (P0 + 1) DA b0 (ndS 0) L8, D⟩ Y0 K)
    (len : Nat) (hl : len ≤ 1216) (v : Value) (s : Nat → Int) (hs : ∀ j, j < len → 0 ≤ s j ∧ s j < 256) (hv : Src w v len s [t, m, d, gg]) :
    Calls Tryz.prog 35 #[.pointer (some ⟨q, 0, none⟩), .int .i64 3, .int .i64 0, v] w fun e w' => ∃ (Y : Nat → Nat → Int) (f : Nat → Int) (B : Nat → Nat), e = .returned (.int .i64 0) ∧ Gr w' q p t m d gg 0 g B0 67 N ⟨dl B0 (P0 + 1) DA B (ndS ((len + 63) / 64)) L8, D⟩ Y (K + 25000) ∧ Kf w w' [t, m, d, gg] ∧ Tab P0 8 Y (vput 3 f (VF 3)) ∧ Fu B0 DA 67 Y f (ndS ((len + 63) / 64)) B
      ∧ f 0 = 1 ∧ f 1 = 1 ∧ f 3 = len ∧ (∀ i, i < 64 * ((len + 63) / 64) → ctF DA Y B i = if i < len then s i else 0) ∧ (∀ j, j < 67 → (bt Y B0 j = true ↔ ∃ c, ndS ((len + 63) / 64) c = true ∧ B c = j + 1)) := by
  have hmax : max 0 (0 + len) = len := by omega
  have := fwrite_in q p t m d gg 0 B0 P0 8 DA 67 N K (P0 + 1) g Y0 (VF 3) b0 L8 D (by rw [L8_len]; decide) 3 rfl (by decide) (by decide) (by rw [VF3]; decide) (by rw [VF3]; decide) 0 (by rw [VF3]; rfl)
    (by rw [VF3]; exact Fu.none B0 DA 67 Y0 (own 1) b0 (fun i h4 _ => own_noblocks 1 i h4)) hI hK hc.gg w h 0 len (Nat.le_refl _) (by omega) (by omega) (by decide) (by rw [VF3, hmax]; exact own1_mb len (by omega)) (fun c _ hc2 i hi => L8_has c (by omega) i hi) v s hs hv
  rw [hmax] at this
  refine this.mono ?_
  rintro e w' (⟨Y, f, B, rfl, hG, hk, hT, hF, h0, h1, -, h3, hB, hy, hu, hfr, hct⟩ | ⟨Y, ln, B, n, -, -, -, -, hall, hn1, -, -, -, -, hu, -⟩)
  · refine ⟨Y, f, B, rfl, hG, hk, hT, hF, by rw [h0, VF3]; rfl, by rw [h1, VF3]; rfl, h3, fun i hi => ?_, fun j hj => ?_⟩
    · rw [hct i hi]
      by_cases e : i < len
      · rw [if_pos ⟨Nat.zero_le _, by omega⟩, if_pos e]
        rfl
      · rw [if_neg (by omega), if_neg e, if_neg (by omega)]
    · rw [hu j hj, hbit j (by omega)]
      constructor
      · rintro (h | ⟨c, h1, -, h2⟩)
        · cases h
        · exact ⟨c, h1, h2⟩
      · rintro ⟨c, h1, h2⟩
        exact .inr ⟨c, h1, (ndS_no _ _).2 (by omega), h2⟩
  · exfalso
    have := no_space 67 n B L8 (fun c hc2 => L8_nd _ c (by omega) (hn1 c hc2)) (fun j hj => by
      have := (hu j hj).1 (hall j hj)
      rw [hbit j (by omega)] at this
      rcases this with h | ⟨c, h1, -, h2⟩
      · cases h
      · exact ⟨c, h1, h2⟩)
    rw [L8_len] at this
    omega
set_option maxHeartbeats 40000000 in
set_option maxRecDepth 200000 in
theorem awake8 (w : World) : Calls Tryz.prog 24 #[] w fun e w' => e = .returned (.bool true) ∧ Below w.heap.size w w' := by
  go_enter Tryz.func24, Tryz.ntmps24
  obtain ⟨N, g, B0, P0, DA, hc8⟩ := c8
  have HC8 := Lib.hid hc8
  have HG := Lib.hid hc8.gg
  clear hc8
  go_wp2_with fail
  refine (small_any w).mono ?_
  rintro e w2 ⟨n, vr, vm, vg, rfl, -, hb2, hCF⟩
  have HB2 := Lib.hid (hb2)
  have HCF := Lib.hid hCF
  clear hb2 hCF
  go_wp2_with fail
  refine (fresh8 HC8.out n vr vm vg w2 HCF.out).mono ?_
  rintro e w3 ⟨t, mm, dd, gg, l, Y0, rfl, hFr, hll, hln, hLg, hRd, hTab, hbit, hb3⟩
  have HR3 := Lib.hid hRd
  have HL3 := Lib.hid hLg
  have HTab := Lib.hid hTab
  have HBit := Lib.hid hbit
  have HCF3 := Lib.hid (HCF.out.below hb3)
  have HB3 := Lib.hid (HB2.out.trans (hb3.mono HB2.out.size))
  have HNl := Lib.hid (show l ∉ [dd, gg] from fun h => hln (by simp only [List.mem_cons, List.not_mem_nil, or_false] at h ⊢; omega))
  have HNt := Lib.hid hln
  have hdd : w2.heap.size ≤ dd := hFr.2.2.1
  have hgg : w2.heap.size ≤ gg := hFr.2.2.2
  have hdt : w2.heap.size ≤ t := hFr.1
  have hdm : w2.heap.size ≤ mm := hFr.2.1
  have hw2 : w.heap.size ≤ w2.heap.size := HB2.out.size
  have hw3 := hb3.size
  have HCFx : Hid (∀ W, Below w2.heap.size w2 W → Cf.CF n W vr vm vg R8 []) := Lib.hid (fun W hk => HCF.out.below hk)
  have HZ3 := Lib.hid hb3
  clear hFr hll hln hLg hRd hTab hbit hb3 HCF
  have HOp := Lib.hid (open8 HC8.out ⟨dl B0 (P0 + 1) DA (fun _ => 0) (ndS 0) L8, Y0⟩ t mm dd gg n 7000 Y0 vr vm vg w3 HCF3.out (HR3.out.wide (Lm.nil_le _ _)))
  go_wp2_with fail
  refine HOp.out.mono ?_
  rintro e w4 ⟨q, p, rfl, hq, hp, hG, hb⟩
  have HG4 := Lib.hid hG
  have HB4 := Lib.hid (HZ3.out.trans (hb.mono hw3))
  have HL4 := Lib.hid (HL3.out.keep hb)
  clear hG hb HOp HR3 HCF3
  have hmk := run_make100 w4
  go_upto_region 5 with fail
  clear hmk
  have F5 := Lib.hid (Fl.zeros w4 100)
  have hb5 : Below w4.heap.size w4 (w4.alloc (.cells (madeCells #[.int .u8 0] 100) 5)) := (Below.refl _ _).alloc (Nat.le_refl _) _
  have HG5 := Lib.hid (HG4.out.keep hb5)
  have HL5 := Lib.hid (HL4.out.keep hb5)
  have HB5 := Lib.hid (HB4.out.trans (hb5.mono HB4.out.size))
  have hS5 : w4.heap.size ∉ [t, mm, dd, gg] := HG4.out.rd.notin (Nat.le_refl _)
  obtain ⟨w5, hw5⟩ : ∃ x, w4.alloc (.cells (madeCells #[.int .u8 0] 100) 5) = x := ⟨_, rfl⟩
  rw [hw5] at F5 HG5 HL5 HB5 ⊢
  have HW := Lib.hid (write8 HC8.out q p t mm dd gg 7000 Y0 Y0 (fun _ => 0) HTab.out HBit.out (by decide) w5 HG5.out 100 (by decide) _ (fun _ => 0) (fun j hj => by decide) (Src.made w5 w4.heap.size 100 (fun _ => 0) [t, mm, dd, gg] F5.out (by decide) hS5))
  clear hw5 hb5 hS5 HG4 HL4 HB4
  refine HW.out.mono ?_
  rintro e w6 ⟨Y1, f1, B1, rfl, hG6, hk6, hT6, hF6, hf0, hf1, hf3, hct6, hbt6⟩
  have HG6 := Lib.hid hG6
  have HK6 := Lib.hid hk6
  have HT6 := Lib.hid hT6
  have HF6 := Lib.hid hF6
  have Hf0 := Lib.hid hf0
  have Hf3 := Lib.hid hf3
  have hsz5 := HB5.out.size
  have HB6 : Hid (Below w2.heap.size w2 w6) := Lib.hid (HB5.out.trans (hk6.below (B := w2.heap.size) (fun a ha => by
    simp only [List.mem_cons, List.not_mem_nil, or_false] at ha
    omega) hsz5))
  have HL6 := Lib.hid (HL5.out.kf hk6 HNt.out)
  clear hG6 hk6 hT6 hF6 hf0 hf1 hf3 hct6 hbt6 HW HG5 HL5 HB5 F5
  have HCm := Lib.hid (commit7 t mm dd gg (7000 + 25000) Y1 (Ly.len L8 (by decide) _ _ _ _ _) (by decide) w6 HG6.out.rd)
  go_wp2_with fail
  refine HCm.out.mono ?_
  rintro e w7 ⟨rfl, hR7, hk7⟩
  have HR7 := Lib.hid hR7
  have hsz6 := HB6.out.size
  have HB7 : Hid (Below w2.heap.size w2 w7) := Lib.hid (HB6.out.trans (hk7.below (B := w2.heap.size) (fun a ha => by
    simp only [List.mem_cons, List.not_mem_nil, or_false] at ha
    omega) hsz6))
  have HL7 := Lib.hid (HL6.out.kf hk7 HNt.out)
  clear hR7 hk7 HCm HG6 HL6 HB6
  have HBg := Lib.hid (begin7 l t mm dd gg _ Y1 w7 HR7.out HL7.out)
  go_wp2_with fail
  refine HBg.out.mono ?_
  rintro e w8 ⟨t2, m2, rfl, ht2, hm2, hR8, hb8⟩
  have HR8 := Lib.hid hR8
  have HB8 := Lib.hid (HB7.out.trans (hb8.mono HB7.out.size))
  have hsz7 := HB7.out.size
  have hsz8 := HB8.out.size
  clear hR8 hb8 HBg HR7 HL7 HB7
  have HO2 := Lib.hid (open8 HC8.out _ t2 m2 dd gg n _ Y1 vr vm vg w8 (HCFx.out w8 HB8.out) HR8.out)
  go_wp2_with fail
  refine HO2.out.mono ?_
  rintro e w9 ⟨q2, p2, rfl, hq2, hp2, hG9, hb9⟩
  have HG9 := Lib.hid hG9
  have HB9 := Lib.hid (HB8.out.trans (hb9.mono HB8.out.size))
  clear hG9 hb9 HO2 HR8 HB8
  have hv1 : vput 3 f1 (VF 3) 3 = f1 := vput_at _ _ _
  have HRd := Lib.hid (fread_in q2 p2 t2 m2 dd gg 0 B0 P0 8 DA 67 N _ g Y1 (vput 3 f1 (VF 3)) 3 (by decide) (by decide) (by rw [hv1, Hf0.out]; decide) 100 (by rw [hv1]; exact Hf3.out) (by decide) B1 (ndS ((100 + 63) / 64)) (by rw [hv1]; exact HF6.out.fi) (fun c hc => (ndS_iff _ _).2 (by omega)) HT6.out (by decide) HC8.out.gg w9 HG9.out 90 (by decide) 99 (by decide) (by decide) 10 (by decide))
  clear hv1
  go_wp2_with fail
  refine HRd.out.mono ?_
  rintro e w10 ⟨bR, rfl, hbR, hF10, hG10, hk10⟩
  have hsz9 := HB9.out.size
  have HB10 : Hid (Below w2.heap.size w2 w10) := Lib.hid (HB9.out.trans (hk10.below (B := w2.heap.size) (fun a ha => by
    simp only [List.mem_cons, List.not_mem_nil, or_false] at ha
    omega) hsz9))
  clear hF10 hG10 hk10 HRd
  go_wp2_with fail
  go_ret
  exact ⟨rfl, HB2.out.trans (HB10.out.mono hw2)⟩
end Go.Proofs.YtbnpgkclnebnmaaGreat
