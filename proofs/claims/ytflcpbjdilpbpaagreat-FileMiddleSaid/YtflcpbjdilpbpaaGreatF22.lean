import Derived.Test.YtflcpbjdilpbpaaGreatF21
import Derived.Test.YtflcpbjdilpbpaaGreatQ9
/- Files: what lies in a file's middle. -/
namespace Go.Proofs.YtflcpbjdilpbpaaGreat
set_option linter.unusedSimpArgs false
set_option linter.unusedVariables false
open Go.RowKit Go.Maps
theorem tmod_nat (a m : Int) (h0 : 0 ≤ a) (hm : 0 < m) : ∃ k : Nat, Int.tmod a m = k ∧ (k : Int) < m := by
  rw [Int.tmod_eq_emod_of_nonneg h0]
  have h1 := Int.emod_nonneg a (show m ≠ 0 by omega)
  have h2 := Int.emod_lt_of_pos a hm
  obtain ⟨k, hk⟩ := Int.eq_ofNat_of_zero_le h1
  exact ⟨k, hk, by omega⟩
theorem yields_conv {P : Program} {ops : Array Oper} {S : World → Prop} {op : Oper} {a : Act} (hw : Region.wanted op (yielded ops a.tmps) = true) (src dst : TypeId) (x : Operand) (ho : op.op = .convert src dst x) (vx v : Value) (hx : a.eval x = vx)
    (hr : ∀ w, S w → (convert src dst vx).run P w = .ok v w) : YieldsIf P ops S op v a :=
  .inl ⟨hw, fun w hS => by
    have hr := hr w hS
    unfold execOp
    simp [ho, hx, hr, Result.andThen]⟩
def CV (W : World) (v : Value) (S : ByteArray) : Prop := (convert 24 9 v).run Tryz.prog W = .ok (.string S) W
theorem mid_strs (bX gA g11 n a' k m : Nat) (b b2 : Int) (X : Nat → Int) (hm : a' + k = m) (hmn : m ≤ n) (hX : ∀ i, i < n → X i = if a' ≤ i ∧ i < a' + k then byF b2 (i - a') else byF b i) :
    ∃ S1 S2 S3, ∀ W, (Fl W bX n X ∧ Fl W gA n (byF b) ∧ Fl W g11 k (byF b2)) → CV W (.slice (some ⟨bX, 0, none⟩) a' n) S1 ∧ CV W (.slice (some ⟨gA, 0, none⟩) a' n) S1 ∧ CV W (.slice (if n = a' then some ⟨bX, 0, none⟩ else some ⟨bX, a', none⟩) (m - a') (n - a')) S2 ∧ CV W (.slice (some ⟨g11, 0, none⟩) k k) S2 ∧ CV W (.slice (if n = m then some ⟨bX, 0, none⟩ else some ⟨bX, m, none⟩) (n - m) (n - m)) S3 ∧ CV W (.slice (if n = m then some ⟨gA, 0, none⟩ else some ⟨gA, m, none⟩) (n - m) (n - m)) S3 := by
  refine ⟨strOf a' (byF b), strOf k (byF b2), strOf (n - m) (fun j => byF b (m + j)), fun W ⟨h1, h2, h3⟩ => ⟨?_, ?_, ?_, ?_, ?_, ?_⟩⟩
  · exact str_cells (fun j _ => byF_bd b j) (fun j hj => by
      rw [Nat.zero_add, h1.c j (by omega), hX j (by omega), if_neg (by omega)])
  · exact str_cells (fun j _ => byF_bd b j) (fun j hj => by
      rw [Nat.zero_add, h2.c j (by omega)])
  · rw [show m - a' = k from by omega]
    by_cases e : n = a'
    · rw [if_pos e]
      exact str_cells (fun j _ => byF_bd b2 j) (fun j hj => by omega)
    · rw [if_neg e]
      exact str_cells (fun j _ => byF_bd b2 j) (fun j hj => by
        rw [h1.c (a' + j) (by omega), hX (a' + j) (by omega), if_pos (by omega), show a' + j - a' = j from by omega])
  · exact str_cells (fun j _ => byF_bd b2 j) (fun j hj => by
      rw [Nat.zero_add, h3.c j (by omega)])
  · by_cases e : n = m
    · rw [if_pos e]
      exact str_cells (fun j _ => byF_bd b (m + j)) (fun j hj => by omega)
    · rw [if_neg e]
      exact str_cells (fun j _ => byF_bd b (m + j)) (fun j hj => by
        rw [h1.c (m + j) (by omega), hX (m + j) (by omega), if_neg (by omega)])
  · by_cases e : n = m
    · rw [if_pos e]
      exact str_cells (fun j _ => byF_bd b (m + j)) (fun j hj => by omega)
    · rw [if_neg e]
      exact str_cells (fun j _ => byF_bd b (m + j)) (fun j hj => by
        rw [h2.c (m + j) (by omega)])
set_option maxHeartbeats 40000000 in
set_option maxRecDepth 200000 in
theorem filemiddle_walk (a0 a1 a2 b : Int) (h00 : 0 ≤ a0) (h01 : a0 < 65536) (h10 : 0 ≤ a1) (h11 : a1 < 65536) (h20 : 0 ≤ a2) (h21 : a2 < 65536) (hb0 : 0 ≤ b) (hb1 : b < 256) (w : World) :
    Calls Tryz.prog 8 #[.int .u16 a0, .int .u16 a1, .int .u16 a2, .int .u8 b] w fun e w' => e = .returned (.bool true) ∧ Below w.heap.size w w' := by
  obtain ⟨n, hn, hn1⟩ := tmod_nat a0 1200 h00 (by decide)
  obtain ⟨at', ha, ha1⟩ := tmod_nat a1 ((n : Int) + 1) h10 (by omega)
  obtain ⟨k, hk, hk1⟩ := tmod_nat a2 ((n : Int) - at' + 1) h20 (by omega)
  have hn0 : (0 : Int) ≤ n := by omega
  have ha0 : (0 : Int) ≤ at' := by omega
  have hk0 : (0 : Int) ≤ k := by omega
  have hd1 : ¬ ((n : Int) + 1 = 0) := by omega
  have hd2 : ¬ ((n : Int) - at' + 1 = 0) := by omega
  go_enter Tryz.func8, Tryz.ntmps8
  go_wp2_with fail
  refine (awake8 w).mono ?_
  rintro e w1 ⟨rfl, hbw1⟩
  have HB1 := Lib.hid hbw1
  clear hbw1
  obtain ⟨N, g, B0, P0, DA, hc8⟩ := c8
  have HC8 := Lib.hid hc8
  have HG := Lib.hid hc8.gg
  clear hc8
  go_wp2_with fail
  refine (small_any w1).mono ?_
  rintro e w2 ⟨n', vr, vm, vg, rfl, -, hb2, hCF⟩
  have HB2 := Lib.hid (HB1.out.trans (hb2.mono HB1.out.size))
  have HCF := Lib.hid hCF
  clear hb2 hCF
  go_wp2_with fail
  refine (fresh8 HC8.out n' vr vm vg w2 HCF.out).mono ?_
  rintro e w3 ⟨t, mm, dd, gg, l, Y0, rfl, hFr, hll, hln, hLg, hRd, hTab, hbit, hb3⟩
  have HR3 := Lib.hid hRd
  have HL3 := Lib.hid hLg
  have HTab := Lib.hid hTab
  have HBit := Lib.hid hbit
  have HCF3 := Lib.hid (HCF.out.below hb3)
  have HB3 := Lib.hid (HB2.out.trans (hb3.mono HB2.out.size))
  have HNl := Lib.hid (show l ∉ [dd, gg] from fun h => hln (by simp only [List.mem_cons, List.not_mem_nil, or_false] at h ⊢; omega))
  have HNt := Lib.hid hln
  have hdd : w2.heap.size ≤ dd := hFr.2.2.1
  have hgg : w2.heap.size ≤ gg := hFr.2.2.2
  have hdt : w2.heap.size ≤ t := hFr.1
  have hdm : w2.heap.size ≤ mm := hFr.2.1
  have hw2 : w.heap.size ≤ w2.heap.size := HB2.out.size
  have hw3 := hb3.size
  have HCFx : Hid (∀ W, Below w2.heap.size w2 W → Cf.CF n' W vr vm vg R8 []) := Lib.hid (fun W hk => HCF.out.below hk)
  have HZ3 := Lib.hid hb3
  clear hFr hll hln hLg hRd hTab hbit hb3 HCF
  have HOp := Lib.hid (open8 HC8.out ⟨dl B0 (P0 + 1) DA (fun _ => 0) (ndS 0) L8, Y0⟩ t mm dd gg n' 7000 Y0 vr vm vg w3 HCF3.out (HR3.out.wide (Lm.nil_le _ _)))
  go_wp2_with fail
  refine HOp.out.mono ?_
  rintro e w4 ⟨q, p, rfl, hq, hp, hG, hb⟩
  have HG4 := Lib.hid hG
  have HB4 := Lib.hid (HB3.out.trans (hb.mono HB3.out.size))
  have HZ4 := Lib.hid (HZ3.out.trans (hb.mono hw3))
  have HL4 := Lib.hid (HL3.out.keep hb)
  clear hG hb HOp HR3 HCF3 HL3 HZ3 HB3 HB2 HB1
  have HBy1 := Lib.hid (bytes_any n (by omega) b w4)
  go_wp2_with fail
  refine HBy1.out.mono ?_
  rintro e w5 ⟨g5, rfl, hg5, hF, hb⟩
  have HF5 := Lib.hid hF
  have HG5 := Lib.hid (HG4.out.keep hb)
  have HL5 := Lib.hid (HL4.out.keep hb)
  have HB5 := Lib.hid (HB4.out.trans (hb.mono HB4.out.size))
  have HZ5 := Lib.hid (HZ4.out.trans (hb.mono HZ4.out.size))
  have hS5 : g5 ∉ [t, mm, dd, gg] := HG4.out.rd.notin hg5
  have HW := Lib.hid (write8 HC8.out q p t mm dd gg 7000 Y0 Y0 (fun _ => 0) HTab.out HBit.out (by decide) w5 HG5.out n (by omega) _ (byF b) (fun j _ => byF_bd b j) (Src.made w5 g5 n (byF b) [t, mm, dd, gg] HF5.out (by unfold maxLen; omega) hS5))
  clear hF hb hS5 hg5 HBy1 HG4 HL4 HB4 HZ4 HF5
  go_wp2_with fail
  refine HW.out.mono ?_
  rintro e w6 ⟨Y1, f1, B1, rfl, hG6, hk6, hT6, hF6, hf0, hf1, hf3, hct6, hbt6⟩
  have HG6 := Lib.hid hG6
  have HT6 := Lib.hid hT6
  have HF6 := Lib.hid hF6
  have Hf0 := Lib.hid hf0
  have Hf1 := Lib.hid hf1
  have Hf3 := Lib.hid hf3
  have HCt6 := Lib.hid hct6
  have hwt : w.heap.size ≤ w2.heap.size := hw2
  have hsz5 := HB5.out.size
  have HB6 : Hid (Below w.heap.size w w6) := Lib.hid (HB5.out.trans (hk6.below (B := w.heap.size) (fun a ha => by
    simp only [List.mem_cons, List.not_mem_nil, or_false] at ha
    omega) hsz5))
  have hz5 := HZ5.out.size
  have HZ6 : Hid (Below w2.heap.size w2 w6) := Lib.hid (HZ5.out.trans (hk6.below (B := w2.heap.size) (fun a ha => by
    simp only [List.mem_cons, List.not_mem_nil, or_false] at ha
    omega) hz5))
  have HL6 := Lib.hid (HL5.out.kf hk6 HNt.out)
  clear hG6 hk6 hT6 hF6 hf0 hf1 hf3 hct6 hbt6 HW HG5 HL5 HB5 HZ5
  have HCm := Lib.hid (commit7 t mm dd gg (7000 + 25000) Y1 (Ly.len L8 (by decide) _ _ _ _ _) (by decide) w6 HG6.out.rd)
  go_wp2_with fail
  refine HCm.out.mono ?_
  rintro e w7 ⟨rfl, hR7, hk7⟩
  have HR7 := Lib.hid hR7
  have hsz6 := HB6.out.size
  have HB7 : Hid (Below w.heap.size w w7) := Lib.hid (HB6.out.trans (hk7.below (B := w.heap.size) (fun a ha => by
    simp only [List.mem_cons, List.not_mem_nil, or_false] at ha
    omega) hsz6))
  have hz6 := HZ6.out.size
  have HZ7 : Hid (Below w2.heap.size w2 w7) := Lib.hid (HZ6.out.trans (hk7.below (B := w2.heap.size) (fun a ha => by
    simp only [List.mem_cons, List.not_mem_nil, or_false] at ha
    omega) hz6))
  have HL7 := Lib.hid (HL6.out.kf hk7 HNt.out)
  clear hR7 hk7 HCm HG6 HL6 HB6 HZ6
  have HBg := Lib.hid (begin7 l t mm dd gg _ Y1 w7 HR7.out HL7.out)
  go_wp2_with fail
  refine HBg.out.mono ?_
  rintro e w8 ⟨t2, m2, rfl, ht2, hm2, hR8, hb8⟩
  have HR8 := Lib.hid hR8
  have hsz7 := HB7.out.size
  have HB8 := Lib.hid (HB7.out.trans (hb8.mono hsz7))
  have HZ8 := Lib.hid (HZ7.out.trans (hb8.mono HZ7.out.size))
  clear hR8 hb8 HBg HR7 HL7 HB7
  have HO2 := Lib.hid (open8 HC8.out ⟨dl B0 (P0 + 1) DA B1 (ndS ((n + 63) / 64)) L8, Y1⟩ t2 m2 dd gg n' _ Y1 vr vm vg w8 (HCFx.out w8 HZ8.out) (HR8.out.wide (Lm.nil_le _ _)))
  go_wp2_with fail
  refine HO2.out.mono ?_
  rintro e w9 ⟨q2, p2, rfl, hq2, hp2, hG9, hb9⟩
  have HG9 := Lib.hid hG9
  have HB9 := Lib.hid (HB8.out.trans (hb9.mono HB8.out.size))
  have hsz8 := HB8.out.size
  have hv1 : vput 3 f1 (VF 3) 3 = f1 := vput_at _ _ _
  obtain ⟨V1, hV1⟩ : ∃ V, vput 3 f1 (VF 3) = V := ⟨_, rfl⟩
  rw [hV1] at HT6 hv1
  have HV1 := Lib.hid hv1
  clear hG9 hb9 HO2 HR8 HB8 hV1 hv1 HCFx HZ8 HZ7
  obtain ⟨cb, hcb⟩ : ∃ c, (setL (bt Y1 B0) 67).length = c := ⟨_, rfl⟩
  obtain ⟨cn, hcn⟩ : ∃ c, cN V1 8 = c := ⟨_, rfl⟩
  have HCb := Lib.hid hcb
  have hcbi : (0 : Int) ≤ cb := by omega
  have hcb2 : (cb : Int) ≤ 67 := by have := setL_len (bt Y1 B0) 67; omega
  have HU := Lib.hid (gusage q2 p2 t2 m2 dd gg 0 B0 P0 8 DA 67 N _ g Y1 V1 cb hcb cn hcn (by decide) HT6.out HG.out w9 HG9.out)
  clear hcb hcn
  go_wp2_with fail
  refine HU.out.mono ?_
  rintro e w10 ⟨rfl, hG10, hk10⟩
  have HG10 := Lib.hid hG10
  have hsz9 := HB9.out.size
  have HB10 : Hid (Below w.heap.size w w10) := Lib.hid (HB9.out.trans (hk10.below (B := w.heap.size) (fun a ha => by
    simp only [List.mem_cons, List.not_mem_nil, or_false] at ha
    omega) hsz9))
  clear hG10 hk10 HU HG9 HB9
  have HBy2 := Lib.hid (fun z => bytes_any k (by omega) z w10)
  go_wp2_with fail
  refine (HBy2.out _).mono ?_
  obtain ⟨b2, hb2⟩ : ∃ z, Go.bits .xor .u8 b 85 = z := ⟨_, rfl⟩
  rw [hb2]
  clear hb2 HBy2
  rintro e w11 ⟨g11, rfl, hg11, hF, hb⟩
  have HF11 := Lib.hid hF
  have HG11 := Lib.hid (HG10.out.keep hb)
  have hsz10 := HB10.out.size
  have HB11 := Lib.hid (HB10.out.trans (hb.mono hsz10))
  have HS11 := Lib.hid (HG10.out.notin hg11)
  have hmax : max n (at' + k) = n := by omega
  have hS11 : g11 ∉ [t2, m2, dd, gg] := HG10.out.rd.notin hg11
  have hW2 := fwrite_in q2 p2 t2 m2 dd gg 0 B0 P0 8 DA 67 N (7000 + 25000 + 92 + 400) (P0 + 1) g Y1 V1 B1 L8 Y1 (by rw [L8_len]; decide) 3 rfl (by decide) (by decide) (by rw [HV1.out, Hf0.out]; decide) (by rw [HV1.out, Hf1.out]; decide) n (by rw [HV1.out]; exact Hf3.out) (by rw [HV1.out]; exact HF6.out) HT6.out (by decide) HG.out w11 HG11.out at' k (by omega) (by omega) (by omega) (by omega) (by rw [HV1.out, Hf0.out, hmax]; exact own1_mb n (by omega)) (fun c _ hc2 i hi => L8_has c (by omega) i hi) _ (byF b2) (fun j _ => byF_bd b2 j) (Src.made w11 g11 k (byF b2) [t2, m2, dd, gg] HF11.out (by unfold maxLen; omega) hS11)
  rw [hmax] at hW2
  have HW2 := Lib.hid hW2
  have HN11 := Lib.hid hS11
  clear hF hb hW2 hS11 HG10 HB10 HT6 hmax
  go_wp2_with fail
  refine HW2.out.mono ?_
  rintro e w12 (⟨Y2, f2, B2, rfl, hG12, hk12, hT12, hF12, h0, h1, -, h3, hBB, hy, hu, hfr, hct⟩ | ⟨Y, ln, B, nn, -, -, -, -, -, -, ⟨c, hc1, hc2⟩, hnn, -⟩)
  rotate_left 1
  · exfalso
    have := (hnn c hc2).1
    rw [hc1] at this
    cases this
  have HG12 := Lib.hid hG12
  have HT12 := Lib.hid hT12
  have HF12 := Lib.hid hF12
  have H0 := Lib.hid (show f2 0 = 1 from by rw [h0, HV1.out, Hf0.out])
  have H3 := Lib.hid h3
  have HX := Lib.hid (fun (i : Nat) (hi : i < n) => by
    have h := hct i (by omega)
    have h' := HCt6.out i (by omega)
    rw [if_pos hi] at h'
    rw [if_pos (show i < 64 * ((n + 63) / 64) by omega), h'] at h
    exact h)
  have hcb2' : (setL (bt Y2 B0) 67).length = cb := by
    rw [← HCb.out, setL_congr (b := bt Y2 B0) (b' := bt Y1 B0) (fun i hi => by
      have h := hu i hi
      cases h1 : bt Y1 B0 i <;> cases h2 : bt Y2 B0 i
      · rfl
      · rw [h1, h2] at h
        rcases h.1 rfl with hh | ⟨c, hc1, hc2, -⟩
        · cases hh
        · rw [hc1] at hc2
          cases hc2
      · rw [h1, h2] at h
        exact absurd (h.2 (.inl rfl)) (by decide)
      · rfl)]
  have hsz11 := HB11.out.size
  have HB12 : Hid (Below w.heap.size w w12) := Lib.hid (HB11.out.trans (hk12.below (B := w.heap.size) (fun a ha => by
    simp only [List.mem_cons, List.not_mem_nil, or_false] at ha
    omega) hsz11))
  have HM12 := Lib.hid (HF11.out.kf hk12 HN11.out)
  clear hG12 hk12 hT12 hF12 h0 h1 h3 hBB hy hu hfr hct HW2 HG11 HB11 HF11 HCt6 HF6 Hf0 Hf1 Hf3 HV1
  have hv2 : vput 3 f2 V1 3 = f2 := vput_at _ _ _
  obtain ⟨V2, hV2⟩ : ∃ V, vput 3 f2 V1 = V := ⟨_, rfl⟩
  rw [hV2] at HT12 hv2
  have HV2 := Lib.hid hv2
  obtain ⟨cn2, hcn2⟩ : ∃ c, cN V2 8 = c := ⟨_, rfl⟩
  have HU2 := Lib.hid (gusage q2 p2 t2 m2 dd gg 0 B0 P0 8 DA 67 N _ g Y2 V2 cb hcb2' cn2 hcn2 (by decide) HT12.out HG.out w12 HG12.out)
  clear hcb2' hcn2 hV2 hv2
  go_wp2_with fail
  refine HU2.out.mono ?_
  rintro e w13 ⟨rfl, hG13, hk13⟩
  have HG13 := Lib.hid hG13
  have HM13 := Lib.hid (HM12.out.kf hk13 HN11.out)
  have hsz12 := HB12.out.size
  have HB13 : Hid (Below w.heap.size w w13) := Lib.hid (HB12.out.trans (hk13.below (B := w.heap.size) (fun a ha => by
    simp only [List.mem_cons, List.not_mem_nil, or_false] at ha
    omega) hsz12))
  clear hG13 hk13 HU2 HG12 HB12 HM12
  have HRd := Lib.hid (fread_in q2 p2 t2 m2 dd gg 0 B0 P0 8 DA 67 N _ g Y2 V2 3 (by decide) (by decide) (by rw [HV2.out, H0.out]; decide) n (by rw [HV2.out]; exact H3.out) (by omega) B2 (ndS ((n + 63) / 64)) (by rw [HV2.out]; exact HF12.out.fi) (fun c hc => (ndS_iff _ _).2 (by omega)) HT12.out (by decide) HG.out w13 HG13.out 0 (by decide) 16384 (by decide) (by decide) n (by omega))
  go_wp2_with fail
  refine HRd.out.mono ?_
  rintro e w14 ⟨bX, rfl, hbX, hF14, hG14, hk14⟩
  have HX14 := Lib.hid hF14
  have HM14 := Lib.hid (HM13.out.kf hk14 HN11.out)
  have hsz13 := HB13.out.size
  have HB14 : Hid (Below w.heap.size w w14) := Lib.hid (HB13.out.trans (hk14.below (B := w.heap.size) (fun a ha => by
    simp only [List.mem_cons, List.not_mem_nil, or_false] at ha
    omega) hsz13))
  clear hF14 hG14 hk14 HRd HG13 HB13 HM13 HT12 HF12 HV2
  have HBy3 := Lib.hid (bytes_any n (by omega) b w14)
  go_wp2_with fail
  refine HBy3.out.mono ?_
  rintro e w15 ⟨gA, rfl, hgA, hF, hb⟩
  have HA := Lib.hid hF
  have HX15 := Lib.hid (HX14.out.below hb HX14.out.lt)
  have HM15 := Lib.hid (HM14.out.below hb HM14.out.lt)
  have HB15 := Lib.hid (HB14.out.trans (hb.mono HB14.out.size))
  clear hF hb HBy3 HB14 HX14 HM14
  go_upto_region 20 with fail
  obtain ⟨m, hm⟩ : ∃ m, at' + k = m := ⟨_, rfl⟩
  have hmn : m ≤ n := by omega
  have hma : at' ≤ m := by omega
  have hcn : at' ≤ n := by omega
  have hmi : (at' : Int) + k = m := by omega
  have HWm : Hid (IntKind.i64.wrap ((at' : Int) + k) = m) := Lib.hid (by
    rw [hmi]
    simp [IntKind.wrap, IntKind.bits, IntKind.signed]; omega)
  have HXX := Lib.hid (show ∀ i, i < n → (fun i => ctF DA Y2 B2 (0 + i)) i = if at' ≤ i ∧ i < at' + k then byF b2 (i - at') else byF b i from fun i hi => by
    simp only [Nat.zero_add]
    exact HX.out i hi)
  obtain ⟨X, hX⟩ : ∃ X, (fun i => ctF DA Y2 B2 (0 + i)) = X := ⟨_, rfl⟩
  rw [hX] at HXX HX15
  clear hX HX H0 H3 HS11 HN11 HCb hn ha hk hmi h00 h01 h10 h11 h20 h21 hb0 hb1 hd1 hd2 hdd hgg hdt hdm hw2 hw3 hq hp hwt hsz5 hz5 hsz6 hz6 ht2 hm2 hsz7 hq2 hp2 hsz8 hcbi hcb2 hsz9 hg11 hsz10 hsz11 hsz12 hbX hsz13 hgA HC8 HG HTab HBit HNl HNt
  obtain ⟨S1, S2, S3, hC⟩ := mid_strs bX gA g11 n at' k m b b2 X hm hmn HXX.out
  have HC := Lib.hid hC
  clear hC HXX
  refine wp_region_held (S := fun W => Fl W bX n X ∧ Fl W gA n (byF b) ∧ Fl W g11 k (byF b2)) (by kernel_rfl) ?_
  change wpAnyH _ _ _ _ _ _ _ _ (World.drew _)
  have hS0 : (fun W => Fl W bX n X ∧ Fl W gA n (byF b) ∧ Fl W g11 k (byF b2)) w15.drew := ⟨HX15.out.below (Below.refl _ _).drew HX15.out.lt, HA.out.below (Below.refl _ _).drew HA.out.lt, HM15.out.below (Below.refl _ _).drew HM15.out.lt⟩
  have HB16 := Lib.hid (HB15.out.trans ((Below.refl w15.heap.size w15).drew.mono HB15.out.size))
  obtain ⟨w16, hw16⟩ : ∃ x, World.drew w15 = x := ⟨_, rfl⟩
  rw [hw16] at hS0 HB16 ⊢
  clear hw16
  clear HX15 HA HM15 HB15
  refine wpAnyH_take (i := 0) (v := ?_) rfl (by kernel_rfl) (by kernel_rfl) (by kernel_rfl) (fun _ _ _ h => h) (Or.inl ⟨by kernel_rfl, ?_⟩) hS0 ?_
  rotate_left 1
  · intro W hW
    go_simp
    try with_reducible rfl
  simp only [Act.put, List.getElem_toArray, List.getElem_cons_zero, List.getElem_cons_succ, List.setIfInBounds_toArray, List.set_cons_zero, List.set_cons_succ]
  refine wpAnyH_take (i := 1) (v := ?_) rfl (by kernel_rfl) (by kernel_rfl) (by kernel_rfl) (fun _ _ _ h => h) (Or.inl ⟨by kernel_rfl, ?_⟩) hS0 ?_
  rotate_left 1
  · intro W hW
    go_simp
    try with_reducible rfl
  simp only [Act.put, List.getElem_toArray, List.getElem_cons_zero, List.getElem_cons_succ, List.setIfInBounds_toArray, List.set_cons_zero, List.set_cons_succ]
  refine wpAnyH_take (i := 2) (v := ?_) rfl (by kernel_rfl) (by kernel_rfl) (by kernel_rfl) (fun _ _ _ h => h) (Or.inl ⟨by kernel_rfl, ?_⟩) hS0 ?_
  rotate_left 1
  · intro W hW
    go_simp
    try with_reducible rfl
  simp only [Act.put, List.getElem_toArray, List.getElem_cons_zero, List.getElem_cons_succ, List.setIfInBounds_toArray, List.set_cons_zero, List.set_cons_succ]
  refine wpAnyH_take (i := 3) (v := ?_) rfl (by kernel_rfl) (by kernel_rfl) (by kernel_rfl) (fun _ _ _ h => h) (Or.inl ⟨by kernel_rfl, ?_⟩) hS0 ?_
  rotate_left 1
  · intro W hW
    go_simp
    try with_reducible rfl
  simp only [Act.put, List.getElem_toArray, List.getElem_cons_zero, List.getElem_cons_succ, List.setIfInBounds_toArray, List.set_cons_zero, List.set_cons_succ]
  refine wpAnyH_take (i := 4) (v := ?_) rfl (by kernel_rfl) (by kernel_rfl) (by kernel_rfl) (fun _ _ _ h => h) (Or.inl ⟨by kernel_rfl, ?_⟩) hS0 ?_
  rotate_left 1
  · intro W hW
    go_simp
    try with_reducible rfl
  simp only [Act.put, List.getElem_toArray, List.getElem_cons_zero, List.getElem_cons_succ, List.setIfInBounds_toArray, List.set_cons_zero, List.set_cons_succ]
  refine wpAnyH_take (i := 5) (v := ?_) rfl (by kernel_rfl) (by kernel_rfl) (by kernel_rfl) (fun _ _ _ h => h) (Or.inl ⟨by kernel_rfl, ?_⟩) hS0 ?_
  rotate_left 1
  · intro W hW
    go_simp
    try with_reducible rfl
  simp only [Act.put, List.getElem_toArray, List.getElem_cons_zero, List.getElem_cons_succ, List.setIfInBounds_toArray, List.set_cons_zero, List.set_cons_succ]
  refine wpAnyH_take (i := 6) (v := ?_) rfl (by kernel_rfl) (by kernel_rfl) (by kernel_rfl) (fun _ _ _ h => h) (Or.inl ⟨by kernel_rfl, ?_⟩) hS0 ?_
  rotate_left 1
  · intro W hW
    go_simp
    try with_reducible rfl
  simp only [Act.put, List.getElem_toArray, List.getElem_cons_zero, List.getElem_cons_succ, List.setIfInBounds_toArray, List.set_cons_zero, List.set_cons_succ]
  refine wpAnyH_take (i := 7) (v := ?_) rfl (by kernel_rfl) (by kernel_rfl) (by kernel_rfl) (fun _ _ _ h => h) (Or.inl ⟨by kernel_rfl, ?_⟩) hS0 ?_
  rotate_left 1
  · intro W hW
    go_simp
    try with_reducible rfl
  simp only [Act.put, List.getElem_toArray, List.getElem_cons_zero, List.getElem_cons_succ, List.setIfInBounds_toArray, List.set_cons_zero, List.set_cons_succ]
  refine wpAnyH_take (i := 8) (v := ?_) rfl (by kernel_rfl) (by kernel_rfl) (by kernel_rfl) (fun _ _ _ h => h) (Or.inl ⟨by kernel_rfl, ?_⟩) hS0 ?_
  rotate_left 1
  · intro W hW
    go_simp
    try with_reducible rfl
  simp only [Act.put, List.getElem_toArray, List.getElem_cons_zero, List.getElem_cons_succ, List.setIfInBounds_toArray, List.set_cons_zero, List.set_cons_succ]
  refine wpAnyH_take (i := 9) (v := ?_) rfl (by kernel_rfl) (by kernel_rfl) (by kernel_rfl) (fun _ _ _ h => h) (Or.inl ⟨by kernel_rfl, ?_⟩) hS0 ?_
  rotate_left 1
  · intro W hW
    go_simp
    try with_reducible rfl
  simp only [Act.put, List.getElem_toArray, List.getElem_cons_zero, List.getElem_cons_succ, List.setIfInBounds_toArray, List.set_cons_zero, List.set_cons_succ]
  refine wpAnyH_take (i := 10) (v := ?_) rfl (by kernel_rfl) (by kernel_rfl) (by kernel_rfl) (fun _ _ _ h => h) (Or.inl ⟨by kernel_rfl, ?_⟩) hS0 ?_
  rotate_left 1
  · intro W hW
    go_simp
    try with_reducible rfl
  simp only [Act.put, List.getElem_toArray, List.getElem_cons_zero, List.getElem_cons_succ, List.setIfInBounds_toArray, List.set_cons_zero, List.set_cons_succ]
  refine wpAnyH_take (i := 11) (v := ?_) rfl (by kernel_rfl) (by kernel_rfl) (by kernel_rfl) (fun _ _ _ h => h) (Or.inl ⟨by kernel_rfl, ?_⟩) hS0 ?_
  rotate_left 1
  · intro W hW
    go_simp
    try with_reducible rfl
  simp only [Act.put, List.getElem_toArray, List.getElem_cons_zero, List.getElem_cons_succ, List.setIfInBounds_toArray, List.set_cons_zero, List.set_cons_succ]
  refine wpAnyH_take (i := 12) (v := ?_) rfl (by kernel_rfl) (by kernel_rfl) (by kernel_rfl) (fun _ _ _ h => h) (Or.inl ⟨by kernel_rfl, ?_⟩) hS0 ?_
  rotate_left 1
  · intro W hW
    go_simp
    try with_reducible rfl
  simp only [Act.put, List.getElem_toArray, List.getElem_cons_zero, List.getElem_cons_succ, List.setIfInBounds_toArray, List.set_cons_zero, List.set_cons_succ]
  refine wpAnyH_take (i := 13) (v := ?_) rfl (by kernel_rfl) (by kernel_rfl) (by kernel_rfl) (fun _ _ _ h => h) (Or.inl ⟨by kernel_rfl, ?_⟩) hS0 ?_
  rotate_left 1
  · intro W hW
    go_simp
    try with_reducible rfl
  simp only [Act.put, List.getElem_toArray, List.getElem_cons_zero, List.getElem_cons_succ, List.setIfInBounds_toArray, List.set_cons_zero, List.set_cons_succ]
  refine wpAnyH_take (i := 14) (v := ?_) rfl (by kernel_rfl) (by kernel_rfl) (by kernel_rfl) (fun _ _ _ h => h) (Or.inl ⟨by kernel_rfl, ?_⟩) hS0 ?_
  rotate_left 1
  · intro W hW
    go_simp
    try with_reducible rfl
  simp only [Act.put, List.getElem_toArray, List.getElem_cons_zero, List.getElem_cons_succ, List.setIfInBounds_toArray, List.set_cons_zero, List.set_cons_succ]
  refine wpAnyH_take (i := 15) (v := ?_) rfl (by kernel_rfl) (by kernel_rfl) (by kernel_rfl) (fun _ _ _ h => h) (Or.inl ⟨by kernel_rfl, ?_⟩) hS0 ?_
  rotate_left 1
  · intro W hW
    go_simp
    try with_reducible rfl
  simp only [Act.put, List.getElem_toArray, List.getElem_cons_zero, List.getElem_cons_succ, List.setIfInBounds_toArray, List.set_cons_zero, List.set_cons_succ]
  refine wpAnyH_take (i := 16) (v := ?_) rfl (by kernel_rfl) (by kernel_rfl) (by kernel_rfl) (fun _ _ _ h => h) (Or.inl ⟨by kernel_rfl, ?_⟩) hS0 ?_
  rotate_left 1
  · intro W hW
    go_simp
    try with_reducible rfl
  simp only [Act.put, List.getElem_toArray, List.getElem_cons_zero, List.getElem_cons_succ, List.setIfInBounds_toArray, List.set_cons_zero, List.set_cons_succ]
  refine wpAnyH_take (i := 17) (v := ?_) rfl (by kernel_rfl) (by kernel_rfl) (by kernel_rfl) (fun _ _ _ h => h) (Or.inl ⟨by kernel_rfl, ?_⟩) hS0 ?_
  rotate_left 1
  · intro W hW
    go_simp
    try with_reducible rfl
  simp only [Act.put, List.getElem_toArray, List.getElem_cons_zero, List.getElem_cons_succ, List.setIfInBounds_toArray, List.set_cons_zero, List.set_cons_succ]
  refine wpAnyH_take (i := 18) (v := ?_) rfl (by kernel_rfl) (by kernel_rfl) (by kernel_rfl) (fun _ _ _ h => h) (Or.inl ⟨by kernel_rfl, ?_⟩) hS0 ?_
  rotate_left 1
  · intro W hW
    go_simp
    try with_reducible rfl
  simp only [Act.put, List.getElem_toArray, List.getElem_cons_zero, List.getElem_cons_succ, List.setIfInBounds_toArray, List.set_cons_zero, List.set_cons_succ]
  refine wpAnyH_take (i := 19) (v := ?_) rfl (by kernel_rfl) (by kernel_rfl) (by kernel_rfl) (fun _ _ _ h => h) (Or.inl ⟨by kernel_rfl, ?_⟩) hS0 ?_
  rotate_left 1
  · intro W hW
    go_simp
    try with_reducible rfl
  simp only [Act.put, List.getElem_toArray, List.getElem_cons_zero, List.getElem_cons_succ, List.setIfInBounds_toArray, List.set_cons_zero, List.set_cons_succ]
  refine wpAnyH_take (i := 20) (v := ?_) rfl (by kernel_rfl) (by kernel_rfl) (by kernel_rfl) (fun _ _ _ h => h) (Or.inl ⟨by kernel_rfl, ?_⟩) hS0 ?_
  rotate_left 1
  · intro W hW
    go_simp
    try with_reducible rfl
  simp only [Act.put, List.getElem_toArray, List.getElem_cons_zero, List.getElem_cons_succ, List.setIfInBounds_toArray, List.set_cons_zero, List.set_cons_succ]
  refine wpAnyH_take (i := 21) (v := .string S1) rfl (by kernel_rfl) (by kernel_rfl) (by kernel_rfl) (fun _ _ _ h => h) ?_ hS0 ?_
  · exact yields_conv (by kernel_rfl) 24 9 _ rfl (.slice (some ⟨bX, 0, none⟩) at' n) _ rfl (fun W hW => (HC.out W hW).1)
  simp only [Act.put, List.getElem_toArray, List.getElem_cons_zero, List.getElem_cons_succ, List.setIfInBounds_toArray, List.set_cons_zero, List.set_cons_succ]
  refine wpAnyH_take (i := 22) (v := ?_) rfl (by kernel_rfl) (by kernel_rfl) (by kernel_rfl) (fun _ _ _ h => h) (Or.inl ⟨by kernel_rfl, ?_⟩) hS0 ?_
  rotate_left 1
  · intro W hW
    go_simp
    try with_reducible rfl
  simp only [Act.put, List.getElem_toArray, List.getElem_cons_zero, List.getElem_cons_succ, List.setIfInBounds_toArray, List.set_cons_zero, List.set_cons_succ]
  refine wpAnyH_take (i := 23) (v := ?_) rfl (by kernel_rfl) (by kernel_rfl) (by kernel_rfl) (fun _ _ _ h => h) (Or.inl ⟨by kernel_rfl, ?_⟩) hS0 ?_
  rotate_left 1
  · intro W hW
    go_simp
    try with_reducible rfl
  simp only [Act.put, List.getElem_toArray, List.getElem_cons_zero, List.getElem_cons_succ, List.setIfInBounds_toArray, List.set_cons_zero, List.set_cons_succ]
  refine wpAnyH_take (i := 24) (v := ?_) rfl (by kernel_rfl) (by kernel_rfl) (by kernel_rfl) (fun _ _ _ h => h) (Or.inl ⟨by kernel_rfl, ?_⟩) hS0 ?_
  rotate_left 1
  · intro W hW
    go_simp
    try with_reducible rfl
  simp only [Act.put, List.getElem_toArray, List.getElem_cons_zero, List.getElem_cons_succ, List.setIfInBounds_toArray, List.set_cons_zero, List.set_cons_succ]
  refine wpAnyH_take (i := 25) (v := .string S1) rfl (by kernel_rfl) (by kernel_rfl) (by kernel_rfl) (fun _ _ _ h => h) ?_ hS0 ?_
  · exact yields_conv (by kernel_rfl) 24 9 _ rfl (.slice (some ⟨gA, 0, none⟩) at' n) _ rfl (fun W hW => (HC.out W hW).2.1)
  simp only [Act.put, List.getElem_toArray, List.getElem_cons_zero, List.getElem_cons_succ, List.setIfInBounds_toArray, List.set_cons_zero, List.set_cons_succ]
  refine wpAnyH_take (i := 26) (v := ?_) rfl (by kernel_rfl) (by kernel_rfl) (by kernel_rfl) (fun _ _ _ h => h) (Or.inl ⟨by kernel_rfl, ?_⟩) hS0 ?_
  rotate_left 1
  · intro W hW
    go_simp
    try with_reducible rfl
  simp only [Act.put, List.getElem_toArray, List.getElem_cons_zero, List.getElem_cons_succ, List.setIfInBounds_toArray, List.set_cons_zero, List.set_cons_succ]
  refine wpAnyH_take (i := 27) (v := ?_) rfl (by kernel_rfl) (by kernel_rfl) (by kernel_rfl) (fun _ _ _ h => h) (Or.inl ⟨by kernel_rfl, ?_⟩) hS0 ?_
  rotate_left 1
  · intro W hW
    go_simp
    try with_reducible rfl
  simp only [Act.put, List.getElem_toArray, List.getElem_cons_zero, List.getElem_cons_succ, List.setIfInBounds_toArray, List.set_cons_zero, List.set_cons_succ]
  refine wpAnyH_take (i := 28) (v := ?_) rfl (by kernel_rfl) (by kernel_rfl) (by kernel_rfl) (fun _ _ _ h => h) (Or.inl ⟨by kernel_rfl, ?_⟩) hS0 ?_
  rotate_left 1
  · intro W hW
    go_simp
    try with_reducible rfl
  simp only [Act.put, List.getElem_toArray, List.getElem_cons_zero, List.getElem_cons_succ, List.setIfInBounds_toArray, List.set_cons_zero, List.set_cons_succ]
  refine wpAnyH_take (i := 29) (v := ?_) rfl (by kernel_rfl) (by kernel_rfl) (by kernel_rfl) (fun _ _ _ h => h) (Or.inl ⟨by kernel_rfl, ?_⟩) hS0 ?_
  rotate_left 1
  · intro W hW
    go_simp
    try with_reducible rfl
  simp only [Act.put, List.getElem_toArray, List.getElem_cons_zero, List.getElem_cons_succ, List.setIfInBounds_toArray, List.set_cons_zero, List.set_cons_succ]
  refine wpAnyH_take (i := 30) (v := ?_) rfl (by kernel_rfl) (by kernel_rfl) (by kernel_rfl) (fun _ _ _ h => h) (Or.inl ⟨by kernel_rfl, ?_⟩) hS0 ?_
  rotate_left 1
  · intro W hW
    go_simp
    try with_reducible rfl
  simp only [Act.put, List.getElem_toArray, List.getElem_cons_zero, List.getElem_cons_succ, List.setIfInBounds_toArray, List.set_cons_zero, List.set_cons_succ]
  refine wpAnyH_take (i := 31) (v := ?_) rfl (by kernel_rfl) (by kernel_rfl) (by kernel_rfl) (fun _ _ _ h => h) (Or.inl ⟨by kernel_rfl, ?_⟩) hS0 ?_
  rotate_left 1
  · intro W hW
    go_simp
    try with_reducible rfl
  simp only [Act.put, List.getElem_toArray, List.getElem_cons_zero, List.getElem_cons_succ, List.setIfInBounds_toArray, List.set_cons_zero, List.set_cons_succ]
  refine wpAnyH_take (i := 32) (v := ?_) rfl (by kernel_rfl) (by kernel_rfl) (by kernel_rfl) (fun _ _ _ h => h) (Or.inl ⟨by kernel_rfl, ?_⟩) hS0 ?_
  rotate_left 1
  · intro W hW
    go_simp
    try with_reducible rfl
  simp only [Act.put, List.getElem_toArray, List.getElem_cons_zero, List.getElem_cons_succ, List.setIfInBounds_toArray, List.set_cons_zero, List.set_cons_succ]
  refine wpAnyH_take (i := 33) (v := .int .i64 m) rfl (by kernel_rfl) (by kernel_rfl) (by kernel_rfl) (fun _ _ _ h => h) ?_ hS0 ?_
  · exact Or.inl ⟨by kernel_rfl, fun W hW => by have e := HWm.out; go_simp⟩
  simp only [Act.put, List.getElem_toArray, List.getElem_cons_zero, List.getElem_cons_succ, List.setIfInBounds_toArray, List.set_cons_zero, List.set_cons_succ]
  refine wpAnyH_take (i := 34) (v := ?_) rfl (by kernel_rfl) (by kernel_rfl) (by kernel_rfl) (fun _ _ _ h => h) (Or.inl ⟨by kernel_rfl, ?_⟩) hS0 ?_
  rotate_left 1
  · intro W hW
    go_simp
    try with_reducible rfl
  simp only [Act.put, List.getElem_toArray, List.getElem_cons_zero, List.getElem_cons_succ, List.setIfInBounds_toArray, List.set_cons_zero, List.set_cons_succ]
  refine wpAnyH_take (i := 35) (v := .string S2) rfl (by kernel_rfl) (by kernel_rfl) (by kernel_rfl) (fun _ _ _ h => h) ?_ hS0 ?_
  · exact yields_conv (by kernel_rfl) 24 9 _ rfl (.slice (if n = at' then some ⟨bX, 0, none⟩ else some ⟨bX, at', none⟩) (m - at') (n - at')) _ rfl (fun W hW => (HC.out W hW).2.2.1)
  simp only [Act.put, List.getElem_toArray, List.getElem_cons_zero, List.getElem_cons_succ, List.setIfInBounds_toArray, List.set_cons_zero, List.set_cons_succ]
  refine wpAnyH_take (i := 36) (v := ?_) rfl (by kernel_rfl) (by kernel_rfl) (by kernel_rfl) (fun _ _ _ h => h) (Or.inl ⟨by kernel_rfl, ?_⟩) hS0 ?_
  rotate_left 1
  · intro W hW
    go_simp
    try with_reducible rfl
  simp only [Act.put, List.getElem_toArray, List.getElem_cons_zero, List.getElem_cons_succ, List.setIfInBounds_toArray, List.set_cons_zero, List.set_cons_succ]
  refine wpAnyH_take (i := 37) (v := .string S2) rfl (by kernel_rfl) (by kernel_rfl) (by kernel_rfl) (fun _ _ _ h => h) ?_ hS0 ?_
  · exact yields_conv (by kernel_rfl) 24 9 _ rfl (.slice (some ⟨g11, 0, none⟩) k k) _ rfl (fun W hW => (HC.out W hW).2.2.2.1)
  simp only [Act.put, List.getElem_toArray, List.getElem_cons_zero, List.getElem_cons_succ, List.setIfInBounds_toArray, List.set_cons_zero, List.set_cons_succ]
  refine wpAnyH_take (i := 38) (v := ?_) rfl (by kernel_rfl) (by kernel_rfl) (by kernel_rfl) (fun _ _ _ h => h) (Or.inl ⟨by kernel_rfl, ?_⟩) hS0 ?_
  rotate_left 1
  · intro W hW
    go_simp
    try with_reducible rfl
  simp only [Act.put, List.getElem_toArray, List.getElem_cons_zero, List.getElem_cons_succ, List.setIfInBounds_toArray, List.set_cons_zero, List.set_cons_succ]
  refine wpAnyH_take (i := 39) (v := ?_) rfl (by kernel_rfl) (by kernel_rfl) (by kernel_rfl) (fun _ _ _ h => h) (Or.inl ⟨by kernel_rfl, ?_⟩) hS0 ?_
  rotate_left 1
  · intro W hW
    go_simp
    try with_reducible rfl
  simp only [Act.put, List.getElem_toArray, List.getElem_cons_zero, List.getElem_cons_succ, List.setIfInBounds_toArray, List.set_cons_zero, List.set_cons_succ]
  refine wpAnyH_take (i := 40) (v := ?_) rfl (by kernel_rfl) (by kernel_rfl) (by kernel_rfl) (fun _ _ _ h => h) (Or.inl ⟨by kernel_rfl, ?_⟩) hS0 ?_
  rotate_left 1
  · intro W hW
    go_simp
    try with_reducible rfl
  simp only [Act.put, List.getElem_toArray, List.getElem_cons_zero, List.getElem_cons_succ, List.setIfInBounds_toArray, List.set_cons_zero, List.set_cons_succ]
  refine wpAnyH_take (i := 41) (v := ?_) rfl (by kernel_rfl) (by kernel_rfl) (by kernel_rfl) (fun _ _ _ h => h) (Or.inl ⟨by kernel_rfl, ?_⟩) hS0 ?_
  rotate_left 1
  · intro W hW
    go_simp
    try with_reducible rfl
  simp only [Act.put, List.getElem_toArray, List.getElem_cons_zero, List.getElem_cons_succ, List.setIfInBounds_toArray, List.set_cons_zero, List.set_cons_succ]
  refine wpAnyH_take (i := 42) (v := ?_) rfl (by kernel_rfl) (by kernel_rfl) (by kernel_rfl) (fun _ _ _ h => h) (Or.inl ⟨by kernel_rfl, ?_⟩) hS0 ?_
  rotate_left 1
  · intro W hW
    go_simp
    try with_reducible rfl
  simp only [Act.put, List.getElem_toArray, List.getElem_cons_zero, List.getElem_cons_succ, List.setIfInBounds_toArray, List.set_cons_zero, List.set_cons_succ]
  refine wpAnyH_take (i := 43) (v := ?_) rfl (by kernel_rfl) (by kernel_rfl) (by kernel_rfl) (fun _ _ _ h => h) (Or.inl ⟨by kernel_rfl, ?_⟩) hS0 ?_
  rotate_left 1
  · intro W hW
    go_simp
    try with_reducible rfl
  simp only [Act.put, List.getElem_toArray, List.getElem_cons_zero, List.getElem_cons_succ, List.setIfInBounds_toArray, List.set_cons_zero, List.set_cons_succ]
  refine wpAnyH_take (i := 44) (v := .int .i64 m) rfl (by kernel_rfl) (by kernel_rfl) (by kernel_rfl) (fun _ _ _ h => h) ?_ hS0 ?_
  · exact Or.inl ⟨by kernel_rfl, fun W hW => by have e := HWm.out; go_simp⟩
  simp only [Act.put, List.getElem_toArray, List.getElem_cons_zero, List.getElem_cons_succ, List.setIfInBounds_toArray, List.set_cons_zero, List.set_cons_succ]
  refine wpAnyH_take (i := 45) (v := ?_) rfl (by kernel_rfl) (by kernel_rfl) (by kernel_rfl) (fun _ _ _ h => h) (Or.inl ⟨by kernel_rfl, ?_⟩) hS0 ?_
  rotate_left 1
  · intro W hW
    go_simp
    try with_reducible rfl
  simp only [Act.put, List.getElem_toArray, List.getElem_cons_zero, List.getElem_cons_succ, List.setIfInBounds_toArray, List.set_cons_zero, List.set_cons_succ]
  refine wpAnyH_take (i := 46) (v := .string S3) rfl (by kernel_rfl) (by kernel_rfl) (by kernel_rfl) (fun _ _ _ h => h) ?_ hS0 ?_
  · exact yields_conv (by kernel_rfl) 24 9 _ rfl (.slice (if n = m then some ⟨bX, 0, none⟩ else some ⟨bX, m, none⟩) (n - m) (n - m)) _ rfl (fun W hW => (HC.out W hW).2.2.2.2.1)
  simp only [Act.put, List.getElem_toArray, List.getElem_cons_zero, List.getElem_cons_succ, List.setIfInBounds_toArray, List.set_cons_zero, List.set_cons_succ]
  refine wpAnyH_take (i := 47) (v := ?_) rfl (by kernel_rfl) (by kernel_rfl) (by kernel_rfl) (fun _ _ _ h => h) (Or.inl ⟨by kernel_rfl, ?_⟩) hS0 ?_
  rotate_left 1
  · intro W hW
    go_simp
    try with_reducible rfl
  simp only [Act.put, List.getElem_toArray, List.getElem_cons_zero, List.getElem_cons_succ, List.setIfInBounds_toArray, List.set_cons_zero, List.set_cons_succ]
  refine wpAnyH_take (i := 48) (v := ?_) rfl (by kernel_rfl) (by kernel_rfl) (by kernel_rfl) (fun _ _ _ h => h) (Or.inl ⟨by kernel_rfl, ?_⟩) hS0 ?_
  rotate_left 1
  · intro W hW
    go_simp
    try with_reducible rfl
  simp only [Act.put, List.getElem_toArray, List.getElem_cons_zero, List.getElem_cons_succ, List.setIfInBounds_toArray, List.set_cons_zero, List.set_cons_succ]
  refine wpAnyH_take (i := 49) (v := ?_) rfl (by kernel_rfl) (by kernel_rfl) (by kernel_rfl) (fun _ _ _ h => h) (Or.inl ⟨by kernel_rfl, ?_⟩) hS0 ?_
  rotate_left 1
  · intro W hW
    go_simp
    try with_reducible rfl
  simp only [Act.put, List.getElem_toArray, List.getElem_cons_zero, List.getElem_cons_succ, List.setIfInBounds_toArray, List.set_cons_zero, List.set_cons_succ]
  refine wpAnyH_take (i := 50) (v := .int .i64 m) rfl (by kernel_rfl) (by kernel_rfl) (by kernel_rfl) (fun _ _ _ h => h) ?_ hS0 ?_
  · exact Or.inl ⟨by kernel_rfl, fun W hW => by have e := HWm.out; go_simp⟩
  simp only [Act.put, List.getElem_toArray, List.getElem_cons_zero, List.getElem_cons_succ, List.setIfInBounds_toArray, List.set_cons_zero, List.set_cons_succ]
  refine wpAnyH_take (i := 51) (v := ?_) rfl (by kernel_rfl) (by kernel_rfl) (by kernel_rfl) (fun _ _ _ h => h) (Or.inl ⟨by kernel_rfl, ?_⟩) hS0 ?_
  rotate_left 1
  · intro W hW
    go_simp
    try with_reducible rfl
  simp only [Act.put, List.getElem_toArray, List.getElem_cons_zero, List.getElem_cons_succ, List.setIfInBounds_toArray, List.set_cons_zero, List.set_cons_succ]
  refine wpAnyH_take (i := 52) (v := .string S3) rfl (by kernel_rfl) (by kernel_rfl) (by kernel_rfl) (fun _ _ _ h => h) ?_ hS0 ?_
  · exact yields_conv (by kernel_rfl) 24 9 _ rfl (.slice (if n = m then some ⟨gA, 0, none⟩ else some ⟨gA, m, none⟩) (n - m) (n - m)) _ rfl (fun W hW => (HC.out W hW).2.2.2.2.2)
  simp only [Act.put, List.getElem_toArray, List.getElem_cons_zero, List.getElem_cons_succ, List.setIfInBounds_toArray, List.set_cons_zero, List.set_cons_succ]
  refine wpAnyH_take (i := 53) (v := ?_) rfl (by kernel_rfl) (by kernel_rfl) (by kernel_rfl) (fun _ _ _ h => h) (Or.inl ⟨by kernel_rfl, ?_⟩) hS0 ?_
  rotate_left 1
  · intro W hW
    go_simp
    try with_reducible rfl
  simp only [Act.put, List.getElem_toArray, List.getElem_cons_zero, List.getElem_cons_succ, List.setIfInBounds_toArray, List.set_cons_zero, List.set_cons_succ]
  refine wpAnyH_take (i := 54) (v := ?_) rfl (by kernel_rfl) (by kernel_rfl) (by kernel_rfl) (fun _ _ _ h => h) (Or.inl ⟨by kernel_rfl, ?_⟩) hS0 ?_
  rotate_left 1
  · intro W hW
    go_simp
    try with_reducible rfl
  simp only [Act.put, List.getElem_toArray, List.getElem_cons_zero, List.getElem_cons_succ, List.setIfInBounds_toArray, List.set_cons_zero, List.set_cons_succ]
  refine wpAnyH_take (i := 55) (v := ?_) rfl (by kernel_rfl) (by kernel_rfl) (by kernel_rfl) (fun _ _ _ h => h) (Or.inl ⟨by kernel_rfl, ?_⟩) hS0 ?_
  rotate_left 1
  · intro W hW
    go_simp
    try with_reducible rfl
  simp only [Act.put, List.getElem_toArray, List.getElem_cons_zero, List.getElem_cons_succ, List.setIfInBounds_toArray, List.set_cons_zero, List.set_cons_succ]
  refine wpAnyH_done (by kernel_rfl) ?_ _
  clear hS0
  go_wp2_with fail
  all_goals (go_ret; exact ⟨rfl, HB16.out⟩)
end Go.Proofs.YtflcpbjdilpbpaaGreat
