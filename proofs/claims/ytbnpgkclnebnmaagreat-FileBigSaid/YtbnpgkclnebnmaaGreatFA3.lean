import Derived.Test.YtbnpgkclnebnmaaGreatFA2
/- Files: one as long as may be: the walk. -/
namespace Go.Proofs.YtbnpgkclnebnmaaGreat
set_option linter.unusedSimpArgs false
set_option linter.unusedVariables false
open Go.RowKit Go.Maps

set_option maxHeartbeats 40000000 in
set_option maxRecDepth 200000 in
theorem filebig_walk (lb : Int) (h0 : 0 ≤ lb) (h1 : lb < 256) (mo : Bool) (w : World) :
    Calls Tryz.prog 6 #[.int .u8 lb, .bool mo] w fun e w' => e = .returned (.bool true) ∧ Below w.heap.size w w' := by
  obtain ⟨N, g, B0, P0, DA, hco⟩ := co_any 270 (by decide) (by decide)
  have HCO := Lib.hid hco
  have HGG := Lib.hid hco.gg
  clear hco
  obtain ⟨k, hk, hk1⟩ := tmod_n lb 64 h0 (by decide)
  have hk0 : (0 : Int) ≤ k := by omega
  go_enter Tryz.func6, Tryz.ntmps6
  go_wp2_with fail
  refine (awake8 w).mono ?_
  rintro e w1 ⟨rfl, hb1⟩
  have HB1 := Lib.hid hb1
  clear hb1
  go_wp2_with (first | (refine wpList_bld6 rfl 41 0 2 3 4 5 6 _ _ _ _ _ _ rfl (.string ⟨#[108, 111, 119]⟩) (.int .i64 270) (.int .i64 8) (.int .i64 1) (.int .i64 1) (.int .i64 1) rfl rfl rfl rfl rfl rfl _ (Tryz.buildRg 270 _) ?_) | (refine wpList_sliceRg rfl (.tmp 29) rfl 270 rfl ?_; intro wa HVa HBa))
  refine (newO 270 (.inl rfl) _ wa HVa.out).mono ?_
  rintro e w2 ⟨n, vr, vm, vg, rfl, -, hb2, hCF⟩
  have HB2 : Hid (Below w.heap.size w w2) := Lib.hid (HB1.out.trans ((HBa.out.trans (hb2.mono HBa.out.size)).mono HB1.out.size))
  have HCF := Lib.hid hCF
  clear hb2 hCF HBa HVa HB1
  go_wp2_with fail
  refine (freshO (by decide) (by decide) HCO.out n vr vm vg w2 HCF.out).mono ?_
  rintro e w3 ⟨t, mm, dd, gg, l, Y0, rfl, hFr, hll, hln, hLg, hRd, hTab, hbit, hb3⟩
  have HR3 := Lib.hid hRd
  have HL3 := Lib.hid hLg
  have HTab := Lib.hid hTab
  have HBit := Lib.hid hbit
  have HZ3 := Lib.hid hb3
  have HLL := Lib.hid hLg.lt
  have HNl := Lib.hid hln
  have hdd : w2.heap.size ≤ dd := hFr.2.2.1
  have hgg : w2.heap.size ≤ gg := hFr.2.2.2
  have hdt : w2.heap.size ≤ t := hFr.1
  have hdm : w2.heap.size ≤ mm := hFr.2.1
  have HCFx : Hid (∀ W, Below w2.heap.size w2 W → Cf.CF n W vr vm vg (RB 270) []) := Lib.hid (fun W hk => HCF.out.below hk)
  have HDl : Hid (l ≠ dd ∧ l ≠ gg) := Lib.hid (by
    have := hln
    simp only [List.mem_cons, List.not_mem_nil, or_false, not_or] at this
    omega)
  clear hFr hll hln hLg hRd hTab hbit hb3 HCF
  go_wp2_with fail
  go_loopw [10, 11, 12, 13] (fun av _ _ _ wr => ∃ r a : Nat, Hid (1024 * r = a) ∧ r ≤ 15 ∧ av = .int .i64 a ∧ (∃ t m Y V B X K, Rd wr t m dd gg N ⟨[], Y⟩ Y K ∧ K ≤ 7000 + 26000 * r ∧ St B0 P0 DA 270 Y V B a X) ∧ Lg wr l dd 1 ∧ Below w2.heap.size w2 wr) (fun av _ _ _ _ => 15360 - (Go.RowKit.intOf av).toNat)
  case atStart => exact ⟨0, 0, Lib.hid rfl, by omega, rfl, ⟨t, mm, Y0, VF 3, fun _ => 0, fun _ => 0, 7000, HR3.out, by omega, St.start HTab.out HBit.out (by decide) _ _⟩, HL3.out, HZ3.out⟩
  case round =>
    obtain ⟨r, a, HA, hr, rfl, ⟨t1, m1, Y, V, B, X, K, hR, hK, hS⟩, hL, hB⟩ := hrel
    have HR := Lib.hid hR
    have HS := Lib.hid hS
    have HL := Lib.hid hL
    have HZ7 := Lib.hid hB
    have hsz7 := hB.size
    have hlr := hL.lt
    have hra : Hid (a ≤ 15360 ∧ (r < 15 ↔ a < 15360) ∧ a / 64 = 16 * r) := Lib.hid (by have := HA.out; omega)
    have hK2 : K ≤ 400000 := by omega
    have ha0 : (0 : Int) ≤ a := by omega
    have ha1 : (a : Int) ≤ 15360 := by have := hra.out; omega
    have HK := Lib.hid hK
    clear hR hS hL hB HR3 HL3 HZ3 HTab HBit hK
    have HBg := Lib.hid (begin7 l t1 m1 dd gg K Y wr HR.out HL.out)
    have HOP := Lib.hid (fun W t2 m2 (hW : Below w2.heap.size w2 W) hR => openO HCO.out ⟨dl B0 (P0 + 1) DA B (ndS ((a + 63) / 64)) (LQ (a / 64)), Y⟩ t2 m2 dd gg n K Y vr vm vg W (HCFx.out W hW) hR)
    by_cases hlt : r < 15
    · have hd : decide ((a : Int) < 15360) = true := decide_eq_true (by have := hra.out; omega)
      go_wp2_with fail
      refine HBg.out.mono ?_
      rintro e w8 ⟨t2, m2, rfl, ht2, hm2, hR8, hb8⟩
      have HR8 := Lib.hid hR8
      have HZ8 := Lib.hid (HZ7.out.trans (hb8.mono hsz7))
      have HL8 := Lib.hid (HL.out.keep hb8)
      have hsz8 := HZ8.out.size
      have hs78 := hb8.size
      clear hR8 hb8 HBg HR HL
      go_wp2_with fail
      refine (HOP.out w8 t2 m2 HZ8.out (HR8.out.wide (Lm.nil_le _ _))).mono ?_
      rintro e w9 ⟨q, p, rfl, hq, hp, hG9, hb9⟩
      have HG9 := Lib.hid hG9
      have HZ9 := Lib.hid (HZ8.out.trans (hb9.mono hsz8))
      have HL9 := Lib.hid (HL8.out.keep hb9)
      have hsz9 := HZ9.out.size
      clear hG9 hb9 HR8 HZ8 HL8 HOP
      have HBy := Lib.hid (fun z => bytes_any 1024 (by decide) z w9)
      go_wp2_with fail
      refine (HBy.out _).mono ?_
      rintro e w10 ⟨g10, rfl, hg10, hF, hb⟩
      have HF10 := Lib.hid hF
      have HG10 := Lib.hid (HG9.out.keep hb)
      have HZ10 := Lib.hid (HZ9.out.trans (hb.mono hsz9))
      have HL10 := Lib.hid (HL9.out.keep hb)
      have hS10 : g10 ∉ [t2, m2, dd, gg] := HG9.out.rd.notin hg10
      have HW := Lib.hid (writeO HCO.out (by decide) q p t2 m2 dd gg K Y V Y B a X HS.out (by omega) w10 HG10.out 1024 (Nat.le_refl _) (by have := HA.out; omega) _ _ (fun j _ => byF_bd _ j) (Src.made w10 g10 1024 _ [t2, m2, dd, gg] HF10.out (by unfold maxLen; omega) hS10))
      clear hF hb hS10 HBy HG9 HL9 HZ9
      go_wp2_with fail
      refine HW.out.mono ?_
      rintro e w11 ⟨Y1, V1, B1, rfl, hG11, hk11, hS11⟩
      have HG11 := Lib.hid hG11
      have HS11 := Lib.hid hS11
      have hnl : l ∉ [t2, m2, dd, gg] := by
        have := HDl.out
        simp only [List.mem_cons, List.not_mem_nil, or_false, not_or]
        omega
      have hsz10 := HZ10.out.size
      have HZ11 : Hid (Below w2.heap.size w2 w11) := Lib.hid (HZ10.out.trans (hk11.below (B := w2.heap.size) (fun a ha => by
        simp only [List.mem_cons, List.not_mem_nil, or_false] at ha
        omega) hsz10))
      have HL11 := Lib.hid (HL10.out.kf hk11 hnl)
      clear hG11 hk11 hS11 HW HG10 HL10 HZ10 HF10
      have HCm := Lib.hid (commit7 t2 m2 dd gg (K + 25000) Y1 (Ly.len (LQ (a / 64)) (by rw [LQ_len]; decide) _ _ _ _ _) (by omega) w11 HG11.out.rd)
      go_wp2_with fail
      refine HCm.out.mono ?_
      rintro e w12 ⟨rfl, hR12, hk12⟩
      have HR12 := Lib.hid hR12
      have hsz11 := HZ11.out.size
      have HZ12 : Hid (Below w2.heap.size w2 w12) := Lib.hid (HZ11.out.trans (hk12.below (B := w2.heap.size) (fun a ha => by
        simp only [List.mem_cons, List.not_mem_nil, or_false] at ha
        omega) hsz11))
      have HL12 := Lib.hid (HL11.out.kf hk12 hnl)
      clear hR12 hk12 HCm HG11 HL11 HZ11
      go_wp2_with fail
      go_roundw
      case rel => exact ⟨r + 1, a + 1024, Lib.hid (by have := HA.out; omega), by omega, by go_num, ⟨t2, m2, Y1, V1, B1, _, _, HR12.out, by have := HK.out; omega, HS11.out⟩, HL12.out, HZ12.out⟩
      case measure =>
        have hh := hra.out.2.1.1 hlt
        simp [Go.RowKit.intOf]
        omega
    · have hd : decide ((a : Int) < 15360) = false := decide_eq_false (by have := hra.out; omega)
      have HA15 : Hid (a = 15360) := Lib.hid (by have := hra.out; omega)
      clear hlt
      go_wp2_with fail
      refine HBg.out.mono ?_
      rintro e w8 ⟨t2, m2, rfl, ht2, hm2, hR8, hb8⟩
      have HR8 := Lib.hid hR8
      have HZ8 := Lib.hid (HZ7.out.trans (hb8.mono hsz7))
      have hsz8 := HZ8.out.size
      have hs78 := hb8.size
      clear hR8 hb8 HBg HR HL
      go_wp2_with fail
      refine (HOP.out w8 t2 m2 HZ8.out (HR8.out.wide (Lm.nil_le _ _))).mono ?_
      rintro e w9 ⟨q, p, rfl, hq, hp, hG9, hb9⟩
      have HG9 := Lib.hid hG9
      have HZ9 := Lib.hid (HZ8.out.trans (hb9.mono hsz8))
      have hsz9 := HZ9.out.size
      clear hG9 hb9 HR8 HZ8 HOP
      cases mo
      · obtain ⟨n1, hn1⟩ : ∃ n1 : Nat, (1024 : Int) - k = n1 := ⟨1024 - k, by omega⟩
        have hn2 : 961 ≤ n1 ∧ n1 ≤ 1024 := by omega
        have HBy := Lib.hid (bytes_any n1 (by omega) 1 w9)
        go_wp2_with fail
        refine HBy.out.mono ?_
        rintro e w10 ⟨g10, rfl, hg10, hF, hb⟩
        have HF10 := Lib.hid hF
        have HG10 := Lib.hid (HG9.out.keep hb)
        have HZ10 := Lib.hid (HZ9.out.trans (hb.mono hsz9))
        have hS10 : g10 ∉ [t2, m2, dd, gg] := HG9.out.rd.notin hg10
        have HW := Lib.hid (writeO HCO.out (by decide) q p t2 m2 dd gg K Y V Y B a X HS.out (by omega) w10 HG10.out n1 (by omega) (by have := HA15.out; omega) _ _ (fun j _ => byF_bd _ j) (Src.made w10 g10 n1 _ [t2, m2, dd, gg] HF10.out (by unfold maxLen; omega) hS10))
        clear hF hb hS10 HBy HG9 HZ9
        go_wp2_with fail
        refine HW.out.mono ?_
        rintro e w11 ⟨Y1, V1, B1, rfl, hG11, hk11, hS11⟩
        have HG11 := Lib.hid hG11
        have HS11 := Lib.hid hS11
        have hsz10 := HZ10.out.size
        have HZ11 : Hid (Below w2.heap.size w2 w11) := Lib.hid (HZ10.out.trans (hk11.below (B := w2.heap.size) (fun a ha => by
          simp only [List.mem_cons, List.not_mem_nil, or_false] at ha
          omega) hsz10))
        clear hG11 hk11 hS11 HW HG10 HZ10 HF10
        have hcb : (setL (bt Y1 B0) 270).length = 265 := by
          rw [HS11.out.count, show (a + n1 + 63) / 64 = 256 from by have := HA15.out; omega]
          decide
        obtain ⟨cn, hcn⟩ : ∃ c, cN V1 8 = c := ⟨_, rfl⟩
        have HU := Lib.hid (gusage q p t2 m2 dd gg 0 B0 P0 8 DA 270 N _ g Y1 V1 265 hcb cn hcn (by omega) HS11.out.tab HGG.out w11 HG11.out)
        clear hcb hcn
        go_wp2_with fail
        refine HU.out.mono ?_
        rintro e w12 ⟨rfl, hG12, hk12⟩
        have HG12 := Lib.hid hG12
        have hsz11 := HZ11.out.size
        have HZ12 : Hid (Below w2.heap.size w2 w12) := Lib.hid (HZ11.out.trans (hk12.below (B := w2.heap.size) (fun a ha => by
          simp only [List.mem_cons, List.not_mem_nil, or_false] at ha
          omega) hsz11))
        clear hG12 hk12 HU HG11 HZ11
        obtain ⟨oo, hoo⟩ : ∃ o : Nat, (a : Int) - 1 = o := ⟨a - 1, by have := HA15.out; omega⟩
        obtain ⟨cc, hcc⟩ : ∃ c : Nat, (n1 : Int) + 1 = c := ⟨n1 + 1, by omega⟩
        have HRd := Lib.hid (fread_in q p t2 m2 dd gg 0 B0 P0 8 DA 270 N _ g Y1 V1 3 (by decide) (by decide) (by rw [HS11.out.k]; decide) (a + n1) HS11.out.s (by have := HA15.out; omega) B1 _ HS11.out.fu.fi (fun c hc => (ndS_iff _ _).2 (by omega)) HS11.out.tab (by omega) HGG.out w12 HG12.out oo (by omega) 2000 (by decide) (by decide) cc (by omega))
        go_wp2_with fail
        refine HRd.out.mono ?_
        rintro e w13 ⟨bX, rfl, hbX, hF13, hG13, hk13⟩
        have hsz12 := HZ12.out.size
        have HZ13 : Hid (Below w2.heap.size w2 w13) := Lib.hid (HZ12.out.trans (hk13.below (B := w2.heap.size) (fun a ha => by
          simp only [List.mem_cons, List.not_mem_nil, or_false] at ha
          omega) hsz12))
        clear hF13 hG13 hk13 HRd HG12 HZ12
        have HBl := Lib.hid (fblock_big q w13)
        go_wp2_with (refine wpList_bld0 rfl 68 rfl (.agg (ndc zpt).toArray) (Tryz.buildN0 _) ?_)
        refine HBl.out.mono ?_
        rintro e w14 ⟨rfl, hb⟩
        have HZ14 := Lib.hid (HZ13.out.trans (hb.mono HZ13.out.size))
        clear hb HBl HZ13
        go_wp2_with fail
        go_ret
        exact ⟨rfl, HB2.out.trans (HZ14.out.mono HB2.out.size)⟩
      · obtain ⟨n1, hn1⟩ : ∃ n1 : Nat, (1025 : Int) + lb = n1 := ⟨(1025 + lb).toNat, by omega⟩
        have hn2 : 1025 ≤ n1 ∧ n1 ≤ 1280 := by omega
        have HBy := Lib.hid (bytes_any n1 (by omega) 1 w9)
        go_wp2_with fail
        refine HBy.out.mono ?_
        rintro e w10 ⟨g10, rfl, hg10, hF, hb⟩
        have HG10 := Lib.hid (HG9.out.keep hb)
        have HZ10 := Lib.hid (HZ9.out.trans (hb.mono hsz9))
        have HW := Lib.hid (fwrite_big q p t2 m2 dd gg 0 B0 P0 8 DA 270 N K _ g Y V 3 (by decide) (by decide) (by rw [HS.out.k]; decide) a HS.out.s (by have := HA15.out; omega) HS.out.tab (by omega) HGG.out w10 HG10.out a n1 (Nat.le_refl _) (by omega) (by have := HA15.out; omega) (some ⟨g10, 0, none⟩) n1)
        clear hF hb HBy HG9 HZ9
        go_wp2_with fail
        refine HW.out.mono ?_
        rintro e w11 ⟨rfl, hG11, hk11⟩
        have hsz10 := HZ10.out.size
        have HZ11 : Hid (Below w2.heap.size w2 w11) := Lib.hid (HZ10.out.trans (hk11.below (B := w2.heap.size) (fun a ha => by
          simp only [List.mem_cons, List.not_mem_nil, or_false] at ha
          omega) hsz10))
        clear hG11 hk11 HW HG10 HZ10
        go_wp2_with fail
        go_ret
        exact ⟨rfl, HB2.out.trans (HZ11.out.mono HB2.out.size)⟩
end Go.Proofs.YtbnpgkclnebnmaaGreat
