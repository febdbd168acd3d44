import Derived.Test.YtkkdbckaolhmnaaL1
/- GroupNone: the walk. -/
namespace Go.Proofs.Ytkkdbckaolhmnaa
set_option linter.unusedSimpArgs false
set_option linter.unusedVariables false
open Go.RowKit Go.Maps

set_option maxHeartbeats 80000000 in
set_option maxRecDepth 200000 in
theorem none_walk (m : Int) (m0 : 0 ≤ m) (m1 : m < 256) (H : Nat → Nat → Int) (hH : Cf.Hok H) (tv : Value) (ts : List Int) (hts : ∀ x ∈ ts, 0 ≤ x ∧ x < 256) (lab num nn : Int) (n0 : 0 ≤ nn) (n1 : nn < 65536) (w : World) (htv : Cf.U8s w tv ts) (hl : ts.length ≤ maxLen) :
    Calls Try.prog 5 #[Cf.sizeVal m H tv, .int .i64 lab, .int .i64 num, .int .u16 nn] w fun e w' => e = .returned (.bool true) ∧ Below w.heap.size w w' := by
  obtain ⟨M, hM⟩ : ∃ M, 2 + m.toNat % 4 = M := ⟨_, rfl⟩
  have hM4 : M = 2 ∨ M = 3 ∨ M = 4 ∨ M = 5 := by omega
  have hP := Lib.hid (fun W (h : Cf.U8s W tv ts) => Cf.sizeconf_any m m0 m1 H hH tv ts hts W h hl M hM)
  have HLEN := Lib.hid (Cf.sizeRs_len M hM4 H)
  have HSM := Lib.hid (Cf.size_small M hM4 H hH)
  have HTV := Lib.hid htv
  have HA := Lib.hid (fun W => awake_any W)
  have hc : (w.alloc (.cells #[.int .u8 m, .int .u8 (H 0 0), .int .u8 (H 0 1), .int .u8 (H 0 2), .int .u8 (H 0 3), .int .u8 (H 0 4), .int .u8 (H 1 0), .int .u8 (H 1 1), .int .u8 (H 1 2), .int .u8 (H 1 3), .int .u8 (H 1 4), .int .u8 (H 2 0), .int .u8 (H 2 1), .int .u8 (H 2 2), .int .u8 (H 2 3), .int .u8 (H 2 4), .int .u8 (H 3 0), .int .u8 (H 3 1), .int .u8 (H 3 2), .int .u8 (H 3 3), .int .u8 (H 3 4), .int .u8 (H 4 0), .int .u8 (H 4 1), .int .u8 (H 4 2), .int .u8 (H 4 3), .int .u8 (H 4 4), tv] 26)).rangeAt w.heap.size 0 [.int .u8 m, .int .u8 (H 0 0), .int .u8 (H 0 1), .int .u8 (H 0 2), .int .u8 (H 0 3), .int .u8 (H 0 4), .int .u8 (H 1 0), .int .u8 (H 1 1), .int .u8 (H 1 2), .int .u8 (H 1 3), .int .u8 (H 1 4), .int .u8 (H 2 0), .int .u8 (H 2 1), .int .u8 (H 2 2), .int .u8 (H 2 3), .int .u8 (H 2 4), .int .u8 (H 3 0), .int .u8 (H 3 1), .int .u8 (H 3 2), .int .u8 (H 3 3), .int .u8 (H 3 4), .int .u8 (H 4 0), .int .u8 (H 4 1), .int .u8 (H 4 2), .int .u8 (H 4 3), .int .u8 (H 4 4), tv] := by
    intro j u hj
    have := Cf.cells_new w [.int .u8 m, .int .u8 (H 0 0), .int .u8 (H 0 1), .int .u8 (H 0 2), .int .u8 (H 0 3), .int .u8 (H 0 4), .int .u8 (H 1 0), .int .u8 (H 1 1), .int .u8 (H 1 2), .int .u8 (H 1 3), .int .u8 (H 1 4), .int .u8 (H 2 0), .int .u8 (H 2 1), .int .u8 (H 2 2), .int .u8 (H 2 3), .int .u8 (H 2 4), .int .u8 (H 3 0), .int .u8 (H 3 1), .int .u8 (H 3 2), .int .u8 (H 3 3), .int .u8 (H 3 4), .int .u8 (H 4 0), .int .u8 (H 4 1), .int .u8 (H 4 2), .int .u8 (H 4 3), .int .u8 (H 4 4), tv] 26 j u hj
    rw [Addr.add_mid] at this
    exact this
  have hq : (Try.prog.underlying 26).map (·.isRow) = some true := by kernel_rfl
  obtain ⟨d, hu, hd⟩ := Option.map_eq_some_iff.1 hq
  have hi : (Try.prog.info? 26).map (·.size) = some ([.int .u8 m, .int .u8 (H 0 0), .int .u8 (H 0 1), .int .u8 (H 0 2), .int .u8 (H 0 3), .int .u8 (H 0 4), .int .u8 (H 1 0), .int .u8 (H 1 1), .int .u8 (H 1 2), .int .u8 (H 1 3), .int .u8 (H 1 4), .int .u8 (H 2 0), .int .u8 (H 2 1), .int .u8 (H 2 2), .int .u8 (H 2 3), .int .u8 (H 2 4), .int .u8 (H 3 0), .int .u8 (H 3 1), .int .u8 (H 3 2), .int .u8 (H 3 3), .int .u8 (H 3 4), .int .u8 (H 4 0), .int .u8 (H 4 1), .int .u8 (H 4 2), .int .u8 (H 4 3), .int .u8 (H 4 4), tv] : List Value).length := by kernel_rfl
  have HC := Lib.hid hc
  have HU := Lib.hid hu
  have HD := Lib.hid hd
  have HI := Lib.hid hi
  unfold Cf.sizeVal at hP ⊢
  clear hc hu hd hi hq htv hts hH hM 
  go_enter Try.func5, Try.ntmps5
  go_wp2_with fail
  obtain ⟨W, hW⟩ : ∃ z, w.alloc (.cells #[.int .u8 m, .int .u8 (H 0 0), .int .u8 (H 0 1), .int .u8 (H 0 2), .int .u8 (H 0 3), .int .u8 (H 0 4), .int .u8 (H 1 0), .int .u8 (H 1 1), .int .u8 (H 1 2), .int .u8 (H 1 3), .int .u8 (H 1 4), .int .u8 (H 2 0), .int .u8 (H 2 1), .int .u8 (H 2 2), .int .u8 (H 2 3), .int .u8 (H 2 4), .int .u8 (H 3 0), .int .u8 (H 3 1), .int .u8 (H 3 2), .int .u8 (H 3 3), .int .u8 (H 3 4), .int .u8 (H 4 0), .int .u8 (H 4 1), .int .u8 (H 4 2), .int .u8 (H 4 3), .int .u8 (H 4 4), tv] 26) = z := ⟨_, rfl⟩
  rw [hW] at HC ⊢
  have hbW : Below w.heap.size w W := by rw [← hW]; exact (Below.refl _ _).alloc (Nat.le_refl _) _
  have hlW : w.heap.size < W.heap.size := by rw [← hW]; simp
  obtain ⟨sv0, hsv⟩ : ∃ x : Value, .agg #[.int .u8 m, .int .u8 (H 0 0), .int .u8 (H 0 1), .int .u8 (H 0 2), .int .u8 (H 0 3), .int .u8 (H 0 4), .int .u8 (H 1 0), .int .u8 (H 1 1), .int .u8 (H 1 2), .int .u8 (H 1 3), .int .u8 (H 1 4), .int .u8 (H 2 0), .int .u8 (H 2 1), .int .u8 (H 2 2), .int .u8 (H 2 3), .int .u8 (H 2 4), .int .u8 (H 3 0), .int .u8 (H 3 1), .int .u8 (H 3 2), .int .u8 (H 3 3), .int .u8 (H 3 4), .int .u8 (H 4 0), .int .u8 (H 4 1), .int .u8 (H 4 2), .int .u8 (H 4 3), .int .u8 (H 4 4), tv] = x := ⟨_, rfl⟩
  rw [hsv]
  clear hW
  refine (HA.out W).mono ?_
  rintro e w1 ⟨rfl, hb1⟩
  have HB1 := Lib.hid (hbW.trans (hb1.mono hbW.size))
  have HC1 : Hid (w1.rangeAt w.heap.size 0 [.int .u8 m, .int .u8 (H 0 0), .int .u8 (H 0 1), .int .u8 (H 0 2), .int .u8 (H 0 3), .int .u8 (H 0 4), .int .u8 (H 1 0), .int .u8 (H 1 1), .int .u8 (H 1 2), .int .u8 (H 1 3), .int .u8 (H 1 4), .int .u8 (H 2 0), .int .u8 (H 2 1), .int .u8 (H 2 2), .int .u8 (H 2 3), .int .u8 (H 2 4), .int .u8 (H 3 0), .int .u8 (H 3 1), .int .u8 (H 3 2), .int .u8 (H 3 3), .int .u8 (H 3 4), .int .u8 (H 4 0), .int .u8 (H 4 1), .int .u8 (H 4 2), .int .u8 (H 4 3), .int .u8 (H 4 4), tv]) := fun j u hj => (hb1.cell (p := ⟨w.heap.size, 0 + j, none⟩) hlW).trans (HC.out j u hj)
  clear hb1 hbW hlW HC hsv HA
  go_wp2_with (refine wpList_load_mid rfl 26 _ rfl w.heap.size 0 rfl [.int .u8 m, .int .u8 (H 0 0), .int .u8 (H 0 1), .int .u8 (H 0 2), .int .u8 (H 0 3), .int .u8 (H 0 4), .int .u8 (H 1 0), .int .u8 (H 1 1), .int .u8 (H 1 2), .int .u8 (H 1 3), .int .u8 (H 1 4), .int .u8 (H 2 0), .int .u8 (H 2 1), .int .u8 (H 2 2), .int .u8 (H 2 3), .int .u8 (H 2 4), .int .u8 (H 3 0), .int .u8 (H 3 1), .int .u8 (H 3 2), .int .u8 (H 3 3), .int .u8 (H 3 4), .int .u8 (H 4 0), .int .u8 (H 4 1), .int .u8 (H 4 2), .int .u8 (H 4 3), .int .u8 (H 4 4), tv] d HC1.out HU.out HD.out HI.out ?_)
  refine (hP.out w1 (HTV.out.below HB1.out)).mono ?_
  rintro e w2 ⟨n, vr, vm, vg, rfl, hn, hb2, hCF⟩
  have HB2 := Lib.hid (HB1.out.trans (hb2.mono HB1.out.size))
  have HCF := Lib.hid hCF
  obtain ⟨R, hR⟩ : ∃ x, Cf.sizeRs M H = x := ⟨_, rfl⟩
  obtain ⟨MS, hMS⟩ : ∃ x, Cf.sizeMs M ts = x := ⟨_, rfl⟩
  rw [hR] at HCF HLEN HSM
  rw [hMS] at HCF
  have hR5 : 2 ≤ R.length ∧ R.length ≤ 5 := by rw [HLEN.out]; omega
  clear hP hb2 hCF HC1 HU HD HI HTV hn hR hMS HLEN hM4 HB1
  have hT := Cf.layF_range R HSM.out R.length (Nat.le_refl _)
  rw [List.take_length] at hT
  obtain ⟨N, hN⟩ := Int.eq_ofNat_of_zero_le (show 0 ≤ (Cf.layF R).2 by omega)
  have hN0 : 32 ≤ N := by omega
  have hN1 : N ≤ 65536 := by omega
  have HN := Lib.hid hN
  clear hT hN
  go_wp2_with fail
  refine (begun_any n vr vm vg R MS HSM.out (by omega) (by omega) N HN.out hN0 hN1 w2 HCF.out).mono ?_
  rintro e w3 ⟨t, mm, dd, gg, l, rfl, hFr, hll, hln, hLg, hRd, hb3⟩
  have HFr := Lib.hid hFr
  have HLn := Lib.hid hln
  have HL3 := Lib.hid hLg
  have HR3 := Lib.hid hRd
  have HCF3 := Lib.hid (HCF.out.below hb3)
  have HB3 := Lib.hid (HB2.out.trans (hb3.mono HB2.out.size))
  have HZ3 := Lib.hid hb3
  clear hFr hln hLg hRd hb3
  obtain ⟨d27, hu27, hd27⟩ := Try.desc27
  obtain ⟨dI, huI, hdI⟩ := Try.descIno
  have HU27 := Lib.hid hu27
  have HD27 := Lib.hid hd27
  have HUI := Lib.hid huI
  have HDI := Lib.hid hdI
  clear hu27 hd27 huI hdI
  have HCF2 := HCF
  clear HCF HLn HL3 HFr hll HB2
  by_cases hin : 0 ≤ lab ∧ lab < (R.length : Int)
  · as_aux_lemma =>
    obtain ⟨hl0, hl1⟩ := hin
    obtain ⟨i, rfl⟩ := Int.eq_ofNat_of_zero_le hl0
    obtain ⟨g, hgi⟩ : ∃ g, (Cf.layF R).1[i]'(by rw [Cf.lay_len]; omega) = g := ⟨_, rfl⟩
    obtain ⟨B0, P0, M', DA, NB, hg, -, -⟩ := geo_gg R HSM.out (by omega) N HN.out i (by omega) g hgi
    have HO : Hid (Calls Try.prog 12 #[.pointer (some ⟨t, 0, none⟩), .pointer (some ⟨n + 3, 0, none⟩), .int .i64 i] w3 fun e w' => ∃ v : Option Addr, e = .returned (.tuple #[.pointer v, .int .i64 0]) ∧ Below w3.heap.size w3 w') := by
      refine (gopen_in t mm dd gg n B0 P0 M' DA NB N 1 _ vr vm vg R MS i (by omega) g hgi hg w3 HCF3.out HR3.out).mono ?_
      rintro e w' ⟨q, p, he, -, -, -, hb⟩
      exact ⟨_, he, hb⟩
    clear hgi hg
    go_wp2_with fail
    refine HO.out.mono ?_
    rintro e w4 ⟨v, rfl, hb⟩
    have HB4 := Lib.hid (HB3.out.trans (hb.mono HB3.out.size))
    have HZ4 := Lib.hid (HZ3.out.trans (hb.mono HZ3.out.size))
    clear HZ3
    clear hb HB3 HO HCF3 HR3
    go_wp2_with fail
    refine (gopen_nilt (some ⟨n + 3, 0, none⟩) (i : Int) w4).mono ?_
    rintro e wz ⟨rfl, hwz⟩
    rw [hwz]
    clear hwz
    go_wp2_with fail
    refine (gopen_nilc t (i : Int) w4).mono ?_
    rintro e wz ⟨rfl, hwz⟩
    rw [hwz]
    clear hwz
    go_wp2_with fail
    refine (gtake_nil w4).mono ?_
    rintro e wz ⟨rfl, hwz⟩
    rw [hwz]
    clear hwz
    go_wp2_with fail
    refine (gget_nil nn n0 n1 w4).mono ?_
    rintro e w5 ⟨rfl, hb⟩
    have HB5 := Lib.hid (HB4.out.trans (hb.mono HB4.out.size))
    have HZ5 := Lib.hid (HZ4.out.trans (hb.mono HZ4.out.size))
    clear HZ4
    clear hb HB4 
    go_upto_region 11 with (first | (refine wpList_alloc_byts (w := w5) rfl 51 64 rfl Try.zero36 ?_; intro w6 G6 hb6 hz6; simp only [Act.put, List.getElem_toArray, List.getElem_cons_zero, List.getElem_cons_succ, List.setIfInBounds_toArray, List.set_cons_zero, List.set_cons_succ]; refine wpList_store_blk rfl (.tmp 22) (.tmp 74) rfl w5.heap.size 0 64 (fun _ => 0) (fun _ => 0) G6.out (by omega) rfl rfl ?_; intro w7 FB7 HK7; have HQ6 := Lib.hid hb6; clear hb6 hz6 G6))
    obtain ⟨bFB, hbFB⟩ : ∃ b, w5.heap.size = b := ⟨_, rfl⟩
    have HB6 := Lib.hid (HB5.out.trans (HQ6.out.mono HB5.out.size))
    have HZ6 := Lib.hid (HZ5.out.trans (HQ6.out.mono HZ5.out.size))
    have HB7 := Lib.hid (HB6.out.trans (HK7.out.below HB5.out.size HB5.out.size HB6.out.size))
    have HZ7 := Lib.hid (HZ6.out.trans (HK7.out.below HZ5.out.size HZ5.out.size HZ6.out.size))
    clear HZ6 HZ5
    have FBx := Lib.hid (FB7.out.congr (fun j hj => upd_zero 64 (fun _ => 0) j hj _))
    clear FB7
    have FB7 := FBx
    clear FBx
    rw [hbFB] at FB7
    try rw [hbFB]
    clear hbFB HQ6 HK7 HB5 HB6
    go_wp2_with fail
    refine (gnode_nil num w7).mono ?_
    rintro e w8 ⟨rfl, hb⟩
    have HB8 := Lib.hid (HB7.out.trans (hb.mono HB7.out.size))
    have HZ8 := Lib.hid (HZ7.out.trans (hb.mono HZ7.out.size))
    clear HZ7
    have FB8 := Lib.hid (FB7.out.below hb FB7.out.lt)
    clear FB7
    clear hb HB7 
    go_upto_region 12 with (first | (refine wpList_alloc_list (w := w8) rfl 64 rfl (ndc zpt) Try.zero27 ?_; intro w9 G9 hb9 hz9; simp only [Act.put, List.getElem_toArray, List.getElem_cons_zero, List.getElem_cons_succ, List.setIfInBounds_toArray, List.set_cons_zero, List.set_cons_succ]; refine wpList_store_list rfl 64 (.tmp 24) (.tmp 80) rfl w8.heap.size (ndc zpt) (ndc zpt) rfl rfl G9.out rfl (size27 _) (ndc_one _) ?_; intro w10 FN10 HK10; have HQ9 := Lib.hid hb9; clear hb9 hz9 G9))
    obtain ⟨bFN, hbFN⟩ : ∃ b, w8.heap.size = b := ⟨_, rfl⟩
    have HB9 := Lib.hid (HB8.out.trans (HQ9.out.mono HB8.out.size))
    have HZ9 := Lib.hid (HZ8.out.trans (HQ9.out.mono HZ8.out.size))
    have HB10 := Lib.hid (HB9.out.trans (HK10.out.below HB8.out.size HB8.out.size HB9.out.size))
    have HZ10 := Lib.hid (HZ9.out.trans (HK10.out.below HZ8.out.size HZ8.out.size HZ9.out.size))
    clear HZ9 HZ8
    have hlFB : bFB < w8.heap.size := FB8.out.lt
    have FB9 := Lib.hid (FB8.out.below HQ9.out FB8.out.lt)
    have FB10 := Lib.hid (FB9.out.kp HK10.out (by omega) (by omega))
    clear FB8 FB9 hlFB
    rw [hbFN] at FN10
    try rw [hbFN]
    clear hbFN HQ9 HK10 HB8 HB9
    go_wp2_with fail
    refine (gmake_nil 1 w10).mono ?_
    rintro e wz ⟨rfl, hwz⟩
    rw [hwz]
    clear hwz
    go_wp2_with fail
    refine (gmakelink_nil 1 1 w10).mono ?_
    rintro e wz ⟨rfl, hwz⟩
    rw [hwz]
    clear hwz
    go_wp2_with fail
    refine (gusage_nil w10).mono ?_
    rintro e wz ⟨rfl, hwz⟩
    rw [hwz]
    clear hwz
    go_wp2_with fail
    refine (gino_nil num w10).mono ?_
    rintro e w11 ⟨rfl, hb⟩
    have HB11 := Lib.hid (HB10.out.trans (hb.mono HB10.out.size))
    have HZ11 := Lib.hid (HZ10.out.trans (hb.mono HZ10.out.size))
    clear HZ10
    have FB11 := Lib.hid (FB10.out.below hb FB10.out.lt)
    have FN11 := Lib.hid (FN10.out.keep hb)
    clear FB10 FN10
    clear hb HB10 
    go_upto_region 16 with (first | (refine wpList_alloc_list (w := w11) rfl 72 rfl (inc 0 0 0) Try.zeroIno ?_; intro w12 G12 hb12 hz12; simp only [Act.put, List.getElem_toArray, List.getElem_cons_zero, List.getElem_cons_succ, List.setIfInBounds_toArray, List.set_cons_zero, List.set_cons_succ]; refine wpList_store_list rfl 72 (.tmp 33) (.tmp 102) rfl w11.heap.size (inc 0 0 0) (inc 0 0 0) rfl rfl G12.out rfl (sizeIno _ _ _) (inc_one _ _ _) ?_; intro w13 FI13 HK13; have HQ12 := Lib.hid hb12; clear hb12 hz12 G12))
    obtain ⟨bFI, hbFI⟩ : ∃ b, w11.heap.size = b := ⟨_, rfl⟩
    have HB12 := Lib.hid (HB11.out.trans (HQ12.out.mono HB11.out.size))
    have HZ12 := Lib.hid (HZ11.out.trans (HQ12.out.mono HZ11.out.size))
    have HB13 := Lib.hid (HB12.out.trans (HK13.out.below HB11.out.size HB11.out.size HB12.out.size))
    have HZ13 := Lib.hid (HZ12.out.trans (HK13.out.below HZ11.out.size HZ11.out.size HZ12.out.size))
    clear HZ12 HZ11
    have hlFB : bFB < w11.heap.size := FB11.out.lt
    have FB12 := Lib.hid (FB11.out.below HQ12.out FB11.out.lt)
    have FB13 := Lib.hid (FB12.out.kp HK13.out (by omega) (by omega))
    clear FB11 FB12 hlFB
    have hlFN : bFN < w11.heap.size := FN11.out.lt
    have FN12 := Lib.hid (FN11.out.keep HQ12.out)
    have FN13 := Lib.hid (FN12.out.kp HK13.out (by omega) (by omega))
    clear FN11 FN12 hlFN
    rw [hbFI] at FI13
    try rw [hbFI]
    clear hbFI HQ12 HK13 HB11 HB12
    go_wp2_with fail
    refine (Cf.clen_any n vr vm vg R MS w13 (HCF2.out.below HZ13.out) (by omega)).mono ?_
    rintro e wz ⟨rfl, hwz⟩
    rw [hwz]
    clear hwz
    go_upto_region 17 with fail
    simp only [List.append_eq, List.cons_append, List.nil_append]
    go_wp2_with (first | (refine wpList_yields _ (yieldsIf_load_mid (by kernel_rfl) 51 (.tmp 22) rfl bFB 0 rfl (byts 64 fun _ => 0) (.array 64 5) (fun W h => by rw [h]; exact FB13.out.range0) Try.arr36 rfl (size36 _)) ?_) | (refine wpList_yields (.agg (byts 64 fun _ => 0).toArray) (yields_build0 (by kernel_rfl) rfl) ?_) | (refine wpList_yields (.bool true) (yields_eql (by kernel_rfl) 51 51 _ _ rfl (byts 64 fun _ => 0).toArray (byts 64 fun _ => 0).toArray rfl rfl true Try.guardBlk (fun W _ => Try.eqBlk0 W)) ?_) | (refine wpList_yields _ (yieldsIf_load_mid (by kernel_rfl) 64 (.tmp 24) rfl bFN 0 rfl (ndc zpt) d27 (fun W h => by rw [h]; exact FN13.out.range0) HU27.out HD27.out (size27 _)) ?_) | (refine wpList_yields (.agg (ndc zpt).toArray) (yields_bld0 (by kernel_rfl) 64 rfl _ build27_zero) ?_) | (refine wpList_yields (.bool true) (yields_eql (by kernel_rfl) 64 64 _ _ rfl (ndc zpt).toArray (ndc zpt).toArray rfl rfl true Try.guard27 (fun W _ => Try.eqNode0 W)) ?_) | (refine wpList_yields _ (yieldsIf_load_mid (by kernel_rfl) 72 (.tmp 33) rfl bFI 0 rfl (inc 0 0 0) dI (fun W h => by rw [h]; exact FI13.out.range0) HUI.out HDI.out (sizeIno _ _ _)) ?_) | (refine wpList_yields (.agg (inc 0 0 0).toArray) (yields_bld0 (by kernel_rfl) 72 rfl _ Try.buildIno0) ?_) | (refine wpList_yields (.bool true) (yields_eql (by kernel_rfl) 72 72 _ _ rfl (inc 0 0 0).toArray (inc 0 0 0).toArray rfl rfl true Try.guardIno (fun W _ => Try.eqIno0 W)) ?_))
    refine (ggive_nil nn n0 n1 w13).mono ?_
    rintro e wz ⟨rfl, hwz⟩
    rw [hwz]
    clear hwz
    go_wp2_with (first | (refine wpList_yields _ (yieldsIf_load_mid (by kernel_rfl) 51 (.tmp 22) rfl bFB 0 rfl (byts 64 fun _ => 0) (.array 64 5) (fun W h => by rw [h]; exact FB13.out.range0) Try.arr36 rfl (size36 _)) ?_) | (refine wpList_yields (.agg (byts 64 fun _ => 0).toArray) (yields_build0 (by kernel_rfl) rfl) ?_) | (refine wpList_yields (.bool true) (yields_eql (by kernel_rfl) 51 51 _ _ rfl (byts 64 fun _ => 0).toArray (byts 64 fun _ => 0).toArray rfl rfl true Try.guardBlk (fun W _ => Try.eqBlk0 W)) ?_) | (refine wpList_yields _ (yieldsIf_load_mid (by kernel_rfl) 64 (.tmp 24) rfl bFN 0 rfl (ndc zpt) d27 (fun W h => by rw [h]; exact FN13.out.range0) HU27.out HD27.out (size27 _)) ?_) | (refine wpList_yields (.agg (ndc zpt).toArray) (yields_bld0 (by kernel_rfl) 64 rfl _ build27_zero) ?_) | (refine wpList_yields (.bool true) (yields_eql (by kernel_rfl) 64 64 _ _ rfl (ndc zpt).toArray (ndc zpt).toArray rfl rfl true Try.guard27 (fun W _ => Try.eqNode0 W)) ?_) | (refine wpList_yields _ (yieldsIf_load_mid (by kernel_rfl) 72 (.tmp 33) rfl bFI 0 rfl (inc 0 0 0) dI (fun W h => by rw [h]; exact FI13.out.range0) HUI.out HDI.out (sizeIno _ _ _)) ?_) | (refine wpList_yields (.agg (inc 0 0 0).toArray) (yields_bld0 (by kernel_rfl) 72 rfl _ Try.buildIno0) ?_) | (refine wpList_yields (.bool true) (yields_eql (by kernel_rfl) 72 72 _ _ rfl (inc 0 0 0).toArray (inc 0 0 0).toArray rfl rfl true Try.guardIno (fun W _ => Try.eqIno0 W)) ?_))
    refine (gput_nil nn n0 n1 (fun _ => 0) w13).mono ?_
    rintro e w14 ⟨rfl, hb⟩
    have HB14 := Lib.hid (HB13.out.trans (hb.mono HB13.out.size))
    have HZ14 := Lib.hid (HZ13.out.trans (hb.mono HZ13.out.size))
    clear HZ13
    have FB14 := Lib.hid (FB13.out.below hb FB13.out.lt)
    have FN14 := Lib.hid (FN13.out.keep hb)
    have FI14 := Lib.hid (FI13.out.keep hb)
    clear FB13 FN13 FI13
    clear hb HB13 
    go_wp2_with (first | (refine wpList_yields _ (yieldsIf_load_mid (by kernel_rfl) 51 (.tmp 22) rfl bFB 0 rfl (byts 64 fun _ => 0) (.array 64 5) (fun W h => by rw [h]; exact FB14.out.range0) Try.arr36 rfl (size36 _)) ?_) | (refine wpList_yields (.agg (byts 64 fun _ => 0).toArray) (yields_build0 (by kernel_rfl) rfl) ?_) | (refine wpList_yields (.bool true) (yields_eql (by kernel_rfl) 51 51 _ _ rfl (byts 64 fun _ => 0).toArray (byts 64 fun _ => 0).toArray rfl rfl true Try.guardBlk (fun W _ => Try.eqBlk0 W)) ?_) | (refine wpList_yields _ (yieldsIf_load_mid (by kernel_rfl) 64 (.tmp 24) rfl bFN 0 rfl (ndc zpt) d27 (fun W h => by rw [h]; exact FN14.out.range0) HU27.out HD27.out (size27 _)) ?_) | (refine wpList_yields (.agg (ndc zpt).toArray) (yields_bld0 (by kernel_rfl) 64 rfl _ build27_zero) ?_) | (refine wpList_yields (.bool true) (yields_eql (by kernel_rfl) 64 64 _ _ rfl (ndc zpt).toArray (ndc zpt).toArray rfl rfl true Try.guard27 (fun W _ => Try.eqNode0 W)) ?_) | (refine wpList_yields _ (yieldsIf_load_mid (by kernel_rfl) 72 (.tmp 33) rfl bFI 0 rfl (inc 0 0 0) dI (fun W h => by rw [h]; exact FI14.out.range0) HUI.out HDI.out (sizeIno _ _ _)) ?_) | (refine wpList_yields (.agg (inc 0 0 0).toArray) (yields_bld0 (by kernel_rfl) 72 rfl _ Try.buildIno0) ?_) | (refine wpList_yields (.bool true) (yields_eql (by kernel_rfl) 72 72 _ _ rfl (inc 0 0 0).toArray (inc 0 0 0).toArray rfl rfl true Try.guardIno (fun W _ => Try.eqIno0 W)) ?_))
    refine (gset_nil num zpt w14).mono ?_
    rintro e w15 ⟨rfl, hb⟩
    have HB15 := Lib.hid (HB14.out.trans (hb.mono HB14.out.size))
    have HZ15 := Lib.hid (HZ14.out.trans (hb.mono HZ14.out.size))
    clear HZ14
    have FB15 := Lib.hid (FB14.out.below hb FB14.out.lt)
    have FN15 := Lib.hid (FN14.out.keep hb)
    have FI15 := Lib.hid (FI14.out.keep hb)
    clear FB14 FN14 FI14
    clear hb HB14 
    go_wp2_with (first | (refine wpList_yields _ (yieldsIf_load_mid (by kernel_rfl) 51 (.tmp 22) rfl bFB 0 rfl (byts 64 fun _ => 0) (.array 64 5) (fun W h => by rw [h]; exact FB15.out.range0) Try.arr36 rfl (size36 _)) ?_) | (refine wpList_yields (.agg (byts 64 fun _ => 0).toArray) (yields_build0 (by kernel_rfl) rfl) ?_) | (refine wpList_yields (.bool true) (yields_eql (by kernel_rfl) 51 51 _ _ rfl (byts 64 fun _ => 0).toArray (byts 64 fun _ => 0).toArray rfl rfl true Try.guardBlk (fun W _ => Try.eqBlk0 W)) ?_) | (refine wpList_yields _ (yieldsIf_load_mid (by kernel_rfl) 64 (.tmp 24) rfl bFN 0 rfl (ndc zpt) d27 (fun W h => by rw [h]; exact FN15.out.range0) HU27.out HD27.out (size27 _)) ?_) | (refine wpList_yields (.agg (ndc zpt).toArray) (yields_bld0 (by kernel_rfl) 64 rfl _ build27_zero) ?_) | (refine wpList_yields (.bool true) (yields_eql (by kernel_rfl) 64 64 _ _ rfl (ndc zpt).toArray (ndc zpt).toArray rfl rfl true Try.guard27 (fun W _ => Try.eqNode0 W)) ?_) | (refine wpList_yields _ (yieldsIf_load_mid (by kernel_rfl) 72 (.tmp 33) rfl bFI 0 rfl (inc 0 0 0) dI (fun W h => by rw [h]; exact FI15.out.range0) HUI.out HDI.out (sizeIno _ _ _)) ?_) | (refine wpList_yields (.agg (inc 0 0 0).toArray) (yields_bld0 (by kernel_rfl) 72 rfl _ Try.buildIno0) ?_) | (refine wpList_yields (.bool true) (yields_eql (by kernel_rfl) 72 72 _ _ rfl (inc 0 0 0).toArray (inc 0 0 0).toArray rfl rfl true Try.guardIno (fun W _ => Try.eqIno0 W)) ?_))
    refine (gwipe_nil num w15).mono ?_
    rintro e w16 ⟨rfl, hb⟩
    have HB16 := Lib.hid (HB15.out.trans (hb.mono HB15.out.size))
    have HZ16 := Lib.hid (HZ15.out.trans (hb.mono HZ15.out.size))
    clear HZ15
    have FB16 := Lib.hid (FB15.out.below hb FB15.out.lt)
    have FN16 := Lib.hid (FN15.out.keep hb)
    have FI16 := Lib.hid (FI15.out.keep hb)
    clear FB15 FN15 FI15
    clear hb HB15 
    go_wp2_with (first | (refine wpList_yields _ (yieldsIf_load_mid (by kernel_rfl) 51 (.tmp 22) rfl bFB 0 rfl (byts 64 fun _ => 0) (.array 64 5) (fun W h => by rw [h]; exact FB16.out.range0) Try.arr36 rfl (size36 _)) ?_) | (refine wpList_yields (.agg (byts 64 fun _ => 0).toArray) (yields_build0 (by kernel_rfl) rfl) ?_) | (refine wpList_yields (.bool true) (yields_eql (by kernel_rfl) 51 51 _ _ rfl (byts 64 fun _ => 0).toArray (byts 64 fun _ => 0).toArray rfl rfl true Try.guardBlk (fun W _ => Try.eqBlk0 W)) ?_) | (refine wpList_yields _ (yieldsIf_load_mid (by kernel_rfl) 64 (.tmp 24) rfl bFN 0 rfl (ndc zpt) d27 (fun W h => by rw [h]; exact FN16.out.range0) HU27.out HD27.out (size27 _)) ?_) | (refine wpList_yields (.agg (ndc zpt).toArray) (yields_bld0 (by kernel_rfl) 64 rfl _ build27_zero) ?_) | (refine wpList_yields (.bool true) (yields_eql (by kernel_rfl) 64 64 _ _ rfl (ndc zpt).toArray (ndc zpt).toArray rfl rfl true Try.guard27 (fun W _ => Try.eqNode0 W)) ?_) | (refine wpList_yields _ (yieldsIf_load_mid (by kernel_rfl) 72 (.tmp 33) rfl bFI 0 rfl (inc 0 0 0) dI (fun W h => by rw [h]; exact FI16.out.range0) HUI.out HDI.out (sizeIno _ _ _)) ?_) | (refine wpList_yields (.agg (inc 0 0 0).toArray) (yields_bld0 (by kernel_rfl) 72 rfl _ Try.buildIno0) ?_) | (refine wpList_yields (.bool true) (yields_eql (by kernel_rfl) 72 72 _ _ rfl (inc 0 0 0).toArray (inc 0 0 0).toArray rfl rfl true Try.guardIno (fun W _ => Try.eqIno0 W)) ?_))
    refine (lab_nil w16).mono ?_
    rintro e wz ⟨rfl, hwz⟩
    rw [hwz]
    clear hwz
    go_wp2_with fail
    go_ret
    exact ⟨rfl, HB16.out⟩

  · by_cases hlo : lab < 0
    · clear hin
      as_aux_lemma =>
      have HO : Hid (Calls Try.prog 12 #[.pointer (some ⟨t, 0, none⟩), .pointer (some ⟨n + 3, 0, none⟩), .int .i64 lab] w3 fun e w' => ∃ v : Option Addr, e = .returned (.tuple #[.pointer v, .int .i64 27]) ∧ Below w3.heap.size w3 w') := by
        refine (gopen_out t n vr vm vg R MS lab (by omega) (by omega) w3 HCF3.out).mono ?_
        rintro e w' ⟨he, hb⟩
        exact ⟨_, he, hb⟩
      go_wp2_with fail
      refine HO.out.mono ?_
      rintro e w4 ⟨v, rfl, hb⟩
      have HB4 := Lib.hid (HB3.out.trans (hb.mono HB3.out.size))
      have HZ4 := Lib.hid (HZ3.out.trans (hb.mono HZ3.out.size))
      clear HZ3
      clear hb HB3 HO HCF3 HR3
      go_wp2_with fail
      refine (gopen_nilt (some ⟨n + 3, 0, none⟩) lab w4).mono ?_
      rintro e wz ⟨rfl, hwz⟩
      rw [hwz]
      clear hwz
      go_wp2_with fail
      refine (gopen_nilc t lab w4).mono ?_
      rintro e wz ⟨rfl, hwz⟩
      rw [hwz]
      clear hwz
      go_wp2_with fail
      refine (gtake_nil w4).mono ?_
      rintro e wz ⟨rfl, hwz⟩
      rw [hwz]
      clear hwz
      go_wp2_with fail
      refine (gget_nil nn n0 n1 w4).mono ?_
      rintro e w5 ⟨rfl, hb⟩
      have HB5 := Lib.hid (HB4.out.trans (hb.mono HB4.out.size))
      have HZ5 := Lib.hid (HZ4.out.trans (hb.mono HZ4.out.size))
      clear HZ4
      clear hb HB4 
      go_upto_region 11 with (first | (refine wpList_alloc_byts (w := w5) rfl 51 64 rfl Try.zero36 ?_; intro w6 G6 hb6 hz6; simp only [Act.put, List.getElem_toArray, List.getElem_cons_zero, List.getElem_cons_succ, List.setIfInBounds_toArray, List.set_cons_zero, List.set_cons_succ]; refine wpList_store_blk rfl (.tmp 22) (.tmp 74) rfl w5.heap.size 0 64 (fun _ => 0) (fun _ => 0) G6.out (by omega) rfl rfl ?_; intro w7 FB7 HK7; have HQ6 := Lib.hid hb6; clear hb6 hz6 G6))
      obtain ⟨bFB, hbFB⟩ : ∃ b, w5.heap.size = b := ⟨_, rfl⟩
      have HB6 := Lib.hid (HB5.out.trans (HQ6.out.mono HB5.out.size))
      have HZ6 := Lib.hid (HZ5.out.trans (HQ6.out.mono HZ5.out.size))
      have HB7 := Lib.hid (HB6.out.trans (HK7.out.below HB5.out.size HB5.out.size HB6.out.size))
      have HZ7 := Lib.hid (HZ6.out.trans (HK7.out.below HZ5.out.size HZ5.out.size HZ6.out.size))
      clear HZ6 HZ5
      have FBx := Lib.hid (FB7.out.congr (fun j hj => upd_zero 64 (fun _ => 0) j hj _))
      clear FB7
      have FB7 := FBx
      clear FBx
      rw [hbFB] at FB7
      try rw [hbFB]
      clear hbFB HQ6 HK7 HB5 HB6
      go_wp2_with fail
      refine (gnode_nil num w7).mono ?_
      rintro e w8 ⟨rfl, hb⟩
      have HB8 := Lib.hid (HB7.out.trans (hb.mono HB7.out.size))
      have HZ8 := Lib.hid (HZ7.out.trans (hb.mono HZ7.out.size))
      clear HZ7
      have FB8 := Lib.hid (FB7.out.below hb FB7.out.lt)
      clear FB7
      clear hb HB7 
      go_upto_region 12 with (first | (refine wpList_alloc_list (w := w8) rfl 64 rfl (ndc zpt) Try.zero27 ?_; intro w9 G9 hb9 hz9; simp only [Act.put, List.getElem_toArray, List.getElem_cons_zero, List.getElem_cons_succ, List.setIfInBounds_toArray, List.set_cons_zero, List.set_cons_succ]; refine wpList_store_list rfl 64 (.tmp 24) (.tmp 80) rfl w8.heap.size (ndc zpt) (ndc zpt) rfl rfl G9.out rfl (size27 _) (ndc_one _) ?_; intro w10 FN10 HK10; have HQ9 := Lib.hid hb9; clear hb9 hz9 G9))
      obtain ⟨bFN, hbFN⟩ : ∃ b, w8.heap.size = b := ⟨_, rfl⟩
      have HB9 := Lib.hid (HB8.out.trans (HQ9.out.mono HB8.out.size))
      have HZ9 := Lib.hid (HZ8.out.trans (HQ9.out.mono HZ8.out.size))
      have HB10 := Lib.hid (HB9.out.trans (HK10.out.below HB8.out.size HB8.out.size HB9.out.size))
      have HZ10 := Lib.hid (HZ9.out.trans (HK10.out.below HZ8.out.size HZ8.out.size HZ9.out.size))
      clear HZ9 HZ8
      have hlFB : bFB < w8.heap.size := FB8.out.lt
      have FB9 := Lib.hid (FB8.out.below HQ9.out FB8.out.lt)
      have FB10 := Lib.hid (FB9.out.kp HK10.out (by omega) (by omega))
      clear FB8 FB9 hlFB
      rw [hbFN] at FN10
      try rw [hbFN]
      clear hbFN HQ9 HK10 HB8 HB9
      go_wp2_with fail
      refine (gmake_nil 1 w10).mono ?_
      rintro e wz ⟨rfl, hwz⟩
      rw [hwz]
      clear hwz
      go_wp2_with fail
      refine (gmakelink_nil 1 1 w10).mono ?_
      rintro e wz ⟨rfl, hwz⟩
      rw [hwz]
      clear hwz
      go_wp2_with fail
      refine (gusage_nil w10).mono ?_
      rintro e wz ⟨rfl, hwz⟩
      rw [hwz]
      clear hwz
      go_wp2_with fail
      refine (gino_nil num w10).mono ?_
      rintro e w11 ⟨rfl, hb⟩
      have HB11 := Lib.hid (HB10.out.trans (hb.mono HB10.out.size))
      have HZ11 := Lib.hid (HZ10.out.trans (hb.mono HZ10.out.size))
      clear HZ10
      have FB11 := Lib.hid (FB10.out.below hb FB10.out.lt)
      have FN11 := Lib.hid (FN10.out.keep hb)
      clear FB10 FN10
      clear hb HB10 
      go_upto_region 16 with (first | (refine wpList_alloc_list (w := w11) rfl 72 rfl (inc 0 0 0) Try.zeroIno ?_; intro w12 G12 hb12 hz12; simp only [Act.put, List.getElem_toArray, List.getElem_cons_zero, List.getElem_cons_succ, List.setIfInBounds_toArray, List.set_cons_zero, List.set_cons_succ]; refine wpList_store_list rfl 72 (.tmp 33) (.tmp 102) rfl w11.heap.size (inc 0 0 0) (inc 0 0 0) rfl rfl G12.out rfl (sizeIno _ _ _) (inc_one _ _ _) ?_; intro w13 FI13 HK13; have HQ12 := Lib.hid hb12; clear hb12 hz12 G12))
      obtain ⟨bFI, hbFI⟩ : ∃ b, w11.heap.size = b := ⟨_, rfl⟩
      have HB12 := Lib.hid (HB11.out.trans (HQ12.out.mono HB11.out.size))
      have HZ12 := Lib.hid (HZ11.out.trans (HQ12.out.mono HZ11.out.size))
      have HB13 := Lib.hid (HB12.out.trans (HK13.out.below HB11.out.size HB11.out.size HB12.out.size))
      have HZ13 := Lib.hid (HZ12.out.trans (HK13.out.below HZ11.out.size HZ11.out.size HZ12.out.size))
      clear HZ12 HZ11
      have hlFB : bFB < w11.heap.size := FB11.out.lt
      have FB12 := Lib.hid (FB11.out.below HQ12.out FB11.out.lt)
      have FB13 := Lib.hid (FB12.out.kp HK13.out (by omega) (by omega))
      clear FB11 FB12 hlFB
      have hlFN : bFN < w11.heap.size := FN11.out.lt
      have FN12 := Lib.hid (FN11.out.keep HQ12.out)
      have FN13 := Lib.hid (FN12.out.kp HK13.out (by omega) (by omega))
      clear FN11 FN12 hlFN
      rw [hbFI] at FI13
      try rw [hbFI]
      clear hbFI HQ12 HK13 HB11 HB12
      go_upto_region 17 with fail
      simp only [List.append_eq, List.cons_append, List.nil_append]
      go_wp2_with (first | (refine wpList_yields _ (yieldsIf_load_mid (by kernel_rfl) 51 (.tmp 22) rfl bFB 0 rfl (byts 64 fun _ => 0) (.array 64 5) (fun W h => by rw [h]; exact FB13.out.range0) Try.arr36 rfl (size36 _)) ?_) | (refine wpList_yields (.agg (byts 64 fun _ => 0).toArray) (yields_build0 (by kernel_rfl) rfl) ?_) | (refine wpList_yields (.bool true) (yields_eql (by kernel_rfl) 51 51 _ _ rfl (byts 64 fun _ => 0).toArray (byts 64 fun _ => 0).toArray rfl rfl true Try.guardBlk (fun W _ => Try.eqBlk0 W)) ?_) | (refine wpList_yields _ (yieldsIf_load_mid (by kernel_rfl) 64 (.tmp 24) rfl bFN 0 rfl (ndc zpt) d27 (fun W h => by rw [h]; exact FN13.out.range0) HU27.out HD27.out (size27 _)) ?_) | (refine wpList_yields (.agg (ndc zpt).toArray) (yields_bld0 (by kernel_rfl) 64 rfl _ build27_zero) ?_) | (refine wpList_yields (.bool true) (yields_eql (by kernel_rfl) 64 64 _ _ rfl (ndc zpt).toArray (ndc zpt).toArray rfl rfl true Try.guard27 (fun W _ => Try.eqNode0 W)) ?_) | (refine wpList_yields _ (yieldsIf_load_mid (by kernel_rfl) 72 (.tmp 33) rfl bFI 0 rfl (inc 0 0 0) dI (fun W h => by rw [h]; exact FI13.out.range0) HUI.out HDI.out (sizeIno _ _ _)) ?_) | (refine wpList_yields (.agg (inc 0 0 0).toArray) (yields_bld0 (by kernel_rfl) 72 rfl _ Try.buildIno0) ?_) | (refine wpList_yields (.bool true) (yields_eql (by kernel_rfl) 72 72 _ _ rfl (inc 0 0 0).toArray (inc 0 0 0).toArray rfl rfl true Try.guardIno (fun W _ => Try.eqIno0 W)) ?_))
      refine (ggive_nil nn n0 n1 w13).mono ?_
      rintro e wz ⟨rfl, hwz⟩
      rw [hwz]
      clear hwz
      go_wp2_with (first | (refine wpList_yields _ (yieldsIf_load_mid (by kernel_rfl) 51 (.tmp 22) rfl bFB 0 rfl (byts 64 fun _ => 0) (.array 64 5) (fun W h => by rw [h]; exact FB13.out.range0) Try.arr36 rfl (size36 _)) ?_) | (refine wpList_yields (.agg (byts 64 fun _ => 0).toArray) (yields_build0 (by kernel_rfl) rfl) ?_) | (refine wpList_yields (.bool true) (yields_eql (by kernel_rfl) 51 51 _ _ rfl (byts 64 fun _ => 0).toArray (byts 64 fun _ => 0).toArray rfl rfl true Try.guardBlk (fun W _ => Try.eqBlk0 W)) ?_) | (refine wpList_yields _ (yieldsIf_load_mid (by kernel_rfl) 64 (.tmp 24) rfl bFN 0 rfl (ndc zpt) d27 (fun W h => by rw [h]; exact FN13.out.range0) HU27.out HD27.out (size27 _)) ?_) | (refine wpList_yields (.agg (ndc zpt).toArray) (yields_bld0 (by kernel_rfl) 64 rfl _ build27_zero) ?_) | (refine wpList_yields (.bool true) (yields_eql (by kernel_rfl) 64 64 _ _ rfl (ndc zpt).toArray (ndc zpt).toArray rfl rfl true Try.guard27 (fun W _ => Try.eqNode0 W)) ?_) | (refine wpList_yields _ (yieldsIf_load_mid (by kernel_rfl) 72 (.tmp 33) rfl bFI 0 rfl (inc 0 0 0) dI (fun W h => by rw [h]; exact FI13.out.range0) HUI.out HDI.out (sizeIno _ _ _)) ?_) | (refine wpList_yields (.agg (inc 0 0 0).toArray) (yields_bld0 (by kernel_rfl) 72 rfl _ Try.buildIno0) ?_) | (refine wpList_yields (.bool true) (yields_eql (by kernel_rfl) 72 72 _ _ rfl (inc 0 0 0).toArray (inc 0 0 0).toArray rfl rfl true Try.guardIno (fun W _ => Try.eqIno0 W)) ?_))
      refine (gput_nil nn n0 n1 (fun _ => 0) w13).mono ?_
      rintro e w14 ⟨rfl, hb⟩
      have HB14 := Lib.hid (HB13.out.trans (hb.mono HB13.out.size))
      have HZ14 := Lib.hid (HZ13.out.trans (hb.mono HZ13.out.size))
      clear HZ13
      have FB14 := Lib.hid (FB13.out.below hb FB13.out.lt)
      have FN14 := Lib.hid (FN13.out.keep hb)
      have FI14 := Lib.hid (FI13.out.keep hb)
      clear FB13 FN13 FI13
      clear hb HB13 
      go_wp2_with (first | (refine wpList_yields _ (yieldsIf_load_mid (by kernel_rfl) 51 (.tmp 22) rfl bFB 0 rfl (byts 64 fun _ => 0) (.array 64 5) (fun W h => by rw [h]; exact FB14.out.range0) Try.arr36 rfl (size36 _)) ?_) | (refine wpList_yields (.agg (byts 64 fun _ => 0).toArray) (yields_build0 (by kernel_rfl) rfl) ?_) | (refine wpList_yields (.bool true) (yields_eql (by kernel_rfl) 51 51 _ _ rfl (byts 64 fun _ => 0).toArray (byts 64 fun _ => 0).toArray rfl rfl true Try.guardBlk (fun W _ => Try.eqBlk0 W)) ?_) | (refine wpList_yields _ (yieldsIf_load_mid (by kernel_rfl) 64 (.tmp 24) rfl bFN 0 rfl (ndc zpt) d27 (fun W h => by rw [h]; exact FN14.out.range0) HU27.out HD27.out (size27 _)) ?_) | (refine wpList_yields (.agg (ndc zpt).toArray) (yields_bld0 (by kernel_rfl) 64 rfl _ build27_zero) ?_) | (refine wpList_yields (.bool true) (yields_eql (by kernel_rfl) 64 64 _ _ rfl (ndc zpt).toArray (ndc zpt).toArray rfl rfl true Try.guard27 (fun W _ => Try.eqNode0 W)) ?_) | (refine wpList_yields _ (yieldsIf_load_mid (by kernel_rfl) 72 (.tmp 33) rfl bFI 0 rfl (inc 0 0 0) dI (fun W h => by rw [h]; exact FI14.out.range0) HUI.out HDI.out (sizeIno _ _ _)) ?_) | (refine wpList_yields (.agg (inc 0 0 0).toArray) (yields_bld0 (by kernel_rfl) 72 rfl _ Try.buildIno0) ?_) | (refine wpList_yields (.bool true) (yields_eql (by kernel_rfl) 72 72 _ _ rfl (inc 0 0 0).toArray (inc 0 0 0).toArray rfl rfl true Try.guardIno (fun W _ => Try.eqIno0 W)) ?_))
      refine (gset_nil num zpt w14).mono ?_
      rintro e w15 ⟨rfl, hb⟩
      have HB15 := Lib.hid (HB14.out.trans (hb.mono HB14.out.size))
      have HZ15 := Lib.hid (HZ14.out.trans (hb.mono HZ14.out.size))
      clear HZ14
      have FB15 := Lib.hid (FB14.out.below hb FB14.out.lt)
      have FN15 := Lib.hid (FN14.out.keep hb)
      have FI15 := Lib.hid (FI14.out.keep hb)
      clear FB14 FN14 FI14
      clear hb HB14 
      go_wp2_with (first | (refine wpList_yields _ (yieldsIf_load_mid (by kernel_rfl) 51 (.tmp 22) rfl bFB 0 rfl (byts 64 fun _ => 0) (.array 64 5) (fun W h => by rw [h]; exact FB15.out.range0) Try.arr36 rfl (size36 _)) ?_) | (refine wpList_yields (.agg (byts 64 fun _ => 0).toArray) (yields_build0 (by kernel_rfl) rfl) ?_) | (refine wpList_yields (.bool true) (yields_eql (by kernel_rfl) 51 51 _ _ rfl (byts 64 fun _ => 0).toArray (byts 64 fun _ => 0).toArray rfl rfl true Try.guardBlk (fun W _ => Try.eqBlk0 W)) ?_) | (refine wpList_yields _ (yieldsIf_load_mid (by kernel_rfl) 64 (.tmp 24) rfl bFN 0 rfl (ndc zpt) d27 (fun W h => by rw [h]; exact FN15.out.range0) HU27.out HD27.out (size27 _)) ?_) | (refine wpList_yields (.agg (ndc zpt).toArray) (yields_bld0 (by kernel_rfl) 64 rfl _ build27_zero) ?_) | (refine wpList_yields (.bool true) (yields_eql (by kernel_rfl) 64 64 _ _ rfl (ndc zpt).toArray (ndc zpt).toArray rfl rfl true Try.guard27 (fun W _ => Try.eqNode0 W)) ?_) | (refine wpList_yields _ (yieldsIf_load_mid (by kernel_rfl) 72 (.tmp 33) rfl bFI 0 rfl (inc 0 0 0) dI (fun W h => by rw [h]; exact FI15.out.range0) HUI.out HDI.out (sizeIno _ _ _)) ?_) | (refine wpList_yields (.agg (inc 0 0 0).toArray) (yields_bld0 (by kernel_rfl) 72 rfl _ Try.buildIno0) ?_) | (refine wpList_yields (.bool true) (yields_eql (by kernel_rfl) 72 72 _ _ rfl (inc 0 0 0).toArray (inc 0 0 0).toArray rfl rfl true Try.guardIno (fun W _ => Try.eqIno0 W)) ?_))
      refine (gwipe_nil num w15).mono ?_
      rintro e w16 ⟨rfl, hb⟩
      have HB16 := Lib.hid (HB15.out.trans (hb.mono HB15.out.size))
      have HZ16 := Lib.hid (HZ15.out.trans (hb.mono HZ15.out.size))
      clear HZ15
      have FB16 := Lib.hid (FB15.out.below hb FB15.out.lt)
      have FN16 := Lib.hid (FN15.out.keep hb)
      have FI16 := Lib.hid (FI15.out.keep hb)
      clear FB15 FN15 FI15
      clear hb HB15 
      go_wp2_with (first | (refine wpList_yields _ (yieldsIf_load_mid (by kernel_rfl) 51 (.tmp 22) rfl bFB 0 rfl (byts 64 fun _ => 0) (.array 64 5) (fun W h => by rw [h]; exact FB16.out.range0) Try.arr36 rfl (size36 _)) ?_) | (refine wpList_yields (.agg (byts 64 fun _ => 0).toArray) (yields_build0 (by kernel_rfl) rfl) ?_) | (refine wpList_yields (.bool true) (yields_eql (by kernel_rfl) 51 51 _ _ rfl (byts 64 fun _ => 0).toArray (byts 64 fun _ => 0).toArray rfl rfl true Try.guardBlk (fun W _ => Try.eqBlk0 W)) ?_) | (refine wpList_yields _ (yieldsIf_load_mid (by kernel_rfl) 64 (.tmp 24) rfl bFN 0 rfl (ndc zpt) d27 (fun W h => by rw [h]; exact FN16.out.range0) HU27.out HD27.out (size27 _)) ?_) | (refine wpList_yields (.agg (ndc zpt).toArray) (yields_bld0 (by kernel_rfl) 64 rfl _ build27_zero) ?_) | (refine wpList_yields (.bool true) (yields_eql (by kernel_rfl) 64 64 _ _ rfl (ndc zpt).toArray (ndc zpt).toArray rfl rfl true Try.guard27 (fun W _ => Try.eqNode0 W)) ?_) | (refine wpList_yields _ (yieldsIf_load_mid (by kernel_rfl) 72 (.tmp 33) rfl bFI 0 rfl (inc 0 0 0) dI (fun W h => by rw [h]; exact FI16.out.range0) HUI.out HDI.out (sizeIno _ _ _)) ?_) | (refine wpList_yields (.agg (inc 0 0 0).toArray) (yields_bld0 (by kernel_rfl) 72 rfl _ Try.buildIno0) ?_) | (refine wpList_yields (.bool true) (yields_eql (by kernel_rfl) 72 72 _ _ rfl (inc 0 0 0).toArray (inc 0 0 0).toArray rfl rfl true Try.guardIno (fun W _ => Try.eqIno0 W)) ?_))
      refine (lab_nil w16).mono ?_
      rintro e wz ⟨rfl, hwz⟩
      rw [hwz]
      clear hwz
      go_wp2_with fail
      go_ret
      exact ⟨rfl, HB16.out⟩

    · have hhi : (R.length : Int) ≤ lab := by omega
      clear hin
      as_aux_lemma =>
      have HO : Hid (Calls Try.prog 12 #[.pointer (some ⟨t, 0, none⟩), .pointer (some ⟨n + 3, 0, none⟩), .int .i64 lab] w3 fun e w' => ∃ v : Option Addr, e = .returned (.tuple #[.pointer v, .int .i64 27]) ∧ Below w3.heap.size w3 w') := by
        refine (gopen_out t n vr vm vg R MS lab (by omega) (by omega) w3 HCF3.out).mono ?_
        rintro e w' ⟨he, hb⟩
        exact ⟨_, he, hb⟩
      have hdl : decide (lab < (R.length : Int)) = false := decide_eq_false (by omega)
      go_wp2_with fail
      refine HO.out.mono ?_
      rintro e w4 ⟨v, rfl, hb⟩
      have HB4 := Lib.hid (HB3.out.trans (hb.mono HB3.out.size))
      have HZ4 := Lib.hid (HZ3.out.trans (hb.mono HZ3.out.size))
      clear HZ3
      clear hb HB3 HO HCF3 HR3
      go_wp2_with fail
      refine (gopen_nilt (some ⟨n + 3, 0, none⟩) lab w4).mono ?_
      rintro e wz ⟨rfl, hwz⟩
      rw [hwz]
      clear hwz
      go_wp2_with fail
      refine (gopen_nilc t lab w4).mono ?_
      rintro e wz ⟨rfl, hwz⟩
      rw [hwz]
      clear hwz
      go_wp2_with fail
      refine (gtake_nil w4).mono ?_
      rintro e wz ⟨rfl, hwz⟩
      rw [hwz]
      clear hwz
      go_wp2_with fail
      refine (gget_nil nn n0 n1 w4).mono ?_
      rintro e w5 ⟨rfl, hb⟩
      have HB5 := Lib.hid (HB4.out.trans (hb.mono HB4.out.size))
      have HZ5 := Lib.hid (HZ4.out.trans (hb.mono HZ4.out.size))
      clear HZ4
      clear hb HB4 
      go_upto_region 11 with (first | (refine wpList_alloc_byts (w := w5) rfl 51 64 rfl Try.zero36 ?_; intro w6 G6 hb6 hz6; simp only [Act.put, List.getElem_toArray, List.getElem_cons_zero, List.getElem_cons_succ, List.setIfInBounds_toArray, List.set_cons_zero, List.set_cons_succ]; refine wpList_store_blk rfl (.tmp 22) (.tmp 74) rfl w5.heap.size 0 64 (fun _ => 0) (fun _ => 0) G6.out (by omega) rfl rfl ?_; intro w7 FB7 HK7; have HQ6 := Lib.hid hb6; clear hb6 hz6 G6))
      obtain ⟨bFB, hbFB⟩ : ∃ b, w5.heap.size = b := ⟨_, rfl⟩
      have HB6 := Lib.hid (HB5.out.trans (HQ6.out.mono HB5.out.size))
      have HZ6 := Lib.hid (HZ5.out.trans (HQ6.out.mono HZ5.out.size))
      have HB7 := Lib.hid (HB6.out.trans (HK7.out.below HB5.out.size HB5.out.size HB6.out.size))
      have HZ7 := Lib.hid (HZ6.out.trans (HK7.out.below HZ5.out.size HZ5.out.size HZ6.out.size))
      clear HZ6 HZ5
      have FBx := Lib.hid (FB7.out.congr (fun j hj => upd_zero 64 (fun _ => 0) j hj _))
      clear FB7
      have FB7 := FBx
      clear FBx
      rw [hbFB] at FB7
      try rw [hbFB]
      clear hbFB HQ6 HK7 HB5 HB6
      go_wp2_with fail
      refine (gnode_nil num w7).mono ?_
      rintro e w8 ⟨rfl, hb⟩
      have HB8 := Lib.hid (HB7.out.trans (hb.mono HB7.out.size))
      have HZ8 := Lib.hid (HZ7.out.trans (hb.mono HZ7.out.size))
      clear HZ7
      have FB8 := Lib.hid (FB7.out.below hb FB7.out.lt)
      clear FB7
      clear hb HB7 
      go_upto_region 12 with (first | (refine wpList_alloc_list (w := w8) rfl 64 rfl (ndc zpt) Try.zero27 ?_; intro w9 G9 hb9 hz9; simp only [Act.put, List.getElem_toArray, List.getElem_cons_zero, List.getElem_cons_succ, List.setIfInBounds_toArray, List.set_cons_zero, List.set_cons_succ]; refine wpList_store_list rfl 64 (.tmp 24) (.tmp 80) rfl w8.heap.size (ndc zpt) (ndc zpt) rfl rfl G9.out rfl (size27 _) (ndc_one _) ?_; intro w10 FN10 HK10; have HQ9 := Lib.hid hb9; clear hb9 hz9 G9))
      obtain ⟨bFN, hbFN⟩ : ∃ b, w8.heap.size = b := ⟨_, rfl⟩
      have HB9 := Lib.hid (HB8.out.trans (HQ9.out.mono HB8.out.size))
      have HZ9 := Lib.hid (HZ8.out.trans (HQ9.out.mono HZ8.out.size))
      have HB10 := Lib.hid (HB9.out.trans (HK10.out.below HB8.out.size HB8.out.size HB9.out.size))
      have HZ10 := Lib.hid (HZ9.out.trans (HK10.out.below HZ8.out.size HZ8.out.size HZ9.out.size))
      clear HZ9 HZ8
      have hlFB : bFB < w8.heap.size := FB8.out.lt
      have FB9 := Lib.hid (FB8.out.below HQ9.out FB8.out.lt)
      have FB10 := Lib.hid (FB9.out.kp HK10.out (by omega) (by omega))
      clear FB8 FB9 hlFB
      rw [hbFN] at FN10
      try rw [hbFN]
      clear hbFN HQ9 HK10 HB8 HB9
      go_wp2_with fail
      refine (gmake_nil 1 w10).mono ?_
      rintro e wz ⟨rfl, hwz⟩
      rw [hwz]
      clear hwz
      go_wp2_with fail
      refine (gmakelink_nil 1 1 w10).mono ?_
      rintro e wz ⟨rfl, hwz⟩
      rw [hwz]
      clear hwz
      go_wp2_with fail
      refine (gusage_nil w10).mono ?_
      rintro e wz ⟨rfl, hwz⟩
      rw [hwz]
      clear hwz
      go_wp2_with fail
      refine (gino_nil num w10).mono ?_
      rintro e w11 ⟨rfl, hb⟩
      have HB11 := Lib.hid (HB10.out.trans (hb.mono HB10.out.size))
      have HZ11 := Lib.hid (HZ10.out.trans (hb.mono HZ10.out.size))
      clear HZ10
      have FB11 := Lib.hid (FB10.out.below hb FB10.out.lt)
      have FN11 := Lib.hid (FN10.out.keep hb)
      clear FB10 FN10
      clear hb HB10 
      go_upto_region 16 with (first | (refine wpList_alloc_list (w := w11) rfl 72 rfl (inc 0 0 0) Try.zeroIno ?_; intro w12 G12 hb12 hz12; simp only [Act.put, List.getElem_toArray, List.getElem_cons_zero, List.getElem_cons_succ, List.setIfInBounds_toArray, List.set_cons_zero, List.set_cons_succ]; refine wpList_store_list rfl 72 (.tmp 33) (.tmp 102) rfl w11.heap.size (inc 0 0 0) (inc 0 0 0) rfl rfl G12.out rfl (sizeIno _ _ _) (inc_one _ _ _) ?_; intro w13 FI13 HK13; have HQ12 := Lib.hid hb12; clear hb12 hz12 G12))
      obtain ⟨bFI, hbFI⟩ : ∃ b, w11.heap.size = b := ⟨_, rfl⟩
      have HB12 := Lib.hid (HB11.out.trans (HQ12.out.mono HB11.out.size))
      have HZ12 := Lib.hid (HZ11.out.trans (HQ12.out.mono HZ11.out.size))
      have HB13 := Lib.hid (HB12.out.trans (HK13.out.below HB11.out.size HB11.out.size HB12.out.size))
      have HZ13 := Lib.hid (HZ12.out.trans (HK13.out.below HZ11.out.size HZ11.out.size HZ12.out.size))
      clear HZ12 HZ11
      have hlFB : bFB < w11.heap.size := FB11.out.lt
      have FB12 := Lib.hid (FB11.out.below HQ12.out FB11.out.lt)
      have FB13 := Lib.hid (FB12.out.kp HK13.out (by omega) (by omega))
      clear FB11 FB12 hlFB
      have hlFN : bFN < w11.heap.size := FN11.out.lt
      have FN12 := Lib.hid (FN11.out.keep HQ12.out)
      have FN13 := Lib.hid (FN12.out.kp HK13.out (by omega) (by omega))
      clear FN11 FN12 hlFN
      rw [hbFI] at FI13
      try rw [hbFI]
      clear hbFI HQ12 HK13 HB11 HB12
      go_wp2_with fail
      refine (Cf.clen_any n vr vm vg R MS w13 (HCF2.out.below HZ13.out) (by omega)).mono ?_
      rintro e wz ⟨rfl, hwz⟩
      rw [hwz]
      clear hwz
      go_upto_region 17 with fail
      simp only [List.append_eq, List.cons_append, List.nil_append]
      go_wp2_with (first | (refine wpList_yields _ (yieldsIf_load_mid (by kernel_rfl) 51 (.tmp 22) rfl bFB 0 rfl (byts 64 fun _ => 0) (.array 64 5) (fun W h => by rw [h]; exact FB13.out.range0) Try.arr36 rfl (size36 _)) ?_) | (refine wpList_yields (.agg (byts 64 fun _ => 0).toArray) (yields_build0 (by kernel_rfl) rfl) ?_) | (refine wpList_yields (.bool true) (yields_eql (by kernel_rfl) 51 51 _ _ rfl (byts 64 fun _ => 0).toArray (byts 64 fun _ => 0).toArray rfl rfl true Try.guardBlk (fun W _ => Try.eqBlk0 W)) ?_) | (refine wpList_yields _ (yieldsIf_load_mid (by kernel_rfl) 64 (.tmp 24) rfl bFN 0 rfl (ndc zpt) d27 (fun W h => by rw [h]; exact FN13.out.range0) HU27.out HD27.out (size27 _)) ?_) | (refine wpList_yields (.agg (ndc zpt).toArray) (yields_bld0 (by kernel_rfl) 64 rfl _ build27_zero) ?_) | (refine wpList_yields (.bool true) (yields_eql (by kernel_rfl) 64 64 _ _ rfl (ndc zpt).toArray (ndc zpt).toArray rfl rfl true Try.guard27 (fun W _ => Try.eqNode0 W)) ?_) | (refine wpList_yields _ (yieldsIf_load_mid (by kernel_rfl) 72 (.tmp 33) rfl bFI 0 rfl (inc 0 0 0) dI (fun W h => by rw [h]; exact FI13.out.range0) HUI.out HDI.out (sizeIno _ _ _)) ?_) | (refine wpList_yields (.agg (inc 0 0 0).toArray) (yields_bld0 (by kernel_rfl) 72 rfl _ Try.buildIno0) ?_) | (refine wpList_yields (.bool true) (yields_eql (by kernel_rfl) 72 72 _ _ rfl (inc 0 0 0).toArray (inc 0 0 0).toArray rfl rfl true Try.guardIno (fun W _ => Try.eqIno0 W)) ?_))
      refine (ggive_nil nn n0 n1 w13).mono ?_
      rintro e wz ⟨rfl, hwz⟩
      rw [hwz]
      clear hwz
      go_wp2_with (first | (refine wpList_yields _ (yieldsIf_load_mid (by kernel_rfl) 51 (.tmp 22) rfl bFB 0 rfl (byts 64 fun _ => 0) (.array 64 5) (fun W h => by rw [h]; exact FB13.out.range0) Try.arr36 rfl (size36 _)) ?_) | (refine wpList_yields (.agg (byts 64 fun _ => 0).toArray) (yields_build0 (by kernel_rfl) rfl) ?_) | (refine wpList_yields (.bool true) (yields_eql (by kernel_rfl) 51 51 _ _ rfl (byts 64 fun _ => 0).toArray (byts 64 fun _ => 0).toArray rfl rfl true Try.guardBlk (fun W _ => Try.eqBlk0 W)) ?_) | (refine wpList_yields _ (yieldsIf_load_mid (by kernel_rfl) 64 (.tmp 24) rfl bFN 0 rfl (ndc zpt) d27 (fun W h => by rw [h]; exact FN13.out.range0) HU27.out HD27.out (size27 _)) ?_) | (refine wpList_yields (.agg (ndc zpt).toArray) (yields_bld0 (by kernel_rfl) 64 rfl _ build27_zero) ?_) | (refine wpList_yields (.bool true) (yields_eql (by kernel_rfl) 64 64 _ _ rfl (ndc zpt).toArray (ndc zpt).toArray rfl rfl true Try.guard27 (fun W _ => Try.eqNode0 W)) ?_) | (refine wpList_yields _ (yieldsIf_load_mid (by kernel_rfl) 72 (.tmp 33) rfl bFI 0 rfl (inc 0 0 0) dI (fun W h => by rw [h]; exact FI13.out.range0) HUI.out HDI.out (sizeIno _ _ _)) ?_) | (refine wpList_yields (.agg (inc 0 0 0).toArray) (yields_bld0 (by kernel_rfl) 72 rfl _ Try.buildIno0) ?_) | (refine wpList_yields (.bool true) (yields_eql (by kernel_rfl) 72 72 _ _ rfl (inc 0 0 0).toArray (inc 0 0 0).toArray rfl rfl true Try.guardIno (fun W _ => Try.eqIno0 W)) ?_))
      refine (gput_nil nn n0 n1 (fun _ => 0) w13).mono ?_
      rintro e w14 ⟨rfl, hb⟩
      have HB14 := Lib.hid (HB13.out.trans (hb.mono HB13.out.size))
      have HZ14 := Lib.hid (HZ13.out.trans (hb.mono HZ13.out.size))
      clear HZ13
      have FB14 := Lib.hid (FB13.out.below hb FB13.out.lt)
      have FN14 := Lib.hid (FN13.out.keep hb)
      have FI14 := Lib.hid (FI13.out.keep hb)
      clear FB13 FN13 FI13
      clear hb HB13 
      go_wp2_with (first | (refine wpList_yields _ (yieldsIf_load_mid (by kernel_rfl) 51 (.tmp 22) rfl bFB 0 rfl (byts 64 fun _ => 0) (.array 64 5) (fun W h => by rw [h]; exact FB14.out.range0) Try.arr36 rfl (size36 _)) ?_) | (refine wpList_yields (.agg (byts 64 fun _ => 0).toArray) (yields_build0 (by kernel_rfl) rfl) ?_) | (refine wpList_yields (.bool true) (yields_eql (by kernel_rfl) 51 51 _ _ rfl (byts 64 fun _ => 0).toArray (byts 64 fun _ => 0).toArray rfl rfl true Try.guardBlk (fun W _ => Try.eqBlk0 W)) ?_) | (refine wpList_yields _ (yieldsIf_load_mid (by kernel_rfl) 64 (.tmp 24) rfl bFN 0 rfl (ndc zpt) d27 (fun W h => by rw [h]; exact FN14.out.range0) HU27.out HD27.out (size27 _)) ?_) | (refine wpList_yields (.agg (ndc zpt).toArray) (yields_bld0 (by kernel_rfl) 64 rfl _ build27_zero) ?_) | (refine wpList_yields (.bool true) (yields_eql (by kernel_rfl) 64 64 _ _ rfl (ndc zpt).toArray (ndc zpt).toArray rfl rfl true Try.guard27 (fun W _ => Try.eqNode0 W)) ?_) | (refine wpList_yields _ (yieldsIf_load_mid (by kernel_rfl) 72 (.tmp 33) rfl bFI 0 rfl (inc 0 0 0) dI (fun W h => by rw [h]; exact FI14.out.range0) HUI.out HDI.out (sizeIno _ _ _)) ?_) | (refine wpList_yields (.agg (inc 0 0 0).toArray) (yields_bld0 (by kernel_rfl) 72 rfl _ Try.buildIno0) ?_) | (refine wpList_yields (.bool true) (yields_eql (by kernel_rfl) 72 72 _ _ rfl (inc 0 0 0).toArray (inc 0 0 0).toArray rfl rfl true Try.guardIno (fun W _ => Try.eqIno0 W)) ?_))
      refine (gset_nil num zpt w14).mono ?_
      rintro e w15 ⟨rfl, hb⟩
      have HB15 := Lib.hid (HB14.out.trans (hb.mono HB14.out.size))
      have HZ15 := Lib.hid (HZ14.out.trans (hb.mono HZ14.out.size))
      clear HZ14
      have FB15 := Lib.hid (FB14.out.below hb FB14.out.lt)
      have FN15 := Lib.hid (FN14.out.keep hb)
      have FI15 := Lib.hid (FI14.out.keep hb)
      clear FB14 FN14 FI14
      clear hb HB14 
      go_wp2_with (first | (refine wpList_yields _ (yieldsIf_load_mid (by kernel_rfl) 51 (.tmp 22) rfl bFB 0 rfl (byts 64 fun _ => 0) (.array 64 5) (fun W h => by rw [h]; exact FB15.out.range0) Try.arr36 rfl (size36 _)) ?_) | (refine wpList_yields (.agg (byts 64 fun _ => 0).toArray) (yields_build0 (by kernel_rfl) rfl) ?_) | (refine wpList_yields (.bool true) (yields_eql (by kernel_rfl) 51 51 _ _ rfl (byts 64 fun _ => 0).toArray (byts 64 fun _ => 0).toArray rfl rfl true Try.guardBlk (fun W _ => Try.eqBlk0 W)) ?_) | (refine wpList_yields _ (yieldsIf_load_mid (by kernel_rfl) 64 (.tmp 24) rfl bFN 0 rfl (ndc zpt) d27 (fun W h => by rw [h]; exact FN15.out.range0) HU27.out HD27.out (size27 _)) ?_) | (refine wpList_yields (.agg (ndc zpt).toArray) (yields_bld0 (by kernel_rfl) 64 rfl _ build27_zero) ?_) | (refine wpList_yields (.bool true) (yields_eql (by kernel_rfl) 64 64 _ _ rfl (ndc zpt).toArray (ndc zpt).toArray rfl rfl true Try.guard27 (fun W _ => Try.eqNode0 W)) ?_) | (refine wpList_yields _ (yieldsIf_load_mid (by kernel_rfl) 72 (.tmp 33) rfl bFI 0 rfl (inc 0 0 0) dI (fun W h => by rw [h]; exact FI15.out.range0) HUI.out HDI.out (sizeIno _ _ _)) ?_) | (refine wpList_yields (.agg (inc 0 0 0).toArray) (yields_bld0 (by kernel_rfl) 72 rfl _ Try.buildIno0) ?_) | (refine wpList_yields (.bool true) (yields_eql (by kernel_rfl) 72 72 _ _ rfl (inc 0 0 0).toArray (inc 0 0 0).toArray rfl rfl true Try.guardIno (fun W _ => Try.eqIno0 W)) ?_))
      refine (gwipe_nil num w15).mono ?_
      rintro e w16 ⟨rfl, hb⟩
      have HB16 := Lib.hid (HB15.out.trans (hb.mono HB15.out.size))
      have HZ16 := Lib.hid (HZ15.out.trans (hb.mono HZ15.out.size))
      clear HZ15
      have FB16 := Lib.hid (FB15.out.below hb FB15.out.lt)
      have FN16 := Lib.hid (FN15.out.keep hb)
      have FI16 := Lib.hid (FI15.out.keep hb)
      clear FB15 FN15 FI15
      clear hb HB15 
      go_wp2_with (first | (refine wpList_yields _ (yieldsIf_load_mid (by kernel_rfl) 51 (.tmp 22) rfl bFB 0 rfl (byts 64 fun _ => 0) (.array 64 5) (fun W h => by rw [h]; exact FB16.out.range0) Try.arr36 rfl (size36 _)) ?_) | (refine wpList_yields (.agg (byts 64 fun _ => 0).toArray) (yields_build0 (by kernel_rfl) rfl) ?_) | (refine wpList_yields (.bool true) (yields_eql (by kernel_rfl) 51 51 _ _ rfl (byts 64 fun _ => 0).toArray (byts 64 fun _ => 0).toArray rfl rfl true Try.guardBlk (fun W _ => Try.eqBlk0 W)) ?_) | (refine wpList_yields _ (yieldsIf_load_mid (by kernel_rfl) 64 (.tmp 24) rfl bFN 0 rfl (ndc zpt) d27 (fun W h => by rw [h]; exact FN16.out.range0) HU27.out HD27.out (size27 _)) ?_) | (refine wpList_yields (.agg (ndc zpt).toArray) (yields_bld0 (by kernel_rfl) 64 rfl _ build27_zero) ?_) | (refine wpList_yields (.bool true) (yields_eql (by kernel_rfl) 64 64 _ _ rfl (ndc zpt).toArray (ndc zpt).toArray rfl rfl true Try.guard27 (fun W _ => Try.eqNode0 W)) ?_) | (refine wpList_yields _ (yieldsIf_load_mid (by kernel_rfl) 72 (.tmp 33) rfl bFI 0 rfl (inc 0 0 0) dI (fun W h => by rw [h]; exact FI16.out.range0) HUI.out HDI.out (sizeIno _ _ _)) ?_) | (refine wpList_yields (.agg (inc 0 0 0).toArray) (yields_bld0 (by kernel_rfl) 72 rfl _ Try.buildIno0) ?_) | (refine wpList_yields (.bool true) (yields_eql (by kernel_rfl) 72 72 _ _ rfl (inc 0 0 0).toArray (inc 0 0 0).toArray rfl rfl true Try.guardIno (fun W _ => Try.eqIno0 W)) ?_))
      refine (lab_nil w16).mono ?_
      rintro e wz ⟨rfl, hwz⟩
      rw [hwz]
      clear hwz
      go_wp2_with fail
      go_ret
      exact ⟨rfl, HB16.out⟩

end Go.Proofs.Ytkkdbckaolhmnaa
