import Derived.Test.YtflcpbjdilpbpaaGreatF17
/- Files: calls of a nil group, and of nodes that there aren't. -/
namespace Go.Proofs.YtflcpbjdilpbpaaGreat
set_option linter.unusedSimpArgs false
set_option linter.unusedVariables false
open Go.RowKit Go.Maps

set_option maxHeartbeats 40000000 in
set_option maxRecDepth 200000 in
theorem filenone_walk (x off many : Int) (hx0 : -9223372036854775808 ≤ x) (hx1 : x < 9223372036854775808) (zs : List Int) (v : Value) (w : World) (hU : U8s w v zs) :
    Calls Tryz.prog 7 #[.int .i64 x, .int .i64 off, .int .i64 many, v] w fun e w' => e = .returned (.bool true) ∧ Below w.heap.size w w' := by
  obtain ⟨pv, vc, rfl, hvn⟩ := hU.form
  clear hU
  obtain ⟨vn, hvl⟩ : ∃ n, zs.length = n := ⟨_, rfl⟩
  rw [hvl] at hvn ⊢
  clear hvl zs
  go_enter Tryz.func7, Tryz.ntmps7
  go_wp2_with fail
  refine (awake8 w).mono ?_
  rintro e w1 ⟨rfl, hb1⟩
  have HB1 := Lib.hid hb1
  clear hb1
  by_cases hlen : 100 < vn
  · go_wp2_with fail
    go_ret
    exact ⟨rfl, HB1.out⟩
  obtain ⟨N, g, B0, P0, DA, hc8⟩ := c8
  have HC8 := Lib.hid hc8
  have HG := Lib.hid hc8.gg
  clear hc8
  go_wp2_with fail
  refine (small_any w1).mono ?_
  rintro e w2 ⟨n, vr, vm, vg, rfl, -, hb2, hCF⟩
  have HB2 := Lib.hid (HB1.out.trans (hb2.mono HB1.out.size))
  have HCF := Lib.hid hCF
  clear hb2 hCF
  go_wp2_with fail
  refine (fresh8 HC8.out n vr vm vg w2 HCF.out).mono ?_
  rintro e w3 ⟨t, mm, dd, gg, l, Y0, rfl, hFr, hll, hln, hLg, hRd, hTab, hbit, hb3⟩
  have HR3 := Lib.hid hRd
  have HL3 := Lib.hid hLg
  have HTab := Lib.hid hTab
  have HBit := Lib.hid hbit
  have HCF3 := Lib.hid (HCF.out.below hb3)
  have HB3 := Lib.hid (HB2.out.trans (hb3.mono HB2.out.size))
  have HNl := Lib.hid (show l ∉ [dd, gg] from fun h => hln (by simp only [List.mem_cons, List.not_mem_nil, or_false] at h ⊢; omega))
  have HNt := Lib.hid hln
  have hdd : w2.heap.size ≤ dd := hFr.2.2.1
  have hgg : w2.heap.size ≤ gg := hFr.2.2.2
  have hdt : w2.heap.size ≤ t := hFr.1
  have hdm : w2.heap.size ≤ mm := hFr.2.1
  have hw2 : w.heap.size ≤ w2.heap.size := HB2.out.size
  have hw3 := hb3.size
  have HCFx : Hid (∀ W, Below w2.heap.size w2 W → Cf.CF n W vr vm vg R8 []) := Lib.hid (fun W hk => HCF.out.below hk)
  have HZ3 := Lib.hid hb3
  clear hFr hll hln hLg hRd hTab hbit hb3 HCF
  have HOp := Lib.hid (open8 HC8.out ⟨[], Y0⟩ t mm dd gg n 7000 Y0 vr vm vg w3 HCF3.out HR3.out)
  go_wp2_with fail
  refine HOp.out.mono ?_
  rintro e w4 ⟨q, p, rfl, hq, hp, hG, hb⟩
  have HG4 := Lib.hid hG
  have HB4 := Lib.hid (HB3.out.trans (hb.mono HB3.out.size))
  have HCF4 := Lib.hid (HCF3.out.below hb)
  clear hG hb HOp HR3 HCF3 HL3 HCFx HZ3
  have HRg := Lib.hid (creg_in n vr vm vg R8 [] 0 (by rw [R8_len]; decide) w4 HCF4.out)
  obtain ⟨r, hr⟩ : ∃ r, R8[0]'(by rw [R8_len]; decide) = r := ⟨_, rfl⟩
  rw [hr] at HRg
  have HRD := Lib.hid (show r.cells[4]? = some (.int .i64 8) from by rw [← hr]; kernel_rfl)
  have HRL := Lib.hid (show r.cells.length = 9 from rfl)
  have HRO := Lib.hid (reg_one r)
  have HRS := Lib.hid (sizeReg r)
  obtain ⟨rc, hrc⟩ : ∃ c, r.cells = c := ⟨_, rfl⟩
  rw [hrc] at HRg HRD HRL HRO HRS
  clear hrc hr r HCF4
  go_wp2_with fail
  refine HRg.out.mono ?_
  rintro e w5 ⟨rfl, hb⟩
  have HG5 := Lib.hid (HG4.out.keep hb)
  have HB5 := Lib.hid (HB4.out.trans (hb.mono HB4.out.size))
  clear hb HRg HG4 HB4
  go_upto_region 9 with (first | (refine wpList_alloc_list (w := w5) rfl 41 rfl Cf.zeroRg.cells Tryz.zeroReg ?_; intro w51 G5 hb5 hz5; simp only [Act.put, List.getElem_toArray, List.getElem_cons_zero, List.getElem_cons_succ, List.setIfInBounds_toArray, List.set_cons_zero, List.set_cons_succ]; refine wpList_store_list rfl 41 (.tmp 15) (.tmp 46) rfl w5.heap.size Cf.zeroRg.cells rc rfl rfl G5.out (by rw [HRL.out]; rfl) HRS.out HRO.out ?_; intro w6 FR6 HK6; have HQ5 := Lib.hid hb5; clear hb5 hz5 G5))
  have HB51 := Lib.hid (HB5.out.trans (HQ5.out.mono HB5.out.size))
  have HG6 := Lib.hid ((HG5.out.keep HQ5.out).kp HK6.out (HG5.out.notin (Nat.le_refl _)))
  have HB6 := Lib.hid (HB51.out.trans (HK6.out.below HB5.out.size HB5.out.size HB51.out.size))
  have cN := FR6.out.c 4 _ HRD.out
  obtain ⟨bR, hbR⟩ : ∃ b, w5.heap.size = b := ⟨_, rfl⟩
  rw [hbR] at cN
  try rw [hbR]
  have hbR2 := FR6.out.lt
  rw [hbR] at hbR2
  clear hbR FR6 HK6 HQ5 HB5 HB51 HG5
  have hfalse0 : True := trivial
  by_cases h3 : 3 < x
  · by_cases h8 : x ≤ 8
    · have HOE : Hid (∀ (k : Nat) (W : World), k < 10 → Gr W q p t mm dd gg 0 g B0 67 N ⟨[], Y0⟩ Y0 (7000 + k) → Calls Tryz.prog 71 #[.pointer (some ⟨q, 0, none⟩), .int .i64 x] W fun e w' => e = .returned (.tuple #[.pointer none, .int .i64 14]) ∧ Gr w' q p t mm dd gg 0 g B0 67 N ⟨[], Y0⟩ Y0 (7000 + (k + 1)) ∧ Kf W w' [t, mm, dd, gg]) := Lib.hid (fun k W hk hW => by
        obtain ⟨z, rfl⟩ := Int.eq_ofNat_of_zero_le (show 0 ≤ x by omega)
        exact fopen_free q p t mm dd gg 0 B0 P0 8 DA 67 N (7000 + k) g Y0 (VF 3) z (by omega) (by omega) (by unfold VF; rw [if_neg (by omega)]; rfl) (by omega) HTab.out HG.out W hW)
      go_wp2_with fail
      refine (read_err _ x off many 14 (by decide) (fun W => Gr W q p t mm dd gg 0 g B0 67 N ⟨[], Y0⟩ Y0 (7000 + 1) ∧ Kf w6 W [t, mm, dd, gg]) w6 (HOE.out 0 w6 (by decide) HG6.out)).mono ?_
      rintro e w7 ⟨rfl, hG, hk⟩
      have HG7 := Lib.hid hG
      have hsz6 := HB6.out.size
      have HB7 : Hid (Below w.heap.size w w7) := Lib.hid (HB6.out.trans (hk.below (B := w.heap.size) (fun a ha => by
        simp only [List.mem_cons, List.not_mem_nil, or_false] at ha
        omega) hsz6))
      clear hG hk hsz6 HG6 HB6
      go_wp2_with fail
      refine (read_err _ x off many 1 (by decide) (fun W => Below w7.heap.size w7 W) w7 (fopen_nil x w7)).mono ?_
      rintro e w8 ⟨rfl, hb⟩
      have HG8 := Lib.hid (HG7.out.keep hb)
      have HB8 := Lib.hid (HB7.out.trans (hb.mono HB7.out.size))
      clear hb HG7 HB7
      go_wp2_with fail
      refine (blocks_nil w8).mono ?_
      rintro e w9 ⟨rfl, hb⟩
      have HG9 := Lib.hid (HG8.out.keep hb)
      have HB9 := Lib.hid (HB8.out.trans (hb.mono HB8.out.size))
      clear hb HG8 HB8
      go_wp2_with fail
      refine (write_err _ pv vn vc x off 14 (by decide) (fun W => Gr W q p t mm dd gg 0 g B0 67 N ⟨[], Y0⟩ Y0 (7000 + 2) ∧ Kf w9 W [t, mm, dd, gg]) w9 (HOE.out 1 w9 (by decide) HG9.out)).mono ?_
      rintro e w10 ⟨rfl, hG, hk⟩
      have HG10 := Lib.hid hG
      have hsz9 := HB9.out.size
      have HB10 : Hid (Below w.heap.size w w10) := Lib.hid (HB9.out.trans (hk.below (B := w.heap.size) (fun a ha => by
        simp only [List.mem_cons, List.not_mem_nil, or_false] at ha
        omega) hsz9))
      clear hG hk hsz9 HG9 HB9
      go_wp2_with fail
      refine (cut_err _ x off 14 (by decide) (fun W => Gr W q p t mm dd gg 0 g B0 67 N ⟨[], Y0⟩ Y0 (7000 + 3) ∧ Kf w10 W [t, mm, dd, gg]) w10 (HOE.out 2 w10 (by decide) HG10.out)).mono ?_
      rintro e w11 ⟨rfl, hG, hk⟩
      have HG11 := Lib.hid hG
      have hsz10 := HB10.out.size
      have HB11 : Hid (Below w.heap.size w w11) := Lib.hid (HB10.out.trans (hk.below (B := w.heap.size) (fun a ha => by
        simp only [List.mem_cons, List.not_mem_nil, or_false] at ha
        omega) hsz10))
      clear hG hk hsz10 HG10 HB10
      go_wp2_with fail
      refine (remove_err _ x 14 (by decide) (fun W => Gr W q p t mm dd gg 0 g B0 67 N ⟨[], Y0⟩ Y0 (7000 + 4) ∧ Kf w11 W [t, mm, dd, gg]) w11 (HOE.out 3 w11 (by decide) HG11.out)).mono ?_
      rintro e w12 ⟨rfl, hG, hk⟩
      have HG12 := Lib.hid hG
      have hsz11 := HB11.out.size
      have HB12 : Hid (Below w.heap.size w w12) := Lib.hid (HB11.out.trans (hk.below (B := w.heap.size) (fun a ha => by
        simp only [List.mem_cons, List.not_mem_nil, or_false] at ha
        omega) hsz11))
      clear hG hk hsz11 HG11 HB11
      go_wp2_with fail
      refine (write_err _ pv vn vc x off 1 (by decide) (fun W => Below w12.heap.size w12 W) w12 (fopen_nil x w12)).mono ?_
      rintro e w13 ⟨rfl, hb⟩
      have HG13 := Lib.hid (HG12.out.keep hb)
      have HB13 := Lib.hid (HB12.out.trans (hb.mono HB12.out.size))
      clear hb HG12 HB12
      go_wp2_with fail
      refine (cut_err _ x off 1 (by decide) (fun W => Below w13.heap.size w13 W) w13 (fopen_nil x w13)).mono ?_
      rintro e w14 ⟨rfl, hb⟩
      have HG14 := Lib.hid (HG13.out.keep hb)
      have HB14 := Lib.hid (HB13.out.trans (hb.mono HB13.out.size))
      clear hb HG13 HB13
      go_wp2_with fail
      refine (remove_err _ x 1 (by decide) (fun W => Below w14.heap.size w14 W) w14 (fopen_nil x w14)).mono ?_
      rintro e w15 ⟨rfl, hb⟩
      have HG15 := Lib.hid (HG14.out.keep hb)
      have HB15 := Lib.hid (HB14.out.trans (hb.mono HB14.out.size))
      clear hb HG14 HB14
      go_wp2_with fail
      go_ret
      exact ⟨rfl, HB15.out⟩
    · have HOE : Hid (∀ (k : Nat) (W : World), k < 10 → Gr W q p t mm dd gg 0 g B0 67 N ⟨[], Y0⟩ Y0 (7000 + k) → Calls Tryz.prog 71 #[.pointer (some ⟨q, 0, none⟩), .int .i64 x] W fun e w' => e = .returned (.tuple #[.pointer none, .int .i64 27]) ∧ Gr w' q p t mm dd gg 0 g B0 67 N ⟨[], Y0⟩ Y0 (7000 + (k + 1)) ∧ Kf W w' [t, mm, dd, gg]) := Lib.hid (fun k W hk hW => by
        refine (fopen_out q p t mm dd gg 0 B0 P0 8 DA 67 N (7000 + k) g Y0 x (by omega) HG.out W hW).mono ?_
        rintro e w' ⟨he, hb⟩
        exact ⟨he, (hW.keep hb).mono ⟨fun _ h => h, rfl⟩ (by omega), Kf.of_below hb _⟩)
      go_wp2_with fail
      refine (read_err _ x off many 27 (by decide) (fun W => Gr W q p t mm dd gg 0 g B0 67 N ⟨[], Y0⟩ Y0 (7000 + 1) ∧ Kf w6 W [t, mm, dd, gg]) w6 (HOE.out 0 w6 (by decide) HG6.out)).mono ?_
      rintro e w7 ⟨rfl, hG, hk⟩
      have HG7 := Lib.hid hG
      have hsz6 := HB6.out.size
      have HB7 : Hid (Below w.heap.size w w7) := Lib.hid (HB6.out.trans (hk.below (B := w.heap.size) (fun a ha => by
        simp only [List.mem_cons, List.not_mem_nil, or_false] at ha
        omega) hsz6))
      clear hG hk hsz6 HG6 HB6
      go_wp2_with fail
      refine (read_err _ x off many 1 (by decide) (fun W => Below w7.heap.size w7 W) w7 (fopen_nil x w7)).mono ?_
      rintro e w8 ⟨rfl, hb⟩
      have HG8 := Lib.hid (HG7.out.keep hb)
      have HB8 := Lib.hid (HB7.out.trans (hb.mono HB7.out.size))
      clear hb HG7 HB7
      go_wp2_with fail
      refine (blocks_nil w8).mono ?_
      rintro e w9 ⟨rfl, hb⟩
      have HG9 := Lib.hid (HG8.out.keep hb)
      have HB9 := Lib.hid (HB8.out.trans (hb.mono HB8.out.size))
      clear hb HG8 HB8
      go_wp2_with fail
      refine (write_err _ pv vn vc x off 27 (by decide) (fun W => Gr W q p t mm dd gg 0 g B0 67 N ⟨[], Y0⟩ Y0 (7000 + 2) ∧ Kf w9 W [t, mm, dd, gg]) w9 (HOE.out 1 w9 (by decide) HG9.out)).mono ?_
      rintro e w10 ⟨rfl, hG, hk⟩
      have HG10 := Lib.hid hG
      have hsz9 := HB9.out.size
      have HB10 : Hid (Below w.heap.size w w10) := Lib.hid (HB9.out.trans (hk.below (B := w.heap.size) (fun a ha => by
        simp only [List.mem_cons, List.not_mem_nil, or_false] at ha
        omega) hsz9))
      clear hG hk hsz9 HG9 HB9
      go_wp2_with fail
      refine (cut_err _ x off 27 (by decide) (fun W => Gr W q p t mm dd gg 0 g B0 67 N ⟨[], Y0⟩ Y0 (7000 + 3) ∧ Kf w10 W [t, mm, dd, gg]) w10 (HOE.out 2 w10 (by decide) HG10.out)).mono ?_
      rintro e w11 ⟨rfl, hG, hk⟩
      have HG11 := Lib.hid hG
      have hsz10 := HB10.out.size
      have HB11 : Hid (Below w.heap.size w w11) := Lib.hid (HB10.out.trans (hk.below (B := w.heap.size) (fun a ha => by
        simp only [List.mem_cons, List.not_mem_nil, or_false] at ha
        omega) hsz10))
      clear hG hk hsz10 HG10 HB10
      go_wp2_with fail
      refine (remove_err _ x 27 (by decide) (fun W => Gr W q p t mm dd gg 0 g B0 67 N ⟨[], Y0⟩ Y0 (7000 + 4) ∧ Kf w11 W [t, mm, dd, gg]) w11 (HOE.out 3 w11 (by decide) HG11.out)).mono ?_
      rintro e w12 ⟨rfl, hG, hk⟩
      have HG12 := Lib.hid hG
      have hsz11 := HB11.out.size
      have HB12 : Hid (Below w.heap.size w w12) := Lib.hid (HB11.out.trans (hk.below (B := w.heap.size) (fun a ha => by
        simp only [List.mem_cons, List.not_mem_nil, or_false] at ha
        omega) hsz11))
      clear hG hk hsz11 HG11 HB11
      go_wp2_with fail
      refine (write_err _ pv vn vc x off 1 (by decide) (fun W => Below w12.heap.size w12 W) w12 (fopen_nil x w12)).mono ?_
      rintro e w13 ⟨rfl, hb⟩
      have HG13 := Lib.hid (HG12.out.keep hb)
      have HB13 := Lib.hid (HB12.out.trans (hb.mono HB12.out.size))
      clear hb HG12 HB12
      go_wp2_with fail
      refine (cut_err _ x off 1 (by decide) (fun W => Below w13.heap.size w13 W) w13 (fopen_nil x w13)).mono ?_
      rintro e w14 ⟨rfl, hb⟩
      have HG14 := Lib.hid (HG13.out.keep hb)
      have HB14 := Lib.hid (HB13.out.trans (hb.mono HB13.out.size))
      clear hb HG13 HB13
      go_wp2_with fail
      refine (remove_err _ x 1 (by decide) (fun W => Below w14.heap.size w14 W) w14 (fopen_nil x w14)).mono ?_
      rintro e w15 ⟨rfl, hb⟩
      have HG15 := Lib.hid (HG14.out.keep hb)
      have HB15 := Lib.hid (HB14.out.trans (hb.mono HB14.out.size))
      clear hb HG14 HB14
      go_wp2_with fail
      go_ret
      exact ⟨rfl, HB15.out⟩
  · by_cases h1 : 1 ≤ x
    · go_wp2_with fail
      go_ret
      exact ⟨rfl, HB6.out⟩
    · have HOE : Hid (∀ (k : Nat) (W : World), k < 10 → Gr W q p t mm dd gg 0 g B0 67 N ⟨[], Y0⟩ Y0 (7000 + k) → Calls Tryz.prog 71 #[.pointer (some ⟨q, 0, none⟩), .int .i64 x] W fun e w' => e = .returned (.tuple #[.pointer none, .int .i64 27]) ∧ Gr w' q p t mm dd gg 0 g B0 67 N ⟨[], Y0⟩ Y0 (7000 + (k + 1)) ∧ Kf W w' [t, mm, dd, gg]) := Lib.hid (fun k W hk hW => by
        refine (fopen_out q p t mm dd gg 0 B0 P0 8 DA 67 N (7000 + k) g Y0 x (by omega) HG.out W hW).mono ?_
        rintro e w' ⟨he, hb⟩
        exact ⟨he, (hW.keep hb).mono ⟨fun _ h => h, rfl⟩ (by omega), Kf.of_below hb _⟩)
      go_wp2_with fail
      refine (read_err _ x off many 27 (by decide) (fun W => Gr W q p t mm dd gg 0 g B0 67 N ⟨[], Y0⟩ Y0 (7000 + 1) ∧ Kf w6 W [t, mm, dd, gg]) w6 (HOE.out 0 w6 (by decide) HG6.out)).mono ?_
      rintro e w7 ⟨rfl, hG, hk⟩
      have HG7 := Lib.hid hG
      have hsz6 := HB6.out.size
      have HB7 : Hid (Below w.heap.size w w7) := Lib.hid (HB6.out.trans (hk.below (B := w.heap.size) (fun a ha => by
        simp only [List.mem_cons, List.not_mem_nil, or_false] at ha
        omega) hsz6))
      clear hG hk hsz6 HG6 HB6
      go_wp2_with fail
      refine (read_err _ x off many 1 (by decide) (fun W => Below w7.heap.size w7 W) w7 (fopen_nil x w7)).mono ?_
      rintro e w8 ⟨rfl, hb⟩
      have HG8 := Lib.hid (HG7.out.keep hb)
      have HB8 := Lib.hid (HB7.out.trans (hb.mono HB7.out.size))
      clear hb HG7 HB7
      go_wp2_with fail
      refine (blocks_nil w8).mono ?_
      rintro e w9 ⟨rfl, hb⟩
      have HG9 := Lib.hid (HG8.out.keep hb)
      have HB9 := Lib.hid (HB8.out.trans (hb.mono HB8.out.size))
      clear hb HG8 HB8
      go_wp2_with fail
      refine (write_err _ pv vn vc x off 27 (by decide) (fun W => Gr W q p t mm dd gg 0 g B0 67 N ⟨[], Y0⟩ Y0 (7000 + 2) ∧ Kf w9 W [t, mm, dd, gg]) w9 (HOE.out 1 w9 (by decide) HG9.out)).mono ?_
      rintro e w10 ⟨rfl, hG, hk⟩
      have HG10 := Lib.hid hG
      have hsz9 := HB9.out.size
      have HB10 : Hid (Below w.heap.size w w10) := Lib.hid (HB9.out.trans (hk.below (B := w.heap.size) (fun a ha => by
        simp only [List.mem_cons, List.not_mem_nil, or_false] at ha
        omega) hsz9))
      clear hG hk hsz9 HG9 HB9
      go_wp2_with fail
      refine (cut_err _ x off 27 (by decide) (fun W => Gr W q p t mm dd gg 0 g B0 67 N ⟨[], Y0⟩ Y0 (7000 + 3) ∧ Kf w10 W [t, mm, dd, gg]) w10 (HOE.out 2 w10 (by decide) HG10.out)).mono ?_
      rintro e w11 ⟨rfl, hG, hk⟩
      have HG11 := Lib.hid hG
      have hsz10 := HB10.out.size
      have HB11 : Hid (Below w.heap.size w w11) := Lib.hid (HB10.out.trans (hk.below (B := w.heap.size) (fun a ha => by
        simp only [List.mem_cons, List.not_mem_nil, or_false] at ha
        omega) hsz10))
      clear hG hk hsz10 HG10 HB10
      go_wp2_with fail
      refine (remove_err _ x 27 (by decide) (fun W => Gr W q p t mm dd gg 0 g B0 67 N ⟨[], Y0⟩ Y0 (7000 + 4) ∧ Kf w11 W [t, mm, dd, gg]) w11 (HOE.out 3 w11 (by decide) HG11.out)).mono ?_
      rintro e w12 ⟨rfl, hG, hk⟩
      have HG12 := Lib.hid hG
      have hsz11 := HB11.out.size
      have HB12 : Hid (Below w.heap.size w w12) := Lib.hid (HB11.out.trans (hk.below (B := w.heap.size) (fun a ha => by
        simp only [List.mem_cons, List.not_mem_nil, or_false] at ha
        omega) hsz11))
      clear hG hk hsz11 HG11 HB11
      go_wp2_with fail
      refine (write_err _ pv vn vc x off 1 (by decide) (fun W => Below w12.heap.size w12 W) w12 (fopen_nil x w12)).mono ?_
      rintro e w13 ⟨rfl, hb⟩
      have HG13 := Lib.hid (HG12.out.keep hb)
      have HB13 := Lib.hid (HB12.out.trans (hb.mono HB12.out.size))
      clear hb HG12 HB12
      go_wp2_with fail
      refine (cut_err _ x off 1 (by decide) (fun W => Below w13.heap.size w13 W) w13 (fopen_nil x w13)).mono ?_
      rintro e w14 ⟨rfl, hb⟩
      have HG14 := Lib.hid (HG13.out.keep hb)
      have HB14 := Lib.hid (HB13.out.trans (hb.mono HB13.out.size))
      clear hb HG13 HB13
      go_wp2_with fail
      refine (remove_err _ x 1 (by decide) (fun W => Below w14.heap.size w14 W) w14 (fopen_nil x w14)).mono ?_
      rintro e w15 ⟨rfl, hb⟩
      have HG15 := Lib.hid (HG14.out.keep hb)
      have HB15 := Lib.hid (HB14.out.trans (hb.mono HB14.out.size))
      clear hb HG14 HB14
      go_wp2_with fail
      go_ret
      exact ⟨rfl, HB15.out⟩

end Go.Proofs.YtflcpbjdilpbpaaGreat
