import Derived.Test.YtgfgdfcedmcjeaaGreatDoorM25
/- Directories: many names, the walk. -/

namespace Go.Proofs.YtgfgdfcedmcjeaaGreatDoor
set_option linter.unusedSimpArgs false
set_option linter.unusedVariables false
open Go.RowKit Go.Maps

set_option maxHeartbeats 80000000 in
set_option maxRecDepth 400000 in
theorem dirmany_walk (A : Nat) (hA : A < 256) (bk : Bool) (w : World) : Calls Tryz.prog 4 #[.int .u8 (A : Int), .bool bk] w fun e w' => e = .returned (.bool true) ∧ Below w.heap.size w w' := by
  obtain ⟨n9, hn9⟩ : ∃ x, A % 100 = x := ⟨_, rfl⟩
  have hn99 : n9 < 100 := by omega
  have hA9 : (A : Int) % 100 = n9 := by omega
  have hSz := Lib.hid (fun W => Cf.sizeconf_two 0 (by decide) (by decide) (H9 59 10) (H9_ok 59 10 (by decide) (by decide)) (.slice none 0 0) [] (fun x hx => by cases hx) W (u8s_none W) (by decide) rfl)
  have eSz : Cf.sizeVal 0 (H9 59 10) (.slice none 0 0) = (.agg #[.int .u8 0, .int .u8 59, .int .u8 0, .int .u8 0, .int .u8 0, .int .u8 0, .int .u8 10, .int .u8 0, .int .u8 0, .int .u8 0, .int .u8 0, .int .u8 0, .int .u8 0, .int .u8 0, .int .u8 0, .int .u8 0, .int .u8 0, .int .u8 0, .int .u8 0, .int .u8 0, .int .u8 0, .int .u8 0, .int .u8 0, .int .u8 0, .int .u8 0, .int .u8 0, .slice none 0 0]) := by kernel_rfl
  rw [eSz] at hSz
  clear eSz
  obtain ⟨N, g, B0, P0, DA, hc9⟩ := c9 59 10 (by decide) (by decide)
  obtain ⟨R9, hR9⟩ : ∃ x, Cf.sizeRs 2 (H9 59 10) = x := ⟨_, rfl⟩
  rw [hR9] at hSz hc9
  have HC9 := Lib.hid hc9
  have HGG := Lib.hid hc9.gg
  clear hc9 hR9
  go_enter Tryz.func4, Tryz.ntmps4
  go_wp2_with fail
  refine (awake9 w).mono ?_
  rintro e w1 ⟨rfl, hb⟩
  have HQ1 := Lib.hid hb
  clear hb
  go_wp2_with fail
  refine (hSz.out w1).mono ?_
  rintro e w2 ⟨n, vr, vm, vg, rfl, -, hb2, hCF⟩
  have HB2 := Lib.hid (HQ1.out.trans (hb2.mono HQ1.out.size))
  have HCF := Lib.hid hCF
  clear hb2 hCF hSz HQ1
  go_wp2_with fail
  refine (fresh9 HC9.out n vr vm vg w2 HCF.out).mono ?_
  rintro e w3 ⟨t, mm, dd, gg, l, Y0, rfl, hFr, hll, hln, hLg, hRd, hTab, hbit, hb3⟩
  have HR3 := Lib.hid hRd
  have HL3 := Lib.hid hLg
  have HS3 := Lib.hid (S1.fresh (P0 := P0) (DA := DA) hTab hbit HGG.out.n512)
  have HTab := Lib.hid hTab
  have HBit := Lib.hid hbit
  have HCF3 := Lib.hid (HCF.out.below hb3)
  have HNl := Lib.hid (show l ∉ [dd, gg] from fun h => hln (by simp only [List.mem_cons, List.not_mem_nil, or_false] at h ⊢; omega))
  have HNt := Lib.hid hln
  have hdd : w2.heap.size ≤ dd := hFr.2.2.1
  have hgg : w2.heap.size ≤ gg := hFr.2.2.2
  have hdt : w2.heap.size ≤ t := hFr.1
  have hdm : w2.heap.size ≤ mm := hFr.2.1
  have hw2 : w.heap.size ≤ w2.heap.size := HB2.out.size
  have hw3 := hb3.size
  have HCFx : Hid (∀ W, Below w2.heap.size w2 W → Cf.CF n W vr vm vg R9 []) := Lib.hid (fun W hk => HCF.out.below hk)
  have HZ3 := Lib.hid hb3
  clear hFr hll hln hLg hRd hTab hbit hb3 HCF
  clear HTab HBit HCF3 HNt
  go_upto_region 7 with fail
  try rw [hA9]
  clear hA9 hn9
  go_wp2_with fail
  go_loopw [11, 12, 13, 14, 42] (fun _ _ _ _ iv wr => ∃ k : Nat, k ≤ n9 ∧ iv = .int .i64 k ∧ Below w2.heap.size w2 wr ∧ Lg wr l dd 1 ∧ ∃ t1 m1 Y V b, Rd wr t1 m1 dd gg N ⟨[], Y⟩ Y (7000 + 30092 * k) ∧ S1 B0 P0 DA (8 + 59 % 60) Y V b (EM k)) (fun _ _ _ _ iv _ => n9 - (Go.RowKit.intOf iv).toNat)
  case atStart => exact ⟨0, Nat.zero_le _, rfl, HZ3.out, HL3.out, t, mm, Y0, VF 3, fun _ => 0, HR3.out, HS3.out⟩
  case round =>
    obtain ⟨k, hk, rfl, hb, hL, t1, m1, Y, V, b, hR, hS⟩ := hrel
    have HBX := Lib.hid hb
    have HLX := Lib.hid hL
    have HRX := Lib.hid hR
    have HSX := Lib.hid hS
    clear hb hL hR hS HR3 HL3 HS3
    by_cases hkn : k < n9
    · have hkn1 : (k : Int) < n9 := by omega
      have hk0 : (0 : Int) ≤ k := by omega
      have HBg := Lib.hid (begin7 l t1 m1 dd gg (7000 + 30092 * k) Y wr HRX.out HLX.out)
      go_wp2_with fail
      refine HBg.out.mono ?_
      rintro e w4 ⟨tt, mq, rfl, htw4, hmw4, hRw4, hbw4⟩
      have HRw4 := Lib.hid hRw4
      have HBw4 := Lib.hid (HBX.out.trans (hbw4.mono HBX.out.size))
      have HLw4 := Lib.hid (HLX.out.keep hbw4)
      have hzw4 := HBX.out.size
      have hlw4 := HLX.out.lt
      have HNw4 : Hid (l ∉ [tt, mq, dd, gg]) := Lib.hid (fun ha => by
        have := HNl.out
        simp only [List.mem_cons, List.not_mem_nil, or_false] at ha this
        omega)
      clear hRw4 hbw4 HBg HRX HLX HBX
      have HOp := Lib.hid (open9 HC9.out ⟨dl B0 P0 DA b (ndS (nbE (EM k).length)) L9, Y⟩ tt mq dd gg n (7000 + 30092 * k) Y vr vm vg w4 (HCFx.out w4 HBw4.out) (HRw4.out.wide (Lm.nil_le _ _)))
      go_wp2_with fail
      refine HOp.out.mono ?_
      rintro e w5 ⟨q, p, rfl, hqw5, hpw5, hGw5, hbw5⟩
      have HGw5 := Lib.hid hGw5
      have HBw5 := Lib.hid (HBw4.out.trans (hbw5.mono HBw4.out.size))
      have HLw5 := Lib.hid (HLw4.out.keep hbw5)
      clear hGw5 hbw5 HOp HRw4 HLw4 HBw4 hqw5 hpw5
      have HNm := Lib.hid (many_any k (by omega))
      go_wp2_with fail
      refine (HNm.out w5).mono ?_
      rintro e w6 ⟨rfl, hb⟩
      have HGw6 := Lib.hid (HGw5.out.keep hb)
      have HBw6 := Lib.hid (HBw5.out.trans (hb.mono HBw5.out.size))
      have HLw6 := Lib.hid (HLw5.out.keep hb)
      clear hb HNm HGw5 HBw5 HLw5
      have HAd := Lib.hid (add1 HGG.out (by decide) q p tt mq dd gg (7000 + 30092 * k) Y V Y b (EM k) HSX.out (by rw [EM_len]; omega) (by omega) (nmM k, k + 4) (by show k + 4 < 65536; omega) w6 HGw6.out)
      rw [addM k (by omega), setM] at HAd
      go_wp2_with fail
      refine HAd.out.mono ?_
      rintro e w7 ⟨rfl, hk7, (⟨hh, -⟩ | ⟨-, Y', V', b', hG, hS⟩)⟩
      · exact absurd trivial hh
      have HGw7 := Lib.hid hG
      have HS7 := Lib.hid hS
      have HBw7 := Lib.hid (HBw6.out.trans (hk7.below (B := w2.heap.size) (fun a ha => by
        simp only [List.mem_cons, List.not_mem_nil, or_false] at ha
        omega) HBw6.out.size))
      have HLw7 := Lib.hid (HLw6.out.kf hk7 HNw4.out)
      clear hk7 hG hS HAd HSX HGw6 HBw6 HLw6
      have HCm := Lib.hid (commit7 tt mq dd gg (7000 + 30092 * k + 30000) Y' (Ly.len L9 (by rw [L9_len]; decide) _ _ _ _ _) (by omega) w7 HGw7.out.rd)
      go_wp2_with fail
      refine HCm.out.mono ?_
      rintro e w8 ⟨rfl, hR8, hk8⟩
      have HRw8 := Lib.hid hR8
      have HBw8 := Lib.hid (HBw7.out.trans (hk8.below (B := w2.heap.size) (fun a ha => by
        simp only [List.mem_cons, List.not_mem_nil, or_false] at ha
        omega) HBw7.out.size))
      have HLw8 := Lib.hid (HLw7.out.kf hk8 HNw4.out)
      clear hk8 hR8 HCm HGw7 HBw7 HLw7
      go_wp2_with fail
      go_roundw
      case rel => exact ⟨k + 1, by omega, by go_num, HBw8.out, HLw8.out, tt, mq, Y', V', b', HRw8.out.mono (by omega), HS7.out⟩
      case measure => simp [Go.RowKit.intOf]; omega
    · obtain rfl : k = n9 := by omega
      have hS0 : S1 B0 P0 DA (8 + 59 % 60) Y V b (SE bk k 0) := by
        rw [SE_zero]
        exact HSX.out
      have HS0 := Lib.hid hS0
      clear hS0 HSX
      go_wp2_with fail
      go_loopw [15, 16, 17, 18, 19, 20, 21, 22, 23, 24, 70] (fun _ _ _ _ _ _ _ _ _ _ iv wr => ∃ j : Nat, j ≤ k ∧ iv = .int .i64 j ∧ Below w2.heap.size w2 wr ∧ Lg wr l dd 1 ∧ ∃ t1 m1 Y V b, Rd wr t1 m1 dd gg N ⟨[], Y⟩ Y ((7000 + 30092 * k) + 50000 * j) ∧ S1 B0 P0 DA (8 + 59 % 60) Y V b (SE bk k j)) (fun _ _ _ _ _ _ _ _ _ _ iv _ => k - (Go.RowKit.intOf iv).toNat)
      case atStart => exact ⟨0, Nat.zero_le _, rfl, HBX.out, HLX.out, t1, m1, Y, V, b, HRX.out, HS0.out⟩
      case round =>
        obtain ⟨j, hj, rfl, hb, hL, t1, m1, Y, V, b, hR, hS⟩ := hrel
        have HBJ := Lib.hid hb
        have HLJ := Lib.hid hL
        have HRJ := Lib.hid hR
        have HSJ := Lib.hid hS
        clear hb hL hR hS HRX HLX HBX HS0
        by_cases hjn : j < k
        · have hjn1 : (j : Int) < k := by omega
          have hj0 : (0 : Int) ≤ j := by omega
          cases bk
          · obtain ⟨kk, hkk⟩ : ∃ kk, kM false k j = kk := ⟨_, rfl⟩
            have hkl : kk < k := hkk ▸ kM_lt false k j hjn
            have hki : (j : Int) = kk := by rw [← hkk]; rfl
            have HH := Lib.hid (SE_has false k j (by omega) hjn)
            have HA := Lib.hid (fun e he hm => SE_any false k j (by omega) hjn e he hm)
            have HD := Lib.hid (SE_drop false k j (by omega) hjn)
            have hle := SE_le false k j
            rw [hkk] at HH HA HD
            clear hkk
            have HBg := Lib.hid (begin7 l t1 m1 dd gg ((7000 + 30092 * k) + 50000 * j) Y wr HRJ.out HLJ.out)
            go_wp2_with fail
            refine HBg.out.mono ?_
            rintro e w4 ⟨tt, mq, rfl, htw4, hmw4, hRw4, hbw4⟩
            have HRw4 := Lib.hid hRw4
            have HBw4 := Lib.hid (HBJ.out.trans (hbw4.mono HBJ.out.size))
            have HLw4 := Lib.hid (HLJ.out.keep hbw4)
            have hzw4 := HBJ.out.size
            have hlw4 := HLJ.out.lt
            have HNw4 : Hid (l ∉ [tt, mq, dd, gg]) := Lib.hid (fun ha => by
              have := HNl.out
              simp only [List.mem_cons, List.not_mem_nil, or_false] at ha this
              omega)
            clear hRw4 hbw4 HBg HRJ HLJ HBJ
            have HOp := Lib.hid (open9 HC9.out ⟨dl B0 P0 DA b (ndS (nbE (SE false k j).length)) L9, Y⟩ tt mq dd gg n ((7000 + 30092 * k) + 50000 * j) Y vr vm vg w4 (HCFx.out w4 HBw4.out) (HRw4.out.wide (Lm.nil_le _ _)))
            go_wp2_with fail
            refine HOp.out.mono ?_
            rintro e w5 ⟨q, p, rfl, hqw5, hpw5, hGw5, hbw5⟩
            have HGw5 := Lib.hid hGw5
            have HBw5 := Lib.hid (HBw4.out.trans (hbw5.mono HBw4.out.size))
            have HLw5 := Lib.hid (HLw4.out.keep hbw5)
            clear hGw5 hbw5 HOp HRw4 HLw4 HBw4 hqw5 hpw5
            go_upto_region 23 with fail
            try rw [hki]
            have HNm := Lib.hid (many_any kk (by omega))
            go_wp2_with fail
            refine (HNm.out w5).mono ?_
            rintro e w6 ⟨rfl, hb⟩
            have HGw6 := Lib.hid (HGw5.out.keep hb)
            have HBw6 := Lib.hid (HBw5.out.trans (hb.mono HBw5.out.size))
            have HLw6 := Lib.hid (HLw5.out.keep hb)
            clear hb HNm HGw5 HBw5 HLw5
            have HFi := Lib.hid (dfind_any (ln := ⟨dl B0 P0 DA b (ndS (nbE (SE false k j).length)) L9, Y⟩) q p tt mq dd gg 0 B0 P0 8 DA (8 + 59 % 60) N ((7000 + 30092 * k) + 50000 * j) g Y V 1 (by decide) (by decide) b (SE false k j) HSJ.out.dir HSJ.out.tab (by omega) HGG.out w6 HGw6.out (nmM kk))
            go_wp2_with fail
            refine HFi.out.mono ?_
            rintro r w7 ⟨⟨hG, hk7⟩, (⟨i, e, hie, hme, -, rfl⟩ | ⟨hno, -⟩)⟩
            rotate_left
            · exact absurd hno HH.out
            have he2 := HA.out e (List.mem_of_getElem? hie) hme
            obtain ⟨es, en⟩ := e
            replace he2 : en = kk + 4 := he2
            subst he2
            have HGw7 := Lib.hid hG
            have HBw7 := Lib.hid (HBw6.out.trans (hk7.below (B := w2.heap.size) (fun a ha => by
              simp only [List.mem_cons, List.not_mem_nil, or_false] at ha
              omega) HBw6.out.size))
            have HLw7 := Lib.hid (HLw6.out.kf hk7 HNw4.out)
            clear hk7 hG HFi hie hme HGw6 HBw6 HLw6 HA
            have HNm := Lib.hid (many_any kk (by omega))
            go_wp2_with fail
            refine (HNm.out w7).mono ?_
            rintro e w8 ⟨rfl, hb⟩
            have HGw8 := Lib.hid (HGw7.out.keep hb)
            have HBw8 := Lib.hid (HBw7.out.trans (hb.mono HBw7.out.size))
            have HLw8 := Lib.hid (HLw7.out.keep hb)
            clear hb HNm HGw7 HBw7 HLw7
            have HDr := Lib.hid (drop1 HGG.out q p tt mq dd gg ((7000 + 30092 * k) + 50000 * j + 1001) Y V Y b (SE false k j) HSJ.out (by omega) (by omega) (nmM kk) w8 HGw8.out)
            rw [HD.out] at HDr
            go_wp2_with fail
            refine HDr.out.mono ?_
            rintro e w9 ⟨hk9, (⟨hno, -⟩ | ⟨-, rfl, Y', V', b', hG, hS⟩)⟩
            · exact absurd hno HH.out
            have HGw9 := Lib.hid hG
            have HS9 := Lib.hid hS
            have HBw9 := Lib.hid (HBw8.out.trans (hk9.below (B := w2.heap.size) (fun a ha => by
              simp only [List.mem_cons, List.not_mem_nil, or_false] at ha
              omega) HBw8.out.size))
            have HLw9 := Lib.hid (HLw8.out.kf hk9 HNw4.out)
            clear hk9 hG hS HDr HSJ HGw8 HBw8 HLw8 HD HH
            have HCm := Lib.hid (commit7 tt mq dd gg ((7000 + 30092 * k) + 50000 * j + 1001 + 40000) Y' (Ly.len L9 (by rw [L9_len]; decide) _ _ _ _ _) (by omega) w9 HGw9.out.rd)
            go_wp2_with fail
            refine HCm.out.mono ?_
            rintro e wa ⟨rfl, hRa, hka⟩
            have HRwa := Lib.hid hRa
            have HBwa := Lib.hid (HBw9.out.trans (hka.below (B := w2.heap.size) (fun a ha => by
              simp only [List.mem_cons, List.not_mem_nil, or_false] at ha
              omega) HBw9.out.size))
            have HLwa := Lib.hid (HLw9.out.kf hka HNw4.out)
            clear hka hRa HCm HGw9 HBw9 HLw9 HNw4
            have HBg := Lib.hid (begin7 l tt mq dd gg ((7000 + 30092 * k) + 50000 * j + 1001 + 40000 + 92) Y' wa HRwa.out HLwa.out)
            go_wp2_with fail
            refine HBg.out.mono ?_
            rintro e wb ⟨t3, m3, rfl, htwb, hmwb, hRwb, hbwb⟩
            have HRwb := Lib.hid hRwb
            have HBwb := Lib.hid (HBwa.out.trans (hbwb.mono HBwa.out.size))
            have HLwb := Lib.hid (HLwa.out.keep hbwb)
            have hzwb := HBwa.out.size
            have hlwb := HLwa.out.lt
            have HNwb : Hid (l ∉ [t3, m3, dd, gg]) := Lib.hid (fun ha => by
              have := HNl.out
              simp only [List.mem_cons, List.not_mem_nil, or_false] at ha this
              omega)
            clear hRwb hbwb HBg HRwa HLwa HBwa
            have HOp := Lib.hid (open9 HC9.out ⟨[], Y'⟩ t3 m3 dd gg n ((7000 + 30092 * k) + 50000 * j + 1001 + 40000 + 92) Y' vr vm vg wb (HCFx.out wb HBwb.out) (HRwb.out.wide (Lm.nil_le _ _)))
            go_wp2_with fail
            refine HOp.out.mono ?_
            rintro e wc ⟨q3, p3, rfl, hqwc, hpwc, hGwc, hbwc⟩
            have HGwc := Lib.hid hGwc
            have HBwc := Lib.hid (HBwb.out.trans (hbwc.mono HBwb.out.size))
            have HLwc := Lib.hid (HLwb.out.keep hbwc)
            clear hGwc hbwc HOp HRwb HLwb HBwb hqwc hpwc
            have HNo := Lib.hid (gnode_in (ln := ⟨[], Y'⟩) q3 p3 t3 m3 dd gg 0 B0 P0 8 DA (8 + 59 % 60) N ((7000 + 30092 * k) + 50000 * j + 1001 + 40000 + 92) g Y' V' 1 (by decide) (by decide) (by omega) HS9.out.tab HGG.out wc HGwc.out)
            go_wp2_with fail
            refine HNo.out.mono ?_
            rintro e wd ⟨rfl, hG, hkd⟩
            have HGwd := Lib.hid hG
            have HBwd := Lib.hid (HBwc.out.trans (hkd.below (B := w2.heap.size) (fun a ha => by
              simp only [List.mem_cons, List.not_mem_nil, or_false] at ha
              omega) HBwc.out.size))
            have HLwd := Lib.hid (HLwc.out.kf hkd HNwb.out)
            have hf3 := HS9.out.dir.s
            clear hkd hG HNo HGwc HBwc HLwc
            obtain ⟨f9, hf9⟩ : ∃ f, V' 1 = f := ⟨_, rfl⟩
            rw [hf9] at hf3
            try rw [hf9]
            clear hf9
            go_upto_region 28 with (first | (refine wpList_alloc_list (w := wd) rfl 77 rfl (ndc zpt) Tryz.zero27 ?_; intro we F4 hb4 hz4; simp only [Act.put, List.getElem_toArray, List.getElem_cons_zero, List.getElem_cons_succ, List.setIfInBounds_toArray, List.set_cons_zero, List.set_cons_succ]; refine wpList_store_list rfl 77 (.tmp 22) (.tmp 126) rfl wd.heap.size (ndc zpt) (ndc f9) rfl rfl F4.out rfl (size27 _) (ndc_one _) ?_; intro wf F5 HK5; have HQ4 := Lib.hid hb4; clear hb4 F4))
            have HRwf := Lib.hid ((HGwd.out.rd.keep HQ4.out).kp HK5.out (HGwd.out.rd.notin (Nat.le_refl _)) (HGwd.out.rd.notin (Nat.le_refl _)))
            have hzd := HBwd.out.size
            have hld := HLwd.out.lt
            have HLwf := Lib.hid ((HLwd.out.keep HQ4.out).kp HK5.out (by omega) (by omega))
            have HBwf := Lib.hid ((HBwd.out.trans (HQ4.out.mono hzd)).trans (HK5.out.below hzd hzd (Nat.le_trans hzd HQ4.out.size)))
            have cS := F5.out.c 3 _ rfl
            rw [hf3] at cS
            clear HQ4 HK5 HGwd HBwd HLwd hf3 F5 hz4
            by_cases hjl : j + 1 < k
            · have hsl : (16 * (SE false k (j + 1)).length : Nat) = 16 * k := by rw [SE_len, if_neg (by decide), if_pos hjl]
              rw [hsl] at cS
              clear hsl
              have hgt : (0 : Int) < (k : Int) - 1 - kk := by omega
              go_wp2_with fail
              go_roundw
              case rel => exact ⟨j + 1, by omega, by go_num, HBwf.out, HLwf.out, t3, m3, Y', V', b', HRwf.out.mono (by omega), HS9.out⟩
              case measure => simp [Go.RowKit.intOf]; omega
            · have hsl : (16 * (SE false k (j + 1)).length : Nat) = 0 := by rw [SE_len, if_neg (by decide), if_neg hjl]
              rw [hsl] at cS
              clear hsl
              have hgt : (k : Int) - 1 - kk = 0 := by omega
              go_wp2_with fail
              go_roundw
              case rel => exact ⟨j + 1, by omega, by go_num, HBwf.out, HLwf.out, t3, m3, Y', V', b', HRwf.out.mono (by omega), HS9.out⟩
              case measure => simp [Go.RowKit.intOf]; omega
          · obtain ⟨kk, hkk⟩ : ∃ kk, kM true k j = kk := ⟨_, rfl⟩
            have hkl : kk < k := hkk ▸ kM_lt true k j hjn
            have hki : (k : Int) - 1 - j = kk := by rw [← hkk]; show (k : Int) - 1 - j = ((k - 1 - j : Nat) : Int); omega
            have HH := Lib.hid (SE_has true k j (by omega) hjn)
            have HA := Lib.hid (fun e he hm => SE_any true k j (by omega) hjn e he hm)
            have HD := Lib.hid (SE_drop true k j (by omega) hjn)
            have hle := SE_le true k j
            rw [hkk] at HH HA HD
            clear hkk
            have HBg := Lib.hid (begin7 l t1 m1 dd gg ((7000 + 30092 * k) + 50000 * j) Y wr HRJ.out HLJ.out)
            go_wp2_with fail
            refine HBg.out.mono ?_
            rintro e w4 ⟨tt, mq, rfl, htw4, hmw4, hRw4, hbw4⟩
            have HRw4 := Lib.hid hRw4
            have HBw4 := Lib.hid (HBJ.out.trans (hbw4.mono HBJ.out.size))
            have HLw4 := Lib.hid (HLJ.out.keep hbw4)
            have hzw4 := HBJ.out.size
            have hlw4 := HLJ.out.lt
            have HNw4 : Hid (l ∉ [tt, mq, dd, gg]) := Lib.hid (fun ha => by
              have := HNl.out
              simp only [List.mem_cons, List.not_mem_nil, or_false] at ha this
              omega)
            clear hRw4 hbw4 HBg HRJ HLJ HBJ
            have HOp := Lib.hid (open9 HC9.out ⟨dl B0 P0 DA b (ndS (nbE (SE true k j).length)) L9, Y⟩ tt mq dd gg n ((7000 + 30092 * k) + 50000 * j) Y vr vm vg w4 (HCFx.out w4 HBw4.out) (HRw4.out.wide (Lm.nil_le _ _)))
            go_wp2_with fail
            refine HOp.out.mono ?_
            rintro e w5 ⟨q, p, rfl, hqw5, hpw5, hGw5, hbw5⟩
            have HGw5 := Lib.hid hGw5
            have HBw5 := Lib.hid (HBw4.out.trans (hbw5.mono HBw4.out.size))
            have HLw5 := Lib.hid (HLw4.out.keep hbw5)
            clear hGw5 hbw5 HOp HRw4 HLw4 HBw4 hqw5 hpw5
            go_upto_region 23 with fail
            try rw [hki]
            have HNm := Lib.hid (many_any kk (by omega))
            go_wp2_with fail
            refine (HNm.out w5).mono ?_
            rintro e w6 ⟨rfl, hb⟩
            have HGw6 := Lib.hid (HGw5.out.keep hb)
            have HBw6 := Lib.hid (HBw5.out.trans (hb.mono HBw5.out.size))
            have HLw6 := Lib.hid (HLw5.out.keep hb)
            clear hb HNm HGw5 HBw5 HLw5
            have HFi := Lib.hid (dfind_any (ln := ⟨dl B0 P0 DA b (ndS (nbE (SE true k j).length)) L9, Y⟩) q p tt mq dd gg 0 B0 P0 8 DA (8 + 59 % 60) N ((7000 + 30092 * k) + 50000 * j) g Y V 1 (by decide) (by decide) b (SE true k j) HSJ.out.dir HSJ.out.tab (by omega) HGG.out w6 HGw6.out (nmM kk))
            go_wp2_with fail
            refine HFi.out.mono ?_
            rintro r w7 ⟨⟨hG, hk7⟩, (⟨i, e, hie, hme, -, rfl⟩ | ⟨hno, -⟩)⟩
            rotate_left
            · exact absurd hno HH.out
            have he2 := HA.out e (List.mem_of_getElem? hie) hme
            obtain ⟨es, en⟩ := e
            replace he2 : en = kk + 4 := he2
            subst he2
            have HGw7 := Lib.hid hG
            have HBw7 := Lib.hid (HBw6.out.trans (hk7.below (B := w2.heap.size) (fun a ha => by
              simp only [List.mem_cons, List.not_mem_nil, or_false] at ha
              omega) HBw6.out.size))
            have HLw7 := Lib.hid (HLw6.out.kf hk7 HNw4.out)
            clear hk7 hG HFi hie hme HGw6 HBw6 HLw6 HA
            have HNm := Lib.hid (many_any kk (by omega))
            go_wp2_with fail
            refine (HNm.out w7).mono ?_
            rintro e w8 ⟨rfl, hb⟩
            have HGw8 := Lib.hid (HGw7.out.keep hb)
            have HBw8 := Lib.hid (HBw7.out.trans (hb.mono HBw7.out.size))
            have HLw8 := Lib.hid (HLw7.out.keep hb)
            clear hb HNm HGw7 HBw7 HLw7
            have HDr := Lib.hid (drop1 HGG.out q p tt mq dd gg ((7000 + 30092 * k) + 50000 * j + 1001) Y V Y b (SE true k j) HSJ.out (by omega) (by omega) (nmM kk) w8 HGw8.out)
            rw [HD.out] at HDr
            go_wp2_with fail
            refine HDr.out.mono ?_
            rintro e w9 ⟨hk9, (⟨hno, -⟩ | ⟨-, rfl, Y', V', b', hG, hS⟩)⟩
            · exact absurd hno HH.out
            have HGw9 := Lib.hid hG
            have HS9 := Lib.hid hS
            have HBw9 := Lib.hid (HBw8.out.trans (hk9.below (B := w2.heap.size) (fun a ha => by
              simp only [List.mem_cons, List.not_mem_nil, or_false] at ha
              omega) HBw8.out.size))
            have HLw9 := Lib.hid (HLw8.out.kf hk9 HNw4.out)
            clear hk9 hG hS HDr HSJ HGw8 HBw8 HLw8 HD HH
            have HCm := Lib.hid (commit7 tt mq dd gg ((7000 + 30092 * k) + 50000 * j + 1001 + 40000) Y' (Ly.len L9 (by rw [L9_len]; decide) _ _ _ _ _) (by omega) w9 HGw9.out.rd)
            go_wp2_with fail
            refine HCm.out.mono ?_
            rintro e wa ⟨rfl, hRa, hka⟩
            have HRwa := Lib.hid hRa
            have HBwa := Lib.hid (HBw9.out.trans (hka.below (B := w2.heap.size) (fun a ha => by
              simp only [List.mem_cons, List.not_mem_nil, or_false] at ha
              omega) HBw9.out.size))
            have HLwa := Lib.hid (HLw9.out.kf hka HNw4.out)
            clear hka hRa HCm HGw9 HBw9 HLw9 HNw4
            have HBg := Lib.hid (begin7 l tt mq dd gg ((7000 + 30092 * k) + 50000 * j + 1001 + 40000 + 92) Y' wa HRwa.out HLwa.out)
            go_wp2_with fail
            refine HBg.out.mono ?_
            rintro e wb ⟨t3, m3, rfl, htwb, hmwb, hRwb, hbwb⟩
            have HRwb := Lib.hid hRwb
            have HBwb := Lib.hid (HBwa.out.trans (hbwb.mono HBwa.out.size))
            have HLwb := Lib.hid (HLwa.out.keep hbwb)
            have hzwb := HBwa.out.size
            have hlwb := HLwa.out.lt
            have HNwb : Hid (l ∉ [t3, m3, dd, gg]) := Lib.hid (fun ha => by
              have := HNl.out
              simp only [List.mem_cons, List.not_mem_nil, or_false] at ha this
              omega)
            clear hRwb hbwb HBg HRwa HLwa HBwa
            have HOp := Lib.hid (open9 HC9.out ⟨[], Y'⟩ t3 m3 dd gg n ((7000 + 30092 * k) + 50000 * j + 1001 + 40000 + 92) Y' vr vm vg wb (HCFx.out wb HBwb.out) (HRwb.out.wide (Lm.nil_le _ _)))
            go_wp2_with fail
            refine HOp.out.mono ?_
            rintro e wc ⟨q3, p3, rfl, hqwc, hpwc, hGwc, hbwc⟩
            have HGwc := Lib.hid hGwc
            have HBwc := Lib.hid (HBwb.out.trans (hbwc.mono HBwb.out.size))
            have HLwc := Lib.hid (HLwb.out.keep hbwc)
            clear hGwc hbwc HOp HRwb HLwb HBwb hqwc hpwc
            have HNo := Lib.hid (gnode_in (ln := ⟨[], Y'⟩) q3 p3 t3 m3 dd gg 0 B0 P0 8 DA (8 + 59 % 60) N ((7000 + 30092 * k) + 50000 * j + 1001 + 40000 + 92) g Y' V' 1 (by decide) (by decide) (by omega) HS9.out.tab HGG.out wc HGwc.out)
            go_wp2_with fail
            refine HNo.out.mono ?_
            rintro e wd ⟨rfl, hG, hkd⟩
            have HGwd := Lib.hid hG
            have HBwd := Lib.hid (HBwc.out.trans (hkd.below (B := w2.heap.size) (fun a ha => by
              simp only [List.mem_cons, List.not_mem_nil, or_false] at ha
              omega) HBwc.out.size))
            have HLwd := Lib.hid (HLwc.out.kf hkd HNwb.out)
            have hf3 := HS9.out.dir.s
            clear hkd hG HNo HGwc HBwc HLwc
            obtain ⟨f9, hf9⟩ : ∃ f, V' 1 = f := ⟨_, rfl⟩
            rw [hf9] at hf3
            try rw [hf9]
            clear hf9
            go_upto_region 28 with (first | (refine wpList_alloc_list (w := wd) rfl 77 rfl (ndc zpt) Tryz.zero27 ?_; intro we F4 hb4 hz4; simp only [Act.put, List.getElem_toArray, List.getElem_cons_zero, List.getElem_cons_succ, List.setIfInBounds_toArray, List.set_cons_zero, List.set_cons_succ]; refine wpList_store_list rfl 77 (.tmp 22) (.tmp 126) rfl wd.heap.size (ndc zpt) (ndc f9) rfl rfl F4.out rfl (size27 _) (ndc_one _) ?_; intro wf F5 HK5; have HQ4 := Lib.hid hb4; clear hb4 F4))
            have HRwf := Lib.hid ((HGwd.out.rd.keep HQ4.out).kp HK5.out (HGwd.out.rd.notin (Nat.le_refl _)) (HGwd.out.rd.notin (Nat.le_refl _)))
            have hzd := HBwd.out.size
            have hld := HLwd.out.lt
            have HLwf := Lib.hid ((HLwd.out.keep HQ4.out).kp HK5.out (by omega) (by omega))
            have HBwf := Lib.hid ((HBwd.out.trans (HQ4.out.mono hzd)).trans (HK5.out.below hzd hzd (Nat.le_trans hzd HQ4.out.size)))
            have cS := F5.out.c 3 _ rfl
            rw [hf3] at cS
            clear HQ4 HK5 HGwd HBwd HLwd hf3 F5 hz4
            have hsl : (16 * (SE true k (j + 1)).length : Nat) = 16 * kk := by rw [SE_len, if_pos rfl]; omega
            rw [hsl] at cS
            try rw [hki]
            clear hsl
            go_wp2_with fail
            go_roundw
            case rel => exact ⟨j + 1, by omega, by go_num, HBwf.out, HLwf.out, t3, m3, Y', V', b', HRwf.out.mono (by omega), HS9.out⟩
            case measure => simp [Go.RowKit.intOf]; omega
        · obtain rfl : j = k := by omega
          have hb := HBJ.out
          clear HRJ HLJ HSJ HBJ
          go_wp2_with fail
          go_ret
          exact ⟨rfl, HB2.out.trans (hb.mono hw2)⟩
end Go.Proofs.YtgfgdfcedmcjeaaGreatDoor
