import Derived.Test.YtkkdbckaolhmnaaQ5
import Derived.Test.YtkkdbckaolhmnaaL1
/- GroupFull: the walk. -/
namespace Go.Proofs.Ytkkdbckaolhmnaa
set_option linter.unusedSimpArgs false
set_option linter.unusedVariables false
open Go.RowKit Go.Maps

theorem fr_none {b : Nat → Bool} {n : Nat} (h : ∀ j, j < n → b j = true) : Fr b n (-1) := .inl ⟨rfl, h⟩
set_option maxHeartbeats 80000000 in
set_option maxRecDepth 200000 in
theorem full_walk (m : Int) (m0 : 0 ≤ m) (m1 : m < 256) (H : Nat → Nat → Int) (hH : Cf.Hok H) (tv : Value) (ts : List Int) (hts : ∀ x ∈ ts, 0 ≤ x ∧ x < 256) (lab wh bb : Int) (l0 : 0 ≤ lab) (l1 : lab < 256) (h0 : 0 ≤ wh) (h1 : wh < 65536) (b0 : 0 ≤ bb) (b1 : bb < 256) (w : World) (htv : Cf.U8s w tv ts) (hl : ts.length ≤ maxLen) :
    Calls Try.prog 3 #[Cf.sizeVal m H tv, .int .u8 lab, .int .u16 wh, .int .u8 bb] w fun e w' => e = .returned (.bool true) ∧ Below w.heap.size w w' := by
  obtain ⟨M, hM⟩ : ∃ M, 2 + m.toNat % 4 = M := ⟨_, rfl⟩
  have hM4 : M = 2 ∨ M = 3 ∨ M = 4 ∨ M = 5 := by omega
  have hP := Lib.hid (fun W (h : Cf.U8s W tv ts) => Cf.sizeconf_any m m0 m1 H hH tv ts hts W h hl M hM)
  have HLEN := Lib.hid (Cf.sizeRs_len M hM4 H)
  have HSM := Lib.hid (Cf.size_small M hM4 H hH)
  have HTV := Lib.hid htv
  have HA := Lib.hid (fun W => awake_any W)
  have hc : (w.alloc (.cells #[.int .u8 m, .int .u8 (H 0 0), .int .u8 (H 0 1), .int .u8 (H 0 2), .int .u8 (H 0 3), .int .u8 (H 0 4), .int .u8 (H 1 0), .int .u8 (H 1 1), .int .u8 (H 1 2), .int .u8 (H 1 3), .int .u8 (H 1 4), .int .u8 (H 2 0), .int .u8 (H 2 1), .int .u8 (H 2 2), .int .u8 (H 2 3), .int .u8 (H 2 4), .int .u8 (H 3 0), .int .u8 (H 3 1), .int .u8 (H 3 2), .int .u8 (H 3 3), .int .u8 (H 3 4), .int .u8 (H 4 0), .int .u8 (H 4 1), .int .u8 (H 4 2), .int .u8 (H 4 3), .int .u8 (H 4 4), tv] 26)).rangeAt w.heap.size 0 [.int .u8 m, .int .u8 (H 0 0), .int .u8 (H 0 1), .int .u8 (H 0 2), .int .u8 (H 0 3), .int .u8 (H 0 4), .int .u8 (H 1 0), .int .u8 (H 1 1), .int .u8 (H 1 2), .int .u8 (H 1 3), .int .u8 (H 1 4), .int .u8 (H 2 0), .int .u8 (H 2 1), .int .u8 (H 2 2), .int .u8 (H 2 3), .int .u8 (H 2 4), .int .u8 (H 3 0), .int .u8 (H 3 1), .int .u8 (H 3 2), .int .u8 (H 3 3), .int .u8 (H 3 4), .int .u8 (H 4 0), .int .u8 (H 4 1), .int .u8 (H 4 2), .int .u8 (H 4 3), .int .u8 (H 4 4), tv] := by
    intro j u hj
    have := Cf.cells_new w [.int .u8 m, .int .u8 (H 0 0), .int .u8 (H 0 1), .int .u8 (H 0 2), .int .u8 (H 0 3), .int .u8 (H 0 4), .int .u8 (H 1 0), .int .u8 (H 1 1), .int .u8 (H 1 2), .int .u8 (H 1 3), .int .u8 (H 1 4), .int .u8 (H 2 0), .int .u8 (H 2 1), .int .u8 (H 2 2), .int .u8 (H 2 3), .int .u8 (H 2 4), .int .u8 (H 3 0), .int .u8 (H 3 1), .int .u8 (H 3 2), .int .u8 (H 3 3), .int .u8 (H 3 4), .int .u8 (H 4 0), .int .u8 (H 4 1), .int .u8 (H 4 2), .int .u8 (H 4 3), .int .u8 (H 4 4), tv] 26 j u hj
    rw [Addr.add_mid] at this
    exact this
  have hq : (Try.prog.underlying 26).map (·.isRow) = some true := by kernel_rfl
  obtain ⟨d, hu, hd⟩ := Option.map_eq_some_iff.1 hq
  have hi : (Try.prog.info? 26).map (·.size) = some ([.int .u8 m, .int .u8 (H 0 0), .int .u8 (H 0 1), .int .u8 (H 0 2), .int .u8 (H 0 3), .int .u8 (H 0 4), .int .u8 (H 1 0), .int .u8 (H 1 1), .int .u8 (H 1 2), .int .u8 (H 1 3), .int .u8 (H 1 4), .int .u8 (H 2 0), .int .u8 (H 2 1), .int .u8 (H 2 2), .int .u8 (H 2 3), .int .u8 (H 2 4), .int .u8 (H 3 0), .int .u8 (H 3 1), .int .u8 (H 3 2), .int .u8 (H 3 3), .int .u8 (H 3 4), .int .u8 (H 4 0), .int .u8 (H 4 1), .int .u8 (H 4 2), .int .u8 (H 4 3), .int .u8 (H 4 4), tv] : List Value).length := by kernel_rfl
  have HC := Lib.hid hc
  have HU := Lib.hid hu
  have HD := Lib.hid hd
  have HI := Lib.hid hi
  unfold Cf.sizeVal at hP ⊢
  clear hc hu hd hi hq htv hts hH hM 
  go_enter Try.func3, Try.ntmps3
  go_wp2_with fail
  obtain ⟨W, hW⟩ : ∃ z, w.alloc (.cells #[.int .u8 m, .int .u8 (H 0 0), .int .u8 (H 0 1), .int .u8 (H 0 2), .int .u8 (H 0 3), .int .u8 (H 0 4), .int .u8 (H 1 0), .int .u8 (H 1 1), .int .u8 (H 1 2), .int .u8 (H 1 3), .int .u8 (H 1 4), .int .u8 (H 2 0), .int .u8 (H 2 1), .int .u8 (H 2 2), .int .u8 (H 2 3), .int .u8 (H 2 4), .int .u8 (H 3 0), .int .u8 (H 3 1), .int .u8 (H 3 2), .int .u8 (H 3 3), .int .u8 (H 3 4), .int .u8 (H 4 0), .int .u8 (H 4 1), .int .u8 (H 4 2), .int .u8 (H 4 3), .int .u8 (H 4 4), tv] 26) = z := ⟨_, rfl⟩
  rw [hW] at HC ⊢
  have hbW : Below w.heap.size w W := by rw [← hW]; exact (Below.refl _ _).alloc (Nat.le_refl _) _
  have hlW : w.heap.size < W.heap.size := by rw [← hW]; simp
  obtain ⟨sv0, hsv⟩ : ∃ x : Value, .agg #[.int .u8 m, .int .u8 (H 0 0), .int .u8 (H 0 1), .int .u8 (H 0 2), .int .u8 (H 0 3), .int .u8 (H 0 4), .int .u8 (H 1 0), .int .u8 (H 1 1), .int .u8 (H 1 2), .int .u8 (H 1 3), .int .u8 (H 1 4), .int .u8 (H 2 0), .int .u8 (H 2 1), .int .u8 (H 2 2), .int .u8 (H 2 3), .int .u8 (H 2 4), .int .u8 (H 3 0), .int .u8 (H 3 1), .int .u8 (H 3 2), .int .u8 (H 3 3), .int .u8 (H 3 4), .int .u8 (H 4 0), .int .u8 (H 4 1), .int .u8 (H 4 2), .int .u8 (H 4 3), .int .u8 (H 4 4), tv] = x := ⟨_, rfl⟩
  rw [hsv]
  clear hW
  refine (HA.out W).mono ?_
  rintro e w1 ⟨rfl, hb1⟩
  have HB1 := Lib.hid (hbW.trans (hb1.mono hbW.size))
  have HC1 : Hid (w1.rangeAt w.heap.size 0 [.int .u8 m, .int .u8 (H 0 0), .int .u8 (H 0 1), .int .u8 (H 0 2), .int .u8 (H 0 3), .int .u8 (H 0 4), .int .u8 (H 1 0), .int .u8 (H 1 1), .int .u8 (H 1 2), .int .u8 (H 1 3), .int .u8 (H 1 4), .int .u8 (H 2 0), .int .u8 (H 2 1), .int .u8 (H 2 2), .int .u8 (H 2 3), .int .u8 (H 2 4), .int .u8 (H 3 0), .int .u8 (H 3 1), .int .u8 (H 3 2), .int .u8 (H 3 3), .int .u8 (H 3 4), .int .u8 (H 4 0), .int .u8 (H 4 1), .int .u8 (H 4 2), .int .u8 (H 4 3), .int .u8 (H 4 4), tv]) := fun j u hj => (hb1.cell (p := ⟨w.heap.size, 0 + j, none⟩) hlW).trans (HC.out j u hj)
  clear hb1 hbW hlW HC hsv HA
  go_wp2_with (refine wpList_load_mid rfl 26 _ rfl w.heap.size 0 rfl [.int .u8 m, .int .u8 (H 0 0), .int .u8 (H 0 1), .int .u8 (H 0 2), .int .u8 (H 0 3), .int .u8 (H 0 4), .int .u8 (H 1 0), .int .u8 (H 1 1), .int .u8 (H 1 2), .int .u8 (H 1 3), .int .u8 (H 1 4), .int .u8 (H 2 0), .int .u8 (H 2 1), .int .u8 (H 2 2), .int .u8 (H 2 3), .int .u8 (H 2 4), .int .u8 (H 3 0), .int .u8 (H 3 1), .int .u8 (H 3 2), .int .u8 (H 3 3), .int .u8 (H 3 4), .int .u8 (H 4 0), .int .u8 (H 4 1), .int .u8 (H 4 2), .int .u8 (H 4 3), .int .u8 (H 4 4), tv] d HC1.out HU.out HD.out HI.out ?_)
  refine (hP.out w1 (HTV.out.below HB1.out)).mono ?_
  rintro e w2 ⟨n, vr, vm, vg, rfl, hn, hb2, hCF⟩
  have HB2 := Lib.hid (HB1.out.trans (hb2.mono HB1.out.size))
  have HCF := Lib.hid hCF
  obtain ⟨R, hR⟩ : ∃ x, Cf.sizeRs M H = x := ⟨_, rfl⟩
  obtain ⟨MS, hMS⟩ : ∃ x, Cf.sizeMs M ts = x := ⟨_, rfl⟩
  rw [hR] at HCF HLEN HSM
  rw [hMS] at HCF
  have hR5 : 2 ≤ R.length ∧ R.length ≤ 5 := by rw [HLEN.out]; omega
  clear hP hb2 hCF HC1 HU HD HI HTV hn hR hMS HLEN hM4 HB1
  have hT := Cf.layF_range R HSM.out R.length (Nat.le_refl _)
  rw [List.take_length] at hT
  obtain ⟨N, hN⟩ := Int.eq_ofNat_of_zero_le (show 0 ≤ (Cf.layF R).2 by omega)
  have hN0 : 32 ≤ N := by omega
  have hN1 : N ≤ 65536 := by omega
  have HN := Lib.hid hN
  clear hT hN
  go_wp2_with fail
  refine (begun_any n vr vm vg R MS HSM.out (by omega) (by omega) N HN.out hN0 hN1 w2 HCF.out).mono ?_
  rintro e w3 ⟨t, mm, dd, gg, l, rfl, hFr, hll, hln, hLg, hRd, hb3⟩
  have HFr := Lib.hid hFr
  have HLn := Lib.hid hln
  have HL3 := Lib.hid hLg
  have HR3 := Lib.hid hRd
  have HCF3 := Lib.hid (HCF.out.below hb3)
  have HB3 := Lib.hid (HB2.out.trans (hb3.mono HB2.out.size))
  have HZ3 := Lib.hid hb3
  clear hFr hln hLg hRd hb3
  obtain ⟨V, hV⟩ : ∃ V, Go.bits .or .u8 bb 1 = V := ⟨_, rfl⟩
  have hVb : 0 ≤ V ∧ V < 256 := by rw [← hV]; exact ⟨(u8_or_bd bb 1 b0 b1 (by decide) (by decide)).1, (u8_or_bd bb 1 b0 b1 (by decide) (by decide)).2.1⟩
  obtain ⟨i, hi⟩ := Int.eq_ofNat_of_zero_le (show 0 ≤ lab % (R.length : Int) from Int.emod_nonneg _ (by omega))
  have hiR : i < R.length := by have := Int.emod_lt_of_pos lab (show (0 : Int) < R.length by omega); omega
  obtain ⟨g, hgi⟩ : ∃ g, (Cf.layF R).1[i]'(by rw [Cf.lay_len]; exact hiR) = g := ⟨_, rfl⟩
  obtain ⟨B0, P0, M', DA, NB, hg, hbl, -⟩ := geo_gg R HSM.out (by omega) N HN.out i hiR g hgi
  have HGI := Lib.hid hgi
  have HG := Lib.hid hg
  have hD : B0 < DA := by have := hg.bp; have := hg.pd; omega
  have hNB : 4 ≤ NB := hg.n4
  have hN5 : NB ≤ 512 := hg.n512
  have HRg := Lib.hid (fun W (hW : Cf.CF n W vr vm vg R MS) => creg_in n vr vm vg R MS i hiR W hW)
  obtain ⟨r, hr⟩ : ∃ r, R[i] = r := ⟨_, rfl⟩
  rw [hr] at hbl HRg
  have HRC := Lib.hid (show r.cells[3]? = some (.int .i64 r.bl) from rfl)
  rw [hbl] at HRC
  have HRL := Lib.hid (show r.cells.length = 9 from rfl)
  have HRO := Lib.hid (reg_one r)
  have HRS := Lib.hid (sizeReg r)
  obtain ⟨rc, hrc⟩ : ∃ c, r.cells = c := ⟨_, rfl⟩
  rw [hrc] at HRg HRC HRL HRO HRS
  have hne0 : ¬ ((R.length : Int) = 0) := by omega
  have hmod : Int.tmod lab (R.length : Int) = i := by rw [Int.tmod_eq_emod_of_nonneg l0]; exact hi
  have HV := Lib.hid hV
  clear hgi hg hr hrc hbl hi hV hl HSM
  go_wp2_with fail
  refine (Cf.clen_any n vr vm vg R MS w3 HCF3.out (by omega)).mono ?_
  rintro e wz ⟨rfl, hwz⟩
  rw [hwz]
  clear hwz
  go_wp2_with fail
  refine (HRg.out w3 HCF3.out).mono ?_
  rintro e w4 ⟨rfl, hb⟩
  have HK4 := Lib.hid (Kf.of_below hb [dd, gg])
  have HR4 := Lib.hid (HR3.out.keep hb)
  have HB4 := Lib.hid (HB3.out.trans (hb.mono HB3.out.size))
  have HLTS := Lib.hid HR3.out.lts
  have HL3l := HL3.out.lt
  clear hb hne0 hmod HRg
  go_upto_region 7 with (first | (refine wpList_alloc_list (w := w4) rfl 40 rfl Cf.zeroRg.cells Try.zeroReg ?_; intro w5 G5 hb5 hz5; simp only [Act.put, List.getElem_toArray, List.getElem_cons_zero, List.getElem_cons_succ, List.setIfInBounds_toArray, List.set_cons_zero, List.set_cons_succ]; refine wpList_store_list rfl 40 (.tmp 14) (.tmp 53) rfl w4.heap.size Cf.zeroRg.cells rc rfl rfl G5.out (by rw [HRL.out]; rfl) HRS.out HRO.out ?_; intro w6 FR6 HK6; have HQ5 := Lib.hid hb5; clear hb5 hz5 G5))
  obtain ⟨bR, hbR⟩ : ∃ b, w4.heap.size = b := ⟨_, rfl⟩
  have h34 := HK4.out.size
  have HK5 := Lib.hid ((HK4.out.more HQ5.out).new HK6.out (by omega))
  have HB5 := Lib.hid (HB4.out.trans (HQ5.out.mono HB4.out.size))
  have HR6a := Lib.hid ((HR4.out.keep HQ5.out).kp HK6.out (HR4.out.notin (Nat.le_refl _)) (HR4.out.notin (Nat.le_refl _)))
  have HB6 := Lib.hid (HB5.out.trans (HK6.out.below HB4.out.size HB4.out.size HB5.out.size))
  have hbR1 : w3.heap.size ≤ bR := by omega
  have hbR2 := FR6.out.lt
  rw [hbR] at FR6 hbR2
  try rw [hbR]
  clear hbR HQ5 HK6 HK4 HB4 HB5 h34
  -- what was at w3, at w6
  obtain ⟨t1, t2, t3, t4⟩ := HLTS.out
  have HNl := Lib.hid (show l ∉ [dd, gg] from fun h => HLn.out (by simp only [List.mem_cons, List.not_mem_nil, or_false] at h ⊢; omega))
  have HNR := Lib.hid (show bR ∉ [dd, gg] from by simp; omega)
  have hFd : w2.heap.size ≤ dd := HFr.out.2.2.1
  have hFg : w2.heap.size ≤ gg := HFr.out.2.2.2
  have hw23 := HZ3.out.size
  have HL6 := Lib.hid (HL3.out.kf HK5.out HNl.out)
  have HR6 : Hid (Rd w6 t mm dd gg N 0 (fun _ _ => 0) 1) := by
    exact Lib.hid HR6a.out
  have HCFx : Hid (∀ W, Kf w6 W [dd, gg] → Cf.CF n W vr vm vg R MS) := fun W hk => HCF.out.below (((HZ3.out.trans (HK5.out.bel hFd hFg hw23))).trans (hk.bel hFd hFg (Nat.le_trans hw23 HK5.out.size)))
  have HBx : Hid (∀ W, Kf w6 W [dd, gg] → Below w.heap.size w W) := fun W hk => HB6.out.trans (hk.bel (Nat.le_trans HB2.out.size hFd) (Nat.le_trans HB2.out.size hFg) HB6.out.size)
  have hl6 := HL6.out.lt
  clear HR6a HR4 HR3 HL3 HCF3 HB3 HZ3 HCF HK5 HB6 HLn HFr hFd hFg hw23 t1 t2 t3 t4 HLTS hll HL3l HB2 hbR1
  have c3 := FR6.out.c 3 _ HRC.out
  go_wp2_with fail
  clear c3
  go_loopw [57] (fun x wr => ∃ k : Nat, k ≤ NB ∧ x = .int .i64 k ∧ (∃ t' m' Y, Rd wr t' m' dd gg N 0 Y (1 + 300 * k) ∧ ∀ j, j < 512 → bt Y B0 j = decide (j < k)) ∧ Kf w6 wr [dd, gg]) (fun x _ => NB - (Go.RowKit.intOf x).toNat)
  case atStart => exact ⟨0, Nat.zero_le _, rfl, ⟨t, mm, _, HR6.out, fun j _ => by rw [bt_zero]; rfl⟩, Kf.refl _ _⟩
  case round =>
    obtain ⟨k, hk, rfl, ⟨t0, m0', Y, hRd, hbt⟩, hkf⟩ := hrel
    have HRd := Lib.hid hRd
    have HBt := Lib.hid hbt
    have HKf := Lib.hid hkf
    have hsz := hkf.size
    have HVy := Lib.hid hRd.vb
    clear hRd hbt hkf
    by_cases hlt : k < NB
    · have HBeg := Lib.hid (begin7 l t0 m0' dd gg (1 + 300 * k) Y wr HRd.out (HL6.out.kf HKf.out HNl.out))
      go_wp2_with fail
      refine HBeg.out.mono ?_
      rintro e v1 ⟨t', m', rfl, ht', hm', hRd', hb⟩
      have HRd1 := Lib.hid hRd'
      have HK1 := Lib.hid (HKf.out.more hb)
      have hle1 : w6.heap.size ≤ t' := Nat.le_trans hsz ht'
      have hle2 : w6.heap.size ≤ m' := Nat.le_trans hsz hm'
      clear hRd' hb HBeg HRd ht' hm'
      have HOp := Lib.hid (gopen_in t' m' dd gg n B0 P0 M' DA NB N (1 + 300 * k) Y vr vm vg R MS i hiR g HGI.out HG.out v1 (HCFx.out v1 HK1.out) HRd1.out)
      go_wp2_with fail
      refine HOp.out.mono ?_
      rintro e v2 ⟨q, p, rfl, hq, hp, hGr, hb⟩
      have HG2 := Lib.hid hGr
      have HK2 := Lib.hid (HK1.out.more hb)
      have hqb : w6.heap.size ≤ q := Nat.le_trans HK1.out.size hq
      clear hGr hb HOp HRd1 HK1 hq hp
      have HTk := Lib.hid (gtake7 q p t' m' dd gg i B0 P0 M' DA NB N (1 + 300 * k) g Y k ((k : Int) + 1) rfl hlt (fr_of hlt (by rw [HBt.out k (by omega)]; exact decide_eq_false (Nat.lt_irrefl k)) (fun j hj => by rw [HBt.out j (by omega)]; exact decide_eq_true hj)) (by omega) (by omega) HG.out v2 HG2.out)
      obtain ⟨Y1, hY1⟩ : ∃ Z, vput (DA + k) (fun _ => 0) (setV Y B0 k true) = Z := ⟨_, rfl⟩
      have HBt1 : Hid (∀ j, j < 512 → bt Y1 B0 j = if k = j then true else bt Y B0 j) := fun j hj => by rw [← hY1, bt_take HVy.out B0 DA k j _ hD (by omega) hj]
      rw [hY1] at HTk
      clear hY1
      have hk0 : (0 : Int) ≤ k := by omega
      have hk5 : (k : Int) < 512 := by omega
      go_wp2_with fail
      refine HTk.out.mono ?_
      rintro e v3 ⟨rfl, hGr, hkk⟩
      have HG3 := Lib.hid hGr
      have HK3 := Lib.hid (HK2.out.tx hkk hle1 hle2)
      clear hGr hkk HTk HG2 HK2
      -- the block to be put
      go_upto_region 14 with (first | (refine wpList_alloc_byts (w := v3) rfl 51 64 rfl Try.zero36 ?_; intro v4 F4 hb4 hz4; have HQ4 := Lib.hid hb4; clear hb4 hz4))
      obtain ⟨bX, hbX⟩ : ∃ b, v3.heap.size = b := ⟨_, rfl⟩
      have HK4 := Lib.hid (HK3.out.more HQ4.out)
      have HG4 := Lib.hid (HG3.out.keep HQ4.out)
      have NX := Lib.hid (HG3.out.notin (Nat.le_of_eq hbX))
      have hXb : w6.heap.size ≤ bX := Nat.le_trans HK3.out.size (Nat.le_of_eq hbX)
      rw [hbX] at F4
      try rw [hbX]
      clear hbX HQ4 HK3 HG3
      have HX4 := Lib.hid (show (0 : Nat) < 64 by decide)
      have cX := F4.out.c 0 (by decide)
      have zX := F4.out.z 0 (by decide)
      go_upto_region 15 with fail
      have hkx : Kp v4 (v4.setCell ⟨bX, 0, none⟩ (.int .u8 (Go.bits .or .u8 bb 1))) bX bX := (Kp.refl v4 bX bX).setCell (p := ⟨bX, 0, none⟩) (.inl rfl) _
      have HG5 := Lib.hid (HG4.out.kp hkx NX.out)
      have HK5 := Lib.hid (HK4.out.new hkx hXb)
      have F5 := Lib.hid (F4.out.set 0 (by decide) (Go.bits .or .u8 bb 1))
      obtain ⟨v5, hv5⟩ : ∃ x, v4.setCell ⟨bX, 0, none⟩ (.int .u8 (Go.bits .or .u8 bb 1)) = x := ⟨_, rfl⟩
      rw [hv5] at HG5 HK5 F5 ⊢
      rw [HV.out] at F5
      clear hv5 hkx HG4 HK4 F4 cX zX
      have HP : Hid (Calls Try.prog 14 #[.pointer (some ⟨q, 0, none⟩), .int .u16 ((k : Int) + 1), .agg (byts 64 fun j => if j = 0 then V else 0).toArray] v5 fun e w' => e = .returned (.int .i64 0) ∧ Gr w' q p t' m' dd gg i g B0 NB N (0 + 2 + 1) (vput (DA + k) (fun j => if j = 0 then V else 0) Y1) (1 + 300 * k + 201) ∧ Kf v5 w' [t', m', dd, gg]) := by
        have := gput_in q p t' m' dd gg i B0 P0 M' DA NB N (1 + 300 * k + 201) g Y1 (k + 1) (by omega) (by omega) (fun j => if j = 0 then V else 0) (fun j _ => by dsimp only; split; exact hVb; exact ⟨Int.le_refl _, (by decide)⟩) (by omega) HG.out v5 HG5.out
        rwa [show ((k + 1 : Nat) : Int) = (k : Int) + 1 by omega, show DA + (k + 1 - 1) = DA + k by omega] at this
      obtain ⟨Y2, hY2⟩ : ∃ Z, vput (DA + k) (fun j => if j = 0 then V else 0) Y1 = Z := ⟨_, rfl⟩
      have HBt2 : Hid (∀ j, j < 512 → bt Y2 B0 j = decide (j < k + 1)) := fun j hj => by
        rw [← hY2, bt_put _ _ _ _ _ (by omega), HBt1.out j hj]
        by_cases e : k = j
        · rw [if_pos e, eq_comm]; exact decide_eq_true (by omega)
        · rw [if_neg e, HBt.out j hj]; exact decide_eq_decide.2 (by omega)
      rw [hY2] at HP
      clear hY2 HBt1
      go_wp2_with (first | (refine wpList_yields _ (yieldsIf_load_mid (by rfl) 51 (.tmp 22) rfl bX 0 rfl (byts 64 fun j => if j = 0 then V else 0) (.array 64 5) (fun W h => by rw [h]; exact F5.out.range0) Try.arr36 rfl (size36 _)) ?_))
      refine HP.out.mono ?_
      rintro e v6 ⟨rfl, hGr, hkk⟩
      have HG6 := Lib.hid hGr
      have HK6 := Lib.hid (HK5.out.tx hkk hle1 hle2)
      clear hGr hkk HP HG5 HK5 F5
      have HCm := Lib.hid (commit7 t' m' dd gg (1 + 300 * k + 201) Y2 (by omega) (by omega) v6 HG6.out.rd)
      go_wp2_with fail
      refine HCm.out.mono ?_
      rintro e v7 ⟨rfl, hRd', hkk⟩
      have HR7 := Lib.hid hRd'
      have HK7 := Lib.hid (HK6.out.tx hkk hle1 hle2)
      clear hRd' hkk HCm HG6 HK6
      go_wp2_with fail
      go_roundw
      case rel => exact ⟨k + 1, by omega, by go_num, ⟨t', m', Y2, HR7.out.mono (by omega), HBt2.out⟩, HK7.out⟩
      case measure => simp [Go.RowKit.intOf]; omega
    · obtain rfl : k = NB := by omega
      have HBeg := Lib.hid (begin7 l t0 m0' dd gg (1 + 300 * k) Y wr HRd.out (HL6.out.kf HKf.out HNl.out))
      go_wp2_with fail
      refine HBeg.out.mono ?_
      rintro e v1 ⟨t', m', rfl, ht', hm', hRd', hb⟩
      have HRd1 := Lib.hid hRd'
      have HK1 := Lib.hid (HKf.out.more hb)
      have hle1 : w6.heap.size ≤ t' := Nat.le_trans hsz ht'
      have hle2 : w6.heap.size ≤ m' := Nat.le_trans hsz hm'
      clear hRd' hb HBeg HRd ht' hm'
      have HOp := Lib.hid (gopen_in t' m' dd gg n B0 P0 M' DA k N (1 + 300 * k) Y vr vm vg R MS i hiR g HGI.out HG.out v1 (HCFx.out v1 HK1.out) HRd1.out)
      go_wp2_with fail
      refine HOp.out.mono ?_
      rintro e v2 ⟨q, p, rfl, hq, hp, hGr, hb⟩
      have HG2 := Lib.hid hGr
      have HK2 := Lib.hid (HK1.out.more hb)
      clear hGr hb HOp HRd1 HK1 hq hp
      have HTk := Lib.hid (gtake_none q p t' m' dd gg i B0 P0 M' DA k N (1 + 300 * k) g Y (fun j hj => by rw [HBt.out j (by omega)]; exact decide_eq_true hj) (by omega) HG.out v2 HG2.out)
      go_wp2_with fail
      refine HTk.out.mono ?_
      rintro e v3 ⟨rfl, hGr, hkk⟩
      have HG3 := Lib.hid hGr
      have HK3 := Lib.hid (HK2.out.tx hkk hle1 hle2)
      have hcR := (FR6.out.kf HK3.out HNR.out).c 3 _ HRC.out
      clear hGr hkk HTk HG2 HK2
      obtain ⟨r, hr⟩ := Int.eq_ofNat_of_zero_le (show 0 ≤ wh % (k : Int) from Int.emod_nonneg _ (by omega))
      have hr1 : r < k := by have := Int.emod_lt_of_pos wh (show (0 : Int) < k by omega); omega
      have hmod : Int.tmod wh (k : Int) = r := by rw [Int.tmod_eq_emod_of_nonneg h0]; exact hr
      have hne0 : ¬ ((k : Int) = 0) := by omega
      have hr0 : (0 : Int) ≤ r := by omega
      have hr5 : (r : Int) < 512 := by omega
      have hk0 : (0 : Int) ≤ k := by omega
      have hk5 : (k : Int) ≤ 512 := by omega
      clear hr
      have HGv : Hid (Calls Try.prog 16 #[.pointer (some ⟨q, 0, none⟩), .int .u16 (1 + (r : Int))] v3 fun e w' => e = .returned (.int .i64 0) ∧ Gr w' q p t' m' dd gg i g B0 k N (0 + 1) (setV Y B0 r false) (1 + 300 * k + 200 + 2) ∧ Kf v3 w' [t', m', dd, gg]) := by
        have := ggive_ok q p t' m' dd gg i B0 P0 M' DA k N (1 + 300 * k + 200) g Y (1 + r) (by omega) (by omega) (by rw [show 1 + r - 1 = r by omega, HBt.out r (by omega)]; exact decide_eq_true hr1) (by omega) (by omega) HG.out v3 HG3.out
        rwa [show ((1 + r : Nat) : Int) = 1 + (r : Int) by omega, show 1 + r - 1 = r by omega] at this
      obtain ⟨Y1, hY1⟩ : ∃ Z, setV Y B0 r false = Z := ⟨_, rfl⟩
      have HBt1 : Hid (∀ j, j < 512 → bt Y1 B0 j = if r = j then false else bt Y B0 j) := fun j hj => by rw [← hY1, bt_on HVy.out B0 r j false (by omega)]
      rw [hY1] at HGv
      clear hY1
      go_wp2_with fail
      refine HGv.out.mono ?_
      rintro e v4 ⟨rfl, hGr, hkk⟩
      have HG4 := Lib.hid hGr
      have HK4 := Lib.hid (HK3.out.tx hkk hle1 hle2)
      clear hGr hkk HGv HG3 HK3 hcR hmod hne0
      have HTk := Lib.hid (gtake7 q p t' m' dd gg i B0 P0 M' DA k N (1 + 300 * k + 200 + 2) g Y1 r (1 + (r : Int)) (by omega) hr1 (fr_of hr1 (by rw [HBt1.out r (by omega), if_pos rfl]) (fun j hj => by rw [HBt1.out j (by omega), if_neg (by omega), HBt.out j (by omega)]; exact decide_eq_true (by omega))) (by omega) (by omega) HG.out v4 HG4.out)
      go_wp2_with fail
      refine HTk.out.mono ?_
      rintro e v5 ⟨rfl, hGr, hkk⟩
      have HG5 := Lib.hid hGr
      have HK5 := Lib.hid (HK4.out.tx hkk hle1 hle2)
      clear hGr hkk HTk HG4 HK4
      have HGt : Hid (Calls Try.prog 17 #[.pointer (some ⟨q, 0, none⟩), .int .u16 (1 + (r : Int))] v5 fun e w' => e = .returned (.tuple #[.agg (byts 64 fun _ => 0).toArray, .int .i64 0]) ∧ Kf v5 w' [t', m', dd, gg]) := by
        have := gget_in q p t' m' dd gg i B0 P0 M' DA k N _ g _ (1 + r) (by omega) (by omega) (by omega) HG.out v5 HG5.out
        rw [show ((1 + r : Nat) : Int) = 1 + (r : Int) by omega, show DA + (1 + r - 1) = DA + r by omega, vput_at] at this
        exact this.mono fun e w' h => ⟨h.1, h.2.2⟩
      go_wp2_with fail
      refine HGt.out.mono ?_
      rintro e v6 ⟨rfl, hkk⟩
      have HK6 := Lib.hid (HK5.out.tx hkk hle1 hle2)
      clear hkk HGt HG5 HK5
      go_upto_region 25 with (first | (refine wpList_alloc_byts (w := v6) rfl 51 64 rfl Try.zero36 ?_; intro v7 G7 hb7 hz7; simp only [Act.put, List.getElem_toArray, List.getElem_cons_zero, List.getElem_cons_succ, List.setIfInBounds_toArray, List.set_cons_zero, List.set_cons_succ]; refine wpList_store_blk rfl (.tmp 32) (.tmp 131) rfl v6.heap.size 0 64 (fun _ => 0) (fun _ => 0) G7.out (by omega) rfl rfl ?_; intro v8 F8 HP8; have HQ7 := Lib.hid hb7; clear hb7 hz7 G7))
      obtain ⟨bX, hbX⟩ : ∃ b, v6.heap.size = b := ⟨_, rfl⟩
      have HK8 := Lib.hid ((HK6.out.more HQ7.out).new HP8.out HK6.out.size)
      have F9 := Lib.hid (F8.out.congr (fun j hj => upd_zero 64 (fun _ => 0) j hj _))
      rw [hbX] at F9
      try rw [hbX]
      clear hbX HQ7 HP8 HK6 F8
      go_wp2_with (first | (refine wpList_yields _ (yieldsIf_load_mid (by rfl) 51 (.tmp 32) rfl bX 0 rfl (byts 64 fun _ => 0) (.array 64 5) (fun W h => by rw [h]; exact F9.out.range0) Try.arr36 rfl (size36 _)) ?_) | (refine wpList_yields (.agg (byts 64 fun _ => 0).toArray) (yields_build0 (by rfl) rfl) ?_) | (refine wpList_yields (.bool true) (yields_eql (by rfl) 51 51 _ _ rfl (byts 64 fun _ => 0).toArray (byts 64 fun _ => 0).toArray rfl rfl true Try.guardBlk (fun W _ => Try.eqBlk0 W)) ?_))
      go_ret
      exact ⟨rfl, HBx.out v8 HK8.out⟩
end Go.Proofs.Ytkkdbckaolhmnaa
