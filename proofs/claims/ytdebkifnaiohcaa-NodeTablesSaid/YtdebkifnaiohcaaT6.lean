import Derived.Test.YtdebkifnaiohcaaH6
import Derived.Deep.CutBlock
import Derived.Deep.DeepCutAuto
import Derived.StillTailTactics
/- NodeTables: the walk. -/
namespace Go.Proofs.Ytdebkifnaiohcaa
set_option linter.unusedSimpArgs false
set_option linter.unusedVariables false
open Go.RowKit Go.Maps


set_option maxHeartbeats 80000000 in
set_option maxRecDepth 200000 in
theorem tables_walk (m : Int) (m0 : 0 ≤ m) (m1 : m < 256) (H : Nat → Nat → Int) (hH : Cf.Hok H) (tv : Value) (ts : List Int) (hts : ∀ x ∈ ts, 0 ≤ x ∧ x < 256) (lab : Int) (l0 : 0 ≤ lab) (l1 : lab < 256) (va vb : Value) (xs ys : List Int)
    (hxr : ∀ z ∈ xs, -9223372036854775808 ≤ z ∧ z < 9223372036854775808) (hyr : ∀ z ∈ ys, 0 ≤ z ∧ z < 256) (w : World) (htv : Cf.U8s w tv ts) (hl : ts.length ≤ maxLen) (hxs : Zs w .i64 va xs) (hys : Zs w .u8 vb ys) :
    Calls Try.prog 4 #[Cf.sizeVal m H tv, .int .u8 lab, va, vb] w fun e w' => e = .returned (.bool true) ∧ Below w.heap.size w w' := by
  obtain ⟨M, hM⟩ : ∃ M, 2 + m.toNat % 4 = M := ⟨_, rfl⟩
  have hM4 : M = 2 ∨ M = 3 ∨ M = 4 ∨ M = 5 := by omega
  have hP := Lib.hid (fun W (h : Cf.U8s W tv ts) => Cf.sizeconf_any m m0 m1 H hH tv ts hts W h hl M hM)
  have HLEN := Lib.hid (Cf.sizeRs_len M hM4 H)
  have HSM := Lib.hid (Cf.size_small M hM4 H hH)
  have HTV := Lib.hid htv
  have HA := Lib.hid (fun W => awake_any W)
  have HVX := Lib.hid hxs
  have HVY := Lib.hid hys
  have HXR := Lib.hid hxr
  have HYR := Lib.hid hyr
  obtain ⟨ax, cx, rfl, hxm⟩ := hxs.form
  obtain ⟨ay, cy, rfl, hym⟩ := hys.form
  unfold maxLen at hxm hym
  have hc : (w.alloc (.cells #[.int .u8 m, .int .u8 (H 0 0), .int .u8 (H 0 1), .int .u8 (H 0 2), .int .u8 (H 0 3), .int .u8 (H 0 4), .int .u8 (H 1 0), .int .u8 (H 1 1), .int .u8 (H 1 2), .int .u8 (H 1 3), .int .u8 (H 1 4), .int .u8 (H 2 0), .int .u8 (H 2 1), .int .u8 (H 2 2), .int .u8 (H 2 3), .int .u8 (H 2 4), .int .u8 (H 3 0), .int .u8 (H 3 1), .int .u8 (H 3 2), .int .u8 (H 3 3), .int .u8 (H 3 4), .int .u8 (H 4 0), .int .u8 (H 4 1), .int .u8 (H 4 2), .int .u8 (H 4 3), .int .u8 (H 4 4), tv] 43)).rangeAt w.heap.size 0 [.int .u8 m, .int .u8 (H 0 0), .int .u8 (H 0 1), .int .u8 (H 0 2), .int .u8 (H 0 3), .int .u8 (H 0 4), .int .u8 (H 1 0), .int .u8 (H 1 1), .int .u8 (H 1 2), .int .u8 (H 1 3), .int .u8 (H 1 4), .int .u8 (H 2 0), .int .u8 (H 2 1), .int .u8 (H 2 2), .int .u8 (H 2 3), .int .u8 (H 2 4), .int .u8 (H 3 0), .int .u8 (H 3 1), .int .u8 (H 3 2), .int .u8 (H 3 3), .int .u8 (H 3 4), .int .u8 (H 4 0), .int .u8 (H 4 1), .int .u8 (H 4 2), .int .u8 (H 4 3), .int .u8 (H 4 4), tv] := by
    intro j u hj
    have := Cf.cells_new w [.int .u8 m, .int .u8 (H 0 0), .int .u8 (H 0 1), .int .u8 (H 0 2), .int .u8 (H 0 3), .int .u8 (H 0 4), .int .u8 (H 1 0), .int .u8 (H 1 1), .int .u8 (H 1 2), .int .u8 (H 1 3), .int .u8 (H 1 4), .int .u8 (H 2 0), .int .u8 (H 2 1), .int .u8 (H 2 2), .int .u8 (H 2 3), .int .u8 (H 2 4), .int .u8 (H 3 0), .int .u8 (H 3 1), .int .u8 (H 3 2), .int .u8 (H 3 3), .int .u8 (H 3 4), .int .u8 (H 4 0), .int .u8 (H 4 1), .int .u8 (H 4 2), .int .u8 (H 4 3), .int .u8 (H 4 4), tv] 43 j u hj
    rw [Addr.add_mid] at this
    exact this
  have hq : (Try.prog.underlying 43).map (·.isRow) = some true := by kernel_rfl
  obtain ⟨d, hu, hd⟩ := Option.map_eq_some_iff.1 hq
  have hi : (Try.prog.info? 43).map (·.size) = some ([.int .u8 m, .int .u8 (H 0 0), .int .u8 (H 0 1), .int .u8 (H 0 2), .int .u8 (H 0 3), .int .u8 (H 0 4), .int .u8 (H 1 0), .int .u8 (H 1 1), .int .u8 (H 1 2), .int .u8 (H 1 3), .int .u8 (H 1 4), .int .u8 (H 2 0), .int .u8 (H 2 1), .int .u8 (H 2 2), .int .u8 (H 2 3), .int .u8 (H 2 4), .int .u8 (H 3 0), .int .u8 (H 3 1), .int .u8 (H 3 2), .int .u8 (H 3 3), .int .u8 (H 3 4), .int .u8 (H 4 0), .int .u8 (H 4 1), .int .u8 (H 4 2), .int .u8 (H 4 3), .int .u8 (H 4 4), tv] : List Value).length := by kernel_rfl
  have HC := Lib.hid hc
  have HU := Lib.hid hu
  have HD := Lib.hid hd
  have HI := Lib.hid hi
  unfold Cf.sizeVal at hP ⊢
  clear hc hu hd hi hq htv hts hH hM hxs hys hxr hyr
  go_enter Try.func4, Try.ntmps4
  go_wp2_with fail
  obtain ⟨W, hW⟩ : ∃ z, w.alloc (.cells #[.int .u8 m, .int .u8 (H 0 0), .int .u8 (H 0 1), .int .u8 (H 0 2), .int .u8 (H 0 3), .int .u8 (H 0 4), .int .u8 (H 1 0), .int .u8 (H 1 1), .int .u8 (H 1 2), .int .u8 (H 1 3), .int .u8 (H 1 4), .int .u8 (H 2 0), .int .u8 (H 2 1), .int .u8 (H 2 2), .int .u8 (H 2 3), .int .u8 (H 2 4), .int .u8 (H 3 0), .int .u8 (H 3 1), .int .u8 (H 3 2), .int .u8 (H 3 3), .int .u8 (H 3 4), .int .u8 (H 4 0), .int .u8 (H 4 1), .int .u8 (H 4 2), .int .u8 (H 4 3), .int .u8 (H 4 4), tv] 43) = z := ⟨_, rfl⟩
  rw [hW] at HC ⊢
  have hbW : Below w.heap.size w W := by rw [← hW]; exact (Below.refl _ _).alloc (Nat.le_refl _) _
  have hlW : w.heap.size < W.heap.size := by rw [← hW]; simp
  obtain ⟨sv0, hsv⟩ : ∃ x : Value, .agg #[.int .u8 m, .int .u8 (H 0 0), .int .u8 (H 0 1), .int .u8 (H 0 2), .int .u8 (H 0 3), .int .u8 (H 0 4), .int .u8 (H 1 0), .int .u8 (H 1 1), .int .u8 (H 1 2), .int .u8 (H 1 3), .int .u8 (H 1 4), .int .u8 (H 2 0), .int .u8 (H 2 1), .int .u8 (H 2 2), .int .u8 (H 2 3), .int .u8 (H 2 4), .int .u8 (H 3 0), .int .u8 (H 3 1), .int .u8 (H 3 2), .int .u8 (H 3 3), .int .u8 (H 3 4), .int .u8 (H 4 0), .int .u8 (H 4 1), .int .u8 (H 4 2), .int .u8 (H 4 3), .int .u8 (H 4 4), tv] = x := ⟨_, rfl⟩
  rw [hsv]
  clear hW
  refine (HA.out W).mono ?_
  rintro e w1 ⟨rfl, hb1⟩
  have HB1 := Lib.hid (hbW.trans (hb1.mono hbW.size))
  have HC1 : Hid (w1.rangeAt w.heap.size 0 [.int .u8 m, .int .u8 (H 0 0), .int .u8 (H 0 1), .int .u8 (H 0 2), .int .u8 (H 0 3), .int .u8 (H 0 4), .int .u8 (H 1 0), .int .u8 (H 1 1), .int .u8 (H 1 2), .int .u8 (H 1 3), .int .u8 (H 1 4), .int .u8 (H 2 0), .int .u8 (H 2 1), .int .u8 (H 2 2), .int .u8 (H 2 3), .int .u8 (H 2 4), .int .u8 (H 3 0), .int .u8 (H 3 1), .int .u8 (H 3 2), .int .u8 (H 3 3), .int .u8 (H 3 4), .int .u8 (H 4 0), .int .u8 (H 4 1), .int .u8 (H 4 2), .int .u8 (H 4 3), .int .u8 (H 4 4), tv]) := fun j u hj => (hb1.cell (p := ⟨w.heap.size, 0 + j, none⟩) hlW).trans (HC.out j u hj)
  clear hb1 hbW hlW HC hsv HA
  go_wp2_with (refine wpList_load_mid rfl 43 _ rfl w.heap.size 0 rfl [.int .u8 m, .int .u8 (H 0 0), .int .u8 (H 0 1), .int .u8 (H 0 2), .int .u8 (H 0 3), .int .u8 (H 0 4), .int .u8 (H 1 0), .int .u8 (H 1 1), .int .u8 (H 1 2), .int .u8 (H 1 3), .int .u8 (H 1 4), .int .u8 (H 2 0), .int .u8 (H 2 1), .int .u8 (H 2 2), .int .u8 (H 2 3), .int .u8 (H 2 4), .int .u8 (H 3 0), .int .u8 (H 3 1), .int .u8 (H 3 2), .int .u8 (H 3 3), .int .u8 (H 3 4), .int .u8 (H 4 0), .int .u8 (H 4 1), .int .u8 (H 4 2), .int .u8 (H 4 3), .int .u8 (H 4 4), tv] d HC1.out HU.out HD.out HI.out ?_)
  refine (hP.out w1 (HTV.out.below HB1.out)).mono ?_
  rintro e w2 ⟨n, vr, vm, vg, rfl, hn, hb2, hCF⟩
  have HB2 := Lib.hid (HB1.out.trans (hb2.mono HB1.out.size))
  have HCF := Lib.hid hCF
  obtain ⟨R, hR⟩ : ∃ x, Cf.sizeRs M H = x := ⟨_, rfl⟩
  obtain ⟨MS, hMS⟩ : ∃ x, Cf.sizeMs M ts = x := ⟨_, rfl⟩
  rw [hR] at HCF HLEN HSM
  rw [hMS] at HCF
  have hR5 : 2 ≤ R.length ∧ R.length ≤ 5 := by rw [HLEN.out]; omega
  clear hP hb2 hCF HC1 HU HD HI HTV hn hR hMS HLEN hM4 HB1
  have hT := Cf.layF_range R HSM.out R.length (Nat.le_refl _)
  rw [List.take_length] at hT
  obtain ⟨N, hN⟩ := Int.eq_ofNat_of_zero_le (show 0 ≤ (Cf.layF R).2 by omega)
  have hN0 : 32 ≤ N := by omega
  have hN1 : N ≤ 65536 := by omega
  go_wp2_with fail
  refine (begun_any n vr vm vg R MS HSM.out (by omega) (by omega) N hN hN0 hN1 w2 HCF.out).mono ?_
  rintro e w3 ⟨t, mm, dd, gg, l, rfl, hFr, hRd, hb3⟩
  have HFr := Lib.hid (show From w.heap.size t mm dd gg from ⟨Nat.le_trans HB2.out.size hFr.1, Nat.le_trans HB2.out.size hFr.2.1, Nat.le_trans HB2.out.size hFr.2.2.1, Nat.le_trans HB2.out.size hFr.2.2.2⟩)
  have HR3 := Lib.hid hRd
  have HCF3 := Lib.hid (HCF.out.below hb3)
  have HB3 := Lib.hid (HB2.out.trans (hb3.mono HB2.out.size))
  clear hFr hRd hb3 HCF HB2
  go_wp2_with fail
  refine (Cf.clen_any n vr vm vg R MS w3 HCF3.out (by omega)).mono ?_
  rintro e wz ⟨rfl, hwz⟩
  rw [hwz]
  clear hwz wz
  obtain ⟨i, hi⟩ := Int.eq_ofNat_of_zero_le (show 0 ≤ lab % (R.length : Int) from Int.emod_nonneg _ (by omega))
  have hiR : i < R.length := by have := Int.emod_lt_of_pos lab (show (0 : Int) < R.length by omega); omega
  obtain ⟨g, hg⟩ : ∃ g, (Cf.layF R).1[i]'(by rw [Cf.lay_len]; exact hiR) = g := ⟨_, rfl⟩
  have hroom := geo_room R HSM.out (by omega) i hiR g hg
  have HGe := Lib.hid (Cf.geo_in n vr vm vg R MS i hiR w3 HCF3.out)
  rw [hg] at HGe
  obtain ⟨gs, hgs⟩ : ∃ gs, g.cells = gs := ⟨_, rfl⟩
  have hval : g.val = .agg gs.toArray := by rw [← hgs]; rfl
  have hg0 : gs[0]? = some (.int .i64 g.base) := by rw [← hgs]; rfl
  have hg1 : gs[1]? = some (.int .i64 g.bm) := by rw [← hgs]; rfl
  have hg5 : gs[5]? = some (.int .i64 g.nd) := by rw [← hgs]; rfl
  have hgl : gs.length = 6 := by rw [← hgs]; rfl
  have hgo : Hid (∀ v ∈ gs, v.oneCell' = true) := by rw [← hgs]; exact geo_one g
  have HS53 : Hid ((Try.prog.info? 53).map (·.size) = some gs.length) := by rw [← hgs]; exact size53 g
  rw [hN] at hroom
  rw [hval] at HGe
  obtain ⟨d53, hu53, hd53⟩ := Try.desc53
  have HU53 := Lib.hid hu53
  have HD53 := Lib.hid hd53
  obtain ⟨d27, hu27, hd27⟩ := Try.desc27
  have HU27 := Lib.hid hu27
  have HD27 := Lib.hid hd27
  have HVal := Lib.hid hval
  obtain ⟨ND, hND⟩ := Int.eq_ofNat_of_zero_le (show 0 ≤ g.nd by omega)
  obtain ⟨P0, hP0⟩ := Int.eq_ofNat_of_zero_le (show 0 ≤ g.base + g.bm by omega)
  have hnd4 : 4 ≤ ND := by omega
  have hnd128 : ND ≤ 128 := by omega
  have hP32 : 32 ≤ P0 := by omega
  have hPN : P0 + (ND + 1) / 2 ≤ N := by omega
  have hbase0 : 0 ≤ g.base := by omega
  have hbase1 : g.base < 100000 := by omega
  have hbm0 : 0 ≤ g.bm := by omega
  have hbm1 : g.bm < 100000 := by omega
  rw [hND] at hg5
  have HND := Lib.hid hND
  have HP0 := Lib.hid hP0
  have HG0 := Lib.hid hg0
  have HG1 := Lib.hid hg1
  have HG5 := Lib.hid hg5
  have hne0 : ¬ ((R.length : Int) = 0) := by omega
  have hmod : Int.tmod lab (R.length : Int) = i := by rw [Int.tmod_eq_emod_of_nonneg l0]; exact hi
  clear hu53 hd53 hu27 hd27 hval hND hP0 hroom hg hgs hi hT hN hg0 hg1 hg5
  go_wp2_with fail
  refine HGe.out.mono ?_
  rintro e w4 ⟨rfl, hb4⟩
  have HR4 := Lib.hid (HR3.out.keep hb4)
  have HB4 := Lib.hid (HB3.out.trans (hb4.mono HB3.out.size))
  clear hb4 HR3 HB3 HCF3 HGe hne0 hmod HSM
  go_upto_region 6 with (first | (refine wpList_alloc_list (w := w4) rfl 53 rfl _ Try.zero53 ?_; intro w5 F5 hb5 hz5; simp only [Act.put, List.getElem_toArray, List.getElem_cons_zero, List.getElem_cons_succ, List.setIfInBounds_toArray, List.set_cons_zero, List.set_cons_succ]; refine wpList_store_list rfl 53 (.tmp 13) (.tmp 47) rfl w4.heap.size _ gs rfl rfl F5.out (by rw [hgl]; rfl) HS53.out hgo.out ?_; intro w6 HG6 HK6; have HB5 := Lib.hid hb5; clear hb5 F5))
  obtain ⟨b5, hb5⟩ : ∃ b, w4.heap.size = b := ⟨_, rfl⟩
  have hlt4 := HR4.out.lts
  have hbw : w.heap.size ≤ b5 := by rw [← hb5]; exact HB4.out.size
  rw [hb5] at hlt4
  have R5 := Lib.hid (HR4.out.keep HB5.out)
  have B5 := Lib.hid (HB4.out.trans (HB5.out.mono HB4.out.size))
  rw [hb5] at HG6 HK6
  try rw [hb5]
  clear hb5 HR4 HB4 HB5
  have N5 := Lib.hid (nin4 hlt4.1 hlt4.2.1 hlt4.2.2.1 hlt4.2.2.2 (b := b5) (Nat.le_refl _))
  have HR6 := Lib.hid (R5.out.kp HK6.out N5.out N5.out)
  have HB6 := Lib.hid (B5.out.trans (HK6.out.below hbw hbw B5.out.size))
  clear R5 B5 HK6
  have hlt6 := HR6.out.lts
  have hbg := HG6.out.lt
  have hsz6 := HB6.out.size
  have HM7 := Lib.hid (Mn.new w6)
  have HG7 := Lib.hid (HG6.out.keep ((Below.refl w6.heap.size w6).alloc (Nat.le_refl _) (.map #[] 0)))
  have HR7 := Lib.hid (HR6.out.keep ((Below.refl w6.heap.size w6).alloc (Nat.le_refl _) (.map #[] 0)))
  have HB7 := Lib.hid (HB6.out.alloc HB6.out.size (.map #[] 0))
  have hsz7 : w6.heap.size < (w6.alloc (.map #[] 0)).heap.size := by simp
  have hmk := @run_makeMap Try.prog
  go_upto_region 7 with fail
  clear hmk
  obtain ⟨w7, hw7⟩ : ∃ x, w6.alloc (.map #[] 0) = x := ⟨_, rfl⟩
  obtain ⟨bm7, hbm7⟩ : ∃ x, w6.heap.size = x := ⟨_, rfl⟩
  rw [hw7] at HM7 HG7 HR7 HB7 hsz7 ⊢
  rw [hbm7] at HM7 hlt6 hbg hsz6 hsz7
  try rw [hbm7]
  clear hw7 hbm7 hz5 HG6 HR6 HB6
  have NM := Lib.hid (nin4 hlt6.1 hlt6.2.1 hlt6.2.2.1 hlt6.2.2.2 (b := bm7) (Nat.le_refl _))
  have hbne : b5 ≠ bm7 := by omega
  have hx20 : (xs.length : Int) ≤ 9223372036854775807 := by omega
  have hy20 : (ys.length : Int) ≤ 9223372036854775807 := by omega
  go_cut [54, 55] (fun lv iv wc => ∃ Lm : Nat, lv = .int .i64 Lm ∧ iv = .int .i64 0 ∧ Lm ≤ xs.length ∧ Lm ≤ ys.length ∧ Lm ≤ 20 ∧ wc = w7)
  case first =>
    by_cases c1 : (ys.length : Int) < xs.length
    · by_cases c2 : (20 : Int) < ys.length
      · go_wp2_with fail
        go_meet
        case rel => exact ⟨20, rfl, rfl, by omega, by omega, by omega, rfl⟩
      · go_wp2_with fail
        go_meet
        case rel => exact ⟨ys.length, rfl, rfl, by omega, by omega, by omega, rfl⟩
    · by_cases c2 : (20 : Int) < xs.length
      · go_wp2_with fail
        go_meet
        case rel => exact ⟨20, rfl, rfl, by omega, by omega, by omega, rfl⟩
      · go_wp2_with fail
        go_meet
        case rel => exact ⟨xs.length, rfl, rfl, by omega, by omega, by omega, rfl⟩
  case rest =>
    obtain ⟨Lm, rfl, rfl, hLx, hLy, hL20, hwc⟩ := hcut
    subst hwc
    clear hx20 hy20 hxm hym
    have hL0 : (0 : Int) ≤ Lm := by omega
    have hL20i : (Lm : Int) ≤ 20 := by omega
    go_upto_block 0 with fail
    go_cut [16, 17, 18, 19, 20, 21, 22, 55] (fun _ _ _ _ _ _ _ _ wc => ∃ T U K, K ≤ 20 ∧ T.length ≤ 20 ∧ U.length ≤ 20 ∧ Rd wc t mm dd gg N T K ∧ Tab P0 ND T U ∧ Mn wc bm7 U ∧ Vl wc b5 gs ∧ Below w.heap.size w wc)
    case first =>
      go_wp2_with fail
      go_loopw [16, 17, 18, 19, 20, 21, 22, 55] (fun _ _ _ _ _ _ _ iv wr => ∃ k : Nat, k ≤ Lm ∧ iv = .int .i64 k ∧ (∃ T U, T.length ≤ k ∧ U.length ≤ k ∧ Rd wr t mm dd gg N T k ∧ Tab P0 ND T U ∧ Mn wr bm7 U) ∧ Vl wr b5 gs ∧ Below w.heap.size w wr) (fun _ _ _ _ _ _ _ iv _ => Lm - (Go.RowKit.intOf iv).toNat)
      case atStart => exact ⟨0, by omega, rfl, ⟨[], [], by simp, by simp, HR7.out, Tab.new P0 ND (by omega), HM7.out⟩, HG7.out, HB7.out⟩
      case round =>
        obtain ⟨k, hk, rfl, ⟨T, U, hTl, hUl, hR, hTb, hM⟩, hG, hB⟩ := hrel
        have HR := Lib.hid hR
        have HTb := Lib.hid hTb
        have HM := Lib.hid hM
        have HG := Lib.hid hG
        have HB := Lib.hid hB
        clear hR hTb hM hG hB HR7 HM7 HG7 HB7
        have hk0 : (0 : Int) ≤ k := by omega
        have hk20 : (k : Int) ≤ 20 := by omega
        obtain ⟨wX, rfl⟩ : ∃ x, x = wr := ⟨wr, rfl⟩
        by_cases hlt : k < Lm
        · have hlti : (k : Int) < Lm := by omega
          have hkx : (k : Int) < xs.length := by omega
          have hky : (k : Int) < ys.length := by omega
          obtain ⟨b1, o1, hax, hb1, hc1⟩ := (HVX.out.below HB.out).at k (by omega)
          subst hax
          obtain ⟨hx0, hx1⟩ := HXR.out xs[k] (List.getElem_mem _)
          generalize xs[k] = x at hc1 hx0 hx1
          obtain ⟨b2, o2, hay, hb2, hc2⟩ := (HVY.out.below HB.out).at k (by omega)
          subst hay
          obtain ⟨hy0, hy1⟩ := HYR.out ys[k] (List.getElem_mem _)
          generalize ys[k] = y at hc2 hy0 hy1
          have hc5 := HG.out.c 5 _ HG5.out
          go_upto_if 64 with fail
          go_cut [17] (fun xv wc => ∃ X : Int, xv = .int .i64 X ∧ -9223372036854775808 ≤ X ∧ X < 9223372036854775808 ∧ wc = wX)
          case first =>
            by_cases c4 : (0 : Int) < (k : Int) % 4
            · go_wp2_with fail
              go_meet
              case rel => exact ⟨_, rfl, by unfold wrap64; omega, by unfold wrap64; omega, rfl⟩
            · go_wp2_with fail
              go_meet
              case rel => exact ⟨x, rfl, hx0, hx1, rfl⟩
          case rest =>
            obtain ⟨X, rfl, hX0, hX1, hwc⟩ := hcut
            subst hwc
            clear hc1 hx0 hx1 x hc5
            go_upto_region 13 with fail
            refine wp_region_held (S := fun W => W.cell? ⟨b2, o2 + k, none⟩ = some (.int .u8 y)) (by kernel_rfl) ?_
            change wpAnyH _ _ _ _ _ _ _ _ (World.drew wc)
            have hS0 : (fun W : World => W.cell? ⟨b2, o2 + k, none⟩ = some (.int .u8 y)) (World.drew wc) := hc2
            have hy7 : 0 ≤ y / 7 := by omega
            have hy8 : y / 7 < 256 := by omega
            refine wpAnyH_take (i := 0) (v := ?_) rfl (by kernel_rfl) (by kernel_rfl) (by kernel_rfl) (fun _ _ _ h => h) (Or.inl ⟨by rfl, ?_⟩) hS0 ?_
            rotate_left 1
            · intro W hW
              go_simp
              try with_reducible rfl
            simp only [Act.put, List.getElem_toArray, List.getElem_cons_zero, List.getElem_cons_succ, List.setIfInBounds_toArray, List.set_cons_zero, List.set_cons_succ]
            refine wpAnyH_take (i := 1) (v := ?_) rfl (by kernel_rfl) (by kernel_rfl) (by kernel_rfl) (fun _ _ _ h => h) (Or.inl ⟨by rfl, ?_⟩) hS0 ?_
            rotate_left 1
            · intro W hW
              go_simp
              try with_reducible rfl
            simp only [Act.put, List.getElem_toArray, List.getElem_cons_zero, List.getElem_cons_succ, List.setIfInBounds_toArray, List.set_cons_zero, List.set_cons_succ]
            refine wpAnyH_take (i := 2) (v := ?_) rfl (by kernel_rfl) (by kernel_rfl) (by kernel_rfl) (fun _ _ _ h => h) (Or.inl ⟨by rfl, ?_⟩) hS0 ?_
            rotate_left 1
            · intro W hW
              go_simp
              try with_reducible rfl
            simp only [Act.put, List.getElem_toArray, List.getElem_cons_zero, List.getElem_cons_succ, List.setIfInBounds_toArray, List.set_cons_zero, List.set_cons_succ]
            refine wpAnyH_take (i := 3) (v := ?_) rfl (by kernel_rfl) (by kernel_rfl) (by kernel_rfl) (fun _ _ _ h => h) (Or.inl ⟨by rfl, ?_⟩) hS0 ?_
            rotate_left 1
            · intro W hW
              go_simp
              try with_reducible rfl
            simp only [Act.put, List.getElem_toArray, List.getElem_cons_zero, List.getElem_cons_succ, List.setIfInBounds_toArray, List.set_cons_zero, List.set_cons_succ]
            refine wpAnyH_take (i := 4) (v := ?_) rfl (by kernel_rfl) (by kernel_rfl) (by kernel_rfl) (fun _ _ _ h => h) (Or.inl ⟨by rfl, ?_⟩) hS0 ?_
            rotate_left 1
            · intro W hW
              go_simp
              try with_reducible rfl
            simp only [Act.put, List.getElem_toArray, List.getElem_cons_zero, List.getElem_cons_succ, List.setIfInBounds_toArray, List.set_cons_zero, List.set_cons_succ]
            refine wpAnyH_take (i := 5) (v := ?_) rfl (by kernel_rfl) (by kernel_rfl) (by kernel_rfl) (fun _ _ _ h => h) (Or.inl ⟨by rfl, ?_⟩) hS0 ?_
            rotate_left 1
            · intro W hW
              go_simp
              try with_reducible rfl
            simp only [Act.put, List.getElem_toArray, List.getElem_cons_zero, List.getElem_cons_succ, List.setIfInBounds_toArray, List.set_cons_zero, List.set_cons_succ]
            refine wpAnyH_take (i := 6) (v := ?_) rfl (by kernel_rfl) (by kernel_rfl) (by kernel_rfl) (fun _ _ _ h => h) (Or.inl ⟨by rfl, ?_⟩) hS0 ?_
            rotate_left 1
            · intro W hW
              go_simp
              try with_reducible rfl
            simp only [Act.put, List.getElem_toArray, List.getElem_cons_zero, List.getElem_cons_succ, List.setIfInBounds_toArray, List.set_cons_zero, List.set_cons_succ]
            refine wpAnyH_take (i := 7) (v := ?_) rfl (by kernel_rfl) (by kernel_rfl) (by kernel_rfl) (fun _ _ _ h => h) (Or.inl ⟨by rfl, ?_⟩) hS0 ?_
            rotate_left 1
            · intro W hW
              go_simp
              try with_reducible rfl
            simp only [Act.put, List.getElem_toArray, List.getElem_cons_zero, List.getElem_cons_succ, List.setIfInBounds_toArray, List.set_cons_zero, List.set_cons_succ]
            refine wpAnyH_take (i := 8) (v := ?_) rfl (by kernel_rfl) (by kernel_rfl) (by kernel_rfl) (fun _ _ _ h => h) (Or.inl ⟨by rfl, ?_⟩) hS0 ?_
            rotate_left 1
            · intro W hW
              go_simp
              try with_reducible rfl
            simp only [Act.put, List.getElem_toArray, List.getElem_cons_zero, List.getElem_cons_succ, List.setIfInBounds_toArray, List.set_cons_zero, List.set_cons_succ]
            refine wpAnyH_take (i := 9) (v := ?_) rfl (by kernel_rfl) (by kernel_rfl) (by kernel_rfl) (fun _ _ _ h => h) (Or.inl ⟨by rfl, ?_⟩) hS0 ?_
            rotate_left 1
            · intro W hW
              go_simp
              try with_reducible rfl
            simp only [Act.put, List.getElem_toArray, List.getElem_cons_zero, List.getElem_cons_succ, List.setIfInBounds_toArray, List.set_cons_zero, List.set_cons_succ]
            refine wpAnyH_take (i := 10) (v := ?_) rfl (by kernel_rfl) (by kernel_rfl) (by kernel_rfl) (fun _ _ _ h => h) (Or.inl ⟨by rfl, ?_⟩) hS0 ?_
            rotate_left 1
            · intro W hW
              go_simp
              try with_reducible rfl
            simp only [Act.put, List.getElem_toArray, List.getElem_cons_zero, List.getElem_cons_succ, List.setIfInBounds_toArray, List.set_cons_zero, List.set_cons_succ]
            refine wpAnyH_take (i := 11) (v := ?_) rfl (by kernel_rfl) (by kernel_rfl) (by kernel_rfl) (fun _ _ _ h => h) (Or.inl ⟨by rfl, ?_⟩) hS0 ?_
            rotate_left 1
            · intro W hW
              go_simp
              try with_reducible rfl
            simp only [Act.put, List.getElem_toArray, List.getElem_cons_zero, List.getElem_cons_succ, List.setIfInBounds_toArray, List.set_cons_zero, List.set_cons_succ]
            refine wpAnyH_take (i := 12) (v := ?_) rfl (by kernel_rfl) (by kernel_rfl) (by kernel_rfl) (fun _ _ _ h => h) (Or.inl ⟨by rfl, ?_⟩) hS0 ?_
            rotate_left 1
            · intro W hW
              go_simp
              try with_reducible rfl
            simp only [Act.put, List.getElem_toArray, List.getElem_cons_zero, List.getElem_cons_succ, List.setIfInBounds_toArray, List.set_cons_zero, List.set_cons_succ]
            refine wpAnyH_take (i := 13) (v := ?_) rfl (by kernel_rfl) (by kernel_rfl) (by kernel_rfl) (fun _ _ _ h => h) (Or.inl ⟨by rfl, ?_⟩) hS0 ?_
            rotate_left 1
            · intro W hW
              go_simp
              try with_reducible rfl
            simp only [Act.put, List.getElem_toArray, List.getElem_cons_zero, List.getElem_cons_succ, List.setIfInBounds_toArray, List.set_cons_zero, List.set_cons_succ]
            refine wpAnyH_take (i := 14) (v := ?_) rfl (by kernel_rfl) (by kernel_rfl) (by kernel_rfl) (fun _ _ _ h => h) (Or.inl ⟨by rfl, ?_⟩) hS0 ?_
            rotate_left 1
            · intro W hW
              go_simp
              try with_reducible rfl
            simp only [Act.put, List.getElem_toArray, List.getElem_cons_zero, List.getElem_cons_succ, List.setIfInBounds_toArray, List.set_cons_zero, List.set_cons_succ]
            refine wpAnyH_take (i := 15) (v := ?_) rfl (by kernel_rfl) (by kernel_rfl) (by kernel_rfl) (fun _ _ _ h => h) (Or.inl ⟨by rfl, ?_⟩) hS0 ?_
            rotate_left 1
            · intro W hW
              go_simp
              try with_reducible rfl
            simp only [Act.put, List.getElem_toArray, List.getElem_cons_zero, List.getElem_cons_succ, List.setIfInBounds_toArray, List.set_cons_zero, List.set_cons_succ]
            refine wpAnyH_take (i := 16) (v := ?_) rfl (by kernel_rfl) (by kernel_rfl) (by kernel_rfl) (fun _ _ _ h => h) (Or.inl ⟨by rfl, ?_⟩) hS0 ?_
            rotate_left 1
            · intro W hW
              go_simp
              try with_reducible rfl
            simp only [Act.put, List.getElem_toArray, List.getElem_cons_zero, List.getElem_cons_succ, List.setIfInBounds_toArray, List.set_cons_zero, List.set_cons_succ]
            refine wpAnyH_take (i := 17) (v := ?_) rfl (by kernel_rfl) (by kernel_rfl) (by kernel_rfl) (fun _ _ _ h => h) (Or.inl ⟨by rfl, ?_⟩) hS0 ?_
            rotate_left 1
            · intro W hW
              go_simp
              try with_reducible rfl
            simp only [Act.put, List.getElem_toArray, List.getElem_cons_zero, List.getElem_cons_succ, List.setIfInBounds_toArray, List.set_cons_zero, List.set_cons_succ]
            have e1 : y.tmod 7 = y % 7 := Int.tmod_eq_emod_of_nonneg hy0
            have e2 : IntKind.u8.wrap (y.tdiv 7) = y / 7 := IntWalk.u8_quo y 7 ⟨hy0, by omega, by decide⟩
            have e3 : (y / 7).tmod 3 = y / 7 % 3 := Int.tmod_eq_emod_of_nonneg hy7
            have e4 : IntKind.u16.wrap (k : Int) = k := IntWalk.u16_in _ ⟨hk0, by omega⟩
            have e5 : IntKind.u32.wrap y = y := u32_in y hy0 (by omega)
            obtain ⟨f, hf⟩ : ∃ f, headN (y.tmod 7) ((IntKind.u8.wrap (y.tdiv 7)).tmod 3) (IntKind.u16.wrap k) (IntKind.u32.wrap y) = f := ⟨_, rfl⟩
            have HFo : Hid (NdOk f) := by rw [← hf, e1, e2, e3, e4, e5]; exact headN_ok y k hy0 hy1 hk0 (by omega)
            clear e1 e2 e3 e4 e5
            refine wpAnyH_take (i := 18) (v := .agg (ndc f).toArray) rfl (by kernel_rfl) (by kernel_rfl) (by kernel_rfl) (fun _ _ _ h => h) ?_ hS0 ?_
            · rw [← hf]; exact yields_bld4 (by rfl) 27 0 1 2 3 (.tmp 77) (.tmp 83) (.tmp 85) (.tmp 90) rfl _ _ _ _ rfl rfl rfl rfl _ (build27_head _ _ _ _)
            simp only [Act.put, List.getElem_toArray, List.getElem_cons_zero, List.getElem_cons_succ, List.setIfInBounds_toArray, List.set_cons_zero, List.set_cons_succ]
            have HR0 := Lib.hid (HR.out.keep (Below.refl wc.heap.size wc).drew)
            have HM0 := Lib.hid (HM.out.keep (Below.refl wc.heap.size wc).drew)
            have HG0' := Lib.hid (HG.out.keep (Below.refl wc.heap.size wc).drew)
            have HB0 := Lib.hid (HB.out.drew)
            have hbw0 : w.heap.size ≤ (World.drew wc).heap.size := HB0.out.size
            have hlt0 := HR0.out.lts
            have hltm := HM0.out.lt
            have hltg := HG0'.out.lt
            have hb20 : b2 < (World.drew wc).heap.size := hb2
            obtain ⟨w8, hw8⟩ : ∃ x, World.drew wc = x := ⟨_, rfl⟩
            rw [hw8] at hS0 HR0 HM0 HG0' HB0 hbw0 hlt0 hltm hltg hb20 ⊢
            clear hw8 HR HM HG HB hc2 hf
            refine wpAnyH_ready (rs := [19]) (by kernel_rfl) (by simp) (AllReadyH.cons rfl (fun KK hKK => ?_) AllReadyH.nil)
            refine step_alloc_list rfl 27 (ndc zpt) rfl Try.zero27 ?_
            intro w9 HF9 hb9 hz9
            have HR9 := Lib.hid (HR0.out.keep hb9)
            have HM9 := Lib.hid (HM0.out.keep hb9)
            have HG9 := Lib.hid (HG0'.out.keep hb9)
            have HB9 := Lib.hid (HB0.out.trans (hb9.mono hbw0))
            have hS1 : w9.cell? ⟨b2, o2 + k, none⟩ = some (.int .u8 y) := (hb9.cell (p := ⟨b2, o2 + k, none⟩) hb20).trans hS0
            obtain ⟨b8, hb8⟩ : ∃ b8, w8.heap.size = b8 := ⟨_, rfl⟩
            rw [hb8] at HF9 hbw0 hlt0 hltm hltg hb20 ⊢
            have hq9 : b8 < w9.heap.size := HF9.out.lt
            clear hS0 hz9 hb9 hb8 HR0 HM0 HG0' HB0
            have hS0 := hS1
            clear hS1
            refine hKK _ _ hS0 ?_
            intro _
            clear hKK KK
            try simp only [Act.put, List.getElem_toArray, List.getElem_cons_zero, List.getElem_cons_succ, List.setIfInBounds_toArray, List.set_cons_zero, List.set_cons_succ]
            have N8 := Lib.hid (nin4 hlt0.1 hlt0.2.1 hlt0.2.2.1 hlt0.2.2.2 (b := b8) (Nat.le_refl _))
            refine wpAnyH_ready (rs := [20]) (by kernel_rfl) (by simp) (AllReadyH.cons rfl (fun KK hKK => ?_) AllReadyH.nil)
            refine step_store_mid rfl 27 _ _ rfl b8 0 (ndc f).toArray rfl rfl (HF9.out.there0 12 rfl) (size27' _) (all_oneCell_toArray (ndc_one _)) ?_
            rw [List.toList_toArray]
            have HF := Lib.hid (HF9.out.stored (ndc f) rfl)
            have hk10 : Kp w9 (w9.setCells b8 0 (ndc f)) b8 b8 := (Kp.refl w9 b8 b8).setCells b8 0 (.inl rfl) _
            have HR := Lib.hid (HR9.out.kp hk10 N8.out N8.out)
            have HM := Lib.hid (HM9.out.kp hk10 (by omega) (by omega))
            have HG := Lib.hid (HG9.out.kp hk10 (by omega) (by omega))
            have HB := Lib.hid (HB9.out.trans (hk10.below hbw0 hbw0 HB9.out.size))
            have hS1 : (w9.setCells b8 0 (ndc f)).cell? ⟨b2, o2 + k, none⟩ = some (.int .u8 y) := (hk10.cell (p := ⟨b2, o2 + k, none⟩) (by show b2 < _; omega) (by show b2 ≠ b8; omega) (by show b2 ≠ b8; omega)).trans hS0
            obtain ⟨w10, hw10⟩ : ∃ x, w9.setCells b8 0 (ndc f) = x := ⟨_, rfl⟩
            rw [hw10] at HF HR HM HG HB hS1 ⊢
            clear hS0 hk10 hw10 HF9 HR9 HM9 HG9 HB9
            refine hKK _ _ hS1 ?_
            intro _
            clear hKK KK hS1
            try simp only [Act.put, List.getElem_toArray, List.getElem_cons_zero, List.getElem_cons_succ, List.setIfInBounds_toArray, List.set_cons_zero, List.set_cons_succ]
            refine wpAnyH_done (by kernel_rfl) ?_ _
            clear hy7 hy8 hy0 hy1 hb2 hb20
            have hT29 : T.length < 30 := by omega
            have hV := HVal.out
            have hnd := HND.out
            have hp0 := HP0.out
            by_cases hin : inP g X
            · obtain ⟨n, hn⟩ := Int.eq_ofNat_of_zero_le (show 0 ≤ X by have := hin.1; omega)
              subst hn
              have hn1 : 1 ≤ n := by have := hin.1; omega
              have hn2 : n ≤ ND := by have := hin.2; omega
              have hn1i : ¬ ((n : Int) < 1) := by omega
              have hn2i : ¬ ((ND : Int) < n) := by omega
              have hn0 : (0 : Int) ≤ n := by omega
              have hn3 : (n : Int) ≤ 128 := by omega
              have HPl := Lib.hid (fun W => place_in g (n : Int) hin hbase0 hbase1 hbm0 hbm1 (by omega) W)
              have HRc := Lib.hid (fun W => rcheck_any f HFo.out W)
              rw [hV] at HPl
              clear hX0 hX1
              by_cases hcd : codeN f = 0
              · have HWr := Lib.hid (fun W h => write_any6 g n t mm dd gg N k P0 ND T U f HFo.out hcd hn1 hn2 hnd hp0 hbase0 hbase1 hbm0 hbm1 (by omega) hPN hP32 hN1 hT29 (by omega) HTb.out W h)
                rw [hV] at HWr
                rw [hcd] at HRc
                clear hV hnd hp0 hin HTb
                go_wp2_with (first | (refine wpList_load_mid rfl 53 _ rfl b5 0 rfl gs d53 HG.out.range0 HU53.out HD53.out HS53.out ?_) | (refine wpList_load_mid rfl 27 _ rfl b8 0 rfl (ndc f) d27 HF.out.range0 HU27.out HD27.out (size27 f) ?_))
                refine (HWr.out w10 HR.out).mono ?_
                rintro e w11 ⟨T', rfl, hR, hl', hTb', hk11⟩
                have HR11 := Lib.hid hR
                have HTb11 := Lib.hid hTb'
                have HF11 := Lib.hid (HF.out.kf hk11 N8.out)
                have HM11 := Lib.hid (HM.out.kf hk11 NM.out)
                have HG11 := Lib.hid (HG.out.kf hk11 N5.out)
                have HB11 := Lib.hid (hk11.after HB.out HFr.out HB.out.size)
                clear hR hTb' hk11 HWr HR HF HM HG HB
                go_wp2_with (first | (refine wpList_load_mid rfl 53 _ rfl b5 0 rfl gs d53 HG11.out.range0 HU53.out HD53.out HS53.out ?_))
                refine (HPl.out w11).mono ?_
                rintro e w12 ⟨rfl, hb12⟩
                have HR12 := Lib.hid (HR11.out.keep hb12)
                have HF12 := Lib.hid (HF11.out.keep hb12)
                have HM12 := Lib.hid (HM11.out.keep hb12)
                have HG12 := Lib.hid (HG11.out.keep hb12)
                have HB12 := Lib.hid (HB11.out.trans (hb12.mono HB11.out.size))
                have hc5 := HG12.out.c 5 _ HG5.out
                clear hb12 HPl HR11 HF11 HM11 HG11 HB11
                go_wp2_with (first | (refine wpList_load_mid rfl 27 _ rfl b8 0 rfl (ndc f) d27 HF12.out.range0 HU27.out HD27.out (size27 f) ?_))
                refine (HRc.out w12).mono ?_
                rintro e w13 ⟨rfl, hb13⟩
                have HR13 := Lib.hid (HR12.out.keep hb13)
                have HF13 := Lib.hid (HF12.out.keep hb13)
                have HM13 := Lib.hid (HM12.out.keep hb13)
                have HG13 := Lib.hid (HG12.out.keep hb13)
                have HB13 := Lib.hid (HB12.out.trans (hb13.mono HB12.out.size))
                clear hb13 hc5 HRc HR12 HF12 HM12 HG12 HB12
                go_upto_if 124 with fail
                go_wp2_with (refine wpList_load_mid rfl 27 _ rfl b8 0 rfl (ndc f) d27 HF13.out.range0 HU27.out HD27.out (size27 f) ?_; simp only [Act.put, List.getElem_toArray, List.getElem_cons_zero, List.getElem_cons_succ, List.setIfInBounds_toArray, List.set_cons_zero, List.set_cons_succ]; refine wpList_put_mn rfl (.tmp 125) (.tmp 126) (.tmp 127) rfl bm7 U HM13.out rfl n rfl f rfl (by omega) (by omega) ?_; intro w14 HM14 HK14)
                have hUl' := HM13.out.2.put_len_le (k := n) (f := f)
                have HR14 := Lib.hid (HR13.out.kp HK14.out NM.out NM.out)
                have HG14 := Lib.hid (HG13.out.kp HK14.out hbne hbne)
                have HB14 := Lib.hid (HB13.out.trans (HK14.out.below (by omega) (by omega) HB13.out.size))
                clear HR13 HG13 HM13 HB13 HF13 HK14
                go_wp2_with fail
                go_roundw
                case rel => exact ⟨k + 1, by omega, by go_num, ⟨T', put n f U, by omega, by omega, HR14.out, HTb11.out, HM14.out⟩, HG14.out, HB14.out⟩
                case measure => simp [Go.RowKit.intOf]; omega
              · have hc28 : codeN f = 28 := by
                  rcases codeN_cases f with h | h
                  · exact absurd h hcd
                  · exact h
                have HWr := Lib.hid (fun tv W => write_bad6 g n tv f HFo.out hcd hin hbase0 hbase1 hbm0 hbm1 (by omega) W)
                rw [hV, hc28] at HWr
                rw [hc28] at HRc
                clear hV hnd hp0 hin hcd hc28
                go_wp2_with (first | (refine wpList_load_mid rfl 53 _ rfl b5 0 rfl gs d53 HG.out.range0 HU53.out HD53.out HS53.out ?_) | (refine wpList_load_mid rfl 27 _ rfl b8 0 rfl (ndc f) d27 HF.out.range0 HU27.out HD27.out (size27 f) ?_))
                refine (HWr.out _ w10).mono ?_
                rintro e w11 ⟨rfl, hb11⟩
                have HR11 := Lib.hid (HR.out.keep hb11)
                have HF11 := Lib.hid (HF.out.keep hb11)
                have HM11 := Lib.hid (HM.out.keep hb11)
                have HG11 := Lib.hid (HG.out.keep hb11)
                have HB11 := Lib.hid (HB.out.trans (hb11.mono HB.out.size))
                clear hb11 HWr HR HF HM HG HB
                go_wp2_with (first | (refine wpList_load_mid rfl 53 _ rfl b5 0 rfl gs d53 HG11.out.range0 HU53.out HD53.out HS53.out ?_))
                refine (HPl.out w11).mono ?_
                rintro e w12 ⟨rfl, hb12⟩
                have HR12 := Lib.hid (HR11.out.keep hb12)
                have HF12 := Lib.hid (HF11.out.keep hb12)
                have HM12 := Lib.hid (HM11.out.keep hb12)
                have HG12 := Lib.hid (HG11.out.keep hb12)
                have HB12 := Lib.hid (HB11.out.trans (hb12.mono HB11.out.size))
                have hc5 := HG12.out.c 5 _ HG5.out
                clear hb12 HPl HR11 HF11 HM11 HG11 HB11
                go_wp2_with (first | (refine wpList_load_mid rfl 27 _ rfl b8 0 rfl (ndc f) d27 HF12.out.range0 HU27.out HD27.out (size27 f) ?_))
                refine (HRc.out w12).mono ?_
                rintro e w13 ⟨rfl, hb13⟩
                have HR13 := Lib.hid (HR12.out.keep hb13)
                have HF13 := Lib.hid (HF12.out.keep hb13)
                have HM13 := Lib.hid (HM12.out.keep hb13)
                have HG13 := Lib.hid (HG12.out.keep hb13)
                have HB13 := Lib.hid (HB12.out.trans (hb13.mono HB12.out.size))
                clear hb13 hc5 HRc HR12 HF12 HM12 HG12 HB12
                go_wp2_with fail
                go_roundw
                case rel => exact ⟨k + 1, by omega, by go_num, ⟨T, U, by omega, by omega, HR13.out.mono (by omega), HTb.out, HM13.out⟩, HG13.out, HB13.out⟩
                case measure => simp [Go.RowKit.intOf]; omega
            · have HPl := Lib.hid (fun W => place_out g X hin (by omega) (by omega) W)
              have HWr := Lib.hid (fun tv W => write_out6 g X tv f hin (by omega) (by omega) W)
              rw [hV] at HWr HPl
              have hX' : X < 1 ∨ (ND : Int) < X := by
                rcases Int.lt_or_le X 1 with h | h
                · exact .inl h
                · exact .inr (Int.lt_of_not_ge fun h' => hin ⟨h, by omega⟩)
              clear hV hnd hp0 hin
              rcases hX' with hX' | hX'
              · skip
                go_wp2_with (first | (refine wpList_load_mid rfl 53 _ rfl b5 0 rfl gs d53 HG.out.range0 HU53.out HD53.out HS53.out ?_) | (refine wpList_load_mid rfl 27 _ rfl b8 0 rfl (ndc f) d27 HF.out.range0 HU27.out HD27.out (size27 f) ?_))
                refine (HWr.out _ w10).mono ?_
                rintro e w11 ⟨rfl, hb11⟩
                have HR11 := Lib.hid (HR.out.keep hb11)
                have HF11 := Lib.hid (HF.out.keep hb11)
                have HM11 := Lib.hid (HM.out.keep hb11)
                have HG11 := Lib.hid (HG.out.keep hb11)
                have HB11 := Lib.hid (HB.out.trans (hb11.mono HB.out.size))
                clear hb11 HWr HR HF HM HG HB
                go_wp2_with (first | (refine wpList_load_mid rfl 53 _ rfl b5 0 rfl gs d53 HG11.out.range0 HU53.out HD53.out HS53.out ?_))
                refine (HPl.out w11).mono ?_
                rintro e w12 ⟨rfl, hb12⟩
                have HR12 := Lib.hid (HR11.out.keep hb12)
                have HF12 := Lib.hid (HF11.out.keep hb12)
                have HM12 := Lib.hid (HM11.out.keep hb12)
                have HG12 := Lib.hid (HG11.out.keep hb12)
                have HB12 := Lib.hid (HB11.out.trans (hb12.mono HB11.out.size))
                have hc5 := HG12.out.c 5 _ HG5.out
                clear hb12 HPl HR11 HF11 HM11 HG11 HB11
                go_wp2_with fail
                go_roundw
                case rel => exact ⟨k + 1, by omega, by go_num, ⟨T, U, by omega, by omega, HR12.out.mono (by omega), HTb.out, HM12.out⟩, HG12.out, HB12.out⟩
                case measure => simp [Go.RowKit.intOf]; omega
              · skip
                have hX1 : ¬ (X < 1) := by omega
                go_wp2_with (first | (refine wpList_load_mid rfl 53 _ rfl b5 0 rfl gs d53 HG.out.range0 HU53.out HD53.out HS53.out ?_) | (refine wpList_load_mid rfl 27 _ rfl b8 0 rfl (ndc f) d27 HF.out.range0 HU27.out HD27.out (size27 f) ?_))
                refine (HWr.out _ w10).mono ?_
                rintro e w11 ⟨rfl, hb11⟩
                have HR11 := Lib.hid (HR.out.keep hb11)
                have HF11 := Lib.hid (HF.out.keep hb11)
                have HM11 := Lib.hid (HM.out.keep hb11)
                have HG11 := Lib.hid (HG.out.keep hb11)
                have HB11 := Lib.hid (HB.out.trans (hb11.mono HB.out.size))
                clear hb11 HWr HR HF HM HG HB
                go_wp2_with (first | (refine wpList_load_mid rfl 53 _ rfl b5 0 rfl gs d53 HG11.out.range0 HU53.out HD53.out HS53.out ?_))
                refine (HPl.out w11).mono ?_
                rintro e w12 ⟨rfl, hb12⟩
                have HR12 := Lib.hid (HR11.out.keep hb12)
                have HF12 := Lib.hid (HF11.out.keep hb12)
                have HM12 := Lib.hid (HM11.out.keep hb12)
                have HG12 := Lib.hid (HG11.out.keep hb12)
                have HB12 := Lib.hid (HB11.out.trans (hb12.mono HB11.out.size))
                have hc5 := HG12.out.c 5 _ HG5.out
                clear hb12 HPl HR11 HF11 HM11 HG11 HB11
                go_wp2_with fail
                go_roundw
                case rel => exact ⟨k + 1, by omega, by go_num, ⟨T, U, by omega, by omega, HR12.out.mono (by omega), HTb.out, HM12.out⟩, HG12.out, HB12.out⟩
                case measure => simp [Go.RowKit.intOf]; omega
        · have hlti : ¬ ((k : Int) < Lm) := by omega
          go_wp2_with fail
          go_meet
          case rel => exact ⟨T, U, k, by omega, by omega, by omega, HR.out, HTb.out, HM.out, HG.out, HB.out⟩
    case rest =>
      obtain ⟨T, U, K, hK, hTl, hUl, hR, hTb, hM, hG, hB⟩ := hcut
      have HR1 := Lib.hid hR
      have HTb := Lib.hid hTb
      have HM1 := Lib.hid hM
      have HG1' := Lib.hid hG
      have HB1 := Lib.hid hB
      clear hR hTb hM hG hB HR7 HM7 HG7 HB7 HXR HYR HVX HVY
      obtain ⟨wY, rfl⟩ : ∃ x, x = wc := ⟨wc, rfl⟩
      go_wp2_with fail
      go_loopw [23, 24, 25, 26, 27, 28] (fun jv _ _ _ _ _ wr => ∃ j : Nat, 1 ≤ j ∧ j ≤ ND + 1 ∧ jv = .int .i64 j ∧ Rd wr t mm dd gg N T (K + j) ∧ Mn wr bm7 U ∧ Vl wr b5 gs ∧ Below w.heap.size w wr) (fun jv _ _ _ _ _ _ => ND + 1 - (Go.RowKit.intOf jv).toNat)
      case atStart => exact ⟨1, by omega, by omega, rfl, HR1.out.mono (by omega), HM1.out, HG1'.out, HB1.out⟩
      case round =>
        obtain ⟨j, hj1, hj2, rfl, hR, hM, hG, hB⟩ := hrel
        have HR := Lib.hid hR
        have HM := Lib.hid hM
        have HG := Lib.hid hG
        have HB := Lib.hid hB
        clear hR hM hG hB HR1 HM1 HG1' HB1
        have hj0 : (0 : Int) ≤ j := by omega
        have hj3 : (1 : Int) ≤ j := by omega
        have hj4 : (j : Int) ≤ 129 := by omega
        have hc5 := HG.out.c 5 _ HG5.out
        obtain ⟨wX, rfl⟩ : ∃ x, x = wr := ⟨wr, rfl⟩
        by_cases hlt : j ≤ ND
        · have hlti : (j : Int) ≤ ND := by omega
          have hnd := HND.out
          have hp0 := HP0.out
          have hin : inP g (j : Int) := ⟨hj3, by omega⟩
          have HRe := Lib.hid (fun W h => read_any6 g j t mm dd gg N (K + j) P0 ND T U hj1 hlt hnd hp0 hbase0 hbase1 hbm0 hbm1 (by omega) hPN hN1 (by omega) HTb.out W h)
          have HPl := Lib.hid (fun W => place_in g (j : Int) hin hbase0 hbase1 hbm0 hbm1 (by omega) W)
          rw [HVal.out] at HRe HPl
          obtain ⟨-, hok, -⟩ := HTb.out j hj1 hlt
          obtain ⟨F, hF⟩ : ∃ F, ndU U j = F := ⟨_, rfl⟩
          rw [hF] at HRe hok
          have HLk := Lib.hid hF
          have HE := Lib.hid (fun W => eq27 F F hok hok W)
          have hee : eqb 12 F F = true := eqb_same fun _ _ => rfl
          rw [hee] at HE
          have hq : Int.tdiv ((j : Int) - 1) 2 = ((j : Int) - 1) / 2 := Int.tdiv_eq_ediv_of_nonneg (by omega)
          have hr : Int.tmod ((j : Int) - 1) 2 = ((j : Int) - 1) % 2 := Int.tmod_eq_emod_of_nonneg (by omega)
          have hltB := HR.out.lts
          clear hnd hp0 hin hok hee hF
          go_wp2_with (refine wpList_load_mid rfl 53 _ rfl b5 0 rfl gs d53 HG.out.range0 HU53.out HD53.out HS53.out ?_)
          refine (HRe.out wX HR.out).mono ?_
          rintro e w2 ⟨rfl, hR, hk2⟩
          have HR2 := Lib.hid hR
          have HM2 := Lib.hid (HM.out.kf hk2 NM.out)
          have HG2 := Lib.hid (HG.out.kf hk2 N5.out)
          have HB2 := Lib.hid (hk2.after HB.out HFr.out HB.out.size)
          clear hR hk2 hc5 HRe HR HM HG HB
          go_upto_region 28 with (first | (refine wpList_alloc_list (w := w2) rfl 27 rfl (ndc zpt) Try.zero27 ?_; intro w3 F3 hb3 hz3; simp only [Act.put, List.getElem_toArray, List.getElem_cons_zero, List.getElem_cons_succ, List.setIfInBounds_toArray, List.set_cons_zero, List.set_cons_succ]; refine wpList_store_list rfl 27 (.tmp 24) (.tmp 140) rfl w2.heap.size _ (ndc F) rfl rfl F3.out rfl (size27 _) (ndc_one _) ?_; intro w4 HF4 HK4; have HB3 := Lib.hid hb3; clear hb3 hz3 F3))
          have hlt2 := HR2.out.lts
          have hltm2 := HM2.out.lt
          have hltg2 := HG2.out.lt
          have hsz2 : w.heap.size ≤ w2.heap.size := HB2.out.size
          obtain ⟨b8, hb8⟩ : ∃ b, w2.heap.size = b := ⟨_, rfl⟩
          have R3 := Lib.hid (HR2.out.keep HB3.out)
          have M3 := Lib.hid (HM2.out.keep HB3.out)
          have G3 := Lib.hid (HG2.out.keep HB3.out)
          have B3 := Lib.hid (HB2.out.trans (HB3.out.mono HB2.out.size))
          rw [hb8] at HF4 HK4 hlt2 hltm2 hltg2 hsz2
          try rw [hb8]
          clear hb8 HB3 HR2 HM2 HG2 HB2
          have N8 := Lib.hid (nin4 hlt2.1 hlt2.2.1 hlt2.2.2.1 hlt2.2.2.2 (b := b8) (Nat.le_refl _))
          have HR4 := Lib.hid (R3.out.kp HK4.out N8.out N8.out)
          have HM4 := Lib.hid (M3.out.kp HK4.out (by omega) (by omega))
          have HG4 := Lib.hid (G3.out.kp HK4.out (by omega) (by omega))
          have HB4 := Lib.hid (B3.out.trans (HK4.out.below hsz2 hsz2 B3.out.size))
          clear R3 M3 G3 B3 HK4
          go_wp2_with (refine wpList_load_mid rfl 53 _ rfl b5 0 rfl gs d53 HG4.out.range0 HU53.out HD53.out HS53.out ?_)
          refine (HPl.out w4).mono ?_
          rintro e w5 ⟨rfl, hb5⟩
          have HR5 := Lib.hid (HR4.out.keep hb5)
          have HM5 := Lib.hid (HM4.out.keep hb5)
          have HG5' := Lib.hid (HG4.out.keep hb5)
          have HF5 := Lib.hid (HF4.out.keep hb5)
          have HB5 := Lib.hid (HB4.out.trans (hb5.mono HB4.out.size))
          clear hb5 HPl HR4 HM4 HG4 HF4 HB4
          have hc0 := HG5'.out.c 0 _ HG0.out
          have hc1 := HG5'.out.c 1 _ HG1.out
          go_wp2_with (first | (refine wpList_yields (.agg (ndc F).toArray) (yieldsIf_load_mid (by rfl) 27 _ rfl b8 0 rfl (ndc F) d27 (fun W hW => by subst hW; exact HF5.out.range0) HU27.out HD27.out (size27 _)) ?_; simp only [Act.put, List.getElem_toArray, List.getElem_cons_zero, List.getElem_cons_succ, List.setIfInBounds_toArray, List.set_cons_zero, List.set_cons_succ]) | (at_lookup; refine wpList_yields (nv ((find U (j : Int)).getD zpt)) (yields_look_mn (by rfl) (.tmp 153) (.tmp 154) rfl bm7 U (fun W hW => by subst hW; exact HM5.out) rfl (j : Int) rfl (by omega) (by omega)) ?_; rw [show nv ((find U (j : Int)).getD zpt) = .agg (ndc F).toArray from by have e : (find U (j : Int)).getD zpt = F := HLk.out; rw [e]; rfl]; simp only [Act.put, List.getElem_toArray, List.getElem_cons_zero, List.getElem_cons_succ, List.setIfInBounds_toArray, List.set_cons_zero, List.set_cons_succ]) | (refine wpList_yields (.bool false) (yields_neq (by rfl) 27 27 _ _ rfl (ndc F).toArray (ndc F).toArray rfl rfl true Try.guard27 (fun W _ => HE.out W)) ?_; simp only [Act.put, List.getElem_toArray, List.getElem_cons_zero, List.getElem_cons_succ, List.setIfInBounds_toArray, List.set_cons_zero, List.set_cons_succ]))
          go_roundw
          case rel => exact ⟨j + 1, by omega, by omega, by go_num, HR5.out.mono (by omega), HM5.out, HG5'.out, HB5.out⟩
          case measure => simp [Go.RowKit.intOf]; omega
        · have hlti : ¬ ((j : Int) ≤ ND) := by omega
          go_wp2_with fail
          go_ret
          exact ⟨rfl, HB.out⟩
end Go.Proofs.Ytdebkifnaiohcaa
