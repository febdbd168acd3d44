import Derived.Test.YtnfadmifdncjoaaGreatS4
import Derived.Test.YtnfadmifdncjoaaGreatS5
import Derived.Test.YtnfadmifdncjoaaGreatL1
import Derived.Test.YtnfadmifdncjoaaGreatKJ5
import Derived.Test.YtnfadmifdncjoaaGreatSI
/- GroupPlays: the walk. -/
namespace Go.Proofs.YtnfadmifdncjoaaGreat
set_option linter.unusedSimpArgs false
set_option linter.unusedVariables false
open Go.RowKit Go.Maps

theorem FA_of2 (l : Array Value) (n : Nat) (hn : l.size = n) : (⟨l, []⟩ : Act) = FA n (fun k => l.getD k undef) := by
  subst hn; exact FA_of l
theorem wp_toF {P : Program} {c : Code} {Q : Exit → Act → World → Prop} {l : Array Value} {w : World} (n : Nat) (hn : l.size = n) (h : ∀ F : (Nat → Value) → Act, Frm n F → ∀ f : Nat → Value, (∀ k, f k = l.getD k undef) → c.wp P Q (F f) w) : c.wp P Q ⟨l, []⟩ w := by
  rw [FA_of2 l n hn]
  exact h (FA n) (Frm.fa n) _ (fun _ => rfl)
set_option maxHeartbeats 80000000 in
set_option maxRecDepth 200000 in
theorem plays_walk (m : Int) (m0 : 0 ≤ m) (m1 : m < 256) (H : Nat → Nat → Int) (hH : Cf.Hok H) (tv : Value) (ts : List Int) (hts : ∀ x ∈ ts, 0 ≤ x ∧ x < 256) (lab : Int) (l0 : 0 ≤ lab) (l1 : lab < 256) (va : Value) (kn : Nat) (w : World) (htv : Cf.U8s w tv ts) (hl : ts.length ≤ maxLen) (hva : Acts w va kn) :
    Calls Tryz.prog 3 #[Cf.sizeVal m H tv, .int .u8 lab, va] w fun e w' => e = .returned (.bool true) ∧ Below w.heap.size w w' := by
  obtain ⟨pa, ca, rfl, hkn, hAc⟩ := hva
  have HAc := Lib.hid hAc
  clear hAc
  obtain ⟨M, hM⟩ : ∃ M, 2 + m.toNat % 4 = M := ⟨_, rfl⟩
  have hM4 : M = 2 ∨ M = 3 ∨ M = 4 ∨ M = 5 := by omega
  have hP := Lib.hid (fun W (h : Cf.U8s W tv ts) => Cf.sizeconf_any m m0 m1 H hH tv ts hts W h hl M hM)
  have HLEN := Lib.hid (Cf.sizeRs_len M hM4 H)
  have HSM := Lib.hid (Cf.size_small M hM4 H hH)
  have HTV := Lib.hid htv
  have HA := Lib.hid (fun W => awake_any W)
  have hc : (w.alloc (.cells #[.int .u8 m, .int .u8 (H 0 0), .int .u8 (H 0 1), .int .u8 (H 0 2), .int .u8 (H 0 3), .int .u8 (H 0 4), .int .u8 (H 1 0), .int .u8 (H 1 1), .int .u8 (H 1 2), .int .u8 (H 1 3), .int .u8 (H 1 4), .int .u8 (H 2 0), .int .u8 (H 2 1), .int .u8 (H 2 2), .int .u8 (H 2 3), .int .u8 (H 2 4), .int .u8 (H 3 0), .int .u8 (H 3 1), .int .u8 (H 3 2), .int .u8 (H 3 3), .int .u8 (H 3 4), .int .u8 (H 4 0), .int .u8 (H 4 1), .int .u8 (H 4 2), .int .u8 (H 4 3), .int .u8 (H 4 4), tv] 26)).rangeAt w.heap.size 0 [.int .u8 m, .int .u8 (H 0 0), .int .u8 (H 0 1), .int .u8 (H 0 2), .int .u8 (H 0 3), .int .u8 (H 0 4), .int .u8 (H 1 0), .int .u8 (H 1 1), .int .u8 (H 1 2), .int .u8 (H 1 3), .int .u8 (H 1 4), .int .u8 (H 2 0), .int .u8 (H 2 1), .int .u8 (H 2 2), .int .u8 (H 2 3), .int .u8 (H 2 4), .int .u8 (H 3 0), .int .u8 (H 3 1), .int .u8 (H 3 2), .int .u8 (H 3 3), .int .u8 (H 3 4), .int .u8 (H 4 0), .int .u8 (H 4 1), .int .u8 (H 4 2), .int .u8 (H 4 3), .int .u8 (H 4 4), tv] := by
    intro j u hj
    have := Cf.cells_new w [.int .u8 m, .int .u8 (H 0 0), .int .u8 (H 0 1), .int .u8 (H 0 2), .int .u8 (H 0 3), .int .u8 (H 0 4), .int .u8 (H 1 0), .int .u8 (H 1 1), .int .u8 (H 1 2), .int .u8 (H 1 3), .int .u8 (H 1 4), .int .u8 (H 2 0), .int .u8 (H 2 1), .int .u8 (H 2 2), .int .u8 (H 2 3), .int .u8 (H 2 4), .int .u8 (H 3 0), .int .u8 (H 3 1), .int .u8 (H 3 2), .int .u8 (H 3 3), .int .u8 (H 3 4), .int .u8 (H 4 0), .int .u8 (H 4 1), .int .u8 (H 4 2), .int .u8 (H 4 3), .int .u8 (H 4 4), tv] 26 j u hj
    rw [Addr.add_mid] at this
    exact this
  have hq : (Tryz.prog.underlying 26).map (·.isRow) = some true := by kernel_rfl
  obtain ⟨d, hu, hd⟩ := Option.map_eq_some_iff.1 hq
  have hi : (Tryz.prog.info? 26).map (·.size) = some ([.int .u8 m, .int .u8 (H 0 0), .int .u8 (H 0 1), .int .u8 (H 0 2), .int .u8 (H 0 3), .int .u8 (H 0 4), .int .u8 (H 1 0), .int .u8 (H 1 1), .int .u8 (H 1 2), .int .u8 (H 1 3), .int .u8 (H 1 4), .int .u8 (H 2 0), .int .u8 (H 2 1), .int .u8 (H 2 2), .int .u8 (H 2 3), .int .u8 (H 2 4), .int .u8 (H 3 0), .int .u8 (H 3 1), .int .u8 (H 3 2), .int .u8 (H 3 3), .int .u8 (H 3 4), .int .u8 (H 4 0), .int .u8 (H 4 1), .int .u8 (H 4 2), .int .u8 (H 4 3), .int .u8 (H 4 4), tv] : List Value).length := by kernel_rfl
  have HC := Lib.hid hc
  have HU := Lib.hid hu
  have HD := Lib.hid hd
  have HI := Lib.hid hi
  unfold Cf.sizeVal at hP ⊢
  clear hc hu hd hi hq htv hts hH hM 
  go_enter Tryz.func3, Tryz.ntmps3
  go_wp2_with fail
  obtain ⟨W, hW⟩ : ∃ z, w.alloc (.cells #[.int .u8 m, .int .u8 (H 0 0), .int .u8 (H 0 1), .int .u8 (H 0 2), .int .u8 (H 0 3), .int .u8 (H 0 4), .int .u8 (H 1 0), .int .u8 (H 1 1), .int .u8 (H 1 2), .int .u8 (H 1 3), .int .u8 (H 1 4), .int .u8 (H 2 0), .int .u8 (H 2 1), .int .u8 (H 2 2), .int .u8 (H 2 3), .int .u8 (H 2 4), .int .u8 (H 3 0), .int .u8 (H 3 1), .int .u8 (H 3 2), .int .u8 (H 3 3), .int .u8 (H 3 4), .int .u8 (H 4 0), .int .u8 (H 4 1), .int .u8 (H 4 2), .int .u8 (H 4 3), .int .u8 (H 4 4), tv] 26) = z := ⟨_, rfl⟩
  rw [hW] at HC ⊢
  have hbW : Below w.heap.size w W := by rw [← hW]; exact (Below.refl _ _).alloc (Nat.le_refl _) _
  have hlW : w.heap.size < W.heap.size := by rw [← hW]; simp
  obtain ⟨sv0, hsv⟩ : ∃ x : Value, .agg #[.int .u8 m, .int .u8 (H 0 0), .int .u8 (H 0 1), .int .u8 (H 0 2), .int .u8 (H 0 3), .int .u8 (H 0 4), .int .u8 (H 1 0), .int .u8 (H 1 1), .int .u8 (H 1 2), .int .u8 (H 1 3), .int .u8 (H 1 4), .int .u8 (H 2 0), .int .u8 (H 2 1), .int .u8 (H 2 2), .int .u8 (H 2 3), .int .u8 (H 2 4), .int .u8 (H 3 0), .int .u8 (H 3 1), .int .u8 (H 3 2), .int .u8 (H 3 3), .int .u8 (H 3 4), .int .u8 (H 4 0), .int .u8 (H 4 1), .int .u8 (H 4 2), .int .u8 (H 4 3), .int .u8 (H 4 4), tv] = x := ⟨_, rfl⟩
  rw [hsv]
  clear hW
  refine (HA.out W).mono ?_
  rintro e w1 ⟨rfl, hb1⟩
  have HB1 := Lib.hid (hbW.trans (hb1.mono hbW.size))
  have HC1 : Hid (w1.rangeAt w.heap.size 0 [.int .u8 m, .int .u8 (H 0 0), .int .u8 (H 0 1), .int .u8 (H 0 2), .int .u8 (H 0 3), .int .u8 (H 0 4), .int .u8 (H 1 0), .int .u8 (H 1 1), .int .u8 (H 1 2), .int .u8 (H 1 3), .int .u8 (H 1 4), .int .u8 (H 2 0), .int .u8 (H 2 1), .int .u8 (H 2 2), .int .u8 (H 2 3), .int .u8 (H 2 4), .int .u8 (H 3 0), .int .u8 (H 3 1), .int .u8 (H 3 2), .int .u8 (H 3 3), .int .u8 (H 3 4), .int .u8 (H 4 0), .int .u8 (H 4 1), .int .u8 (H 4 2), .int .u8 (H 4 3), .int .u8 (H 4 4), tv]) := fun j u hj => (hb1.cell (p := ⟨w.heap.size, 0 + j, none⟩) hlW).trans (HC.out j u hj)
  clear hb1 hbW hlW HC hsv HA
  go_wp2_with (refine wpList_load_mid rfl 26 _ rfl w.heap.size 0 rfl [.int .u8 m, .int .u8 (H 0 0), .int .u8 (H 0 1), .int .u8 (H 0 2), .int .u8 (H 0 3), .int .u8 (H 0 4), .int .u8 (H 1 0), .int .u8 (H 1 1), .int .u8 (H 1 2), .int .u8 (H 1 3), .int .u8 (H 1 4), .int .u8 (H 2 0), .int .u8 (H 2 1), .int .u8 (H 2 2), .int .u8 (H 2 3), .int .u8 (H 2 4), .int .u8 (H 3 0), .int .u8 (H 3 1), .int .u8 (H 3 2), .int .u8 (H 3 3), .int .u8 (H 3 4), .int .u8 (H 4 0), .int .u8 (H 4 1), .int .u8 (H 4 2), .int .u8 (H 4 3), .int .u8 (H 4 4), tv] d HC1.out HU.out HD.out HI.out ?_)
  refine (hP.out w1 (HTV.out.below HB1.out)).mono ?_
  rintro e w2 ⟨n, vr, vm, vg, rfl, hn, hb2, hCF⟩
  have HB2 := Lib.hid (HB1.out.trans (hb2.mono HB1.out.size))
  have HCF := Lib.hid hCF
  obtain ⟨R, hR⟩ : ∃ x, Cf.sizeRs M H = x := ⟨_, rfl⟩
  obtain ⟨MS, hMS⟩ : ∃ x, Cf.sizeMs M ts = x := ⟨_, rfl⟩
  rw [hR] at HCF HLEN HSM
  rw [hMS] at HCF
  have hR5 : 2 ≤ R.length ∧ R.length ≤ 5 := by rw [HLEN.out]; omega
  clear hP hb2 hCF HC1 HU HD HI HTV hn hR hMS HLEN hM4 HB1
  have hT := Cf.layF_range R HSM.out R.length (Nat.le_refl _)
  rw [List.take_length] at hT
  obtain ⟨N, hN⟩ := Int.eq_ofNat_of_zero_le (show 0 ≤ (Cf.layF R).2 by omega)
  have hN0 : 32 ≤ N := by omega
  have hN1 : N ≤ 65536 := by omega
  have HN := Lib.hid hN
  clear hT hN
  go_wp2_with fail
  refine (begun_any n vr vm vg R MS HSM.out (by omega) (by omega) N HN.out hN0 hN1 w2 HCF.out).mono ?_
  rintro e w3 ⟨t, mm, dd, gg, l, rfl, hFr, hll, hln, hLg, hRd, hb3⟩
  have HFr := Lib.hid hFr
  have HLn := Lib.hid hln
  have HL3 := Lib.hid hLg
  have HR3 := Lib.hid hRd
  have HCF3 := Lib.hid (HCF.out.below hb3)
  have HB3 := Lib.hid (HB2.out.trans (hb3.mono HB2.out.size))
  have HZ3 := Lib.hid hb3
  clear hFr hln hLg hRd hb3
  obtain ⟨i, hi⟩ := Int.eq_ofNat_of_zero_le (show 0 ≤ lab % (R.length : Int) from Int.emod_nonneg _ (by omega))
  have hiR : i < R.length := by have := Int.emod_lt_of_pos lab (show (0 : Int) < R.length by omega); omega
  obtain ⟨g, hgi⟩ : ∃ g, (Cf.layF R).1[i]'(by rw [Cf.lay_len]; exact hiR) = g := ⟨_, rfl⟩
  obtain ⟨B0, P0, M', DA, NB, hg, hbl, hnd⟩ := geo_gg R HSM.out (by omega) N HN.out i hiR g hgi
  have HGI := Lib.hid hgi
  have HG := Lib.hid hg
  have hNB : 4 ≤ NB := hg.n4
  have hN5 : NB ≤ 512 := hg.n512
  have hM4 : 4 ≤ M' := hg.m4
  have hM8 : M' ≤ 128 := hg.m128
  have HRg := Lib.hid (fun W (hW : Cf.CF n W vr vm vg R MS) => creg_in n vr vm vg R MS i hiR W hW)
  obtain ⟨r, hr⟩ : ∃ r, R[i] = r := ⟨_, rfl⟩
  rw [hr] at hbl hnd HRg
  have HRC := Lib.hid (show r.cells[3]? = some (.int .i64 r.bl) from rfl)
  have HRD := Lib.hid (show r.cells[4]? = some (.int .i64 r.nd) from rfl)
  rw [hbl] at HRC
  rw [hnd] at HRD
  have HRL := Lib.hid (show r.cells.length = 9 from rfl)
  have HRO := Lib.hid (reg_one r)
  have HRS := Lib.hid (sizeReg r)
  obtain ⟨rc, hrc⟩ : ∃ c, r.cells = c := ⟨_, rfl⟩
  rw [hrc] at HRg HRC HRD HRL HRO HRS
  have hne0 : ¬ ((R.length : Int) = 0) := by omega
  have hmod : Int.tmod lab (R.length : Int) = i := by rw [Int.tmod_eq_emod_of_nonneg l0]; exact hi
  obtain ⟨L, hL⟩ : ∃ L, NB + 1 = L := ⟨_, rfl⟩
  obtain ⟨LM, hLM⟩ : ∃ L, M' + 1 = L := ⟨_, rfl⟩
  have HL := Lib.hid hL
  have HLM := Lib.hid hLM
  have hL1 : L ≤ 513 := by omega
  have hL2 : LM ≤ 129 := by omega
  have HWL : Hid (IntKind.i64.wrap ((NB : Int) + 1) = L) := Lib.hid (by
    rw [show ((NB : Int) + 1) = (L : Int) by omega]
    simp [IntKind.wrap, IntKind.bits, IntKind.signed]; omega)
  have HWM : Hid (IntKind.i64.wrap ((M' : Int) + 1) = LM) := Lib.hid (by
    rw [show ((M' : Int) + 1) = (LM : Int) by omega]
    simp [IntKind.wrap, IntKind.bits, IntKind.signed]; omega)
  clear hgi hg hr hrc hbl hnd hi hl HSM hL hLM
  go_wp2_with fail
  refine (Cf.clen_any n vr vm vg R MS w3 HCF3.out (by omega)).mono ?_
  rintro e wz ⟨rfl, hwz⟩
  rw [hwz]
  clear hwz
  go_wp2_with fail
  refine (HRg.out w3 HCF3.out).mono ?_
  rintro e w4 ⟨rfl, hb⟩
  have HK4 := Lib.hid (Kf.of_below hb [dd, gg])
  have HR4 := Lib.hid (HR3.out.keep hb)
  have HB4 := Lib.hid (HB3.out.trans (hb.mono HB3.out.size))
  have HLTS := Lib.hid HR3.out.lts
  have HL3l := HL3.out.lt
  clear hb hne0 hmod HRg
  go_upto_region 7 with (first | (refine wpList_alloc_list (w := w4) rfl 41 rfl Cf.zeroRg.cells Tryz.zeroReg ?_; intro w5 G5 hb5 hz5; simp only [Act.put, List.getElem_toArray, List.getElem_cons_zero, List.getElem_cons_succ, List.setIfInBounds_toArray, List.set_cons_zero, List.set_cons_succ]; refine wpList_store_list rfl 41 (.tmp 12) (.tmp 61) rfl w4.heap.size Cf.zeroRg.cells rc rfl rfl G5.out (by rw [HRL.out]; rfl) HRS.out HRO.out ?_; intro w6 FR6 HK6; have HQ5 := Lib.hid hb5; clear hb5 hz5 G5))
  obtain ⟨bR, hbR⟩ : ∃ b, w4.heap.size = b := ⟨_, rfl⟩
  have h34 := HK4.out.size
  have HK5 := Lib.hid ((HK4.out.more HQ5.out).new HK6.out (by omega))
  have HB5 := Lib.hid (HB4.out.trans (HQ5.out.mono HB4.out.size))
  have HR6 := Lib.hid ((HR4.out.keep HQ5.out).kp HK6.out (HR4.out.notin (Nat.le_refl _)) (HR4.out.notin (Nat.le_refl _)))
  have HB6 := Lib.hid (HB5.out.trans (HK6.out.below HB4.out.size HB4.out.size HB5.out.size))
  have hbR1 : w3.heap.size ≤ bR := by omega
  have hbR2 := FR6.out.lt
  rw [hbR] at FR6 hbR2
  try rw [hbR]
  clear hbR HQ5 HK6 HK4 HB4 HB5 h34
  obtain ⟨t1, t2, t3, t4⟩ := HLTS.out
  have HNl := Lib.hid (show l ∉ [dd, gg] from fun h => HLn.out (by simp only [List.mem_cons, List.not_mem_nil, or_false] at h ⊢; omega))
  have hFd : w2.heap.size ≤ dd := HFr.out.2.2.1
  have hFg : w2.heap.size ≤ gg := HFr.out.2.2.2
  have hw23 := HZ3.out.size
  have HL6 := Lib.hid (HL3.out.kf HK5.out HNl.out)
  have HCFx : Hid (∀ W, Kf w6 W [dd, gg] → Cf.CF n W vr vm vg R MS) := fun W hk => HCF.out.below (((HZ3.out.trans (HK5.out.bel hFd hFg hw23))).trans (hk.bel hFd hFg (Nat.le_trans hw23 HK5.out.size)))
  have HBx : Hid (∀ W, Kf w6 W [dd, gg] → Below w.heap.size w W) := fun W hk => HB6.out.trans (hk.bel (Nat.le_trans HB2.out.size hFd) (Nat.le_trans HB2.out.size hFg) HB6.out.size)
  have hl6 := HL6.out.lt
  have hdR : dd < bR := by omega
  have hgR : gg < bR := by omega
  clear HR4 HR3 HL3 HCF3 HB3 HZ3 HCF HK5 HB6 HLn HFr hFd hFg hw23 t1 t2 t3 t4 HLTS hll HL3l HB2 hbR1
  go_cut [14] (fun x wc => ∃ mo tk yb nd, x = .pointer (some ⟨mo, 0, none⟩) ∧ Mo wc mo tk yb nd L LM (fun _ => false) (fun _ _ => 0) (fun _ => zpt) ∧ Mx mo tk yb nd ∧ w6.heap.size ≤ mo ∧ w6.heap.size ≤ tk ∧ w6.heap.size ≤ yb ∧ w6.heap.size ≤ nd ∧ Below w6.heap.size w6 wc)
  case first =>
    refine wp_region_held (S := fun W => Vl W bR rc) (by kernel_rfl) ?_
    change wpAnyH _ _ _ _ _ _ _ _ (World.drew _)
    have hS0 : (fun W => Vl W bR rc) w6.drew := FR6.out.keep (Below.refl _ _).drew
    have HW7 := Lib.hid ((Below.refl w6.heap.size w6).drew)
    obtain ⟨w7, hw7⟩ : ∃ x, World.drew w6 = x := ⟨_, rfl⟩
    rw [hw7] at hS0 HW7 ⊢
    clear hw7
    refine wpAnyH_take (i := 0) (v := ?_) rfl (by kernel_rfl) (by kernel_rfl) (by kernel_rfl) (fun _ _ _ h => h) (Or.inl ⟨by rfl, ?_⟩) hS0 ?_
    rotate_left 1
    · intro W hW
      go_simp
      try with_reducible rfl
    simp only [Act.put, List.getElem_toArray, List.getElem_cons_zero, List.getElem_cons_succ, List.setIfInBounds_toArray, List.set_cons_zero, List.set_cons_succ]
    refine wpAnyH_take (i := 1) (v := ?_) rfl (by kernel_rfl) (by kernel_rfl) (by kernel_rfl) (fun _ _ _ h => h) (Or.inl ⟨by rfl, ?_⟩) hS0 ?_
    rotate_left 1
    · intro W hW
      have c0 := hW.c 3 _ HRC.out
      go_simp
      try with_reducible rfl
    simp only [Act.put, List.getElem_toArray, List.getElem_cons_zero, List.getElem_cons_succ, List.setIfInBounds_toArray, List.set_cons_zero, List.set_cons_succ]
    refine wpAnyH_take (i := 2) (v := .int .i64 (L : Int)) rfl (by kernel_rfl) (by kernel_rfl) (by kernel_rfl) (fun _ _ _ h => h) ?_ hS0 ?_
    · exact Or.inl ⟨by rfl, fun W hW => by have e := HWL.out; go_simp⟩
    simp only [Act.put, List.getElem_toArray, List.getElem_cons_zero, List.getElem_cons_succ, List.setIfInBounds_toArray, List.set_cons_zero, List.set_cons_succ]
    refine wpAnyH_take (i := 4) (v := ?_) rfl (by kernel_rfl) (by kernel_rfl) (by kernel_rfl) (fun _ _ _ h => h) (Or.inl ⟨by rfl, ?_⟩) hS0 ?_
    rotate_left 1
    · intro W hW
      go_simp
      try with_reducible rfl
    simp only [Act.put, List.getElem_toArray, List.getElem_cons_zero, List.getElem_cons_succ, List.setIfInBounds_toArray, List.set_cons_zero, List.set_cons_succ]
    refine wpAnyH_take (i := 5) (v := ?_) rfl (by kernel_rfl) (by kernel_rfl) (by kernel_rfl) (fun _ _ _ h => h) (Or.inl ⟨by rfl, ?_⟩) hS0 ?_
    rotate_left 1
    · intro W hW
      have c0 := hW.c 3 _ HRC.out
      go_simp
      try with_reducible rfl
    simp only [Act.put, List.getElem_toArray, List.getElem_cons_zero, List.getElem_cons_succ, List.setIfInBounds_toArray, List.set_cons_zero, List.set_cons_succ]
    refine wpAnyH_take (i := 6) (v := .int .i64 (L : Int)) rfl (by kernel_rfl) (by kernel_rfl) (by kernel_rfl) (fun _ _ _ h => h) ?_ hS0 ?_
    · exact Or.inl ⟨by rfl, fun W hW => by have e := HWL.out; go_simp⟩
    simp only [Act.put, List.getElem_toArray, List.getElem_cons_zero, List.getElem_cons_succ, List.setIfInBounds_toArray, List.set_cons_zero, List.set_cons_succ]
    refine wpAnyH_take (i := 8) (v := ?_) rfl (by kernel_rfl) (by kernel_rfl) (by kernel_rfl) (fun _ _ _ h => h) (Or.inl ⟨by rfl, ?_⟩) hS0 ?_
    rotate_left 1
    · intro W hW
      go_simp
      try with_reducible rfl
    simp only [Act.put, List.getElem_toArray, List.getElem_cons_zero, List.getElem_cons_succ, List.setIfInBounds_toArray, List.set_cons_zero, List.set_cons_succ]
    refine wpAnyH_take (i := 9) (v := ?_) rfl (by kernel_rfl) (by kernel_rfl) (by kernel_rfl) (fun _ _ _ h => h) (Or.inl ⟨by rfl, ?_⟩) hS0 ?_
    rotate_left 1
    · intro W hW
      have c0 := hW.c 4 _ HRD.out
      go_simp
      try with_reducible rfl
    simp only [Act.put, List.getElem_toArray, List.getElem_cons_zero, List.getElem_cons_succ, List.setIfInBounds_toArray, List.set_cons_zero, List.set_cons_succ]
    refine wpAnyH_take (i := 10) (v := .int .i64 (LM : Int)) rfl (by kernel_rfl) (by kernel_rfl) (by kernel_rfl) (fun _ _ _ h => h) ?_ hS0 ?_
    · exact Or.inl ⟨by rfl, fun W hW => by have e := HWM.out; go_simp⟩
    simp only [Act.put, List.getElem_toArray, List.getElem_cons_zero, List.getElem_cons_succ, List.setIfInBounds_toArray, List.set_cons_zero, List.set_cons_succ]
    refine wpAnyH_ready (rs := [3, 7, 11]) (by kernel_rfl) (by simp) (AllReadyH.cons rfl (fun KK hKK => ?_) (AllReadyH.cons rfl (fun KK hKK => ?_) (AllReadyH.cons rfl (fun KK hKK => ?_) (AllReadyH.nil))))
    · refine step_make rfl 45 (.tmp 65) rfl L rfl _ _ (run_make4 w7 L (by omega)) ?_
      have hb : Below w7.heap.size w7 (w7.alloc (.cells (madeCells #[.bool false] L) 4)) := (Below.refl _ _).alloc (Nat.le_refl _) _
      have F3 := Lib.hid (Bl.made w7 L 4)
      obtain ⟨w8, hw8⟩ : ∃ x, w7.alloc (.cells (madeCells #[.bool false] L) 4) = x := ⟨_, rfl⟩
      rw [hw8] at F3 hb ⊢
      obtain ⟨b3, hb3⟩ : ∃ b, w7.heap.size = b := ⟨_, rfl⟩
      have hg3 : w6.heap.size ≤ b3 := Nat.le_trans HW7.out.size (Nat.le_of_eq hb3)
      have HW8 := Lib.hid (HW7.out.trans (hb.mono HW7.out.size))
      rw [hb3] at F3 ⊢
      have hS1 : (fun W => Vl W bR rc) w8 := hS0.keep hb
      refine hKK _ _ hS1 ?_
      intro _
      clear hKK KK hS0 hb hw8 hb3 HW7
      try simp only [Act.put, List.getElem_toArray, List.getElem_cons_zero, List.getElem_cons_succ, List.setIfInBounds_toArray, List.set_cons_zero, List.set_cons_succ]
      have hS0 := hS1
      clear hS1
      refine wpAnyH_ready (rs := [7, 11]) (by kernel_rfl) (by simp) (AllReadyH.cons rfl (fun KK hKK => ?_) (AllReadyH.cons rfl (fun KK hKK => ?_) (AllReadyH.nil)))
      · refine step_make rfl 46 (.tmp 69) rfl L rfl _ _ (run_make36 w8 L (by omega)) ?_
        have hb : Below w8.heap.size w8 (w8.alloc (.cells (madeCells (byts 64 fun _ => 0).toArray (L * 64)) 59)) := (Below.refl _ _).alloc (Nat.le_refl _) _
        have F7 := Lib.hid (Fl.made w8 L 59)
        obtain ⟨w9, hw9⟩ : ∃ x, w8.alloc (.cells (madeCells (byts 64 fun _ => 0).toArray (L * 64)) 59) = x := ⟨_, rfl⟩
        rw [hw9] at F7 hb ⊢
        obtain ⟨b7, hb7⟩ : ∃ b, w8.heap.size = b := ⟨_, rfl⟩
        have hg7 : w6.heap.size ≤ b7 := Nat.le_trans HW8.out.size (Nat.le_of_eq hb7)
        have HW9 := Lib.hid (HW8.out.trans (hb.mono HW8.out.size))
        have hl3 := F3.out.lt
        have hn37 : b3 < b7 := Nat.lt_of_lt_of_eq hl3 hb7
        clear hl3
        replace F3 := Lib.hid (F3.out.below hb F3.out.lt)
        rw [hb7] at F7 ⊢
        have hS1 : (fun W => Vl W bR rc) w9 := hS0.keep hb
        refine hKK _ _ hS1 ?_
        intro _
        clear hKK KK hS0 hb hw9 hb7 HW8
        try simp only [Act.put, List.getElem_toArray, List.getElem_cons_zero, List.getElem_cons_succ, List.setIfInBounds_toArray, List.set_cons_zero, List.set_cons_succ]
        have hS0 := hS1
        clear hS1
        refine wpAnyH_ready (rs := [11]) (by kernel_rfl) (by simp) (AllReadyH.cons rfl (fun KK hKK => ?_) (AllReadyH.nil))
        · refine step_make rfl 47 (.tmp 73) rfl LM rfl _ _ (run_make27 w9 LM (by omega)) ?_
          have hb : Below w9.heap.size w9 (w9.alloc (.cells (madeCells (ndc zpt).toArray (LM * 12)) 68)) := (Below.refl _ _).alloc (Nat.le_refl _) _
          have F11 := Lib.hid (Nn.made w9 LM 68)
          obtain ⟨w10, hw10⟩ : ∃ x, w9.alloc (.cells (madeCells (ndc zpt).toArray (LM * 12)) 68) = x := ⟨_, rfl⟩
          rw [hw10] at F11 hb ⊢
          obtain ⟨b11, hb11⟩ : ∃ b, w9.heap.size = b := ⟨_, rfl⟩
          have hg11 : w6.heap.size ≤ b11 := Nat.le_trans HW9.out.size (Nat.le_of_eq hb11)
          have HW10 := Lib.hid (HW9.out.trans (hb.mono HW9.out.size))
          have hl3 := F3.out.lt
          have hn311 : b3 < b11 := Nat.lt_of_lt_of_eq hl3 hb11
          clear hl3
          replace F3 := Lib.hid (F3.out.below hb F3.out.lt)
          have hl7 := F7.out.lt
          have hn711 : b7 < b11 := Nat.lt_of_lt_of_eq hl7 hb11
          clear hl7
          replace F7 := Lib.hid (F7.out.below hb F7.out.lt)
          rw [hb11] at F11 ⊢
          have hS1 : (fun W => Vl W bR rc) w10 := hS0.keep hb
          refine hKK _ _ hS1 ?_
          intro _
          clear hKK KK hS0 hb hw10 hb11 HW9
          try simp only [Act.put, List.getElem_toArray, List.getElem_cons_zero, List.getElem_cons_succ, List.setIfInBounds_toArray, List.set_cons_zero, List.set_cons_succ]
          have hS0 := hS1
          clear hS1
          as_aux_lemma =>
            refine wpAnyH_take (i := 12) (v := .agg [.slice (some ⟨b3, 0, none⟩) L L, .slice (some ⟨b7, 0, none⟩) L L, .slice (some ⟨b11, 0, none⟩) LM LM].toArray) rfl (by kernel_rfl) (by kernel_rfl) (by kernel_rfl) (fun _ _ _ h => h) ?_ hS0 ?_
            · exact yields_bld3 (by rfl) 49 0 1 2 (.tmp 66) (.tmp 70) (.tmp 74) rfl (.slice (some ⟨b3, 0, none⟩) L L) (.slice (some ⟨b7, 0, none⟩) L L) (.slice (some ⟨b11, 0, none⟩) LM LM) rfl rfl rfl _ (Tryz.buildMod b3 b7 b11 L LM)
            simp only [Act.put, List.getElem_toArray, List.getElem_cons_zero, List.getElem_cons_succ, List.setIfInBounds_toArray, List.set_cons_zero, List.set_cons_succ]
            refine wpAnyH_ready (rs := [13]) (by kernel_rfl) (by simp) (AllReadyH.cons rfl (fun KK hKK => ?_) AllReadyH.nil)
            refine step_box_list rfl 49 _ rfl [.slice (some ⟨b3, 0, none⟩) L L, .slice (some ⟨b7, 0, none⟩) L L, .slice (some ⟨b11, 0, none⟩) LM LM] rfl ?_
            intro w11 Fm hb hz
            have HMo := Lib.hid (Mo.mk Fm.out (F3.out.below hb F3.out.lt) ⟨_, F7.out.below hb F7.out.lt, fun _ _ _ _ => rfl⟩ (F11.out.below hb F11.out.lt))
            have HMx := Lib.hid (show Mx w10.heap.size b3 b7 b11 from by have h3 := F3.out.lt; have h7 := F7.out.lt; have h11 := F11.out.lt; exact ⟨by omega, by omega, by omega, by omega, by omega, by omega⟩)
            have HB9 := Lib.hid (HW10.out.trans (hb.mono HW10.out.size))
            have hmo : w6.heap.size ≤ w10.heap.size := HW10.out.size
            replace hS0 : (fun W => Vl W bR rc) w11 := hS0.keep hb
            refine hKK _ _ hS0 ?_
            intro _
            clear hKK KK hb hz F3 F7 F11 Fm HW10
            try simp only [Act.put, List.getElem_toArray, List.getElem_cons_zero, List.getElem_cons_succ, List.setIfInBounds_toArray, List.set_cons_zero, List.set_cons_succ]
            refine wpAnyH_take (i := 14) (v := ?_) rfl (by kernel_rfl) (by kernel_rfl) (by kernel_rfl) (fun _ _ _ h => h) (Or.inl ⟨by rfl, ?_⟩) hS0 ?_
            rotate_left 1
            · intro W hW
              go_simp
              try with_reducible rfl
            simp only [Act.put, List.getElem_toArray, List.getElem_cons_zero, List.getElem_cons_succ, List.setIfInBounds_toArray, List.set_cons_zero, List.set_cons_succ]
            refine wpAnyH_done (by kernel_rfl) ?_ _
            clear hS0
            go_wp2_with fail
            go_meet
            case rel => exact ⟨_, _, _, _, rfl, HMo.out, HMx.out, hmo, hg3, hg7, hg11, HB9.out⟩
      · refine step_make rfl 47 (.tmp 73) rfl LM rfl _ _ (run_make27 w8 LM (by omega)) ?_
        have hb : Below w8.heap.size w8 (w8.alloc (.cells (madeCells (ndc zpt).toArray (LM * 12)) 68)) := (Below.refl _ _).alloc (Nat.le_refl _) _
        have F11 := Lib.hid (Nn.made w8 LM 68)
        obtain ⟨w9, hw9⟩ : ∃ x, w8.alloc (.cells (madeCells (ndc zpt).toArray (LM * 12)) 68) = x := ⟨_, rfl⟩
        rw [hw9] at F11 hb ⊢
        obtain ⟨b11, hb11⟩ : ∃ b, w8.heap.size = b := ⟨_, rfl⟩
        have hg11 : w6.heap.size ≤ b11 := Nat.le_trans HW8.out.size (Nat.le_of_eq hb11)
        have HW9 := Lib.hid (HW8.out.trans (hb.mono HW8.out.size))
        have hl3 := F3.out.lt
        have hn311 : b3 < b11 := Nat.lt_of_lt_of_eq hl3 hb11
        clear hl3
        replace F3 := Lib.hid (F3.out.below hb F3.out.lt)
        rw [hb11] at F11 ⊢
        have hS1 : (fun W => Vl W bR rc) w9 := hS0.keep hb
        refine hKK _ _ hS1 ?_
        intro _
        clear hKK KK hS0 hb hw9 hb11 HW8
        try simp only [Act.put, List.getElem_toArray, List.getElem_cons_zero, List.getElem_cons_succ, List.setIfInBounds_toArray, List.set_cons_zero, List.set_cons_succ]
        have hS0 := hS1
        clear hS1
        refine wpAnyH_ready (rs := [7]) (by kernel_rfl) (by simp) (AllReadyH.cons rfl (fun KK hKK => ?_) (AllReadyH.nil))
        · refine step_make rfl 46 (.tmp 69) rfl L rfl _ _ (run_make36 w9 L (by omega)) ?_
          have hb : Below w9.heap.size w9 (w9.alloc (.cells (madeCells (byts 64 fun _ => 0).toArray (L * 64)) 59)) := (Below.refl _ _).alloc (Nat.le_refl _) _
          have F7 := Lib.hid (Fl.made w9 L 59)
          obtain ⟨w10, hw10⟩ : ∃ x, w9.alloc (.cells (madeCells (byts 64 fun _ => 0).toArray (L * 64)) 59) = x := ⟨_, rfl⟩
          rw [hw10] at F7 hb ⊢
          obtain ⟨b7, hb7⟩ : ∃ b, w9.heap.size = b := ⟨_, rfl⟩
          have hg7 : w6.heap.size ≤ b7 := Nat.le_trans HW9.out.size (Nat.le_of_eq hb7)
          have HW10 := Lib.hid (HW9.out.trans (hb.mono HW9.out.size))
          have hl3 := F3.out.lt
          have hn37 : b3 < b7 := Nat.lt_of_lt_of_eq hl3 hb7
          clear hl3
          replace F3 := Lib.hid (F3.out.below hb F3.out.lt)
          have hl11 := F11.out.lt
          have hn117 : b11 < b7 := Nat.lt_of_lt_of_eq hl11 hb7
          clear hl11
          replace F11 := Lib.hid (F11.out.below hb F11.out.lt)
          rw [hb7] at F7 ⊢
          have hS1 : (fun W => Vl W bR rc) w10 := hS0.keep hb
          refine hKK _ _ hS1 ?_
          intro _
          clear hKK KK hS0 hb hw10 hb7 HW9
          try simp only [Act.put, List.getElem_toArray, List.getElem_cons_zero, List.getElem_cons_succ, List.setIfInBounds_toArray, List.set_cons_zero, List.set_cons_succ]
          have hS0 := hS1
          clear hS1
          as_aux_lemma =>
            refine wpAnyH_take (i := 12) (v := .agg [.slice (some ⟨b3, 0, none⟩) L L, .slice (some ⟨b7, 0, none⟩) L L, .slice (some ⟨b11, 0, none⟩) LM LM].toArray) rfl (by kernel_rfl) (by kernel_rfl) (by kernel_rfl) (fun _ _ _ h => h) ?_ hS0 ?_
            · exact yields_bld3 (by rfl) 49 0 1 2 (.tmp 66) (.tmp 70) (.tmp 74) rfl (.slice (some ⟨b3, 0, none⟩) L L) (.slice (some ⟨b7, 0, none⟩) L L) (.slice (some ⟨b11, 0, none⟩) LM LM) rfl rfl rfl _ (Tryz.buildMod b3 b7 b11 L LM)
            simp only [Act.put, List.getElem_toArray, List.getElem_cons_zero, List.getElem_cons_succ, List.setIfInBounds_toArray, List.set_cons_zero, List.set_cons_succ]
            refine wpAnyH_ready (rs := [13]) (by kernel_rfl) (by simp) (AllReadyH.cons rfl (fun KK hKK => ?_) AllReadyH.nil)
            refine step_box_list rfl 49 _ rfl [.slice (some ⟨b3, 0, none⟩) L L, .slice (some ⟨b7, 0, none⟩) L L, .slice (some ⟨b11, 0, none⟩) LM LM] rfl ?_
            intro w11 Fm hb hz
            have HMo := Lib.hid (Mo.mk Fm.out (F3.out.below hb F3.out.lt) ⟨_, F7.out.below hb F7.out.lt, fun _ _ _ _ => rfl⟩ (F11.out.below hb F11.out.lt))
            have HMx := Lib.hid (show Mx w10.heap.size b3 b7 b11 from by have h3 := F3.out.lt; have h7 := F7.out.lt; have h11 := F11.out.lt; exact ⟨by omega, by omega, by omega, by omega, by omega, by omega⟩)
            have HB9 := Lib.hid (HW10.out.trans (hb.mono HW10.out.size))
            have hmo : w6.heap.size ≤ w10.heap.size := HW10.out.size
            replace hS0 : (fun W => Vl W bR rc) w11 := hS0.keep hb
            refine hKK _ _ hS0 ?_
            intro _
            clear hKK KK hb hz F3 F7 F11 Fm HW10
            try simp only [Act.put, List.getElem_toArray, List.getElem_cons_zero, List.getElem_cons_succ, List.setIfInBounds_toArray, List.set_cons_zero, List.set_cons_succ]
            refine wpAnyH_take (i := 14) (v := ?_) rfl (by kernel_rfl) (by kernel_rfl) (by kernel_rfl) (fun _ _ _ h => h) (Or.inl ⟨by rfl, ?_⟩) hS0 ?_
            rotate_left 1
            · intro W hW
              go_simp
              try with_reducible rfl
            simp only [Act.put, List.getElem_toArray, List.getElem_cons_zero, List.getElem_cons_succ, List.setIfInBounds_toArray, List.set_cons_zero, List.set_cons_succ]
            refine wpAnyH_done (by kernel_rfl) ?_ _
            clear hS0
            go_wp2_with fail
            go_meet
            case rel => exact ⟨_, _, _, _, rfl, HMo.out, HMx.out, hmo, hg3, hg7, hg11, HB9.out⟩
    · refine step_make rfl 46 (.tmp 69) rfl L rfl _ _ (run_make36 w7 L (by omega)) ?_
      have hb : Below w7.heap.size w7 (w7.alloc (.cells (madeCells (byts 64 fun _ => 0).toArray (L * 64)) 59)) := (Below.refl _ _).alloc (Nat.le_refl _) _
      have F7 := Lib.hid (Fl.made w7 L 59)
      obtain ⟨w8, hw8⟩ : ∃ x, w7.alloc (.cells (madeCells (byts 64 fun _ => 0).toArray (L * 64)) 59) = x := ⟨_, rfl⟩
      rw [hw8] at F7 hb ⊢
      obtain ⟨b7, hb7⟩ : ∃ b, w7.heap.size = b := ⟨_, rfl⟩
      have hg7 : w6.heap.size ≤ b7 := Nat.le_trans HW7.out.size (Nat.le_of_eq hb7)
      have HW8 := Lib.hid (HW7.out.trans (hb.mono HW7.out.size))
      rw [hb7] at F7 ⊢
      have hS1 : (fun W => Vl W bR rc) w8 := hS0.keep hb
      refine hKK _ _ hS1 ?_
      intro _
      clear hKK KK hS0 hb hw8 hb7 HW7
      try simp only [Act.put, List.getElem_toArray, List.getElem_cons_zero, List.getElem_cons_succ, List.setIfInBounds_toArray, List.set_cons_zero, List.set_cons_succ]
      have hS0 := hS1
      clear hS1
      refine wpAnyH_ready (rs := [3, 11]) (by kernel_rfl) (by simp) (AllReadyH.cons rfl (fun KK hKK => ?_) (AllReadyH.cons rfl (fun KK hKK => ?_) (AllReadyH.nil)))
      · refine step_make rfl 45 (.tmp 65) rfl L rfl _ _ (run_make4 w8 L (by omega)) ?_
        have hb : Below w8.heap.size w8 (w8.alloc (.cells (madeCells #[.bool false] L) 4)) := (Below.refl _ _).alloc (Nat.le_refl _) _
        have F3 := Lib.hid (Bl.made w8 L 4)
        obtain ⟨w9, hw9⟩ : ∃ x, w8.alloc (.cells (madeCells #[.bool false] L) 4) = x := ⟨_, rfl⟩
        rw [hw9] at F3 hb ⊢
        obtain ⟨b3, hb3⟩ : ∃ b, w8.heap.size = b := ⟨_, rfl⟩
        have hg3 : w6.heap.size ≤ b3 := Nat.le_trans HW8.out.size (Nat.le_of_eq hb3)
        have HW9 := Lib.hid (HW8.out.trans (hb.mono HW8.out.size))
        have hl7 := F7.out.lt
        have hn73 : b7 < b3 := Nat.lt_of_lt_of_eq hl7 hb3
        clear hl7
        replace F7 := Lib.hid (F7.out.below hb F7.out.lt)
        rw [hb3] at F3 ⊢
        have hS1 : (fun W => Vl W bR rc) w9 := hS0.keep hb
        refine hKK _ _ hS1 ?_
        intro _
        clear hKK KK hS0 hb hw9 hb3 HW8
        try simp only [Act.put, List.getElem_toArray, List.getElem_cons_zero, List.getElem_cons_succ, List.setIfInBounds_toArray, List.set_cons_zero, List.set_cons_succ]
        have hS0 := hS1
        clear hS1
        refine wpAnyH_ready (rs := [11]) (by kernel_rfl) (by simp) (AllReadyH.cons rfl (fun KK hKK => ?_) (AllReadyH.nil))
        · refine step_make rfl 47 (.tmp 73) rfl LM rfl _ _ (run_make27 w9 LM (by omega)) ?_
          have hb : Below w9.heap.size w9 (w9.alloc (.cells (madeCells (ndc zpt).toArray (LM * 12)) 68)) := (Below.refl _ _).alloc (Nat.le_refl _) _
          have F11 := Lib.hid (Nn.made w9 LM 68)
          obtain ⟨w10, hw10⟩ : ∃ x, w9.alloc (.cells (madeCells (ndc zpt).toArray (LM * 12)) 68) = x := ⟨_, rfl⟩
          rw [hw10] at F11 hb ⊢
          obtain ⟨b11, hb11⟩ : ∃ b, w9.heap.size = b := ⟨_, rfl⟩
          have hg11 : w6.heap.size ≤ b11 := Nat.le_trans HW9.out.size (Nat.le_of_eq hb11)
          have HW10 := Lib.hid (HW9.out.trans (hb.mono HW9.out.size))
          have hl7 := F7.out.lt
          have hn711 : b7 < b11 := Nat.lt_of_lt_of_eq hl7 hb11
          clear hl7
          replace F7 := Lib.hid (F7.out.below hb F7.out.lt)
          have hl3 := F3.out.lt
          have hn311 : b3 < b11 := Nat.lt_of_lt_of_eq hl3 hb11
          clear hl3
          replace F3 := Lib.hid (F3.out.below hb F3.out.lt)
          rw [hb11] at F11 ⊢
          have hS1 : (fun W => Vl W bR rc) w10 := hS0.keep hb
          refine hKK _ _ hS1 ?_
          intro _
          clear hKK KK hS0 hb hw10 hb11 HW9
          try simp only [Act.put, List.getElem_toArray, List.getElem_cons_zero, List.getElem_cons_succ, List.setIfInBounds_toArray, List.set_cons_zero, List.set_cons_succ]
          have hS0 := hS1
          clear hS1
          as_aux_lemma =>
            refine wpAnyH_take (i := 12) (v := .agg [.slice (some ⟨b3, 0, none⟩) L L, .slice (some ⟨b7, 0, none⟩) L L, .slice (some ⟨b11, 0, none⟩) LM LM].toArray) rfl (by kernel_rfl) (by kernel_rfl) (by kernel_rfl) (fun _ _ _ h => h) ?_ hS0 ?_
            · exact yields_bld3 (by rfl) 49 0 1 2 (.tmp 66) (.tmp 70) (.tmp 74) rfl (.slice (some ⟨b3, 0, none⟩) L L) (.slice (some ⟨b7, 0, none⟩) L L) (.slice (some ⟨b11, 0, none⟩) LM LM) rfl rfl rfl _ (Tryz.buildMod b3 b7 b11 L LM)
            simp only [Act.put, List.getElem_toArray, List.getElem_cons_zero, List.getElem_cons_succ, List.setIfInBounds_toArray, List.set_cons_zero, List.set_cons_succ]
            refine wpAnyH_ready (rs := [13]) (by kernel_rfl) (by simp) (AllReadyH.cons rfl (fun KK hKK => ?_) AllReadyH.nil)
            refine step_box_list rfl 49 _ rfl [.slice (some ⟨b3, 0, none⟩) L L, .slice (some ⟨b7, 0, none⟩) L L, .slice (some ⟨b11, 0, none⟩) LM LM] rfl ?_
            intro w11 Fm hb hz
            have HMo := Lib.hid (Mo.mk Fm.out (F3.out.below hb F3.out.lt) ⟨_, F7.out.below hb F7.out.lt, fun _ _ _ _ => rfl⟩ (F11.out.below hb F11.out.lt))
            have HMx := Lib.hid (show Mx w10.heap.size b3 b7 b11 from by have h3 := F3.out.lt; have h7 := F7.out.lt; have h11 := F11.out.lt; exact ⟨by omega, by omega, by omega, by omega, by omega, by omega⟩)
            have HB9 := Lib.hid (HW10.out.trans (hb.mono HW10.out.size))
            have hmo : w6.heap.size ≤ w10.heap.size := HW10.out.size
            replace hS0 : (fun W => Vl W bR rc) w11 := hS0.keep hb
            refine hKK _ _ hS0 ?_
            intro _
            clear hKK KK hb hz F3 F7 F11 Fm HW10
            try simp only [Act.put, List.getElem_toArray, List.getElem_cons_zero, List.getElem_cons_succ, List.setIfInBounds_toArray, List.set_cons_zero, List.set_cons_succ]
            refine wpAnyH_take (i := 14) (v := ?_) rfl (by kernel_rfl) (by kernel_rfl) (by kernel_rfl) (fun _ _ _ h => h) (Or.inl ⟨by rfl, ?_⟩) hS0 ?_
            rotate_left 1
            · intro W hW
              go_simp
              try with_reducible rfl
            simp only [Act.put, List.getElem_toArray, List.getElem_cons_zero, List.getElem_cons_succ, List.setIfInBounds_toArray, List.set_cons_zero, List.set_cons_succ]
            refine wpAnyH_done (by kernel_rfl) ?_ _
            clear hS0
            go_wp2_with fail
            go_meet
            case rel => exact ⟨_, _, _, _, rfl, HMo.out, HMx.out, hmo, hg3, hg7, hg11, HB9.out⟩
      · refine step_make rfl 47 (.tmp 73) rfl LM rfl _ _ (run_make27 w8 LM (by omega)) ?_
        have hb : Below w8.heap.size w8 (w8.alloc (.cells (madeCells (ndc zpt).toArray (LM * 12)) 68)) := (Below.refl _ _).alloc (Nat.le_refl _) _
        have F11 := Lib.hid (Nn.made w8 LM 68)
        obtain ⟨w9, hw9⟩ : ∃ x, w8.alloc (.cells (madeCells (ndc zpt).toArray (LM * 12)) 68) = x := ⟨_, rfl⟩
        rw [hw9] at F11 hb ⊢
        obtain ⟨b11, hb11⟩ : ∃ b, w8.heap.size = b := ⟨_, rfl⟩
        have hg11 : w6.heap.size ≤ b11 := Nat.le_trans HW8.out.size (Nat.le_of_eq hb11)
        have HW9 := Lib.hid (HW8.out.trans (hb.mono HW8.out.size))
        have hl7 := F7.out.lt
        have hn711 : b7 < b11 := Nat.lt_of_lt_of_eq hl7 hb11
        clear hl7
        replace F7 := Lib.hid (F7.out.below hb F7.out.lt)
        rw [hb11] at F11 ⊢
        have hS1 : (fun W => Vl W bR rc) w9 := hS0.keep hb
        refine hKK _ _ hS1 ?_
        intro _
        clear hKK KK hS0 hb hw9 hb11 HW8
        try simp only [Act.put, List.getElem_toArray, List.getElem_cons_zero, List.getElem_cons_succ, List.setIfInBounds_toArray, List.set_cons_zero, List.set_cons_succ]
        have hS0 := hS1
        clear hS1
        refine wpAnyH_ready (rs := [3]) (by kernel_rfl) (by simp) (AllReadyH.cons rfl (fun KK hKK => ?_) (AllReadyH.nil))
        · refine step_make rfl 45 (.tmp 65) rfl L rfl _ _ (run_make4 w9 L (by omega)) ?_
          have hb : Below w9.heap.size w9 (w9.alloc (.cells (madeCells #[.bool false] L) 4)) := (Below.refl _ _).alloc (Nat.le_refl _) _
          have F3 := Lib.hid (Bl.made w9 L 4)
          obtain ⟨w10, hw10⟩ : ∃ x, w9.alloc (.cells (madeCells #[.bool false] L) 4) = x := ⟨_, rfl⟩
          rw [hw10] at F3 hb ⊢
          obtain ⟨b3, hb3⟩ : ∃ b, w9.heap.size = b := ⟨_, rfl⟩
          have hg3 : w6.heap.size ≤ b3 := Nat.le_trans HW9.out.size (Nat.le_of_eq hb3)
          have HW10 := Lib.hid (HW9.out.trans (hb.mono HW9.out.size))
          have hl7 := F7.out.lt
          have hn73 : b7 < b3 := Nat.lt_of_lt_of_eq hl7 hb3
          clear hl7
          replace F7 := Lib.hid (F7.out.below hb F7.out.lt)
          have hl11 := F11.out.lt
          have hn113 : b11 < b3 := Nat.lt_of_lt_of_eq hl11 hb3
          clear hl11
          replace F11 := Lib.hid (F11.out.below hb F11.out.lt)
          rw [hb3] at F3 ⊢
          have hS1 : (fun W => Vl W bR rc) w10 := hS0.keep hb
          refine hKK _ _ hS1 ?_
          intro _
          clear hKK KK hS0 hb hw10 hb3 HW9
          try simp only [Act.put, List.getElem_toArray, List.getElem_cons_zero, List.getElem_cons_succ, List.setIfInBounds_toArray, List.set_cons_zero, List.set_cons_succ]
          have hS0 := hS1
          clear hS1
          as_aux_lemma =>
            refine wpAnyH_take (i := 12) (v := .agg [.slice (some ⟨b3, 0, none⟩) L L, .slice (some ⟨b7, 0, none⟩) L L, .slice (some ⟨b11, 0, none⟩) LM LM].toArray) rfl (by kernel_rfl) (by kernel_rfl) (by kernel_rfl) (fun _ _ _ h => h) ?_ hS0 ?_
            · exact yields_bld3 (by rfl) 49 0 1 2 (.tmp 66) (.tmp 70) (.tmp 74) rfl (.slice (some ⟨b3, 0, none⟩) L L) (.slice (some ⟨b7, 0, none⟩) L L) (.slice (some ⟨b11, 0, none⟩) LM LM) rfl rfl rfl _ (Tryz.buildMod b3 b7 b11 L LM)
            simp only [Act.put, List.getElem_toArray, List.getElem_cons_zero, List.getElem_cons_succ, List.setIfInBounds_toArray, List.set_cons_zero, List.set_cons_succ]
            refine wpAnyH_ready (rs := [13]) (by kernel_rfl) (by simp) (AllReadyH.cons rfl (fun KK hKK => ?_) AllReadyH.nil)
            refine step_box_list rfl 49 _ rfl [.slice (some ⟨b3, 0, none⟩) L L, .slice (some ⟨b7, 0, none⟩) L L, .slice (some ⟨b11, 0, none⟩) LM LM] rfl ?_
            intro w11 Fm hb hz
            have HMo := Lib.hid (Mo.mk Fm.out (F3.out.below hb F3.out.lt) ⟨_, F7.out.below hb F7.out.lt, fun _ _ _ _ => rfl⟩ (F11.out.below hb F11.out.lt))
            have HMx := Lib.hid (show Mx w10.heap.size b3 b7 b11 from by have h3 := F3.out.lt; have h7 := F7.out.lt; have h11 := F11.out.lt; exact ⟨by omega, by omega, by omega, by omega, by omega, by omega⟩)
            have HB9 := Lib.hid (HW10.out.trans (hb.mono HW10.out.size))
            have hmo : w6.heap.size ≤ w10.heap.size := HW10.out.size
            replace hS0 : (fun W => Vl W bR rc) w11 := hS0.keep hb
            refine hKK _ _ hS0 ?_
            intro _
            clear hKK KK hb hz F3 F7 F11 Fm HW10
            try simp only [Act.put, List.getElem_toArray, List.getElem_cons_zero, List.getElem_cons_succ, List.setIfInBounds_toArray, List.set_cons_zero, List.set_cons_succ]
            refine wpAnyH_take (i := 14) (v := ?_) rfl (by kernel_rfl) (by kernel_rfl) (by kernel_rfl) (fun _ _ _ h => h) (Or.inl ⟨by rfl, ?_⟩) hS0 ?_
            rotate_left 1
            · intro W hW
              go_simp
              try with_reducible rfl
            simp only [Act.put, List.getElem_toArray, List.getElem_cons_zero, List.getElem_cons_succ, List.setIfInBounds_toArray, List.set_cons_zero, List.set_cons_succ]
            refine wpAnyH_done (by kernel_rfl) ?_ _
            clear hS0
            go_wp2_with fail
            go_meet
            case rel => exact ⟨_, _, _, _, rfl, HMo.out, HMx.out, hmo, hg3, hg7, hg11, HB9.out⟩
    · refine step_make rfl 47 (.tmp 73) rfl LM rfl _ _ (run_make27 w7 LM (by omega)) ?_
      have hb : Below w7.heap.size w7 (w7.alloc (.cells (madeCells (ndc zpt).toArray (LM * 12)) 68)) := (Below.refl _ _).alloc (Nat.le_refl _) _
      have F11 := Lib.hid (Nn.made w7 LM 68)
      obtain ⟨w8, hw8⟩ : ∃ x, w7.alloc (.cells (madeCells (ndc zpt).toArray (LM * 12)) 68) = x := ⟨_, rfl⟩
      rw [hw8] at F11 hb ⊢
      obtain ⟨b11, hb11⟩ : ∃ b, w7.heap.size = b := ⟨_, rfl⟩
      have hg11 : w6.heap.size ≤ b11 := Nat.le_trans HW7.out.size (Nat.le_of_eq hb11)
      have HW8 := Lib.hid (HW7.out.trans (hb.mono HW7.out.size))
      rw [hb11] at F11 ⊢
      have hS1 : (fun W => Vl W bR rc) w8 := hS0.keep hb
      refine hKK _ _ hS1 ?_
      intro _
      clear hKK KK hS0 hb hw8 hb11 HW7
      try simp only [Act.put, List.getElem_toArray, List.getElem_cons_zero, List.getElem_cons_succ, List.setIfInBounds_toArray, List.set_cons_zero, List.set_cons_succ]
      have hS0 := hS1
      clear hS1
      refine wpAnyH_ready (rs := [3, 7]) (by kernel_rfl) (by simp) (AllReadyH.cons rfl (fun KK hKK => ?_) (AllReadyH.cons rfl (fun KK hKK => ?_) (AllReadyH.nil)))
      · refine step_make rfl 45 (.tmp 65) rfl L rfl _ _ (run_make4 w8 L (by omega)) ?_
        have hb : Below w8.heap.size w8 (w8.alloc (.cells (madeCells #[.bool false] L) 4)) := (Below.refl _ _).alloc (Nat.le_refl _) _
        have F3 := Lib.hid (Bl.made w8 L 4)
        obtain ⟨w9, hw9⟩ : ∃ x, w8.alloc (.cells (madeCells #[.bool false] L) 4) = x := ⟨_, rfl⟩
        rw [hw9] at F3 hb ⊢
        obtain ⟨b3, hb3⟩ : ∃ b, w8.heap.size = b := ⟨_, rfl⟩
        have hg3 : w6.heap.size ≤ b3 := Nat.le_trans HW8.out.size (Nat.le_of_eq hb3)
        have HW9 := Lib.hid (HW8.out.trans (hb.mono HW8.out.size))
        have hl11 := F11.out.lt
        have hn113 : b11 < b3 := Nat.lt_of_lt_of_eq hl11 hb3
        clear hl11
        replace F11 := Lib.hid (F11.out.below hb F11.out.lt)
        rw [hb3] at F3 ⊢
        have hS1 : (fun W => Vl W bR rc) w9 := hS0.keep hb
        refine hKK _ _ hS1 ?_
        intro _
        clear hKK KK hS0 hb hw9 hb3 HW8
        try simp only [Act.put, List.getElem_toArray, List.getElem_cons_zero, List.getElem_cons_succ, List.setIfInBounds_toArray, List.set_cons_zero, List.set_cons_succ]
        have hS0 := hS1
        clear hS1
        refine wpAnyH_ready (rs := [7]) (by kernel_rfl) (by simp) (AllReadyH.cons rfl (fun KK hKK => ?_) (AllReadyH.nil))
        · refine step_make rfl 46 (.tmp 69) rfl L rfl _ _ (run_make36 w9 L (by omega)) ?_
          have hb : Below w9.heap.size w9 (w9.alloc (.cells (madeCells (byts 64 fun _ => 0).toArray (L * 64)) 59)) := (Below.refl _ _).alloc (Nat.le_refl _) _
          have F7 := Lib.hid (Fl.made w9 L 59)
          obtain ⟨w10, hw10⟩ : ∃ x, w9.alloc (.cells (madeCells (byts 64 fun _ => 0).toArray (L * 64)) 59) = x := ⟨_, rfl⟩
          rw [hw10] at F7 hb ⊢
          obtain ⟨b7, hb7⟩ : ∃ b, w9.heap.size = b := ⟨_, rfl⟩
          have hg7 : w6.heap.size ≤ b7 := Nat.le_trans HW9.out.size (Nat.le_of_eq hb7)
          have HW10 := Lib.hid (HW9.out.trans (hb.mono HW9.out.size))
          have hl11 := F11.out.lt
          have hn117 : b11 < b7 := Nat.lt_of_lt_of_eq hl11 hb7
          clear hl11
          replace F11 := Lib.hid (F11.out.below hb F11.out.lt)
          have hl3 := F3.out.lt
          have hn37 : b3 < b7 := Nat.lt_of_lt_of_eq hl3 hb7
          clear hl3
          replace F3 := Lib.hid (F3.out.below hb F3.out.lt)
          rw [hb7] at F7 ⊢
          have hS1 : (fun W => Vl W bR rc) w10 := hS0.keep hb
          refine hKK _ _ hS1 ?_
          intro _
          clear hKK KK hS0 hb hw10 hb7 HW9
          try simp only [Act.put, List.getElem_toArray, List.getElem_cons_zero, List.getElem_cons_succ, List.setIfInBounds_toArray, List.set_cons_zero, List.set_cons_succ]
          have hS0 := hS1
          clear hS1
          as_aux_lemma =>
            refine wpAnyH_take (i := 12) (v := .agg [.slice (some ⟨b3, 0, none⟩) L L, .slice (some ⟨b7, 0, none⟩) L L, .slice (some ⟨b11, 0, none⟩) LM LM].toArray) rfl (by kernel_rfl) (by kernel_rfl) (by kernel_rfl) (fun _ _ _ h => h) ?_ hS0 ?_
            · exact yields_bld3 (by rfl) 49 0 1 2 (.tmp 66) (.tmp 70) (.tmp 74) rfl (.slice (some ⟨b3, 0, none⟩) L L) (.slice (some ⟨b7, 0, none⟩) L L) (.slice (some ⟨b11, 0, none⟩) LM LM) rfl rfl rfl _ (Tryz.buildMod b3 b7 b11 L LM)
            simp only [Act.put, List.getElem_toArray, List.getElem_cons_zero, List.getElem_cons_succ, List.setIfInBounds_toArray, List.set_cons_zero, List.set_cons_succ]
            refine wpAnyH_ready (rs := [13]) (by kernel_rfl) (by simp) (AllReadyH.cons rfl (fun KK hKK => ?_) AllReadyH.nil)
            refine step_box_list rfl 49 _ rfl [.slice (some ⟨b3, 0, none⟩) L L, .slice (some ⟨b7, 0, none⟩) L L, .slice (some ⟨b11, 0, none⟩) LM LM] rfl ?_
            intro w11 Fm hb hz
            have HMo := Lib.hid (Mo.mk Fm.out (F3.out.below hb F3.out.lt) ⟨_, F7.out.below hb F7.out.lt, fun _ _ _ _ => rfl⟩ (F11.out.below hb F11.out.lt))
            have HMx := Lib.hid (show Mx w10.heap.size b3 b7 b11 from by have h3 := F3.out.lt; have h7 := F7.out.lt; have h11 := F11.out.lt; exact ⟨by omega, by omega, by omega, by omega, by omega, by omega⟩)
            have HB9 := Lib.hid (HW10.out.trans (hb.mono HW10.out.size))
            have hmo : w6.heap.size ≤ w10.heap.size := HW10.out.size
            replace hS0 : (fun W => Vl W bR rc) w11 := hS0.keep hb
            refine hKK _ _ hS0 ?_
            intro _
            clear hKK KK hb hz F3 F7 F11 Fm HW10
            try simp only [Act.put, List.getElem_toArray, List.getElem_cons_zero, List.getElem_cons_succ, List.setIfInBounds_toArray, List.set_cons_zero, List.set_cons_succ]
            refine wpAnyH_take (i := 14) (v := ?_) rfl (by kernel_rfl) (by kernel_rfl) (by kernel_rfl) (fun _ _ _ h => h) (Or.inl ⟨by rfl, ?_⟩) hS0 ?_
            rotate_left 1
            · intro W hW
              go_simp
              try with_reducible rfl
            simp only [Act.put, List.getElem_toArray, List.getElem_cons_zero, List.getElem_cons_succ, List.setIfInBounds_toArray, List.set_cons_zero, List.set_cons_succ]
            refine wpAnyH_done (by kernel_rfl) ?_ _
            clear hS0
            go_wp2_with fail
            go_meet
            case rel => exact ⟨_, _, _, _, rfl, HMo.out, HMx.out, hmo, hg3, hg7, hg11, HB9.out⟩
      · refine step_make rfl 46 (.tmp 69) rfl L rfl _ _ (run_make36 w8 L (by omega)) ?_
        have hb : Below w8.heap.size w8 (w8.alloc (.cells (madeCells (byts 64 fun _ => 0).toArray (L * 64)) 59)) := (Below.refl _ _).alloc (Nat.le_refl _) _
        have F7 := Lib.hid (Fl.made w8 L 59)
        obtain ⟨w9, hw9⟩ : ∃ x, w8.alloc (.cells (madeCells (byts 64 fun _ => 0).toArray (L * 64)) 59) = x := ⟨_, rfl⟩
        rw [hw9] at F7 hb ⊢
        obtain ⟨b7, hb7⟩ : ∃ b, w8.heap.size = b := ⟨_, rfl⟩
        have hg7 : w6.heap.size ≤ b7 := Nat.le_trans HW8.out.size (Nat.le_of_eq hb7)
        have HW9 := Lib.hid (HW8.out.trans (hb.mono HW8.out.size))
        have hl11 := F11.out.lt
        have hn117 : b11 < b7 := Nat.lt_of_lt_of_eq hl11 hb7
        clear hl11
        replace F11 := Lib.hid (F11.out.below hb F11.out.lt)
        rw [hb7] at F7 ⊢
        have hS1 : (fun W => Vl W bR rc) w9 := hS0.keep hb
        refine hKK _ _ hS1 ?_
        intro _
        clear hKK KK hS0 hb hw9 hb7 HW8
        try simp only [Act.put, List.getElem_toArray, List.getElem_cons_zero, List.getElem_cons_succ, List.setIfInBounds_toArray, List.set_cons_zero, List.set_cons_succ]
        have hS0 := hS1
        clear hS1
        refine wpAnyH_ready (rs := [3]) (by kernel_rfl) (by simp) (AllReadyH.cons rfl (fun KK hKK => ?_) (AllReadyH.nil))
        · refine step_make rfl 45 (.tmp 65) rfl L rfl _ _ (run_make4 w9 L (by omega)) ?_
          have hb : Below w9.heap.size w9 (w9.alloc (.cells (madeCells #[.bool false] L) 4)) := (Below.refl _ _).alloc (Nat.le_refl _) _
          have F3 := Lib.hid (Bl.made w9 L 4)
          obtain ⟨w10, hw10⟩ : ∃ x, w9.alloc (.cells (madeCells #[.bool false] L) 4) = x := ⟨_, rfl⟩
          rw [hw10] at F3 hb ⊢
          obtain ⟨b3, hb3⟩ : ∃ b, w9.heap.size = b := ⟨_, rfl⟩
          have hg3 : w6.heap.size ≤ b3 := Nat.le_trans HW9.out.size (Nat.le_of_eq hb3)
          have HW10 := Lib.hid (HW9.out.trans (hb.mono HW9.out.size))
          have hl11 := F11.out.lt
          have hn113 : b11 < b3 := Nat.lt_of_lt_of_eq hl11 hb3
          clear hl11
          replace F11 := Lib.hid (F11.out.below hb F11.out.lt)
          have hl7 := F7.out.lt
          have hn73 : b7 < b3 := Nat.lt_of_lt_of_eq hl7 hb3
          clear hl7
          replace F7 := Lib.hid (F7.out.below hb F7.out.lt)
          rw [hb3] at F3 ⊢
          have hS1 : (fun W => Vl W bR rc) w10 := hS0.keep hb
          refine hKK _ _ hS1 ?_
          intro _
          clear hKK KK hS0 hb hw10 hb3 HW9
          try simp only [Act.put, List.getElem_toArray, List.getElem_cons_zero, List.getElem_cons_succ, List.setIfInBounds_toArray, List.set_cons_zero, List.set_cons_succ]
          have hS0 := hS1
          clear hS1
          as_aux_lemma =>
            refine wpAnyH_take (i := 12) (v := .agg [.slice (some ⟨b3, 0, none⟩) L L, .slice (some ⟨b7, 0, none⟩) L L, .slice (some ⟨b11, 0, none⟩) LM LM].toArray) rfl (by kernel_rfl) (by kernel_rfl) (by kernel_rfl) (fun _ _ _ h => h) ?_ hS0 ?_
            · exact yields_bld3 (by rfl) 49 0 1 2 (.tmp 66) (.tmp 70) (.tmp 74) rfl (.slice (some ⟨b3, 0, none⟩) L L) (.slice (some ⟨b7, 0, none⟩) L L) (.slice (some ⟨b11, 0, none⟩) LM LM) rfl rfl rfl _ (Tryz.buildMod b3 b7 b11 L LM)
            simp only [Act.put, List.getElem_toArray, List.getElem_cons_zero, List.getElem_cons_succ, List.setIfInBounds_toArray, List.set_cons_zero, List.set_cons_succ]
            refine wpAnyH_ready (rs := [13]) (by kernel_rfl) (by simp) (AllReadyH.cons rfl (fun KK hKK => ?_) AllReadyH.nil)
            refine step_box_list rfl 49 _ rfl [.slice (some ⟨b3, 0, none⟩) L L, .slice (some ⟨b7, 0, none⟩) L L, .slice (some ⟨b11, 0, none⟩) LM LM] rfl ?_
            intro w11 Fm hb hz
            have HMo := Lib.hid (Mo.mk Fm.out (F3.out.below hb F3.out.lt) ⟨_, F7.out.below hb F7.out.lt, fun _ _ _ _ => rfl⟩ (F11.out.below hb F11.out.lt))
            have HMx := Lib.hid (show Mx w10.heap.size b3 b7 b11 from by have h3 := F3.out.lt; have h7 := F7.out.lt; have h11 := F11.out.lt; exact ⟨by omega, by omega, by omega, by omega, by omega, by omega⟩)
            have HB9 := Lib.hid (HW10.out.trans (hb.mono HW10.out.size))
            have hmo : w6.heap.size ≤ w10.heap.size := HW10.out.size
            replace hS0 : (fun W => Vl W bR rc) w11 := hS0.keep hb
            refine hKK _ _ hS0 ?_
            intro _
            clear hKK KK hb hz F3 F7 F11 Fm HW10
            try simp only [Act.put, List.getElem_toArray, List.getElem_cons_zero, List.getElem_cons_succ, List.setIfInBounds_toArray, List.set_cons_zero, List.set_cons_succ]
            refine wpAnyH_take (i := 14) (v := ?_) rfl (by kernel_rfl) (by kernel_rfl) (by kernel_rfl) (fun _ _ _ h => h) (Or.inl ⟨by rfl, ?_⟩) hS0 ?_
            rotate_left 1
            · intro W hW
              go_simp
              try with_reducible rfl
            simp only [Act.put, List.getElem_toArray, List.getElem_cons_zero, List.getElem_cons_succ, List.setIfInBounds_toArray, List.set_cons_zero, List.set_cons_succ]
            refine wpAnyH_done (by kernel_rfl) ?_ _
            clear hS0
            go_wp2_with fail
            go_meet
            case rel => exact ⟨_, _, _, _, rfl, HMo.out, HMx.out, hmo, hg3, hg7, hg11, HB9.out⟩
  case rest =>
    obtain ⟨mo, tk, yb, nd, rfl, hMo, hMx, hq1, hq2, hq3, hq4, hbc⟩ := hcut
    obtain ⟨wk, rfl⟩ : ∃ x, x = wc := ⟨wc, rfl⟩
    have HMo0 := Lib.hid hMo
    have HMx := Lib.hid hMx
    have HKc := Lib.hid (Kf.of_below hbc [dd, gg])
    have hL0 : 0 < L := by have := HL.out; omega
    have HRc := Lib.hid (HR6.out.keep hbc)
    obtain ⟨hlt1, hlt2, hlt3, hlt4⟩ := HR6.out.lts
    have HNk : Hid (tk ∉ [t, mm, dd, gg]) := Lib.hid (nin4 hlt1 hlt2 hlt3 hlt4 hq2)
    have HNo : Hid (∀ a ∈ [dd, gg], a ≠ mo ∧ a ≠ tk ∧ a ≠ yb ∧ a ≠ nd) := Lib.hid (fun a ha => by simp only [List.mem_cons, List.not_mem_nil, or_false] at ha; omega)
    have HNR : Hid (bR ∉ [dd, gg]) := Lib.hid (by simp only [List.mem_cons, List.not_mem_nil, or_false]; omega)
    have cm0 := hMo.m.c 0 _ rfl
    have z0 := hMo.t.z 0 hL0
    have c0 := hMo.t.c 0 hL0
    clear hMo hMx hbc HR6
    go_upto_region 9 with fail
    have hkx : Kp wk (wk.setCell ⟨tk, 0, none⟩ (.bool true)) tk tk := (Kp.refl wk tk tk).setCell (p := ⟨tk, 0, none⟩) (.inl rfl) _
    have HKL := Lib.hid (HKc.out.new hkx hq2)
    have HRL2 := Lib.hid (HRc.out.kp hkx HNk.out HNk.out)
    have HMoL := Lib.hid (HMo0.out.setT HMx.out 0 hL0 true)
    obtain ⟨wL, hwL⟩ : ∃ x, wk.setCell ⟨tk, 0, none⟩ (.bool true) = x := ⟨_, rfl⟩
    rw [hwL] at HKL HRL2 HMoL
    try rw [hwL]
    clear hwL hkx HRc HKc HMo0 cm0 z0 c0 HNk hlt1 hlt2 hdR hgR
    go_upto_block 0 with fail
    refine wp_toF 418 (by rfl) (fun F hFr f hfk => ?_)
    have h7 : f 7 = .pointer (some ⟨n + 3, 0, none⟩) := (hfk 7).trans (by rfl)
    have h9 : f 9 = .pointer (some ⟨l, 0, none⟩) := (hfk 9).trans (by rfl)
    have h11 : f 11 = .int .i64 i := (hfk 11).trans (by rfl)
    have h12 : f 12 = .pointer (some ⟨bR, 0, none⟩) := (hfk 12).trans (by rfl)
    have h14 : f 14 = .pointer (some ⟨mo, 0, none⟩) := (hfk 14).trans (by rfl)
    have h82 : f 82 = .slice pa kn ca := (hfk 82).trans (by rfl)
    have h83 : f 83 = .int .i64 kn := (hfk 83).trans (by rfl)
    have h84 : f 84 = .int .i64 0 := (hfk 84).trans (by rfl)
    clear hfk
    refine acts_loop F hFr f w w6 wL dd gg mo tk yb nd bR i n l B0 P0 M' DA NB N L LM kn ca pa g rc vr vm vg R MS HL.out hNB hN5 HLM.out hM8 HG.out hiR HGI.out HBx.out HCFx.out HL6.out HNl.out FR6.out HNR.out HRC.out HRD.out HMx.out hq1 hq2 hq3 hq4 HNo.out hkn HAc.out ⟨⟨t, mm, _, _, _, _, HRL2.out, Rl.zero B0 P0 M' DA NB, HMoL.out⟩, HKL.out⟩ h7 h9 h11 h12 h14 h82 h83 h84 _ (fun c a a' w1 hd q => ⟨hd.trans q.1, q.2⟩) ?_
    rintro f1 wX k hk81 hkeep ⟨⟨t0, m0', Y, T, X, V, hRd, hRl, hMo⟩, hkf⟩
    have fa1 := hFr.get
    have fa2 := hFr.put
    have fa3 := hFr.fold
    have fa4 := updA_at
    have fa5 := hFr.defers
    have HFr := Lib.hid hFr
    have g7 := (hkeep 7 (by decide)).trans h7
    have g9 := (hkeep 9 (by decide)).trans h9
    have g11 := (hkeep 11 (by decide)).trans h11
    have g14 := (hkeep 14 (by decide)).trans h14
    have HRd := Lib.hid hRd
    have HRl := Lib.hid hRl
    have HMo := Lib.hid hMo
    have HKf := Lib.hid hkf
    have hmol := hMo.lts
    have hsz := hkf.size
    have hLgX := (HL6.out.kf HKf.out HNl.out)
    have HLgX := Lib.hid hLgX
    clear hFr hkeep hRd hRl hMo hkf h7 h9 h11 h12 h14 h82 h83 h84 HRL2 HMoL HKL hLgX
    go_wp2_with fail
    refine (begin7 l t0 m0' dd gg (1 + 1000 * k) Y wX HRd.out HLgX.out).mono ?_
    rintro e v1 ⟨t', m', rfl, ht', hm', hRd', hb⟩
    have HRd1 := Lib.hid hRd'
    have HM1 := Lib.hid (HMo.out.keep hb)
    have HK1 := Lib.hid (HKf.out.more hb)
    clear hRd' hb HRd
    go_wp2_with fail
    refine (is_any mo tk yb nd t' m' dd gg n B0 P0 M' DA NB N (1 + 1000 * k) Y T X V vr vm vg R MS i hiR (by omega) g HGI.out HG.out v1 (HCFx.out v1 HK1.out) HRd1.out L LM HL.out.symm HLM.out.symm HM1.out HRl.out.t HRl.out.v (by omega) (fun a ha => by
        simp only [List.mem_cons, List.not_mem_nil, or_false] at ha
        rcases ha with rfl | rfl | rfl | rfl
        · omega
        · omega
        · exact HNo.out _ (by simp)
        · exact HNo.out _ (by simp))).mono ?_
    rintro e v2 ⟨rfl, hkk2⟩
    have HE : Hid (Below w.heap.size w v2) := Lib.hid (HBx.out v2 (HK1.out.tx hkk2 (by omega) (by omega)))
    clear hkk2
    go_wp2_with fail
    refine bodyPost_ret (v := .bool true) ((results_tmp rfl _ _ _).trans (congrArg (fun x => Result.ok x v2) ((HFr.out.eval _ 6 (by decide)).trans (updA_same _ _ _)))) (fa5 _) ⟨rfl, HE.out⟩
end Go.Proofs.YtnfadmifdncjoaaGreat
