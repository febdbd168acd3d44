import Derived.Test.YtkkdbckaolhmnaaGreatQ10
/- GroupApart: the walk. -/
namespace Go.Proofs.YtkkdbckaolhmnaaGreat
set_option linter.unusedSimpArgs false
set_option linter.unusedVariables false
open Go.RowKit Go.Maps

set_option maxHeartbeats 80000000 in
set_option maxRecDepth 200000 in
theorem apart_walk (m : Int) (m0 : 0 ≤ m) (m1 : m < 256) (H : Nat → Nat → Int) (hH : Cf.Hok H) (tv : Value) (ts : List Int) (hts : ∀ x ∈ ts, 0 ≤ x ∧ x < 256) (lab nn mk : Int) (l0 : 0 ≤ lab) (l1 : lab < 256) (n0 : 0 ≤ nn) (n1 : nn < 256) (k0 : 0 ≤ mk) (k1 : mk < 256) (w : World) (htv : Cf.U8s w tv ts) (hl : ts.length ≤ maxLen) :
    Calls Tryz.prog 4 #[Cf.sizeVal m H tv, .int .u8 lab, .int .u8 nn, .int .u8 mk] w fun e w' => e = .returned (.bool true) ∧ Below w.heap.size w w' := by
  obtain ⟨M, hM⟩ : ∃ M, 2 + m.toNat % 4 = M := ⟨_, rfl⟩
  have hM4 : M = 2 ∨ M = 3 ∨ M = 4 ∨ M = 5 := by omega
  have hP := Lib.hid (fun W (h : Cf.U8s W tv ts) => Cf.sizeconf_any m m0 m1 H hH tv ts hts W h hl M hM)
  have HLEN := Lib.hid (Cf.sizeRs_len M hM4 H)
  have HSM := Lib.hid (Cf.size_small M hM4 H hH)
  have HTV := Lib.hid htv
  have HA := Lib.hid (fun W => awake_any W)
  have hc : (w.alloc (.cells #[.int .u8 m, .int .u8 (H 0 0), .int .u8 (H 0 1), .int .u8 (H 0 2), .int .u8 (H 0 3), .int .u8 (H 0 4), .int .u8 (H 1 0), .int .u8 (H 1 1), .int .u8 (H 1 2), .int .u8 (H 1 3), .int .u8 (H 1 4), .int .u8 (H 2 0), .int .u8 (H 2 1), .int .u8 (H 2 2), .int .u8 (H 2 3), .int .u8 (H 2 4), .int .u8 (H 3 0), .int .u8 (H 3 1), .int .u8 (H 3 2), .int .u8 (H 3 3), .int .u8 (H 3 4), .int .u8 (H 4 0), .int .u8 (H 4 1), .int .u8 (H 4 2), .int .u8 (H 4 3), .int .u8 (H 4 4), tv] 26)).rangeAt w.heap.size 0 [.int .u8 m, .int .u8 (H 0 0), .int .u8 (H 0 1), .int .u8 (H 0 2), .int .u8 (H 0 3), .int .u8 (H 0 4), .int .u8 (H 1 0), .int .u8 (H 1 1), .int .u8 (H 1 2), .int .u8 (H 1 3), .int .u8 (H 1 4), .int .u8 (H 2 0), .int .u8 (H 2 1), .int .u8 (H 2 2), .int .u8 (H 2 3), .int .u8 (H 2 4), .int .u8 (H 3 0), .int .u8 (H 3 1), .int .u8 (H 3 2), .int .u8 (H 3 3), .int .u8 (H 3 4), .int .u8 (H 4 0), .int .u8 (H 4 1), .int .u8 (H 4 2), .int .u8 (H 4 3), .int .u8 (H 4 4), tv] := by
    intro j u hj
    have := Cf.cells_new w [.int .u8 m, .int .u8 (H 0 0), .int .u8 (H 0 1), .int .u8 (H 0 2), .int .u8 (H 0 3), .int .u8 (H 0 4), .int .u8 (H 1 0), .int .u8 (H 1 1), .int .u8 (H 1 2), .int .u8 (H 1 3), .int .u8 (H 1 4), .int .u8 (H 2 0), .int .u8 (H 2 1), .int .u8 (H 2 2), .int .u8 (H 2 3), .int .u8 (H 2 4), .int .u8 (H 3 0), .int .u8 (H 3 1), .int .u8 (H 3 2), .int .u8 (H 3 3), .int .u8 (H 3 4), .int .u8 (H 4 0), .int .u8 (H 4 1), .int .u8 (H 4 2), .int .u8 (H 4 3), .int .u8 (H 4 4), tv] 26 j u hj
    rw [Addr.add_mid] at this
    exact this
  have hq : (Tryz.prog.underlying 26).map (·.isRow) = some true := by kernel_rfl
  obtain ⟨d, hu, hd⟩ := Option.map_eq_some_iff.1 hq
  have hi : (Tryz.prog.info? 26).map (·.size) = some ([.int .u8 m, .int .u8 (H 0 0), .int .u8 (H 0 1), .int .u8 (H 0 2), .int .u8 (H 0 3), .int .u8 (H 0 4), .int .u8 (H 1 0), .int .u8 (H 1 1), .int .u8 (H 1 2), .int .u8 (H 1 3), .int .u8 (H 1 4), .int .u8 (H 2 0), .int .u8 (H 2 1), .int .u8 (H 2 2), .int .u8 (H 2 3), .int .u8 (H 2 4), .int .u8 (H 3 0), .int .u8 (H 3 1), .int .u8 (H 3 2), .int .u8 (H 3 3), .int .u8 (H 3 4), .int .u8 (H 4 0), .int .u8 (H 4 1), .int .u8 (H 4 2), .int .u8 (H 4 3), .int .u8 (H 4 4), tv] : List Value).length := by kernel_rfl
  have HC := Lib.hid hc
  have HU := Lib.hid hu
  have HD := Lib.hid hd
  have HI := Lib.hid hi
  unfold Cf.sizeVal at hP ⊢
  clear hc hu hd hi hq htv hts hH hM 
  go_enter Tryz.func4, Tryz.ntmps4
  go_wp2_with fail
  obtain ⟨W, hW⟩ : ∃ z, w.alloc (.cells #[.int .u8 m, .int .u8 (H 0 0), .int .u8 (H 0 1), .int .u8 (H 0 2), .int .u8 (H 0 3), .int .u8 (H 0 4), .int .u8 (H 1 0), .int .u8 (H 1 1), .int .u8 (H 1 2), .int .u8 (H 1 3), .int .u8 (H 1 4), .int .u8 (H 2 0), .int .u8 (H 2 1), .int .u8 (H 2 2), .int .u8 (H 2 3), .int .u8 (H 2 4), .int .u8 (H 3 0), .int .u8 (H 3 1), .int .u8 (H 3 2), .int .u8 (H 3 3), .int .u8 (H 3 4), .int .u8 (H 4 0), .int .u8 (H 4 1), .int .u8 (H 4 2), .int .u8 (H 4 3), .int .u8 (H 4 4), tv] 26) = z := ⟨_, rfl⟩
  rw [hW] at HC ⊢
  have hbW : Below w.heap.size w W := by rw [← hW]; exact (Below.refl _ _).alloc (Nat.le_refl _) _
  have hlW : w.heap.size < W.heap.size := by rw [← hW]; simp
  obtain ⟨sv0, hsv⟩ : ∃ x : Value, .agg #[.int .u8 m, .int .u8 (H 0 0), .int .u8 (H 0 1), .int .u8 (H 0 2), .int .u8 (H 0 3), .int .u8 (H 0 4), .int .u8 (H 1 0), .int .u8 (H 1 1), .int .u8 (H 1 2), .int .u8 (H 1 3), .int .u8 (H 1 4), .int .u8 (H 2 0), .int .u8 (H 2 1), .int .u8 (H 2 2), .int .u8 (H 2 3), .int .u8 (H 2 4), .int .u8 (H 3 0), .int .u8 (H 3 1), .int .u8 (H 3 2), .int .u8 (H 3 3), .int .u8 (H 3 4), .int .u8 (H 4 0), .int .u8 (H 4 1), .int .u8 (H 4 2), .int .u8 (H 4 3), .int .u8 (H 4 4), tv] = x := ⟨_, rfl⟩
  rw [hsv]
  clear hW
  refine (HA.out W).mono ?_
  rintro e w1 ⟨rfl, hb1⟩
  have HB1 := Lib.hid (hbW.trans (hb1.mono hbW.size))
  have HC1 : Hid (w1.rangeAt w.heap.size 0 [.int .u8 m, .int .u8 (H 0 0), .int .u8 (H 0 1), .int .u8 (H 0 2), .int .u8 (H 0 3), .int .u8 (H 0 4), .int .u8 (H 1 0), .int .u8 (H 1 1), .int .u8 (H 1 2), .int .u8 (H 1 3), .int .u8 (H 1 4), .int .u8 (H 2 0), .int .u8 (H 2 1), .int .u8 (H 2 2), .int .u8 (H 2 3), .int .u8 (H 2 4), .int .u8 (H 3 0), .int .u8 (H 3 1), .int .u8 (H 3 2), .int .u8 (H 3 3), .int .u8 (H 3 4), .int .u8 (H 4 0), .int .u8 (H 4 1), .int .u8 (H 4 2), .int .u8 (H 4 3), .int .u8 (H 4 4), tv]) := fun j u hj => (hb1.cell (p := ⟨w.heap.size, 0 + j, none⟩) hlW).trans (HC.out j u hj)
  clear hb1 hbW hlW HC hsv HA
  go_wp2_with (refine wpList_load_mid rfl 26 _ rfl w.heap.size 0 rfl [.int .u8 m, .int .u8 (H 0 0), .int .u8 (H 0 1), .int .u8 (H 0 2), .int .u8 (H 0 3), .int .u8 (H 0 4), .int .u8 (H 1 0), .int .u8 (H 1 1), .int .u8 (H 1 2), .int .u8 (H 1 3), .int .u8 (H 1 4), .int .u8 (H 2 0), .int .u8 (H 2 1), .int .u8 (H 2 2), .int .u8 (H 2 3), .int .u8 (H 2 4), .int .u8 (H 3 0), .int .u8 (H 3 1), .int .u8 (H 3 2), .int .u8 (H 3 3), .int .u8 (H 3 4), .int .u8 (H 4 0), .int .u8 (H 4 1), .int .u8 (H 4 2), .int .u8 (H 4 3), .int .u8 (H 4 4), tv] d HC1.out HU.out HD.out HI.out ?_)
  refine (hP.out w1 (HTV.out.below HB1.out)).mono ?_
  rintro e w2 ⟨n, vr, vm, vg, rfl, hn, hb2, hCF⟩
  have HB2 := Lib.hid (HB1.out.trans (hb2.mono HB1.out.size))
  have HCF := Lib.hid hCF
  obtain ⟨R, hR⟩ : ∃ x, Cf.sizeRs M H = x := ⟨_, rfl⟩
  obtain ⟨MS, hMS⟩ : ∃ x, Cf.sizeMs M ts = x := ⟨_, rfl⟩
  rw [hR] at HCF HLEN HSM
  rw [hMS] at HCF
  have hR5 : 2 ≤ R.length ∧ R.length ≤ 5 := by rw [HLEN.out]; omega
  clear hP hb2 hCF HC1 HU HD HI HTV hn hR hMS HLEN hM4 HB1
  have hT := Cf.layF_range R HSM.out R.length (Nat.le_refl _)
  rw [List.take_length] at hT
  obtain ⟨N, hN⟩ := Int.eq_ofNat_of_zero_le (show 0 ≤ (Cf.layF R).2 by omega)
  have hN0 : 32 ≤ N := by omega
  have hN1 : N ≤ 65536 := by omega
  have HN := Lib.hid hN
  clear hT hN
  go_wp2_with fail
  refine (fresh_any n vr vm vg R MS HSM.out (by omega) (by omega) N HN.out hN0 hN1 w2 HCF.out).mono ?_
  rintro e w3 ⟨t, mm, dd, gg, l, Y0, rfl, hFr, hll, hln, hLg, hRd, hFK, hb3⟩
  have HR3 := Lib.hid hRd
  have HL3 := Lib.hid hLg
  have HFK := Lib.hid hFK
  have HNl := Lib.hid (show l ∉ [dd, gg] from fun h => hln (by simp only [List.mem_cons, List.not_mem_nil, or_false] at h ⊢; omega))
  have hdd : w2.heap.size ≤ dd := hFr.2.2.1
  have hgg : w2.heap.size ≤ gg := hFr.2.2.2
  have hw2 : w.heap.size ≤ w2.heap.size := HB2.out.size
  have hw3 := hb3.size
  have HB3 := Lib.hid (HB2.out.trans (hb3.mono HB2.out.size))
  have HCFx : Hid (∀ W, Kf w3 W [dd, gg] → Cf.CF n W vr vm vg R MS) := fun W hk => HCF.out.below (hb3.trans (hk.bel hdd hgg hw3))
  have HBx : Hid (∀ W, Kf w3 W [dd, gg] → Below w.heap.size w W) := fun W hk => HB3.out.trans (hk.bel (Nat.le_trans hw2 hdd) (Nat.le_trans hw2 hgg) HB3.out.size)
  obtain ⟨i, hi⟩ := Int.eq_ofNat_of_zero_le (show 0 ≤ lab % (R.length : Int) from Int.emod_nonneg _ (by omega))
  have hiR : i < R.length := by have := Int.emod_lt_of_pos lab (show (0 : Int) < R.length by omega); omega
  obtain ⟨g, hgi⟩ : ∃ g, (Cf.layF R).1[i]'(by rw [Cf.lay_len]; exact hiR) = g := ⟨_, rfl⟩
  obtain ⟨B0, P0, M', DA, NB, hg, hbl, hnd⟩ := geo_gg R HSM.out (by omega) N HN.out i hiR g hgi
  have HGI := Lib.hid hgi
  have HG := Lib.hid hg
  have hF0 := hFK.done i hiR hiR
  rw [hgi] at hF0
  have HF0 := Lib.hid (hF0 B0 P0 M' DA NB hg)
  have hne0 : ¬ ((R.length : Int) = 0) := by omega
  have hmod : Int.tmod lab (R.length : Int) = i := by rw [Int.tmod_eq_emod_of_nonneg l0]; exact hi
  have hR64 : R.length ≤ 64 := by omega
  obtain ⟨nN, rfl⟩ := Int.eq_ofNat_of_zero_le n0
  have hnN : nN < 256 := by omega
  have hl3 := hLg.lt
  clear hFr hll hln hLg hRd hFK hb3 HB2 hgi hg hi hF0 hl HB3 hw3
  go_wp2_with fail
  refine (Cf.clen_any n vr vm vg R MS w3 (HCFx.out w3 (Kf.refl _ _)) hR64).mono ?_
  rintro e wz ⟨rfl, hwz⟩
  rw [hwz]
  clear hwz
  go_wp2_with fail
  refine (image7 t mm dd gg 7000 Y0 w3 HR3.out).mono ?_
  rintro e w4 ⟨b1, c1, rfl, hb1, hI1, hb⟩
  have HI4 := Lib.hid hI1
  have hlt3 := HR3.out.lts
  have HN1 := Lib.hid (show b1 ∉ [dd, gg] from by simp; omega)
  have hbl1 := hI1.lt
  have HR4 := Lib.hid (HR3.out.keep hb)
  have HK4 := Lib.hid (Kf.of_below hb [dd, gg])
  have HL4 := Lib.hid (HL3.out.keep hb)
  have h34 := hb.size
  have hl4 := HL4.out.lt
  clear hI1 hb HR3 HL3 hne0 hmod hlt3 hb1
  -- what a round of the first loop leaves
  obtain ⟨C, hC0, hCs, hCm⟩ : ∃ C : Nat → Nat, (∀ k, 3 ≤ C k ∧ C k ≤ M') ∧ (∀ k, C (k + 1) = if 0 < mk then min (C k + 1) M' else C k) ∧ ∀ k, C k = if 0 < mk then min (3 + k) M' else 3 := by
    have hm4 := HG.out.m4
    refine ⟨fun k => if 0 < mk then min (3 + k) M' else 3, fun k => ?_, fun k => ?_, fun k => rfl⟩
    · dsimp only
      split <;> omega
    · dsimp only
      split <;> omega
  have HC0 := Lib.hid hC0
  have HCs := Lib.hid hCs
  have HCm := Lib.hid hCm
  clear hC0 hCs hCm
  go_wp2_with fail
  go_loopw [51] (fun y wr => ∃ k : Nat, k ≤ nN ∧ y = .int .u8 k ∧ (∃ t' m' Y, Rd wr t' m' dd gg N 0 Y (7000 + 700 * k) ∧ (∀ j, j < 512 → bt Y B0 j = decide (j < min k NB)) ∧ Tab P0 M' Y (VF (C k)) ∧ ∀ x : Nat, x < B0 ∨ DA + NB ≤ x → Y x = Y0 x) ∧ Kf w4 wr [dd, gg]) (fun y _ => nN - (Go.RowKit.intOf y).toNat)
  case atStart =>
    refine ⟨0, Nat.zero_le _, rfl, ⟨t, mm, Y0, HR4.out, fun j hj => ?_, ?_, fun _ _ => rfl⟩, Kf.refl _ _⟩
    · rw [HF0.out.2 j hj, eq_comm]; exact decide_eq_false (by omega)
    · have := HCm.out 0
      have hm4 := HG.out.m4
      have e3 : C 0 = 3 := by rw [this]; split <;> omega
      rw [e3]
      exact HF0.out.1
  case round =>
    obtain ⟨k, hk, rfl, ⟨ta, ma, Y, hRd, hbt, hTb, hYf⟩, hkf⟩ := hrel
    have HRd := Lib.hid hRd
    have HBt := Lib.hid hbt
    have HTb := Lib.hid hTb
    have HYf := Lib.hid hYf
    have HKf := Lib.hid hkf
    have hsz := hkf.size
    have hKx := Lib.hid (HK4.out.join hkf (fun a ha => .inl ha))
    clear hRd hbt hTb hYf hkf
    by_cases hlt : k < nN
    · have hk0 : (0 : Int) ≤ k := by omega
      have hk5 : (k : Int) < nN := by omega
      have hk6 : (nN : Int) < 256 := by omega
      have HBeg := Lib.hid (begin7 l ta ma dd gg (7000 + 700 * k) Y wr HRd.out (HL4.out.kf HKf.out HNl.out))
      go_wp2_with fail
      refine HBeg.out.mono ?_
      rintro e u1 ⟨t', m', rfl, ht', hm', hRd', hb⟩
      have HRd1 := Lib.hid hRd'
      have HK1 := Lib.hid (HKf.out.more hb)
      have HX1 := Lib.hid (hKx.out.more hb)
      have hle1 : w4.heap.size ≤ t' := Nat.le_trans hsz ht'
      have hle2 : w4.heap.size ≤ m' := Nat.le_trans hsz hm'
      clear hRd' hb HBeg HRd ht' hm' hKx
      have HOp := Lib.hid (gopen_in t' m' dd gg n B0 P0 M' DA NB N (7000 + 700 * k) Y vr vm vg R MS i hiR g HGI.out HG.out u1 (HCFx.out u1 HX1.out) HRd1.out)
      go_wp2_with fail
      refine HOp.out.mono ?_
      rintro e u2 ⟨q, p, rfl, hq, hp, hGr, hb⟩
      have HG2 := Lib.hid hGr
      have HK2 := Lib.hid (HK1.out.more hb)
      clear hGr hb HOp HRd1 HK1 HX1 hq hp
      have HTk := Lib.hid (take_step q p t' m' dd gg i B0 P0 M' DA NB N (7000 + 700 * k) g Y (min k NB) (by omega) HBt.out (by omega) (by omega) HG.out u2 HG2.out)
      go_wp2_with fail
      refine HTk.out.mono ?_
      rintro e u3 ⟨v, E, Y1, rfl, hGr, hb1, hf1, hkk⟩
      have HG3 := Lib.hid hGr
      have HK3 := Lib.hid (HK2.out.tx hkk hle1 hle2)
      have hm1 : min (min k NB + 1) NB = min (k + 1) NB := by omega
      rw [hm1] at hb1
      have HBt1 := Lib.hid hb1
      have hbp := HG.out.bp
      have hpd := HG.out.pd
      have hm4 := HG.out.m4
      have HTb1 := Lib.hid (HTb.out.congr (Y' := Y1) (fun x h1 h2 => hf1 x (by omega)))
      have HYf1 : Hid (∀ x : Nat, x < B0 ∨ DA + NB ≤ x → Y1 x = Y0 x) := fun x hx => (hf1 x (by omega)).trans (HYf.out x hx)
      clear hGr hkk HTk HG2 HK2 hm1 hb1 hf1
      by_cases hmk : 0 < mk
      · have HMk := Lib.hid (make_step q p t' m' dd gg i B0 P0 M' DA NB N (7000 + 700 * k + 201) g Y1 (C k) (by have := HC0.out k; omega) (HC0.out k).2 HTb1.out (by omega) (by omega) HG.out u3 HG3.out)
        have hcs := HCs.out k
        rw [if_pos hmk] at hcs
        rw [← hcs] at HMk
        go_wp2_with fail
        refine HMk.out.mono ?_
        rintro e u4 ⟨v', E', Y2, rfl, hGr, hTb2, hf2, hkk⟩
        have HG4 := Lib.hid hGr
        have HK4' := Lib.hid (HK3.out.tx hkk hle1 hle2)
        have HTb2 := Lib.hid hTb2
        have HBt2 : Hid (∀ j, j < 512 → bt Y2 B0 j = decide (j < min (k + 1) NB)) := fun j hj => by
          rw [← HBt1.out j hj]
          unfold bt
          rw [hf2 _ (by omega)]
        have HYf2 : Hid (∀ x : Nat, x < B0 ∨ DA + NB ≤ x → Y2 x = Y0 x) := fun x hx => (hf2 x (by omega)).trans (HYf1.out x hx)
        clear hGr hkk hTb2 hf2 HMk HG3 HK3 hcs
        have HCm := Lib.hid (commit7 t' m' dd gg (7000 + 700 * k + 201 + 200) Y2 (by omega) (by omega) u4 HG4.out.rd)
        go_wp2_with fail
        refine HCm.out.mono ?_
        rintro e u5 ⟨rfl, hRd', hkk⟩
        have HR5 := Lib.hid hRd'
        have HK5 := Lib.hid (HK4'.out.tx hkk hle1 hle2)
        clear hRd' hkk HCm HG4 HK4'
        go_wp2_with fail
        go_roundw
        case rel => exact ⟨k + 1, by omega, by go_num, ⟨t', m', Y2, HR5.out.mono (by omega), HBt2.out, HTb2.out, HYf2.out⟩, HK5.out⟩
        case measure => simp [Go.RowKit.intOf]; omega
      · have hcs := HCs.out k
        rw [if_neg hmk] at hcs
        rw [← hcs] at HTb1
        clear hcs
        have HCm := Lib.hid (commit7 t' m' dd gg (7000 + 700 * k + 201) Y1 (by omega) (by omega) u3 HG3.out.rd)
        go_wp2_with fail
        refine HCm.out.mono ?_
        rintro e u5 ⟨rfl, hRd', hkk⟩
        have HR5 := Lib.hid hRd'
        have HK5 := Lib.hid (HK3.out.tx hkk hle1 hle2)
        clear hRd' hkk HCm HG3 HK3
        go_wp2_with fail
        go_roundw
        case rel => exact ⟨k + 1, by omega, by go_num, ⟨t', m', Y1, HR5.out.mono (by omega), HBt1.out, HTb1.out, HYf1.out⟩, HK5.out⟩
        case measure => simp [Go.RowKit.intOf]; omega
    · obtain rfl : k = nN := by omega
      go_wp2_with fail
      refine (image7 ta ma dd gg (7000 + 700 * k) Y wr HRd.out).mono ?_
      rintro e x1 ⟨b2, c2, rfl, hb2, hI2, hb⟩
      have HK5 := Lib.hid (HKf.out.more hb)
      have HX5 := Lib.hid (hKx.out.more hb)
      have HR5 := Lib.hid (HRd.out.keep hb)
      obtain ⟨F1, hF1, hY1⟩ := HI4.out.kf HK5.out HN1.out
      obtain ⟨F2, hF2, hY2⟩ := hI2
      have HF1 := Lib.hid hF1
      have HF2 := Lib.hid hF2
      have HYs : Hid (∀ x, 32 ≤ x → x < N → (x < B0 ∨ DA + NB ≤ x) → ∀ j, j < 64 → F1 (x * 64 + j) = F2 (x * 64 + j)) := fun x h1 h2 h3 j hj => by
        rw [hY1 x h1 h2 j hj, hY2 x h1 h2 j hj, HYf.out x h3]
      have hb1s := hF1.lt
      have hb2s := hF2.lt
      have hlR : l < x1.heap.size := Nat.lt_of_lt_of_le hl4 HK5.out.size
      clear hb2 hb hF1 hF2 hY1 hY2 HRd HKf hKx
      go_wp2_with fail
      go_loopw [75] (fun y wr => ∃ b : Nat, b ≤ N ∧ y = .int .i64 b ∧ Below x1.heap.size x1 wr) (fun y _ => N - (Go.RowKit.intOf y).toNat)
      case atStart => exact ⟨0, Nat.zero_le _, rfl, Below.refl _ _⟩
      case round =>
        obtain ⟨b, hb, rfl, hbl⟩ := hrel
        obtain ⟨wY, rfl⟩ : ∃ x, x = wr := ⟨wr, rfl⟩
        have HBl := Lib.hid hbl
        clear hbl
        by_cases hbN : b < N
        · have hbN0 : (0 : Int) ≤ b := by omega
          have hbN1 : (b : Int) < N := by omega
          have hN6 : (N : Int) ≤ 65536 := by omega
          have HGr := Lib.hid (Cf.group_any n vr vm vg R MS HSM.out (by omega) hR64 b (by omega) (by omega) wY (HCFx.out wY (HX5.out.more HBl.out)))
          go_wp2_with fail
          refine HGr.out.mono ?_
          rintro e x2 ⟨hb2, hpost⟩
          have HB2' := Lib.hid (HBl.out.trans (hb2.mono HBl.out.size))
          have HFa := Lib.hid (HF1.out.below HB2'.out hb1s)
          have HFb := Lib.hid (HF2.out.below HB2'.out hb2s)
          clear hb2 HBl HGr
          rcases hpost with ⟨i', hi', -, hin, rfl⟩ | ⟨-, rfl⟩
          · by_cases hii : i' = i
            · subst hii
              generalize max 0 _ = zz
              clear hin
              go_upto_region 21 with fail
              refine wp_region_held (S := fun W => Fl W b1 (N * 64) F1 ∧ Fl W b2 (N * 64) F2) (by kernel_rfl) ?_
              change wpAnyH _ _ _ _ _ _ _ _ (World.drew _)
              have hS0 : (fun W => Fl W b1 (N * 64) F1 ∧ Fl W b2 (N * 64) F2) x2.drew := ⟨HFa.out.below (Below.refl _ _).drew HFa.out.lt, HFb.out.below (Below.refl _ _).drew HFb.out.lt⟩
              have HB3 := Lib.hid (HB2'.out.trans ((Below.refl x2.heap.size x2).drew.mono HB2'.out.size))
              obtain ⟨x3, hx3⟩ : ∃ x, World.drew x2 = x := ⟨_, rfl⟩
              rw [hx3] at hS0 HB3 ⊢
              clear hx3
              clear HB2' HFa HFb
              refine wpAnyH_take (i := 0) (v := ?_) rfl (by kernel_rfl) (by kernel_rfl) (by kernel_rfl) (fun _ _ _ h => h) (Or.inl ⟨by kernel_rfl, ?_⟩) hS0 ?_
              rotate_left 1
              · intro W hW
                go_simp
                try with_reducible rfl
              simp only [Act.put, List.getElem_toArray, List.getElem_cons_zero, List.getElem_cons_succ, List.setIfInBounds_toArray, List.set_cons_zero, List.set_cons_succ]
              refine wpAnyH_take (i := 1) (v := ?_) rfl (by kernel_rfl) (by kernel_rfl) (by kernel_rfl) (fun _ _ _ h => h) (Or.inl ⟨by kernel_rfl, ?_⟩) hS0 ?_
              rotate_left 1
              · intro W hW
                go_simp
                try with_reducible rfl
              simp only [Act.put, List.getElem_toArray, List.getElem_cons_zero, List.getElem_cons_succ, List.setIfInBounds_toArray, List.set_cons_zero, List.set_cons_succ]
              refine wpAnyH_take (i := 2) (v := ?_) rfl (by kernel_rfl) (by kernel_rfl) (by kernel_rfl) (fun _ _ _ h => h) (Or.inl ⟨by kernel_rfl, ?_⟩) hS0 ?_
              rotate_left 1
              · intro W hW
                go_simp
                try with_reducible rfl
              simp only [Act.put, List.getElem_toArray, List.getElem_cons_zero, List.getElem_cons_succ, List.setIfInBounds_toArray, List.set_cons_zero, List.set_cons_succ]
              refine wpAnyH_take (i := 3) (v := ?_) rfl (by kernel_rfl) (by kernel_rfl) (by kernel_rfl) (fun _ _ _ h => h) (Or.inl ⟨by kernel_rfl, ?_⟩) hS0 ?_
              rotate_left 1
              · intro W hW
                go_simp
                try with_reducible rfl
              simp only [Act.put, List.getElem_toArray, List.getElem_cons_zero, List.getElem_cons_succ, List.setIfInBounds_toArray, List.set_cons_zero, List.set_cons_succ]
              refine wpAnyH_take (i := 4) (v := ?_) rfl (by kernel_rfl) (by kernel_rfl) (by kernel_rfl) (fun _ _ _ h => h) (Or.inl ⟨by kernel_rfl, ?_⟩) hS0 ?_
              rotate_left 1
              · intro W hW
                go_simp
                try with_reducible rfl
              simp only [Act.put, List.getElem_toArray, List.getElem_cons_zero, List.getElem_cons_succ, List.setIfInBounds_toArray, List.set_cons_zero, List.set_cons_succ]
              refine wpAnyH_take (i := 5) (v := ?_) rfl (by kernel_rfl) (by kernel_rfl) (by kernel_rfl) (fun _ _ _ h => h) (Or.inl ⟨by kernel_rfl, ?_⟩) hS0 ?_
              rotate_left 1
              · intro W hW
                go_simp
                try with_reducible rfl
              simp only [Act.put, List.getElem_toArray, List.getElem_cons_zero, List.getElem_cons_succ, List.setIfInBounds_toArray, List.set_cons_zero, List.set_cons_succ]
              refine wpAnyH_take (i := 6) (v := ?_) rfl (by kernel_rfl) (by kernel_rfl) (by kernel_rfl) (fun _ _ _ h => h) (Or.inl ⟨by kernel_rfl, ?_⟩) hS0 ?_
              rotate_left 1
              · intro W hW
                go_simp
                try with_reducible rfl
              simp only [Act.put, List.getElem_toArray, List.getElem_cons_zero, List.getElem_cons_succ, List.setIfInBounds_toArray, List.set_cons_zero, List.set_cons_succ]
              refine wpAnyH_take (i := 7) (v := undef) rfl (by kernel_rfl) (by kernel_rfl) (by kernel_rfl) (fun _ _ _ h => h) (Or.inr ⟨by kernel_rfl, rfl⟩) hS0 ?_
              simp only [Act.put, List.getElem_toArray, List.getElem_cons_zero, List.getElem_cons_succ, List.setIfInBounds_toArray, List.set_cons_zero, List.set_cons_succ]
              refine wpAnyH_take (i := 8) (v := undef) rfl (by kernel_rfl) (by kernel_rfl) (by kernel_rfl) (fun _ _ _ h => h) (Or.inr ⟨by kernel_rfl, rfl⟩) hS0 ?_
              simp only [Act.put, List.getElem_toArray, List.getElem_cons_zero, List.getElem_cons_succ, List.setIfInBounds_toArray, List.set_cons_zero, List.set_cons_succ]
              refine wpAnyH_take (i := 9) (v := undef) rfl (by kernel_rfl) (by kernel_rfl) (by kernel_rfl) (fun _ _ _ h => h) (Or.inr ⟨by kernel_rfl, rfl⟩) hS0 ?_
              simp only [Act.put, List.getElem_toArray, List.getElem_cons_zero, List.getElem_cons_succ, List.setIfInBounds_toArray, List.set_cons_zero, List.set_cons_succ]
              refine wpAnyH_take (i := 10) (v := undef) rfl (by kernel_rfl) (by kernel_rfl) (by kernel_rfl) (fun _ _ _ h => h) (Or.inr ⟨by kernel_rfl, rfl⟩) hS0 ?_
              simp only [Act.put, List.getElem_toArray, List.getElem_cons_zero, List.getElem_cons_succ, List.setIfInBounds_toArray, List.set_cons_zero, List.set_cons_succ]
              refine wpAnyH_take (i := 11) (v := undef) rfl (by kernel_rfl) (by kernel_rfl) (by kernel_rfl) (fun _ _ _ h => h) (Or.inr ⟨by kernel_rfl, rfl⟩) hS0 ?_
              simp only [Act.put, List.getElem_toArray, List.getElem_cons_zero, List.getElem_cons_succ, List.setIfInBounds_toArray, List.set_cons_zero, List.set_cons_succ]
              refine wpAnyH_take (i := 12) (v := undef) rfl (by kernel_rfl) (by kernel_rfl) (by kernel_rfl) (fun _ _ _ h => h) (Or.inr ⟨by kernel_rfl, rfl⟩) hS0 ?_
              simp only [Act.put, List.getElem_toArray, List.getElem_cons_zero, List.getElem_cons_succ, List.setIfInBounds_toArray, List.set_cons_zero, List.set_cons_succ]
              refine wpAnyH_take (i := 13) (v := undef) rfl (by kernel_rfl) (by kernel_rfl) (by kernel_rfl) (fun _ _ _ h => h) (Or.inr ⟨by kernel_rfl, rfl⟩) hS0 ?_
              simp only [Act.put, List.getElem_toArray, List.getElem_cons_zero, List.getElem_cons_succ, List.setIfInBounds_toArray, List.set_cons_zero, List.set_cons_succ]
              refine wpAnyH_take (i := 14) (v := undef) rfl (by kernel_rfl) (by kernel_rfl) (by kernel_rfl) (fun _ _ _ h => h) (Or.inr ⟨by kernel_rfl, rfl⟩) hS0 ?_
              simp only [Act.put, List.getElem_toArray, List.getElem_cons_zero, List.getElem_cons_succ, List.setIfInBounds_toArray, List.set_cons_zero, List.set_cons_succ]
              refine wpAnyH_take (i := 15) (v := undef) rfl (by kernel_rfl) (by kernel_rfl) (by kernel_rfl) (fun _ _ _ h => h) (Or.inr ⟨by kernel_rfl, rfl⟩) hS0 ?_
              simp only [Act.put, List.getElem_toArray, List.getElem_cons_zero, List.getElem_cons_succ, List.setIfInBounds_toArray, List.set_cons_zero, List.set_cons_succ]
              refine wpAnyH_take (i := 16) (v := ?_) rfl (by kernel_rfl) (by kernel_rfl) (by kernel_rfl) (fun _ _ _ h => h) (Or.inl ⟨by kernel_rfl, ?_⟩) hS0 ?_
              rotate_left 1
              · intro W hW
                go_simp
                try with_reducible rfl
              simp only [Act.put, List.getElem_toArray, List.getElem_cons_zero, List.getElem_cons_succ, List.setIfInBounds_toArray, List.set_cons_zero, List.set_cons_succ]
              refine wpAnyH_done (by kernel_rfl) ?_ _
              clear hS0
              go_wp2_with fail
              go_roundw
              case rel => exact ⟨b + 1, by omega, by go_num, HB3.out⟩
              case measure => simp [Go.RowKit.intOf]; omega
            · obtain ⟨g1, hg1i⟩ : ∃ g1, (Cf.layF R).1[i']'(by rw [Cf.lay_len]; exact hi') = g1 := ⟨_, rfl⟩
              obtain ⟨B1, P1, M1, D1, N1, hg1, -, -⟩ := geo_gg R HSM.out hR64 N HN.out i' hi' g1 hg1i
              have hin' : Cf.inG g1 b := by rw [← hg1i]; exact hin
              obtain ⟨p1, p2⟩ := hin'
              have hap : b < B0 ∨ DA + NB ≤ b := by
                have hf : g1.fin = ((D1 + N1 : Nat) : Int) := by
                  have := hg1.da
                  have := hg1.bl
                  unfold Cf.Ge.fin
                  omega
                have hbs := hg1.base
                have q0 : GG ((Cf.layF R).1[i]'(by rw [Cf.lay_len]; exact hiR)) B0 P0 M' DA NB N := by rw [HGI.out]; exact HG.out
                have q1 : GG ((Cf.layF R).1[i']'(by rw [Cf.lay_len]; exact hi')) B1 P1 M1 D1 N1 N := by rw [hg1i]; exact hg1
                rcases Nat.lt_or_gt_of_ne hii with c | c
                · have := grp_lt R HSM.out i' i c hiR B1 P1 M1 D1 N1 B0 P0 M' DA NB q1 q0
                  omega
                · have := grp_lt R HSM.out i i' c hi' B0 P0 M' DA NB B1 P1 M1 D1 N1 q0 q1
                  omega
              have hb32 : 32 ≤ b := by
                have := hg1.b32
                have hbs := hg1.base
                omega
              have hFF := HYs.out b hb32 hbN hap
              have HEQ := Lib.hid (fun W => eq36 (fun j => F1 (b * 64 + j)) (fun j => F2 (b * 64 + j)) W)
              rw [eqb_same hFF] at HEQ
              have hii' : ¬ (i' : Int) = i := by omega
              have hb64 : b * 64 + 64 ≤ N * 64 := by omega
              generalize max 0 _ = zz
              clear hin hg1i hg1 hap hb32 hFF p1 p2
              go_upto_region 21 with fail
              refine wp_region_held (S := fun W => Fl W b1 (N * 64) F1 ∧ Fl W b2 (N * 64) F2) (by kernel_rfl) ?_
              change wpAnyH _ _ _ _ _ _ _ _ (World.drew _)
              have hS0 : (fun W => Fl W b1 (N * 64) F1 ∧ Fl W b2 (N * 64) F2) x2.drew := ⟨HFa.out.below (Below.refl _ _).drew HFa.out.lt, HFb.out.below (Below.refl _ _).drew HFb.out.lt⟩
              have HB3 := Lib.hid (HB2'.out.trans ((Below.refl x2.heap.size x2).drew.mono HB2'.out.size))
              obtain ⟨x3, hx3⟩ : ∃ x, World.drew x2 = x := ⟨_, rfl⟩
              rw [hx3] at hS0 HB3 ⊢
              clear hx3
              clear HB2' HFa HFb
              refine wpAnyH_take (i := 0) (v := ?_) rfl (by kernel_rfl) (by kernel_rfl) (by kernel_rfl) (fun _ _ _ h => h) (Or.inl ⟨by kernel_rfl, ?_⟩) hS0 ?_
              rotate_left 1
              · intro W hW
                go_simp
                try with_reducible rfl
              simp only [Act.put, List.getElem_toArray, List.getElem_cons_zero, List.getElem_cons_succ, List.setIfInBounds_toArray, List.set_cons_zero, List.set_cons_succ]
              refine wpAnyH_take (i := 1) (v := ?_) rfl (by kernel_rfl) (by kernel_rfl) (by kernel_rfl) (fun _ _ _ h => h) (Or.inl ⟨by kernel_rfl, ?_⟩) hS0 ?_
              rotate_left 1
              · intro W hW
                go_simp
                try with_reducible rfl
              simp only [Act.put, List.getElem_toArray, List.getElem_cons_zero, List.getElem_cons_succ, List.setIfInBounds_toArray, List.set_cons_zero, List.set_cons_succ]
              refine wpAnyH_take (i := 2) (v := ?_) rfl (by kernel_rfl) (by kernel_rfl) (by kernel_rfl) (fun _ _ _ h => h) (Or.inl ⟨by kernel_rfl, ?_⟩) hS0 ?_
              rotate_left 1
              · intro W hW
                go_simp
                try with_reducible rfl
              simp only [Act.put, List.getElem_toArray, List.getElem_cons_zero, List.getElem_cons_succ, List.setIfInBounds_toArray, List.set_cons_zero, List.set_cons_succ]
              refine wpAnyH_take (i := 3) (v := ?_) rfl (by kernel_rfl) (by kernel_rfl) (by kernel_rfl) (fun _ _ _ h => h) (Or.inl ⟨by kernel_rfl, ?_⟩) hS0 ?_
              rotate_left 1
              · intro W hW
                go_simp
                try with_reducible rfl
              simp only [Act.put, List.getElem_toArray, List.getElem_cons_zero, List.getElem_cons_succ, List.setIfInBounds_toArray, List.set_cons_zero, List.set_cons_succ]
              refine wpAnyH_take (i := 4) (v := .bool true) rfl (by kernel_rfl) (by kernel_rfl) (by kernel_rfl) (fun _ _ _ h => h) (Or.inl ⟨by kernel_rfl, fun W hW => ?_⟩) hS0 ?_
              · go_simp
                try (simp [hii']; done)
              simp only [Act.put, List.getElem_toArray, List.getElem_cons_zero, List.getElem_cons_succ, List.setIfInBounds_toArray, List.set_cons_zero, List.set_cons_succ]
              refine wpAnyH_take (i := 5) (v := ?_) rfl (by kernel_rfl) (by kernel_rfl) (by kernel_rfl) (fun _ _ _ h => h) (Or.inl ⟨by kernel_rfl, ?_⟩) hS0 ?_
              rotate_left 1
              · intro W hW
                go_simp
                try with_reducible rfl
              simp only [Act.put, List.getElem_toArray, List.getElem_cons_zero, List.getElem_cons_succ, List.setIfInBounds_toArray, List.set_cons_zero, List.set_cons_succ]
              refine wpAnyH_take (i := 6) (v := ?_) rfl (by kernel_rfl) (by kernel_rfl) (by kernel_rfl) (fun _ _ _ h => h) (Or.inl ⟨by kernel_rfl, ?_⟩) hS0 ?_
              rotate_left 1
              · intro W hW
                go_simp
                try with_reducible rfl
              simp only [Act.put, List.getElem_toArray, List.getElem_cons_zero, List.getElem_cons_succ, List.setIfInBounds_toArray, List.set_cons_zero, List.set_cons_succ]
              refine wpAnyH_take (i := 7) (v := ?_) rfl (by kernel_rfl) (by kernel_rfl) (by kernel_rfl) (fun _ _ _ h => h) (Or.inl ⟨by kernel_rfl, ?_⟩) hS0 ?_
              rotate_left 1
              · intro W hW
                go_simp
                try with_reducible rfl
              simp only [Act.put, List.getElem_toArray, List.getElem_cons_zero, List.getElem_cons_succ, List.setIfInBounds_toArray, List.set_cons_zero, List.set_cons_succ]
              refine wpAnyH_take (i := 8) (v := ?_) rfl (by kernel_rfl) (by kernel_rfl) (by kernel_rfl) (fun _ _ _ h => h) (Or.inl ⟨by kernel_rfl, ?_⟩) hS0 ?_
              rotate_left 1
              · intro W hW
                go_simp
                try with_reducible rfl
              simp only [Act.put, List.getElem_toArray, List.getElem_cons_zero, List.getElem_cons_succ, List.setIfInBounds_toArray, List.set_cons_zero, List.set_cons_succ]
              refine wpAnyH_take (i := 9) (v := ?_) rfl (by kernel_rfl) (by kernel_rfl) (by kernel_rfl) (fun _ _ _ h => h) (Or.inl ⟨by kernel_rfl, ?_⟩) hS0 ?_
              rotate_left 1
              · intro W hW
                go_simp
                try with_reducible rfl
              simp only [Act.put, List.getElem_toArray, List.getElem_cons_zero, List.getElem_cons_succ, List.setIfInBounds_toArray, List.set_cons_zero, List.set_cons_succ]
              refine wpAnyH_take (i := 10) (v := .agg (byts 64 fun j => F1 (b * 64 + j)).toArray) rfl (by kernel_rfl) (by kernel_rfl) (by kernel_rfl) (fun _ _ _ h => h) ?_ hS0 ?_
              · exact yieldsIf_load_mid (by kernel_rfl) 59 _ rfl b1 (b * 64) rfl (byts 64 fun j => F1 (b * 64 + j)) (.array 64 5) (fun _ h => h.1.range (b * 64) 64 hb64) Tryz.arr36 rfl (size36 _)
              simp only [Act.put, List.getElem_toArray, List.getElem_cons_zero, List.getElem_cons_succ, List.setIfInBounds_toArray, List.set_cons_zero, List.set_cons_succ]
              refine wpAnyH_take (i := 11) (v := ?_) rfl (by kernel_rfl) (by kernel_rfl) (by kernel_rfl) (fun _ _ _ h => h) (Or.inl ⟨by kernel_rfl, ?_⟩) hS0 ?_
              rotate_left 1
              · intro W hW
                go_simp
                try with_reducible rfl
              simp only [Act.put, List.getElem_toArray, List.getElem_cons_zero, List.getElem_cons_succ, List.setIfInBounds_toArray, List.set_cons_zero, List.set_cons_succ]
              refine wpAnyH_take (i := 12) (v := ?_) rfl (by kernel_rfl) (by kernel_rfl) (by kernel_rfl) (fun _ _ _ h => h) (Or.inl ⟨by kernel_rfl, ?_⟩) hS0 ?_
              rotate_left 1
              · intro W hW
                go_simp
                try with_reducible rfl
              simp only [Act.put, List.getElem_toArray, List.getElem_cons_zero, List.getElem_cons_succ, List.setIfInBounds_toArray, List.set_cons_zero, List.set_cons_succ]
              refine wpAnyH_take (i := 13) (v := ?_) rfl (by kernel_rfl) (by kernel_rfl) (by kernel_rfl) (fun _ _ _ h => h) (Or.inl ⟨by kernel_rfl, ?_⟩) hS0 ?_
              rotate_left 1
              · intro W hW
                go_simp
                try with_reducible rfl
              simp only [Act.put, List.getElem_toArray, List.getElem_cons_zero, List.getElem_cons_succ, List.setIfInBounds_toArray, List.set_cons_zero, List.set_cons_succ]
              refine wpAnyH_take (i := 14) (v := .agg (byts 64 fun j => F2 (b * 64 + j)).toArray) rfl (by kernel_rfl) (by kernel_rfl) (by kernel_rfl) (fun _ _ _ h => h) ?_ hS0 ?_
              · exact yieldsIf_load_mid (by kernel_rfl) 59 _ rfl b2 (b * 64) rfl (byts 64 fun j => F2 (b * 64 + j)) (.array 64 5) (fun _ h => h.2.range (b * 64) 64 hb64) Tryz.arr36 rfl (size36 _)
              simp only [Act.put, List.getElem_toArray, List.getElem_cons_zero, List.getElem_cons_succ, List.setIfInBounds_toArray, List.set_cons_zero, List.set_cons_succ]
              refine wpAnyH_take (i := 15) (v := .bool (!true)) rfl (by kernel_rfl) (by kernel_rfl) (by kernel_rfl) (fun _ _ _ h => h) ?_ hS0 ?_
              · exact yields_neq (by kernel_rfl) 59 59 _ _ rfl (byts 64 fun j => F1 (b * 64 + j)).toArray (byts 64 fun j => F2 (b * 64 + j)).toArray rfl rfl true Tryz.guardBlk (fun W _ => HEQ.out W)
              simp only [Act.put, List.getElem_toArray, List.getElem_cons_zero, List.getElem_cons_succ, List.setIfInBounds_toArray, List.set_cons_zero, List.set_cons_succ]
              refine wpAnyH_take (i := 16) (v := ?_) rfl (by kernel_rfl) (by kernel_rfl) (by kernel_rfl) (fun _ _ _ h => h) (Or.inl ⟨by kernel_rfl, ?_⟩) hS0 ?_
              rotate_left 1
              · intro W hW
                go_simp
                try with_reducible rfl
              simp only [Act.put, List.getElem_toArray, List.getElem_cons_zero, List.getElem_cons_succ, List.setIfInBounds_toArray, List.set_cons_zero, List.set_cons_succ]
              refine wpAnyH_done (by kernel_rfl) ?_ _
              clear hS0
              go_wp2_with fail
              go_roundw
              case rel => exact ⟨b + 1, by omega, by go_num, HB3.out⟩
              case measure => simp [Go.RowKit.intOf]; omega
          · skip
            go_upto_region 21 with fail
            refine wp_region_held (S := fun W => Fl W b1 (N * 64) F1 ∧ Fl W b2 (N * 64) F2) (by kernel_rfl) ?_
            change wpAnyH _ _ _ _ _ _ _ _ (World.drew _)
            have hS0 : (fun W => Fl W b1 (N * 64) F1 ∧ Fl W b2 (N * 64) F2) x2.drew := ⟨HFa.out.below (Below.refl _ _).drew HFa.out.lt, HFb.out.below (Below.refl _ _).drew HFb.out.lt⟩
            have HB3 := Lib.hid (HB2'.out.trans ((Below.refl x2.heap.size x2).drew.mono HB2'.out.size))
            obtain ⟨x3, hx3⟩ : ∃ x, World.drew x2 = x := ⟨_, rfl⟩
            rw [hx3] at hS0 HB3 ⊢
            clear hx3
            clear HB2' HFa HFb
            refine wpAnyH_take (i := 0) (v := ?_) rfl (by kernel_rfl) (by kernel_rfl) (by kernel_rfl) (fun _ _ _ h => h) (Or.inl ⟨by kernel_rfl, ?_⟩) hS0 ?_
            rotate_left 1
            · intro W hW
              go_simp
              try with_reducible rfl
            simp only [Act.put, List.getElem_toArray, List.getElem_cons_zero, List.getElem_cons_succ, List.setIfInBounds_toArray, List.set_cons_zero, List.set_cons_succ]
            refine wpAnyH_take (i := 1) (v := ?_) rfl (by kernel_rfl) (by kernel_rfl) (by kernel_rfl) (fun _ _ _ h => h) (Or.inl ⟨by kernel_rfl, ?_⟩) hS0 ?_
            rotate_left 1
            · intro W hW
              go_simp
              try with_reducible rfl
            simp only [Act.put, List.getElem_toArray, List.getElem_cons_zero, List.getElem_cons_succ, List.setIfInBounds_toArray, List.set_cons_zero, List.set_cons_succ]
            refine wpAnyH_take (i := 2) (v := undef) rfl (by kernel_rfl) (by kernel_rfl) (by kernel_rfl) (fun _ _ _ h => h) (Or.inr ⟨by kernel_rfl, rfl⟩) hS0 ?_
            simp only [Act.put, List.getElem_toArray, List.getElem_cons_zero, List.getElem_cons_succ, List.setIfInBounds_toArray, List.set_cons_zero, List.set_cons_succ]
            refine wpAnyH_take (i := 3) (v := undef) rfl (by kernel_rfl) (by kernel_rfl) (by kernel_rfl) (fun _ _ _ h => h) (Or.inr ⟨by kernel_rfl, rfl⟩) hS0 ?_
            simp only [Act.put, List.getElem_toArray, List.getElem_cons_zero, List.getElem_cons_succ, List.setIfInBounds_toArray, List.set_cons_zero, List.set_cons_succ]
            refine wpAnyH_take (i := 4) (v := undef) rfl (by kernel_rfl) (by kernel_rfl) (by kernel_rfl) (fun _ _ _ h => h) (Or.inr ⟨by kernel_rfl, rfl⟩) hS0 ?_
            simp only [Act.put, List.getElem_toArray, List.getElem_cons_zero, List.getElem_cons_succ, List.setIfInBounds_toArray, List.set_cons_zero, List.set_cons_succ]
            refine wpAnyH_take (i := 5) (v := ?_) rfl (by kernel_rfl) (by kernel_rfl) (by kernel_rfl) (fun _ _ _ h => h) (Or.inl ⟨by kernel_rfl, ?_⟩) hS0 ?_
            rotate_left 1
            · intro W hW
              go_simp
              try with_reducible rfl
            simp only [Act.put, List.getElem_toArray, List.getElem_cons_zero, List.getElem_cons_succ, List.setIfInBounds_toArray, List.set_cons_zero, List.set_cons_succ]
            refine wpAnyH_take (i := 6) (v := ?_) rfl (by kernel_rfl) (by kernel_rfl) (by kernel_rfl) (fun _ _ _ h => h) (Or.inl ⟨by kernel_rfl, ?_⟩) hS0 ?_
            rotate_left 1
            · intro W hW
              go_simp
              try with_reducible rfl
            simp only [Act.put, List.getElem_toArray, List.getElem_cons_zero, List.getElem_cons_succ, List.setIfInBounds_toArray, List.set_cons_zero, List.set_cons_succ]
            refine wpAnyH_take (i := 7) (v := undef) rfl (by kernel_rfl) (by kernel_rfl) (by kernel_rfl) (fun _ _ _ h => h) (Or.inr ⟨by kernel_rfl, rfl⟩) hS0 ?_
            simp only [Act.put, List.getElem_toArray, List.getElem_cons_zero, List.getElem_cons_succ, List.setIfInBounds_toArray, List.set_cons_zero, List.set_cons_succ]
            refine wpAnyH_take (i := 8) (v := undef) rfl (by kernel_rfl) (by kernel_rfl) (by kernel_rfl) (fun _ _ _ h => h) (Or.inr ⟨by kernel_rfl, rfl⟩) hS0 ?_
            simp only [Act.put, List.getElem_toArray, List.getElem_cons_zero, List.getElem_cons_succ, List.setIfInBounds_toArray, List.set_cons_zero, List.set_cons_succ]
            refine wpAnyH_take (i := 9) (v := undef) rfl (by kernel_rfl) (by kernel_rfl) (by kernel_rfl) (fun _ _ _ h => h) (Or.inr ⟨by kernel_rfl, rfl⟩) hS0 ?_
            simp only [Act.put, List.getElem_toArray, List.getElem_cons_zero, List.getElem_cons_succ, List.setIfInBounds_toArray, List.set_cons_zero, List.set_cons_succ]
            refine wpAnyH_take (i := 10) (v := undef) rfl (by kernel_rfl) (by kernel_rfl) (by kernel_rfl) (fun _ _ _ h => h) (Or.inr ⟨by kernel_rfl, rfl⟩) hS0 ?_
            simp only [Act.put, List.getElem_toArray, List.getElem_cons_zero, List.getElem_cons_succ, List.setIfInBounds_toArray, List.set_cons_zero, List.set_cons_succ]
            refine wpAnyH_take (i := 11) (v := undef) rfl (by kernel_rfl) (by kernel_rfl) (by kernel_rfl) (fun _ _ _ h => h) (Or.inr ⟨by kernel_rfl, rfl⟩) hS0 ?_
            simp only [Act.put, List.getElem_toArray, List.getElem_cons_zero, List.getElem_cons_succ, List.setIfInBounds_toArray, List.set_cons_zero, List.set_cons_succ]
            refine wpAnyH_take (i := 12) (v := undef) rfl (by kernel_rfl) (by kernel_rfl) (by kernel_rfl) (fun _ _ _ h => h) (Or.inr ⟨by kernel_rfl, rfl⟩) hS0 ?_
            simp only [Act.put, List.getElem_toArray, List.getElem_cons_zero, List.getElem_cons_succ, List.setIfInBounds_toArray, List.set_cons_zero, List.set_cons_succ]
            refine wpAnyH_take (i := 13) (v := undef) rfl (by kernel_rfl) (by kernel_rfl) (by kernel_rfl) (fun _ _ _ h => h) (Or.inr ⟨by kernel_rfl, rfl⟩) hS0 ?_
            simp only [Act.put, List.getElem_toArray, List.getElem_cons_zero, List.getElem_cons_succ, List.setIfInBounds_toArray, List.set_cons_zero, List.set_cons_succ]
            refine wpAnyH_take (i := 14) (v := undef) rfl (by kernel_rfl) (by kernel_rfl) (by kernel_rfl) (fun _ _ _ h => h) (Or.inr ⟨by kernel_rfl, rfl⟩) hS0 ?_
            simp only [Act.put, List.getElem_toArray, List.getElem_cons_zero, List.getElem_cons_succ, List.setIfInBounds_toArray, List.set_cons_zero, List.set_cons_succ]
            refine wpAnyH_take (i := 15) (v := undef) rfl (by kernel_rfl) (by kernel_rfl) (by kernel_rfl) (fun _ _ _ h => h) (Or.inr ⟨by kernel_rfl, rfl⟩) hS0 ?_
            simp only [Act.put, List.getElem_toArray, List.getElem_cons_zero, List.getElem_cons_succ, List.setIfInBounds_toArray, List.set_cons_zero, List.set_cons_succ]
            refine wpAnyH_take (i := 16) (v := ?_) rfl (by kernel_rfl) (by kernel_rfl) (by kernel_rfl) (fun _ _ _ h => h) (Or.inl ⟨by kernel_rfl, ?_⟩) hS0 ?_
            rotate_left 1
            · intro W hW
              go_simp
              try with_reducible rfl
            simp only [Act.put, List.getElem_toArray, List.getElem_cons_zero, List.getElem_cons_succ, List.setIfInBounds_toArray, List.set_cons_zero, List.set_cons_succ]
            refine wpAnyH_done (by kernel_rfl) ?_ _
            clear hS0
            go_wp2_with fail
            go_roundw
            case rel => exact ⟨b + 1, by omega, by go_num, HB3.out⟩
            case measure => simp [Go.RowKit.intOf]; omega
        · obtain rfl : b = N := by omega
          have HX6 := Lib.hid (HX5.out.more HBl.out)
          have HK6 := Lib.hid (HK5.out.more HBl.out)
          have HR6 := Lib.hid (HR5.out.below HBl.out HR5.out.lts.1 HR5.out.lts.2.1 HR5.out.lts.2.2.1 HR5.out.lts.2.2.2)
          clear HBl HX5 HK5 HR5 HF1 HF2 HYs
          go_wp2_with fail
          refine (Cf.clen_any n vr vm vg R MS wY (HCFx.out wY HX6.out) hR64).mono ?_
          rintro e wz ⟨rfl, hwz⟩
          rw [hwz]
          clear hwz
          have hR640 : (R.length : Int) ≤ 64 := by omega
          go_wp2_with fail
          go_loopw [105] (fun y wr => ∃ o : Nat, o ≤ R.length ∧ y = .int .i64 o ∧ (∃ t' m', Rd wr t' m' dd gg b 0 Y (7000 + 700 * k + 500 * o)) ∧ Kf w4 wr [dd, gg]) (fun y _ => R.length - (Go.RowKit.intOf y).toNat)
          case atStart => exact ⟨0, Nat.zero_le _, rfl, ⟨ta, ma, HR6.out⟩, HK6.out⟩
          case round =>
            obtain ⟨o, ho, rfl, ⟨tb, mb, hRd⟩, hkf⟩ := hrel
            obtain ⟨wZ, rfl⟩ : ∃ x, x = wr := ⟨wr, rfl⟩
            have HRd := Lib.hid hRd
            have HKf := Lib.hid hkf
            have hsz := hkf.size
            have HKx := Lib.hid (HK4.out.join hkf (fun a ha => .inl ha))
            clear hRd hkf HR6
            by_cases hoR : o < R.length
            · obtain ⟨g1, hg1i⟩ : ∃ g1, (Cf.layF R).1[o]'(by rw [Cf.lay_len]; exact hoR) = g1 := ⟨_, rfl⟩
              obtain ⟨B1, P1, M1, D1, N1, hg1, hbl1', hnd1⟩ := geo_gg R HSM.out hR64 b HN.out o hoR g1 hg1i
              -- what Usage tells there
              obtain ⟨cb, cn, V, hcb, hcn, hVt, hcase⟩ : ∃ (cb cn : Nat) (V : Nat → Nat → Int), (setL (bt Y B1) N1).length = cb ∧ cN V M1 = cn ∧ Tab P1 M1 Y V ∧ (o = i ∧ cb = min k N1 ∧ cn = (if 0 < mk then min (3 + k) M1 else 3) ∨ o ≠ i ∧ cb = 0 ∧ cn = 3) := by
                have hm4 := hg1.m4
                have h512 := hg1.n512
                by_cases hoi : o = i
                · subst hoi
                  have e0 : g1 = g := by rw [← hg1i, ← HGI.out]
                  subst e0
                  have q1 : B1 = B0 := by have := hg1.base; have := HG.out.base; omega
                  have q2 : P1 = P0 := by have := hg1.tab; have := HG.out.tab; omega
                  have q3 : M1 = M' := by have := hg1.nd; have := HG.out.nd; omega
                  have q4 : N1 = NB := by have := hg1.bl; have := HG.out.bl; omega
                  subst q1 q2 q3 q4
                  refine ⟨min k N1, if 0 < mk then min (3 + k) M1 else 3, VF (C k), ?_, ?_, HTb.out, .inl ⟨rfl, rfl, rfl⟩⟩
                  · rw [setL_lt _ (min k N1) N1 (fun j hj => HBt.out j (by omega))]
                    omega
                  · rw [cN_VF, ← HCm.out k]
                    have := HC0.out k
                    omega
                · have hF1 := HFK.out.done o hoR hoR
                  rw [hg1i] at hF1
                  obtain ⟨f1, f2⟩ := hF1 B1 P1 M1 D1 N1 hg1
                  have hap : D1 + N1 ≤ B0 ∨ DA + NB ≤ B1 := by
                    have q0 : GG ((Cf.layF R).1[i]'(by rw [Cf.lay_len]; exact hiR)) B0 P0 M' DA NB b := by rw [HGI.out]; exact HG.out
                    have q1 : GG ((Cf.layF R).1[o]'(by rw [Cf.lay_len]; exact hoR)) B1 P1 M1 D1 N1 b := by rw [hg1i]; exact hg1
                    rcases Nat.lt_or_gt_of_ne hoi with c | c
                    · exact .inl (grp_lt R HSM.out o i c hiR B1 P1 M1 D1 N1 B0 P0 M' DA NB q1 q0)
                    · exact .inr (grp_lt R HSM.out i o c hoR B0 P0 M' DA NB B1 P1 M1 D1 N1 q0 q1)
                  have p1 := hg1.bp
                  have p2 := hg1.pd
                  have p3 := hg1.n4
                  refine ⟨0, 3, VF 3, ?_, ?_, f1.congr fun x h1 h2 => HYf.out x (by omega), .inr ⟨hoi, rfl, rfl⟩⟩
                  · rw [setL_lt _ 0 N1 (fun j hj => ?_)]
                    · omega
                    · have := f2 j (by omega)
                      unfold bt at this ⊢
                      rw [HYf.out _ (by omega), this]
                      rfl
                  · rw [cN_VF]
                    omega
              have HG1 := Lib.hid hg1
              have HG1I := Lib.hid hg1i
              have HCb := Lib.hid hcb
              have HCn := Lib.hid hcn
              have HVt := Lib.hid hVt
              have HRg := Lib.hid (fun W (hW : Cf.CF n W vr vm vg R MS) => creg_in n vr vm vg R MS o hoR W hW)
              obtain ⟨r, hr⟩ : ∃ r, R[o] = r := ⟨_, rfl⟩
              rw [hr] at hbl1' hnd1 HRg
              have HRC := Lib.hid (show r.cells[3]? = some (.int .i64 r.bl) from rfl)
              have HRD := Lib.hid (show r.cells[4]? = some (.int .i64 r.nd) from rfl)
              rw [hbl1'] at HRC
              rw [hnd1] at HRD
              have HRL := Lib.hid (show r.cells.length = 9 from rfl)
              have HRO := Lib.hid (reg_one r)
              have HRS := Lib.hid (sizeReg r)
              obtain ⟨rc, hrc⟩ : ∃ c, r.cells = c := ⟨_, rfl⟩
              rw [hrc] at HRg HRC HRD HRL HRO HRS
              have hN15 : N1 ≤ 512 := hg1.n512
              have hM18 : M1 ≤ 128 := hg1.m128
              have hM14 : 4 ≤ M1 := hg1.m4
              have hHC := Lib.hid hcase
              have HBeg := Lib.hid (begin7 l tb mb dd gg (7000 + 700 * k + 500 * o) Y wZ HRd.out (HL4.out.kf HKf.out HNl.out))
              have ho0 : (0 : Int) ≤ o := by omega
              have ho1 : (o : Int) < R.length := by omega
              clear hg1 hg1i hcb hcn hVt hr hrc hbl1' hnd1 hcase
              go_wp2_with fail
              refine HBeg.out.mono ?_
              rintro e u1 ⟨t', m', rfl, ht', hm', hRd', hb⟩
              have HRd1 := Lib.hid hRd'
              have HK1 := Lib.hid (HKf.out.more hb)
              have HX1 := Lib.hid (HKx.out.more hb)
              have hle1 : w4.heap.size ≤ t' := Nat.le_trans hsz ht'
              have hle2 : w4.heap.size ≤ m' := Nat.le_trans hsz hm'
              clear hRd' hb HBeg HRd ht' hm' HKx
              have HOp := Lib.hid (gopen_in t' m' dd gg n B1 P1 M1 D1 N1 b (7000 + 700 * k + 500 * o) Y vr vm vg R MS o hoR g1 HG1I.out HG1.out u1 (HCFx.out u1 HX1.out) HRd1.out)
              go_wp2_with fail
              refine HOp.out.mono ?_
              rintro e u2 ⟨q, p, rfl, hq, hp, hGr, hb⟩
              have HG2 := Lib.hid hGr
              have HK2 := Lib.hid (HK1.out.more hb)
              clear hGr hb HOp HRd1 HK1 HX1 hq hp
              have HU := Lib.hid (gusage q p t' m' dd gg o B1 P1 M1 D1 N1 b (7000 + 700 * k + 500 * o) g1 Y V cb HCb.out cn HCn.out (by omega) HVt.out HG1.out u2 HG2.out)
              go_wp2_with fail
              refine HU.out.mono ?_
              rintro e u3 ⟨rfl, hGr, hkk⟩
              have HR3 := Lib.hid hGr.rd
              have HK3 := Lib.hid (HK2.out.tx hkk hle1 hle2)
              have HX3 := Lib.hid (HK4.out.join HK3.out (fun a ha => .inl ha))
              clear hGr hkk HU HG2 HK2
              go_wp2_with fail
              refine (HRg.out u3 (HCFx.out u3 HX3.out)).mono ?_
              rintro e u4 ⟨rfl, hb⟩
              have HR4' := Lib.hid (HR3.out.keep hb)
              have HK4' := Lib.hid (HK3.out.more hb)
              clear hb HR3 HK3 HX3 HRg
              go_upto_region 30 with (first | (refine wpList_alloc_list (w := u4) rfl 41 rfl Cf.zeroRg.cells Tryz.zeroReg ?_; intro u5 G5 hb5 hz5; simp only [Act.put, List.getElem_toArray, List.getElem_cons_zero, List.getElem_cons_succ, List.setIfInBounds_toArray, List.set_cons_zero, List.set_cons_succ]; refine wpList_store_list rfl 41 (.tmp 29) (.tmp 126) rfl u4.heap.size Cf.zeroRg.cells rc rfl rfl G5.out (by rw [HRL.out]; rfl) HRS.out HRO.out ?_; intro u6 FR6 HK6'; have HQ5 := Lib.hid hb5; clear hb5 hz5 G5))
              obtain ⟨bR, hbR⟩ : ∃ b, u4.heap.size = b := ⟨_, rfl⟩
              have HK6 := Lib.hid ((HK4'.out.more HQ5.out).new HK6'.out HK4'.out.size)
              have HR6 := Lib.hid ((HR4'.out.keep HQ5.out).kp HK6'.out (HR4'.out.notin (Nat.le_refl _)) (HR4'.out.notin (Nat.le_refl _)))
              rw [hbR] at FR6
              try rw [hbR]
              clear hbR HQ5 HK6' HK4' HR4'
              have c3 := FR6.out.c 3 _ HRC.out
              have c4 := FR6.out.c 4 _ HRD.out
              rcases hHC.out with ⟨hoi, ecb, ecn⟩ | ⟨hoi, rfl, rfl⟩
              · obtain rfl : o = i := hoi
                have hk0 : (0 : Int) ≤ k := by omega
                have hk6 : (k : Int) < 256 := by omega
                have hmin1 : min (k : Int) (N1 : Int) = (cb : Int) := by omega
                by_cases hmk : 0 < mk
                · rw [if_pos hmk] at ecn
                  have hmin2 : min (3 + (k : Int)) (M1 : Int) = (cn : Int) := by omega
                  clear ecb ecn
                  go_wp2_with fail
                  go_roundw
                  case rel => exact ⟨o + 1, by omega, by go_num, ⟨t', m', HR6.out.mono (by omega)⟩, HK6.out⟩
                  case measure => simp [Go.RowKit.intOf]; omega
                · rw [if_neg hmk] at ecn
                  subst ecn
                  clear ecb
                  go_wp2_with fail
                  go_roundw
                  case rel => exact ⟨o + 1, by omega, by go_num, ⟨t', m', HR6.out.mono (by omega)⟩, HK6.out⟩
                  case measure => simp [Go.RowKit.intOf]; omega
              · have hoi' : ¬ (o : Int) = i := by omega
                go_wp2_with fail
                go_roundw
                case rel => exact ⟨o + 1, by omega, by go_num, ⟨t', m', HR6.out.mono (by omega)⟩, HK6.out⟩
                case measure => simp [Go.RowKit.intOf]; omega
            · obtain rfl : o = R.length := by omega
              go_wp2_with fail
              go_ret
              exact ⟨rfl, HBx.out wZ HKx.out⟩
end Go.Proofs.YtkkdbckaolhmnaaGreat
