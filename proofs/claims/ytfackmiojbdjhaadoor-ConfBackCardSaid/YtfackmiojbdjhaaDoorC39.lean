import Derived.Test.YtfackmiojbdjhaaDoorCM
import Derived.Test.YtfackmiojbdjhaaDoorMA
import Derived.Deep.Draws
import Derived.Deep.CutBlock
import Derived.Deep.DeepCutAuto
/- The law's own same. -/
namespace Go.Proofs.YtfackmiojbdjhaaDoor
set_option linter.unusedSimpArgs false
set_option linter.unusedVariables false
open Go.RowKit Go.Maps

theorem Tryd.desc39 : ∃ d, Tryd.prog.underlying 39 = some d ∧ d.isRow = true := ⟨_, Tryd.underlying39, rfl⟩
theorem Tryd.desc69 : ∃ d, Tryd.prog.underlying 69 = some d ∧ d.isRow = true := ⟨_, Tryd.underlying69, rfl⟩
theorem Tryd.isize39 : (Tryd.prog.info? 39).map (·.size) = some 9 := by kernel_rfl
theorem Tryd.isize69 : (Tryd.prog.info? 69).map (·.size) = some 6 := by kernel_rfl
theorem Tryd.zero39 : (Tryd.prog.info? 39).map (fun i => i.zero) = some (some (.agg [.string ByteArray.empty, .int .u8 0, .int .u16 0, .int .i64 0, .int .i64 0, .int .i64 0, .int .i64 0, .int .i64 0, .int .i64 0].toArray)) := by kernel_rfl
theorem Tryd.zero69 : (Tryd.prog.info? 69).map (fun i => i.zero) = some (some (.agg (gz 0 0 0 0 0 0).toArray)) := by kernel_rfl
theorem rg_one (r : Rg) : ∀ v ∈ r.cells, v.oneCell' = true := by
  intro v hv
  simp [Rg.cells] at hv
  rcases hv with rfl | rfl | rfl | rfl | rfl | rfl | rfl | rfl | rfl <;> rfl
theorem row_range {w : World} {b off : Nat} {rs : List Rg} (h : Row9 w b off rs) (k : Nat) (hk : k < rs.length) : w.rangeAt b (off + k * 9) (rs[k]).cells := by
  intro j v hj
  have hj9 : j < 9 := by
    have := (List.getElem?_eq_some_iff.1 hj).1
    simpa [Rg.cells] using this
  have e0 := h.k0 k hk
  have e1 := h.k1 k hk
  have e2 := h.k2 k hk
  have e3 := h.k3 k hk
  have e4 := h.k4 k hk
  have e5 := h.k5 k hk
  have e6 := h.k6 k hk
  have e7 := h.k7 k hk
  have e8 := h.k8 k hk
  match j, hj9, hj with
  | 0, _, hj => rw [← hj]; exact e0
  | 1, _, hj => rw [← hj]; exact e1
  | 2, _, hj => rw [← hj]; exact e2
  | 3, _, hj => rw [← hj]; exact e3
  | 4, _, hj => rw [← hj]; exact e4
  | 5, _, hj => rw [← hj]; exact e5
  | 6, _, hj => rw [← hj]; exact e6
  | 7, _, hj => rw [← hj]; exact e7
  | 8, _, hj => rw [← hj]; exact e8

set_option maxHeartbeats 40000000 in
set_option maxRecDepth 200000 in
theorem same_any (n b off cap : Nat) (vr vm vg vmm : Value) (rs : List Rg) (ms : List (Int × Int)) (hok : ∀ r ∈ rs, r.ok) (hmk : ∀ m ∈ ms, markOk m) (hml : ms.length ≤ 5000) (hE : newE rs ms = 0) (w : World) (hbl : b < w.heap.size) (hr : Row9 w b off rs) (hms : Mks w vmm ms) (h : CF n w vr vm vg rs ms) :
    Calls Tryd.prog 11 #[.pointer (some ⟨n + 3, 0, none⟩), .slice (some ⟨b, off, none⟩) rs.length cap, vmm] w fun e w' => e = .returned (.bool true) ∧ Below w.heap.size w w' := by
  obtain ⟨h1, h64, hRE, hPE, hME⟩ := newE_zero hE
  have hs := small_of rs hRE
  have HGeos := Lib.hid (geos_some b off cap rs w hbl h64 hs hr)
  have HLen := Lib.hid (fun W (hb : Below w.heap.size w W) => clen_any n vr vm vg rs ms W (h.below hb) h64)
  have HTot := Lib.hid (fun W (hb : Below w.heap.size w W) => total_any n vr vm vg rs ms hs h1 h64 W (h.below hb))
  have HSum := Lib.hid (fun W (hb : Below w.heap.size w W) => sum_any n vr vm vg rs ms hs h1 h64 W (h.below hb))
  have HRsum := Lib.hid (fun W (hb : Below w.heap.size w W) => rsum_any b off cap rs W (by have := hb.size; omega) h1 h64 hs (hr.below hb hbl))
  have HReg := Lib.hid (fun (i : Nat) (hi : i < rs.length) W (hb : Below w.heap.size w W) => reg_in (n + 3) vr rs i hi W (by have := (h.below hb).cb.lt; omega) (h.below hb).cb.c0 (regs_of_row (h.below hb).row))
  have HGeo := Lib.hid (fun (i : Nat) (hi : i < rs.length) W (hb : Below w.heap.size w W) => geo_in n vr vm vg rs ms i hi W (h.below hb))
  have HNm := Lib.hid (fun (i : Nat) (hi : i < rs.length) W (hb : Below w.heap.size w W) => named_any n vr vm vg rs ms rs[i].nm (hok rs[i] (List.getElem_mem _)).1 W (h.below hb))
  have HFi := Lib.hid (fun (i : Nat) (hi : i < rs.length) W (hb : Below w.heap.size w W) => find_any n vr vm vg rs ms rs[i].lv rs[i].cs (hok rs[i] (List.getElem_mem _)).2.1 (hok rs[i] (List.getElem_mem _)).2.2.1 (hok rs[i] (List.getElem_mem _)).2.2.2.1 (hok rs[i] (List.getElem_mem _)).2.2.2.2 W (h.below hb))
  have HLeq := Lib.hid (fun (i j : Nat) (hi : i < rs.length) (hj : j < rs.length) W (hb : Below w.heap.size w W) => cleq_any (n + 3) vr rs i j W (by have := (h.below hb).cb.lt; omega) (h.below hb).cb.c0 (regs_of_row (h.below hb).row))
  have HRl := Lib.hid (fun (i j : Nat) (hi : i < rs.length) (hj : j < rs.length) W => refleq_any rs[i].lv rs[i].cs rs[j].lv rs[j].cs W (hok rs[i] (List.getElem_mem _)).2.2.2.1 (hok rs[i] (List.getElem_mem _)).2.2.2.2 (hok rs[j] (List.getElem_mem _)).2.2.2.1 (hok rs[j] (List.getElem_mem _)).2.2.2.2)
  have HTr := Lib.hid (fun (k : Nat) (hk : k < ms.length) W (hb : Below w.heap.size w W) => trusted_any n vr vm vg rs ms ms[k].1 ms[k].2 (hmk ms[k] (List.getElem_mem _)).1 (hmk ms[k] (List.getElem_mem _)).2.1 (hmk ms[k] (List.getElem_mem _)).2.2.1 (hmk ms[k] (List.getElem_mem _)).2.2.2 W (h.below hb))
  have HTr2 := Lib.hid (fun (k : Nat) (hk : k < ms.length) W (hb : Below w.heap.size w W) => trusted_any n vr vm vg rs ms ms[k].1 (ms[k].2 + 1000) (hmk ms[k] (List.getElem_mem _)).1 (hmk ms[k] (List.getElem_mem _)).2.1 (by have := mark_small hs hME k hk; omega) (by have := mark_small hs hME k hk; omega) W (h.below hb))
  have HRow := Lib.hid hr
  have HMs := Lib.hid hms
  have HOk := Lib.hid hok
  have HRE := Lib.hid hRE
  have HME := Lib.hid hME
  have HMk := Lib.hid hmk
  have HS := Lib.hid hs
  obtain ⟨am, cm, rfl⟩ := hms.form
  obtain ⟨d39, hu39, hd39⟩ := Tryd.desc39
  have HU39 := Lib.hid hu39
  have HD39 := Lib.hid hd39
  obtain ⟨d69, hu69, hd69⟩ := Tryd.desc69
  have HU69 := Lib.hid hu69
  have HD69 := Lib.hid hd69
  obtain ⟨d95, hu95, hd95⟩ := Tryd.desc95
  have HU95 := Lib.hid hu95
  have HD95 := Lib.hid hd95
  have hl0 : (0 : Int) ≤ rs.length := by omega
  have hl64 : (rs.length : Int) ≤ 64 := by omega
  have hm0 : (0 : Int) ≤ ms.length := by omega
  have hm5 : (ms.length : Int) ≤ 5000 := by omega
  have hll := lay_len rs
  have HRan := Lib.hid (fun i hi => lay_range rs hs h64 i hi)
  clear h hr hms hok hs hRE hPE hME hE hmk hu39 hd39 hu69 hd69 hu95 hd95
  go_enter Tryd.func11, Tryd.ntmps11
  go_wp2_with fail
  refine HGeos.out.mono ?_
  rintro e w1 ⟨v, rfl, hown, hb1⟩
  rw [← hll] at hown
  obtain ⟨g, cg, rfl, hgl, hm, hc⟩ := geo_row hown (by omega)
  have HB1 := Lib.hid hb1
  have HC : Hid (∀ i (hi : i < rs.length) j, j < 6 → w1.cell? ⟨g, i * 6 + j, none⟩ = ((layF rs).1[i]'(by rw [lay_len]; exact hi)).cells[j]?) := fun i hi j hj => hc i (by omega) j hj
  rw [hll] at hm
  simp only [hll]
  clear hown hb1 hc HGeos hll hm
  go_wp2_with fail
  refine (HLen.out w1 HB1.out).mono ?_
  rintro e wz ⟨rfl, hwz⟩
  rw [hwz]
  clear hwz wz
  go_wp2_with fail
  refine (HTot.out w1 HB1.out).mono ?_
  rintro e w2 ⟨rfl, hb2⟩
  have HB12 := Lib.hid hb2
  have HB2 := Lib.hid (HB1.out.trans (hb2.mono HB1.out.size))
  clear hb2
  go_wp2_with fail
  refine (HSum.out w2 HB2.out).mono ?_
  rintro e w3 ⟨rfl, hb3⟩
  have HB13 := Lib.hid (HB12.out.trans (hb3.mono HB12.out.size))
  have HB3 := Lib.hid (HB2.out.trans (hb3.mono HB2.out.size))
  clear hb3 HB12 HB2
  go_wp2_with fail
  refine (HRsum.out w3 HB3.out).mono ?_
  rintro e w4 ⟨rfl, hb4⟩
  have HB14 := Lib.hid (HB13.out.trans (hb4.mono HB13.out.size))
  have HB4 := Lib.hid (HB3.out.trans (hb4.mono HB3.out.size))
  clear hb4 HB13 HB3 HLen HTot HSum HRsum
  go_upto_block 0 with fail
  go_cut [] (fun wc => Below w1.heap.size w1 wc ∧ Below w.heap.size w wc)
  case first =>
    go_wp2_with fail
    go_loopw [9, 10, 11, 12, 13, 14, 15, 16, 17, 18, 19, 51] (fun _ _ _ _ _ _ _ _ _ _ _ iv wr => ∃ k : Nat, k ≤ rs.length ∧ iv = .int .i64 k ∧ Below w1.heap.size w1 wr ∧ Below w.heap.size w wr) (fun _ _ _ _ _ _ _ _ _ _ _ iv _ => rs.length - (intOf iv).toNat)
    case atStart => exact ⟨0, by omega, rfl, HB14.out, HB4.out⟩
    case round =>
      obtain ⟨k, hk, rfl, hb1, hb⟩ := hrel
      have HX1 := Lib.hid hb1
      have HX := Lib.hid hb
      have hw1 := hb1.size
      have hw0 := hb.size
      clear hb1 hb HB14 HB4
      have hk0 : (0 : Int) ≤ k := by omega
      have hk64 : (k : Int) ≤ 64 := by omega
      obtain ⟨wX, rfl⟩ : ∃ x, x = wr := ⟨wr, rfl⟩
      by_cases hlt : k < rs.length
      · have hlti : (k : Int) < rs.length := by omega
        obtain ⟨r, hrk⟩ : ∃ r, rs[k] = r := ⟨_, rfl⟩
        obtain ⟨G, hGk⟩ : ∃ G, (layF rs).1[k]'(by rw [lay_len]; exact hlt) = G := ⟨_, rfl⟩
        have hrok := HOk.out rs[k] (List.getElem_mem _)
        have hone := regsE_all rs _ HRE.out k hlt
        have hhav := oneE_have rs k hlt hone
        have hcl := (oneE_apart hlt hone).2.1
        have hran := HRan.out k hlt
        have hgeo := lay_nth rs k hlt
        have hsm := HS.out rs[k] (List.getElem_mem _)
        have hnm := named_at HRE.out k hlt
        have hfo := found_at HOk.out HRE.out k hlt
        have hRg := fun W hb => HReg.out k hlt W hb
        have hGe := fun W hb => HGeo.out k hlt W hb
        have hNm := fun W hb => HNm.out k hlt W hb
        have hFi := fun W hb => HFi.out k hlt W hb
        rw [hGk] at hGe hran hgeo
        rw [hrk] at hrok hhav hcl hgeo hsm hnm hfo hRg hNm hFi
        have hE39 := Lib.hid (fun W => eq39 r hrok hhav ⟨hcl.1, by omega⟩ W)
        have hE95 := Lib.hid (fun W => eq95 G (by omega) (by rw [hgeo]; unfold Small at hsm; simp only [geoAt]; omega) (by rw [hgeo]; unfold Small at hsm; simp only [geoAt]; omega) (by omega) (by omega) (by omega) W)
        rw [hnm.1, hnm.2] at hNm
        rw [hfo.1, hfo.2] at hFi
        have hRR : Hid (w.rangeAt b (off + k * 9) r.cells) := by rw [← hrk]; exact row_range HRow.out k hlt
        have hCC : Hid (∀ j, j < 6 → w1.cell? ⟨g, k * 6 + j, none⟩ = G.cells[j]?) := by rw [← hGk]; exact fun j hj => HC.out k hlt j hj
        obtain ⟨rc, hrc⟩ : ∃ rc, r.cells = rc := ⟨_, rfl⟩
        obtain ⟨gc, hgc⟩ : ∃ gc, G.cells = gc := ⟨_, rfl⟩
        have hv : r.val = .agg rc.toArray := by rw [← hrc]; rfl
        have hgv : G.val = .agg gc.toArray := by rw [← hgc]; rfl
        have HS39 : Hid ((Tryd.prog.info? 39).map (·.size) = some rc.length) := by rw [← hrc]; exact Tryd.isize39
        have HS69 : Hid ((Tryd.prog.info? 69).map (·.size) = some gc.length) := by rw [← hgc]; exact Tryd.isize69
        have HS95 : Hid ((Tryd.prog.info? 95).map (·.size) = some gc.length) := by rw [← hgc]; exact Tryd.isize95
        have ho : Hid (∀ v ∈ rc, v.oneCell' = true) := by rw [← hrc]; exact rg_one r
        have hgo : Hid (∀ v ∈ gc, v.oneCell' = true) := by rw [← hgc]; exact geo_one G
        have hrcl : rc.length = 9 := by rw [← hrc]; rfl
        have hgcl : gc.length = 6 := by rw [← hgc]; rfl
        have hx0 : Hid (rc[0]? = some (.string r.nm)) := by rw [← hrc]; rfl
        have hx1 : Hid (rc[1]? = some (.int .u8 r.lv)) := by rw [← hrc]; rfl
        have hx2 : Hid (rc[2]? = some (.int .u16 r.cs)) := by rw [← hrc]; rfl
        rw [hrc] at hE39 hRR
        rw [hgc] at hE95 hCC
        rw [hv] at hRg
        rw [hgv] at hGe
        have HRg := Lib.hid hRg
        have HGe := Lib.hid hGe
        have HNm' := Lib.hid hNm
        have HFi' := Lib.hid hFi
        have HRK := Lib.hid hrk
        clear hRg hGe hNm hFi hrok hhav hcl hran hgeo hsm hnm hfo hv hgv hrc hgc hone hGk hrk
        have hRX : Hid (wX.rangeAt b (off + k * 9) rc) := fun j v hj => (HX.out.cell (p := ⟨b, off + k * 9 + j, none⟩) hbl).trans (hRR.out j v hj)
        have hCC : Hid (w1.rangeAt g (k * 6) gc) := fun j v hj => (hCC.out j (by have := (List.getElem?_eq_some_iff.1 hj).1; omega)).trans hj
        clear hRR
        go_upto_region 7 with (first | (refine wpList_load_mid rfl 39 _ rfl b (off + k * 9) rfl rc d39 hRX.out HU39.out HD39.out HS39.out ?_) | (refine wpList_alloc_list (w := wX) rfl 39 rfl _ Tryd.zero39 ?_; intro wa Fa hba hza; have HBa := Lib.hid hba; clear hba hza) | (refine wpList_store_list rfl 39 (.tmp 10) (.tmp 55) rfl wX.heap.size _ rc rfl rfl Fa.out (by rw [hrcl]; rfl) HS39.out ho.out ?_; intro wb FB KB))
        obtain ⟨b10, hb10⟩ : ∃ x, wX.heap.size = x := ⟨_, rfl⟩
        have hsw : w.heap.size ≤ wX.heap.size := HX.out.size
        have hsw1 : w1.heap.size ≤ wX.heap.size := HX1.out.size
        have A1 := Lib.hid (HX1.out.trans (HBa.out.mono HX1.out.size))
        have A0 := Lib.hid (HX.out.trans (HBa.out.mono HX.out.size))
        rw [hb10] at FB KB hsw hsw1 
        try rw [hb10]
        have X1b := Lib.hid (A1.out.trans (KB.out.below hsw1 hsw1 A1.out.size))
        have Xb := Lib.hid (A0.out.trans (KB.out.below hsw hsw A0.out.size))
        clear hb10 A1 A0 Fa HBa KB HX1 HX hsw hsw1
        go_wp2_with fail
        refine (HRg.out wb Xb.out).mono ?_
        rintro e wc1 ⟨rfl, hbc⟩
        have X1c := Lib.hid (X1b.out.trans (hbc.mono X1b.out.size))
        have Xc := Lib.hid (Xb.out.trans (hbc.mono Xb.out.size))
        have F10 := Lib.hid (FB.out.keep hbc)
        clear hbc X1b Xb FB
        go_upto_region 8 with (first | (refine wpList_alloc_list (w := wc1) rfl 39 rfl _ Tryd.zero39 ?_; intro wa Fa hba hza; have HBa := Lib.hid hba; clear hba hza) | (refine wpList_store_list rfl 39 (.tmp 11) (.tmp 60) rfl wc1.heap.size _ rc rfl rfl Fa.out (by rw [hrcl]; rfl) HS39.out ho.out ?_; intro wd FD KD))
        obtain ⟨b11, hb11⟩ : ∃ x, wc1.heap.size = x := ⟨_, rfl⟩
        have hsw : w.heap.size ≤ wc1.heap.size := Xc.out.size
        have hsw1 : w1.heap.size ≤ wc1.heap.size := X1c.out.size
        have A1 := Lib.hid (X1c.out.trans (HBa.out.mono X1c.out.size))
        have A0 := Lib.hid (Xc.out.trans (HBa.out.mono Xc.out.size))
        have hlF10 := F10.out.lt
        have BF10 := Lib.hid (F10.out.keep HBa.out)
        rw [hb11] at FD KD hsw hsw1 hlF10
        try rw [hb11]
        have X1d := Lib.hid (A1.out.trans (KD.out.below hsw1 hsw1 A1.out.size))
        have Xd := Lib.hid (A0.out.trans (KD.out.below hsw hsw A0.out.size))
        have F10d := Lib.hid (BF10.out.kp KD.out (by omega) (by omega))
        clear hb11 A1 A0 Fa HBa KD X1c Xc hsw hsw1 hlF10 BF10 F10
        go_wp2_with fail
        refine (HGe.out wd Xd.out).mono ?_
        rintro e we ⟨rfl, hbc⟩
        have X1e := Lib.hid (X1d.out.trans (hbc.mono X1d.out.size))
        have Xe := Lib.hid (Xd.out.trans (hbc.mono Xd.out.size))
        have F10e := Lib.hid (F10d.out.keep hbc)
        have F11e := Lib.hid (FD.out.keep hbc)
        clear hbc X1d Xd F10d FD
        go_upto_region 9 with (first | (refine wpList_alloc_list (w := we) rfl 69 rfl _ Tryd.zero69 ?_; intro wa Fa hba hza; have HBa := Lib.hid hba; clear hba hza) | (refine wpList_store_list rfl 69 (.tmp 13) (.tmp 66) rfl we.heap.size _ gc rfl rfl Fa.out (by rw [hgcl]; rfl) HS69.out hgo.out ?_; intro wf FF KF))
        obtain ⟨b13, hb13⟩ : ∃ x, we.heap.size = x := ⟨_, rfl⟩
        have hsw : w.heap.size ≤ we.heap.size := Xe.out.size
        have hsw1 : w1.heap.size ≤ we.heap.size := X1e.out.size
        have A1 := Lib.hid (X1e.out.trans (HBa.out.mono X1e.out.size))
        have A0 := Lib.hid (Xe.out.trans (HBa.out.mono Xe.out.size))
        have hlF10e := F10e.out.lt
        have BF10e := Lib.hid (F10e.out.keep HBa.out)
        have hlF11e := F11e.out.lt
        have BF11e := Lib.hid (F11e.out.keep HBa.out)
        rw [hb13] at FF KF hsw hsw1 hlF10e hlF11e
        try rw [hb13]
        have X1f := Lib.hid (A1.out.trans (KF.out.below hsw1 hsw1 A1.out.size))
        have Xf := Lib.hid (A0.out.trans (KF.out.below hsw hsw A0.out.size))
        have F10f := Lib.hid (BF10e.out.kp KF.out (by omega) (by omega))
        have F11f := Lib.hid (BF11e.out.kp KF.out (by omega) (by omega))
        clear hb13 A1 A0 Fa HBa KF X1e Xe hsw hsw1 hlF10e BF10e F10e hlF11e BF11e F11e
        have q0 := F10f.out.c 0 _ hx0.out
        go_wp2_with fail
        refine (HNm'.out wf Xf.out).mono ?_
        rintro e wg ⟨rfl, hbc⟩
        clear q0
        have X1g := Lib.hid (X1f.out.trans (hbc.mono X1f.out.size))
        have Xg := Lib.hid (Xf.out.trans (hbc.mono Xf.out.size))
        have F10g := Lib.hid (F10f.out.keep hbc)
        have F11g := Lib.hid (F11f.out.keep hbc)
        have F13g := Lib.hid (FF.out.keep hbc)
        clear hbc X1f Xf F10f F11f FF
        have q1 := F10g.out.c 1 _ hx1.out
        have q2 := F10g.out.c 2 _ hx2.out
        go_wp2_with fail
        refine (HFi'.out wg Xg.out).mono ?_
        rintro e wh ⟨rfl, hbc⟩
        clear q1 q2
        have X1h := Lib.hid (X1g.out.trans (hbc.mono X1g.out.size))
        have Xh := Lib.hid (Xg.out.trans (hbc.mono Xg.out.size))
        have F10h := Lib.hid (F10g.out.keep hbc)
        have F11h := Lib.hid (F11g.out.keep hbc)
        have F13h := Lib.hid (F13g.out.keep hbc)
        clear hbc X1g Xg F10g F11g F13g
        have hCh : Hid (wh.rangeAt g (k * 6) gc) := fun j v hj => ((X1h.out.cell (p := ⟨g, k * 6 + j, none⟩) hgl)).trans (hCC.out j v hj)
        clear HRg HGe HNm' HFi'
        go_upto_region 11 with fail
        refine wp_region_held (S := fun W => Vl W b10 rc ∧ Vl W b11 rc ∧ Vl W b13 gc ∧ W.rangeAt g (k * 6) gc) (by kernel_rfl) ?_
        change wpAnyH _ _ _ _ _ _ _ _ (World.drew wh)
        have hS0 : (fun W : World => Vl W b10 rc ∧ Vl W b11 rc ∧ Vl W b13 gc ∧ W.rangeAt g (k * 6) gc) (World.drew wh) := ⟨F10h.out.keep (Below.refl wh.heap.size wh).drew, F11h.out.keep (Below.refl wh.heap.size wh).drew, F13h.out.keep (Below.refl wh.heap.size wh).drew, hCh.out⟩
        refine wpAnyH_take (i := 0) (v := ?_) rfl (by kernel_rfl) (by kernel_rfl) (by kernel_rfl) (fun _ _ _ h => h) (Or.inl ⟨by rfl, ?_⟩) hS0 ?_
        rotate_left 1
        · intro W hW
          go_simp
          try with_reducible rfl
        simp only [Act.put, List.getElem_toArray, List.getElem_cons_zero, List.getElem_cons_succ, List.setIfInBounds_toArray, List.set_cons_zero, List.set_cons_succ]
        refine wpAnyH_take (i := 1) (v := ?_) rfl (by kernel_rfl) (by kernel_rfl) (by kernel_rfl) (fun _ _ _ h => h) (Or.inl ⟨by rfl, ?_⟩) hS0 ?_
        rotate_left 1
        · intro W hW
          go_simp
          try with_reducible rfl
        simp only [Act.put, List.getElem_toArray, List.getElem_cons_zero, List.getElem_cons_succ, List.setIfInBounds_toArray, List.set_cons_zero, List.set_cons_succ]
        refine wpAnyH_take (i := 2) (v := ?_) rfl (by kernel_rfl) (by kernel_rfl) (by kernel_rfl) (fun _ _ _ h => h) (Or.inl ⟨by rfl, ?_⟩) hS0 ?_
        rotate_left 1
        · intro W hW
          go_simp
          try with_reducible rfl
        simp only [Act.put, List.getElem_toArray, List.getElem_cons_zero, List.getElem_cons_succ, List.setIfInBounds_toArray, List.set_cons_zero, List.set_cons_succ]
        refine wpAnyH_take (i := 3) (v := ?_) rfl (by kernel_rfl) (by kernel_rfl) (by kernel_rfl) (fun _ _ _ h => h) (Or.inl ⟨by rfl, ?_⟩) hS0 ?_
        rotate_left 1
        · intro W hW
          go_simp
          try with_reducible rfl
        simp only [Act.put, List.getElem_toArray, List.getElem_cons_zero, List.getElem_cons_succ, List.setIfInBounds_toArray, List.set_cons_zero, List.set_cons_succ]
        refine wpAnyH_take (i := 4) (v := ?_) rfl (by kernel_rfl) (by kernel_rfl) (by kernel_rfl) (fun _ _ _ h => h) (Or.inl ⟨by rfl, ?_⟩) hS0 ?_
        rotate_left 1
        · intro W hW
          go_simp
          try with_reducible rfl
        simp only [Act.put, List.getElem_toArray, List.getElem_cons_zero, List.getElem_cons_succ, List.setIfInBounds_toArray, List.set_cons_zero, List.set_cons_succ]
        refine wpAnyH_take (i := 5) (v := ?_) rfl (by kernel_rfl) (by kernel_rfl) (by kernel_rfl) (fun _ _ _ h => h) (Or.inl ⟨by rfl, ?_⟩) hS0 ?_
        rotate_left 1
        · intro W hW
          go_simp
          try with_reducible rfl
        simp only [Act.put, List.getElem_toArray, List.getElem_cons_zero, List.getElem_cons_succ, List.setIfInBounds_toArray, List.set_cons_zero, List.set_cons_succ]
        refine wpAnyH_take (i := 6) (v := ?_) rfl (by kernel_rfl) (by kernel_rfl) (by kernel_rfl) (fun _ _ _ h => h) (Or.inl ⟨by rfl, ?_⟩) hS0 ?_
        rotate_left 1
        · intro W hW
          go_simp
          try with_reducible rfl
        simp only [Act.put, List.getElem_toArray, List.getElem_cons_zero, List.getElem_cons_succ, List.setIfInBounds_toArray, List.set_cons_zero, List.set_cons_succ]
        refine wpAnyH_take (i := 7) (v := ?_) rfl (by kernel_rfl) (by kernel_rfl) (by kernel_rfl) (fun _ _ _ h => h) (Or.inl ⟨by rfl, ?_⟩) hS0 ?_
        rotate_left 1
        · intro W hW
          go_simp
          try with_reducible rfl
        simp only [Act.put, List.getElem_toArray, List.getElem_cons_zero, List.getElem_cons_succ, List.setIfInBounds_toArray, List.set_cons_zero, List.set_cons_succ]
        refine wpAnyH_take (i := 8) (v := ?_) rfl (by kernel_rfl) (by kernel_rfl) (by kernel_rfl) (fun _ _ _ h => h) (Or.inl ⟨by rfl, ?_⟩) hS0 ?_
        rotate_left 1
        · intro W hW
          go_simp
          try with_reducible rfl
        simp only [Act.put, List.getElem_toArray, List.getElem_cons_zero, List.getElem_cons_succ, List.setIfInBounds_toArray, List.set_cons_zero, List.set_cons_succ]
        refine wpAnyH_take (i := 9) (v := ?_) rfl (by kernel_rfl) (by kernel_rfl) (by kernel_rfl) (fun _ _ _ h => h) (Or.inl ⟨by rfl, ?_⟩) hS0 ?_
        rotate_left 1
        · intro W hW
          go_simp
          try with_reducible rfl
        simp only [Act.put, List.getElem_toArray, List.getElem_cons_zero, List.getElem_cons_succ, List.setIfInBounds_toArray, List.set_cons_zero, List.set_cons_succ]
        refine wpAnyH_take (i := 10) (v := ?_) rfl (by kernel_rfl) (by kernel_rfl) (by kernel_rfl) (fun _ _ _ h => h) (Or.inl ⟨by rfl, ?_⟩) hS0 ?_
        rotate_left 1
        · intro W hW
          go_simp
          try with_reducible rfl
        simp only [Act.put, List.getElem_toArray, List.getElem_cons_zero, List.getElem_cons_succ, List.setIfInBounds_toArray, List.set_cons_zero, List.set_cons_succ]
        refine wpAnyH_take (i := 11) (v := ?_) rfl (by kernel_rfl) (by kernel_rfl) (by kernel_rfl) (fun _ _ _ h => h) (Or.inl ⟨by rfl, ?_⟩) hS0 ?_
        rotate_left 1
        · intro W hW
          go_simp
          try with_reducible rfl
        simp only [Act.put, List.getElem_toArray, List.getElem_cons_zero, List.getElem_cons_succ, List.setIfInBounds_toArray, List.set_cons_zero, List.set_cons_succ]
        refine wpAnyH_take (i := 12) (v := ?_) rfl (by kernel_rfl) (by kernel_rfl) (by kernel_rfl) (fun _ _ _ h => h) (Or.inl ⟨by rfl, ?_⟩) hS0 ?_
        rotate_left 1
        · intro W hW
          go_simp
          try with_reducible rfl
        simp only [Act.put, List.getElem_toArray, List.getElem_cons_zero, List.getElem_cons_succ, List.setIfInBounds_toArray, List.set_cons_zero, List.set_cons_succ]
        refine wpAnyH_take (i := 13) (v := ?_) rfl (by kernel_rfl) (by kernel_rfl) (by kernel_rfl) (fun _ _ _ h => h) (Or.inl ⟨by rfl, ?_⟩) hS0 ?_
        rotate_left 1
        · intro W hW
          go_simp
          try with_reducible rfl
        simp only [Act.put, List.getElem_toArray, List.getElem_cons_zero, List.getElem_cons_succ, List.setIfInBounds_toArray, List.set_cons_zero, List.set_cons_succ]
        refine wpAnyH_take (i := 14) (v := ?_) rfl (by kernel_rfl) (by kernel_rfl) (by kernel_rfl) (fun _ _ _ h => h) (Or.inl ⟨by rfl, ?_⟩) hS0 ?_
        rotate_left 1
        · intro W hW
          go_simp
          try with_reducible rfl
        simp only [Act.put, List.getElem_toArray, List.getElem_cons_zero, List.getElem_cons_succ, List.setIfInBounds_toArray, List.set_cons_zero, List.set_cons_succ]
        refine wpAnyH_take (i := 15) (v := .agg rc.toArray) rfl (by kernel_rfl) (by kernel_rfl) (by kernel_rfl) (fun _ _ _ h => h) ?_ hS0 ?_
        · exact yieldsIf_load_mid (by rfl) 39 _ rfl b11 0 rfl rc d39 (fun _ h => h.2.1.range0) HU39.out HD39.out HS39.out
        simp only [Act.put, List.getElem_toArray, List.getElem_cons_zero, List.getElem_cons_succ, List.setIfInBounds_toArray, List.set_cons_zero, List.set_cons_succ]
        refine wpAnyH_take (i := 16) (v := .agg rc.toArray) rfl (by kernel_rfl) (by kernel_rfl) (by kernel_rfl) (fun _ _ _ h => h) ?_ hS0 ?_
        · exact yieldsIf_load_mid (by rfl) 39 _ rfl b10 0 rfl rc d39 (fun _ h => h.1.range0) HU39.out HD39.out HS39.out
        simp only [Act.put, List.getElem_toArray, List.getElem_cons_zero, List.getElem_cons_succ, List.setIfInBounds_toArray, List.set_cons_zero, List.set_cons_succ]
        refine wpAnyH_take (i := 17) (v := .bool false) rfl (by kernel_rfl) (by kernel_rfl) (by kernel_rfl) (fun _ _ _ h => h) ?_ hS0 ?_
        · exact yields_neq (by rfl) 39 39 _ _ rfl rc.toArray rc.toArray rfl rfl true Tryd.guard39 (fun W _ => hE39.out W)
        simp only [Act.put, List.getElem_toArray, List.getElem_cons_zero, List.getElem_cons_succ, List.setIfInBounds_toArray, List.set_cons_zero, List.set_cons_succ]
        refine wpAnyH_take (i := 18) (v := ?_) rfl (by kernel_rfl) (by kernel_rfl) (by kernel_rfl) (fun _ _ _ h => h) (Or.inl ⟨by rfl, ?_⟩) hS0 ?_
        rotate_left 1
        · intro W hW
          go_simp
          try with_reducible rfl
        simp only [Act.put, List.getElem_toArray, List.getElem_cons_zero, List.getElem_cons_succ, List.setIfInBounds_toArray, List.set_cons_zero, List.set_cons_succ]
        refine wpAnyH_take (i := 19) (v := ?_) rfl (by kernel_rfl) (by kernel_rfl) (by kernel_rfl) (fun _ _ _ h => h) (Or.inl ⟨by rfl, ?_⟩) hS0 ?_
        rotate_left 1
        · intro W hW
          go_simp
          try with_reducible rfl
        simp only [Act.put, List.getElem_toArray, List.getElem_cons_zero, List.getElem_cons_succ, List.setIfInBounds_toArray, List.set_cons_zero, List.set_cons_succ]
        refine wpAnyH_take (i := 20) (v := .agg gc.toArray) rfl (by kernel_rfl) (by kernel_rfl) (by kernel_rfl) (fun _ _ _ h => h) ?_ hS0 ?_
        · exact yieldsIf_load_mid (by rfl) 69 _ rfl b13 0 rfl gc d69 (fun _ h => h.2.2.1.range0) HU69.out HD69.out HS69.out
        simp only [Act.put, List.getElem_toArray, List.getElem_cons_zero, List.getElem_cons_succ, List.setIfInBounds_toArray, List.set_cons_zero, List.set_cons_succ]
        refine wpAnyH_take (i := 21) (v := ?_) rfl (by kernel_rfl) (by kernel_rfl) (by kernel_rfl) (fun _ _ _ h => h) (Or.inl ⟨by rfl, ?_⟩) hS0 ?_
        rotate_left 1
        · intro W hW
          go_simp
          try with_reducible rfl
        simp only [Act.put, List.getElem_toArray, List.getElem_cons_zero, List.getElem_cons_succ, List.setIfInBounds_toArray, List.set_cons_zero, List.set_cons_succ]
        refine wpAnyH_take (i := 22) (v := ?_) rfl (by kernel_rfl) (by kernel_rfl) (by kernel_rfl) (fun _ _ _ h => h) (Or.inl ⟨by rfl, ?_⟩) hS0 ?_
        rotate_left 1
        · intro W hW
          go_simp
          try with_reducible rfl
        simp only [Act.put, List.getElem_toArray, List.getElem_cons_zero, List.getElem_cons_succ, List.setIfInBounds_toArray, List.set_cons_zero, List.set_cons_succ]
        refine wpAnyH_take (i := 23) (v := ?_) rfl (by kernel_rfl) (by kernel_rfl) (by kernel_rfl) (fun _ _ _ h => h) (Or.inl ⟨by rfl, ?_⟩) hS0 ?_
        rotate_left 1
        · intro W hW
          go_simp
          try with_reducible rfl
        simp only [Act.put, List.getElem_toArray, List.getElem_cons_zero, List.getElem_cons_succ, List.setIfInBounds_toArray, List.set_cons_zero, List.set_cons_succ]
        refine wpAnyH_take (i := 24) (v := .agg gc.toArray) rfl (by kernel_rfl) (by kernel_rfl) (by kernel_rfl) (fun _ _ _ h => h) ?_ hS0 ?_
        · exact yieldsIf_load_mid (by rfl) 95 _ rfl g (k * 6) rfl gc d95 (fun _ h => h.2.2.2) HU95.out HD95.out HS95.out
        simp only [Act.put, List.getElem_toArray, List.getElem_cons_zero, List.getElem_cons_succ, List.setIfInBounds_toArray, List.set_cons_zero, List.set_cons_succ]
        refine wpAnyH_take (i := 25) (v := .bool false) rfl (by kernel_rfl) (by kernel_rfl) (by kernel_rfl) (fun _ _ _ h => h) ?_ hS0 ?_
        · exact yields_neq (by rfl) 95 95 _ _ rfl gc.toArray gc.toArray rfl rfl true Tryd.guard95 (fun W _ => hE95.out W)
        simp only [Act.put, List.getElem_toArray, List.getElem_cons_zero, List.getElem_cons_succ, List.setIfInBounds_toArray, List.set_cons_zero, List.set_cons_succ]
        refine wpAnyH_take (i := 26) (v := ?_) rfl (by kernel_rfl) (by kernel_rfl) (by kernel_rfl) (fun _ _ _ h => h) (Or.inl ⟨by rfl, ?_⟩) hS0 ?_
        rotate_left 1
        · intro W hW
          go_simp
          try with_reducible rfl
        simp only [Act.put, List.getElem_toArray, List.getElem_cons_zero, List.getElem_cons_succ, List.setIfInBounds_toArray, List.set_cons_zero, List.set_cons_succ]
        refine wpAnyH_take (i := 27) (v := ?_) rfl (by kernel_rfl) (by kernel_rfl) (by kernel_rfl) (fun _ _ _ h => h) (Or.inl ⟨by rfl, ?_⟩) hS0 ?_
        rotate_left 1
        · intro W hW
          go_simp
          try with_reducible rfl
        simp only [Act.put, List.getElem_toArray, List.getElem_cons_zero, List.getElem_cons_succ, List.setIfInBounds_toArray, List.set_cons_zero, List.set_cons_succ]
        refine wpAnyH_take (i := 28) (v := ?_) rfl (by kernel_rfl) (by kernel_rfl) (by kernel_rfl) (fun _ _ _ h => h) (Or.inl ⟨by rfl, ?_⟩) hS0 ?_
        rotate_left 1
        · intro W hW
          go_simp
          try with_reducible rfl
        simp only [Act.put, List.getElem_toArray, List.getElem_cons_zero, List.getElem_cons_succ, List.setIfInBounds_toArray, List.set_cons_zero, List.set_cons_succ]
        refine wpAnyH_take (i := 29) (v := ?_) rfl (by kernel_rfl) (by kernel_rfl) (by kernel_rfl) (fun _ _ _ h => h) (Or.inl ⟨by rfl, ?_⟩) hS0 ?_
        rotate_left 1
        · intro W hW
          go_simp
          try with_reducible rfl
        simp only [Act.put, List.getElem_toArray, List.getElem_cons_zero, List.getElem_cons_succ, List.setIfInBounds_toArray, List.set_cons_zero, List.set_cons_succ]
        refine wpAnyH_take (i := 30) (v := ?_) rfl (by kernel_rfl) (by kernel_rfl) (by kernel_rfl) (fun _ _ _ h => h) (Or.inl ⟨by rfl, ?_⟩) hS0 ?_
        rotate_left 1
        · intro W hW
          go_simp
          try with_reducible rfl
        simp only [Act.put, List.getElem_toArray, List.getElem_cons_zero, List.getElem_cons_succ, List.setIfInBounds_toArray, List.set_cons_zero, List.set_cons_succ]
        refine wpAnyH_take (i := 31) (v := ?_) rfl (by kernel_rfl) (by kernel_rfl) (by kernel_rfl) (fun _ _ _ h => h) (Or.inl ⟨by rfl, ?_⟩) hS0 ?_
        rotate_left 1
        · intro W hW
          go_simp
          try with_reducible rfl
        simp only [Act.put, List.getElem_toArray, List.getElem_cons_zero, List.getElem_cons_succ, List.setIfInBounds_toArray, List.set_cons_zero, List.set_cons_succ]
        refine wpAnyH_take (i := 32) (v := ?_) rfl (by kernel_rfl) (by kernel_rfl) (by kernel_rfl) (fun _ _ _ h => h) (Or.inl ⟨by rfl, ?_⟩) hS0 ?_
        rotate_left 1
        · intro W hW
          go_simp
          try with_reducible rfl
        simp only [Act.put, List.getElem_toArray, List.getElem_cons_zero, List.getElem_cons_succ, List.setIfInBounds_toArray, List.set_cons_zero, List.set_cons_succ]
        refine wpAnyH_take (i := 33) (v := ?_) rfl (by kernel_rfl) (by kernel_rfl) (by kernel_rfl) (fun _ _ _ h => h) (Or.inl ⟨by rfl, ?_⟩) hS0 ?_
        rotate_left 1
        · intro W hW
          go_simp
          try with_reducible rfl
        simp only [Act.put, List.getElem_toArray, List.getElem_cons_zero, List.getElem_cons_succ, List.setIfInBounds_toArray, List.set_cons_zero, List.set_cons_succ]
        refine wpAnyH_take (i := 34) (v := ?_) rfl (by kernel_rfl) (by kernel_rfl) (by kernel_rfl) (fun _ _ _ h => h) (Or.inl ⟨by rfl, ?_⟩) hS0 ?_
        rotate_left 1
        · intro W hW
          go_simp
          try with_reducible rfl
        simp only [Act.put, List.getElem_toArray, List.getElem_cons_zero, List.getElem_cons_succ, List.setIfInBounds_toArray, List.set_cons_zero, List.set_cons_succ]
        refine wpAnyH_take (i := 35) (v := ?_) rfl (by kernel_rfl) (by kernel_rfl) (by kernel_rfl) (fun _ _ _ h => h) (Or.inl ⟨by rfl, ?_⟩) hS0 ?_
        rotate_left 1
        · intro W hW
          go_simp
          try with_reducible rfl
        simp only [Act.put, List.getElem_toArray, List.getElem_cons_zero, List.getElem_cons_succ, List.setIfInBounds_toArray, List.set_cons_zero, List.set_cons_succ]
        refine wpAnyH_take (i := 36) (v := ?_) rfl (by kernel_rfl) (by kernel_rfl) (by kernel_rfl) (fun _ _ _ h => h) (Or.inl ⟨by rfl, ?_⟩) hS0 ?_
        rotate_left 1
        · intro W hW
          go_simp
          try with_reducible rfl
        simp only [Act.put, List.getElem_toArray, List.getElem_cons_zero, List.getElem_cons_succ, List.setIfInBounds_toArray, List.set_cons_zero, List.set_cons_succ]
        refine wpAnyH_done (by kernel_rfl) ?_ _
        have X1i := Lib.hid X1h.out.drew
        have Xi := Lib.hid Xh.out.drew
        have F10i := Lib.hid hS0.1
        obtain ⟨wi, hwi⟩ : ∃ x, World.drew wh = x := ⟨_, rfl⟩
        rw [hwi] at X1i Xi F10i ⊢
        clear hS0 hwi X1h Xh F10h F11h F13h hCh hE39 hE95 hCC
        go_wp2_with fail
        go_loopw [19, 121] (fun _ jv wr => ∃ j : Nat, j ≤ rs.length ∧ jv = .int .i64 j ∧ Below w1.heap.size w1 wr ∧ Below w.heap.size w wr ∧ Vl wr b10 rc) (fun _ jv _ => rs.length - (intOf jv).toNat)
        case atStart => exact ⟨0, by omega, rfl, X1i.out, Xi.out, F10i.out⟩
        case round =>
          obtain ⟨j, hj, rfl, hb1, hb, hF⟩ := hrel
          have Y1 := Lib.hid hb1
          have Y := Lib.hid hb
          have FJ := Lib.hid hF
          have hj0 : (0 : Int) ≤ j := by omega
          have hj64 : (j : Int) ≤ 64 := by omega
          obtain ⟨wY, rfl⟩ : ∃ x, x = wr := ⟨wr, rfl⟩
          clear X1i Xi F10i
          by_cases hlj : j < rs.length
          · have hlji : (j : Int) < rs.length := by omega
            have q1 := hF.c 1 _ hx1.out
            have q2 := hF.c 2 _ hx2.out
            have q3 := (hb.cell (p := ⟨b, off + j * 9 + 1, none⟩) hbl).trans (HRow.out.k1 j hlj)
            have q4 := (hb.cell (p := ⟨b, off + j * 9 + 2, none⟩) hbl).trans (HRow.out.k2 j hlj)
            have hL := fun W hb => HLeq.out k j hlt hlj W hb
            have hR := fun W => HRl.out k j hlt hlj W
            have hok1 := HOk.out rs[k] (List.getElem_mem _)
            have hok2 := HOk.out rs[j] (List.getElem_mem _)
            have hlq : leqAt rs k j = leqB rs[k].lv rs[k].cs rs[j].lv rs[j].cs := by
              unfold leqAt
              rw [regAt_in rs k hlt, regAt_in rs j hlj]
              rfl
            rw [hlq, leqB_ref _ _ _ _ hok1.2.2.2.1 hok1.2.2.2.2 hok2.2.2.2.1 hok2.2.2.2.2] at hL
            obtain ⟨B, hB⟩ : ∃ B, refLeqB rs[k].lv rs[k].cs rs[j].lv rs[j].cs = B := ⟨_, rfl⟩
            rw [hB] at hL hR
            rw [HRK.out] at hR
            have HL := Lib.hid hL
            have HR := Lib.hid hR
            have hbY := hb.size
            have hbF := hF.lt
            generalize rs[j].lv = lj at *
            generalize rs[j].cs = cj at *
            clear hL hR hlq hB hok1 hok2 hb1 hb hF
            have hbl2 : b < wY.heap.size := by omega
            cases B
            · go_upto_region 16 with fail
              refine wp_region_held (S := fun W => W.cell? ⟨b10, 1, none⟩ = some (.int .u8 r.lv) ∧ W.cell? ⟨b10, 2, none⟩ = some (.int .u16 r.cs) ∧ W.cell? ⟨b, off + j * 9 + 1, none⟩ = some (.int .u8 lj) ∧ W.cell? ⟨b, off + j * 9 + 2, none⟩ = some (.int .u16 cj)) (by kernel_rfl) ?_
              change wpAnyH _ _ _ _ _ _ _ _ (World.drew wY)
              have hS0 : (fun W : World => W.cell? ⟨b10, 1, none⟩ = some (.int .u8 r.lv) ∧ W.cell? ⟨b10, 2, none⟩ = some (.int .u16 r.cs) ∧ W.cell? ⟨b, off + j * 9 + 1, none⟩ = some (.int .u8 lj) ∧ W.cell? ⟨b, off + j * 9 + 2, none⟩ = some (.int .u16 cj)) (World.drew wY) := ⟨q1, q2, q3, q4⟩
              have V10 := Lib.hid Y1.out.drew
              have V00 := Lib.hid Y.out.drew
              have FV0 := Lib.hid (FJ.out.keep (Below.refl wY.heap.size wY).drew)
              have hqF0 : b10 < (World.drew wY).heap.size := hbF
              have hqb0 : b < (World.drew wY).heap.size := hbl2
              obtain ⟨wv, hwv⟩ : ∃ x, World.drew wY = x := ⟨_, rfl⟩
              rw [hwv] at hS0 V10 V00 FV0 hqF0 hqb0 ⊢
              clear hwv q1 q2 q3 q4 Y1 Y FJ hbY hbF hbl2
              refine wpAnyH_take (i := 0) (v := ?_) rfl (by kernel_rfl) (by kernel_rfl) (by kernel_rfl) (fun _ _ _ h => h) (Or.inl ⟨by rfl, ?_⟩) hS0 ?_
              rotate_left 1
              · intro W hW
                go_simp
                try with_reducible rfl
              simp only [Act.put, List.getElem_toArray, List.getElem_cons_zero, List.getElem_cons_succ, List.setIfInBounds_toArray, List.set_cons_zero, List.set_cons_succ]
              refine wpAnyH_take (i := 1) (v := ?_) rfl (by kernel_rfl) (by kernel_rfl) (by kernel_rfl) (fun _ _ _ h => h) (Or.inl ⟨by rfl, ?_⟩) hS0 ?_
              rotate_left 1
              · intro W hW
                go_simp
                try with_reducible rfl
              simp only [Act.put, List.getElem_toArray, List.getElem_cons_zero, List.getElem_cons_succ, List.setIfInBounds_toArray, List.set_cons_zero, List.set_cons_succ]
              refine wpAnyH_take (i := 2) (v := ?_) rfl (by kernel_rfl) (by kernel_rfl) (by kernel_rfl) (fun _ _ _ h => h) (Or.inl ⟨by rfl, ?_⟩) hS0 ?_
              rotate_left 1
              · intro W hW
                go_simp
                try with_reducible rfl
              simp only [Act.put, List.getElem_toArray, List.getElem_cons_zero, List.getElem_cons_succ, List.setIfInBounds_toArray, List.set_cons_zero, List.set_cons_succ]
              refine wpAnyH_take (i := 4) (v := ?_) rfl (by kernel_rfl) (by kernel_rfl) (by kernel_rfl) (fun _ _ _ h => h) (Or.inl ⟨by rfl, ?_⟩) hS0 ?_
              rotate_left 1
              · intro W hW
                go_simp
                try with_reducible rfl
              simp only [Act.put, List.getElem_toArray, List.getElem_cons_zero, List.getElem_cons_succ, List.setIfInBounds_toArray, List.set_cons_zero, List.set_cons_succ]
              refine wpAnyH_take (i := 5) (v := ?_) rfl (by kernel_rfl) (by kernel_rfl) (by kernel_rfl) (fun _ _ _ h => h) (Or.inl ⟨by rfl, ?_⟩) hS0 ?_
              rotate_left 1
              · intro W hW
                obtain ⟨g1, g2, g3, g4⟩ := hW
                go_simp
                try with_reducible rfl
              simp only [Act.put, List.getElem_toArray, List.getElem_cons_zero, List.getElem_cons_succ, List.setIfInBounds_toArray, List.set_cons_zero, List.set_cons_succ]
              refine wpAnyH_take (i := 6) (v := ?_) rfl (by kernel_rfl) (by kernel_rfl) (by kernel_rfl) (fun _ _ _ h => h) (Or.inl ⟨by rfl, ?_⟩) hS0 ?_
              rotate_left 1
              · intro W hW
                go_simp
                try with_reducible rfl
              simp only [Act.put, List.getElem_toArray, List.getElem_cons_zero, List.getElem_cons_succ, List.setIfInBounds_toArray, List.set_cons_zero, List.set_cons_succ]
              refine wpAnyH_take (i := 7) (v := ?_) rfl (by kernel_rfl) (by kernel_rfl) (by kernel_rfl) (fun _ _ _ h => h) (Or.inl ⟨by rfl, ?_⟩) hS0 ?_
              rotate_left 1
              · intro W hW
                go_simp
                try with_reducible rfl
              simp only [Act.put, List.getElem_toArray, List.getElem_cons_zero, List.getElem_cons_succ, List.setIfInBounds_toArray, List.set_cons_zero, List.set_cons_succ]
              refine wpAnyH_take (i := 8) (v := ?_) rfl (by kernel_rfl) (by kernel_rfl) (by kernel_rfl) (fun _ _ _ h => h) (Or.inl ⟨by rfl, ?_⟩) hS0 ?_
              rotate_left 1
              · intro W hW
                go_simp
                try with_reducible rfl
              simp only [Act.put, List.getElem_toArray, List.getElem_cons_zero, List.getElem_cons_succ, List.setIfInBounds_toArray, List.set_cons_zero, List.set_cons_succ]
              refine wpAnyH_take (i := 9) (v := ?_) rfl (by kernel_rfl) (by kernel_rfl) (by kernel_rfl) (fun _ _ _ h => h) (Or.inl ⟨by rfl, ?_⟩) hS0 ?_
              rotate_left 1
              · intro W hW
                go_simp
                try with_reducible rfl
              simp only [Act.put, List.getElem_toArray, List.getElem_cons_zero, List.getElem_cons_succ, List.setIfInBounds_toArray, List.set_cons_zero, List.set_cons_succ]
              refine wpAnyH_take (i := 10) (v := ?_) rfl (by kernel_rfl) (by kernel_rfl) (by kernel_rfl) (fun _ _ _ h => h) (Or.inl ⟨by rfl, ?_⟩) hS0 ?_
              rotate_left 1
              · intro W hW
                obtain ⟨g1, g2, g3, g4⟩ := hW
                go_simp
                try with_reducible rfl
              simp only [Act.put, List.getElem_toArray, List.getElem_cons_zero, List.getElem_cons_succ, List.setIfInBounds_toArray, List.set_cons_zero, List.set_cons_succ]
              refine wpAnyH_ready (rs := [3]) (by kernel_rfl) (by simp) (AllReadyH.cons rfl (fun KK hKK => ?_) AllReadyH.nil)
              go_simp
              refine (HL.out wv V00.out).mono ?_
              rintro e wv1 ⟨rfl, hbc⟩
              have hS1 : wv1.cell? ⟨b10, 1, none⟩ = some (.int .u8 r.lv) ∧ wv1.cell? ⟨b10, 2, none⟩ = some (.int .u16 r.cs) ∧ wv1.cell? ⟨b, off + j * 9 + 1, none⟩ = some (.int .u8 lj) ∧ wv1.cell? ⟨b, off + j * 9 + 2, none⟩ = some (.int .u16 cj) := ⟨(hbc.cell (p := ⟨b10, 1, none⟩) hqF0).trans hS0.1, (hbc.cell (p := ⟨b10, 2, none⟩) hqF0).trans hS0.2.1, (hbc.cell (p := ⟨b, off + j * 9 + 1, none⟩) hqb0).trans hS0.2.2.1, (hbc.cell (p := ⟨b, off + j * 9 + 2, none⟩) hqb0).trans hS0.2.2.2⟩
              have V11 := Lib.hid (V10.out.trans (hbc.mono V10.out.size))
              have V01 := Lib.hid (V00.out.trans (hbc.mono V00.out.size))
              have FV1 := Lib.hid (FV0.out.keep hbc)
              have hqF1 : b10 < wv1.heap.size := Nat.lt_of_lt_of_le hqF0 hbc.size
              have hqb1 : b < wv1.heap.size := Nat.lt_of_lt_of_le hqb0 hbc.size
              clear hS0 hbc V10 V00 FV0 hqF0 hqb0
              have hS0 := hS1
              clear hS1
              refine hKK _ _ hS0 ?_
              intro _
              clear hKK KK
              try simp only [Act.put, List.getElem_toArray, List.getElem_cons_zero, List.getElem_cons_succ, List.setIfInBounds_toArray, List.set_cons_zero, List.set_cons_succ]
              refine wpAnyH_ready (rs := [11]) (by kernel_rfl) (by simp) (AllReadyH.cons rfl (fun KK hKK => ?_) AllReadyH.nil)
              go_simp
              refine (HR.out wv1).mono ?_
              rintro e wv2 ⟨rfl, hbc⟩
              have hS1 : wv2.cell? ⟨b10, 1, none⟩ = some (.int .u8 r.lv) ∧ wv2.cell? ⟨b10, 2, none⟩ = some (.int .u16 r.cs) ∧ wv2.cell? ⟨b, off + j * 9 + 1, none⟩ = some (.int .u8 lj) ∧ wv2.cell? ⟨b, off + j * 9 + 2, none⟩ = some (.int .u16 cj) := ⟨(hbc.cell (p := ⟨b10, 1, none⟩) hqF1).trans hS0.1, (hbc.cell (p := ⟨b10, 2, none⟩) hqF1).trans hS0.2.1, (hbc.cell (p := ⟨b, off + j * 9 + 1, none⟩) hqb1).trans hS0.2.2.1, (hbc.cell (p := ⟨b, off + j * 9 + 2, none⟩) hqb1).trans hS0.2.2.2⟩
              have V12 := Lib.hid (V11.out.trans (hbc.mono V11.out.size))
              have V02 := Lib.hid (V01.out.trans (hbc.mono V01.out.size))
              have FV2 := Lib.hid (FV1.out.keep hbc)
              have hqF2 : b10 < wv2.heap.size := Nat.lt_of_lt_of_le hqF1 hbc.size
              have hqb2 : b < wv2.heap.size := Nat.lt_of_lt_of_le hqb1 hbc.size
              clear hS0 hbc V11 V01 FV1 hqF1 hqb1
              have hS0 := hS1
              clear hS1
              refine hKK _ _ hS0 ?_
              intro _
              clear hKK KK
              try simp only [Act.put, List.getElem_toArray, List.getElem_cons_zero, List.getElem_cons_succ, List.setIfInBounds_toArray, List.set_cons_zero, List.set_cons_succ]
              refine wpAnyH_take (i := 12) (v := ?_) rfl (by kernel_rfl) (by kernel_rfl) (by kernel_rfl) (fun _ _ _ h => h) (Or.inl ⟨by rfl, ?_⟩) hS0 ?_
              rotate_left 1
              · intro W hW
                go_simp
                try with_reducible rfl
              simp only [Act.put, List.getElem_toArray, List.getElem_cons_zero, List.getElem_cons_succ, List.setIfInBounds_toArray, List.set_cons_zero, List.set_cons_succ]
              refine wpAnyH_done (by kernel_rfl) ?_ _
              go_wp2_with fail
              go_roundw
              case rel => exact ⟨j + 1, by omega, by go_num, V12.out, V02.out, FV2.out⟩
              case measure => simp [intOf]; omega
            · go_upto_region 16 with fail
              refine wp_region_held (S := fun W => W.cell? ⟨b10, 1, none⟩ = some (.int .u8 r.lv) ∧ W.cell? ⟨b10, 2, none⟩ = some (.int .u16 r.cs) ∧ W.cell? ⟨b, off + j * 9 + 1, none⟩ = some (.int .u8 lj) ∧ W.cell? ⟨b, off + j * 9 + 2, none⟩ = some (.int .u16 cj)) (by kernel_rfl) ?_
              change wpAnyH _ _ _ _ _ _ _ _ (World.drew wY)
              have hS0 : (fun W : World => W.cell? ⟨b10, 1, none⟩ = some (.int .u8 r.lv) ∧ W.cell? ⟨b10, 2, none⟩ = some (.int .u16 r.cs) ∧ W.cell? ⟨b, off + j * 9 + 1, none⟩ = some (.int .u8 lj) ∧ W.cell? ⟨b, off + j * 9 + 2, none⟩ = some (.int .u16 cj)) (World.drew wY) := ⟨q1, q2, q3, q4⟩
              have V10 := Lib.hid Y1.out.drew
              have V00 := Lib.hid Y.out.drew
              have FV0 := Lib.hid (FJ.out.keep (Below.refl wY.heap.size wY).drew)
              have hqF0 : b10 < (World.drew wY).heap.size := hbF
              have hqb0 : b < (World.drew wY).heap.size := hbl2
              obtain ⟨wv, hwv⟩ : ∃ x, World.drew wY = x := ⟨_, rfl⟩
              rw [hwv] at hS0 V10 V00 FV0 hqF0 hqb0 ⊢
              clear hwv q1 q2 q3 q4 Y1 Y FJ hbY hbF hbl2
              refine wpAnyH_take (i := 0) (v := ?_) rfl (by kernel_rfl) (by kernel_rfl) (by kernel_rfl) (fun _ _ _ h => h) (Or.inl ⟨by rfl, ?_⟩) hS0 ?_
              rotate_left 1
              · intro W hW
                go_simp
                try with_reducible rfl
              simp only [Act.put, List.getElem_toArray, List.getElem_cons_zero, List.getElem_cons_succ, List.setIfInBounds_toArray, List.set_cons_zero, List.set_cons_succ]
              refine wpAnyH_take (i := 1) (v := ?_) rfl (by kernel_rfl) (by kernel_rfl) (by kernel_rfl) (fun _ _ _ h => h) (Or.inl ⟨by rfl, ?_⟩) hS0 ?_
              rotate_left 1
              · intro W hW
                go_simp
                try with_reducible rfl
              simp only [Act.put, List.getElem_toArray, List.getElem_cons_zero, List.getElem_cons_succ, List.setIfInBounds_toArray, List.set_cons_zero, List.set_cons_succ]
              refine wpAnyH_take (i := 2) (v := ?_) rfl (by kernel_rfl) (by kernel_rfl) (by kernel_rfl) (fun _ _ _ h => h) (Or.inl ⟨by rfl, ?_⟩) hS0 ?_
              rotate_left 1
              · intro W hW
                go_simp
                try with_reducible rfl
              simp only [Act.put, List.getElem_toArray, List.getElem_cons_zero, List.getElem_cons_succ, List.setIfInBounds_toArray, List.set_cons_zero, List.set_cons_succ]
              refine wpAnyH_take (i := 4) (v := ?_) rfl (by kernel_rfl) (by kernel_rfl) (by kernel_rfl) (fun _ _ _ h => h) (Or.inl ⟨by rfl, ?_⟩) hS0 ?_
              rotate_left 1
              · intro W hW
                go_simp
                try with_reducible rfl
              simp only [Act.put, List.getElem_toArray, List.getElem_cons_zero, List.getElem_cons_succ, List.setIfInBounds_toArray, List.set_cons_zero, List.set_cons_succ]
              refine wpAnyH_take (i := 5) (v := ?_) rfl (by kernel_rfl) (by kernel_rfl) (by kernel_rfl) (fun _ _ _ h => h) (Or.inl ⟨by rfl, ?_⟩) hS0 ?_
              rotate_left 1
              · intro W hW
                obtain ⟨g1, g2, g3, g4⟩ := hW
                go_simp
                try with_reducible rfl
              simp only [Act.put, List.getElem_toArray, List.getElem_cons_zero, List.getElem_cons_succ, List.setIfInBounds_toArray, List.set_cons_zero, List.set_cons_succ]
              refine wpAnyH_take (i := 6) (v := ?_) rfl (by kernel_rfl) (by kernel_rfl) (by kernel_rfl) (fun _ _ _ h => h) (Or.inl ⟨by rfl, ?_⟩) hS0 ?_
              rotate_left 1
              · intro W hW
                go_simp
                try with_reducible rfl
              simp only [Act.put, List.getElem_toArray, List.getElem_cons_zero, List.getElem_cons_succ, List.setIfInBounds_toArray, List.set_cons_zero, List.set_cons_succ]
              refine wpAnyH_take (i := 7) (v := ?_) rfl (by kernel_rfl) (by kernel_rfl) (by kernel_rfl) (fun _ _ _ h => h) (Or.inl ⟨by rfl, ?_⟩) hS0 ?_
              rotate_left 1
              · intro W hW
                go_simp
                try with_reducible rfl
              simp only [Act.put, List.getElem_toArray, List.getElem_cons_zero, List.getElem_cons_succ, List.setIfInBounds_toArray, List.set_cons_zero, List.set_cons_succ]
              refine wpAnyH_take (i := 8) (v := ?_) rfl (by kernel_rfl) (by kernel_rfl) (by kernel_rfl) (fun _ _ _ h => h) (Or.inl ⟨by rfl, ?_⟩) hS0 ?_
              rotate_left 1
              · intro W hW
                go_simp
                try with_reducible rfl
              simp only [Act.put, List.getElem_toArray, List.getElem_cons_zero, List.getElem_cons_succ, List.setIfInBounds_toArray, List.set_cons_zero, List.set_cons_succ]
              refine wpAnyH_take (i := 9) (v := ?_) rfl (by kernel_rfl) (by kernel_rfl) (by kernel_rfl) (fun _ _ _ h => h) (Or.inl ⟨by rfl, ?_⟩) hS0 ?_
              rotate_left 1
              · intro W hW
                go_simp
                try with_reducible rfl
              simp only [Act.put, List.getElem_toArray, List.getElem_cons_zero, List.getElem_cons_succ, List.setIfInBounds_toArray, List.set_cons_zero, List.set_cons_succ]
              refine wpAnyH_take (i := 10) (v := ?_) rfl (by kernel_rfl) (by kernel_rfl) (by kernel_rfl) (fun _ _ _ h => h) (Or.inl ⟨by rfl, ?_⟩) hS0 ?_
              rotate_left 1
              · intro W hW
                obtain ⟨g1, g2, g3, g4⟩ := hW
                go_simp
                try with_reducible rfl
              simp only [Act.put, List.getElem_toArray, List.getElem_cons_zero, List.getElem_cons_succ, List.setIfInBounds_toArray, List.set_cons_zero, List.set_cons_succ]
              refine wpAnyH_ready (rs := [3]) (by kernel_rfl) (by simp) (AllReadyH.cons rfl (fun KK hKK => ?_) AllReadyH.nil)
              go_simp
              refine (HL.out wv V00.out).mono ?_
              rintro e wv1 ⟨rfl, hbc⟩
              have hS1 : wv1.cell? ⟨b10, 1, none⟩ = some (.int .u8 r.lv) ∧ wv1.cell? ⟨b10, 2, none⟩ = some (.int .u16 r.cs) ∧ wv1.cell? ⟨b, off + j * 9 + 1, none⟩ = some (.int .u8 lj) ∧ wv1.cell? ⟨b, off + j * 9 + 2, none⟩ = some (.int .u16 cj) := ⟨(hbc.cell (p := ⟨b10, 1, none⟩) hqF0).trans hS0.1, (hbc.cell (p := ⟨b10, 2, none⟩) hqF0).trans hS0.2.1, (hbc.cell (p := ⟨b, off + j * 9 + 1, none⟩) hqb0).trans hS0.2.2.1, (hbc.cell (p := ⟨b, off + j * 9 + 2, none⟩) hqb0).trans hS0.2.2.2⟩
              have V11 := Lib.hid (V10.out.trans (hbc.mono V10.out.size))
              have V01 := Lib.hid (V00.out.trans (hbc.mono V00.out.size))
              have FV1 := Lib.hid (FV0.out.keep hbc)
              have hqF1 : b10 < wv1.heap.size := Nat.lt_of_lt_of_le hqF0 hbc.size
              have hqb1 : b < wv1.heap.size := Nat.lt_of_lt_of_le hqb0 hbc.size
              clear hS0 hbc V10 V00 FV0 hqF0 hqb0
              have hS0 := hS1
              clear hS1
              refine hKK _ _ hS0 ?_
              intro _
              clear hKK KK
              try simp only [Act.put, List.getElem_toArray, List.getElem_cons_zero, List.getElem_cons_succ, List.setIfInBounds_toArray, List.set_cons_zero, List.set_cons_succ]
              refine wpAnyH_ready (rs := [11]) (by kernel_rfl) (by simp) (AllReadyH.cons rfl (fun KK hKK => ?_) AllReadyH.nil)
              go_simp
              refine (HR.out wv1).mono ?_
              rintro e wv2 ⟨rfl, hbc⟩
              have hS1 : wv2.cell? ⟨b10, 1, none⟩ = some (.int .u8 r.lv) ∧ wv2.cell? ⟨b10, 2, none⟩ = some (.int .u16 r.cs) ∧ wv2.cell? ⟨b, off + j * 9 + 1, none⟩ = some (.int .u8 lj) ∧ wv2.cell? ⟨b, off + j * 9 + 2, none⟩ = some (.int .u16 cj) := ⟨(hbc.cell (p := ⟨b10, 1, none⟩) hqF1).trans hS0.1, (hbc.cell (p := ⟨b10, 2, none⟩) hqF1).trans hS0.2.1, (hbc.cell (p := ⟨b, off + j * 9 + 1, none⟩) hqb1).trans hS0.2.2.1, (hbc.cell (p := ⟨b, off + j * 9 + 2, none⟩) hqb1).trans hS0.2.2.2⟩
              have V12 := Lib.hid (V11.out.trans (hbc.mono V11.out.size))
              have V02 := Lib.hid (V01.out.trans (hbc.mono V01.out.size))
              have FV2 := Lib.hid (FV1.out.keep hbc)
              have hqF2 : b10 < wv2.heap.size := Nat.lt_of_lt_of_le hqF1 hbc.size
              have hqb2 : b < wv2.heap.size := Nat.lt_of_lt_of_le hqb1 hbc.size
              clear hS0 hbc V11 V01 FV1 hqF1 hqb1
              have hS0 := hS1
              clear hS1
              refine hKK _ _ hS0 ?_
              intro _
              clear hKK KK
              try simp only [Act.put, List.getElem_toArray, List.getElem_cons_zero, List.getElem_cons_succ, List.setIfInBounds_toArray, List.set_cons_zero, List.set_cons_succ]
              refine wpAnyH_take (i := 12) (v := ?_) rfl (by kernel_rfl) (by kernel_rfl) (by kernel_rfl) (fun _ _ _ h => h) (Or.inl ⟨by rfl, ?_⟩) hS0 ?_
              rotate_left 1
              · intro W hW
                go_simp
                try with_reducible rfl
              simp only [Act.put, List.getElem_toArray, List.getElem_cons_zero, List.getElem_cons_succ, List.setIfInBounds_toArray, List.set_cons_zero, List.set_cons_succ]
              refine wpAnyH_done (by kernel_rfl) ?_ _
              go_wp2_with fail
              go_roundw
              case rel => exact ⟨j + 1, by omega, by go_num, V12.out, V02.out, FV2.out⟩
              case measure => simp [intOf]; omega
          · have hlji : ¬ ((j : Int) < rs.length) := by omega
            have Z1 := Y1
            have Z := Y
            clear hb1 hb hF
            go_wp2_with fail
            go_roundw
            case rel => exact ⟨k + 1, by omega, by go_num, Z1.out, Z.out⟩
            case measure => simp [intOf]; omega
      · have hlti : ¬ ((k : Int) < rs.length) := by omega
        go_wp2_with fail
        go_meet
        case rel => exact ⟨HX1.out, HX.out⟩
  case rest =>
    obtain ⟨hb1, hb⟩ := hcut
    have HX := Lib.hid hb
    clear hb1 hb HB14 HB4 HOk
    obtain ⟨wQ, rfl⟩ : ∃ x, x = wc := ⟨wc, rfl⟩
    go_wp2_with fail
    go_loopw [21, 141] (fun _ jv wr => ∃ j : Nat, j ≤ ms.length ∧ jv = .int .i64 j ∧ Below w.heap.size w wr) (fun _ jv _ => ms.length - (intOf jv).toNat)
    case atStart => exact ⟨0, by omega, rfl, HX.out⟩
    case round =>
      obtain ⟨j, hj, rfl, hb⟩ := hrel
      have Y := Lib.hid hb
      have hj0 : (0 : Int) ≤ j := by omega
      have hj5 : (j : Int) ≤ 5000 := by omega
      clear HX
      obtain ⟨wY, rfl⟩ : ∃ x, x = wr := ⟨wr, rfl⟩
      by_cases hlj : j < ms.length
      · have hlji : (j : Int) < ms.length := by omega
        obtain ⟨bm, om, cm', hv, hbm, -, hrow⟩ := HMs.out.row (by omega)
        injection hv with hv1 hv2 hv3
        subst hv1 hv3
        have q0 := (hb.cell (p := ⟨bm, om + j * 2, none⟩) hbm).trans (hrow.k0 j hlj)
        have q1 := (hb.cell (p := ⟨bm, om + j * 2 + 1, none⟩) hbm).trans (hrow.k1 j hlj)
        have hT := fun W hb => HTr.out j hlj W hb
        have hT2 := fun W hb => HTr2.out j hlj W hb
        have hta := trusted_at HS.out HMk.out HME.out j hlj
        have hsm := mark_small HS.out HME.out j hlj
        rw [hta.1] at hT
        rw [hta.2] at hT2
        generalize ms[j].1 = a at *
        generalize ms[j].2 = c at *
        have HT := Lib.hid hT
        have HT2 := Lib.hid hT2
        obtain ⟨hc0, hc1⟩ := hsm
        have hc2 : 0 ≤ c := by omega
        have hY0 := hb.size
        clear hT hT2 hta hb hv2 hrow
        have hbmY : bm < wY.heap.size := by omega
        go_wp2_with fail
        have Y1 := Lib.hid (Y.out.alloc hY0 (.cells #[.int .u8 a, .int .u16 c] 34))
        have c0 : (wY.alloc (.cells #[.int .u8 a, .int .u16 c] 34)).cell? ⟨wY.heap.size, 0, none⟩ = some (.int .u8 a) := by simp
        have c1 : (wY.alloc (.cells #[.int .u8 a, .int .u16 c] 34)).cell? ⟨wY.heap.size, 1, none⟩ = some (.int .u16 c) := by simp
        have hlt1 : wY.heap.size < (wY.alloc (.cells #[.int .u8 a, .int .u16 c] 34)).heap.size := by simp
        obtain ⟨wZ, hwZ⟩ : ∃ x, wY.alloc (.cells #[.int .u8 a, .int .u16 c] 34) = x := ⟨_, rfl⟩
        obtain ⟨bY, hbY⟩ : ∃ x, wY.heap.size = x := ⟨_, rfl⟩
        rw [hwZ] at Y1 c0 c1 hlt1 ⊢
        rw [hbY] at c0 c1 hlt1
        try rw [hbY]
        clear hwZ hbY q0 q1 Y
        refine (HT.out wZ Y1.out).mono ?_
        rintro e wA ⟨rfl, hbc⟩
        have d0 := (hbc.cell (p := ⟨bY, 0, none⟩) hlt1).trans c0
        have d1 := (hbc.cell (p := ⟨bY, 1, none⟩) hlt1).trans c1
        have YA := Lib.hid (Y1.out.trans (hbc.mono Y1.out.size))
        clear hbc c0 c1 Y1 HT
        go_wp2_with fail
        refine (HT2.out wA YA.out).mono ?_
        rintro e wB ⟨rfl, hbc⟩
        have YB := Lib.hid (YA.out.trans (hbc.mono YA.out.size))
        clear hbc d0 d1 YA HT2
        go_wp2_with fail
        go_roundw
        case rel => exact ⟨j + 1, by omega, by go_num, YB.out⟩
        case measure => simp [intOf]; omega
      · have hlji : ¬ ((j : Int) < ms.length) := by omega
        clear hb
        go_wp2_with fail
        go_ret
        exact ⟨rfl, Y.out⟩
end Go.Proofs.YtfackmiojbdjhaaDoor
