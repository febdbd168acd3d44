import Derived.Test.YtfackmiojbdjhaaDoorBF
import Derived.Test.YtfackmiojbdjhaaDoorG1
import Derived.Test.YtfackmiojbdjhaaDoorCW
/- ConfBack: the walk. -/
namespace Go.Proofs.YtfackmiojbdjhaaDoor
set_option linter.unusedSimpArgs false
set_option linter.unusedVariables false
open Go.RowKit Go.Maps

theorem size_low (M : Nat) (hM : M = 2 ∨ M = 3 ∨ M = 4 ∨ M = 5) (H : Nat → Nat → Int) (hH : Hok H) : ∀ r ∈ sizeRs M H, Low r := by
  intro r hr
  rw [sizeRs_map M hM, List.mem_map] at hr
  obtain ⟨i, hi, rfl⟩ := hr
  have hi : i < 5 := by have := List.mem_range.1 hi; omega
  have h0 := hH i 0 hi (by omega)
  have h1 := hH i 1 hi (by omega)
  have h2 := hH i 2 hi (by omega)
  have h3 := hH i 3 hi (by omega)
  have h4 := hH i 4 hi (by omega)
  constructor
  all_goals
    simp only [rsN, sizeRg]
    omega
theorem size_m100 (M : Nat) (hM : M = 2 ∨ M = 3 ∨ M = 4 ∨ M = 5) (ts : List Int) : ∀ y ∈ sizeMs M ts, y.2 < 100 := by
  intro y hy
  have hg := (acM_good M (by omega) ts ts.length (Nat.le_refl _)).2
  rw [acM_all] at hg
  have := hg y hy
  omega
theorem same_all3 (n : Nat) (vr vm vg v vmm : Value) (rs : List Rg) (ms : List (Int × Int)) (hok : ∀ r ∈ rs, r.ok) (hmk : ∀ m ∈ ms, markOk m) (hml : ms.length ≤ 5000) (hE : newE rs ms = 0) (w : World) (hr : Regs w v rs) (hms : Mks w vmm ms) (h : CF n w vr vm vg rs ms) :
    Calls Tryd.prog 11 #[.pointer (some ⟨n + 3, 0, none⟩), v, vmm] w fun e w' => e = .returned (.bool true) ∧ Below w.heap.size w w' := by
  obtain ⟨b, off, cap, rfl, hbl, -, hrow⟩ := hr.row (newE_zero hE).1
  exact same_any n b off cap vr vm vg vmm rs ms hok hmk hml hE w hbl hrow hms h
theorem confT_size {rs : List Rg} {ms : List (Int × Int)} (hE : newE rs ms = 0) (hok : ∀ r ∈ rs, r.ok) (hlow : ∀ r ∈ rs, Low r) (hm100 : ∀ m ∈ ms, m.2 < 100) (h5 : rs.length ≤ 5) (h9 : ms.length ≤ 9) : (confT rs ms).size ≤ 4000 := by
  have hg := good_of hE hok
  have hm := goodM_of hE hok
  have h := txM_len hg hlow (fun m h => ⟨hm m h, hm100 m h⟩) ms.length (Nat.le_refl _)
  rw [conf_txt]
  show (txM rs ms ms.length).toArray.size ≤ 4000
  rw [List.size_toArray]
  omega

set_option maxHeartbeats 40000000 in
set_option maxRecDepth 200000 in
theorem back_walk (m : Int) (m0 : 0 ≤ m) (m1 : m < 256) (H : Nat → Nat → Int) (hH : Hok H) (tv : Value) (ts : List Int) (hts : ∀ x ∈ ts, 0 ≤ x ∧ x < 256) (w : World) (htv : U8s w tv ts) (hl : ts.length ≤ maxLen) (hG : Gl w) :
    Calls Tryd.prog 5 #[sizeVal m H tv] w fun e w' => e = .returned (.bool true) ∧ Below w.heap.size w w' := by
  obtain ⟨M, hM⟩ : ∃ M, 2 + m.toNat % 4 = M := ⟨_, rfl⟩
  have hM4 : M = 2 ∨ M = 3 ∨ M = 4 ∨ M = 5 := by omega
  have hP := Lib.hid (fun W (h : U8s W tv ts) => sizeregs_any m m0 m1 H hH tv ts hts W h hl M hM)
  have hE := size_newE M hM4 H hH ts
  have hok := size_ok M hM4 H
  have hmk := size_mkOk M hM4 ts
  have hlow := size_low M hM4 H hH
  have hm1 := size_m100 M hM4 ts
  have hms := sizeMs_len M ts
  have hrl := sizeRs_len M hM4 H
  have hsz := confT_size hE hok hlow hm1 (by omega) hms
  have hcp := conf_parse hE hok
  have HTV := Lib.hid htv
  have HA := Lib.hid (fun W (h : Gl W) => awake_any W h)
  have hg2 := hG.lt
  have HG := Lib.hid hG
  have hc : (w.alloc (.cells #[.int .u8 m, .int .u8 (H 0 0), .int .u8 (H 0 1), .int .u8 (H 0 2), .int .u8 (H 0 3), .int .u8 (H 0 4), .int .u8 (H 1 0), .int .u8 (H 1 1), .int .u8 (H 1 2), .int .u8 (H 1 3), .int .u8 (H 1 4), .int .u8 (H 2 0), .int .u8 (H 2 1), .int .u8 (H 2 2), .int .u8 (H 2 3), .int .u8 (H 2 4), .int .u8 (H 3 0), .int .u8 (H 3 1), .int .u8 (H 3 2), .int .u8 (H 3 3), .int .u8 (H 3 4), .int .u8 (H 4 0), .int .u8 (H 4 1), .int .u8 (H 4 2), .int .u8 (H 4 3), .int .u8 (H 4 4), tv] 28)).rangeAt w.heap.size 0 [.int .u8 m, .int .u8 (H 0 0), .int .u8 (H 0 1), .int .u8 (H 0 2), .int .u8 (H 0 3), .int .u8 (H 0 4), .int .u8 (H 1 0), .int .u8 (H 1 1), .int .u8 (H 1 2), .int .u8 (H 1 3), .int .u8 (H 1 4), .int .u8 (H 2 0), .int .u8 (H 2 1), .int .u8 (H 2 2), .int .u8 (H 2 3), .int .u8 (H 2 4), .int .u8 (H 3 0), .int .u8 (H 3 1), .int .u8 (H 3 2), .int .u8 (H 3 3), .int .u8 (H 3 4), .int .u8 (H 4 0), .int .u8 (H 4 1), .int .u8 (H 4 2), .int .u8 (H 4 3), .int .u8 (H 4 4), tv] := by
    intro j u hj
    have := cells_new w [.int .u8 m, .int .u8 (H 0 0), .int .u8 (H 0 1), .int .u8 (H 0 2), .int .u8 (H 0 3), .int .u8 (H 0 4), .int .u8 (H 1 0), .int .u8 (H 1 1), .int .u8 (H 1 2), .int .u8 (H 1 3), .int .u8 (H 1 4), .int .u8 (H 2 0), .int .u8 (H 2 1), .int .u8 (H 2 2), .int .u8 (H 2 3), .int .u8 (H 2 4), .int .u8 (H 3 0), .int .u8 (H 3 1), .int .u8 (H 3 2), .int .u8 (H 3 3), .int .u8 (H 3 4), .int .u8 (H 4 0), .int .u8 (H 4 1), .int .u8 (H 4 2), .int .u8 (H 4 3), .int .u8 (H 4 4), tv] 28 j u hj
    rw [Addr.add_mid] at this
    exact this
  have hq : (Tryd.prog.underlying 28).map (·.isRow) = some true := by kernel_rfl
  obtain ⟨d, hu, hd⟩ := Option.map_eq_some_iff.1 hq
  have hi : (Tryd.prog.info? 28).map (·.size) = some ([.int .u8 m, .int .u8 (H 0 0), .int .u8 (H 0 1), .int .u8 (H 0 2), .int .u8 (H 0 3), .int .u8 (H 0 4), .int .u8 (H 1 0), .int .u8 (H 1 1), .int .u8 (H 1 2), .int .u8 (H 1 3), .int .u8 (H 1 4), .int .u8 (H 2 0), .int .u8 (H 2 1), .int .u8 (H 2 2), .int .u8 (H 2 3), .int .u8 (H 2 4), .int .u8 (H 3 0), .int .u8 (H 3 1), .int .u8 (H 3 2), .int .u8 (H 3 3), .int .u8 (H 3 4), .int .u8 (H 4 0), .int .u8 (H 4 1), .int .u8 (H 4 2), .int .u8 (H 4 3), .int .u8 (H 4 4), tv] : List Value).length := by kernel_rfl
  have HC := Lib.hid hc
  have HU := Lib.hid hu
  have HD := Lib.hid hd
  have HI := Lib.hid hi
  unfold sizeVal at hP ⊢
  clear hc hu hd hi hq htv hts hH hM hG
  obtain ⟨R, hR⟩ : ∃ x, sizeRs M H = x := ⟨_, rfl⟩
  obtain ⟨MS, hMS⟩ : ∃ x, sizeMs M ts = x := ⟨_, rfl⟩
  rw [hR, hMS] at hE hsz hcp
  rw [hR] at hok hlow hrl
  rw [hMS] at hmk hm1 hms
  rw [hR, hMS] at hP
  have HN := Lib.hid (fun v1 v2 W (h1 : Regs W v1 R) (h2 : Mks W v2 MS) => new_any v1 v2 R MS W h1 hok h2 hmk (by omega))
  have HT := Lib.hid (fun n vr vm vg W (h : CF n W vr vm vg R MS) (hg : Gl W) => ctext_any n vr vm vg R MS hE hok hlow hm1 (by omega) W h hg)
  have HS := Lib.hid (fun n vr vm vg v vmm W (hr : Regs W v R) (hm : Mks W vmm MS) (h : CF n W vr vm vg R MS) => same_all3 n vr vm vg v vmm R MS hok hmk (by omega) hE W hr hm h)
  have HQ := Lib.hid (fun W (hg : Gl W) => cparse_any (confT R MS) W hsz hg)
  have HE := Lib.hid hE
  have HCP := Lib.hid hcp
  clear hR hMS hE hok hlow hrl hmk hm1 hms hsz hcp
  obtain ⟨T, hT⟩ : ∃ x, confT R MS = x := ⟨_, rfl⟩
  rw [hT] at HT HQ HCP
  clear hT hM4
  go_enter Tryd.func5, Tryd.ntmps5
  go_wp2_with fail
  obtain ⟨W, hW⟩ : ∃ z, w.alloc (.cells #[.int .u8 m, .int .u8 (H 0 0), .int .u8 (H 0 1), .int .u8 (H 0 2), .int .u8 (H 0 3), .int .u8 (H 0 4), .int .u8 (H 1 0), .int .u8 (H 1 1), .int .u8 (H 1 2), .int .u8 (H 1 3), .int .u8 (H 1 4), .int .u8 (H 2 0), .int .u8 (H 2 1), .int .u8 (H 2 2), .int .u8 (H 2 3), .int .u8 (H 2 4), .int .u8 (H 3 0), .int .u8 (H 3 1), .int .u8 (H 3 2), .int .u8 (H 3 3), .int .u8 (H 3 4), .int .u8 (H 4 0), .int .u8 (H 4 1), .int .u8 (H 4 2), .int .u8 (H 4 3), .int .u8 (H 4 4), tv] 28) = z := ⟨_, rfl⟩
  rw [hW] at HC ⊢
  have hbW : Below w.heap.size w W := by rw [← hW]; exact (Below.refl _ _).alloc (Nat.le_refl _) _
  have hlW : w.heap.size < W.heap.size := by rw [← hW]; simp
  obtain ⟨sv0, hsv⟩ : ∃ x : Value, .agg #[.int .u8 m, .int .u8 (H 0 0), .int .u8 (H 0 1), .int .u8 (H 0 2), .int .u8 (H 0 3), .int .u8 (H 0 4), .int .u8 (H 1 0), .int .u8 (H 1 1), .int .u8 (H 1 2), .int .u8 (H 1 3), .int .u8 (H 1 4), .int .u8 (H 2 0), .int .u8 (H 2 1), .int .u8 (H 2 2), .int .u8 (H 2 3), .int .u8 (H 2 4), .int .u8 (H 3 0), .int .u8 (H 3 1), .int .u8 (H 3 2), .int .u8 (H 3 3), .int .u8 (H 3 4), .int .u8 (H 4 0), .int .u8 (H 4 1), .int .u8 (H 4 2), .int .u8 (H 4 3), .int .u8 (H 4 4), tv] = x := ⟨_, rfl⟩
  rw [hsv]
  clear hW
  refine (HA.out W (HG.out.below hbW (by omega))).mono ?_
  rintro e w1 ⟨rfl, hb1⟩
  have HB1 := Lib.hid (hbW.trans (hb1.mono hbW.size))
  have HC1 : Hid (w1.rangeAt w.heap.size 0 [.int .u8 m, .int .u8 (H 0 0), .int .u8 (H 0 1), .int .u8 (H 0 2), .int .u8 (H 0 3), .int .u8 (H 0 4), .int .u8 (H 1 0), .int .u8 (H 1 1), .int .u8 (H 1 2), .int .u8 (H 1 3), .int .u8 (H 1 4), .int .u8 (H 2 0), .int .u8 (H 2 1), .int .u8 (H 2 2), .int .u8 (H 2 3), .int .u8 (H 2 4), .int .u8 (H 3 0), .int .u8 (H 3 1), .int .u8 (H 3 2), .int .u8 (H 3 3), .int .u8 (H 3 4), .int .u8 (H 4 0), .int .u8 (H 4 1), .int .u8 (H 4 2), .int .u8 (H 4 3), .int .u8 (H 4 4), tv]) := fun j u hj => (hb1.cell (p := ⟨w.heap.size, 0 + j, none⟩) hlW).trans (HC.out j u hj)
  clear hb1 hbW hlW HC hsv
  go_wp2_with (refine wpList_load_mid rfl 28 _ rfl w.heap.size 0 rfl [.int .u8 m, .int .u8 (H 0 0), .int .u8 (H 0 1), .int .u8 (H 0 2), .int .u8 (H 0 3), .int .u8 (H 0 4), .int .u8 (H 1 0), .int .u8 (H 1 1), .int .u8 (H 1 2), .int .u8 (H 1 3), .int .u8 (H 1 4), .int .u8 (H 2 0), .int .u8 (H 2 1), .int .u8 (H 2 2), .int .u8 (H 2 3), .int .u8 (H 2 4), .int .u8 (H 3 0), .int .u8 (H 3 1), .int .u8 (H 3 2), .int .u8 (H 3 3), .int .u8 (H 3 4), .int .u8 (H 4 0), .int .u8 (H 4 1), .int .u8 (H 4 2), .int .u8 (H 4 3), .int .u8 (H 4 4), tv] d HC1.out HU.out HD.out HI.out ?_)
  refine (hP.out w1 (HTV.out.below HB1.out)).mono ?_
  rintro e w2 ⟨v1, v2, rfl, hb2, hr2, hk2⟩
  have HB2 := Lib.hid (HB1.out.trans (hb2.mono HB1.out.size))
  have HR2 := Lib.hid hr2
  have HK2 := Lib.hid hk2
  clear hP hb2 hr2 hk2 HC1 HU HD HI HA HTV HB1
  go_wp2_with fail
  refine (HN.out v1 v2 w2 HR2.out HK2.out).mono ?_
  rintro e w3 hpost
  obtain ⟨n, vr, vm, vg, rfl, hn, hb3, hCF⟩ := hpost.2 HE.out
  have HCF := Lib.hid hCF
  have HB3 := Lib.hid (HB2.out.trans (hb3.mono HB2.out.size))
  have HR3 := Lib.hid (HR2.out.below hb3)
  have HK3 := Lib.hid (HK2.out.below hb3)
  clear hpost hn hb3 hCF HB2 HR2 HK2 HN
  go_wp2_with fail
  refine (HT.out n vr vm vg w3 HCF.out (HG.out.below HB3.out hg2)).mono ?_
  rintro e w4 ⟨rfl, hb4⟩
  have HCF4 := Lib.hid (HCF.out.below hb4)
  have HB4 := Lib.hid (HB3.out.trans (hb4.mono HB3.out.size))
  have HR4 := Lib.hid (HR3.out.below hb4)
  have HK4 := Lib.hid (HK3.out.below hb4)
  clear hb4 HCF HB3 HR3 HK3
  go_wp2_with fail
  refine (HQ.out w4 (HG.out.below HB4.out hg2)).mono ?_
  rintro e w5 hpost
  obtain ⟨hb5, -, hp⟩ := hpost
  obtain ⟨n2, vr2, vm2, vg2, rfl, -, hCF2⟩ := hp (by rw [HCP.out.1])
  rw [HCP.out.2.1, HCP.out.2.2] at hCF2
  have HCF2 := Lib.hid hCF2
  have HCF5 := Lib.hid (HCF4.out.below hb5)
  have HB5 := Lib.hid (HB4.out.trans (hb5.mono HB4.out.size))
  have HR5 := Lib.hid (HR4.out.below hb5)
  have HK5 := Lib.hid (HK4.out.below hb5)
  clear hb5 hp hCF2 HCF4 HB4 HR4 HK4 HQ HCP
  go_wp2_with fail
  refine (HS.out n2 vr2 vm2 vg2 v1 v2 w5 HR5.out HK5.out HCF2.out).mono ?_
  rintro e w6 ⟨rfl, hb6⟩
  have HCF6 := Lib.hid (HCF5.out.below hb6)
  have HCFd := Lib.hid (HCF2.out.below hb6)
  have HB6 := Lib.hid (HB5.out.trans (hb6.mono HB5.out.size))
  clear hb6 HCF5 HCF2 HB5 HR5 HK5 HS
  go_wp2_with fail
  refine (HT.out n2 vr2 vm2 vg2 w6 HCFd.out (HG.out.below HB6.out hg2)).mono ?_
  rintro e w7 ⟨rfl, hb7⟩
  have HCF7 := Lib.hid (HCF6.out.below hb7)
  have HB7 := Lib.hid (HB6.out.trans (hb7.mono HB6.out.size))
  clear hb7 HCF6 HCFd HB6
  go_wp2_with fail
  refine (HT.out n vr vm vg w7 HCF7.out (HG.out.below HB7.out hg2)).mono ?_
  rintro e w8 ⟨rfl, hb8⟩
  have HB8 := Lib.hid (HB7.out.trans (hb8.mono HB7.out.size))
  clear hb8 HCF7 HB7 HT
  go_wp2_with fail
  go_ret
  exact ⟨rfl, HB8.out⟩
end Go.Proofs.YtfackmiojbdjhaaDoor
