import Derived.Test.YtehldpnhdnlljaaDoorPS
/- The law's own paths. -/
namespace Go.Proofs.YtehldpnhdnlljaaDoor.Pt
set_option linter.unusedSimpArgs false
set_option linter.unusedVariables false
open Go.RowKit Go.Maps

def nmS : List ByteArray := [⟨#[97]⟩, ⟨#[98, 98]⟩, ⟨#[46]⟩, ⟨#[46, 46]⟩, ⟨#[99, 45, 100]⟩, ⟨#[101]⟩]
def atS : List ByteArray := [⟨#[108, 111, 119]⟩, ⟨#[114, 101, 100]⟩, ⟨#[116, 111, 112]⟩]
def blueS : ByteArray := ⟨#[98, 108, 117, 101]⟩
/-- the law's own parts -/
def mdP (n : Nat) : Pr := if 240 < n then (⟨#[]⟩, blueS) else (nmS.getD (n % 6) ⟨#[]⟩, if (n % 6 ≠ 2 ∧ n % 6 ≠ 3) ∧ 100 < n then atS.getD (n % 3) ⟨#[]⟩ else ⟨#[]⟩)
def mdL (zs : List Int) : List Pr := (zs.take 9).map fun z => mdP z.toNat
theorem mdL_len (zs : List Int) : (mdL zs).length ≤ 9 := by
  unfold mdL
  rw [List.length_map, List.length_take]
  omega
theorem mdL_step (zs : List Int) (k : Nat) (z : Int) (h : zs[k]? = some z) (hk : k < 9) : mdL (zs.take (k + 1)) = mdL (zs.take k) ++ [mdP z.toNat] := by
  unfold mdL
  have hl : (zs.take k).length = k := by
    have := (List.getElem?_eq_some_iff.1 h).1
    rw [List.length_take]
    omega
  rw [show zs.take (k + 1) = zs.take k ++ [z] from by rw [List.take_add_one, h]; rfl]
  have e1 : (zs.take k ++ [z]).take 9 = zs.take k ++ [z] := List.take_of_length_le (by rw [List.length_append, hl]; simp; omega)
  have e2 : (zs.take k).take 9 = zs.take k := List.take_of_length_le (by omega)
  rw [e1, e2, List.map_append]
  rfl
theorem mdL_full (zs : List Int) (k : Nat) (hk : 9 ≤ k) : mdL (zs.take k) = mdL zs := by
  unfold mdL
  rw [List.take_take, Nat.min_eq_left hk]
set_option maxHeartbeats 40000000 in
set_option maxRecDepth 100000 in
theorem made_any (a : Bool) (lv : Value) (zs : List Int) (hz : ∀ z ∈ zs, 0 ≤ z ∧ z < 256) (w : World) (hU : U8s w lv zs) :
    Calls Tryd.prog 13 #[.bool a, lv] w fun e w' => ∃ v, e = .returned (.agg (pa2 a v).toArray) ∧ w'.ownsRow w.heap.size 34 2 v (mdL zs).length (flP (mdL zs)) ∧ Below w.heap.size w w' := by
  obtain ⟨d, hu, hd⟩ := Tryd.descPa
  have HUd := Lib.hid hu
  have HDd := Lib.hid hd
  obtain ⟨dp, hup, hdp⟩ := Tryd.descPr
  have HUp := Lib.hid hup
  have HDp := Lib.hid hdp
  obtain ⟨iP, hi, hiz, hsz, hby⟩ := Tryd.infoPr
  have HI := Lib.hid hi
  have HZi := Lib.hid hiz
  have HSZ := Lib.hid hsz
  have HBY := Lib.hid hby
  have HZ := Lib.hid hz
  obtain ⟨la, lc, rfl, hzl⟩ := U8s.form hU
  have HU := Lib.hid hU
  obtain ⟨n, hn⟩ : ∃ n, zs.length = n := ⟨_, rfl⟩
  rw [hn] at hU HU hzl
  try rw [hn]
  have HN := Lib.hid hn
  have hn0 : (0 : Int) ≤ n := by omega
  have hn9 : (n : Int) ≤ 9223372036854775807 := by unfold maxLen at hzl; omega
  clear hu hd hup hdp hi hiz hsz hby hz hU hn hzl
  go_enter Tryd.func13, Tryd.ntmps13
  go_upto_region 2 with (first | (refine wpList_alloc_list (w := w) rfl 27 rfl (pa2 false (.slice none 0 0)) Tryd.zeroPa ?_; intro w1 F1 hb1 hz1; have HB1 := Lib.hid hb1; have Hz1 := Lib.hid hz1; clear hb1 hz1) | (refine wpList_alloc_list (w := w1) rfl 27 rfl (pa2 false (.slice none 0 0)) Tryd.zeroPa ?_; intro w2 F2 hb2 hz2; have HB2 := Lib.hid (HB1.out.trans (hb2.mono HB1.out.size)); have G1 := Lib.hid (F1.out.keep hb2); have Hz2 := Lib.hid hz2; clear hb2 hz2) | (refine wpList_store_list rfl 27 _ _ rfl w1.heap.size (pa2 false (.slice none 0 0)) (pa2 a (.slice none 0 0)) rfl rfl F2.out rfl (sizePa _ _) (pa2_one _ _ _ _) ?_; intro w3 F3 HK3))
  have hz1 := Hz1.out
  have hz2 := Hz2.out
  have hk3 := HK3.out.size
  obtain ⟨x2, hx2⟩ : ∃ x, w.heap.size = x := ⟨_, rfl⟩
  obtain ⟨x4, hx4⟩ : ∃ x, w1.heap.size = x := ⟨_, rfl⟩
  have HB3 := Lib.hid (HB2.out.trans (HK3.out.below (by omega) (by omega) (by omega)))
  have G3 := Lib.hid (G1.out.kp HK3.out (by omega) (by omega))
  have HX := Lib.hid (⟨hx2, by omega, by omega⟩ : w.heap.size = x2 ∧ x2 < x4 ∧ x4 < w3.heap.size)
  rw [hx2] at G3
  rw [hx4] at F3
  try rw [hx2]
  try rw [hx4]
  clear hz1 hz2 Hz1 Hz2 hk3 hx2 hx4 HB1 HB2 F1 F2 G1 HK3
  go_upto_region 3 with fail
  have hbd : Below w3.heap.size w3 (w3.alloc (.cells (nmS.map Value.string).toArray 9)) := below_alloc0 w3 _ _
  have hsz4 : (w3.alloc (.cells (nmS.map Value.string).toArray 9)).heap.size = w3.heap.size + 1 := by simp
  have hcl : ∀ j, j < 6 → (w3.alloc (.cells (nmS.map Value.string).toArray 9)).cell? ⟨w3.heap.size, j, none⟩ = some (.string (nmS.getD j ⟨#[]⟩)) := by
    intro j hj
    rw [World.cell?_alloc_at _ _ _ _ rfl]
    match j, hj with
    | 0, _ | 1, _ | 2, _ | 3, _ | 4, _ | 5, _ => rfl
  have F4 := Lib.hid (F3.out.keep hbd)
  have G4 := Lib.hid (G3.out.keep hbd)
  have HB4 := Lib.hid (HB3.out.trans (hbd.mono HB3.out.size))
  obtain ⟨x5, hx5⟩ : ∃ x, w3.heap.size = x := ⟨_, rfl⟩
  obtain ⟨w4, hw4⟩ : ∃ x, w3.alloc (.cells (nmS.map Value.string).toArray 9) = x := ⟨_, rfl⟩
  rw [hw4] at hcl hsz4 F4 G4 HB4
  have hw4' : w3.alloc (.cells #[.string ⟨#[97]⟩, .string ⟨#[98, 98]⟩, .string ⟨#[46]⟩, .string ⟨#[46, 46]⟩, .string ⟨#[99, 45, 100]⟩, .string ⟨#[101]⟩] 9) = w4 := hw4
  try rw [hw4']
  rw [hx5] at hcl hsz4 HX
  try rw [hx5]
  have HCl := Lib.hid hcl
  have HY := Lib.hid hsz4
  clear hbd hsz4 hcl hx5 hw4 hw4' F3 G3 HB3
  go_wp2_with fail
  go_loopw [7, 8, 9, 15] (fun _ _ _ iv wr => ∃ (k : Nat) (lv : Value), k ≤ n ∧ iv = .int .i64 k ∧ Hid (Kp w4 wr x4 x4) ∧ Hid (Vl wr x4 (pa2 a lv)) ∧ Hid (wr.ownsRow w4.heap.size 34 2 lv (mdL (zs.take k)).length (flP (mdL (zs.take k))))) (fun _ _ _ iv _ => n - (Go.RowKit.intOf iv).toNat)
  case atStart => exact ⟨0, _, Nat.zero_le _, rfl, Lib.hid (Kp.refl _ _ _), F4, Lib.hid (World.ownsRow_nil _ _ _ _)⟩
  case round =>
    obtain ⟨k, lv, hk, rfl, HKp, HV, HO⟩ := hrel
    obtain ⟨pl, cl, rfl⟩ := ownsRow_form HO.out
    have hA := mdL_len (zs.take k)
    obtain ⟨na, hna⟩ : ∃ x, (mdL (zs.take k)).length = x := ⟨_, rfl⟩
    rw [hna] at hA HV HO
    try rw [hna]
    have HNa := Lib.hid hna
    clear hna
    have hk0 : (0 : Int) ≤ k := by omega
    by_cases hlt : k < n
    · obtain ⟨z, hz0⟩ : ∃ z, zs[k]? = some z := ⟨_, List.getElem?_eq_getElem (by rw [HN.out]; exact hlt)⟩
      have hki : (k : Int) < n := by omega
      have hw1 : IntKind.i64.wrap ((k : Int) + 1) = ((k + 1 : Nat) : Int) := by rw [IntKind.wrap_i64]; omega
      obtain ⟨ub, uo, rfl, hc⟩ : ∃ b o, la = some ⟨b, o, none⟩ ∧ wr.cell? ⟨b, o + k, none⟩ = some (.int .u8 z) := by
        rcases HU.out with ⟨a, cap, h1, h2⟩ | ⟨b, off, cap, h1, hbl, -, h2⟩
        · rw [h2] at hz0; simp at hz0
        · injection h1 with h1 h3 h4
          refine ⟨b, off, h1, ?_⟩
          have h5 := h2 k (by rw [HN.out]; exact hlt)
          rw [List.getElem?_eq_getElem (by rw [HN.out]; exact hlt)] at hz0
          rw [Option.some.inj hz0] at h5
          have h6 := HX.out
          have h7 := HY.out
          exact (HKp.out.cell (p := ⟨b, off + k, none⟩) (by show b < _; omega) (by show b ≠ _; omega) (by show b ≠ _; omega)).trans ((HB4.out.cell (p := ⟨b, off + k, none⟩) hbl).trans h5)
      obtain ⟨z0, z1⟩ := HZ.out z (List.mem_of_getElem? hz0)
      obtain ⟨zn, rfl⟩ := Int.eq_ofNat_of_zero_le z0
      by_cases h9 : k < 9
      · have g9 : ¬ ((9 : Int) ≤ k) := by omega
        have hst := mdL_step zs k zn hz0 h9
        rw [show ((zn : Int)).toNat = zn from by omega] at hst
        have HMs := Lib.hid hst
        have hq : zn % 6 < 6 := Nat.mod_lt _ (by decide)
        have hq3 : zn % 3 < 3 := Nat.mod_lt _ (by decide)
        have hm6 : Int.tmod (zn : Int) 6 = ((zn % 6 : Nat) : Int) := by rw [Int.tmod_eq_emod_of_nonneg (by omega)]; omega
        have hm3 : Int.tmod (zn : Int) 3 = ((zn % 3 : Nat) : Int) := by rw [Int.tmod_eq_emod_of_nonneg (by omega)]; omega
        have hnm := (HKp.out.cell (p := ⟨x5, zn % 6, none⟩) (by show x5 < _; have := HY.out; omega) (by show x5 ≠ _; have := HX.out; omega) (by show x5 ≠ _; have := HX.out; omega)).trans (HCl.out _ hq)
        have HMd : Hid (mdP zn = if 240 < zn then (⟨#[]⟩, blueS) else (nmS.getD (zn % 6) ⟨#[]⟩, if (zn % 6 ≠ 2 ∧ zn % 6 ≠ 3) ∧ 100 < zn then atS.getD (zn % 3) ⟨#[]⟩ else ⟨#[]⟩)) := Lib.hid rfl
        generalize nmS.getD (zn % 6) ⟨#[]⟩ = nm at *
        obtain ⟨q, hqq⟩ : ∃ q, zn % 6 = q := ⟨_, rfl⟩
        rw [hqq] at hm6 hq hnm HMd
        have hqi : (q : Int) < 6 := by omega
        have hqi0 : (0 : Int) ≤ q := by omega
        clear hz0 hst
        by_cases q2 : q = 2
        · subst q2
          by_cases hbig : 240 < zn
          · have g4 : (240 : Int) < zn := by omega
            go_upto_region 8 with fail
            have hb5 : Below wr.heap.size wr (wr.alloc (.cells #[.string nm, .string ⟨#[]⟩] 34)) := below_alloc0 wr _ _
            have V5 := Lib.hid (Vl.new wr [.string nm, .string ⟨#[]⟩] 34)
            change Hid (Vl (wr.alloc (.cells #[.string nm, .string ⟨#[]⟩] 34)) wr.heap.size [.string nm, .string ⟨#[]⟩]) at V5
            have X5 := Lib.hid (HV.out.keep hb5)
            have O5 := Lib.hid (ownsRow_below HO.out hb5)
            have K5 := Lib.hid (HKp.out.trans (Kp.of_below hb5 _ _))
            have hgb := HKp.out.size
            have HO9 := Lib.hid (fun x hx => (HO.out.lt x hx).2)
            obtain ⟨b9, hb9⟩ : ∃ x, wr.heap.size = x := ⟨_, rfl⟩
            obtain ⟨w5, hw5⟩ : ∃ x, wr.alloc (.cells #[.string nm, .string ⟨#[]⟩] 34) = x := ⟨_, rfl⟩
            rw [hw5] at V5 X5 O5 K5
            rw [hb9] at V5 hgb HO9
            try rw [hw5]
            try rw [hb9]
            have HB9 : Hid (w4.heap.size ≤ b9) := Lib.hid hgb
            clear hb5 hb9 hw5 hgb HV HO HKp hc hnm
            go_upto_region 10 with fail
            go_upto_region 12 with (refine wpList_store_list rfl 34 _ _ rfl b9 [.string nm, .string ⟨#[]⟩] [.string ⟨#[]⟩, .string blueS] rfl rfl V5.out rfl Tryd.isizePr (pc_one (⟨#[]⟩, blueS)) ?_; intro w7 V7 HK7)
            have X7 := Lib.hid (X5.out.kp HK7.out (by have := HX.out; have := HY.out; have := HB9.out; omega) (by have := HX.out; have := HY.out; have := HB9.out; omega))
            have O7 := Lib.hid (ownsRow_kpo O5.out HK7.out (fun x hx => by have := HO9.out x hx; omega))
            have K7 := Lib.hid (K5.out.newer HK7.out HB9.out)
            clear V5 X5 O5 K5 HK7
            have HPp : Hid (mdP zn = (⟨#[]⟩, blueS)) := Lib.hid (by rw [HMd.out]; simp [hqq, hbig])
            have c1 := X7.out.c 1 _ rfl
            go_wp2_with (first | (refine wpList_load_mid rfl 34 _ rfl b9 0 rfl [.string ⟨#[]⟩, .string blueS] dp V7.out.range0 HUp.out HDp.out Tryd.isizePr ?_) | (at_builtin; refine wpList_append_own _ rfl _ _ 25 rfl w4.heap.size 34 iP _ 2 32 Tryd.underlying25 HI.out HZi.out HSZ.out HBY.out rfl (by decide) _ na _ rfl (O7.out.alloc _) ⟨w7.heap.size, 0, none⟩ 1 1 [.string ⟨#[]⟩, .string blueS] rfl rfl (cells_new w7 _ 34) (pc_one (⟨#[]⟩, blueS)) (by unfold maxLen; omega) (by omega) (by have := K7.out.size; simp; omega) ?_; intro v1 w9 hown1 hgrow _; have O9 := Lib.hid hown1; have V9 := Lib.hid ((X7.out.keep (below_alloc0 w7 #[.string ⟨#[]⟩, .string blueS] 34)).grownO hgrow (fun x hx => by have := (O7.out.lt x hx).1; have := HX.out; have := HY.out; omega)); have K8 : Kp w4 (w7.alloc (.cells #[.string ⟨#[]⟩, .string blueS] 34)) x4 x4 := K7.out.trans (Kp.of_below (below_alloc0 w7 #[.string ⟨#[]⟩, .string blueS] 34) x4 x4); have K9 := Lib.hid (K8.growO (base := 0) (v := .slice pl na cl) hgrow (fun x hx => (O7.out.lt x hx).1)); clear K8; obtain ⟨pv, cv, rfl⟩ := ownsRow_form hown1; clear c1; have c1 := V9.out.c 1 _ rfl; have z1 := V9.out.z 1 (Nat.lt_succ_self 1); clear hown1 hgrow))
            go_roundw
            case rel =>
              refine ⟨k + 1, .slice pv (na + 1) cv, hlt, by go_num, Lib.hid (K9.out.setA 1 _), Lib.hid (V9.out.set 1 (Nat.lt_succ_self 1) _), Lib.hid ?_⟩
              rw [HMs.out, HPp.out, List.length_append, HNa.out, flP_snoc]
              exact ownsRow_kpo O9.out ((Kp.refl w9 x4 x4).setA 1 _) (fun x hx => by have := (O9.out.lt x hx).1; have := HX.out; have := HY.out; omega)
            case measure => (simp [Go.RowKit.intOf]; try omega)
          · have g4 : ¬ ((240 : Int) < zn) := by omega
            go_upto_region 8 with fail
            have hb5 : Below wr.heap.size wr (wr.alloc (.cells #[.string nm, .string ⟨#[]⟩] 34)) := below_alloc0 wr _ _
            have V5 := Lib.hid (Vl.new wr [.string nm, .string ⟨#[]⟩] 34)
            change Hid (Vl (wr.alloc (.cells #[.string nm, .string ⟨#[]⟩] 34)) wr.heap.size [.string nm, .string ⟨#[]⟩]) at V5
            have X5 := Lib.hid (HV.out.keep hb5)
            have O5 := Lib.hid (ownsRow_below HO.out hb5)
            have K5 := Lib.hid (HKp.out.trans (Kp.of_below hb5 _ _))
            have hgb := HKp.out.size
            have HO9 := Lib.hid (fun x hx => (HO.out.lt x hx).2)
            obtain ⟨b9, hb9⟩ : ∃ x, wr.heap.size = x := ⟨_, rfl⟩
            obtain ⟨w5, hw5⟩ : ∃ x, wr.alloc (.cells #[.string nm, .string ⟨#[]⟩] 34) = x := ⟨_, rfl⟩
            rw [hw5] at V5 X5 O5 K5
            rw [hb9] at V5 hgb HO9
            try rw [hw5]
            try rw [hb9]
            have HB9 : Hid (w4.heap.size ≤ b9) := Lib.hid hgb
            clear hb5 hb9 hw5 hgb HV HO HKp hc hnm
            go_upto_region 10 with fail
            go_upto_region 12 with fail
            have HPp : Hid (mdP zn = (nm, ⟨#[]⟩)) := Lib.hid (by rw [HMd.out]; simp [hqq, hbig])
            have c1 := X5.out.c 1 _ rfl
            go_wp2_with (first | (refine wpList_load_mid rfl 34 _ rfl b9 0 rfl [.string nm, .string ⟨#[]⟩] dp V5.out.range0 HUp.out HDp.out Tryd.isizePr ?_) | (at_builtin; refine wpList_append_own _ rfl _ _ 25 rfl w4.heap.size 34 iP _ 2 32 Tryd.underlying25 HI.out HZi.out HSZ.out HBY.out rfl (by decide) _ na _ rfl (O5.out.alloc _) ⟨w5.heap.size, 0, none⟩ 1 1 [.string nm, .string ⟨#[]⟩] rfl rfl (cells_new w5 _ 34) (pc_one (nm, ⟨#[]⟩)) (by unfold maxLen; omega) (by omega) (by have := K5.out.size; simp; omega) ?_; intro v1 w9 hown1 hgrow _; have O9 := Lib.hid hown1; have V9 := Lib.hid ((X5.out.keep (below_alloc0 w5 #[.string nm, .string ⟨#[]⟩] 34)).grownO hgrow (fun x hx => by have := (O5.out.lt x hx).1; have := HX.out; have := HY.out; omega)); have K8 : Kp w4 (w5.alloc (.cells #[.string nm, .string ⟨#[]⟩] 34)) x4 x4 := K5.out.trans (Kp.of_below (below_alloc0 w5 #[.string nm, .string ⟨#[]⟩] 34) x4 x4); have K9 := Lib.hid (K8.growO (base := 0) (v := .slice pl na cl) hgrow (fun x hx => (O5.out.lt x hx).1)); clear K8; obtain ⟨pv, cv, rfl⟩ := ownsRow_form hown1; clear c1; have c1 := V9.out.c 1 _ rfl; have z1 := V9.out.z 1 (Nat.lt_succ_self 1); clear hown1 hgrow))
            go_roundw
            case rel =>
              refine ⟨k + 1, .slice pv (na + 1) cv, hlt, by go_num, Lib.hid (K9.out.setA 1 _), Lib.hid (V9.out.set 1 (Nat.lt_succ_self 1) _), Lib.hid ?_⟩
              rw [HMs.out, HPp.out, List.length_append, HNa.out, flP_snoc]
              exact ownsRow_kpo O9.out ((Kp.refl w9 x4 x4).setA 1 _) (fun x hx => by have := (O9.out.lt x hx).1; have := HX.out; have := HY.out; omega)
            case measure => (simp [Go.RowKit.intOf]; try omega)
        · have gq2 : ¬ ((q : Int) = 2) := by omega
          have gq2b : ((q : Int) != 2) = true := by simpa using gq2
          by_cases q3' : q = 3
          · subst q3'
            by_cases hbig : 240 < zn
            · have g4 : (240 : Int) < zn := by omega
              go_upto_region 8 with fail
              have hb5 : Below wr.heap.size wr (wr.alloc (.cells #[.string nm, .string ⟨#[]⟩] 34)) := below_alloc0 wr _ _
              have V5 := Lib.hid (Vl.new wr [.string nm, .string ⟨#[]⟩] 34)
              change Hid (Vl (wr.alloc (.cells #[.string nm, .string ⟨#[]⟩] 34)) wr.heap.size [.string nm, .string ⟨#[]⟩]) at V5
              have X5 := Lib.hid (HV.out.keep hb5)
              have O5 := Lib.hid (ownsRow_below HO.out hb5)
              have K5 := Lib.hid (HKp.out.trans (Kp.of_below hb5 _ _))
              have hgb := HKp.out.size
              have HO9 := Lib.hid (fun x hx => (HO.out.lt x hx).2)
              obtain ⟨b9, hb9⟩ : ∃ x, wr.heap.size = x := ⟨_, rfl⟩
              obtain ⟨w5, hw5⟩ : ∃ x, wr.alloc (.cells #[.string nm, .string ⟨#[]⟩] 34) = x := ⟨_, rfl⟩
              rw [hw5] at V5 X5 O5 K5
              rw [hb9] at V5 hgb HO9
              try rw [hw5]
              try rw [hb9]
              have HB9 : Hid (w4.heap.size ≤ b9) := Lib.hid hgb
              clear hb5 hb9 hw5 hgb HV HO HKp hc hnm
              go_upto_region 10 with fail
              go_upto_region 12 with (refine wpList_store_list rfl 34 _ _ rfl b9 [.string nm, .string ⟨#[]⟩] [.string ⟨#[]⟩, .string blueS] rfl rfl V5.out rfl Tryd.isizePr (pc_one (⟨#[]⟩, blueS)) ?_; intro w7 V7 HK7)
              have X7 := Lib.hid (X5.out.kp HK7.out (by have := HX.out; have := HY.out; have := HB9.out; omega) (by have := HX.out; have := HY.out; have := HB9.out; omega))
              have O7 := Lib.hid (ownsRow_kpo O5.out HK7.out (fun x hx => by have := HO9.out x hx; omega))
              have K7 := Lib.hid (K5.out.newer HK7.out HB9.out)
              clear V5 X5 O5 K5 HK7
              have HPp : Hid (mdP zn = (⟨#[]⟩, blueS)) := Lib.hid (by rw [HMd.out]; simp [hqq, hbig])
              have c1 := X7.out.c 1 _ rfl
              go_wp2_with (first | (refine wpList_load_mid rfl 34 _ rfl b9 0 rfl [.string ⟨#[]⟩, .string blueS] dp V7.out.range0 HUp.out HDp.out Tryd.isizePr ?_) | (at_builtin; refine wpList_append_own _ rfl _ _ 25 rfl w4.heap.size 34 iP _ 2 32 Tryd.underlying25 HI.out HZi.out HSZ.out HBY.out rfl (by decide) _ na _ rfl (O7.out.alloc _) ⟨w7.heap.size, 0, none⟩ 1 1 [.string ⟨#[]⟩, .string blueS] rfl rfl (cells_new w7 _ 34) (pc_one (⟨#[]⟩, blueS)) (by unfold maxLen; omega) (by omega) (by have := K7.out.size; simp; omega) ?_; intro v1 w9 hown1 hgrow _; have O9 := Lib.hid hown1; have V9 := Lib.hid ((X7.out.keep (below_alloc0 w7 #[.string ⟨#[]⟩, .string blueS] 34)).grownO hgrow (fun x hx => by have := (O7.out.lt x hx).1; have := HX.out; have := HY.out; omega)); have K8 : Kp w4 (w7.alloc (.cells #[.string ⟨#[]⟩, .string blueS] 34)) x4 x4 := K7.out.trans (Kp.of_below (below_alloc0 w7 #[.string ⟨#[]⟩, .string blueS] 34) x4 x4); have K9 := Lib.hid (K8.growO (base := 0) (v := .slice pl na cl) hgrow (fun x hx => (O7.out.lt x hx).1)); clear K8; obtain ⟨pv, cv, rfl⟩ := ownsRow_form hown1; clear c1; have c1 := V9.out.c 1 _ rfl; have z1 := V9.out.z 1 (Nat.lt_succ_self 1); clear hown1 hgrow))
              go_roundw
              case rel =>
                refine ⟨k + 1, .slice pv (na + 1) cv, hlt, by go_num, Lib.hid (K9.out.setA 1 _), Lib.hid (V9.out.set 1 (Nat.lt_succ_self 1) _), Lib.hid ?_⟩
                rw [HMs.out, HPp.out, List.length_append, HNa.out, flP_snoc]
                exact ownsRow_kpo O9.out ((Kp.refl w9 x4 x4).setA 1 _) (fun x hx => by have := (O9.out.lt x hx).1; have := HX.out; have := HY.out; omega)
              case measure => (simp [Go.RowKit.intOf]; try omega)
            · have g4 : ¬ ((240 : Int) < zn) := by omega
              go_upto_region 8 with fail
              have hb5 : Below wr.heap.size wr (wr.alloc (.cells #[.string nm, .string ⟨#[]⟩] 34)) := below_alloc0 wr _ _
              have V5 := Lib.hid (Vl.new wr [.string nm, .string ⟨#[]⟩] 34)
              change Hid (Vl (wr.alloc (.cells #[.string nm, .string ⟨#[]⟩] 34)) wr.heap.size [.string nm, .string ⟨#[]⟩]) at V5
              have X5 := Lib.hid (HV.out.keep hb5)
              have O5 := Lib.hid (ownsRow_below HO.out hb5)
              have K5 := Lib.hid (HKp.out.trans (Kp.of_below hb5 _ _))
              have hgb := HKp.out.size
              have HO9 := Lib.hid (fun x hx => (HO.out.lt x hx).2)
              obtain ⟨b9, hb9⟩ : ∃ x, wr.heap.size = x := ⟨_, rfl⟩
              obtain ⟨w5, hw5⟩ : ∃ x, wr.alloc (.cells #[.string nm, .string ⟨#[]⟩] 34) = x := ⟨_, rfl⟩
              rw [hw5] at V5 X5 O5 K5
              rw [hb9] at V5 hgb HO9
              try rw [hw5]
              try rw [hb9]
              have HB9 : Hid (w4.heap.size ≤ b9) := Lib.hid hgb
              clear hb5 hb9 hw5 hgb HV HO HKp hc hnm
              go_upto_region 10 with fail
              go_upto_region 12 with fail
              have HPp : Hid (mdP zn = (nm, ⟨#[]⟩)) := Lib.hid (by rw [HMd.out]; simp [hqq, hbig])
              have c1 := X5.out.c 1 _ rfl
              go_wp2_with (first | (refine wpList_load_mid rfl 34 _ rfl b9 0 rfl [.string nm, .string ⟨#[]⟩] dp V5.out.range0 HUp.out HDp.out Tryd.isizePr ?_) | (at_builtin; refine wpList_append_own _ rfl _ _ 25 rfl w4.heap.size 34 iP _ 2 32 Tryd.underlying25 HI.out HZi.out HSZ.out HBY.out rfl (by decide) _ na _ rfl (O5.out.alloc _) ⟨w5.heap.size, 0, none⟩ 1 1 [.string nm, .string ⟨#[]⟩] rfl rfl (cells_new w5 _ 34) (pc_one (nm, ⟨#[]⟩)) (by unfold maxLen; omega) (by omega) (by have := K5.out.size; simp; omega) ?_; intro v1 w9 hown1 hgrow _; have O9 := Lib.hid hown1; have V9 := Lib.hid ((X5.out.keep (below_alloc0 w5 #[.string nm, .string ⟨#[]⟩] 34)).grownO hgrow (fun x hx => by have := (O5.out.lt x hx).1; have := HX.out; have := HY.out; omega)); have K8 : Kp w4 (w5.alloc (.cells #[.string nm, .string ⟨#[]⟩] 34)) x4 x4 := K5.out.trans (Kp.of_below (below_alloc0 w5 #[.string nm, .string ⟨#[]⟩] 34) x4 x4); have K9 := Lib.hid (K8.growO (base := 0) (v := .slice pl na cl) hgrow (fun x hx => (O5.out.lt x hx).1)); clear K8; obtain ⟨pv, cv, rfl⟩ := ownsRow_form hown1; clear c1; have c1 := V9.out.c 1 _ rfl; have z1 := V9.out.z 1 (Nat.lt_succ_self 1); clear hown1 hgrow))
              go_roundw
              case rel =>
                refine ⟨k + 1, .slice pv (na + 1) cv, hlt, by go_num, Lib.hid (K9.out.setA 1 _), Lib.hid (V9.out.set 1 (Nat.lt_succ_self 1) _), Lib.hid ?_⟩
                rw [HMs.out, HPp.out, List.length_append, HNa.out, flP_snoc]
                exact ownsRow_kpo O9.out ((Kp.refl w9 x4 x4).setA 1 _) (fun x hx => by have := (O9.out.lt x hx).1; have := HX.out; have := HY.out; omega)
              case measure => (simp [Go.RowKit.intOf]; try omega)
          · have gq3 : ¬ ((q : Int) = 3) := by omega
            have gq3b : ((q : Int) != 3) = true := by simpa using gq3
            by_cases h100 : 100 < zn
            · have g5 : (100 : Int) < zn := by omega
              by_cases hbig : 240 < zn
              · have g4 : (240 : Int) < zn := by omega
                go_upto_region 8 with fail
                have hb5 : Below wr.heap.size wr (wr.alloc (.cells #[.string nm, .string ⟨#[]⟩] 34)) := below_alloc0 wr _ _
                have V5 := Lib.hid (Vl.new wr [.string nm, .string ⟨#[]⟩] 34)
                change Hid (Vl (wr.alloc (.cells #[.string nm, .string ⟨#[]⟩] 34)) wr.heap.size [.string nm, .string ⟨#[]⟩]) at V5
                have X5 := Lib.hid (HV.out.keep hb5)
                have O5 := Lib.hid (ownsRow_below HO.out hb5)
                have K5 := Lib.hid (HKp.out.trans (Kp.of_below hb5 _ _))
                have hgb := HKp.out.size
                have HO9 := Lib.hid (fun x hx => (HO.out.lt x hx).2)
                obtain ⟨b9, hb9⟩ : ∃ x, wr.heap.size = x := ⟨_, rfl⟩
                obtain ⟨w5, hw5⟩ : ∃ x, wr.alloc (.cells #[.string nm, .string ⟨#[]⟩] 34) = x := ⟨_, rfl⟩
                rw [hw5] at V5 X5 O5 K5
                rw [hb9] at V5 hgb HO9
                try rw [hw5]
                try rw [hb9]
                have HB9 : Hid (w4.heap.size ≤ b9) := Lib.hid hgb
                clear hb5 hb9 hw5 hgb HV HO HKp hc hnm
                have hb6 : Below w5.heap.size w5 (w5.alloc (.cells #[.string ⟨#[108, 111, 119]⟩, .string ⟨#[114, 101, 100]⟩, .string ⟨#[116, 111, 112]⟩] 9)) := below_alloc0 w5 _ _
                have V5a := V5.out.keep hb6
                have e1 := V5a.c 1 _ rfl
                have f1 := V5a.z 1 (Nat.lt_succ_self 1)
                clear V5a
                have hat : ∀ W, (World.alloc W (.cells #[.string ⟨#[108, 111, 119]⟩, .string ⟨#[114, 101, 100]⟩, .string ⟨#[116, 111, 112]⟩] 9)).cell? ⟨W.heap.size, zn % 3, none⟩ = some (.string (atS.getD (zn % 3) ⟨#[]⟩)) := fun W => by
                  rw [World.cell?_alloc_at _ _ _ _ rfl]
                  generalize zn % 3 = j at hq3
                  match j, hq3 with
                  | 0, _ | 1, _ | 2, _ => rfl
                have hat1 := hat w5
                clear hat
                generalize atS.getD (zn % 3) ⟨#[]⟩ = at3 at *
                obtain ⟨q3, hq33⟩ : ∃ q, zn % 3 = q := ⟨_, rfl⟩
                rw [hq33] at hm3 hq3 hat1
                have hq3i : (q3 : Int) < 3 := by omega
                have hq3j : (0 : Int) ≤ q3 := by omega
                clear hq33
                go_upto_region 10 with fail
                have hk6 : Kp (w5.alloc (.cells #[.string ⟨#[108, 111, 119]⟩, .string ⟨#[114, 101, 100]⟩, .string ⟨#[116, 111, 112]⟩] 9)) (World.setCell (w5.alloc (.cells #[.string ⟨#[108, 111, 119]⟩, .string ⟨#[114, 101, 100]⟩, .string ⟨#[116, 111, 112]⟩] 9)) ⟨b9, 1, none⟩ (.string at3)) b9 b9 := (Kp.refl _ b9 b9).setA 1 _
                have V6 : Hid (Vl (World.setCell (w5.alloc (.cells #[.string ⟨#[108, 111, 119]⟩, .string ⟨#[114, 101, 100]⟩, .string ⟨#[116, 111, 112]⟩] 9)) ⟨b9, 1, none⟩ (.string at3)) b9 [.string nm, .string at3]) := Lib.hid ((V5.out.keep hb6).set 1 (Nat.lt_succ_self 1) _)
                have X6 := Lib.hid ((X5.out.keep hb6).kp hk6 (by have := HX.out; have := HY.out; have := HB9.out; omega) (by have := HX.out; have := HY.out; have := HB9.out; omega))
                have O6 := Lib.hid (ownsRow_kpo (ownsRow_below O5.out hb6) hk6 (fun x hx => by have := HO9.out x hx; omega))
                have K6 := Lib.hid ((K5.out.trans (Kp.of_below hb6 _ _)).newer hk6 HB9.out)
                obtain ⟨w6, hw6⟩ : ∃ x, World.setCell (w5.alloc (.cells #[.string ⟨#[108, 111, 119]⟩, .string ⟨#[114, 101, 100]⟩, .string ⟨#[116, 111, 112]⟩] 9)) ⟨b9, 1, none⟩ (.string at3) = x := ⟨_, rfl⟩
                rw [hw6] at V6 X6 O6 K6
                try rw [hw6]
                clear hb6 hk6 hw6 e1 f1 hat1 V5 X5 O5 K5
                go_upto_region 12 with (refine wpList_store_list rfl 34 _ _ rfl b9 [.string nm, .string at3] [.string ⟨#[]⟩, .string blueS] rfl rfl V6.out rfl Tryd.isizePr (pc_one (⟨#[]⟩, blueS)) ?_; intro w7 V7 HK7)
                have X7 := Lib.hid (X6.out.kp HK7.out (by have := HX.out; have := HY.out; have := HB9.out; omega) (by have := HX.out; have := HY.out; have := HB9.out; omega))
                have O7 := Lib.hid (ownsRow_kpo O6.out HK7.out (fun x hx => by have := HO9.out x hx; omega))
                have K7 := Lib.hid (K6.out.newer HK7.out HB9.out)
                clear V6 X6 O6 K6 HK7
                have HPp : Hid (mdP zn = (⟨#[]⟩, blueS)) := Lib.hid (by rw [HMd.out]; simp [hqq, q2, q3', h100, hbig])
                have c1 := X7.out.c 1 _ rfl
                go_wp2_with (first | (refine wpList_load_mid rfl 34 _ rfl b9 0 rfl [.string ⟨#[]⟩, .string blueS] dp V7.out.range0 HUp.out HDp.out Tryd.isizePr ?_) | (at_builtin; refine wpList_append_own _ rfl _ _ 25 rfl w4.heap.size 34 iP _ 2 32 Tryd.underlying25 HI.out HZi.out HSZ.out HBY.out rfl (by decide) _ na _ rfl (O7.out.alloc _) ⟨w7.heap.size, 0, none⟩ 1 1 [.string ⟨#[]⟩, .string blueS] rfl rfl (cells_new w7 _ 34) (pc_one (⟨#[]⟩, blueS)) (by unfold maxLen; omega) (by omega) (by have := K7.out.size; simp; omega) ?_; intro v1 w9 hown1 hgrow _; have O9 := Lib.hid hown1; have V9 := Lib.hid ((X7.out.keep (below_alloc0 w7 #[.string ⟨#[]⟩, .string blueS] 34)).grownO hgrow (fun x hx => by have := (O7.out.lt x hx).1; have := HX.out; have := HY.out; omega)); have K8 : Kp w4 (w7.alloc (.cells #[.string ⟨#[]⟩, .string blueS] 34)) x4 x4 := K7.out.trans (Kp.of_below (below_alloc0 w7 #[.string ⟨#[]⟩, .string blueS] 34) x4 x4); have K9 := Lib.hid (K8.growO (base := 0) (v := .slice pl na cl) hgrow (fun x hx => (O7.out.lt x hx).1)); clear K8; obtain ⟨pv, cv, rfl⟩ := ownsRow_form hown1; clear c1; have c1 := V9.out.c 1 _ rfl; have z1 := V9.out.z 1 (Nat.lt_succ_self 1); clear hown1 hgrow))
                go_roundw
                case rel =>
                  refine ⟨k + 1, .slice pv (na + 1) cv, hlt, by go_num, Lib.hid (K9.out.setA 1 _), Lib.hid (V9.out.set 1 (Nat.lt_succ_self 1) _), Lib.hid ?_⟩
                  rw [HMs.out, HPp.out, List.length_append, HNa.out, flP_snoc]
                  exact ownsRow_kpo O9.out ((Kp.refl w9 x4 x4).setA 1 _) (fun x hx => by have := (O9.out.lt x hx).1; have := HX.out; have := HY.out; omega)
                case measure => (simp [Go.RowKit.intOf]; try omega)
              · have g4 : ¬ ((240 : Int) < zn) := by omega
                go_upto_region 8 with fail
                have hb5 : Below wr.heap.size wr (wr.alloc (.cells #[.string nm, .string ⟨#[]⟩] 34)) := below_alloc0 wr _ _
                have V5 := Lib.hid (Vl.new wr [.string nm, .string ⟨#[]⟩] 34)
                change Hid (Vl (wr.alloc (.cells #[.string nm, .string ⟨#[]⟩] 34)) wr.heap.size [.string nm, .string ⟨#[]⟩]) at V5
                have X5 := Lib.hid (HV.out.keep hb5)
                have O5 := Lib.hid (ownsRow_below HO.out hb5)
                have K5 := Lib.hid (HKp.out.trans (Kp.of_below hb5 _ _))
                have hgb := HKp.out.size
                have HO9 := Lib.hid (fun x hx => (HO.out.lt x hx).2)
                obtain ⟨b9, hb9⟩ : ∃ x, wr.heap.size = x := ⟨_, rfl⟩
                obtain ⟨w5, hw5⟩ : ∃ x, wr.alloc (.cells #[.string nm, .string ⟨#[]⟩] 34) = x := ⟨_, rfl⟩
                rw [hw5] at V5 X5 O5 K5
                rw [hb9] at V5 hgb HO9
                try rw [hw5]
                try rw [hb9]
                have HB9 : Hid (w4.heap.size ≤ b9) := Lib.hid hgb
                clear hb5 hb9 hw5 hgb HV HO HKp hc hnm
                have hb6 : Below w5.heap.size w5 (w5.alloc (.cells #[.string ⟨#[108, 111, 119]⟩, .string ⟨#[114, 101, 100]⟩, .string ⟨#[116, 111, 112]⟩] 9)) := below_alloc0 w5 _ _
                have V5a := V5.out.keep hb6
                have e1 := V5a.c 1 _ rfl
                have f1 := V5a.z 1 (Nat.lt_succ_self 1)
                clear V5a
                have hat : ∀ W, (World.alloc W (.cells #[.string ⟨#[108, 111, 119]⟩, .string ⟨#[114, 101, 100]⟩, .string ⟨#[116, 111, 112]⟩] 9)).cell? ⟨W.heap.size, zn % 3, none⟩ = some (.string (atS.getD (zn % 3) ⟨#[]⟩)) := fun W => by
                  rw [World.cell?_alloc_at _ _ _ _ rfl]
                  generalize zn % 3 = j at hq3
                  match j, hq3 with
                  | 0, _ | 1, _ | 2, _ => rfl
                have hat1 := hat w5
                clear hat
                generalize atS.getD (zn % 3) ⟨#[]⟩ = at3 at *
                obtain ⟨q3, hq33⟩ : ∃ q, zn % 3 = q := ⟨_, rfl⟩
                rw [hq33] at hm3 hq3 hat1
                have hq3i : (q3 : Int) < 3 := by omega
                have hq3j : (0 : Int) ≤ q3 := by omega
                clear hq33
                go_upto_region 10 with fail
                have hk6 : Kp (w5.alloc (.cells #[.string ⟨#[108, 111, 119]⟩, .string ⟨#[114, 101, 100]⟩, .string ⟨#[116, 111, 112]⟩] 9)) (World.setCell (w5.alloc (.cells #[.string ⟨#[108, 111, 119]⟩, .string ⟨#[114, 101, 100]⟩, .string ⟨#[116, 111, 112]⟩] 9)) ⟨b9, 1, none⟩ (.string at3)) b9 b9 := (Kp.refl _ b9 b9).setA 1 _
                have V6 : Hid (Vl (World.setCell (w5.alloc (.cells #[.string ⟨#[108, 111, 119]⟩, .string ⟨#[114, 101, 100]⟩, .string ⟨#[116, 111, 112]⟩] 9)) ⟨b9, 1, none⟩ (.string at3)) b9 [.string nm, .string at3]) := Lib.hid ((V5.out.keep hb6).set 1 (Nat.lt_succ_self 1) _)
                have X6 := Lib.hid ((X5.out.keep hb6).kp hk6 (by have := HX.out; have := HY.out; have := HB9.out; omega) (by have := HX.out; have := HY.out; have := HB9.out; omega))
                have O6 := Lib.hid (ownsRow_kpo (ownsRow_below O5.out hb6) hk6 (fun x hx => by have := HO9.out x hx; omega))
                have K6 := Lib.hid ((K5.out.trans (Kp.of_below hb6 _ _)).newer hk6 HB9.out)
                obtain ⟨w6, hw6⟩ : ∃ x, World.setCell (w5.alloc (.cells #[.string ⟨#[108, 111, 119]⟩, .string ⟨#[114, 101, 100]⟩, .string ⟨#[116, 111, 112]⟩] 9)) ⟨b9, 1, none⟩ (.string at3) = x := ⟨_, rfl⟩
                rw [hw6] at V6 X6 O6 K6
                try rw [hw6]
                clear hb6 hk6 hw6 e1 f1 hat1 V5 X5 O5 K5
                go_upto_region 12 with fail
                have HPp : Hid (mdP zn = (nm, at3)) := Lib.hid (by rw [HMd.out]; simp [hqq, q2, q3', h100, hbig])
                have c1 := X6.out.c 1 _ rfl
                go_wp2_with (first | (refine wpList_load_mid rfl 34 _ rfl b9 0 rfl [.string nm, .string at3] dp V6.out.range0 HUp.out HDp.out Tryd.isizePr ?_) | (at_builtin; refine wpList_append_own _ rfl _ _ 25 rfl w4.heap.size 34 iP _ 2 32 Tryd.underlying25 HI.out HZi.out HSZ.out HBY.out rfl (by decide) _ na _ rfl (O6.out.alloc _) ⟨w6.heap.size, 0, none⟩ 1 1 [.string nm, .string at3] rfl rfl (cells_new w6 _ 34) (pc_one (nm, at3)) (by unfold maxLen; omega) (by omega) (by have := K6.out.size; simp; omega) ?_; intro v1 w9 hown1 hgrow _; have O9 := Lib.hid hown1; have V9 := Lib.hid ((X6.out.keep (below_alloc0 w6 #[.string nm, .string at3] 34)).grownO hgrow (fun x hx => by have := (O6.out.lt x hx).1; have := HX.out; have := HY.out; omega)); have K8 : Kp w4 (w6.alloc (.cells #[.string nm, .string at3] 34)) x4 x4 := K6.out.trans (Kp.of_below (below_alloc0 w6 #[.string nm, .string at3] 34) x4 x4); have K9 := Lib.hid (K8.growO (base := 0) (v := .slice pl na cl) hgrow (fun x hx => (O6.out.lt x hx).1)); clear K8; obtain ⟨pv, cv, rfl⟩ := ownsRow_form hown1; clear c1; have c1 := V9.out.c 1 _ rfl; have z1 := V9.out.z 1 (Nat.lt_succ_self 1); clear hown1 hgrow))
                go_roundw
                case rel =>
                  refine ⟨k + 1, .slice pv (na + 1) cv, hlt, by go_num, Lib.hid (K9.out.setA 1 _), Lib.hid (V9.out.set 1 (Nat.lt_succ_self 1) _), Lib.hid ?_⟩
                  rw [HMs.out, HPp.out, List.length_append, HNa.out, flP_snoc]
                  exact ownsRow_kpo O9.out ((Kp.refl w9 x4 x4).setA 1 _) (fun x hx => by have := (O9.out.lt x hx).1; have := HX.out; have := HY.out; omega)
                case measure => (simp [Go.RowKit.intOf]; try omega)
            · have g5 : ¬ ((100 : Int) < zn) := by omega
              have hbig : ¬ 240 < zn := by omega
              have g4 : ¬ ((240 : Int) < zn) := by omega
              go_upto_region 8 with fail
              have hb5 : Below wr.heap.size wr (wr.alloc (.cells #[.string nm, .string ⟨#[]⟩] 34)) := below_alloc0 wr _ _
              have V5 := Lib.hid (Vl.new wr [.string nm, .string ⟨#[]⟩] 34)
              change Hid (Vl (wr.alloc (.cells #[.string nm, .string ⟨#[]⟩] 34)) wr.heap.size [.string nm, .string ⟨#[]⟩]) at V5
              have X5 := Lib.hid (HV.out.keep hb5)
              have O5 := Lib.hid (ownsRow_below HO.out hb5)
              have K5 := Lib.hid (HKp.out.trans (Kp.of_below hb5 _ _))
              have hgb := HKp.out.size
              have HO9 := Lib.hid (fun x hx => (HO.out.lt x hx).2)
              obtain ⟨b9, hb9⟩ : ∃ x, wr.heap.size = x := ⟨_, rfl⟩
              obtain ⟨w5, hw5⟩ : ∃ x, wr.alloc (.cells #[.string nm, .string ⟨#[]⟩] 34) = x := ⟨_, rfl⟩
              rw [hw5] at V5 X5 O5 K5
              rw [hb9] at V5 hgb HO9
              try rw [hw5]
              try rw [hb9]
              have HB9 : Hid (w4.heap.size ≤ b9) := Lib.hid hgb
              clear hb5 hb9 hw5 hgb HV HO HKp hc hnm
              go_upto_region 10 with fail
              go_upto_region 12 with fail
              have HPp : Hid (mdP zn = (nm, ⟨#[]⟩)) := Lib.hid (by rw [HMd.out]; simp [hqq, q2, q3', h100, hbig])
              have c1 := X5.out.c 1 _ rfl
              go_wp2_with (first | (refine wpList_load_mid rfl 34 _ rfl b9 0 rfl [.string nm, .string ⟨#[]⟩] dp V5.out.range0 HUp.out HDp.out Tryd.isizePr ?_) | (at_builtin; refine wpList_append_own _ rfl _ _ 25 rfl w4.heap.size 34 iP _ 2 32 Tryd.underlying25 HI.out HZi.out HSZ.out HBY.out rfl (by decide) _ na _ rfl (O5.out.alloc _) ⟨w5.heap.size, 0, none⟩ 1 1 [.string nm, .string ⟨#[]⟩] rfl rfl (cells_new w5 _ 34) (pc_one (nm, ⟨#[]⟩)) (by unfold maxLen; omega) (by omega) (by have := K5.out.size; simp; omega) ?_; intro v1 w9 hown1 hgrow _; have O9 := Lib.hid hown1; have V9 := Lib.hid ((X5.out.keep (below_alloc0 w5 #[.string nm, .string ⟨#[]⟩] 34)).grownO hgrow (fun x hx => by have := (O5.out.lt x hx).1; have := HX.out; have := HY.out; omega)); have K8 : Kp w4 (w5.alloc (.cells #[.string nm, .string ⟨#[]⟩] 34)) x4 x4 := K5.out.trans (Kp.of_below (below_alloc0 w5 #[.string nm, .string ⟨#[]⟩] 34) x4 x4); have K9 := Lib.hid (K8.growO (base := 0) (v := .slice pl na cl) hgrow (fun x hx => (O5.out.lt x hx).1)); clear K8; obtain ⟨pv, cv, rfl⟩ := ownsRow_form hown1; clear c1; have c1 := V9.out.c 1 _ rfl; have z1 := V9.out.z 1 (Nat.lt_succ_self 1); clear hown1 hgrow))
              go_roundw
              case rel =>
                refine ⟨k + 1, .slice pv (na + 1) cv, hlt, by go_num, Lib.hid (K9.out.setA 1 _), Lib.hid (V9.out.set 1 (Nat.lt_succ_self 1) _), Lib.hid ?_⟩
                rw [HMs.out, HPp.out, List.length_append, HNa.out, flP_snoc]
                exact ownsRow_kpo O9.out ((Kp.refl w9 x4 x4).setA 1 _) (fun x hx => by have := (O9.out.lt x hx).1; have := HX.out; have := HY.out; omega)
              case measure => (simp [Go.RowKit.intOf]; try omega)
      · have g9 : (9 : Int) ≤ k := by omega
        have hfull := mdL_full zs k (by omega)
        rw [hfull] at HNa HO
        have G7 := Lib.hid (G4.out.kp HKp.out (by have := HX.out; omega) (by have := HX.out; omega))
        go_wp2_with (first | (refine wpList_load_mid rfl 27 _ rfl x4 0 rfl (pa2 a (.slice pl na cl)) d HV.out.range0 HUd.out HDd.out (sizePa _ _) ?_) | (refine wpList_store_list rfl 27 _ _ rfl x2 (pa2 false (.slice none 0 0)) (pa2 a (.slice pl na cl)) rfl rfl G7.out rfl (sizePa _ _) (pa2_one _ _ _ _) ?_; intro w8 G8 HK8))
        have hB7 : Below w.heap.size w wr := HB4.out.trans (HKp.out.below (by have := HX.out; omega) (by have := HX.out; omega) HB4.out.size)
        refine bodyPost_ret_by (results_mid rfl _ _ x2 _ d rfl G8.out.range0 HUd.out HDd.out (sizePa _ _)) rfl ⟨.slice pl na cl, rfl, ?_, hB7.trans (HK8.out.below (by have := HX.out; omega) (by have := HX.out; omega) hB7.size)⟩
        rw [HNa.out]
        exact own_ge (ownsRow_kpo HO.out HK8.out (fun x hx => by have := (HO.out.lt x hx).1; have := HX.out; have := HY.out; omega)) (by have := HX.out; have := HY.out; omega)
    · obtain rfl : k = n := by omega
      have hfull : mdL (zs.take k) = mdL zs := by rw [List.take_of_length_le (Nat.le_of_eq HN.out)]
      rw [hfull] at HNa HO
      clear hlt
      have G7 := Lib.hid (G4.out.kp HKp.out (by have := HX.out; omega) (by have := HX.out; omega))
      go_wp2_with (first | (refine wpList_load_mid rfl 27 _ rfl x4 0 rfl (pa2 a (.slice pl na cl)) d HV.out.range0 HUd.out HDd.out (sizePa _ _) ?_) | (refine wpList_store_list rfl 27 _ _ rfl x2 (pa2 false (.slice none 0 0)) (pa2 a (.slice pl na cl)) rfl rfl G7.out rfl (sizePa _ _) (pa2_one _ _ _ _) ?_; intro w8 G8 HK8))
      have hB7 : Below w.heap.size w wr := HB4.out.trans (HKp.out.below (by have := HX.out; omega) (by have := HX.out; omega) HB4.out.size)
      refine bodyPost_ret_by (results_mid rfl _ _ x2 _ d rfl G8.out.range0 HUd.out HDd.out (sizePa _ _)) rfl ⟨.slice pl na cl, rfl, ?_, hB7.trans (HK8.out.below (by have := HX.out; omega) (by have := HX.out; omega) hB7.size)⟩
      rw [HNa.out]
      exact own_ge (ownsRow_kpo HO.out HK8.out (fun x hx => by have := (HO.out.lt x hx).1; have := HX.out; have := HY.out; omega)) (by have := HX.out; have := HY.out; omega)
end Go.Proofs.YtehldpnhdnlljaaDoor.Pt
