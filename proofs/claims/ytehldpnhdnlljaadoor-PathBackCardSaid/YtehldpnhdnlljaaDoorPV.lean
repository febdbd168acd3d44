import Derived.Test.YtehldpnhdnlljaaDoorPVc
import Derived.Test.YtehldpnhdnlljaaDoorPU
/- The law PathBack. -/
namespace Go.Proofs.YtehldpnhdnlljaaDoor.Pt
set_option linter.unusedSimpArgs false
set_option linter.unusedVariables false
open Go.RowKit Go.Maps

set_option maxHeartbeats 40000000 in
set_option maxRecDepth 100000 in
theorem pathback_walk (a : Bool) (lv : Value) (zs : List Int) (hz : ∀ z ∈ zs, 0 ≤ z ∧ z < 256) (m : Int) (w : World) (hU : U8s w lv zs) (hm : w.cell? ⟨0, 0, none⟩ = some (.int .i64 m)) :
    Calls Tryd.prog 4 #[.bool a, lv] w fun e w' => e = .returned (.bool true) ∧ Below w.heap.size w w' := by
  have h00 := World.block_lt_of_cell? w _ hm
  have HM := Lib.hid hm
  have HU := Lib.hid hU
  have HMk := Lib.hid (fun W hU => made_any a lv zs hz W hU)
  have hgood := mdL_good zs hz
  have hlen := mdL_len zs
  have hpb := parse_back a (mdL zs) hgood hlen
  have htl := txt_len a (mdL zs) hgood hlen
  have hte := txt_empty a (mdL zs) hgood
  have hsm : smP (mdL zs) := fun p hp => goodP_ok (hgood p hp)
  generalize mdL zs = L at *
  have HTx := Lib.hid (fun v W h => text_any a v L (by omega) (by omega) W h)
  have HRt := Lib.hid (fun v W h => rtext_any a v L (by omega) (by omega) W h)
  have HSm := Lib.hid (fun v1 v2 W h1 h2 => samep_any a a v1 v2 L L hsm hsm (by omega) W h1 h2)
  have HPs := Lib.hid (fun W hW => parse_any (txt a L) m W hW)
  have HPB := Lib.hid hpb
  have HTE := Lib.hid hte
  have hemp : (baL (txt a L)).toList.isEmpty = (txt a L).isEmpty := baL_nil _
  obtain ⟨n, hn⟩ : ∃ n, L.length = n := ⟨_, rfl⟩
  have HN := Lib.hid hn
  clear hpb hte hgood hz hm hU htl hsm
  have hn9 : n ≤ 9 := by omega
  clear hlen
  go_enter Tryd.func4, Tryd.ntmps4
  go_wp2_with fail
  refine (awake_any m w HM.out).mono ?_
  rintro e w1 ⟨rfl, hb1⟩
  have HB1 := Lib.hid hb1
  have HU1 := Lib.hid (HU.out.below hb1)
  clear hb1
  go_wp2_with fail
  refine (HMk.out w1 HU1.out).mono ?_
  rintro e w2 ⟨v, rfl, hO, hb2⟩
  obtain ⟨pv, cv, rfl⟩ := ownsRow_form hO
  have P2 := Lib.hid (Ps.own hO)
  have HB2 := Lib.hid (HB1.out.trans (hb2.mono HB1.out.size))
  rw [hn] at P2
  try rw [hn]
  rw [show (pa2 a (.slice pv n cv)).toArray = #[.bool a, .slice pv n cv] from rfl]
  clear hO hb2 HU HU1 HMk HB1 hn
  go_wp2_with fail
  have V3 := Lib.hid (Vl.new w2 [.bool a, .slice pv n cv] 27)
  have hb3 : Below w2.heap.size w2 (w2.alloc (.cells #[.bool a, .slice pv n cv] 27)) := below_alloc0 w2 _ _
  change Hid (Vl (w2.alloc (.cells #[.bool a, .slice pv n cv] 27)) w2.heap.size [.bool a, .slice pv n cv]) at V3
  have P3 := Lib.hid (P2.out.keep hb3)
  have HB3 := Lib.hid (HB2.out.trans (hb3.mono HB2.out.size))
  obtain ⟨b5, h5⟩ : ∃ x, w2.heap.size = x := ⟨_, rfl⟩
  obtain ⟨w3, hw3⟩ : ∃ x, w2.alloc (.cells #[.bool a, .slice pv n cv] 27) = x := ⟨_, rfl⟩
  rw [hw3] at V3 P3 HB3
  rw [h5] at V3
  try rw [hw3]
  try rw [h5]
  clear hb3 h5 hw3 P2 HB2
  refine (HTx.out _ w3 P3.out).mono ?_
  rintro e w4 ⟨rfl, hb4⟩
  have V4 := Lib.hid (V3.out.keep hb4)
  have P4 := Lib.hid (P3.out.keep hb4)
  have HB4 := Lib.hid (HB3.out.trans (hb4.mono HB3.out.size))
  have HM4 := Lib.hid ((HB4.out.cell (p := ⟨0, 0, none⟩) h00).trans HM.out)
  clear hb4 V3 P3 HB3 HTx
  go_wp2_with fail
  refine (HPs.out w4 HM4.out).mono ?_
  by_cases hne : txt a L = []
  · obtain ⟨ha, hL⟩ := HTE.out hne
    rintro e w5 ⟨v2, rfl, hO2, hb5⟩
    have V5 := Lib.hid (V4.out.keep hb5)
    have HB5 := Lib.hid (HB4.out.trans (hb5.mono HB4.out.size))
    obtain ⟨q2, c2, rfl⟩ := ownsRow_form hO2
    rw [hne] at hemp ⊢
    have hpe : parseC [] = ((false, []), 7) := rfl
    rw [hpe]
    have hn0 : n = 0 := by rw [← HN.out, hL]; rfl
    subst hn0
    subst ha
    clear hO2 hb5 V4 P4 HB4 HPs HPB HTE HRt HSm hne hL hpe
    simp only [List.length_nil, List.isEmpty_nil] at hemp ⊢
    rw [show (pa2 false (.slice q2 0 c2)).toArray = #[.bool false, .slice q2 0 c2] from rfl]
    go_upto_region 6 with fail
    have hb6 : Below w5.heap.size w5 (w5.alloc (.cells #[.bool false, .slice q2 0 c2] 27)) := below_alloc0 w5 _ _
    have V6 := V5.out.keep hb6
    have d0 := V6.c 0 _ rfl
    have d1 := V6.c 1 _ rfl
    have HB6 := Lib.hid (HB5.out.trans (hb6.mono HB5.out.size))
    clear V5 V6 hb6 HB5
    generalize baL [] = X at *
    go_wp2_with fail
    go_ret
    exact ⟨rfl, HB6.out⟩
  · rw [HPB.out hne]
    have hem : (baL (txt a L)).toList.isEmpty = false := by
      rw [hemp]
      cases hq : txt a L with
      | nil => exact absurd hq hne
      | cons x y => rfl
    generalize baL (txt a L) = X at *
    rintro e w5 ⟨v2, rfl, hO2, hb5⟩
    obtain ⟨q2, c2, rfl⟩ := ownsRow_form hO2
    have P25 := Lib.hid (Ps.own hO2)
    change Hid (Ps w5 (.slice q2 L.length c2) L) at P25
    have V5 := Lib.hid (V4.out.keep hb5)
    have P5 := Lib.hid (P4.out.keep hb5)
    have HB5 := Lib.hid (HB4.out.trans (hb5.mono HB4.out.size))
    rw [HN.out] at P25
    rw [show (pa2 a (.slice q2 L.length c2)).toArray = #[.bool a, .slice q2 L.length c2] from rfl, HN.out]
    clear hO2 hb5 V4 P4 HB4 HPs HPB HTE hemp hne HM4
    go_upto_region 6 with fail
    have V7 := Lib.hid (Vl.new w5 [.bool a, .slice q2 n c2] 27)
    have hb6 : Below w5.heap.size w5 (w5.alloc (.cells #[.bool a, .slice q2 n c2] 27)) := below_alloc0 w5 _ _
    change Hid (Vl (w5.alloc (.cells #[.bool a, .slice q2 n c2] 27)) w5.heap.size [.bool a, .slice q2 n c2]) at V7
    have V6 := Lib.hid (V5.out.keep hb6)
    have P6 := Lib.hid (P5.out.keep hb6)
    have P26 := Lib.hid (P25.out.keep hb6)
    have HB6 := Lib.hid (HB5.out.trans (hb6.mono HB5.out.size))
    obtain ⟨b7, h7⟩ : ∃ x, w5.heap.size = x := ⟨_, rfl⟩
    obtain ⟨w6, hw6⟩ : ∃ x, w5.alloc (.cells #[.bool a, .slice q2 n c2] 27) = x := ⟨_, rfl⟩
    rw [hw6] at V7 V6 P6 P26 HB6
    rw [h7] at V7
    try rw [hw6]
    try rw [h7]
    clear hb6 h7 hw6 V5 P5 P25 HB5
    have d0 := V6.out.c 0 _ rfl
    have d1 := V6.out.c 1 _ rfl
    have e0 := V7.out.c 0 _ rfl
    have e1 := V7.out.c 1 _ rfl
    go_wp2_with fail
    refine (HSm.out _ _ w6 P6.out P26.out).mono ?_
    rintro e w7 ⟨rfl, hb7⟩
    simp only [decide_true, Bool.and_self]
    clear d0 d1 e0 e1
    have V8 := V6.out.keep hb7
    have d0 := V8.c 0 _ rfl
    have d1 := V8.c 1 _ rfl
    have P7 := Lib.hid (P6.out.keep hb7)
    have HB7 := Lib.hid (HB6.out.trans (hb7.mono HB6.out.size))
    clear V8 hb7 V6 P6 P26 HB6 V7 HSm
    go_wp2_with fail
    refine (HRt.out _ w7 P7.out).mono ?_
    rintro e w8 ⟨rfl, hw8⟩
    rw [hw8]
    clear hw8
    have hxx : (X.toList == X.toList) = true := by simp
    go_wp2_with fail
    go_ret
    exact ⟨rfl, HB7.out⟩
end Go.Proofs.YtehldpnhdnlljaaDoor.Pt
