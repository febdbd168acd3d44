import Derived.Test.YtehldpnhdnlljaaDoorPVc
import Derived.Test.YtehldpnhdnlljaaDoorPU
import Derived.Test.YtehldpnhdnlljaaDoorPL
/- The law PathOwn. -/
namespace Go.Proofs.YtehldpnhdnlljaaDoor.Pt
set_option linter.unusedSimpArgs false
set_option linter.unusedVariables false
open Go.RowKit Go.Maps

theorem own_set2 {w : World} {base g n cap : Nat} {xs : List Value} (h : w.ownsRow base 34 2 (.slice (some ⟨g, 0, none⟩) n cap) n xs) (i : Nat) (x y : Value) : ∃ ys, (w.setCells g (i * 2) [x, y]).ownsRow base 34 2 (.slice (some ⟨g, 0, none⟩) n cap) n ys :=
  ⟨_, (World.ownsRow.stored (World.ownsRow.stored h (i * 2) x).1 (i * 2 + 1) y).1⟩
theorem own_there2 {w : World} {base g n cap : Nat} {xs : List Value} (h : w.ownsRow base 34 2 (.slice (some ⟨g, 0, none⟩) n cap) n xs) (i : Nat) (hi : i < n) : w.there g (i * 2) 2 := fun j hj => by
  have hl : i * 2 + j < xs.length := by have := h.1; omega
  refine ⟨?_, World.ownsRow.frozenAt h _⟩
  rw [World.ownsRow.cellAt h (i * 2 + j) (by omega), List.getElem?_eq_getElem hl]
  rfl
theorem base_any (a : Bool) (va : Value) (L : List Pr) (hl : L.length ≤ 400) (w : World) (h : Ps w va L) :
    Calls Tryd.prog 18 #[.agg #[.bool a, va]] w fun r w' => ∃ v n b, ∃ e : Pr, r = .returned (.tuple #[.agg (pa2 a v).toArray, .agg (pc e).toArray, .bool b]) ∧ n ≤ 400 ∧ (∃ xs, w'.ownsRow w.heap.size 34 2 v n xs) ∧ Below w.heap.size w w' := by
  rcases List.eq_nil_or_concat L with rfl | ⟨M, e, hM⟩
  · refine (base_none a va w h).mono ?_
    rintro r w' ⟨v, rfl, hO, hb⟩
    exact ⟨v, 0, false, zP, rfl, Nat.zero_le _, ⟨_, hO⟩, hb⟩
  · rw [List.concat_eq_append] at hM
    subst hM
    rw [List.length_append] at hl
    refine (base_some a va M e (by omega) w h).mono ?_
    rintro r w' ⟨v, rfl, hO, hb⟩
    exact ⟨v, M.length, true, e, rfl, by omega, ⟨_, hO⟩, hb⟩
set_option maxHeartbeats 40000000 in
set_option maxRecDepth 100000 in
theorem pathown_walk (lv1 lv2 : Value) (zs1 zs2 : List Int) (hz1 : ∀ z ∈ zs1, 0 ≤ z ∧ z < 256) (hz2 : ∀ z ∈ zs2, 0 ≤ z ∧ z < 256) (m : Int) (w : World) (hU1 : U8s w lv1 zs1) (hU2 : U8s w lv2 zs2) (hm : w.cell? ⟨0, 0, none⟩ = some (.int .i64 m)) :
    Calls Tryd.prog 6 #[lv1, lv2] w fun e w' => e = .returned (.bool true) ∧ Below w.heap.size w w' := by
  obtain ⟨d, hu, hd⟩ := Tryd.descPa
  have HUd := Lib.hid hu
  have HDd := Lib.hid hd
  obtain ⟨dp, hup, hdp⟩ := Tryd.descPr
  have HUp := Lib.hid hup
  have HDp := Lib.hid hdp
  obtain ⟨iP, hi, hiz, hsz, hby⟩ := Tryd.infoPr
  have HI := Lib.hid hi
  have HZi := Lib.hid hiz
  have HSZ := Lib.hid hsz
  have HBY := Lib.hid hby
  have HM := Lib.hid hm
  have HU1 := Lib.hid hU1
  have HU2 := Lib.hid hU2
  have HM1 := Lib.hid (fun W hU => made_any true lv1 zs1 hz1 W hU)
  have HM2 := Lib.hid (fun W hU => made_any false lv2 zs2 hz2 W hU)
  have hg1 := mdL_good zs1 hz1
  have hg2 := mdL_good zs2 hz2
  have hl1 := mdL_len zs1
  have hl2 := mdL_len zs2
  have ht1 := txt_len true (mdL zs1) hg1 hl1
  have ht2 := txt_len false (mdL zs2) hg2 hl2
  generalize mdL zs1 = L1 at *
  generalize mdL zs2 = L2 at *
  have HT1 := Lib.hid (fun v W h => text_any true v L1 (by omega) (by omega) W h)
  have HT2 := Lib.hid (fun v W h => text_any false v L2 (by omega) (by omega) W h)
  have HJ := Lib.hid (fun va vb W h1 h2 => join_any true false va vb L1 L2 (by omega) (by omega) W h1 h2)
  have HBs := Lib.hid (fun va W h => base_any true va L1 (by omega) W h)
  generalize baL (txt true L1) = T1 at *
  generalize baL (txt false L2) = T2 at *
  have HLn : Hid ((L1 ++ L2).length ≤ 18) := Lib.hid (by rw [List.length_append]; omega)
  obtain ⟨n1, hn1⟩ : ∃ x, L1.length = x := ⟨_, rfl⟩
  obtain ⟨n2, hn2⟩ : ∃ x, L2.length = x := ⟨_, rfl⟩
  clear hu hd hup hdp hi hiz hsz hby hm hU1 hU2 hz1 hz2 hg1 hg2 ht1 ht2
  go_enter Tryd.func6, Tryd.ntmps6
  go_wp2_with fail
  refine (awake_any m w HM.out).mono ?_
  rintro e w1 ⟨rfl, hb1⟩
  have HB1 := Lib.hid hb1
  have HV1 := Lib.hid (HU1.out.below hb1)
  have HV2 := Lib.hid (HU2.out.below hb1)
  clear hb1 HU1 HU2
  go_wp2_with fail
  refine (HM1.out w1 HV1.out).mono ?_
  rintro e w2 ⟨v1, rfl, hO1, hb2⟩
  obtain ⟨p1, c1, rfl⟩ := ownsRow_form hO1
  have P1 := Lib.hid (Ps.own hO1)
  have HB2 := Lib.hid (HB1.out.trans (hb2.mono HB1.out.size))
  have HV3 := Lib.hid (HV2.out.below hb2)
  rw [hn1] at P1
  try rw [hn1]
  rw [show (pa2 true (.slice p1 n1 c1)).toArray = #[.bool true, .slice p1 n1 c1] from rfl]
  clear hO1 hb2 HV1 HV2 HM1 HB1
  go_wp2_with fail
  refine (HM2.out w2 HV3.out).mono ?_
  rintro e w2b ⟨v2, rfl, hO2, hb3⟩
  obtain ⟨p2, c2, rfl⟩ := ownsRow_form hO2
  have P2 := Lib.hid (Ps.own hO2)
  have P1b := Lib.hid (P1.out.keep hb3)
  have HB3 := Lib.hid (HB2.out.trans (hb3.mono HB2.out.size))
  rw [hn2] at P2
  try rw [hn2]
  rw [show (pa2 false (.slice p2 n2 c2)).toArray = #[.bool false, .slice p2 n2 c2] from rfl]
  clear hO2 hb3 HV3 HM2 HB2 P1 hn1 hn2
  go_upto_region 4 with fail
  have hb5 : Below w2b.heap.size w2b (w2b.alloc (.cells #[.bool true, .slice p1 n1 c1] 27)) := below_alloc0 w2b _ _
  have hb6 : Below (w2b.alloc (.cells #[.bool true, .slice p1 n1 c1] 27)).heap.size (w2b.alloc (.cells #[.bool true, .slice p1 n1 c1] 27)) ((w2b.alloc (.cells #[.bool true, .slice p1 n1 c1] 27)).alloc (.cells #[.bool false, .slice p2 n2 c2] 27)) := below_alloc0 _ _ _
  have V5 := Lib.hid ((Vl.new w2b [.bool true, .slice p1 n1 c1] 27).keep hb6)
  change Hid (Vl ((w2b.alloc (.cells #[.bool true, .slice p1 n1 c1] 27)).alloc (.cells #[.bool false, .slice p2 n2 c2] 27)) w2b.heap.size [.bool true, .slice p1 n1 c1]) at V5
  have V6 := Lib.hid (Vl.new (w2b.alloc (.cells #[.bool true, .slice p1 n1 c1] 27)) [.bool false, .slice p2 n2 c2] 27)
  rw [show (w2b.alloc (.cells #[.bool true, .slice p1 n1 c1] 27)).heap.size = w2b.heap.size + 1 from by simp] at V6
  change Hid (Vl ((w2b.alloc (.cells #[.bool true, .slice p1 n1 c1] 27)).alloc (.cells #[.bool false, .slice p2 n2 c2] 27)) (w2b.heap.size + 1) [.bool false, .slice p2 n2 c2]) at V6
  have Q1 := Lib.hid ((P1b.out.keep hb5).keep hb6)
  have Q2 := Lib.hid ((P2.out.keep hb5).keep hb6)
  have HB4 := Lib.hid ((HB3.out.trans (hb5.mono HB3.out.size)).trans (hb6.mono (by have := HB3.out.size; have := hb5.size; omega)))
  obtain ⟨b5, h5⟩ : ∃ x, w2b.heap.size = x := ⟨_, rfl⟩
  rw [h5] at V5 V6
  try rw [h5]
  obtain ⟨b6, h6⟩ : ∃ x, b5 + 1 = x := ⟨_, rfl⟩
  rw [h6] at V6
  try rw [h6]
  obtain ⟨w3, hw3⟩ : ∃ x, (w2b.alloc (.cells #[.bool true, .slice p1 n1 c1] 27)).alloc (.cells #[.bool false, .slice p2 n2 c2] 27) = x := ⟨_, rfl⟩
  rw [hw3] at V5 V6 Q1 Q2 HB4
  try rw [hw3]
  clear hb5 hb6 h5 h6 hw3 P1b P2 HB3
  refine wp_region_held (S := fun W => Below w3.heap.size w3 W) (by kernel_rfl) ?_
  change wpAnyH _ _ _ _ _ _ _ _ (World.drew _)
  have hS0 : (fun W => Below w3.heap.size w3 W) w3.drew := (Below.refl _ _).drew
  obtain ⟨w4, hw4⟩ : ∃ x, World.drew w3 = x := ⟨_, rfl⟩
  rw [hw4] at hS0 ⊢
  clear hw4
  refine wpAnyH_take (i := 0) (v := (.agg #[.bool true, .slice p1 n1 c1])) rfl (by kernel_rfl) (by kernel_rfl) (by kernel_rfl) (fun _ _ _ h => h) ?_ hS0 ?_
  · exact yieldsIf_load_mid (by rfl) 27 _ rfl b5 0 rfl [.bool true, .slice p1 n1 c1] d (fun W h => (V5.out.keep h).range0) HUd.out HDd.out Tryd.isizePa
  simp only [Act.put, List.getElem_toArray, List.getElem_cons_zero, List.getElem_cons_succ, List.setIfInBounds_toArray, List.set_cons_zero, List.set_cons_succ]
  refine wpAnyH_take (i := 2) (v := (.agg #[.bool false, .slice p2 n2 c2])) rfl (by kernel_rfl) (by kernel_rfl) (by kernel_rfl) (fun _ _ _ h => h) ?_ hS0 ?_
  · exact yieldsIf_load_mid (by rfl) 27 _ rfl b6 0 rfl [.bool false, .slice p2 n2 c2] d (fun W h => (V6.out.keep h).range0) HUd.out HDd.out Tryd.isizePa
  simp only [Act.put, List.getElem_toArray, List.getElem_cons_zero, List.getElem_cons_succ, List.setIfInBounds_toArray, List.set_cons_zero, List.set_cons_succ]
  refine wpAnyH_ready (rs := [1]) (by kernel_rfl) (by simp) (AllReadyH.cons rfl (fun KK hKK => ?_) AllReadyH.nil)
  · skip
    go_simp
    refine (HT1.out _ w4 (Q1.out.keep hS0)).mono ?_
    rintro r w5 ⟨rfl, hb⟩
    have hS1 : (fun W => Below w3.heap.size w3 W) w5 := Below.trans hS0 (hb.mono (Below.size hS0))
    refine hKK _ _ hS1 ?_
    intro _
    clear hKK KK hb hS0
    try simp only [Act.put, List.getElem_toArray, List.getElem_cons_zero, List.getElem_cons_succ, List.setIfInBounds_toArray, List.set_cons_zero, List.set_cons_succ]
    have hS0 := hS1
    clear hS1
    refine wpAnyH_ready (rs := [3]) (by kernel_rfl) (by simp) (AllReadyH.cons rfl (fun KK hKK => ?_) AllReadyH.nil)
    · skip
      go_simp
      refine (HT2.out _ w5 (Q2.out.keep hS0)).mono ?_
      rintro r w6 ⟨rfl, hb⟩
      have hS1 : (fun W => Below w3.heap.size w3 W) w6 := Below.trans hS0 (hb.mono (Below.size hS0))
      refine hKK _ _ hS1 ?_
      intro _
      clear hKK KK hb hS0
      try simp only [Act.put, List.getElem_toArray, List.getElem_cons_zero, List.getElem_cons_succ, List.setIfInBounds_toArray, List.set_cons_zero, List.set_cons_succ]
      have hS0 := hS1
      clear hS1
      refine wpAnyH_take (i := 4) (v := ?_) rfl (by kernel_rfl) (by kernel_rfl) (by kernel_rfl) (fun _ _ _ h => h) (Or.inl ⟨by rfl, ?_⟩) hS0 ?_
      rotate_left 1
      · intro W hW
        go_simp
        try with_reducible rfl
      simp only [Act.put, List.getElem_toArray, List.getElem_cons_zero, List.getElem_cons_succ, List.setIfInBounds_toArray, List.set_cons_zero, List.set_cons_succ]
      refine wpAnyH_take (i := 5) (v := ?_) rfl (by kernel_rfl) (by kernel_rfl) (by kernel_rfl) (fun _ _ _ h => h) (Or.inl ⟨by rfl, ?_⟩) hS0 ?_
      rotate_left 1
      · intro W hW
        go_simp
        try with_reducible rfl
      simp only [Act.put, List.getElem_toArray, List.getElem_cons_zero, List.getElem_cons_succ, List.setIfInBounds_toArray, List.set_cons_zero, List.set_cons_succ]
      refine wpAnyH_done (by kernel_rfl) ?_ _
      have HS6 : Hid (Below w3.heap.size w3 w6) := Lib.hid hS0
      clear hS0
      have V56 := Lib.hid (V5.out.keep HS6.out)
      have V66 := Lib.hid (V6.out.keep HS6.out)
      have Q16 := Lib.hid (Q1.out.keep HS6.out)
      have Q26 := Lib.hid (Q2.out.keep HS6.out)
      have HB6 := Lib.hid (HB4.out.trans (HS6.out.mono HB4.out.size))
      clear V5 V6 Q1 Q2 HB4 HS6
      have d0 := V56.out.c 0 _ rfl
      have d1 := V56.out.c 1 _ rfl
      have e0 := V66.out.c 0 _ rfl
      have e1 := V66.out.c 1 _ rfl
      go_wp2_with fail
      refine (HJ.out _ _ w6 Q16.out Q26.out).mono ?_
      rintro r w7 ⟨vj, rfl, hOj, hb7⟩
      obtain ⟨pj, cj, rfl⟩ := ownsRow_form hOj
      simp only [Bool.false_eq_true, if_false, Bool.false_or] at hOj ⊢
      obtain ⟨nj, hnj⟩ : ∃ x, (L1 ++ L2).length = x := ⟨_, rfl⟩
      rw [hnj] at hOj
      try rw [hnj]
      have hnj18 : nj ≤ 18 := by rw [← hnj]; exact HLn.out
      have OJ := Lib.hid hOj
      have B67 := Lib.hid hb7
      have V57 := Lib.hid (V56.out.keep hb7)
      have V67 := Lib.hid (V66.out.keep hb7)
      have Q17 := Lib.hid (Q16.out.keep hb7)
      clear d0 d1 e0 e1 hOj hb7 hnj HJ
      rw [show (pa2 true (.slice pj nj cj)).toArray = #[.bool true, .slice pj nj cj] from rfl]
      have d0 := V57.out.c 0 _ rfl
      have d1 := V57.out.c 1 _ rfl
      go_upto_region 6 with fail
      have hb8 : Below w7.heap.size w7 (w7.alloc (.cells #[.bool true, .slice pj nj cj] 27)) := below_alloc0 w7 _ _
      have V9 := Lib.hid (Vl.new w7 [.bool true, .slice pj nj cj] 27)
      change Hid (Vl (w7.alloc (.cells #[.bool true, .slice pj nj cj] 27)) w7.heap.size [.bool true, .slice pj nj cj]) at V9
      have V58 := Lib.hid (V57.out.keep hb8)
      have Q18 := Lib.hid (Q17.out.keep hb8)
      have OJ8 := Lib.hid (ownsRow_below OJ.out hb8)
      have B68 := Lib.hid (B67.out.trans (hb8.mono B67.out.size))
      have h69 := B67.out.size
      obtain ⟨b9, h9⟩ : ∃ x, w7.heap.size = x := ⟨_, rfl⟩
      obtain ⟨w8, hw8⟩ : ∃ x, w7.alloc (.cells #[.bool true, .slice pj nj cj] 27) = x := ⟨_, rfl⟩
      have hOlt := fun k hk => (OJ.out.lt k hk).2
      rw [hw8] at V9 V58 Q18 OJ8 B68
      rw [h9] at V9 h69 hOlt
      try rw [hw8]
      try rw [h9]
      have HX9 : Hid (w6.heap.size ≤ b9) := Lib.hid h69
      have HOl := Lib.hid hOlt
      clear d0 d1 hb8 h9 hw8 V57 Q17 OJ B67 V67 h69 hOlt
      have d0 := V58.out.c 0 _ rfl
      have d1 := V58.out.c 1 _ rfl
      go_wp2_with fail
      refine (HBs.out _ w8 Q18.out).mono ?_
      rintro r w9 ⟨vx, nx, bx, ex, rfl, hnx, ⟨xs, hOx⟩, hb9⟩
      obtain ⟨px, cx, rfl⟩ := ownsRow_form hOx
      have V99 := Lib.hid (V9.out.keep hb9)
      have OJ9 := Lib.hid (ownsRow_below OJ8.out hb9)
      have OX9 := Lib.hid hOx
      have B69 := Lib.hid (B68.out.trans (hb9.mono B68.out.size))
      have h89 := B68.out.size
      have hb98 := V9.out.lt
      have HS89 : Hid (w8.heap.size ≤ w9.heap.size) := Lib.hid hb9.size
      have HS8 : Hid (w8.heap.size ≤ w9.heap.size) := HS89
      have HY9 : Hid (w6.heap.size ≤ w8.heap.size ∧ b9 < w8.heap.size) := Lib.hid ⟨h89, hb98⟩
      obtain ⟨es, et⟩ := ex
      rw [show (pa2 true (.slice px nx cx)).toArray = #[.bool true, .slice px nx cx] from rfl]
      rw [show (pc (es, et)).toArray = #[.string es, .string et] from rfl]
      clear d0 d1 hOx hb9 V9 V58 Q18 OJ8 B68 h89 hb98 HBs
      go_upto_region 7 with fail
      have hb10 : Below w9.heap.size w9 (w9.alloc (.cells #[.bool true, .slice px nx cx] 27)) := below_alloc0 w9 _ _
      have hb11 : Below (w9.alloc (.cells #[.bool true, .slice px nx cx] 27)).heap.size (w9.alloc (.cells #[.bool true, .slice px nx cx] 27)) ((w9.alloc (.cells #[.bool true, .slice px nx cx] 27)).alloc (.cells #[.string es, .string et] 34)) := below_alloc0 _ _ _
      have VX := Lib.hid ((Vl.new w9 [.bool true, .slice px nx cx] 27).keep hb11)
      change Hid (Vl ((w9.alloc (.cells #[.bool true, .slice px nx cx] 27)).alloc (.cells #[.string es, .string et] 34)) w9.heap.size [.bool true, .slice px nx cx]) at VX
      have VJ := Lib.hid ((V99.out.keep hb10).keep hb11)
      have OJ := Lib.hid (ownsRow_below (ownsRow_below OJ9.out hb10) hb11)
      have OX := Lib.hid (ownsRow_below (ownsRow_below OX9.out hb10) hb11)
      have BB := Lib.hid ((B69.out.trans (hb10.mono B69.out.size)).trans (hb11.mono (by have := B69.out.size; have := hb10.size; omega)))
      have hxl := fun k hk => (OX9.out.lt k hk).2
      obtain ⟨b10, h10⟩ : ∃ x, w9.heap.size = x := ⟨_, rfl⟩
      have hjl := fun k hk => HOl.out k hk
      have h69 : w6.heap.size ≤ b10 := by rw [← h10]; exact B69.out.size
      have h89 : w8.heap.size ≤ b10 := by rw [← h10]; exact HS89.out
      obtain ⟨wA, hwA⟩ : ∃ x, (w9.alloc (.cells #[.bool true, .slice px nx cx] 27)).alloc (.cells #[.string es, .string et] 34) = x := ⟨_, rfl⟩
      rw [hwA] at VX VJ OJ OX BB
      rw [h10] at VX hxl
      try rw [hwA]
      try rw [h10]
      have HXl := Lib.hid hxl
      have HX10 : Hid (w6.heap.size ≤ b10 ∧ w8.heap.size ≤ b10) := Lib.hid ⟨h69, h89⟩
      clear hb10 hb11 h10 hwA V99 OJ9 OX9 B69 hxl hjl h69 h89
      have d0 := VJ.out.c 0 _ rfl
      have d1 := VJ.out.c 1 _ rfl
      go_wp2_with fail
      clear d0 d1
      have hnji : (nj : Int) ≤ 18 := by omega
      go_loopw [13, 36] (fun _ iv wr => ∃ k : Nat, k ≤ nj ∧ iv = .int .i64 k ∧ Hid (Below w6.heap.size w6 wr) ∧ Hid (Vl wr b9 [.bool true, .slice pj nj cj]) ∧ Hid (∃ ys, wr.ownsRow w6.heap.size 34 2 (.slice pj nj cj) nj ys) ∧ Hid (Vl wr b10 [.bool true, .slice px nx cx]) ∧ Hid (wr.ownsRow w8.heap.size 34 2 (.slice px nx cx) nx xs)) (fun _ iv _ => nj - (Go.RowKit.intOf iv).toNat)
      case atStart => exact ⟨0, Nat.zero_le _, rfl, BB, VJ, Lib.hid ⟨_, OJ.out⟩, VX, OX⟩
      case round =>
        obtain ⟨k, hk, rfl, BW, VJw, HOj, VXw, HOx⟩ := hrel
        by_cases hlt : k < nj
        · obtain ⟨ys, hoj⟩ := HOj.out
          obtain ⟨gj, rfl, hgj⟩ : ∃ g, pj = some ⟨g, 0, none⟩ ∧ w6.heap.size ≤ g := by
            rcases hoj.2 with ⟨hv, hn⟩ | ⟨g, cap, cur, hv, hb1, hg, -⟩
            · omega
            · injection hv with h1
              exact ⟨g, h1, hb1⟩
          have hth := own_there2 hoj k hlt
          obtain ⟨ys', hoj'⟩ := own_set2 hoj k (.string ⟨#[]⟩) (.string ⟨#[]⟩)
          have hg9 : gj < b9 := HOl.out gj rfl
          obtain ⟨hy1, hy2⟩ := HY9.out
          obtain ⟨hx1, hx2⟩ := HX10.out
          have hkp : Kp wr (wr.setCells gj (k * 2) [.string ⟨#[]⟩, .string ⟨#[]⟩]) gj gj := (Kp.refl wr gj gj).setCells gj (k * 2) (.inl rfl) _
          have BW' := Lib.hid (BW.out.trans (hkp.below (by omega) (by omega) BW.out.size))
          have VJ' := Lib.hid (VJw.out.kp hkp (by omega) (by omega))
          have VX' := Lib.hid (VXw.out.kp hkp (by omega) (by omega))
          have OX' := Lib.hid (ownsRow_kpo HOx.out hkp (fun x hx => by have := (HOx.out.lt x hx).1; omega))
          have OJ' : Hid (∃ ys, (wr.setCells gj (k * 2) [.string ⟨#[]⟩, .string ⟨#[]⟩]).ownsRow w6.heap.size 34 2 (.slice (some ⟨gj, 0, none⟩) nj cj) nj ys) := Lib.hid ⟨_, hoj'⟩
          have HTh := Lib.hid hth
          have d1 := VJw.out.c 1 _ rfl
          have hki : (k : Int) < nj := by omega
          have hk0 : (0 : Int) ≤ k := by omega
          clear hoj hoj' hth hkp BW VJw VXw HOj HOx hgj hg9 hy1 hy2 hx1 hx2
          obtain ⟨wn, hwn⟩ : ∃ x, wr.setCells gj (k * 2) [.string ⟨#[]⟩, .string ⟨#[]⟩] = x := ⟨_, rfl⟩
          rw [hwn] at BW' VJ' VX' OX' OJ'
          have HWn := Lib.hid hwn
          clear hwn
          go_wp2_with (refine wpList_store_mid rfl 34 _ _ rfl gj (k * 2) (pc zP).toArray rfl rfl HTh.out (sizePr' zP) (all_oneCell_toArray (pc_one zP)) ?_; rw [show wr.setCells gj (k * 2) (pc zP).toArray.toList = wn from HWn.out])
          go_roundw
          case rel => exact ⟨k + 1, hlt, by go_num, BW', VJ', OJ', VX', OX'⟩
          case measure => (simp [Go.RowKit.intOf]; try omega)
        · obtain rfl : k = nj := by omega
          have d1 := VXw.out.c 1 _ rfl
          have z1 := VXw.out.z 1 (Nat.lt_succ_self 1)
          have hnxi : (nx : Int) ≤ 400 := by omega
          clear hlt hk
          go_upto_region 13 with (at_builtin; refine wpList_append_own _ rfl _ _ 25 rfl w8.heap.size 34 iP _ 2 32 Tryd.underlying25 HI.out HZi.out HSZ.out HBY.out rfl (by decide) _ nx _ rfl (HOx.out.alloc _) ⟨wr.heap.size, 0, none⟩ 1 1 [.string ⟨#[122, 122]⟩, .string ⟨#[]⟩] rfl rfl (cells_new wr _ 34) (pc_one (⟨#[122, 122]⟩, ⟨#[]⟩)) (by unfold maxLen; omega) (by omega) (by have := VXw.out.lt; have := HX10.out; simp; omega) ?_; intro vn wB hown1 hgrow _; have VB := Lib.hid ((VXw.out.keep (below_alloc0 wr #[.string ⟨#[122, 122]⟩, .string ⟨#[]⟩] 34)).grownO hgrow (fun x hx => by have := (HXl.out x hx); omega)); have BB2 := Lib.hid ((BW.out.alloc BW.out.size (.cells #[.string ⟨#[122, 122]⟩, .string ⟨#[]⟩] 34)).grown hgrow (by have := BW.out.size; simp; omega) (fun x hx => by have := (HOx.out.lt x hx).1; have := HY9.out; omega)); obtain ⟨pn, cn, rfl⟩ := ownsRow_form hown1; clear d1 z1; have d1 := VB.out.c 1 _ rfl; have z1 := VB.out.z 1 (Nat.lt_succ_self 1); clear hown1 hgrow)
          have hBC : Below w6.heap.size w6 (wB.setCell ⟨b10, 1, none⟩ (.slice pn (nx + 1) cn)) := BB2.out.setCell (p := ⟨b10, 1, none⟩) (by have := HX10.out; show w6.heap.size ≤ b10; omega) _
          have V5C := Lib.hid (V56.out.keep hBC)
          have V6C := Lib.hid (V66.out.keep hBC)
          have Q1C := Lib.hid (Q16.out.keep hBC)
          have Q2C := Lib.hid (Q26.out.keep hBC)
          have BC := Lib.hid (HB6.out.trans (hBC.mono HB6.out.size))
          obtain ⟨wC, hwC⟩ : ∃ x, wB.setCell ⟨b10, 1, none⟩ (.slice pn (nx + 1) cn) = x := ⟨_, rfl⟩
          rw [hwC] at V5C V6C Q1C Q2C BC
          try rw [hwC]
          clear d1 z1 hBC hwC VB BB2 V56 V66 Q16 Q26 HB6
          have d0 := V5C.out.c 0 _ rfl
          have d1 := V5C.out.c 1 _ rfl
          go_wp2_with fail
          refine (HT1.out _ wC Q1C.out).mono ?_
          rintro r wD ⟨rfl, hbD⟩
          have V6D := V6C.out.keep hbD
          have Q2D := Lib.hid (Q2C.out.keep hbD)
          have BD := Lib.hid (BC.out.trans (hbD.mono BC.out.size))
          clear d0 d1 hbD V5C V6C Q1C Q2C BC
          have d0 := V6D.c 0 _ rfl
          have d1 := V6D.c 1 _ rfl
          clear V6D
          have hx1 : (T1.toList == T1.toList) = true := by simp
          have hx2 : (T2.toList == T2.toList) = true := by simp
          go_wp2_with fail
          refine (HT2.out _ wD Q2D.out).mono ?_
          rintro r wE ⟨rfl, hbE⟩
          have BE := Lib.hid (BD.out.trans (hbE.mono BD.out.size))
          clear d0 d1 hbE Q2D BD
          go_wp2_with fail
          go_ret
          exact ⟨rfl, BE.out⟩
end Go.Proofs.YtehldpnhdnlljaaDoor.Pt
