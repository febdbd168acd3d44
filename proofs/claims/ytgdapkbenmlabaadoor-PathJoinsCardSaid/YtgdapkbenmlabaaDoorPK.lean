import Derived.Test.YtgdapkbenmlabaaDoorPJ
/- Join, Base. -/
namespace Go.Proofs.YtgdapkbenmlabaaDoor.Pt
set_option linter.unusedSimpArgs false
set_option linter.unusedVariables false
open Go.RowKit Go.Maps

theorem ps_one {W : World} {va : Value} {La : List Pr} (h : Ps W va La) : ∀ (i : Nat) (v : Value) (L : List Pr), [va][i]? = some v → [La][i]? = some L → Ps W v L := by
  intro i v L h1 h2
  cases i with
  | zero =>
    simp only [List.getElem?_cons_zero, Option.some.injEq] at h1 h2
    subst h1 h2
    exact h
  | succ i => simp at h1
theorem ps_two {W : World} {va vb : Value} {La Lb : List Pr} (h : Ps W va La) (h' : Ps W vb Lb) : ∀ (i : Nat) (v : Value) (L : List Pr), [va, vb][i]? = some v → [La, Lb][i]? = some L → Ps W v L := by
  intro i v L h1 h2
  rcases i with _ | _ | i
  · simp only [List.getElem?_cons_zero, Option.some.injEq] at h1 h2
    subst h1 h2
    exact h
  · simp only [List.getElem?_cons_succ, List.getElem?_cons_zero, Option.some.injEq] at h1 h2
    subst h1 h2
    exact h'
  · simp at h1
theorem Ss.lit (w : World) (V : List Value) : Ss (w.alloc (.cells V.toArray 22)) (.slice (some ⟨w.heap.size, 0, none⟩) V.length V.length) V := by
  refine .inr ⟨w.heap.size, 0, V.length, rfl, Nat.le_refl _, fun j u hu => ?_⟩
  rw [World.cell?_alloc_at _ _ _ _ rfl]
  simpa using hu
set_option maxHeartbeats 20000000 in
set_option maxRecDepth 100000 in
theorem join_any (aa ba : Bool) (va vb : Value) (La Lb : List Pr) (ha : La.length ≤ 400) (hb : Lb.length ≤ 400) (w : World) (h1 : Ps w va La) (h2 : Ps w vb Lb) :
    Calls Tryd.prog 5 #[.agg #[.bool aa, va], .agg #[.bool ba, vb]] w fun e w' => ∃ v, e = .returned (.agg (pa2 (ba || aa) v).toArray) ∧ w'.ownsRow w.heap.size 28 2 v (if ba = true then Lb else La ++ Lb).length (flP (if ba = true then Lb else La ++ Lb)) ∧ Below w.heap.size w w' := by
  obtain ⟨d, hu, hd⟩ := Tryd.descPa
  have HU := Lib.hid hu
  have HD := Lib.hid hd
  have H1 := Lib.hid h1
  have H2 := Lib.hid h2
  obtain ⟨p1, c1, e1⟩ := h1.slice
  obtain ⟨p2, c2, e2⟩ := h2.slice
  have HL := Lib.hid (⟨ha, hb⟩ : _ ∧ _)
  subst e1 e2
  obtain ⟨n1, hn1⟩ : ∃ n, La.length = n := ⟨_, rfl⟩
  obtain ⟨n2, hn2⟩ : ∃ n, Lb.length = n := ⟨_, rfl⟩
  rw [hn1] at H1
  rw [hn2] at H2
  try rw [hn1]
  try rw [hn2]
  have HN1 := Lib.hid hn1
  have HN2 := Lib.hid hn2
  clear hu hd h1 h2 ha hb hn1 hn2
  go_enter Tryd.func5, Tryd.ntmps5
  go_upto_region 1 with (first | (refine wpList_box_list (w := w) rfl 24 _ rfl (pa2 aa (.slice p1 n1 c1)) rfl ?_; intro w1 F1 hb1 hz1; have HB1 := Lib.hid hb1; clear hb1 hz1) | (refine wpList_box_list (w := w1) rfl 24 _ rfl (pa2 ba (.slice p2 n2 c2)) rfl ?_; intro w2 F2 hb2 hz2; have HB2 := Lib.hid (HB1.out.trans (hb2.mono HB1.out.size)); have G1 := Lib.hid (F1.out.keep hb2); clear hb2 hz2 F1 HB1) | (refine wpList_alloc_list (w := w2) rfl 24 rfl (pa2 false (.slice none 0 0)) Tryd.zeroPa ?_; intro w3 F3 hb3 hz3; have HB3 := Lib.hid (HB2.out.trans (hb3.mono HB2.out.size)); have G13 := Lib.hid (G1.out.keep hb3); have G23 := Lib.hid (F2.out.keep hb3); have hq3 := HB2.out.size; clear hb3 G1 F2 HB2))
  obtain ⟨x1, hx1⟩ : ∃ x, w.heap.size = x := ⟨_, rfl⟩
  obtain ⟨x2, hx2⟩ : ∃ x, w1.heap.size = x := ⟨_, rfl⟩
  obtain ⟨x3, hx3⟩ : ∃ x, w2.heap.size = x := ⟨_, rfl⟩
  rw [hx1] at G13
  rw [hx2] at G23
  rw [hx3] at F3
  try rw [hx1]
  try rw [hx2]
  try rw [hx3]
  have HX := Lib.hid (⟨by omega, by omega⟩ : w.heap.size ≤ x3 ∧ x3 + 1 = w3.heap.size)
  have c0 := G13.out.c 0 _ rfl
  have c1' := G13.out.c 1 _ rfl
  have d0 := G23.out.c 0 _ rfl
  have d1 := G23.out.c 1 _ rfl
  have K1 := Lib.hid (H1.out.keep HB3.out)
  have K2 := Lib.hid (H2.out.keep HB3.out)
  have z1 := K1
  clear hx1 hx2 hx3 hz3 hq3 z1 G13 G23
  cases ba
  · have HB0 := Lib.hid (below_alloc0 w3 #[.slice p1 n1 c1, .slice p2 n2 c2] 22)
    have HS9 : Hid ((w3.alloc (.cells #[.slice p1 n1 c1, .slice p2 n2 c2] 22)).heap.size = w3.heap.size + 1) := Lib.hid (by simp)
    have HT : Hid (([La, Lb] : List (List Pr)).flatten.length ≤ 1000) := Lib.hid (by have := HL.out; simp; omega)
    have HPs := Lib.hid (ps_two (K1.out.keep HB0.out) (K2.out.keep HB0.out))
    go_wp2_with (first | (refine (of_any aa _ [.slice p1 n1 c1, .slice p2 n2 c2] [La, Lb] rfl (by simp) (by simpa using HT.out) (w3.alloc (.cells #[.slice p1 n1 c1, .slice p2 n2 c2] 22)) (Ss.lit w3 [.slice p1 n1 c1, .slice p2 n2 c2]) HPs.out).mono ?_; rintro e w4 ⟨v, rfl, hO, hb4⟩; obtain ⟨pv, cv, rfl⟩ := ownsRow_form hO; have HO := Lib.hid hO; have HB4 := Lib.hid (HB3.out.trans (((Below.refl _ w3).alloc (Nat.le_refl _) _).trans (hb4.mono (by simp)) |>.mono HB3.out.size)); have F4 := Lib.hid ((F3.out.below ((Below.refl (w3.heap.size) w3).alloc (Nat.le_refl _) _) F3.out.lt).keep hb4); clear hO hb4) | (refine wpList_store_list rfl 24 _ _ rfl x3 (pa2 false (.slice none 0 0)) (pa2 aa (.slice pv _ cv)) rfl rfl F4.out rfl (sizePa _ _) (pa2_one _ _ _ _) ?_; intro w5 G HK))
    have hh1 : w.heap.size ≤ w4.heap.size := HB4.out.size
    obtain ⟨hh2, hh3⟩ := HX.out
    have hh4 := HS9.out
    refine bodyPost_ret_by (results_mid rfl _ _ x3 _ d rfl G.out.range0 HU.out HD.out (sizePa _ _)) rfl ⟨.slice pv _ cv, rfl, ?_, HB4.out.trans (HK.out.below hh2 hh2 hh1)⟩
    have ho := ownsRow_kpo HO.out HK.out (fun k hk => by
      have h8 := (HO.out.lt k hk).1
      omega)
    simpa using own_ge ho (by omega)
  · have HB0 := Lib.hid (below_alloc0 w3 #[.slice p2 n2 c2] 22)
    have HS9 : Hid ((w3.alloc (.cells #[.slice p2 n2 c2] 22)).heap.size = w3.heap.size + 1) := Lib.hid (by simp)
    have HT : Hid (([Lb] : List (List Pr)).flatten.length ≤ 1000) := Lib.hid (by have := HL.out; simp; omega)
    have HPs := Lib.hid (ps_one (K2.out.keep HB0.out))
    go_wp2_with (first | (refine (of_any true _ [.slice p2 n2 c2] [Lb] rfl (by simp) (by simpa using HT.out) (w3.alloc (.cells #[.slice p2 n2 c2] 22)) (Ss.lit w3 [.slice p2 n2 c2]) HPs.out).mono ?_; rintro e w4 ⟨v, rfl, hO, hb4⟩; obtain ⟨pv, cv, rfl⟩ := ownsRow_form hO; have HO := Lib.hid hO; have HB4 := Lib.hid (HB3.out.trans (((Below.refl _ w3).alloc (Nat.le_refl _) _).trans (hb4.mono (by simp)) |>.mono HB3.out.size)); have F4 := Lib.hid ((F3.out.below ((Below.refl (w3.heap.size) w3).alloc (Nat.le_refl _) _) F3.out.lt).keep hb4); clear hO hb4) | (refine wpList_store_list rfl 24 _ _ rfl x3 (pa2 false (.slice none 0 0)) (pa2 true (.slice pv _ cv)) rfl rfl F4.out rfl (sizePa _ _) (pa2_one _ _ _ _) ?_; intro w5 G HK))
    have hh1 : w.heap.size ≤ w4.heap.size := HB4.out.size
    obtain ⟨hh2, hh3⟩ := HX.out
    have hh4 := HS9.out
    refine bodyPost_ret_by (results_mid rfl _ _ x3 _ d rfl G.out.range0 HU.out HD.out (sizePa _ _)) rfl ⟨.slice pv _ cv, rfl, ?_, HB4.out.trans (HK.out.below hh2 hh2 hh1)⟩
    have ho := ownsRow_kpo HO.out HK.out (fun k hk => by
      have h8 := (HO.out.lt k hk).1
      omega)
    simpa using own_ge ho (by omega)
end Go.Proofs.YtgdapkbenmlabaaDoor.Pt
