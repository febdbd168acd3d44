import Derived.Test.YtgdapkbenmlabaaDoorPI
/- Paths of lists; Join, Base. -/
namespace Go.Proofs.YtgdapkbenmlabaaDoor.Pt
set_option linter.unusedSimpArgs false
set_option linter.unusedVariables false
open Go.RowKit Go.Maps

theorem Ss.keep {w w' : World} {v : Value} {V : List Value} (h : Ss w v V) (hb : Below w.heap.size w w') : Ss w' v V := by
  rcases h with h | ⟨g, o, cap, h1, h2, h3⟩
  · exact .inl h
  · exact .inr ⟨g, o, cap, h1, h2, fun j u hu => (hb.cell (World.block_lt_of_cell? w _ (h3 j u hu))).trans (h3 j u hu)⟩
theorem own_ge {w : World} {b b' size n : Nat} {e : TypeId} {v : Value} {xs : List Value} (h : w.ownsRow b e size v n xs) (hb : b' ≤ b) : w.ownsRow b' e size v n xs := by
  refine ⟨h.1, ?_⟩
  rcases h.2 with h2 | ⟨g, cap, cur, hv, hg, r⟩
  · exact .inl h2
  · exact .inr ⟨g, cap, cur, hv, Nat.le_trans hb hg, r⟩
set_option maxHeartbeats 20000000 in
set_option maxRecDepth 100000 in
theorem of_any (a : Bool) (vs : Value) (V : List Value) (LL : List (List Pr)) (hl : V.length = LL.length) (h5 : LL.length ≤ 10) (ht : LL.flatten.length ≤ 1000) (w : World) (hS : Ss w vs V) (hP : ∀ (i : Nat) (v : Value) (L : List Pr), V[i]? = some v → LL[i]? = some L → Ps w v L) :
    Calls Tryd.prog 9 #[.bool a, vs] w fun e w' => ∃ v, e = .returned (.agg (pa2 a v).toArray) ∧ w'.ownsRow w.heap.size 28 2 v LL.flatten.length (flP LL.flatten) ∧ Below w.heap.size w w' := by
  obtain ⟨d, hu, hd⟩ := Tryd.descPa
  have HU := Lib.hid hu
  have HD := Lib.hid hd
  have HC := Lib.hid (fun W hS hP => concat_any vs V LL hl h5 ht W hS hP)
  have HS := Lib.hid hS
  have HP := Lib.hid hP
  generalize LL.flatten = F at *
  clear hu hd hS hP hl h5 ht
  obtain ⟨pv, cv, hv, -⟩ := HS.out.form
  generalize V.length = nv at *
  subst hv
  go_enter Tryd.func9, Tryd.ntmps9
  go_wp2_with (first | (refine wpList_alloc_list (w := w) rfl 24 rfl (pa2 false (.slice none 0 0)) Tryd.zeroPa ?_; intro w1 F1 hb1 hz1; have HB1 := Lib.hid hb1; clear hb1))
  obtain ⟨bz, hbz⟩ : ∃ x, w.heap.size = x := ⟨_, rfl⟩
  rw [hbz] at F1
  try rw [hbz]
  have HW := Lib.hid hbz
  have hq1 : bz + 1 = w1.heap.size := by omega
  have HQ := Lib.hid hq1
  clear hz1 hbz hq1
  go_wp2_with (first | (refine (HC.out w1 (HS.out.keep HB1.out) (fun i v L h1 h2 => (HP.out i v L h1 h2).keep HB1.out)).mono ?_; rintro e w2 ⟨v, rfl, hO, hb2⟩; obtain ⟨pa, cap, rfl⟩ := ownsRow_form hO; have hbd := (fun W => Tryd.buildPa2 a pa F.length cap W); have HO := Lib.hid hO; have HB2 := Lib.hid (HB1.out.trans (hb2.mono HB1.out.size)); have F2 := Lib.hid (F1.out.keep hb2); clear hO hb2) | (refine wpList_store_list rfl 24 _ _ rfl bz (pa2 false (.slice none 0 0)) (pa2 a (.slice pa F.length cap)) rfl rfl F2.out rfl (sizePa _ _) (pa2_one _ _ _ _) ?_; intro w4 G HK))
  have hq2 := F2.out.lt
  refine bodyPost_ret_by (results_mid rfl _ _ bz _ d rfl G.out.range0 HU.out HD.out (sizePa _ _)) rfl ⟨.slice pa F.length cap, rfl, ?_, HB2.out.trans (HK.out.below (by have := HW.out; have := HB2.out.size; omega) (by have := HW.out; omega) (by have := HW.out; omega))⟩
  refine own_ge (ownsRow_kpo HO.out HK.out (fun k hk => ?_)) (by have := HW.out; have := HQ.out; omega)
  have := (HO.out.lt k hk).1
  have := HQ.out
  omega
end Go.Proofs.YtgdapkbenmlabaaDoor.Pt
