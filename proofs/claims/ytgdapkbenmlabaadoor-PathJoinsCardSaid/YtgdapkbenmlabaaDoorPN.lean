import Derived.Test.YtgdapkbenmlabaaDoorPM
import Derived.Test.YtgdapkbenmlabaaDoorPG
/- Parse: a text that is empty, or too long. -/
namespace Go.Proofs.YtgdapkbenmlabaaDoor.Pt
set_option linter.unusedSimpArgs false
set_option linter.unusedVariables false
open Go.RowKit Go.Maps

theorem split_any (l : List UInt8) (c : UInt8) (m : Int) (w : World) (hs : l.length ≤ 100000) (hm : w.cell? ⟨0, 0, none⟩ = some (.int .i64 m)) :
    Calls Tryd.prog 11 #[.string (baL l), .string ⟨#[c]⟩] w fun e w' => e = .returned (.slice (some ⟨w.heap.size, 0, none⟩) (pieW c l).length (pieW c l).length) ∧ w' = w.alloc (.cells ((pieW c l).map fun x => Value.string (baL x)).toArray 9) := by
  refine (Tryd.strings_Split (baL l) ⟨#[c]⟩ m w (by rw [baL_size]; omega) hm (by show 1 ≤ 1; omega)).mono ?_
  rintro e w' ⟨rfl, rfl⟩
  rw [split_pieces, countB_one, ← pieW_len, List.map_map]
  exact ⟨rfl, rfl⟩
theorem parsP_nil (r : List (List UInt8)) : parsP ([] :: r) = parsP r := by rw [parsP, if_pos rfl]
theorem parsP_good (x : List UInt8) (r : List (List UInt8)) (hx : x ≠ []) (p : Pr) (h : partC x = (p, 0)) : parsP (x :: r) = (p :: (parsP r).1, (parsP r).2) := by rw [parsP, if_neg hx, h, if_pos rfl]
theorem parsP_bad (x : List UInt8) (r : List (List UInt8)) (hx : x ≠ []) (p : Pr) (c : Int) (h : partC x = (p, c)) (hc : c ≠ 0) : parsP (x :: r) = ([], c) := by rw [parsP, if_neg hx, h, if_neg hc]
theorem baL_nil (l : List UInt8) : (baL l).toList.isEmpty = l.isEmpty := by rw [ByteArray.toList_eq]; rfl
theorem partC_bad {x : List UInt8} {p : Pr} {c : Int} (h : partC x = (p, c)) (hc : c ≠ 0) : p = zP := by
  unfold partC at h
  cases hq : (splitC 64 x).2 with
  | none =>
    rw [hq] at h
    simp only [Option.map_none, partO] at h
    split at h
    · exact absurd (Prod.mk.inj h).2.symm hc
    · split at h
      · exact absurd (Prod.mk.inj h).2.symm hc
      · exact (Prod.mk.inj h).1.symm
  | some t =>
    rw [hq] at h
    simp only [Option.map_some, partO] at h
    split at h
    · split at h
      · exact absurd (Prod.mk.inj h).2.symm hc
      · split at h
        · exact absurd (Prod.mk.inj h).2.symm hc
        · exact (Prod.mk.inj h).1.symm
    · exact (Prod.mk.inj h).1.symm
set_option maxHeartbeats 40000000 in
set_option maxRecDepth 100000 in
theorem parse_empty (w : World) :
    Calls Tryd.prog 8 #[.string (baL [])] w fun e w' => ∃ v, e = .returned (.tuple #[.agg (pa2 false v).toArray, .int .i64 7]) ∧ w'.ownsRow w.heap.size 28 2 v 0 [] ∧ Below w.heap.size w w' := by
  obtain ⟨d, hu, hd⟩ := Tryd.descPa
  have HU := Lib.hid hu
  have HD := Lib.hid hd
  have HR : Hid (True) := Lib.hid trivial
  have q0 : (baL []).toList.isEmpty = true := baL_nil []
  clear hu hd
  go_enter Tryd.func8, Tryd.ntmps8
  go_wp2_with (first | (refine wpList_alloc_list (w := w) rfl 24 rfl (pa2 false (.slice none 0 0)) Tryd.zeroPa ?_; intro w1 F1 hb1 hz1; have HB1 := Lib.hid hb1; clear hb1 hz1) | (refine wpList_store_list rfl 24 _ _ rfl w.heap.size (pa2 false (.slice none 0 0)) (pa2 false (.slice none 0 0)) rfl rfl F1.out rfl (sizePa _ _) (pa2_one _ _ _ _) ?_; intro w5 G HK))
  exact bodyPost_ret_by (results_mid_tmp rfl _ _ w.heap.size _ d rfl G.out.range0 HU.out HD.out (sizePa _ _)) rfl ⟨.slice none 0 0, rfl,  World.ownsRow_nil _ _ _ _, HB1.out.trans (HK.out.below (Nat.le_refl _) (Nat.le_refl _) HB1.out.size)⟩
set_option maxHeartbeats 40000000 in
set_option maxRecDepth 100000 in
theorem parse_long (l : List UInt8) (hl : 120 < l.length) (w : World) :
    Calls Tryd.prog 8 #[.string (baL l)] w fun e w' => ∃ v, e = .returned (.tuple #[.agg (pa2 false v).toArray, .int .i64 8]) ∧ w'.ownsRow w.heap.size 28 2 v 0 [] ∧ Below w.heap.size w w' := by
  obtain ⟨d, hu, hd⟩ := Tryd.descPa
  have HU := Lib.hid hu
  have HD := Lib.hid hd
  have q0 : (baL l).toList.isEmpty = false := by
    rw [baL_nil]
    cases l with
    | nil => simp at hl
    | cons a r => rfl
  have h1 : ¬ ((baL l).size : Int) ≤ 120 := by rw [baL_size]; omega
  have h2 : (120 : Int) < (baL l).size := by rw [baL_size]; omega
  generalize baL l = S at *
  clear hu hd hl
  go_enter Tryd.func8, Tryd.ntmps8
  go_wp2_with (first | (refine wpList_alloc_list (w := w) rfl 24 rfl (pa2 false (.slice none 0 0)) Tryd.zeroPa ?_; intro w1 F1 hb1 hz1; have HB1 := Lib.hid hb1; clear hb1 hz1) | (refine wpList_store_list rfl 24 _ _ rfl w.heap.size (pa2 false (.slice none 0 0)) (pa2 false (.slice none 0 0)) rfl rfl F1.out rfl (sizePa _ _) (pa2_one _ _ _ _) ?_; intro w5 G HK))
  exact bodyPost_ret_by (results_mid_tmp rfl _ _ w.heap.size _ d rfl G.out.range0 HU.out HD.out (sizePa _ _)) rfl ⟨.slice none 0 0, rfl,  World.ownsRow_nil _ _ _ _, HB1.out.trans (HK.out.below (Nat.le_refl _) (Nat.le_refl _) HB1.out.size)⟩

end Go.Proofs.YtgdapkbenmlabaaDoor.Pt
