import Derived.Test.YtgdapkbenmlabaaDoorPQ
/- The example: Awake. -/
namespace Go.Proofs.YtgdapkbenmlabaaDoor.Pt
set_option linter.unusedSimpArgs false
set_option linter.unusedVariables false
open Go.RowKit Go.Maps

set_option maxHeartbeats 40000000 in
set_option maxRecDepth 100000 in
theorem awake_any (m : Int) (w : World) (hm : w.cell? ⟨0, 0, none⟩ = some (.int .i64 m)) :
    Calls Tryd.prog 4 #[] w fun e w' => e = .returned (.bool true) ∧ Below w.heap.size w w' := by
  have hp := parse_any [47, 97, 64, 108, 111, 119, 47, 47, 98] m w hm
  rw [parseC_awake] at hp
  have HP := Lib.hid hp
  change Hid (Calls Tryd.prog 8 #[.string ⟨#[47, 97, 64, 108, 111, 119, 47, 47, 98]⟩] w fun e w' => ∃ v, e = .returned (.tuple #[.agg #[.bool true, v], .int .i64 0]) ∧ w'.ownsRow w.heap.size 28 2 v 2 [.string ⟨#[97]⟩, .string ⟨#[108, 111, 119]⟩, .string ⟨#[98]⟩, .string ⟨#[]⟩] ∧ Below w.heap.size w w') at HP
  have HE1 := Lib.hid (fun W => eqPr (⟨#[97]⟩, ⟨#[108, 111, 119]⟩) (⟨#[97]⟩, ⟨#[108, 111, 119]⟩) (by unfold okP maxLen; decide) (by unfold okP maxLen; decide) W)
  have HE2 := Lib.hid (fun W => eqPr (⟨#[98]⟩, ⟨#[]⟩) (⟨#[98]⟩, ⟨#[]⟩) (by unfold okP maxLen; decide) (by unfold okP maxLen; decide) W)
  obtain ⟨dp, hup, hdp⟩ := Tryd.descPr
  have HUp := Lib.hid hup
  have HDp := Lib.hid hdp
  clear hp hup hdp hm
  go_enter Tryd.func4, Tryd.ntmps4
  go_wp2_with fail
  refine HP.out.mono ?_
  rintro e w1 ⟨v, rfl, hO, hb⟩
  obtain ⟨pl, cl, rfl⟩ := ownsRow_form hO
  obtain ⟨g, rfl, hgl⟩ : ∃ g, pl = some ⟨g, 0, none⟩ ∧ g < w1.heap.size := by
    rcases hO.2 with ⟨hv, hn⟩ | ⟨g, cap, cur, hv, hb1, hg, -⟩
    · cases hv
    · injection hv with h1
      exact ⟨g, h1, (Array.getElem?_eq_some_iff.1 hg).1⟩
  have HB := Lib.hid hb
  have hr : w1.rangeAt g 0 [.string ⟨#[97]⟩, .string ⟨#[108, 111, 119]⟩, .string ⟨#[98]⟩, .string ⟨#[]⟩] := fun j u hu => by
    rw [Nat.zero_add, World.ownsRow.cellAt hO j (by have := (List.getElem?_eq_some_iff.1 hu).1; simpa using this)]
    exact hu
  have HR := Lib.hid hr
  clear hb hO hr
  go_upto_region 2 with fail
  have hb2 : Below w1.heap.size w1 (w1.alloc (.cells #[.bool true, .slice (some ⟨g, 0, none⟩) 2 cl] 24)) := below_alloc0 w1 _ _
  have HB2 := Lib.hid (HB.out.trans (hb2.mono HB.out.size))
  have HV := Lib.hid (Vl.new w1 [.bool true, .slice (some ⟨g, 0, none⟩) 2 cl] 24)
  change Hid (Vl (w1.alloc (.cells #[.bool true, .slice (some ⟨g, 0, none⟩) 2 cl] 24)) w1.heap.size [.bool true, .slice (some ⟨g, 0, none⟩) 2 cl]) at HV
  have HR2 := Lib.hid (ra_keep HR.out hb2)
  obtain ⟨b1, hb1⟩ : ∃ x, w1.heap.size = x := ⟨_, rfl⟩
  rw [hb1] at HV
  try rw [hb1]
  obtain ⟨w2, hw2⟩ : ∃ x, w1.alloc (.cells #[.bool true, .slice (some ⟨g, 0, none⟩) 2 cl] 24) = x := ⟨_, rfl⟩
  rw [hw2] at HB2 HV HR2
  try rw [hw2]
  have d0 := HV.out.c 0 _ rfl
  have d1 := HV.out.c 1 _ rfl
  have e0 : w2.cell? ⟨g, 0, none⟩ = some (.string ⟨#[97]⟩) := HR2.out 0 _ rfl
  have e1 : w2.cell? ⟨g, 1, none⟩ = some (.string ⟨#[108, 111, 119]⟩) := HR2.out 1 _ rfl
  have e2 : w2.cell? ⟨g, 2, none⟩ = some (.string ⟨#[98]⟩) := HR2.out 2 _ rfl
  have e3 : w2.cell? ⟨g, 3, none⟩ = some (.string ⟨#[]⟩) := HR2.out 3 _ rfl
  have k1 : ∀ W, (Op.equalIn 10000 28 (.agg #[.string ⟨#[97]⟩, .string ⟨#[108, 111, 119]⟩]) (.agg #[.string ⟨#[97]⟩, .string ⟨#[108, 111, 119]⟩])).run Tryd.prog W = .ok true W := fun W => HE1.out W
  have k2 : ∀ W, (Op.equalIn 10000 28 (.agg #[.string ⟨#[98]⟩, .string ⟨#[]⟩]) (.agg #[.string ⟨#[98]⟩, .string ⟨#[]⟩])).run Tryd.prog W = .ok true W := fun W => HE2.out W
  clear hb2 hb1 hw2 HR HB HP
  go_wp2_with fail
  go_ret
  exact ⟨rfl, HB2.out⟩
end Go.Proofs.YtgdapkbenmlabaaDoor.Pt
