import Derived.Test.YtgdapkbenmlabaaDoorPP
/- Parse, for any text; the example. -/
namespace Go.Proofs.YtgdapkbenmlabaaDoor.Pt
set_option linter.unusedSimpArgs false
set_option linter.unusedVariables false
open Go.RowKit Go.Maps

theorem parse_any (l : List UInt8) (m : Int) (w : World) (hm : w.cell? ⟨0, 0, none⟩ = some (.int .i64 m)) :
    Calls Tryd.prog 8 #[.string (baL l)] w fun e w' => ∃ v, e = .returned (.tuple #[.agg (pa2 (parseC l).1.1 v).toArray, .int .i64 (parseC l).2]) ∧ w'.ownsRow w.heap.size 28 2 v (parseC l).1.2.length (flP (parseC l).1.2) ∧ Below w.heap.size w w' := by
  by_cases h1 : l = []
  · subst h1
    rw [show parseC [] = ((false, []), 7) from rfl]
    exact parse_empty w
  · by_cases h2 : 120 < l.length
    · rw [show parseC l = ((false, []), 8) from by unfold parseC; rw [if_neg h1, if_pos h2]]
      exact parse_long l h2 w
    · exact parse_mid l h1 (by omega) m w hm
theorem parseC_ok (l : List UInt8) : smP (parseC l).1.2 ∧ (parseC l).1.2.length ≤ 121 := by
  unfold parseC
  split
  · exact ⟨(fun e he => by cases he), Nat.zero_le _⟩
  · split
    · exact ⟨(fun e he => by cases he), Nat.zero_le _⟩
    · rename_i h1 h2
      split
      · refine ⟨parsP_ok _ (fun x hx => by have := pieW_mem 47 l x hx; omega), ?_⟩
        have := parsP_len (pieW 47 l)
        rw [pieW_len] at this
        have h3 := List.count_le_length (a := (47 : UInt8)) (l := l)
        show (parsP (pieW 47 l)).1.length ≤ 121
        omega
      · exact ⟨(fun e he => by cases he), Nat.zero_le _⟩
/-- chapter 11's example -/
theorem parseC_awake : parseC [47, 97, 64, 108, 111, 119, 47, 47, 98] = ((true, [(⟨#[97]⟩, ⟨#[108, 111, 119]⟩), (⟨#[98]⟩, ⟨#[]⟩)]), 0) := by
  have hp : pieW 47 [47, 97, 64, 108, 111, 119, 47, 47, 98] = [[], [97, 64, 108, 111, 119], [], [98]] := by
    rw [pieW_some 47 _ [97, 64, 108, 111, 119, 47, 47, 98] rfl, pieW_some 47 _ [47, 98] rfl, pieW_some 47 _ [98] rfl, pieW_none 47 [98] rfl]
    rfl
  have h1 : partC [97, 64, 108, 111, 119] = ((⟨#[97]⟩, ⟨#[108, 111, 119]⟩), 0) := by decide +kernel
  have h2 : partC [98] = ((⟨#[98]⟩, ⟨#[]⟩), 0) := by decide +kernel
  have hq : parsP [[], [97, 64, 108, 111, 119], [], [98]] = ([(⟨#[97]⟩, ⟨#[108, 111, 119]⟩), (⟨#[98]⟩, ⟨#[]⟩)], 0) := by
    rw [parsP_nil, parsP_good _ _ (by simp) _ h1, parsP_nil, parsP_good _ _ (by simp) _ h2]
    rfl
  unfold parseC
  rw [hp, hq]
  rfl
end Go.Proofs.YtgdapkbenmlabaaDoor.Pt
