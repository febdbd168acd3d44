import Derived.Test.YtgdapkbenmlabaaDoorPO
/- Parse: the answer's. -/
namespace Go.Proofs.YtgdapkbenmlabaaDoor.Pt
set_option linter.unusedSimpArgs false
set_option linter.unusedVariables false
open Go.RowKit Go.Maps

/-- what is left of a text from f on, if its next piece ends at k -/
theorem rest_step (l : List UInt8) (f k : Nat) (hfk : f ≤ k) (hk : k ≤ l.length) (hno : ∀ j (hj : j < l.length), f ≤ j → j < k → l[j] ≠ 47) (hend : k = l.length ∨ ∃ h : k < l.length, l[k] = 47) :
    parsP (pieW 47 (l.drop f)) = parsP ((l.drop f).take (k - f) :: pieW 47 (l.drop (k + 1))) := by
  have hx : ∀ x ∈ (l.drop f).take (k - f), x ≠ 47 := by
    intro x hx
    obtain ⟨j, hj, rfl⟩ := List.mem_iff_getElem.1 hx
    rw [List.length_take, List.length_drop] at hj
    rw [List.getElem_take, List.getElem_drop]
    exact hno (f + j) (by omega) (by omega) (by omega)
  rcases hend with rfl | ⟨h, h47⟩
  · rw [List.take_of_length_le (by simp)] at hx ⊢
    have e0 : l.drop (l.length + 1) = [] := List.drop_eq_nil_of_le (by omega)
    rw [pieW_none 47 (l.drop f) (by rw [splitC_all 47 _ hx]), e0, pieW_none 47 [] rfl]
    by_cases hd : l.drop f = []
    · rw [hd]
      simp [parsP]
    · simp [parsP, hd]
  · have e : l.drop f = (l.drop f).take (k - f) ++ 47 :: l.drop (k + 1) := by
      conv => lhs; rw [← List.take_append_drop (k - f) (l.drop f)]
      congr 1
      rw [List.drop_drop, show f + (k - f) = k by omega, List.drop_eq_getElem_cons h, h47]
    have hs := splitC_app 47 _ (l.drop (k + 1)) hx
    rw [← e] at hs
    rw [pieW_some 47 (l.drop f) (l.drop (k + 1)) (by rw [hs]), hs]
theorem ext_mid (l : List UInt8) (f k : Nat) : (baL l).extract f k = baL ((l.drop f).take (k - f)) := by
  unfold baL
  apply ByteArray.ext
  simp [ByteArray.data_extract, List.extract_eq_take_drop]
theorem baL_at (l : List UInt8) (j : Nat) (hj : j < (baL l).size) (hl : j < l.length) : (baL l)[j] = l[j] := by
  exact List.getElem_toArray (xs := l) (by simpa using hl)
end Go.Proofs.YtgdapkbenmlabaaDoor.Pt
