import Derived.Test.YtgdapkbenmlabaaDoorPD
/- A part: the answer's. -/
namespace Go.Proofs.YtgdapkbenmlabaaDoor.Pt
set_option linter.unusedSimpArgs false
set_option linter.unusedVariables false
open Go.RowKit Go.Maps

theorem ext_to (s : List UInt8) (n : Nat) : (⟨s.toArray⟩ : ByteArray).extract 0 n = ⟨(s.take n).toArray⟩ := by
  apply ByteArray.ext
  simp
theorem ext_from (s : List UInt8) (n : Nat) : (⟨s.toArray⟩ : ByteArray).extract n (⟨s.toArray⟩ : ByteArray).size = ⟨(s.drop n).toArray⟩ := by
  apply ByteArray.ext
  have : (⟨s.toArray⟩ : ByteArray).size = s.length := by show s.toArray.size = _; simp
  rw [this]
  simp
  exact List.take_of_length_le (by rw [List.length_drop]; exact Nat.le_refl _)
theorem bytes_inj {s t : List UInt8} (h : (⟨s.toArray⟩ : ByteArray) = ⟨t.toArray⟩) : s = t := by
  have := congrArg ByteArray.data h
  simpa using this
theorem notin_at (l : List UInt8) (c : UInt8) (h : ∀ j (hj : j < (baL l).size), ((baL l)[j]).toNat ≠ c.toNat) : splitC c l = (l, none) := by
  refine splitC_all c l fun x hx he => ?_
  obtain ⟨j, hj, rfl⟩ := List.mem_iff_getElem.1 hx
  exact h j (by show j < l.toArray.size; simpa using hj) (by show (l.toArray[j]).toNat = _; simp [he])
theorem first_at (l : List UInt8) (c : UInt8) (a : Nat) (ha : a < (baL l).size) (h : ((baL l)[a]).toNat = c.toNat) (hb : ∀ j (hj : j < (baL l).size), j < a → ((baL l)[j]).toNat ≠ c.toNat) : splitC c l = (l.take a, some (l.drop (a + 1))) := by
  have hl : a < l.length := by
    have : (baL l).size = l.length := by show l.toArray.size = _; simp
    omega
  have e : l = l.take a ++ c :: l.drop (a + 1) := by
    have hc : l[a] = c := by
      have : (l.toArray[a]'(by simpa using hl)).toNat = c.toNat := h
      simp at this
      exact UInt8.toNat_inj.1 this
    rw [← hc, List.getElem_cons_drop, List.take_append_drop]
  have h2 := splitC_app c (l.take a) (l.drop (a + 1)) (fun x hx he => by
    obtain ⟨j, hj, rfl⟩ := List.mem_iff_getElem.1 hx
    have hj2 : j < a := by rw [List.length_take] at hj; omega
    refine hb j (by show j < l.toArray.size; simp; omega) hj2 ?_
    show (l.toArray[j]'(by simp; omega)).toNat = _
    rw [List.getElem_take] at he
    simp [he])
  rw [← e] at h2
  exact h2
theorem baL_size (l : List UInt8) : (baL l).size = l.length := by show l.toArray.size = _; simp
end Go.Proofs.YtgdapkbenmlabaaDoor.Pt
