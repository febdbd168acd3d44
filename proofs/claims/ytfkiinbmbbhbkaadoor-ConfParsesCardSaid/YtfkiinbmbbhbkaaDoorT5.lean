import Derived.Test.YtfkiinbmbbhbkaaDoorT4
import Derived.Lib.SmallJoins
import Derived.Laws.AppendOwnNone
namespace Go.Proofs.YtfkiinbmbbhbkaaDoor
set_option linter.unusedSimpArgs false
set_option linter.unusedVariables false
open Go.RowKit

set_option maxRecDepth 100000 in
theorem ext_to (s : List UInt8) (n : Nat) : (⟨s.toArray⟩ : ByteArray).extract 0 n = ⟨(s.take n).toArray⟩ := by
  apply ByteArray.ext
  simp
set_option maxRecDepth 100000 in
theorem ext_from (s : List UInt8) (n : Nat) : (⟨s.toArray⟩ : ByteArray).extract n (⟨s.toArray⟩ : ByteArray).size = ⟨(s.drop n).toArray⟩ := by
  apply ByteArray.ext
  have : (⟨s.toArray⟩ : ByteArray).size = s.length := by show s.toArray.size = _; simp
  rw [this]
  simp
  exact List.take_of_length_le (by rw [List.length_drop]; exact Nat.le_refl _)
set_option maxRecDepth 100000 in
theorem bytes_inj {s t : List UInt8} (h : (⟨s.toArray⟩ : ByteArray) = ⟨t.toArray⟩) : s = t := by
  have := congrArg ByteArray.data h
  simpa using this
set_option maxRecDepth 100000 in
/-- a head that fits: the piece ahead is D, the byte behind it c -/
theorem fits (s D : List UInt8) (c : UInt8) (hl : (⟨D.toArray⟩ : ByteArray).size < (⟨s.toArray⟩ : ByteArray).size) (hp : (⟨s.toArray⟩ : ByteArray).extract 0 (⟨D.toArray⟩ : ByteArray).size = ⟨D.toArray⟩)
    (hq : (((⟨s.toArray⟩ : ByteArray)[(⟨D.toArray⟩ : ByteArray).size]'hl).toNat : Int) = (c.toNat : Int)) :
    s = D ++ c :: s.drop (D.length + 1) ∧ (⟨s.toArray⟩ : ByteArray).extract ((⟨D.toArray⟩ : ByteArray).size + 1) (⟨s.toArray⟩ : ByteArray).size = ⟨(s.drop (D.length + 1)).toArray⟩ := by
  have hz : (⟨D.toArray⟩ : ByteArray).size = D.length := by show D.toArray.size = _; simp
  have hz2 : (⟨s.toArray⟩ : ByteArray).size = s.length := by show s.toArray.size = _; simp
  refine ⟨?_, by rw [ext_from, hz]⟩
  rw [ext_to, hz] at hp
  have h1 := bytes_inj hp
  have hl' : D.length < s.length := by omega
  have h2 : s[D.length] = c := by
    apply UInt8.toNat_inj.1
    have : (((⟨s.toArray⟩ : ByteArray)[(⟨D.toArray⟩ : ByteArray).size]'hl).toNat : Int) = ((s[D.length]).toNat : Int) := by
      congr 2
    omega
  calc s = s.take D.length ++ s.drop D.length := (List.take_append_drop _ _).symm
    _ = D ++ c :: s.drop (D.length + 1) := by rw [h1, List.drop_eq_getElem_cons hl', h2]
set_option maxRecDepth 100000 in
theorem fits_back (D t : List UInt8) (c : UInt8) : ∃ hl : (⟨D.toArray⟩ : ByteArray).size < (⟨(D ++ c :: t).toArray⟩ : ByteArray).size,
    (⟨(D ++ c :: t).toArray⟩ : ByteArray).extract 0 (⟨D.toArray⟩ : ByteArray).size = ⟨D.toArray⟩ ∧ (((⟨(D ++ c :: t).toArray⟩ : ByteArray)[(⟨D.toArray⟩ : ByteArray).size]'hl).toNat : Int) = (c.toNat : Int) := by
  have hz : (⟨D.toArray⟩ : ByteArray).size = D.length := by show D.toArray.size = _; simp
  have hz2 : (⟨(D ++ c :: t).toArray⟩ : ByteArray).size = (D ++ c :: t).length := by show (D ++ c :: t).toArray.size = _; simp
  refine ⟨by rw [hz, hz2, List.length_append, List.length_cons]; omega, ?_, ?_⟩
  · rw [ext_to, hz]; simp
  · congr 2
    show (D ++ c :: t).toArray[(⟨D.toArray⟩ : ByteArray).size]'_ = _
    simp [hz]
end Go.Proofs.YtfkiinbmbbhbkaaDoor
