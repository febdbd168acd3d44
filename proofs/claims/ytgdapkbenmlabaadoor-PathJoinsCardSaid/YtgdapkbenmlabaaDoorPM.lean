import Derived.Test.YtgdapkbenmlabaaDoorPE
/- Texts in pieces; what a text is as a path. -/
namespace Go.Proofs.YtgdapkbenmlabaaDoor.Pt
set_option linter.unusedSimpArgs false
set_option linter.unusedVariables false
open Go.RowKit Go.Maps

theorem splitC_head (c : UInt8) (l : List UInt8) : ∀ x ∈ (splitC c l).1, x ≠ c := by
  cases hq : (splitC c l).2 with
  | none =>
    obtain ⟨h1, h2⟩ := splitC_none c l hq
    rw [h1]
    exact h2
  | some t => exact (splitC_some c l t hq).2
/-- a text's pieces between c -/
def pieW (c : UInt8) (l : List UInt8) : List (List UInt8) :=
  match _h : (splitC c l).2 with
  | none => [l]
  | some t => (splitC c l).1 :: pieW c t
termination_by l.length
decreasing_by exact splitC_lt c l t _h
theorem pieW_none (c : UInt8) (l : List UInt8) (h : (splitC c l).2 = none) : pieW c l = [l] := by
  rw [pieW]
  split
  · rfl
  · rename_i t ht
    rw [h] at ht
    cases ht
theorem pieW_some (c : UInt8) (l t : List UInt8) (h : (splitC c l).2 = some t) : pieW c l = (splitC c l).1 :: pieW c t := by
  rw [pieW]
  split
  · rename_i ht
    rw [h] at ht
    cases ht
  · rename_i t' ht
    rw [h] at ht
    obtain rfl := Option.some.inj ht
    rfl
theorem count_zero (c : UInt8) (l : List UInt8) : l.count c = 0 ↔ (splitC c l).2 = none := by
  constructor
  · intro h
    cases hq : (splitC c l).2 with
    | none => rfl
    | some t =>
      obtain ⟨h1, -⟩ := splitC_some c l t hq
      rw [h1] at h
      simp at h
  · intro h
    obtain ⟨-, h2⟩ := splitC_none c l h
    exact List.count_eq_zero.2 (fun hc => h2 c hc rfl)
theorem count_some (c : UInt8) (l t : List UInt8) (h : (splitC c l).2 = some t) : l.count c = t.count c + 1 := by
  obtain ⟨h1, h2⟩ := splitC_some c l t h
  have h3 : (splitC c l).1.count c = 0 := List.count_eq_zero.2 (fun hc => h2 c hc rfl)
  conv => lhs; rw [h1]
  rw [List.count_append, List.count_cons_self, h3]
  omega
theorem indexB_split (c : UInt8) (l : List UInt8) : Lib.indexB (baL l) ⟨#[c]⟩ = (match (splitC c l).2 with | none => -1 | some _ => ((splitC c l).1.length : Int)) := by
  show Lib.index (baL l).data.toList [c] = _
  rw [Lib.index_one, byte_split]
  rfl
theorem cut_two (c : UInt8) (h t : List UInt8) : (baL (h ++ c :: t)).extract 0 (h.length + 0) = baL h ∧ (baL (h ++ c :: t)).extract (h.length + 1) (baL (h ++ c :: t)).size = baL t := by
  constructor
  · rw [Nat.add_zero]
    refine (ext_to _ _).trans ?_
    rw [List.take_left']
    · rfl
    · rfl
  · refine (ext_from _ _).trans ?_
    rw [List.drop_append, Nat.add_sub_cancel_left, List.drop_eq_nil_of_le (by omega)]
    rfl
theorem splitB_pieces (c : UInt8) : ∀ (k : Nat) (l : List UInt8), l.count c = k → Lib.splitB ⟨#[c]⟩ 0 k (baL l) = (pieW c l).map baL
  | 0, l, h => by rw [pieW_none c l ((count_zero c l).1 h), Lib.splitB_zero]; rfl
  | k + 1, l, h => by
    cases hq : (splitC c l).2 with
    | none =>
      have := (count_zero c l).2 hq
      omega
    | some t =>
      obtain ⟨h1, -⟩ := splitC_some c l t hq
      have hi : Lib.indexB (baL l) ⟨#[c]⟩ = (splitC c l).1.length := by rw [indexB_split, hq]
      rw [Lib.splitB_hit _ _ _ _ _ hi, pieW_some c l t hq, List.map_cons, ← splitB_pieces c k t (by have := count_some c l t hq; omega)]
      obtain ⟨e1, e2⟩ : (baL l).extract 0 ((splitC c l).1.length + 0) = baL (splitC c l).1 ∧ (baL l).extract ((splitC c l).1.length + 1) (baL l).size = baL t := by
        generalize (splitC c l).1 = hh at *
        subst h1
        exact cut_two c hh t
      rw [e1]
      refine congrArg _ ?_
      exact congrArg _ e2
theorem countB_one (c : UInt8) (l : List UInt8) : Lib.countB (baL l) ⟨#[c]⟩ = l.count c := by
  show Lib.count (baL l).data.toList [c] = _
  rw [Lib.count_one]
  rfl
theorem split_pieces (c : UInt8) (l : List UInt8) : Lib.splitB ⟨#[c]⟩ 0 (Lib.countB (baL l) ⟨#[c]⟩) (baL l) = (pieW c l).map baL := by
  rw [countB_one]
  exact splitB_pieces c _ l rfl
theorem pieW_len (c : UInt8) (l : List UInt8) : (pieW c l).length = l.count c + 1 := by
  induction l using (measure List.length).wf.induction with
  | _ l ih =>
    cases hq : (splitC c l).2 with
    | none => rw [pieW_none c l hq, (count_zero c l).2 hq]; rfl
    | some t => rw [pieW_some c l t hq, List.length_cons, ih t (splitC_lt c l t hq), count_some c l t hq]
theorem pieW_mem (c : UInt8) (l : List UInt8) : ∀ x ∈ pieW c l, x.length ≤ l.length := by
  induction l using (measure List.length).wf.induction with
  | _ l ih =>
    cases hq : (splitC c l).2 with
    | none =>
      rw [pieW_none c l hq]
      intro x hx
      rw [List.mem_singleton.1 hx]
      exact Nat.le_refl _
    | some t =>
      rw [pieW_some c l t hq]
      have h1 := congrArg List.length (splitC_some c l t hq).1
      rw [List.length_append, List.length_cons] at h1
      intro x hx
      rcases List.mem_cons.1 hx with rfl | hx
      · omega
      · have := ih t (splitC_lt c l t hq) x hx
        have := splitC_lt c l t hq
        omega
/-- the parts of pieces, up to the first that isn't right; its error -/
def parsP : List (List UInt8) → List Pr × Int
  | [] => ([], 0)
  | x :: r => if x = [] then parsP r else if (partC x).2 = 0 then ((partC x).1 :: (parsP r).1, (parsP r).2) else ([], (partC x).2)
/-- a text as a path: absolute, its parts; an error's number -/
def parseC (l : List UInt8) : (Bool × List Pr) × Int :=
  if l = [] then ((false, []), 7) else if 120 < l.length then ((false, []), 8) else
    if (parsP (pieW 47 l)).2 = 0 then ((decide (l.head? = some 47), (parsP (pieW 47 l)).1), 0) else ((false, []), (parsP (pieW 47 l)).2)
theorem okP_of {l : List UInt8} (h : l.length ≤ 100000) : okP (partC l).1 := by
  have hz : okP zP := ⟨Nat.zero_le _, Nat.zero_le _⟩
  have hl : (splitC 64 l).1.length ≤ 100000 ∧ ∀ t, (splitC 64 l).2 = some t → t.length ≤ 100000 := by
    cases hq : (splitC 64 l).2 with
    | none =>
      rw [(splitC_none 64 l hq).1]
      exact ⟨h, fun t ht => by cases ht⟩
    | some t =>
      have h1 := congrArg List.length (splitC_some 64 l t hq).1
      rw [List.length_append, List.length_cons] at h1
      exact ⟨by omega, fun t' ht => by obtain rfl := Option.some.inj ht; omega⟩
  have hb : ∀ x : List UInt8, x.length ≤ 100000 → (baL x).size ≤ maxLen := fun x hx => by rw [baL_size]; unfold maxLen; omega
  unfold partC
  cases hq : (splitC 64 l).2 with
  | none =>
    simp only [Option.map_none, partO]
    split
    · exact ⟨hb _ hl.1, Nat.zero_le _⟩
    · split
      · exact ⟨hb _ hl.1, Nat.zero_le _⟩
      · exact hz
  | some t =>
    simp only [Option.map_some, partO]
    split
    · split
      · exact ⟨hb _ hl.1, hb _ (hl.2 t hq)⟩
      · split
        · exact ⟨hb _ hl.1, hb _ (hl.2 t hq)⟩
        · exact hz
    · exact hz
theorem parsP_len : ∀ P, (parsP P).1.length ≤ P.length
  | [] => Nat.le_refl _
  | x :: r => by
    have := parsP_len r
    unfold parsP
    split
    · simp only [List.length_cons]; omega
    · split
      · simp only [List.length_cons]; omega
      · simp
theorem parsP_ok : ∀ P, (∀ x ∈ P, x.length ≤ 100000) → ∀ e ∈ (parsP P).1, okP e
  | [], _, e, he => by cases he
  | x :: r, h, e, he => by
    have ih := parsP_ok r (fun y hy => h y (List.mem_cons_of_mem _ hy))
    unfold parsP at he
    split at he
    · exact ih e he
    · split at he
      · rcases List.mem_cons.1 he with rfl | he
        · exact okP_of (h x (List.mem_cons_self ..))
        · exact ih e he
      · cases he
end Go.Proofs.YtgdapkbenmlabaaDoor.Pt
