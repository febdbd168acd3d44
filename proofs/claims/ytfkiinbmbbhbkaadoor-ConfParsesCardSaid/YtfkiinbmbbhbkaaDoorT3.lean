import Derived.Test.YtfkiinbmbbhbkaaDoorT2
import Derived.Test.YtfkiinbmbbhbkaaDoorW17
namespace Go.Proofs.YtfkiinbmbbhbkaaDoor
set_option linter.unusedSimpArgs false
set_option linter.unusedVariables false
open Go.RowKit

/-- the text ahead of the first c, and what stands behind it, if there is one -/
def splitC (c : UInt8) : List UInt8 → List UInt8 × Option (List UInt8)
  | [] => ([], none)
  | x :: r => if x = c then ([], some r) else (x :: (splitC c r).1, (splitC c r).2)
set_option maxRecDepth 100000 in
theorem splitC_none (c : UInt8) : ∀ s, (splitC c s).2 = none → (splitC c s).1 = s ∧ ∀ x ∈ s, x ≠ c
  | [], _ => ⟨rfl, by simp⟩
  | x :: r, h => by
    rw [splitC] at h ⊢
    split
    · rename_i hx; rw [if_pos hx] at h; cases h
    · rename_i hx
      rw [if_neg hx] at h
      obtain ⟨h1, h2⟩ := splitC_none c r h
      refine ⟨by simp [h1], fun y hy => ?_⟩
      rcases List.mem_cons.1 hy with rfl | hy
      · exact hx
      · exact h2 y hy
set_option maxRecDepth 100000 in
theorem splitC_some (c : UInt8) : ∀ s t, (splitC c s).2 = some t → s = (splitC c s).1 ++ c :: t ∧ ∀ x ∈ (splitC c s).1, x ≠ c
  | [], _, h => by cases h
  | x :: r, t, h => by
    rw [splitC] at h ⊢
    split
    · rename_i hx
      rw [if_pos hx] at h
      injection h with h
      subst h hx
      exact ⟨rfl, by simp⟩
    · rename_i hx
      rw [if_neg hx] at h
      obtain ⟨h1, h2⟩ := splitC_some c r t h
      refine ⟨congrArg (x :: ·) h1, fun y hy => ?_⟩
      rcases List.mem_cons.1 hy with rfl | hy
      · exact hx
      · exact h2 y hy
set_option maxRecDepth 100000 in
theorem splitC_app (c : UInt8) : ∀ (h t : List UInt8), (∀ x ∈ h, x ≠ c) → splitC c (h ++ c :: t) = (h, some t)
  | [], t, _ => by rw [List.nil_append, splitC, if_pos rfl]
  | x :: r, t, h => by
    rw [List.cons_append, splitC, if_neg (h x (List.mem_cons_self ..)), splitC_app c r t (fun y hy => h y (List.mem_cons_of_mem _ hy))]
set_option maxRecDepth 100000 in
theorem splitC_all (c : UInt8) : ∀ (h : List UInt8), (∀ x ∈ h, x ≠ c) → splitC c h = (h, none)
  | [], _ => rfl
  | x :: r, h => by
    rw [splitC, if_neg (h x (List.mem_cons_self ..)), splitC_all c r (fun y hy => h y (List.mem_cons_of_mem _ hy))]
set_option maxRecDepth 100000 in
theorem splitC_lt (c : UInt8) (s t : List UInt8) (h : (splitC c s).2 = some t) : t.length < s.length := by
  have := congrArg List.length (splitC_some c s t h).1
  rw [List.length_append, List.length_cons] at this
  omega
set_option maxRecDepth 100000 in
theorem digits_isD (n : Fin 100) : ((Lib.decDigits n.val).all isD) = true ∧ numO (Lib.decDigits n.val) = some n.val := by
  revert n; decide +kernel
set_option maxRecDepth 100000 in
theorem numO_digits (n : Nat) (h : n < 100) : numO (Lib.decDigits n) = some n := (digits_isD ⟨n, h⟩).2
set_option maxRecDepth 100000 in
theorem digits_ne (n : Nat) (h : n < 100) (c : UInt8) (hc : isD c = false) : ∀ x ∈ Lib.decDigits n, x ≠ c := by
  intro x hx he
  have := List.all_eq_true.1 (digits_isD ⟨n, h⟩).1 x hx
  rw [he, hc] at this; cases this
set_option maxRecDepth 100000 in
theorem isD_of {b : UInt8} (h : isD b = true) : ∃ k : Nat, k < 10 ∧ b = UInt8.ofNat (48 + k) ∧ b.toNat - 48 = k := by
  simp only [isD, Bool.and_eq_true, decide_eq_true_eq] at h
  refine ⟨b.toNat - 48, by omega, ?_, rfl⟩
  apply UInt8.toNat_inj.1
  rw [UInt8.toNat_ofNat']
  have := b.toNat_lt
  omega
set_option maxRecDepth 100000 in
theorem numO_is (h : List UInt8) (n : Nat) (hn : numO h = some n) : n < 100 ∧ h = Lib.decDigits n := by
  match h, hn with
  | [], hn => cases hn
  | [a], hn =>
    rw [numO] at hn
    split at hn
    · rename_i ha
      obtain ⟨k, hk, rfl, e⟩ := isD_of ha
      rw [e] at hn
      injection hn with hn
      subst hn
      exact ⟨by omega, (Lib.decDigits_one hk).symm⟩
    · cases hn
  | [a, b], hn =>
    rw [numO] at hn
    split at hn
    · cases hn
    · rename_i h0
      split at hn
      · rename_i hab
        rw [Bool.and_eq_true] at hab
        obtain ⟨k, hk, rfl, e⟩ := isD_of hab.1
        obtain ⟨m, hm, rfl, e2⟩ := isD_of hab.2
        rw [e, e2] at hn
        injection hn with hn
        have hk0 : 0 < k := by
          rcases Nat.eq_zero_or_pos k with h | h
          · subst h; exact absurd (by decide) h0
          · exact h
        subst hn
        refine ⟨by omega, ?_⟩
        rw [Lib.decDigits_two (by omega) (by omega), show (k * 10 + m) / 10 = k by omega, show (k * 10 + m) % 10 = m by omega]
      · cases hn
  | a :: b :: c :: r, hn => cases hn

/-- a list of numbers with commas between, strictly rising from above 'last' on; and whether the text is one -/
def listO (s : List UInt8) (last : Int) : List Int × Bool :=
  match numO (splitC 44 s).1 with
  | none => ([], false)
  | some n => if (n : Int) ≤ last then ([], false) else match _ht : (splitC 44 s).2 with
    | none => ([(n : Int)], true)
    | some t => ((n : Int) :: (listO t n).1, (listO t n).2)
termination_by s.length
decreasing_by all_goals exact splitC_lt 44 s t _ht
set_option maxRecDepth 100000 in
theorem listO_len (s : List UInt8) (last : Int) : (listO s last).1.length ≤ s.length + 1 := by
  induction s using (measure List.length).wf.induction generalizing last with
  | _ s ih =>
    rw [listO]
    split
    · simp
    · split
      · simp
      · split
        · simp
        · rename_i t ht
          have h1 := splitC_lt 44 s t ht
          have h2 := ih t h1 (Int.ofNat ‹Nat›)
          simp only [List.length_cons]
          have h3 : (listO t (Int.ofNat ‹Nat›)).1.length = (listO t ((‹Nat› : Nat) : Int)).1.length := rfl
          omega
end Go.Proofs.YtfkiinbmbbhbkaaDoor
