import Derived.Test.YthifnojdencobaaDoorW8
import Derived.Test.YthifnojdencobaaDoorW11
namespace Go.Proofs.YthifnojdencobaaDoor

theorem leqB_iff (la lb : Int) (A B : Nat) (hA : A < 65536) (hB : B < 65536) : leqB la (A : Int) lb (B : Int) = true ↔ la ≤ lb ∧ ∀ i, i < 16 → A.testBit i = true → B.testBit i = true := by
  unfold leqB
  rw [andNot_zero A B hA hB, Bool.and_eq_true, decide_eq_true_eq, List.all_eq_true]
  constructor
  · rintro ⟨h1, h2⟩
    refine ⟨h1, fun i hi ha => ?_⟩
    have := h2 i (List.mem_range.2 hi)
    rw [ha] at this
    simpa using this
  · rintro ⟨h1, h2⟩
    refine ⟨h1, fun i hi => ?_⟩
    cases ha : A.testBit i with
    | false => rfl
    | true => simp [h2 i (List.mem_range.1 hi) ha]
theorem and_lt (a b : Nat) (ha : a < 65536) : a &&& b < 65536 := Nat.lt_of_le_of_lt Nat.and_le_left ha
theorem joinC2 (la lb : Int) (A B : Nat) (ha : 0 ≤ la) (hA : A < 65536) (hB : B < 65536) : joinC [(la, (A : Int)), (lb, (B : Int))] = (max la lb, ((A ||| B : Nat) : Int)) := by
  show joinStep (joinStep (0, 0) (la, (A : Int))) (lb, (B : Int)) = _
  have h1 : joinStep (0, 0) (la, (A : Int)) = (la, (A : Int)) := by
    unfold joinStep
    have := u16_or_nat 0 A (by omega) hA
    simp only [Nat.zero_or] at this
    refine Prod.ext ?_ this
    show max (0 : Int) la = la
    omega
  rw [h1]
  unfold joinStep
  exact Prod.ext rfl (u16_or_nat A B hA hB)
theorem meetC2 (la lb : Int) (A B : Nat) (hA : A < 65536) (hB : B < 65536) : meetC [(la, (A : Int)), (lb, (B : Int))] = (min (min 15 la) lb, ((A &&& B : Nat) : Int)) := by
  show meetStep (meetStep (15, 65535) (la, (A : Int))) (lb, (B : Int)) = _
  have h1 : meetStep (15, 65535) (la, (A : Int)) = (min 15 la, (A : Int)) := by
    unfold meetStep
    refine Prod.ext rfl ?_
    have := u16_and_nat 65535 A (by omega) hA
    have e : 65535 &&& A = A := by
      rw [Nat.and_comm, show (65535 : Nat) = 2 ^ 16 - 1 from rfl, Nat.and_two_pow_sub_one_eq_mod]
      exact Nat.mod_eq_of_lt hA
    rw [e] at this
    exact this
  rw [h1]
  unfold meetStep
  exact Prod.ext rfl (u16_and_nat A B hA hB)

/-- the facts on which LabelLaws rests -/
structure LawFacts (la ca lb cb lc cc J1 J2 M1 M2 : Int) : Prop where
  aj : leqB la ca J1 J2 = true
  bj : leqB lb cb J1 J2 = true
  ma : la < 16 → leqB M1 M2 la ca = true
  mb : lb < 16 → leqB M1 M2 lb cb = true
  jc : leqB la ca lc cc = true → leqB J1 J2 lc cc = leqB lb cb lc cc
  cm : leqB lc cc la ca = true → lc < 16 → leqB lc cc M1 M2 = leqB lc cc lb cb
  aa : leqB la ca la ca = true
  anti : leqB la ca lb cb = true → leqB lb cb la ca = true → la = lb ∧ ca = cb
  trans : leqB la ca lb cb = true → leqB lb cb lc cc = true → leqB la ca lc cc = true
  rank : leqB la ca lb cb = true → la + (catL ca 16).length ≤ lb + (catL cb 16).length
  top : leqB la ca (joinC [(la, ca), (15, 65535)]).1 (joinC [(la, ca), (15, 65535)]).2 = true
theorem catL_mono (A B : Nat) (h : ∀ i, i < 16 → A.testBit i = true → B.testBit i = true) : ∀ k, k ≤ 16 → (catL (A : Int) k).length ≤ (catL (B : Int) k).length
  | 0, _ => by simp [catL]
  | k + 1, hk => by
    have ih := catL_mono A B h k (by omega)
    rw [catL_succ, catL_succ, hasB_nat A k (by omega), hasB_nat B k (by omega)]
    cases ha : A.testBit k
    · cases hb : B.testBit k <;> simp <;> omega
    · rw [h k (by omega) ha]; simp; omega
theorem lawFacts (la ca lb cb lc cc : Int) (ha : 0 ≤ ca ∧ ca < 65536) (hb : 0 ≤ cb ∧ cb < 65536) (hc : 0 ≤ cc ∧ cc < 65536) (hla : 0 ≤ la) (hlb : 0 ≤ lb) :
    LawFacts la ca lb cb lc cc (joinC [(la, ca), (lb, cb)]).1 (joinC [(la, ca), (lb, cb)]).2 (meetC [(la, ca), (lb, cb)]).1 (meetC [(la, ca), (lb, cb)]).2 := by
  obtain ⟨A, rfl⟩ := Int.eq_ofNat_of_zero_le ha.1
  obtain ⟨B, rfl⟩ := Int.eq_ofNat_of_zero_le hb.1
  obtain ⟨C, rfl⟩ := Int.eq_ofNat_of_zero_le hc.1
  have hA : A < 65536 := by omega
  have hB : B < 65536 := by omega
  have hC : C < 65536 := by omega
  have hO := or_lt A B hA hB
  have hN := and_lt A B hA
  rw [joinC2 la lb A B hla hA hB, meetC2 la lb A B hA hB]
  have h15 : joinC [(la, (A : Int)), (15, 65535)] = (max la 15, ((A ||| 65535 : Nat) : Int)) := joinC2 la 15 A 65535 hla hA (by omega)
  constructor
  · exact (leqB_iff _ _ _ _ hA hO).2 ⟨by simp; omega, fun i _ h => by simp [h]⟩
  · exact (leqB_iff _ _ _ _ hB hO).2 ⟨by simp; omega, fun i _ h => by simp [h]⟩
  · exact fun h => (leqB_iff _ _ _ _ hN hA).2 ⟨by simp; omega, fun i _ h => by rw [Nat.testBit_and, Bool.and_eq_true] at h; exact h.1⟩
  · exact fun h => (leqB_iff _ _ _ _ hN hB).2 ⟨by simp; omega, fun i _ h => by rw [Nat.testBit_and, Bool.and_eq_true] at h; exact h.2⟩
  · intro h
    obtain ⟨h1, h2⟩ := (leqB_iff _ _ _ _ hA hC).1 h
    rw [Bool.eq_iff_iff, leqB_iff _ _ _ _ hO hC, leqB_iff _ _ _ _ hB hC]
    constructor
    · rintro ⟨h3, h4⟩
      exact ⟨by simp at h3; omega, fun i hi hb => h4 i hi (by simp [hb])⟩
    · rintro ⟨h3, h4⟩
      refine ⟨by simp; omega, fun i hi ho => ?_⟩
      rw [Nat.testBit_or, Bool.or_eq_true] at ho
      rcases ho with ho | ho
      · exact h2 i hi ho
      · exact h4 i hi ho
  · intro h hl
    obtain ⟨h1, h2⟩ := (leqB_iff _ _ _ _ hC hA).1 h
    rw [Bool.eq_iff_iff, leqB_iff _ _ _ _ hC hN, leqB_iff _ _ _ _ hC hB]
    constructor
    · rintro ⟨h3, h4⟩
      exact ⟨by simp at h3; omega, fun i hi hb => by have := h4 i hi hb; rw [Nat.testBit_and, Bool.and_eq_true] at this; exact this.2⟩
    · rintro ⟨h3, h4⟩
      exact ⟨by simp; omega, fun i hi hb => by rw [Nat.testBit_and, h2 i hi hb, h4 i hi hb]; rfl⟩
  · exact (leqB_iff _ _ _ _ hA hA).2 ⟨by omega, fun i _ h => h⟩
  · intro h1 h2
    obtain ⟨h3, h4⟩ := (leqB_iff _ _ _ _ hA hB).1 h1
    obtain ⟨h5, h6⟩ := (leqB_iff _ _ _ _ hB hA).1 h2
    refine ⟨by omega, ?_⟩
    have : A = B := ext16 A B hA hB (fun i hi => by rw [Bool.eq_iff_iff]; exact ⟨h4 i hi, h6 i hi⟩)
    rw [this]
  · intro h1 h2
    obtain ⟨h3, h4⟩ := (leqB_iff _ _ _ _ hA hB).1 h1
    obtain ⟨h5, h6⟩ := (leqB_iff _ _ _ _ hB hC).1 h2
    exact (leqB_iff _ _ _ _ hA hC).2 ⟨by omega, fun i hi h => h6 i hi (h4 i hi h)⟩
  · intro h1
    obtain ⟨h3, h4⟩ := (leqB_iff _ _ _ _ hA hB).1 h1
    have := catL_mono A B h4 16 (by omega)
    omega
  · rw [h15]
    exact (leqB_iff _ _ _ _ hA (or_lt A 65535 hA (by omega))).2 ⟨by simp; omega, fun i _ h => by simp [h]⟩
end Go.Proofs.YthifnojdencobaaDoor
