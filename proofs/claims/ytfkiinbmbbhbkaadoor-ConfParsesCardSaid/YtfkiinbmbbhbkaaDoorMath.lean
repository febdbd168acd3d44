import Derived.Laws.BitsAllLaws
namespace Go.Proofs.YtfkiinbmbbhbkaaDoor
set_option linter.unusedSimpArgs false
set_option linter.unusedVariables false

/-- is a label at or below another one, as the code reckons it -/
def leqB (la ca lb cb : Int) : Bool := decide (la ≤ lb) && (bits .andNot .u16 ca cb == 0)
/-- has a label a category, as the document's answer reckons it -/
def hasB (c i : Int) : Bool := decide (0 ≤ i) && decide (i < 16) && ((c / 2 ^ i.toNat).tmod 2 == 1)
/-- the document's order, category by category -/
def refLeqB (la ca lb cb : Int) : Bool := decide (la ≤ lb) && (List.range 16).all fun i => !hasB ca (i : Int) || hasB cb (i : Int)

theorem hasB_nat (c i : Nat) (hi : i < 16) : hasB (c : Int) (i : Int) = c.testBit i := by
  unfold hasB
  have h1 : ((c : Int) / 2 ^ (i : Int).toNat) = ((c / 2 ^ i : Nat) : Int) := by
    rw [Int.toNat_natCast, Int.natCast_ediv, Int.natCast_pow]; rfl
  rw [h1, Nat.testBit_eq_decide_div_mod_eq, Int.tmod_eq_emod_of_nonneg (Int.natCast_nonneg _)]
  have h2 : decide ((0 : Int) ≤ (i : Int)) = true := by simp
  have h3 : decide ((i : Int) < 16) = true := by simp; omega
  rw [h2, h3, Bool.true_and, Bool.true_and, Bool.eq_iff_iff]
  simp only [beq_iff_eq, decide_eq_true_eq]
  omega
theorem hasB_out (c i : Int) (h : i < 0 ∨ 16 ≤ i) : hasB c i = false := by
  unfold hasB
  rcases h with h | h
  · have : decide (0 ≤ i) = false := by simp; omega
    simp [this]
  · have : decide (i < 16) = false := by simp; omega
    simp [this]

theorem testBit_out (c i : Nat) (hc : c < 65536) (hi : 16 ≤ i) : c.testBit i = false :=
  Nat.testBit_lt_two_pow (Nat.lt_of_lt_of_le hc (Nat.pow_le_pow_right (n := 2) (by omega) hi))

theorem ext16 (a b : Nat) (ha : a < 65536) (hb : b < 65536) (h : ∀ i, i < 16 → a.testBit i = b.testBit i) : a = b := by
  apply Nat.eq_of_testBit_eq
  intro i
  by_cases hi : i < 16
  · exact h i hi
  · rw [testBit_out a i ha (by omega), testBit_out b i hb (by omega)]

theorem andNot_zero (a b : Nat) (ha : a < 65536) (hb : b < 65536) : (bits .andNot .u16 (a : Int) (b : Int) == 0) = (List.range 16).all fun i => !a.testBit i || b.testBit i := by
  rw [u16_andNot_nat a b ha hb]
  have e : 65535 - b = 2 ^ 16 - (b + 1) := by omega
  have hx : a &&& (65535 - b) < 65536 := Nat.and_lt_two_pow (n := 16) _ (by omega)
  rw [Bool.eq_iff_iff]
  constructor
  · intro h
    have h0 : a &&& (65535 - b) = 0 := by simpa using h
    rw [List.all_eq_true]
    intro i hi
    have hi' : i < 16 := by simpa using hi
    have ht : (a &&& (65535 - b)).testBit i = false := by rw [h0]; simp
    rw [Nat.testBit_and, e, Nat.testBit_two_pow_sub_succ (by omega)] at ht
    simp [hi'] at ht
    cases h1 : a.testBit i <;> simp [h1] at ht ⊢
    exact ht
  · intro h
    rw [List.all_eq_true] at h
    have h0 : a &&& (65535 - b) = 0 := by
      apply ext16 _ _ hx (by omega)
      intro i hi
      have hh := h i (by simpa using hi)
      rw [Nat.testBit_and, e, Nat.testBit_two_pow_sub_succ (by omega)]
      cases h1 : a.testBit i <;> simp [h1] at hh ⊢
      exact fun _ => hh
    simp [h0]

theorem leqB_ref (la ca lb cb : Int) (h0 : 0 ≤ ca) (h1 : ca < 65536) (h2 : 0 ≤ cb) (h3 : cb < 65536) : leqB la ca lb cb = refLeqB la ca lb cb := by
  obtain ⟨a, rfl⟩ := Int.eq_ofNat_of_zero_le h0
  obtain ⟨b, rfl⟩ := Int.eq_ofNat_of_zero_le h2
  unfold leqB refLeqB
  rw [andNot_zero a b (by omega) (by omega)]
  congr 1
  rw [Bool.eq_iff_iff, List.all_eq_true, List.all_eq_true]
  constructor
  · intro h i hi
    rw [hasB_nat a i (by simpa using hi), hasB_nat b i (by simpa using hi)]; exact h i hi
  · intro h i hi
    have := h i hi
    rwa [hasB_nat a i (by simpa using hi), hasB_nat b i (by simpa using hi)] at this

/-- a bit that isn't set is added -/
theorem add_bit (D k : Nat) (hD : D < 65536) (hk : k < 16) (h : D.testBit k = false) : (D + 2 ^ k) % 65536 = D ||| 2 ^ k := by
  have hp : 2 ^ k < 65536 := Nat.pow_lt_pow_right (a := 2) (by omega) hk
  have hz : BitVec.ofNat 16 D &&& BitVec.ofNat 16 (2 ^ k) = 0#16 := by
    apply BitVec.eq_of_toNat_eq
    rw [BitVec.toNat_and, BitVec.toNat_ofNat, BitVec.toNat_ofNat, Nat.mod_eq_of_lt hD, Nat.mod_eq_of_lt hp]
    apply Nat.eq_of_testBit_eq
    intro i
    rw [Nat.testBit_and, Nat.testBit_two_pow]
    by_cases e : k = i
    · subst e; simp [h]
    · simp [e]
  have hh := congrArg BitVec.toNat (BitVec.add_eq_or_of_and_eq_zero _ _ hz)
  rw [BitVec.toNat_add, BitVec.toNat_or, BitVec.toNat_ofNat, BitVec.toNat_ofNat, Nat.mod_eq_of_lt hD, Nat.mod_eq_of_lt hp] at hh
  exact hh
theorem or_lt (a b : Nat) (ha : a < 65536) (hb : b < 65536) : a ||| b < 65536 := Nat.or_lt_two_pow (n := 16) ha hb
theorem add_bit' (D k : Nat) (hD : D < 65536) (hk : k < 16) (h : D.testBit k = false) : D + 2 ^ k = D ||| 2 ^ k := by
  have h1 := add_bit D k hD hk h
  have hp : 2 ^ k < 65536 := Nat.pow_lt_pow_right (a := 2) (by omega) hk
  have h2 : D + 2 ^ k < 65536 ∨ 65536 ≤ D + 2 ^ k := by omega
  rcases h2 with h2 | h2
  · rwa [Nat.mod_eq_of_lt h2] at h1
  · exfalso
    have h3 : (D + 2 ^ k) % 65536 = D + 2 ^ k - 65536 := by rw [Nat.mod_eq_sub_mod h2, Nat.mod_eq_of_lt (by omega)]
    have h4 : D ≤ D ||| 2 ^ k := Nat.left_le_or
    omega
/-- a bit that is set is taken away -/
theorem sub_bit (D k : Nat) (hD : D < 65536) (hk : k < 16) (h : D.testBit k = true) : 2 ^ k ≤ D ∧ ∀ i, (D - 2 ^ k).testBit i = (D.testBit i && !decide (k = i)) := by
  -- D without the bit
  have hE : ∃ E, E < 65536 ∧ E.testBit k = false ∧ D = E ||| 2 ^ k ∧ ∀ i, E.testBit i = (D.testBit i && !decide (k = i)) := by
    refine ⟨D &&& (65535 - 2 ^ k), ?_, ?_, ?_, ?_⟩
    · exact Nat.lt_of_le_of_lt Nat.and_le_left hD
    all_goals
      have hp : 2 ^ k < 65536 := Nat.pow_lt_pow_right (a := 2) (by omega) hk
      have e : 65535 - 2 ^ k = 2 ^ 16 - (2 ^ k + 1) := by omega
    · rw [Nat.testBit_and, e, Nat.testBit_two_pow_sub_succ hp, Nat.testBit_two_pow]; simp
    · apply ext16 _ _ hD (or_lt _ _ (Nat.lt_of_le_of_lt Nat.and_le_left hD) hp)
      intro i hi
      rw [Nat.testBit_or, Nat.testBit_and, e, Nat.testBit_two_pow_sub_succ hp, Nat.testBit_two_pow]
      by_cases c : k = i
      · subst c; simp [h]
      · simp [c, hi]
    · intro i
      rw [Nat.testBit_and, e, Nat.testBit_two_pow_sub_succ hp, Nat.testBit_two_pow]
      by_cases hi : i < 16
      · simp [hi]
      · simp [testBit_out D i hD (by omega)]
  obtain ⟨E, hE, hb, hd, hi⟩ := hE
  have hs := add_bit' E k hE hk hb
  rw [← hd] at hs
  refine ⟨by omega, fun i => ?_⟩
  rw [show D - 2 ^ k = E by omega]
  exact hi i

/-- the document's answer for the least above: bits are added one by one -/
def orTo (x C : Nat) : Nat → Nat
  | 0 => C
  | k + 1 => if x.testBit k && !(orTo x C k).testBit k then orTo x C k + 2 ^ k else orTo x C k
theorem orTo_bits (x C : Nat) (hC : C < 65536) : ∀ k, k ≤ 16 → orTo x C k < 65536 ∧ ∀ i, (orTo x C k).testBit i = (C.testBit i || (decide (i < k) && x.testBit i))
  | 0, _ => ⟨hC, fun i => by simp [orTo]⟩
  | k + 1, hk => by
    obtain ⟨h1, h2⟩ := orTo_bits x C hC k (by omega)
    have hp : 2 ^ k < 2 ^ 16 := Nat.pow_lt_pow_right (a := 2) (by omega) (show k < 16 by omega)
    simp only [orTo]
    by_cases hx : (x.testBit k && !(orTo x C k).testBit k) = true
    · rw [if_pos hx]
      simp only [Bool.and_eq_true, Bool.not_eq_true'] at hx
      rw [add_bit' _ k h1 (by omega) hx.2]
      refine ⟨or_lt _ _ h1 hp, fun i => ?_⟩
      rw [Nat.testBit_or, h2 i, Nat.testBit_two_pow]
      by_cases e : k = i
      · subst e; simp [hx.1]
      · have : decide (i < k + 1) = decide (i < k) := by simp; omega
        simp [e, this]
    · rw [if_neg hx]
      refine ⟨h1, fun i => ?_⟩
      rw [h2 i]
      by_cases e : k = i
      · subst e
        have h3 := h2 k
        simp only [Nat.lt_irrefl, decide_false, Bool.false_and, Bool.or_false] at h3
        rw [h3] at hx
        cases hc : C.testBit k <;> cases hxk : x.testBit k <;> simp [hc, hxk] at hx ⊢
      · have : decide (i < k + 1) = decide (i < k) := by simp; omega
        simp [this]
theorem orTo_or (x C : Nat) (hx : x < 65536) (hC : C < 65536) : orTo x C 16 = C ||| x := by
  obtain ⟨h1, h2⟩ := orTo_bits x C hC 16 (by omega)
  apply ext16 _ _ h1 (or_lt _ _ hC hx)
  intro i hi
  rw [h2 i, Nat.testBit_or]; simp [hi]

/-- .. and for the greatest below: taken away one by one -/
def andTo (x C : Nat) : Nat → Nat
  | 0 => C
  | k + 1 => if !x.testBit k && (andTo x C k).testBit k then andTo x C k - 2 ^ k else andTo x C k
theorem andTo_bits (x C : Nat) (hC : C < 65536) : ∀ k, k ≤ 16 → andTo x C k < 65536 ∧ ∀ i, (andTo x C k).testBit i = (C.testBit i && (!decide (i < k) || x.testBit i))
  | 0, _ => ⟨hC, fun i => by simp [andTo]⟩
  | k + 1, hk => by
    obtain ⟨h1, h2⟩ := andTo_bits x C hC k (by omega)
    simp only [andTo]
    by_cases hx : (!x.testBit k && (andTo x C k).testBit k) = true
    · rw [if_pos hx]
      simp only [Bool.and_eq_true, Bool.not_eq_true'] at hx
      obtain ⟨h3, h4⟩ := sub_bit _ k h1 (by omega) hx.2
      refine ⟨Nat.lt_of_le_of_lt (Nat.sub_le _ _) h1, fun i => ?_⟩
      rw [h4 i, h2 i]
      by_cases e : k = i
      · subst e; simp [hx.1]
      · have : decide (i < k + 1) = decide (i < k) := by simp; omega
        simp [e, this]
    · rw [if_neg hx]
      refine ⟨h1, fun i => ?_⟩
      rw [h2 i]
      by_cases e : k = i
      · subst e
        have h3 := h2 k
        simp only [Nat.lt_irrefl, decide_false, Bool.not_false, Bool.true_or, Bool.and_true] at h3
        rw [h3] at hx
        cases hc : C.testBit k <;> cases hxk : x.testBit k <;> simp [hc, hxk] at hx ⊢
      · have : decide (i < k + 1) = decide (i < k) := by simp; omega
        simp [this]
theorem andTo_and (x C : Nat) (hC : C < 65536) : andTo x C 16 = C &&& x := by
  obtain ⟨h1, h2⟩ := andTo_bits x C hC 16 (by omega)
  apply ext16 _ _ h1 (Nat.lt_of_le_of_lt Nat.and_le_left hC)
  intro i hi
  rw [h2 i, Nat.testBit_and]; simp [hi]
end Go.Proofs.YtfkiinbmbbhbkaaDoor
