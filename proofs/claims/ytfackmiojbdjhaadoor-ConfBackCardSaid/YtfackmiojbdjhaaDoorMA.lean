import Derived.Test.YtfackmiojbdjhaaDoorRows
import Derived.WalkKit
import Derived.WalkSpells
import Derived.WalkLawsBesides
import Derived.Lib.Hide
import Derived.Deep.RegionHeld
import Derived.Deep.Draws
import Derived.Laws.BitsAllLaws
import Derived.Deep.QuietTactic
import Derived.BigQuiet
import Derived.RegionTactic
import Derived.BigRegion
import Derived.Deep.RegionHeld3
import Derived.OwnWalk

namespace Go.Proofs.YtfackmiojbdjhaaDoor
set_option linter.unusedSimpArgs false
set_option linter.unusedVariables false
open Go.RowKit

/-- block g holds a variable of two cells, which may be written -/
structure Pair (w : World) (g : Nat) (a b : Value) : Prop where
  lt : g < w.heap.size
  c0 : w.cell? ⟨g, 0, none⟩ = some a
  c1 : w.cell? ⟨g, 1, none⟩ = some b
  f0 : w.frozen? ⟨g, 0, none⟩ = false
  f1 : w.frozen? ⟨g, 1, none⟩ = false

theorem Pair.new (w : World) (a b : Value) (t : TypeId) : Pair (w.alloc (.cells #[a, b] t)) w.heap.size a b :=
  ⟨by simp, by simp [World.cell?_alloc_new], by simp [World.cell?_alloc_new], by simp, by simp⟩
theorem Pair.below {w w' : World} {B g : Nat} {a b : Value} (h : Pair w g a b) (hb : Below B w w') (hg : g < B) : Pair w' g a b :=
  ⟨Nat.lt_of_lt_of_le h.lt hb.size, (hb.cell (p := ⟨g, 0, none⟩) hg).trans h.c0, (hb.cell (p := ⟨g, 1, none⟩) hg).trans h.c1, (hb.frozen (p := ⟨g, 0, none⟩) hg).trans h.f0, (hb.frozen (p := ⟨g, 1, none⟩) hg).trans h.f1⟩
theorem Pair.alloc {w : World} {g : Nat} {a b : Value} (h : Pair w g a b) (o : Obj) : Pair (w.alloc o) g a b :=
  h.below ((Below.refl w.heap.size w).alloc (Nat.le_refl _) o) h.lt
theorem Pair.drew {w : World} {g : Nat} {a b : Value} (h : Pair w g a b) : Pair w.drew g a b := ⟨h.lt, h.c0, h.c1, h.f0, h.f1⟩
theorem Pair.drewN {w : World} {g : Nat} {a b : Value} (h : Pair w g a b) (n : Nat) : Pair (w.drewN n) g a b := ⟨h.lt, h.c0, h.c1, h.f0, h.f1⟩
theorem Pair.set0 {w : World} {g : Nat} {a b : Value} (h : Pair w g a b) (x : Value) : Pair (w.setCell ⟨g, 0, none⟩ x) g x b :=
  ⟨by simpa [World.setCell] using h.lt, World.cell?_setCell_same _ _ _ h.c0, by rw [World.cell?_setCell_other _ _ _ _ (by simp)]; exact h.c1, by simpa using h.f0, by simpa using h.f1⟩
theorem Pair.set1 {w : World} {g : Nat} {a b : Value} (h : Pair w g a b) (x : Value) : Pair (w.setCell ⟨g, 1, none⟩ x) g a x :=
  ⟨by simpa [World.setCell] using h.lt, by rw [World.cell?_setCell_other _ _ _ _ (by simp)]; exact h.c0, World.cell?_setCell_same _ _ _ h.c1, by simpa using h.f0, by simpa using h.f1⟩
theorem Pair.set_far {w : World} {g : Nat} {a b : Value} (h : Pair w g a b) {p : Addr} (hp : p.block ≠ g) (x : Value) : Pair (w.setCell p x) g a b :=
  ⟨by simpa [World.setCell] using h.lt, by rw [World.cell?_setCell_far w p _ x (by exact hp)]; exact h.c0, by rw [World.cell?_setCell_far w p _ x (by exact hp)]; exact h.c1, by simpa using h.f0, by simpa using h.f1⟩

theorem below_drewN' {B : Nat} {a w : World} (h : Below B a w) (n : Nat) : Below B a (w.drewN n) := ⟨h.os, h.tape, h.output, h.size, h.block⟩
theorem ret_bool {a b : Bool} (h : a = b) : Ending.returned (.bool a) = .returned (.bool b) := by rw [h]
theorem ret_int {k : IntKind} {a b : Int} (h : a = b) : Ending.returned (.int k a) = .returned (.int k b) := by rw [h]

theorem bcell {W w1 : World} (hb : Below W.heap.size W w1) : (∀ b o, b < W.heap.size → w1.cell? ⟨b, o, none⟩ = W.cell? ⟨b, o, none⟩) ∧ (∀ b o, b < W.heap.size → w1.frozen? ⟨b, o, none⟩ = W.frozen? ⟨b, o, none⟩) :=
  ⟨fun b o h => hb.cell (p := ⟨b, o, none⟩) h, fun b o h => hb.frozen (p := ⟨b, o, none⟩) h⟩
end Go.Proofs.YtfackmiojbdjhaaDoor


namespace Go.Proofs.YtfackmiojbdjhaaDoor
set_option linter.unusedSimpArgs false
set_option linter.unusedVariables false

/-- is a label at or below another one, as the code reckons it -/
def leqB (la ca lb cb : Int) : Bool := decide (la ≤ lb) && (bits .andNot .u16 ca cb == 0)
/-- has a label a category, as the document's answer reckons it -/
def hasB (c i : Int) : Bool := decide (0 ≤ i) && decide (i < 16) && ((c / 2 ^ i.toNat).tmod 2 == 1)
/-- the document's order, category by category -/
def refLeqB (la ca lb cb : Int) : Bool := decide (la ≤ lb) && (List.range 16).all fun i => !hasB ca (i : Int) || hasB cb (i : Int)

theorem hasB_nat (c i : Nat) (hi : i < 16) : hasB (c : Int) (i : Int) = c.testBit i := by
  unfold hasB
  have h1 : ((c : Int) / 2 ^ (i : Int).toNat) = ((c / 2 ^ i : Nat) : Int) := by
    rw [Int.toNat_natCast, Int.natCast_ediv, Int.natCast_pow]; rfl
  rw [h1, Nat.testBit_eq_decide_div_mod_eq, Int.tmod_eq_emod_of_nonneg (Int.natCast_nonneg _)]
  have h2 : decide ((0 : Int) ≤ (i : Int)) = true := by simp
  have h3 : decide ((i : Int) < 16) = true := by simp; omega
  rw [h2, h3, Bool.true_and, Bool.true_and, Bool.eq_iff_iff]
  simp only [beq_iff_eq, decide_eq_true_eq]
  omega
theorem hasB_out (c i : Int) (h : i < 0 ∨ 16 ≤ i) : hasB c i = false := by
  unfold hasB
  rcases h with h | h
  · have : decide (0 ≤ i) = false := by simp; omega
    simp [this]
  · have : decide (i < 16) = false := by simp; omega
    simp [this]

theorem testBit_out (c i : Nat) (hc : c < 65536) (hi : 16 ≤ i) : c.testBit i = false :=
  Nat.testBit_lt_two_pow (Nat.lt_of_lt_of_le hc (Nat.pow_le_pow_right (n := 2) (by omega) hi))

theorem ext16 (a b : Nat) (ha : a < 65536) (hb : b < 65536) (h : ∀ i, i < 16 → a.testBit i = b.testBit i) : a = b := by
  apply Nat.eq_of_testBit_eq
  intro i
  by_cases hi : i < 16
  · exact h i hi
  · rw [testBit_out a i ha (by omega), testBit_out b i hb (by omega)]

theorem andNot_zero (a b : Nat) (ha : a < 65536) (hb : b < 65536) : (bits .andNot .u16 (a : Int) (b : Int) == 0) = (List.range 16).all fun i => !a.testBit i || b.testBit i := by
  rw [u16_andNot_nat a b ha hb]
  have e : 65535 - b = 2 ^ 16 - (b + 1) := by omega
  have hx : a &&& (65535 - b) < 65536 := Nat.and_lt_two_pow (n := 16) _ (by omega)
  rw [Bool.eq_iff_iff]
  constructor
  · intro h
    have h0 : a &&& (65535 - b) = 0 := by simpa using h
    rw [List.all_eq_true]
    intro i hi
    have hi' : i < 16 := by simpa using hi
    have ht : (a &&& (65535 - b)).testBit i = false := by rw [h0]; simp
    rw [Nat.testBit_and, e, Nat.testBit_two_pow_sub_succ (by omega)] at ht
    simp [hi'] at ht
    cases h1 : a.testBit i <;> simp [h1] at ht ⊢
    exact ht
  · intro h
    rw [List.all_eq_true] at h
    have h0 : a &&& (65535 - b) = 0 := by
      apply ext16 _ _ hx (by omega)
      intro i hi
      have hh := h i (by simpa using hi)
      rw [Nat.testBit_and, e, Nat.testBit_two_pow_sub_succ (by omega)]
      cases h1 : a.testBit i <;> simp [h1] at hh ⊢
      exact fun _ => hh
    simp [h0]

theorem leqB_ref (la ca lb cb : Int) (h0 : 0 ≤ ca) (h1 : ca < 65536) (h2 : 0 ≤ cb) (h3 : cb < 65536) : leqB la ca lb cb = refLeqB la ca lb cb := by
  obtain ⟨a, rfl⟩ := Int.eq_ofNat_of_zero_le h0
  obtain ⟨b, rfl⟩ := Int.eq_ofNat_of_zero_le h2
  unfold leqB refLeqB
  rw [andNot_zero a b (by omega) (by omega)]
  congr 1
  rw [Bool.eq_iff_iff, List.all_eq_true, List.all_eq_true]
  constructor
  · intro h i hi
    rw [hasB_nat a i (by simpa using hi), hasB_nat b i (by simpa using hi)]; exact h i hi
  · intro h i hi
    have := h i hi
    rwa [hasB_nat a i (by simpa using hi), hasB_nat b i (by simpa using hi)] at this

/-- a bit that isn't set is added -/
theorem add_bit (D k : Nat) (hD : D < 65536) (hk : k < 16) (h : D.testBit k = false) : (D + 2 ^ k) % 65536 = D ||| 2 ^ k := by
  have hp : 2 ^ k < 65536 := Nat.pow_lt_pow_right (a := 2) (by omega) hk
  have hz : BitVec.ofNat 16 D &&& BitVec.ofNat 16 (2 ^ k) = 0#16 := by
    apply BitVec.eq_of_toNat_eq
    rw [BitVec.toNat_and, BitVec.toNat_ofNat, BitVec.toNat_ofNat, Nat.mod_eq_of_lt hD, Nat.mod_eq_of_lt hp]
    apply Nat.eq_of_testBit_eq
    intro i
    rw [Nat.testBit_and, Nat.testBit_two_pow]
    by_cases e : k = i
    · subst e; simp [h]
    · simp [e]
  have hh := congrArg BitVec.toNat (BitVec.add_eq_or_of_and_eq_zero _ _ hz)
  rw [BitVec.toNat_add, BitVec.toNat_or, BitVec.toNat_ofNat, BitVec.toNat_ofNat, Nat.mod_eq_of_lt hD, Nat.mod_eq_of_lt hp] at hh
  exact hh
theorem or_lt (a b : Nat) (ha : a < 65536) (hb : b < 65536) : a ||| b < 65536 := Nat.or_lt_two_pow (n := 16) ha hb
theorem add_bit' (D k : Nat) (hD : D < 65536) (hk : k < 16) (h : D.testBit k = false) : D + 2 ^ k = D ||| 2 ^ k := by
  have h1 := add_bit D k hD hk h
  have hp : 2 ^ k < 65536 := Nat.pow_lt_pow_right (a := 2) (by omega) hk
  have h2 : D + 2 ^ k < 65536 ∨ 65536 ≤ D + 2 ^ k := by omega
  rcases h2 with h2 | h2
  · rwa [Nat.mod_eq_of_lt h2] at h1
  · exfalso
    have h3 : (D + 2 ^ k) % 65536 = D + 2 ^ k - 65536 := by rw [Nat.mod_eq_sub_mod h2, Nat.mod_eq_of_lt (by omega)]
    have h4 : D ≤ D ||| 2 ^ k := Nat.left_le_or
    omega
/-- a bit that is set is taken away -/
theorem sub_bit (D k : Nat) (hD : D < 65536) (hk : k < 16) (h : D.testBit k = true) : 2 ^ k ≤ D ∧ ∀ i, (D - 2 ^ k).testBit i = (D.testBit i && !decide (k = i)) := by
  -- D without the bit
  have hE : ∃ E, E < 65536 ∧ E.testBit k = false ∧ D = E ||| 2 ^ k ∧ ∀ i, E.testBit i = (D.testBit i && !decide (k = i)) := by
    refine ⟨D &&& (65535 - 2 ^ k), ?_, ?_, ?_, ?_⟩
    · exact Nat.lt_of_le_of_lt Nat.and_le_left hD
    all_goals
      have hp : 2 ^ k < 65536 := Nat.pow_lt_pow_right (a := 2) (by omega) hk
      have e : 65535 - 2 ^ k = 2 ^ 16 - (2 ^ k + 1) := by omega
    · rw [Nat.testBit_and, e, Nat.testBit_two_pow_sub_succ hp, Nat.testBit_two_pow]; simp
    · apply ext16 _ _ hD (or_lt _ _ (Nat.lt_of_le_of_lt Nat.and_le_left hD) hp)
      intro i hi
      rw [Nat.testBit_or, Nat.testBit_and, e, Nat.testBit_two_pow_sub_succ hp, Nat.testBit_two_pow]
      by_cases c : k = i
      · subst c; simp [h]
      · simp [c, hi]
    · intro i
      rw [Nat.testBit_and, e, Nat.testBit_two_pow_sub_succ hp, Nat.testBit_two_pow]
      by_cases hi : i < 16
      · simp [hi]
      · simp [testBit_out D i hD (by omega)]
  obtain ⟨E, hE, hb, hd, hi⟩ := hE
  have hs := add_bit' E k hE hk hb
  rw [← hd] at hs
  refine ⟨by omega, fun i => ?_⟩
  rw [show D - 2 ^ k = E by omega]
  exact hi i

/-- the document's answer for the least above: bits are added one by one -/
def orTo (x C : Nat) : Nat → Nat
  | 0 => C
  | k + 1 => if x.testBit k && !(orTo x C k).testBit k then orTo x C k + 2 ^ k else orTo x C k
theorem orTo_bits (x C : Nat) (hC : C < 65536) : ∀ k, k ≤ 16 → orTo x C k < 65536 ∧ ∀ i, (orTo x C k).testBit i = (C.testBit i || (decide (i < k) && x.testBit i))
  | 0, _ => ⟨hC, fun i => by simp [orTo]⟩
  | k + 1, hk => by
    obtain ⟨h1, h2⟩ := orTo_bits x C hC k (by omega)
    have hp : 2 ^ k < 2 ^ 16 := Nat.pow_lt_pow_right (a := 2) (by omega) (show k < 16 by omega)
    simp only [orTo]
    by_cases hx : (x.testBit k && !(orTo x C k).testBit k) = true
    · rw [if_pos hx]
      simp only [Bool.and_eq_true, Bool.not_eq_true'] at hx
      rw [add_bit' _ k h1 (by omega) hx.2]
      refine ⟨or_lt _ _ h1 hp, fun i => ?_⟩
      rw [Nat.testBit_or, h2 i, Nat.testBit_two_pow]
      by_cases e : k = i
      · subst e; simp [hx.1]
      · have : decide (i < k + 1) = decide (i < k) := by simp; omega
        simp [e, this]
    · rw [if_neg hx]
      refine ⟨h1, fun i => ?_⟩
      rw [h2 i]
      by_cases e : k = i
      · subst e
        have h3 := h2 k
        simp only [Nat.lt_irrefl, decide_false, Bool.false_and, Bool.or_false] at h3
        rw [h3] at hx
        cases hc : C.testBit k <;> cases hxk : x.testBit k <;> simp [hc, hxk] at hx ⊢
      · have : decide (i < k + 1) = decide (i < k) := by simp; omega
        simp [this]
theorem orTo_or (x C : Nat) (hx : x < 65536) (hC : C < 65536) : orTo x C 16 = C ||| x := by
  obtain ⟨h1, h2⟩ := orTo_bits x C hC 16 (by omega)
  apply ext16 _ _ h1 (or_lt _ _ hC hx)
  intro i hi
  rw [h2 i, Nat.testBit_or]; simp [hi]

/-- .. and for the greatest below: taken away one by one -/
def andTo (x C : Nat) : Nat → Nat
  | 0 => C
  | k + 1 => if !x.testBit k && (andTo x C k).testBit k then andTo x C k - 2 ^ k else andTo x C k
theorem andTo_bits (x C : Nat) (hC : C < 65536) : ∀ k, k ≤ 16 → andTo x C k < 65536 ∧ ∀ i, (andTo x C k).testBit i = (C.testBit i && (!decide (i < k) || x.testBit i))
  | 0, _ => ⟨hC, fun i => by simp [andTo]⟩
  | k + 1, hk => by
    obtain ⟨h1, h2⟩ := andTo_bits x C hC k (by omega)
    simp only [andTo]
    by_cases hx : (!x.testBit k && (andTo x C k).testBit k) = true
    · rw [if_pos hx]
      simp only [Bool.and_eq_true, Bool.not_eq_true'] at hx
      obtain ⟨h3, h4⟩ := sub_bit _ k h1 (by omega) hx.2
      refine ⟨Nat.lt_of_le_of_lt (Nat.sub_le _ _) h1, fun i => ?_⟩
      rw [h4 i, h2 i]
      by_cases e : k = i
      · subst e; simp [hx.1]
      · have : decide (i < k + 1) = decide (i < k) := by simp; omega
        simp [e, this]
    · rw [if_neg hx]
      refine ⟨h1, fun i => ?_⟩
      rw [h2 i]
      by_cases e : k = i
      · subst e
        have h3 := h2 k
        simp only [Nat.lt_irrefl, decide_false, Bool.not_false, Bool.true_or, Bool.and_true] at h3
        rw [h3] at hx
        cases hc : C.testBit k <;> cases hxk : x.testBit k <;> simp [hc, hxk] at hx ⊢
      · have : decide (i < k + 1) = decide (i < k) := by simp; omega
        simp [this]
theorem andTo_and (x C : Nat) (hC : C < 65536) : andTo x C 16 = C &&& x := by
  obtain ⟨h1, h2⟩ := andTo_bits x C hC 16 (by omega)
  apply ext16 _ _ h1 (Nat.lt_of_le_of_lt Nat.and_le_left hC)
  intro i hi
  rw [h2 i, Nat.testBit_and]; simp [hi]
end Go.Proofs.YtfackmiojbdjhaaDoor


namespace Go.Proofs.YtfackmiojbdjhaaDoor
set_option linter.unusedSimpArgs false
set_option linter.unusedVariables false
open Go.RowKit

set_option maxHeartbeats 400000 in
theorem leq_any (la ca lb cb : Int) (w : World) :
    Calls Tryd.prog 57 #[.agg #[.int .u8 la, .int .u16 ca], .agg #[.int .u8 lb, .int .u16 cb]] w fun e w' => e = .returned (.bool (leqB la ca lb cb)) ∧ Below w.heap.size w w' := by
  by_cases h : la ≤ lb
  · go_enter Tryd.func57, Tryd.ntmps57
    go_wp2
    go_ret
    exact ⟨ret_bool (by simp [leqB, h]), by repeat (first | exact Below.refl _ _ | apply Below.drew | refine Below.alloc ?_ (by simp) _)⟩
  · have h' : lb < la := by omega
    have hd : decide (la ≤ lb) = false := by simp; omega
    go_enter Tryd.func57, Tryd.ntmps57
    go_wp2
    go_ret
    exact ⟨ret_bool (by simp [leqB]; omega), by repeat (first | exact Below.refl _ _ | apply Below.drew | refine Below.alloc ?_ (by simp) _)⟩

set_option maxHeartbeats 400000 in
theorem has_any (la ca i : Int) (w : World) (h0 : 0 ≤ ca) (h1 : ca < 65536) :
    Calls Tryd.prog 59 #[.agg #[.int .u8 la, .int .u16 ca], .int .i64 i] w fun e w' => e = .returned (.bool (hasB ca i)) ∧ Below w.heap.size w w' := by
  by_cases h : 0 ≤ i
  · by_cases h2 : i < 16
    · go_enter Tryd.func59, Tryd.ntmps59
      go_wp2
      go_ret
      exact ⟨ret_bool (by simp [hasB, h, h2]), by repeat (first | exact Below.refl _ _ | apply Below.drew | refine Below.alloc ?_ (by simp) _)⟩
    · have hd : decide (i < 16) = false := by simp; omega
      go_enter Tryd.func59, Tryd.ntmps59
      go_wp2
      go_ret
      exact ⟨ret_bool (by simp [hasB]; omega), by repeat (first | exact Below.refl _ _ | apply Below.drew | refine Below.alloc ?_ (by simp) _)⟩
  · have hd : decide (0 ≤ i) = false := by simp; omega
    go_enter Tryd.func59, Tryd.ntmps59
    go_wp2
    go_ret
    exact ⟨ret_bool (by simp [hasB]; omega), by repeat (first | exact Below.refl _ _ | apply Below.drew | refine Below.alloc ?_ (by simp) _)⟩

end Go.Proofs.YtfackmiojbdjhaaDoor


namespace Go.Proofs.YtfackmiojbdjhaaDoor
set_option linter.unusedSimpArgs false
set_option linter.unusedVariables false
open Go.RowKit

theorem range_all_snoc (p : Nat → Bool) (k : Nat) : (List.range (k + 1)).all p = ((List.range k).all p && p k) := by
  simp [List.range_succ]
theorem range_all_bad (p : Nat → Bool) (n k : Nat) (hk : k < n) (h : p k = false) : (List.range n).all p = false := by
  rw [List.all_eq_false]; exact ⟨k, by simpa using hk, by simp [h]⟩

set_option maxHeartbeats 400000 in
theorem refleq_any (la ca lb cb : Int) (w : World) (h0 : 0 ≤ ca) (h1 : ca < 65536) (h2 : 0 ≤ cb) (h3 : cb < 65536) :
    Calls Tryd.prog 30 #[.agg #[.int .u8 la, .int .u16 ca], .agg #[.int .u8 lb, .int .u16 cb]] w fun e w' => e = .returned (.bool (refLeqB la ca lb cb)) ∧ Below w.heap.size w w' := by
  by_cases h : la ≤ lb
  · have hd : decide (lb < la) = false := by simp; omega
    go_enter Tryd.func30, Tryd.ntmps30
    go_wp2
    go_loopw [5] (fun i wr => ∃ k : Nat, k ≤ 16 ∧ i = .int .i64 k ∧ Below w.heap.size w wr ∧ w.heap.size + 1 < wr.heap.size ∧
        wr.cell? ⟨w.heap.size, 0, none⟩ = some (.int .u8 la) ∧ wr.cell? ⟨w.heap.size, 1, none⟩ = some (.int .u16 ca) ∧
        wr.cell? ⟨w.heap.size + 1, 0, none⟩ = some (.int .u8 lb) ∧ wr.cell? ⟨w.heap.size + 1, 1, none⟩ = some (.int .u16 cb) ∧
        (List.range k).all (fun i => !hasB ca (i : Int) || hasB cb (i : Int)) = true) (fun i _ => 16 - (intOf i).toNat)
    case atStart =>
      exact ⟨0, by omega, rfl, by repeat (first | exact Below.refl _ _ | apply Below.drew | refine Below.alloc ?_ (by simp) _), by simp, by simp, by simp, by simp, by simp, rfl⟩
    case round =>
      obtain ⟨k, hk, rfl, hb, hsz, c0, c1, d0, d1, hall⟩ := hrel
      have HA := Lib.hid hall
      clear hall
      by_cases hlt : k < 16
      · by_cases hh : hasB ca (k : Int) = true
        · by_cases hg : hasB cb (k : Int) = true
          · go_wp2_with fail
            refine (has_any la ca _ _ h0 h1).mono ?_
            rintro e w1 ⟨rfl, hb1⟩
            rw [hh]
            obtain ⟨hc1, hf1⟩ := bcell hb1
            have hz1 := hb1.size
            go_wp2_with fail
            refine (has_any lb cb _ _ h2 h3).mono ?_
            rintro e w2 ⟨rfl, hb2⟩
            rw [hg]
            obtain ⟨hc2, hf2⟩ := bcell hb2
            have hz2 := hb2.size
            go_wp2
            go_roundw
            case rel =>
              refine ⟨k + 1, by omega, by go_num, (hb.trans (hb1.mono (by omega))).trans (hb2.mono (by omega)), by omega, ?_, ?_, ?_, ?_, ?_⟩
              · rw [hc2 _ _ (by omega), hc1 _ _ (by omega), c0]
              · rw [hc2 _ _ (by omega), hc1 _ _ (by omega), c1]
              · rw [hc2 _ _ (by omega), hc1 _ _ (by omega), d0]
              · rw [hc2 _ _ (by omega), hc1 _ _ (by omega), d1]
              · rw [range_all_snoc, HA.out]; simp [hg]
            case measure => simp [intOf]; omega
          · have hg' : hasB cb (k : Int) = false := by simpa using hg
            go_wp2_with fail
            refine (has_any la ca _ _ h0 h1).mono ?_
            rintro e w1 ⟨rfl, hb1⟩
            rw [hh]
            obtain ⟨hc1, hf1⟩ := bcell hb1
            have hz1 := hb1.size
            go_wp2_with fail
            refine (has_any lb cb _ _ h2 h3).mono ?_
            rintro e w2 ⟨rfl, hb2⟩
            rw [hg']
            go_wp2
            go_ret
            refine ⟨ret_bool ?_, (hb.trans (hb1.mono (by omega))).trans (hb2.mono (by omega))⟩
            unfold refLeqB
            rw [range_all_bad _ 16 k hlt (by simp [hh, hg'])]
            simp
        · have hh' : hasB ca (k : Int) = false := by simpa using hh
          go_wp2_with fail
          refine (has_any la ca _ _ h0 h1).mono ?_
          rintro e w1 ⟨rfl, hb1⟩
          rw [hh']
          obtain ⟨hc1, hf1⟩ := bcell hb1
          have hz1 := hb1.size
          go_wp2
          go_roundw
          case rel =>
            refine ⟨k + 1, by omega, by go_num, (hb.trans (hb1.mono (by omega))), by omega, ?_, ?_, ?_, ?_, ?_⟩
            · rw [hc1 _ _ (by omega), c0]
            · rw [hc1 _ _ (by omega), c1]
            · rw [hc1 _ _ (by omega), d0]
            · rw [hc1 _ _ (by omega), d1]
            · rw [range_all_snoc, HA.out]; simp [hh']
          case measure => simp [intOf]; omega
      · obtain rfl : k = 16 := by omega
        go_wp2
        go_ret
        exact ⟨ret_bool (by unfold refLeqB; rw [HA.out]; simpa using h), hb⟩
  · have hd : decide (lb < la) = true := by simp; omega
    go_enter Tryd.func30, Tryd.ntmps30
    go_wp2
    go_ret
    exact ⟨ret_bool (by simp [refLeqB]; omega), by repeat (first | exact Below.refl _ _ | apply Below.drew | refine Below.alloc ?_ (by simp) _)⟩
end Go.Proofs.YtfackmiojbdjhaaDoor


namespace Go.Proofs.YtfackmiojbdjhaaDoor
set_option linter.unusedSimpArgs false
set_option linter.unusedVariables false
open Go.RowKit

theorem fold_take {α β : Type} (f : β → α → β) (z : β) (ls : List α) (k : Nat) (h : k < ls.length) : (ls.take (k + 1)).foldl f z = f ((ls.take k).foldl f z) ls[k] := by
  rw [List.take_succ_eq_append_getElem h, List.foldl_append]; rfl

theorem hasB_toNat (c : Int) (i : Nat) (h0 : 0 ≤ c) (hi : i < 16) : hasB c (i : Int) = c.toNat.testBit i := by
  obtain ⟨C, rfl⟩ := Int.eq_ofNat_of_zero_le h0
  rw [Int.toNat_natCast]; exact hasB_nat C i hi
theorem wrap_add (D j : Nat) (hD : D < 65536) (hj : j < 16) (h : D.testBit j = false) : IntKind.u16.wrap ((D : Int) + IntKind.u16.wrap (2 ^ j)) = ((D + 2 ^ j : Nat) : Int) := by
  have hp : 2 ^ j < 2 ^ 16 := Nat.pow_lt_pow_right (a := 2) (by omega) hj
  have h1 := add_bit D j hD hj h
  have h2 := add_bit' D j hD hj h
  have h3 : ((2 : Int) ^ j) = ((2 ^ j : Nat) : Int) := by simp
  rw [IntKind.wrap_u16, IntKind.wrap_u16, h3]
  generalize 2 ^ j = P at *
  rw [← h2] at h1
  omega
theorem fold_inv {α β : Type} (f : β → α → β) (P : β → Prop) (ls : List α) (h : ∀ b x, x ∈ ls → P b → P (f b x)) : ∀ z, P z → P (ls.foldl f z) := by
  induction ls with
  | nil => intro z hz; exact hz
  | cons a r ih => intro z hz; exact ih (fun b x hx => h b x (List.mem_cons_of_mem _ hx)) _ (h z a (List.mem_cons_self ..) hz)

/-- v is a slice that holds these numbers (an empty one, nil too, may point anywhere) -/
def Ints (w : World) (v : Value) (zs : List Int) : Prop :=
  (∃ a cap, v = .slice a 0 cap ∧ zs = []) ∨
  (∃ b off cap, v = .slice (some ⟨b, off, none⟩) zs.length cap ∧ b < w.heap.size ∧ zs.length ≤ maxLen ∧ (∀ i (h : i < zs.length), w.cell? ⟨b, off + i, none⟩ = some (.int .i64 zs[i])))
theorem Ints.below {w w' : World} {v : Value} {zs : List Int} (h : Ints w v zs) (hb : Below w.heap.size w w') : Ints w' v zs := by
  rcases h with h | ⟨b, off, cap, hv, hbl, hm, h0⟩
  · exact .inl h
  · exact .inr ⟨b, off, cap, hv, Nat.lt_of_lt_of_le hbl hb.size, hm, fun i hi => (hb.cell (p := ⟨b, off + i, none⟩) hbl).trans (h0 i hi)⟩

/-- may these be categories? -/
def catsOk (zs : List Int) : Bool := zs.all fun z => decide (0 ≤ z) && decide (z < 16)
def orStep (c z : Int) : Int := bits .or .u16 c (IntKind.u16.wrap (2 ^ z.toNat))
def orC (zs : List Int) : Int := zs.foldl orStep 0
theorem catsOk_take {zs : List Int} {k : Nat} (hk : k < zs.length) (h : catsOk (zs.take k) = true) : catsOk (zs.take (k + 1)) = (decide (0 ≤ zs[k]) && decide (zs[k] < 16)) := by
  unfold catsOk at *
  rw [List.take_succ_eq_append_getElem hk, List.all_append, h]; simp
theorem catsOk_bad {zs : List Int} {k : Nat} (hk : k < zs.length) (h : ¬ (0 ≤ zs[k] ∧ zs[k] < 16)) : catsOk zs = false := by
  unfold catsOk
  rw [List.all_eq_false]
  exact ⟨zs[k], List.getElem_mem hk, by simpa using h⟩

/-- what Make answers -/
def makeLv (level : Int) (zs : List Int) : Int := if 0 ≤ level ∧ level ≤ 15 ∧ catsOk zs = true then level else 0
def makeCs (level : Int) (zs : List Int) : Int := if 0 ≤ level ∧ level ≤ 15 ∧ catsOk zs = true then orC zs else 0
def makeEr (level : Int) (zs : List Int) : Int := if 0 ≤ level ∧ level ≤ 15 ∧ catsOk zs = true then 0 else 27

set_option maxHeartbeats 400000 in
theorem make_bad (level : Int) (v : Value) (w : World) (h : level < 0 ∨ 15 < level) :
    Calls Tryd.prog 86 #[.int .i64 level, v] w fun e w' => e = .returned (.tuple #[.agg #[.int .u8 0, .int .u16 0], .int .i64 27]) ∧ Below w.heap.size w w' := by
  rcases h with h | h
  all_goals
    go_enter Tryd.func86, Tryd.ntmps86
    first
      | (have hd : decide (level < 0) = true := by simp; omega)
      | (have hd : decide (level < 0) = false := by simp; omega)
    go_wp2
    refine bodyPost_ret (v := .tuple #[.agg #[.int .u8 0, .int .u16 0], .int .i64 27]) (by simp [results, Tryd.results86, go_sem]) rfl ⟨rfl, ?_⟩
    repeat (first | exact Below.refl _ _ | apply Below.drew | refine Below.alloc ?_ (by simp) _ | refine Below.setCell ?_ (by simp) _)

set_option maxHeartbeats 400000 in
theorem make_some (level : Int) (b off cap : Nat) (zs : List Int) (w : World) (h0 : 0 ≤ level) (h1 : level ≤ 15) (hbl : b < w.heap.size) (hm : zs.length ≤ maxLen)
    (hc : ∀ i (h : i < zs.length), w.cell? ⟨b, off + i, none⟩ = some (.int .i64 zs[i])) :
    Calls Tryd.prog 86 #[.int .i64 level, .slice (some ⟨b, off, none⟩) zs.length cap] w fun e w' => e = .returned (.tuple #[.agg #[.int .u8 (makeLv level zs), .int .u16 (makeCs level zs)], .int .i64 (makeEr level zs)]) ∧ Below w.heap.size w w' := by
  unfold maxLen at hm
  have HC := Lib.hid hc
  clear hc
  have hd0 : decide (level < 0) = false := by simp; omega
  have hd1 : decide (15 < level) = false := by simp; omega
  go_enter Tryd.func86, Tryd.ntmps86
  go_wp2
  go_loopw [21] (fun i wr => ∃ k : Nat, k ≤ zs.length ∧ i = .int .i64 k ∧ Below w.heap.size w wr ∧ Pair wr w.heap.size (.int .u8 0) (.int .u16 0) ∧ Pair wr (w.heap.size + 1) (.int .u8 level) (.int .u16 (orC (zs.take k))) ∧ catsOk (zs.take k) = true) (fun i _ => zs.length - (intOf i).toNat)
  case atStart =>
    refine ⟨0, by omega, rfl, by repeat (first | exact Below.refl _ _ | apply Below.drew | refine Below.alloc ?_ (by simp) _), (Pair.new _ _ _ _).alloc _, ?_, rfl⟩
    simpa [orC] using Pair.new (w.alloc (.cells #[.int .u8 0, .int .u16 0] 37)) (.int .u8 level) (.int .u16 0) 37
  case round =>
    obtain ⟨k, hk, rfl, hb, hr, hp, hok⟩ := hrel
    have HOk := Lib.hid hok
    clear hok
    obtain ⟨hsz, c0, c1, f0, f1⟩ := id hp
    obtain ⟨-, r0, r1, q0, q1⟩ := id hr
    have HP := Lib.hid hp
    have HR := Lib.hid hr
    clear hp hr
    by_cases hlt : k < zs.length
    · have e0 := (hb.cell (p := ⟨b, off + k, none⟩) hbl).trans (HC.out k hlt)
      have HS : Hid (orC (zs.take (k + 1)) = orStep (orC (zs.take k)) zs[k]) := by
        show orC (zs.take (k + 1)) = _
        unfold orC; rw [List.take_succ_eq_append_getElem hlt, List.foldl_append]; rfl
      have HT := Lib.hid (catsOk_take hlt HOk.out)
      have HB : Hid (¬ (0 ≤ zs[k] ∧ zs[k] < 16) → catsOk zs = false) := fun h => catsOk_bad hlt h
      generalize zs[k] = z at *
      generalize orC (zs.take k) = A at *
      have hlt' : (k : Int) < (zs.length : Int) := by omega
      by_cases hz : 0 ≤ z ∧ z < 16
      · obtain ⟨hz0, hz1⟩ := hz
        have hd2 : decide (z < 0) = false := by simp; omega
        have hd3 : decide (16 ≤ z) = false := by simp; omega
        go_wp2
        go_region
        go_wp2
        go_roundw
        case rel =>
          refine ⟨k + 1, by omega, by go_num, (hb.setCell (by simp) _).drew, (HR.out.set_far (by simp) _).drew, ?_, ?_⟩
          · rw [HS.out]; exact (HP.out.set1 _).drew
          · rw [HT.out]; simp [hz0, hz1]
        case measure => simp [intOf]; omega
      · have hbad := HB.out hz
        have hv0 : makeLv level zs = 0 := by unfold makeLv; rw [hbad]; simp
        have hv1 : makeCs level zs = 0 := by unfold makeCs; rw [hbad]; simp
        have hv2 : makeEr level zs = 27 := by unfold makeEr; rw [hbad]; simp
        have HV := Lib.hid (And.intro hv0 (And.intro hv1 hv2))
        clear hbad hv0 hv1 hv2
        by_cases hz0 : 0 ≤ z
        all_goals
          first
            | (have hd2 : decide (z < 0) = false := by simp; omega)
            | (have hd2 : decide (z < 0) = true := by simp; omega)
          have hd3 : z < 0 ∨ decide (16 ≤ z) = true := by simp; omega
          go_wp2
          refine bodyPost_ret (v := .tuple #[.agg #[.int .u8 0, .int .u16 0], .int .i64 27]) (by simp [results, Tryd.results86, go_sem, r0, r1]) rfl ⟨by rw [HV.out.1, HV.out.2.1, HV.out.2.2], ?_⟩
          exact (hb.setCell (by simp) _).setCell (by simp) _
    · obtain rfl : k = zs.length := by omega
      rw [List.take_length] at *
      have hg : 0 ≤ level ∧ level ≤ 15 ∧ catsOk zs = true := ⟨h0, h1, HOk.out⟩
      have hv0 : makeLv level zs = level := if_pos hg
      have hv1 : makeCs level zs = orC zs := if_pos hg
      have hv2 : makeEr level zs = 0 := if_pos hg
      have HV := Lib.hid (And.intro hv0 (And.intro hv1 hv2))
      clear hg hv0 hv1 hv2
      go_wp2
      refine bodyPost_ret (v := .tuple #[.agg #[.int .u8 level, .int .u16 (orC zs)], .int .i64 0]) (by simp [results, Tryd.results86, go_sem, r0, r1]) rfl ⟨by rw [HV.out.1, HV.out.2.1, HV.out.2.2], ?_⟩
      exact (hb.setCell (by simp) _).setCell (by simp) _

set_option maxHeartbeats 400000 in
theorem make_empty (level : Int) (a : Option Addr) (cap : Nat) (w : World) (h0 : 0 ≤ level) (h1 : level ≤ 15) :
    Calls Tryd.prog 86 #[.int .i64 level, .slice a 0 cap] w fun e w' => e = .returned (.tuple #[.agg #[.int .u8 level, .int .u16 0], .int .i64 0]) ∧ Below w.heap.size w w' := by
  have hd0 : decide (level < 0) = false := by simp; omega
  have hd1 : decide (15 < level) = false := by simp; omega
  go_enter Tryd.func86, Tryd.ntmps86
  go_wp2
  refine wp_loop_rounds 1 ?_
  rw [rounds_succ]
  go_wp2
  refine bodyPost_ret (v := .tuple #[.agg #[.int .u8 level, .int .u16 0], .int .i64 0]) (by simp [results, Tryd.results86, go_sem]) rfl ⟨rfl, ?_⟩
  repeat (first | exact Below.refl _ _ | apply Below.drew | refine Below.alloc ?_ (by simp) _ | refine Below.setCell ?_ (by simp) _)
theorem make_any (level : Int) (v : Value) (zs : List Int) (w : World) (h : Ints w v zs) :
    Calls Tryd.prog 86 #[.int .i64 level, v] w fun e w' => e = .returned (.tuple #[.agg #[.int .u8 (makeLv level zs), .int .u16 (makeCs level zs)], .int .i64 (makeEr level zs)]) ∧ Below w.heap.size w w' := by
  by_cases hl : 0 ≤ level ∧ level ≤ 15
  · obtain ⟨h0, h1⟩ := hl
    rcases h with ⟨a, cap, rfl, rfl⟩ | ⟨b, off, cap, rfl, hbl, hm, hc⟩
    · have hg : 0 ≤ level ∧ level ≤ 15 ∧ catsOk [] = true := ⟨h0, h1, rfl⟩
      rw [show makeLv level [] = level from if_pos hg, show makeCs level [] = 0 from if_pos hg, show makeEr level [] = 0 from if_pos hg]
      exact make_empty level a cap w h0 h1
    · exact make_some level b off cap zs w h0 h1 hbl hm hc
  · have hg : ¬ (0 ≤ level ∧ level ≤ 15 ∧ catsOk zs = true) := fun h => hl ⟨h.1, h.2.1⟩
    rw [show makeLv level zs = 0 from if_neg hg, show makeCs level zs = 0 from if_neg hg, show makeEr level zs = 27 from if_neg hg]
    exact make_bad level v w (by omega)
end Go.Proofs.YtfackmiojbdjhaaDoor


namespace Go.Proofs.YtfackmiojbdjhaaDoor
set_option linter.unusedSimpArgs false
set_option linter.unusedVariables false
open Go.RowKit

/-- what the document's answer adds, one by one -/
def ofStep (D : Nat) (z : Int) : Nat := if D.testBit z.toNat then D else D + 2 ^ z.toNat
def ofN (zs : List Int) : Nat := zs.foldl ofStep 0
def ofLv (level : Int) (zs : List Int) : Int := if 0 ≤ level ∧ level ≤ 15 ∧ catsOk zs = true then level else 0
def ofCs (level : Int) (zs : List Int) : Int := if 0 ≤ level ∧ level ≤ 15 ∧ catsOk zs = true then (ofN zs : Int) else 0
def ofOk (level : Int) (zs : List Int) : Bool := if 0 ≤ level ∧ level ≤ 15 ∧ catsOk zs = true then true else false

theorem ofN_lt (zs : List Int) (h : catsOk zs = true) : ofN zs < 65536 :=
  fold_inv ofStep (fun D => D < 65536) zs (fun D z hz hD => by
    unfold catsOk at h
    rw [List.all_eq_true] at h
    have hh := h z hz
    simp at hh
    unfold ofStep
    split
    · exact hD
    · rename_i ht
      rw [add_bit' D z.toNat hD (by omega) (by simpa using ht)]
      exact or_lt _ _ hD (Nat.pow_lt_pow_right (a := 2) (by omega) (show z.toNat < 16 by omega))) 0 (by omega)

set_option maxHeartbeats 400000 in
theorem of_some (level : Int) (b off cap : Nat) (zs : List Int) (w : World) (h0 : 0 ≤ level) (h1 : level ≤ 15) (hbl : b < w.heap.size) (hm : zs.length ≤ maxLen)
    (hc : ∀ i (h : i < zs.length), w.cell? ⟨b, off + i, none⟩ = some (.int .i64 zs[i])) :
    Calls Tryd.prog 65 #[.int .i64 level, .slice (some ⟨b, off, none⟩) zs.length cap] w fun e w' => e = .returned (.tuple #[.agg #[.int .u8 (ofLv level zs), .int .u16 (ofCs level zs)], .bool (ofOk level zs)]) ∧ Below w.heap.size w w' := by
  unfold maxLen at hm
  have HC := Lib.hid hc
  clear hc
  have hd0 : decide (level < 0) = false := by simp; omega
  have hd1 : decide (15 < level) = false := by simp; omega
  go_enter Tryd.func65, Tryd.ntmps65
  go_wp2
  go_loopw [7] (fun i wr => ∃ k : Nat, k ≤ zs.length ∧ i = .int .i64 k ∧ Below w.heap.size w wr ∧ Pair wr w.heap.size (.int .u8 0) (.int .u16 0) ∧ Pair wr (w.heap.size + 1) (.int .u8 level) (.int .u16 (ofN (zs.take k) : Int)) ∧ catsOk (zs.take k) = true) (fun i _ => zs.length - (intOf i).toNat)
  case atStart =>
    refine ⟨0, by omega, rfl, by repeat (first | exact Below.refl _ _ | apply Below.drew | refine Below.alloc ?_ (by simp) _), (Pair.new _ _ _ _).alloc _, ?_, rfl⟩
    simpa [ofN] using Pair.new (w.alloc (.cells #[.int .u8 0, .int .u16 0] 37)) (.int .u8 level) (.int .u16 0) 37
  case round =>
    obtain ⟨k, hk, rfl, hb, hr, hp, hok⟩ := hrel
    have hA1 := ofN_lt _ hok
    have HOk := Lib.hid hok
    clear hok
    obtain ⟨hsz, c0, c1, f0, f1⟩ := id hp
    obtain ⟨-, r0, r1, q0, q1⟩ := id hr
    have HP := Lib.hid hp
    have HR := Lib.hid hr
    clear hp hr
    by_cases hlt : k < zs.length
    · have e0 := (hb.cell (p := ⟨b, off + k, none⟩) hbl).trans (HC.out k hlt)
      have HS : Hid (ofN (zs.take (k + 1)) = ofStep (ofN (zs.take k)) zs[k]) := by
        show ofN (zs.take (k + 1)) = _
        unfold ofN; rw [List.take_succ_eq_append_getElem hlt, List.foldl_append]; rfl
      have HT := Lib.hid (catsOk_take hlt HOk.out)
      have HB : Hid (¬ (0 ≤ zs[k] ∧ zs[k] < 16) → catsOk zs = false) := fun h => catsOk_bad hlt h
      generalize zs[k] = z at *
      generalize ofN (zs.take k) = A at *
      have hlt' : (k : Int) < (zs.length : Int) := by omega
      have hk0 : (0 : Int) ≤ (k : Int) := by omega
      have hbl' : b < wr.heap.size := Nat.lt_of_lt_of_le hbl hb.size
      by_cases hz : 0 ≤ z ∧ z < 16
      · obtain ⟨hz0, hz1⟩ := hz
        have hd2 : decide (z < 0) = false := by simp; omega
        have hd3 : decide (15 < z) = false := by simp; omega
        go_wp2_with fail
        go_region_held3 (fun w' => w'.cell? ⟨w.heap.size + 1, 0, none⟩ = some (.int .u8 level) ∧ w'.cell? ⟨w.heap.size + 1, 1, none⟩ = some (.int .u16 (A : Int)) ∧ w'.cell? ⟨b, off + k, none⟩ = some (.int .i64 z))
          (first | go_keep | exact ⟨(hc1 _ _ hsz).trans c0, (hc1 _ _ hsz).trans c1, (hc1 _ _ hbl').trans e0⟩)
          (first | (go_at_call 59; refine (has_any level (A : Int) z _ (by omega) (by omega)).mono ?_; rintro e w1 ⟨rfl, hb1⟩; obtain ⟨hc1, hf1⟩ := bcell hb1))
        have H2 : Hid (hasB (A : Int) z = A.testBit z.toNat) := by
          obtain ⟨Z, rfl⟩ := Int.eq_ofNat_of_zero_le hz0
          rw [Int.toNat_natCast]; exact hasB_nat A Z (by omega)
        have hB4 := (show Below w.heap.size w wr.drew from hb.drew).trans (hb1.mono (show w.heap.size ≤ wr.heap.size by omega))
        have hP4 := HP.out.drew.below hb1 (show w.heap.size + 1 < wr.heap.size by omega)
        have hR4 := HR.out.drew.below hb1 (show w.heap.size < wr.heap.size by omega)
        have e4 := (hc1 _ _ hbl').trans e0
        have HE4 := Lib.hid e4
        clear e4 hc1 hf1 hb1 c0 c1 f0 f1 r0 r1 q0 q1 e0 hb
        cases hh : hasB (A : Int) z
        · have HG : Hid (A.testBit z.toNat = false) := H2.out.symm.trans hh
          clear hh
          obtain ⟨hsz4, c0, c1, f0, f1⟩ := id hP4
          have e0 := HE4.out
          have HP4 := Lib.hid hP4
          have HR4 := Lib.hid hR4
          clear hP4 hR4
          go_wp2
          go_region
          go_wp2
          go_roundw
          case rel =>
            have hw : IntKind.u16.wrap ((A : Int) + IntKind.u16.wrap (2 ^ z.toNat)) = ((A + 2 ^ z.toNat : Nat) : Int) := wrap_add A z.toNat hA1 (by omega) HG.out
            refine ⟨k + 1, by omega, by go_num, (hB4.setCell (by simp) _).drew, (HR4.out.set_far (by simp) _).drew, ?_, ?_⟩
            · rw [HS.out, show ofStep A z = A + 2 ^ z.toNat by unfold ofStep; rw [HG.out]; simp, ← hw]; exact (HP4.out.set1 _).drew
            · rw [HT.out]; simp [hz0, hz1]
          case measure => simp [intOf]; omega
        · have HG : Hid (A.testBit z.toNat = true) := H2.out.symm.trans hh
          clear hh
          have HP4 := Lib.hid hP4
          have HR4 := Lib.hid hR4
          clear hP4 hR4
          go_wp2
          go_roundw
          case rel =>
            refine ⟨k + 1, by omega, by go_num, hB4, HR4.out, ?_, ?_⟩
            · rw [HS.out, show ofStep A z = A by unfold ofStep; rw [HG.out]; simp]; exact HP4.out
            · rw [HT.out]; simp [hz0, hz1]
          case measure => simp [intOf]; omega
      · have hbad := HB.out hz
        have hv0 : ofLv level zs = 0 := by unfold ofLv; rw [hbad]; simp
        have hv1 : ofCs level zs = 0 := by unfold ofCs; rw [hbad]; simp
        have hv2 : ofOk level zs = false := by unfold ofOk; rw [hbad]; simp
        have HV := Lib.hid (And.intro hv0 (And.intro hv1 hv2))
        clear hbad hv0 hv1 hv2
        by_cases hz0 : 0 ≤ z
        all_goals
          first
            | (have hd2 : decide (z < 0) = false := by simp; omega)
            | (have hd2 : decide (z < 0) = true := by simp; omega)
          have hd3 : z < 0 ∨ decide (15 < z) = true := by simp; omega
          go_wp2
          refine bodyPost_ret (v := .tuple #[.agg #[.int .u8 0, .int .u16 0], .bool false]) (by simp [results, Tryd.results65, go_sem, r0, r1]) rfl ⟨by rw [HV.out.1, HV.out.2.1, HV.out.2.2], ?_⟩
          exact (hb.setCell (by simp) _).setCell (by simp) _
    · obtain rfl : k = zs.length := by omega
      rw [List.take_length] at *
      have hg : 0 ≤ level ∧ level ≤ 15 ∧ catsOk zs = true := ⟨h0, h1, HOk.out⟩
      have hv0 : ofLv level zs = level := if_pos hg
      have hv1 : ofCs level zs = (ofN zs : Int) := if_pos hg
      have hv2 : ofOk level zs = true := if_pos hg
      have HV := Lib.hid (And.intro hv0 (And.intro hv1 hv2))
      clear hg hv0 hv1 hv2
      go_wp2
      refine bodyPost_ret (v := .tuple #[.agg #[.int .u8 level, .int .u16 (ofN zs : Int)], .bool true]) (by simp [results, Tryd.results65, go_sem, r0, r1]) rfl ⟨by rw [HV.out.1, HV.out.2.1, HV.out.2.2], ?_⟩
      exact (hb.setCell (by simp) _).setCell (by simp) _

set_option maxHeartbeats 400000 in
theorem of_bad (level : Int) (v : Value) (w : World) (h : level < 0 ∨ 15 < level) :
    Calls Tryd.prog 65 #[.int .i64 level, v] w fun e w' => e = .returned (.tuple #[.agg #[.int .u8 0, .int .u16 0], .bool false]) ∧ Below w.heap.size w w' := by
  rcases h with h | h
  all_goals
    go_enter Tryd.func65, Tryd.ntmps65
    first
      | (have hd : decide (level < 0) = true := by simp; omega)
      | (have hd : decide (level < 0) = false := by simp; omega)
    go_wp2
    refine bodyPost_ret (v := .tuple #[.agg #[.int .u8 0, .int .u16 0], .bool false]) (by simp [results, Tryd.results65, go_sem]) rfl ⟨rfl, ?_⟩
    repeat (first | exact Below.refl _ _ | apply Below.drew | refine Below.alloc ?_ (by simp) _ | refine Below.setCell ?_ (by simp) _)
set_option maxHeartbeats 400000 in
theorem of_empty (level : Int) (a : Option Addr) (cap : Nat) (w : World) (h0 : 0 ≤ level) (h1 : level ≤ 15) :
    Calls Tryd.prog 65 #[.int .i64 level, .slice a 0 cap] w fun e w' => e = .returned (.tuple #[.agg #[.int .u8 level, .int .u16 0], .bool true]) ∧ Below w.heap.size w w' := by
  have hd0 : decide (level < 0) = false := by simp; omega
  have hd1 : decide (15 < level) = false := by simp; omega
  go_enter Tryd.func65, Tryd.ntmps65
  go_wp2
  refine wp_loop_rounds 1 ?_
  rw [rounds_succ]
  go_wp2
  refine bodyPost_ret (v := .tuple #[.agg #[.int .u8 level, .int .u16 0], .bool true]) (by simp [results, Tryd.results65, go_sem]) rfl ⟨rfl, ?_⟩
  repeat (first | exact Below.refl _ _ | apply Below.drew | refine Below.alloc ?_ (by simp) _ | refine Below.setCell ?_ (by simp) _)
theorem of_any (level : Int) (v : Value) (zs : List Int) (w : World) (h : Ints w v zs) :
    Calls Tryd.prog 65 #[.int .i64 level, v] w fun e w' => e = .returned (.tuple #[.agg #[.int .u8 (ofLv level zs), .int .u16 (ofCs level zs)], .bool (ofOk level zs)]) ∧ Below w.heap.size w w' := by
  by_cases hl : 0 ≤ level ∧ level ≤ 15
  · obtain ⟨h0, h1⟩ := hl
    rcases h with ⟨a, cap, rfl, rfl⟩ | ⟨b, off, cap, rfl, hbl, hm, hc⟩
    · have hg : 0 ≤ level ∧ level ≤ 15 ∧ catsOk [] = true := ⟨h0, h1, rfl⟩
      rw [show ofLv level [] = level from if_pos hg, show ofCs level [] = 0 from if_pos hg, show ofOk level [] = true from if_pos hg]
      exact of_empty level a cap w h0 h1
    · exact of_some level b off cap zs w h0 h1 hbl hm hc
  · have hg : ¬ (0 ≤ level ∧ level ≤ 15 ∧ catsOk zs = true) := fun h => hl ⟨h.1, h.2.1⟩
    rw [show ofLv level zs = 0 from if_neg hg, show ofCs level zs = 0 from if_neg hg, show ofOk level zs = false from if_neg hg]
    exact of_bad level v w (by omega)

/-- the code's bits are the document's -/
theorem orC_ofN (zs : List Int) (h : catsOk zs = true) : orC zs = (ofN zs : Int) := by
  have key : ∀ (l : List Int), catsOk l = true → ∀ (D : Nat), D < 65536 → l.foldl orStep (D : Int) = ((l.foldl ofStep D : Nat) : Int) := by
    intro l
    induction l with
    | nil => intro _ D _; rfl
    | cons z r ih =>
      intro hz D hD
      unfold catsOk at hz
      simp only [List.all_cons, Bool.and_eq_true, decide_eq_true_eq] at hz
      obtain ⟨⟨hz0, hz1⟩, hr⟩ := hz
      have hlt : z.toNat < 16 := by omega
      have hp : 2 ^ z.toNat < 2 ^ 16 := Nat.pow_lt_pow_right (a := 2) (by omega) hlt
      have e1 : orStep (D : Int) z = ((D ||| 2 ^ z.toNat : Nat) : Int) := by
        unfold orStep
        have h3 : IntKind.u16.wrap ((2 : Int) ^ z.toNat) = ((2 ^ z.toNat : Nat) : Int) := by
          rw [IntKind.wrap_u16, show ((2 : Int) ^ z.toNat) = ((2 ^ z.toNat : Nat) : Int) by simp]
          generalize 2 ^ z.toNat = P at *
          omega
        rw [h3, u16_or_nat D _ hD hp]
      have e2 : ofStep D z = D ||| 2 ^ z.toNat := by
        unfold ofStep
        split
        · rename_i ht
          apply ext16 _ _ hD (or_lt _ _ hD hp)
          intro i hi
          rw [Nat.testBit_or, Nat.testBit_two_pow]
          by_cases e : z.toNat = i
          · subst e; simp [ht]
          · simp [e]
        · rename_i ht
          exact add_bit' D z.toNat hD hlt (by simpa using ht)
      simp only [List.foldl_cons]
      rw [e1, e2]
      exact ih (by unfold catsOk; exact hr) _ (or_lt _ _ hD hp)
  exact key zs h 0 (by omega)
theorem make_of (level : Int) (zs : List Int) : makeLv level zs = ofLv level zs ∧ makeCs level zs = ofCs level zs ∧ makeEr level zs = (if ofOk level zs then 0 else 27) := by
  by_cases hg : 0 ≤ level ∧ level ≤ 15 ∧ catsOk zs = true
  · unfold makeLv makeCs makeEr ofLv ofCs ofOk
    simp only [if_pos hg]
    exact ⟨trivial, orC_ofN zs hg.2.2, by simp⟩
  · unfold makeLv makeCs makeEr ofLv ofCs ofOk
    simp only [if_neg hg]
    exact ⟨trivial, trivial, by simp⟩
end Go.Proofs.YtfackmiojbdjhaaDoor


namespace Go.Proofs.YtfackmiojbdjhaaDoor
set_option linter.unusedSimpArgs false
set_option linter.unusedVariables false
open Go.RowKit

theorem ownsRow_below {w w' : World} {base : Nat} {e : TypeId} {size : Nat} {v : Value} {n : Nat} {xs : List Value} (h : w.ownsRow base e size v n xs) (hb : Below w.heap.size w w') : w'.ownsRow base e size v n xs := by
  obtain ⟨hl, h | ⟨g, cap, cur, hv, hg, hh, r⟩⟩ := h
  · exact ⟨hl, .inl h⟩
  · refine ⟨hl, .inr ⟨g, cap, cur, hv, hg, ?_, r⟩⟩
    have hlt : g < w.heap.size := by
      rcases Nat.lt_or_ge g w.heap.size with h' | h'
      · exact h'
      · rw [Array.getElem?_eq_none h'] at hh; simp at hh
    rw [hb.block g hlt]; exact hh
theorem ownsRow_block {w : World} {base : Nat} {e : TypeId} {size : Nat} {v : Value} {n : Nat} {xs : List Value} (h : w.ownsRow base e size v n xs) : ∀ k, v.ownBlock = some k → base ≤ k := by
  intro k hk
  obtain ⟨_, ⟨hv, _⟩ | ⟨g, cap, cur, hv, hg, _⟩⟩ := h
  · rw [hv] at hk; simp [Value.ownBlock] at hk
  · rw [hv] at hk; simp [Value.ownBlock] at hk; omega
theorem ownsRow_ints {w : World} {base : Nat} {v : Value} {zs : List Int} (h : w.ownsRow base 3 1 v zs.length (zs.map (Value.int .i64))) : Ints w v zs := by
  obtain ⟨hl, ⟨hv, hn⟩ | ⟨g, cap, cur, hv, hg, hh, hc, hm, hs, ht⟩⟩ := h
  · exact .inl ⟨none, 0, hv, List.eq_nil_of_length_eq_zero hn⟩
  · have hlt : g < w.heap.size := by
      rcases Nat.lt_or_ge g w.heap.size with h' | h'
      · exact h'
      · rw [Array.getElem?_eq_none h'] at hh; simp at hh
    refine .inr ⟨g, 0, cap, hv, hlt, Nat.le_trans hc hm, fun i hi => ?_⟩
    have hx : (cur.toList.take (zs.length * 1))[i]? = (zs.map (Value.int .i64))[i]? := by rw [ht]
    rw [List.getElem?_take_of_lt (by omega), List.getElem?_map, List.getElem?_eq_getElem hi] at hx
    simp only [World.cell?, hh]
    simpa using hx
theorem Tryd.info3 : (Tryd.prog.info? 3).map (fun i => (i.zero, i.size, i.bytes)) = some (some (.int .i64 0), 1, 8) := by kernel_rfl

/-- a label's categories below k -/
def catL (c : Int) (k : Nat) : List Int := ((List.range k).filter fun i : Nat => hasB c (i : Int)).map fun i : Nat => (i : Int)
theorem catL_succ (c : Int) (k : Nat) : catL c (k + 1) = if hasB c (k : Int) then catL c k ++ [(k : Int)] else catL c k := by
  unfold catL
  rw [List.range_succ, List.filter_append, List.map_append]
  cases h : hasB c (k : Int) <;> simp [h]
theorem catL_len (c : Int) (k : Nat) : (catL c k).length ≤ k := by
  unfold catL
  rw [List.length_map]
  exact Nat.le_trans (List.length_filter_le _ _) (by simp)

theorem catL_bit (c : Int) (k : Nat) (h0 : 0 ≤ c) (h1 : c < 65536) (hk : k < 16) : (bits .and .u16 (c / 2 ^ k) 1 != 0) = hasB c (k : Int) := by
  obtain ⟨C, rfl⟩ := Int.eq_ofNat_of_zero_le h0
  have h2 : ((C : Int) / 2 ^ k) = ((C / 2 ^ k : Nat) : Int) := by rw [Int.natCast_ediv, Int.natCast_pow]; rfl
  have h3 : C / 2 ^ k < 65536 := Nat.lt_of_le_of_lt (Nat.div_le_self _ _) (by omega)
  rw [h2, show (1 : Int) = ((1 : Nat) : Int) from rfl, u16_and_nat _ 1 h3 (by omega), hasB_nat C k hk, Nat.testBit_eq_decide_div_mod_eq, Nat.and_one_is_mod]
  generalize C / 2 ^ k = X
  rw [Bool.eq_iff_iff]
  simp
  omega
/-- what Cats leaves: a new slice of the categories -/
def NewInts (w : World) (zs : List Int) (e : Ending) (w' : World) : Prop := ∃ v, e = .returned v ∧ Ints w' v zs ∧ Below w.heap.size w w'

set_option maxHeartbeats 400000 in
set_option maxRecDepth 100000 in
theorem cats_any (la ca : Int) (w : World) (h0 : 0 ≤ ca) (h1 : ca < 65536) :
    Calls Tryd.prog 68 #[.agg #[.int .u8 la, .int .u16 ca]] w (NewInts w (catL ca 16)) := by
  obtain ⟨i0, hi, hz0, hz1, hz2⟩ := info_parts Tryd.info3
  go_enter Tryd.func68, Tryd.ntmps68
  go_wp2
  go_loopw [3, 4, 5] (fun v _ i wr => ∃ k : Nat, k ≤ 16 ∧ i = .int .i64 k ∧ wr.ownsRow (w.heap.size + 1) 3 1 v (catL ca k).length ((catL ca k).map (Value.int .i64)) ∧ Below (w.heap.size + 1) (w.alloc (.cells #[.int .u8 la, .int .u16 ca] 37)) wr) (fun _ _ i _ => 16 - (intOf i).toNat)
  case atStart => exact ⟨0, by omega, rfl, by simpa [catL] using World.ownsRow_nil _ _ _ _, Below.refl _ _⟩
  case round =>
    obtain ⟨k, hk, rfl, hown, hb⟩ := hrel
    have c1 : wr.cell? ⟨w.heap.size, 1, none⟩ = some (.int .u16 ca) := (hb.cell (p := ⟨w.heap.size, 1, none⟩) (by simp)).trans (Pair.new w _ _ _).c1
    have hsz := hb.size
    simp at hsz
    have hlen := catL_len ca k
    by_cases hlt : k < 16
    · have hS := Lib.hid (catL_succ ca k)
      have hB := catL_bit ca k h0 h1 hlt
      cases hh : hasB ca (k : Int)
      · rw [hh] at hB
        have HH := Lib.hid hh
        clear hh
        have HO := Lib.hid hown
        clear hown
        go_wp2
        go_roundw
        case rel => exact ⟨k + 1, by omega, by go_num, by rw [hS.out, HH.out]; exact HO.out, hb⟩
        case measure => simp [intOf]; omega
      · rw [hh] at hB
        have HH := Lib.hid hh
        clear hh
        have HO := Lib.hid hown
        clear hown
        go_wp2_with (first | (at_builtin; refine wpList_append_own _ rfl _ _ 111 rfl (w.heap.size + 1) 3 i0 (.int .i64 0) 1 8 Tryd.underlying111 hi hz0 hz1 hz2 rfl (by decide) _ _ _ rfl (HO.out.alloc _) ⟨wr.heap.size, 0, none⟩ 1 1 [.int .i64 (k : Int)] rfl rfl ?c1 ?c2 ?c3 ?c4 ?c5 ?_))
        case c1 =>
          intro j u hj
          match j, hj with
          | 0, hj => simp at hj; subst hj; simp [Addr.add]
        case c2 => intro u hu; simp at hu; subst hu; rfl
        case c3 => unfold maxLen; omega
        case c4 => omega
        case c5 => simp; omega
        intro v' w1 hown' hgrow _
        have hb2 : Below (w.heap.size + 1) (w.alloc (.cells #[.int .u8 la, .int .u16 ca] 37)) w1 :=
          (hb.alloc (by simpa using hb.size) _).grown hgrow (by simp; omega) (ownsRow_block HO.out)
        have HO2 : Hid (w1.ownsRow (w.heap.size + 1) 3 1 v' (catL ca (k + 1)).length ((catL ca (k + 1)).map (Value.int .i64))) := by
          show w1.ownsRow _ _ _ _ _ _
          rw [hS.out, HH.out]; simpa using hown'
        clear hown' hgrow HO c1
        go_wp2
        go_roundw
        case rel => exact ⟨k + 1, by omega, by go_num, HO2.out, hb2⟩
        case measure => simp [intOf]; omega
    · obtain rfl : k = 16 := by omega
      have HO := Lib.hid hown
      clear hown
      go_wp2
      go_ret
      exact ⟨_, rfl, ownsRow_ints HO.out, ((Below.refl _ _).alloc (Nat.le_refl _) _).trans (hb.mono (by omega))⟩

end Go.Proofs.YtfackmiojbdjhaaDoor
