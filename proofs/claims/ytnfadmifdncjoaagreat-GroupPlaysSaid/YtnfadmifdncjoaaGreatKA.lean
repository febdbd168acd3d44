import Derived.Test.YtnfadmifdncjoaaGreatRows
import Derived.WalkKit
import Derived.WalkSpells
import Derived.WalkLawsBesides
import Derived.Lib.Hide
import Derived.Deep.RegionHeld
import Derived.Deep.Draws
import Derived.Lib.OthersKept
import Derived.Lib.DecodeNEq
import Derived.Lib.TrimU
import Derived.Laws.BitsAllLaws
import Derived.Deep.QuietTactic
import Derived.BigQuiet
import Derived.Sort.Grow
import Derived.RegionTactic
import Derived.BigRegion
import Derived.OwnWalk
import Derived.Orders
import Derived.Deep.Quiet
import Derived.Maps.OwnSet
import Derived.Maps.OwnOps
import Derived.DeepKeys4
import Derived.Lib.QuietBelow
/- Configurations: labels, maps of keys. -/
namespace Go.Proofs.YtnfadmifdncjoaaGreat.Cf
set_option linter.unusedSimpArgs false
set_option linter.unusedVariables false
open Go.RowKit

/-- block g holds a variable of two cells, which may be written -/
structure Pair (w : World) (g : Nat) (a b : Value) : Prop where
  lt : g < w.heap.size
  c0 : w.cell? ⟨g, 0, none⟩ = some a
  c1 : w.cell? ⟨g, 1, none⟩ = some b
  f0 : w.frozen? ⟨g, 0, none⟩ = false
  f1 : w.frozen? ⟨g, 1, none⟩ = false

theorem Pair.new (w : World) (a b : Value) (t : TypeId) : Pair (w.alloc (.cells #[a, b] t)) w.heap.size a b :=
  ⟨by simp, by simp [World.cell?_alloc_new], by simp [World.cell?_alloc_new], by simp, by simp⟩
theorem Pair.below {w w' : World} {B g : Nat} {a b : Value} (h : Pair w g a b) (hb : Below B w w') (hg : g < B) : Pair w' g a b :=
  ⟨Nat.lt_of_lt_of_le h.lt hb.size, (hb.cell (p := ⟨g, 0, none⟩) hg).trans h.c0, (hb.cell (p := ⟨g, 1, none⟩) hg).trans h.c1, (hb.frozen (p := ⟨g, 0, none⟩) hg).trans h.f0, (hb.frozen (p := ⟨g, 1, none⟩) hg).trans h.f1⟩
theorem Pair.alloc {w : World} {g : Nat} {a b : Value} (h : Pair w g a b) (o : Obj) : Pair (w.alloc o) g a b :=
  h.below ((Below.refl w.heap.size w).alloc (Nat.le_refl _) o) h.lt
theorem Pair.drew {w : World} {g : Nat} {a b : Value} (h : Pair w g a b) : Pair w.drew g a b := ⟨h.lt, h.c0, h.c1, h.f0, h.f1⟩
theorem Pair.drewN {w : World} {g : Nat} {a b : Value} (h : Pair w g a b) (n : Nat) : Pair (w.drewN n) g a b := ⟨h.lt, h.c0, h.c1, h.f0, h.f1⟩
theorem Pair.set0 {w : World} {g : Nat} {a b : Value} (h : Pair w g a b) (x : Value) : Pair (w.setCell ⟨g, 0, none⟩ x) g x b :=
  ⟨by simpa [World.setCell] using h.lt, World.cell?_setCell_same _ _ _ h.c0, by rw [World.cell?_setCell_other _ _ _ _ (by simp)]; exact h.c1, by simpa using h.f0, by simpa using h.f1⟩
theorem Pair.set1 {w : World} {g : Nat} {a b : Value} (h : Pair w g a b) (x : Value) : Pair (w.setCell ⟨g, 1, none⟩ x) g a x :=
  ⟨by simpa [World.setCell] using h.lt, by rw [World.cell?_setCell_other _ _ _ _ (by simp)]; exact h.c0, World.cell?_setCell_same _ _ _ h.c1, by simpa using h.f0, by simpa using h.f1⟩
theorem Pair.set_far {w : World} {g : Nat} {a b : Value} (h : Pair w g a b) {p : Addr} (hp : p.block ≠ g) (x : Value) : Pair (w.setCell p x) g a b :=
  ⟨by simpa [World.setCell] using h.lt, by rw [World.cell?_setCell_far w p _ x (by exact hp)]; exact h.c0, by rw [World.cell?_setCell_far w p _ x (by exact hp)]; exact h.c1, by simpa using h.f0, by simpa using h.f1⟩

theorem below_drewN' {B : Nat} {a w : World} (h : Below B a w) (n : Nat) : Below B a (w.drewN n) := ⟨h.os, h.tape, h.output, h.size, h.block⟩
theorem ret_bool {a b : Bool} (h : a = b) : Ending.returned (.bool a) = .returned (.bool b) := by rw [h]
theorem ret_int {k : IntKind} {a b : Int} (h : a = b) : Ending.returned (.int k a) = .returned (.int k b) := by rw [h]

theorem bcell {W w1 : World} (hb : Below W.heap.size W w1) : (∀ b o, b < W.heap.size → w1.cell? ⟨b, o, none⟩ = W.cell? ⟨b, o, none⟩) ∧ (∀ b o, b < W.heap.size → w1.frozen? ⟨b, o, none⟩ = W.frozen? ⟨b, o, none⟩) :=
  ⟨fun b o h => hb.cell (p := ⟨b, o, none⟩) h, fun b o h => hb.frozen (p := ⟨b, o, none⟩) h⟩
end Go.Proofs.YtnfadmifdncjoaaGreat.Cf

namespace Go.Proofs.YtnfadmifdncjoaaGreat.Cf
set_option linter.unusedSimpArgs false
set_option linter.unusedVariables false
open Go.RowKit

def letterB (b : UInt8) : Bool := decide (97 ≤ b.toNat) && decide (b.toNat ≤ 122)
def nameB (s : ByteArray) : Bool := decide (1 ≤ s.size) && decide (s.size ≤ 8) && s.data.toList.all letterB

theorem letters_upto (s : ByteArray) (h : ∀ j (hj : j < s.size), letterB s[j] = true) : s.data.toList.all letterB = true := by
  rw [List.all_eq_true]
  intro x hx
  obtain ⟨j, hj, rfl⟩ := List.mem_iff_getElem.1 hx
  exact h j (by simpa using hj)
theorem letters_bad (s : ByteArray) (j : Nat) (hj : j < s.size) (h : letterB s[j] = false) : s.data.toList.all letterB = false := by
  rw [List.all_eq_false]
  exact ⟨s[j], by exact Array.mem_toList_iff.2 (Array.getElem_mem _), by simp [h]⟩

theorem get_bang (s : ByteArray) (pos : Nat) (h : pos < s.size) : s.get! pos = s[pos] := by
  have h' : pos < s.data.size := h
  show s.data[pos]! = s.data[pos]
  rw [getElem!_pos s.data pos h']

/-- a byte that is no letter opens no rune that is one -/
theorem decode_letter (s : ByteArray) (pos : Nat) (h : pos < s.size) : (letterB s[pos] = true → Utf8.decode s pos = (s[pos].toNat, 1)) ∧ (letterB s[pos] = false → (Utf8.decode s pos).1 < 97 ∨ 122 < (Utf8.decode s pos).1) := by
  refine ⟨fun hl => ?_, fun hl => ?_⟩
  · have : s[pos].toNat < 128 := by simp [letterB] at hl; omega
    exact decode_ascii s pos h this
  · by_cases ha : s[pos].toNat < 128
    · rw [decode_ascii s pos h ha]
      simp [letterB] at hl
      omega
    · rw [Lib.decode_at, get_bang s pos h]
      refine .inr ?_
      generalize s.size - pos = n
      generalize (s.get! (pos + 1)).toNat = b1
      generalize (s.get! (pos + 2)).toNat = b2
      generalize (s.get! (pos + 3)).toNat = b3
      generalize s[pos].toNat = b0 at ha
      unfold Lib.decodeN
      rw [if_neg ha]
      repeat' split
      all_goals (try simp only) <;> omega

theorem isname_any (s : ByteArray) (w : World) : Calls Tryz.prog 112 #[.string s] w fun e w' => e = .returned (.bool (nameB s)) ∧ Below w.heap.size w w' := by
  by_cases h1 : s.size < 1
  · have hd : Hid (nameB s = false) := by show nameB s = false; simp [nameB]; omega
    go_enter Tryz.func112, Tryz.ntmps112
    go_wp2
    go_ret
    exact ⟨ret_bool hd.out.symm, Below.refl _ _⟩
  · by_cases h8 : 8 < s.size
    · have hd : Hid (nameB s = false) := by show nameB s = false; simp [nameB]; omega
      go_enter Tryz.func112, Tryz.ntmps112
      go_wp2
      go_ret
      exact ⟨ret_bool hd.out.symm, Below.refl _ _⟩
    · go_enter Tryz.func112, Tryz.ntmps112
      go_wp2
      go_loopw [4] (fun _ wr => ∃ pos, pos ≤ s.size ∧ wr.heap[w.heap.size]? = some (.stringIter s pos) ∧ Below w.heap.size w wr ∧ ∀ j (hj : j < s.size), j < pos → letterB s[j] = true) (fun _ wr => s.size - (match wr.heap[w.heap.size]? with | some (.stringIter _ p) => p | _ => 0))
      case atStart =>
        exact ⟨0, Nat.zero_le _, World.iter_heap w s 0, (Below.refl _ _).alloc (Nat.le_refl _) _, fun j _ h => by omega⟩
      case round =>
        obtain ⟨pos, hps, hit, hb, hall⟩ := hrel
        have HA := Lib.hid hall
        clear hall
        by_cases hlt : pos < s.size
        · have hnx : ∀ ty, (Instr.next (.pointer (some ⟨w.heap.size, 0, none⟩)) true ty).run Tryz.prog wr = _ := fun ty => Lib.run_next_any_at wr w.heap.size s pos ty hit hlt
          have hD := decode_letter s pos hlt
          cases hl : letterB s[pos]
          · have hr := hD.2 hl
            have HF : Hid (nameB s = false) := by
              show nameB s = false
              rw [nameB, letters_bad s pos hlt hl, Bool.and_false]
            obtain ⟨R, hR⟩ : ∃ R, (Utf8.decode s pos).1 = R := ⟨_, rfl⟩
            obtain ⟨K, hK⟩ : ∃ K, (Utf8.decode s pos).2 = K := ⟨_, rfl⟩
            rw [hR] at hr
            rw [hR, hK] at hnx
            have hbw2 := Lib.below_iterAt hb (k := w.heap.size) (Nat.le_refl _) s (pos + K)
            obtain ⟨W, hWd⟩ : ∃ W, wr.iterAt w.heap.size s (pos + K) = W := ⟨_, rfl⟩
            rw [hWd] at hnx hbw2
            clear hit hb hD hl
            by_cases hlow : R < 97
            · go_wp2
              go_ret
              exact ⟨ret_bool HF.out.symm, hbw2⟩
            · have hhi : 122 < R := by omega
              go_wp2
              go_ret
              exact ⟨ret_bool HF.out.symm, hbw2⟩
          · have hr := hD.1 hl
            have hl' : 97 ≤ s[pos].toNat ∧ s[pos].toNat ≤ 122 := by simpa [letterB] using hl
            rw [hr] at hnx
            have HL := Lib.hid hl
            obtain ⟨R, hR⟩ : ∃ R, s[pos].toNat = R := ⟨_, rfl⟩
            rw [hR] at hnx hl'
            have hbw2 := Lib.below_iterAt hb (k := w.heap.size) (Nat.le_refl _) s (pos + 1)
            have hit2 := Lib.hid (Lib.iterAt_heap wr w.heap.size s pos (pos + 1) hit)
            have HI := Lib.hid hit
            obtain ⟨W, hWd⟩ : ∃ W, wr.iterAt w.heap.size s (pos + 1) = W := ⟨_, rfl⟩
            rw [hWd] at hnx hbw2 hit2
            clear hit hb hD hl hr hR hWd
            go_wp2
            go_roundw
            case rel =>
              refine ⟨pos + 1, by omega, hit2.out, hbw2, fun j hj hjp => ?_⟩
              by_cases e : j = pos
              · subst e; exact HL.out
              · exact HA.out j hj (by omega)
            case measure => rw [hit2.out, HI.out]; simp only; omega
        · have hnx : ∀ ty, (Instr.next (.pointer (some ⟨w.heap.size, 0, none⟩)) true ty).run Tryz.prog wr = _ := fun ty => Lib.run_next_end_at wr w.heap.size s pos ty hit hlt
          have HT : Hid (nameB s = true) := by
            show nameB s = true
            rw [nameB, letters_upto s (fun j hj => HA.out j hj (by omega))]
            simp; omega
          clear hit
          go_wp2
          go_ret
          exact ⟨ret_bool HT.out.symm, hb⟩
end Go.Proofs.YtnfadmifdncjoaaGreat.Cf

namespace Go.Proofs.YtnfadmifdncjoaaGreat.Cf
set_option linter.unusedSimpArgs false
set_option linter.unusedVariables false

/-- is a label at or below another one, as the code reckons it -/
def leqB (la ca lb cb : Int) : Bool := decide (la ≤ lb) && (bits .andNot .u16 ca cb == 0)
/-- has a label a category, as the document's answer reckons it -/
def hasB (c i : Int) : Bool := decide (0 ≤ i) && decide (i < 16) && ((c / 2 ^ i.toNat).tmod 2 == 1)
/-- the document's order, category by category -/
def refLeqB (la ca lb cb : Int) : Bool := decide (la ≤ lb) && (List.range 16).all fun i => !hasB ca (i : Int) || hasB cb (i : Int)

theorem hasB_nat (c i : Nat) (hi : i < 16) : hasB (c : Int) (i : Int) = c.testBit i := by
  unfold hasB
  have h1 : ((c : Int) / 2 ^ (i : Int).toNat) = ((c / 2 ^ i : Nat) : Int) := by
    rw [Int.toNat_natCast, Int.natCast_ediv, Int.natCast_pow]; rfl
  rw [h1, Nat.testBit_eq_decide_div_mod_eq, Int.tmod_eq_emod_of_nonneg (Int.natCast_nonneg _)]
  have h2 : decide ((0 : Int) ≤ (i : Int)) = true := by simp
  have h3 : decide ((i : Int) < 16) = true := by simp; omega
  rw [h2, h3, Bool.true_and, Bool.true_and, Bool.eq_iff_iff]
  simp only [beq_iff_eq, decide_eq_true_eq]
  omega
theorem hasB_out (c i : Int) (h : i < 0 ∨ 16 ≤ i) : hasB c i = false := by
  unfold hasB
  rcases h with h | h
  · have : decide (0 ≤ i) = false := by simp; omega
    simp [this]
  · have : decide (i < 16) = false := by simp; omega
    simp [this]

theorem testBit_out (c i : Nat) (hc : c < 65536) (hi : 16 ≤ i) : c.testBit i = false :=
  Nat.testBit_lt_two_pow (Nat.lt_of_lt_of_le hc (Nat.pow_le_pow_right (n := 2) (by omega) hi))

theorem ext16 (a b : Nat) (ha : a < 65536) (hb : b < 65536) (h : ∀ i, i < 16 → a.testBit i = b.testBit i) : a = b := by
  apply Nat.eq_of_testBit_eq
  intro i
  by_cases hi : i < 16
  · exact h i hi
  · rw [testBit_out a i ha (by omega), testBit_out b i hb (by omega)]

theorem andNot_zero (a b : Nat) (ha : a < 65536) (hb : b < 65536) : (bits .andNot .u16 (a : Int) (b : Int) == 0) = (List.range 16).all fun i => !a.testBit i || b.testBit i := by
  rw [u16_andNot_nat a b ha hb]
  have e : 65535 - b = 2 ^ 16 - (b + 1) := by omega
  have hx : a &&& (65535 - b) < 65536 := Nat.and_lt_two_pow (n := 16) _ (by omega)
  rw [Bool.eq_iff_iff]
  constructor
  · intro h
    have h0 : a &&& (65535 - b) = 0 := by simpa using h
    rw [List.all_eq_true]
    intro i hi
    have hi' : i < 16 := by simpa using hi
    have ht : (a &&& (65535 - b)).testBit i = false := by rw [h0]; simp
    rw [Nat.testBit_and, e, Nat.testBit_two_pow_sub_succ (by omega)] at ht
    simp [hi'] at ht
    cases h1 : a.testBit i <;> simp [h1] at ht ⊢
    exact ht
  · intro h
    rw [List.all_eq_true] at h
    have h0 : a &&& (65535 - b) = 0 := by
      apply ext16 _ _ hx (by omega)
      intro i hi
      have hh := h i (by simpa using hi)
      rw [Nat.testBit_and, e, Nat.testBit_two_pow_sub_succ (by omega)]
      cases h1 : a.testBit i <;> simp [h1] at hh ⊢
      exact fun _ => hh
    simp [h0]

theorem leqB_ref (la ca lb cb : Int) (h0 : 0 ≤ ca) (h1 : ca < 65536) (h2 : 0 ≤ cb) (h3 : cb < 65536) : leqB la ca lb cb = refLeqB la ca lb cb := by
  obtain ⟨a, rfl⟩ := Int.eq_ofNat_of_zero_le h0
  obtain ⟨b, rfl⟩ := Int.eq_ofNat_of_zero_le h2
  unfold leqB refLeqB
  rw [andNot_zero a b (by omega) (by omega)]
  congr 1
  rw [Bool.eq_iff_iff, List.all_eq_true, List.all_eq_true]
  constructor
  · intro h i hi
    rw [hasB_nat a i (by simpa using hi), hasB_nat b i (by simpa using hi)]; exact h i hi
  · intro h i hi
    have := h i hi
    rwa [hasB_nat a i (by simpa using hi), hasB_nat b i (by simpa using hi)] at this

/-- a bit that isn't set is added -/
theorem add_bit (D k : Nat) (hD : D < 65536) (hk : k < 16) (h : D.testBit k = false) : (D + 2 ^ k) % 65536 = D ||| 2 ^ k := by
  have hp : 2 ^ k < 65536 := Nat.pow_lt_pow_right (a := 2) (by omega) hk
  have hz : BitVec.ofNat 16 D &&& BitVec.ofNat 16 (2 ^ k) = 0#16 := by
    apply BitVec.eq_of_toNat_eq
    rw [BitVec.toNat_and, BitVec.toNat_ofNat, BitVec.toNat_ofNat, Nat.mod_eq_of_lt hD, Nat.mod_eq_of_lt hp]
    apply Nat.eq_of_testBit_eq
    intro i
    rw [Nat.testBit_and, Nat.testBit_two_pow]
    by_cases e : k = i
    · subst e; simp [h]
    · simp [e]
  have hh := congrArg BitVec.toNat (BitVec.add_eq_or_of_and_eq_zero _ _ hz)
  rw [BitVec.toNat_add, BitVec.toNat_or, BitVec.toNat_ofNat, BitVec.toNat_ofNat, Nat.mod_eq_of_lt hD, Nat.mod_eq_of_lt hp] at hh
  exact hh
theorem or_lt (a b : Nat) (ha : a < 65536) (hb : b < 65536) : a ||| b < 65536 := Nat.or_lt_two_pow (n := 16) ha hb
theorem add_bit' (D k : Nat) (hD : D < 65536) (hk : k < 16) (h : D.testBit k = false) : D + 2 ^ k = D ||| 2 ^ k := by
  have h1 := add_bit D k hD hk h
  have hp : 2 ^ k < 65536 := Nat.pow_lt_pow_right (a := 2) (by omega) hk
  have h2 : D + 2 ^ k < 65536 ∨ 65536 ≤ D + 2 ^ k := by omega
  rcases h2 with h2 | h2
  · rwa [Nat.mod_eq_of_lt h2] at h1
  · exfalso
    have h3 : (D + 2 ^ k) % 65536 = D + 2 ^ k - 65536 := by rw [Nat.mod_eq_sub_mod h2, Nat.mod_eq_of_lt (by omega)]
    have h4 : D ≤ D ||| 2 ^ k := Nat.left_le_or
    omega
/-- a bit that is set is taken away -/
theorem sub_bit (D k : Nat) (hD : D < 65536) (hk : k < 16) (h : D.testBit k = true) : 2 ^ k ≤ D ∧ ∀ i, (D - 2 ^ k).testBit i = (D.testBit i && !decide (k = i)) := by
  -- D without the bit
  have hE : ∃ E, E < 65536 ∧ E.testBit k = false ∧ D = E ||| 2 ^ k ∧ ∀ i, E.testBit i = (D.testBit i && !decide (k = i)) := by
    refine ⟨D &&& (65535 - 2 ^ k), ?_, ?_, ?_, ?_⟩
    · exact Nat.lt_of_le_of_lt Nat.and_le_left hD
    all_goals
      have hp : 2 ^ k < 65536 := Nat.pow_lt_pow_right (a := 2) (by omega) hk
      have e : 65535 - 2 ^ k = 2 ^ 16 - (2 ^ k + 1) := by omega
    · rw [Nat.testBit_and, e, Nat.testBit_two_pow_sub_succ hp, Nat.testBit_two_pow]; simp
    · apply ext16 _ _ hD (or_lt _ _ (Nat.lt_of_le_of_lt Nat.and_le_left hD) hp)
      intro i hi
      rw [Nat.testBit_or, Nat.testBit_and, e, Nat.testBit_two_pow_sub_succ hp, Nat.testBit_two_pow]
      by_cases c : k = i
      · subst c; simp [h]
      · simp [c, hi]
    · intro i
      rw [Nat.testBit_and, e, Nat.testBit_two_pow_sub_succ hp, Nat.testBit_two_pow]
      by_cases hi : i < 16
      · simp [hi]
      · simp [testBit_out D i hD (by omega)]
  obtain ⟨E, hE, hb, hd, hi⟩ := hE
  have hs := add_bit' E k hE hk hb
  rw [← hd] at hs
  refine ⟨by omega, fun i => ?_⟩
  rw [show D - 2 ^ k = E by omega]
  exact hi i

/-- the document's answer for the least above: bits are added one by one -/
def orTo (x C : Nat) : Nat → Nat
  | 0 => C
  | k + 1 => if x.testBit k && !(orTo x C k).testBit k then orTo x C k + 2 ^ k else orTo x C k
theorem orTo_bits (x C : Nat) (hC : C < 65536) : ∀ k, k ≤ 16 → orTo x C k < 65536 ∧ ∀ i, (orTo x C k).testBit i = (C.testBit i || (decide (i < k) && x.testBit i))
  | 0, _ => ⟨hC, fun i => by simp [orTo]⟩
  | k + 1, hk => by
    obtain ⟨h1, h2⟩ := orTo_bits x C hC k (by omega)
    have hp : 2 ^ k < 2 ^ 16 := Nat.pow_lt_pow_right (a := 2) (by omega) (show k < 16 by omega)
    simp only [orTo]
    by_cases hx : (x.testBit k && !(orTo x C k).testBit k) = true
    · rw [if_pos hx]
      simp only [Bool.and_eq_true, Bool.not_eq_true'] at hx
      rw [add_bit' _ k h1 (by omega) hx.2]
      refine ⟨or_lt _ _ h1 hp, fun i => ?_⟩
      rw [Nat.testBit_or, h2 i, Nat.testBit_two_pow]
      by_cases e : k = i
      · subst e; simp [hx.1]
      · have : decide (i < k + 1) = decide (i < k) := by simp; omega
        simp [e, this]
    · rw [if_neg hx]
      refine ⟨h1, fun i => ?_⟩
      rw [h2 i]
      by_cases e : k = i
      · subst e
        have h3 := h2 k
        simp only [Nat.lt_irrefl, decide_false, Bool.false_and, Bool.or_false] at h3
        rw [h3] at hx
        cases hc : C.testBit k <;> cases hxk : x.testBit k <;> simp [hc, hxk] at hx ⊢
      · have : decide (i < k + 1) = decide (i < k) := by simp; omega
        simp [this]
theorem orTo_or (x C : Nat) (hx : x < 65536) (hC : C < 65536) : orTo x C 16 = C ||| x := by
  obtain ⟨h1, h2⟩ := orTo_bits x C hC 16 (by omega)
  apply ext16 _ _ h1 (or_lt _ _ hC hx)
  intro i hi
  rw [h2 i, Nat.testBit_or]; simp [hi]

/-- .. and for the greatest below: taken away one by one -/
def andTo (x C : Nat) : Nat → Nat
  | 0 => C
  | k + 1 => if !x.testBit k && (andTo x C k).testBit k then andTo x C k - 2 ^ k else andTo x C k
theorem andTo_bits (x C : Nat) (hC : C < 65536) : ∀ k, k ≤ 16 → andTo x C k < 65536 ∧ ∀ i, (andTo x C k).testBit i = (C.testBit i && (!decide (i < k) || x.testBit i))
  | 0, _ => ⟨hC, fun i => by simp [andTo]⟩
  | k + 1, hk => by
    obtain ⟨h1, h2⟩ := andTo_bits x C hC k (by omega)
    simp only [andTo]
    by_cases hx : (!x.testBit k && (andTo x C k).testBit k) = true
    · rw [if_pos hx]
      simp only [Bool.and_eq_true, Bool.not_eq_true'] at hx
      obtain ⟨h3, h4⟩ := sub_bit _ k h1 (by omega) hx.2
      refine ⟨Nat.lt_of_le_of_lt (Nat.sub_le _ _) h1, fun i => ?_⟩
      rw [h4 i, h2 i]
      by_cases e : k = i
      · subst e; simp [hx.1]
      · have : decide (i < k + 1) = decide (i < k) := by simp; omega
        simp [e, this]
    · rw [if_neg hx]
      refine ⟨h1, fun i => ?_⟩
      rw [h2 i]
      by_cases e : k = i
      · subst e
        have h3 := h2 k
        simp only [Nat.lt_irrefl, decide_false, Bool.not_false, Bool.true_or, Bool.and_true] at h3
        rw [h3] at hx
        cases hc : C.testBit k <;> cases hxk : x.testBit k <;> simp [hc, hxk] at hx ⊢
      · have : decide (i < k + 1) = decide (i < k) := by simp; omega
        simp [this]
theorem andTo_and (x C : Nat) (hC : C < 65536) : andTo x C 16 = C &&& x := by
  obtain ⟨h1, h2⟩ := andTo_bits x C hC 16 (by omega)
  apply ext16 _ _ h1 (Nat.lt_of_le_of_lt Nat.and_le_left hC)
  intro i hi
  rw [h2 i, Nat.testBit_and]; simp [hi]
end Go.Proofs.YtnfadmifdncjoaaGreat.Cf

namespace Go.Proofs.YtnfadmifdncjoaaGreat.Cf
set_option linter.unusedSimpArgs false
set_option linter.unusedVariables false
open Go.RowKit

set_option maxHeartbeats 400000 in
theorem leq_any (la ca lb cb : Int) (w : World) :
    Calls Tryz.prog 114 #[.agg #[.int .u8 la, .int .u16 ca], .agg #[.int .u8 lb, .int .u16 cb]] w fun e w' => e = .returned (.bool (leqB la ca lb cb)) ∧ Below w.heap.size w w' := by
  by_cases h : la ≤ lb
  · go_enter Tryz.func114, Tryz.ntmps114
    go_wp2
    go_ret
    exact ⟨ret_bool (by simp [leqB, h]), by repeat (first | exact Below.refl _ _ | apply Below.drew | refine Below.alloc ?_ (by simp) _)⟩
  · have h' : lb < la := by omega
    have hd : decide (la ≤ lb) = false := by simp; omega
    go_enter Tryz.func114, Tryz.ntmps114
    go_wp2
    go_ret
    exact ⟨ret_bool (by simp [leqB]; omega), by repeat (first | exact Below.refl _ _ | apply Below.drew | refine Below.alloc ?_ (by simp) _)⟩

end Go.Proofs.YtnfadmifdncjoaaGreat.Cf

namespace Go.Proofs.YtnfadmifdncjoaaGreat.Cf
set_option linter.unusedSimpArgs false
set_option linter.unusedVariables false
open Go.RowKit

structure Rg where
  nm : ByteArray
  lv : Int
  cs : Int
  bl : Int
  nd : Int
  fr : Int
  pr : Int
  op : Int
  cl : Int
def Rg.cells (r : Rg) : List Value := [.string r.nm, .int .u8 r.lv, .int .u16 r.cs, .int .i64 r.bl, .int .i64 r.nd, .int .i64 r.fr, .int .i64 r.pr, .int .i64 r.op, .int .i64 r.cl]

def haveB (r : Rg) : Bool := decide (r.lv < 16) && decide (4 ≤ r.bl) && decide (r.bl ≤ 512) && decide (4 ≤ r.nd) && decide (r.nd ≤ 128) && decide (r.nd % 2 = 0) && decide (1 ≤ r.fr) && decide (r.fr ≤ 256) && decide (1 ≤ r.pr) && decide (r.pr ≤ 16) && decide (1 ≤ r.op) && decide (r.op ≤ 32)

set_option maxHeartbeats 400000 in
theorem valid_any (la ca : Int) (w : World) : Calls Tryz.prog 132 #[.agg #[.int .u8 la, .int .u16 ca]] w fun e w' => e = .returned (.bool (decide (la < 16))) ∧ Below w.heap.size w w' := by
  go_enter Tryz.func132, Tryz.ntmps132
  go_wp2
  go_ret
  exact ⟨ret_bool (by simp; omega), by repeat (first | exact Below.refl _ _ | apply Below.drew | refine Below.alloc ?_ (by simp) _)⟩

set_option maxHeartbeats 2000000 in
set_option maxRecDepth 100000 in
theorem inrange_any (nm : ByteArray) (lv cs bl nd fr pr op cl : Int) (w : World) : Calls Tryz.prog 113 #[.agg #[.string nm, .int .u8 lv, .int .u16 cs, .int .i64 bl, .int .i64 nd, .int .i64 fr, .int .i64 pr, .int .i64 op, .int .i64 cl]] w fun e w' => e = .returned (.bool (haveB ⟨nm, lv, cs, bl, nd, fr, pr, op, cl⟩)) ∧ Below w.heap.size w w' := by
  go_enter Tryz.func113, Tryz.ntmps113
  go_wp2_with fail
  refine (valid_any lv cs _).mono ?_
  rintro e w1 ⟨rfl, hb1⟩
  have hs := hb1.size
  simp at hs
  have hb : Below w.heap.size w w1 := ((Below.refl _ w).alloc (Nat.le_refl _) _).trans (hb1.mono (by simp))
  have c3 : w1.cell? ⟨w.heap.size, 3, none⟩ = some (.int .i64 bl) := (hb1.cell (p := ⟨w.heap.size, 3, none⟩) (by simp)).trans (by simp [World.cell?_alloc_new])
  have c4 : w1.cell? ⟨w.heap.size, 4, none⟩ = some (.int .i64 nd) := (hb1.cell (p := ⟨w.heap.size, 4, none⟩) (by simp)).trans (by simp [World.cell?_alloc_new])
  have c5 : w1.cell? ⟨w.heap.size, 5, none⟩ = some (.int .i64 fr) := (hb1.cell (p := ⟨w.heap.size, 5, none⟩) (by simp)).trans (by simp [World.cell?_alloc_new])
  have c6 : w1.cell? ⟨w.heap.size, 6, none⟩ = some (.int .i64 pr) := (hb1.cell (p := ⟨w.heap.size, 6, none⟩) (by simp)).trans (by simp [World.cell?_alloc_new])
  have c7 : w1.cell? ⟨w.heap.size, 7, none⟩ = some (.int .i64 op) := (hb1.cell (p := ⟨w.heap.size, 7, none⟩) (by simp)).trans (by simp [World.cell?_alloc_new])
  have HB := Lib.hid hb
  clear hb hb1
  by_cases h0 : lv < 16
  all_goals
    go_wp2
    all_goals
      go_ret
      exact ⟨ret_bool (by simp [haveB]; omega), HB.out⟩
end Go.Proofs.YtnfadmifdncjoaaGreat.Cf

namespace Go.Proofs.YtnfadmifdncjoaaGreat.Cf
set_option linter.unusedSimpArgs false
set_option linter.unusedVariables false
open Go.RowKit

structure Row9 (w : World) (b off : Nat) (rs : List Rg) : Prop where
  k0 : ∀ i (h : i < rs.length), w.cell? ⟨b, off + i * 9, none⟩ = some (.string rs[i].nm)
  k1 : ∀ i (h : i < rs.length), w.cell? ⟨b, off + i * 9 + 1, none⟩ = some (.int .u8 rs[i].lv)
  k2 : ∀ i (h : i < rs.length), w.cell? ⟨b, off + i * 9 + 2, none⟩ = some (.int .u16 rs[i].cs)
  k3 : ∀ i (h : i < rs.length), w.cell? ⟨b, off + i * 9 + 3, none⟩ = some (.int .i64 rs[i].bl)
  k4 : ∀ i (h : i < rs.length), w.cell? ⟨b, off + i * 9 + 4, none⟩ = some (.int .i64 rs[i].nd)
  k5 : ∀ i (h : i < rs.length), w.cell? ⟨b, off + i * 9 + 5, none⟩ = some (.int .i64 rs[i].fr)
  k6 : ∀ i (h : i < rs.length), w.cell? ⟨b, off + i * 9 + 6, none⟩ = some (.int .i64 rs[i].pr)
  k7 : ∀ i (h : i < rs.length), w.cell? ⟨b, off + i * 9 + 7, none⟩ = some (.int .i64 rs[i].op)
  k8 : ∀ i (h : i < rs.length), w.cell? ⟨b, off + i * 9 + 8, none⟩ = some (.int .i64 rs[i].cl)
theorem Row9.below {w w' : World} {B b off : Nat} {rs : List Rg} (h : Row9 w b off rs) (hb : Below B w w') (hB : b < B) : Row9 w' b off rs :=
  ⟨fun i hi => (hb.cell (p := ⟨b, off + i * 9, none⟩) hB).trans (h.k0 i hi), fun i hi => (hb.cell (p := ⟨b, off + i * 9 + 1, none⟩) hB).trans (h.k1 i hi), fun i hi => (hb.cell (p := ⟨b, off + i * 9 + 2, none⟩) hB).trans (h.k2 i hi), fun i hi => (hb.cell (p := ⟨b, off + i * 9 + 3, none⟩) hB).trans (h.k3 i hi), fun i hi => (hb.cell (p := ⟨b, off + i * 9 + 4, none⟩) hB).trans (h.k4 i hi), fun i hi => (hb.cell (p := ⟨b, off + i * 9 + 5, none⟩) hB).trans (h.k5 i hi), fun i hi => (hb.cell (p := ⟨b, off + i * 9 + 6, none⟩) hB).trans (h.k6 i hi), fun i hi => (hb.cell (p := ⟨b, off + i * 9 + 7, none⟩) hB).trans (h.k7 i hi), fun i hi => (hb.cell (p := ⟨b, off + i * 9 + 8, none⟩) hB).trans (h.k8 i hi)⟩
/-- a slice of registered labels -/
def Regs (w : World) (v : Value) (rs : List Rg) : Prop :=
  (∃ a cap, v = .slice a 0 cap ∧ rs = []) ∨ ∃ b off cap, v = .slice (some ⟨b, off, none⟩) rs.length cap ∧ b < w.heap.size ∧ rs.length ≤ maxLen ∧ Row9 w b off rs
theorem Regs.below {w w' : World} {v : Value} {rs : List Rg} (h : Regs w v rs) (hb : Below w.heap.size w w') : Regs w' v rs := by
  rcases h with h | ⟨b, off, cap, hv, hl, hm, hr⟩
  · exact .inl h
  · exact .inr ⟨b, off, cap, hv, Nat.lt_of_lt_of_le hl hb.size, hm, hr.below hb hl⟩
theorem Regs.form {w : World} {v : Value} {rs : List Rg} (h : Regs w v rs) : ∃ a cap, v = .slice a rs.length cap := by
  rcases h with ⟨a, cap, rfl, rfl⟩ | ⟨b, off, cap, rfl, _⟩
  · exact ⟨a, cap, rfl⟩
  · exact ⟨_, cap, rfl⟩
theorem Regs.max {w : World} {v : Value} {rs : List Rg} (h : Regs w v rs) : rs.length ≤ maxLen := by
  rcases h with ⟨a, cap, rfl, rfl⟩ | ⟨b, off, cap, rfl, _, hm, _⟩
  · exact Nat.zero_le _
  · exact hm
theorem Regs.row {w : World} {v : Value} {rs : List Rg} (h : Regs w v rs) (h0 : 0 < rs.length) : ∃ b off cap, v = .slice (some ⟨b, off, none⟩) rs.length cap ∧ b < w.heap.size ∧ rs.length ≤ maxLen ∧ Row9 w b off rs := by
  rcases h with ⟨a, cap, rfl, rfl⟩ | h
  · exact absurd h0 (Nat.lt_irrefl _)
  · exact h

def zeroRg : Rg := ⟨⟨#[]⟩, 0, 0, 0, 0, 0, 0, 0, 0⟩
def Rg.val (r : Rg) : Value := .agg #[.string r.nm, .int .u8 r.lv, .int .u16 r.cs, .int .i64 r.bl, .int .i64 r.nd, .int .i64 r.fr, .int .i64 r.pr, .int .i64 r.op, .int .i64 r.cl]

theorem cell_al {w : World} {p : Addr} {v : Value} (h : w.cell? p = some v) (o : Obj) : (w.alloc o).cell? p = some v := by
  rw [World.cell?_alloc_some _ _ _ (by rw [h]; rfl)]; exact h

theorem len_any (bc : Nat) (a : Option Addr) (n cap : Nat) (w : World) (hc : w.cell? ⟨bc, 0, none⟩ = some (.slice a n cap)) (hl : n ≤ maxLen) :
    Calls Tryz.prog 10 #[.pointer (some ⟨bc, 0, none⟩)] w fun e w' => e = .returned (.int .i64 n) ∧ w' = w := by
  unfold maxLen at hl
  go_enter Tryz.func10, Tryz.ntmps10
  go_wp2
  go_ret
  exact ⟨rfl, rfl⟩

set_option maxHeartbeats 1000000 in
theorem reg_in (bc : Nat) (v : Value) (rs : List Rg) (i : Nat) (hi : i < rs.length) (w : World) (hbc : bc < w.heap.size) (hc : w.cell? ⟨bc, 0, none⟩ = some v) (h : Regs w v rs) :
    Calls Tryz.prog 11 #[.pointer (some ⟨bc, 0, none⟩), .int .i64 i] w fun e w' => e = .returned (.tuple #[rs[i].val, .bool true]) ∧ Below w.heap.size w w' := by
  obtain ⟨b, off, cap, rfl, hbl, hm, hr⟩ := h.row (by omega)
  unfold maxLen at hm
  have hlt : w.heap.size < w.heap.size + 1 := Nat.lt_succ_self _
  have e0 := hr.k0 i hi
  have e1 := hr.k1 i hi
  have e2 := hr.k2 i hi
  have e3 := hr.k3 i hi
  have e4 := hr.k4 i hi
  have e5 := hr.k5 i hi
  have e6 := hr.k6 i hi
  have e7 := hr.k7 i hi
  have e8 := hr.k8 i hi
  clear hr
  generalize rs[i] = r at *
  have hlen := fun W h => len_any bc (some ⟨b, off, none⟩) rs.length cap W h (by unfold maxLen; omega)
  have hi0 : (0 : Int) ≤ (i : Int) := by omega
  have hi1 : (i : Int) < (rs.length : Int) := by omega
  go_enter Tryz.func11, Tryz.ntmps11
  go_wp2_with fail
  refine (hlen _ (cell_al hc _)).mono ?_
  rintro e w1 ⟨rfl, rfl⟩
  go_wp2
  refine bodyPost_ret (v := .tuple #[r.val, .bool true]) (by simp [results, Tryz.results11, go_sem, Rg.val, World.cell?_alloc_new]) rfl ⟨rfl, (Below.refl _ _).alloc (Nat.le_refl _) _⟩

set_option maxHeartbeats 1000000 in
theorem reg_out (bc : Nat) (v : Value) (rs : List Rg) (i : Int) (hi : i < 0 ∨ (rs.length : Int) ≤ i) (w : World) (hbc : bc < w.heap.size) (hc : w.cell? ⟨bc, 0, none⟩ = some v) (h : Regs w v rs) :
    Calls Tryz.prog 11 #[.pointer (some ⟨bc, 0, none⟩), .int .i64 i] w fun e w' => e = .returned (.tuple #[zeroRg.val, .bool false]) ∧ Below w.heap.size w w' := by
  obtain ⟨a, cap, rfl⟩ := h.form
  have hm := h.max
  have hlen := fun W h => len_any bc a rs.length cap W h hm
  unfold maxLen at hm
  clear h
  rcases hi with hi | hi
  · go_enter Tryz.func11, Tryz.ntmps11
    go_wp2
    refine bodyPost_ret (v := .tuple #[zeroRg.val, .bool false]) (by simp [results, Tryz.results11, go_sem, Rg.val, zeroRg, World.cell?_alloc_new]) rfl ⟨rfl, (Below.refl _ _).alloc (Nat.le_refl _) _⟩
  · have hi0 : ¬ (i < 0) := by omega
    go_enter Tryz.func11, Tryz.ntmps11
    go_wp2_with fail
    refine (hlen _ (cell_al hc _)).mono ?_
    rintro e w1 ⟨rfl, rfl⟩
    go_wp2
    refine bodyPost_ret (v := .tuple #[zeroRg.val, .bool false]) (by simp [results, Tryz.results11, go_sem, Rg.val, zeroRg, World.cell?_alloc_new]) rfl ⟨rfl, (Below.refl _ _).alloc (Nat.le_refl _) _⟩
/-- what Reg answers -/
def regAt (rs : List Rg) (i : Int) : Rg × Bool := if 0 ≤ i then (match rs[i.toNat]? with | some r => (r, true) | none => (zeroRg, false)) else (zeroRg, false)
theorem regAt_in (rs : List Rg) (i : Nat) (hi : i < rs.length) : regAt rs (i : Int) = (rs[i], true) := by
  unfold regAt
  rw [if_pos (by omega), Int.toNat_natCast, List.getElem?_eq_getElem hi]
theorem regAt_out (rs : List Rg) (i : Int) (hi : i < 0 ∨ (rs.length : Int) ≤ i) : regAt rs i = (zeroRg, false) := by
  unfold regAt
  rcases hi with hi | hi
  · rw [if_neg (by omega)]
  · split
    · rw [List.getElem?_eq_none (by omega)]
    · rfl
theorem reg_any (bc : Nat) (v : Value) (rs : List Rg) (i : Int) (w : World) (hbc : bc < w.heap.size) (hc : w.cell? ⟨bc, 0, none⟩ = some v) (h : Regs w v rs) :
    Calls Tryz.prog 11 #[.pointer (some ⟨bc, 0, none⟩), .int .i64 i] w fun e w' => e = .returned (.tuple #[(regAt rs i).1.val, .bool (regAt rs i).2]) ∧ Below w.heap.size w w' := by
  by_cases hi : i < 0 ∨ (rs.length : Int) ≤ i
  · rw [regAt_out rs i hi]
    exact reg_out bc v rs i hi w hbc hc h
  · obtain ⟨n, rfl⟩ : ∃ n : Nat, i = (n : Int) := ⟨i.toNat, by omega⟩
    rw [regAt_in rs n (by omega)]
    exact reg_in bc v rs n (by omega) w hbc hc h
def leqAt (rs : List Rg) (a b : Int) : Bool := (regAt rs a).2 && (regAt rs b).2 && leqB (regAt rs a).1.lv (regAt rs a).1.cs (regAt rs b).1.lv (regAt rs b).1.cs

set_option maxHeartbeats 1000000 in
set_option maxRecDepth 100000 in
theorem cleq_any (bc : Nat) (v : Value) (rs : List Rg) (i j : Int) (w : World) (hbc : bc < w.heap.size) (hc : w.cell? ⟨bc, 0, none⟩ = some v) (h : Regs w v rs) :
    Calls Tryz.prog 78 #[.pointer (some ⟨bc, 0, none⟩), .int .i64 i, .int .i64 j] w fun e w' => e = .returned (.bool (leqAt rs i j)) ∧ Below w.heap.size w w' := by
  have q0 := fun W (hb : Below w.heap.size w W) n => reg_any bc v rs n W (Nat.lt_of_lt_of_le hbc hb.size) ((hb.cell (p := ⟨bc, 0, none⟩) hbc).trans hc) (h.below hb)
  unfold leqAt
  have qi := fun W (hb : Below w.heap.size w W) => q0 W hb i
  have qj := fun W (hb : Below w.heap.size w W) => q0 W hb j
  clear q0 h hc
  generalize regAt rs i = x at qi ⊢
  generalize regAt rs j = y at qj ⊢
  obtain ⟨⟨nm, lv, cs, bl, nd, fr, pr, op, cl⟩, bi⟩ := x
  obtain ⟨⟨nm', lv', cs', bl', nd', fr', pr', op', cl'⟩, bj⟩ := y
  simp only [Rg.val] at qi qj ⊢
  go_enter Tryz.func78, Tryz.ntmps78
  go_wp2_with fail
  refine (qi _ (Below.refl _ _)).mono ?_
  rintro e w1 ⟨rfl, hb1⟩
  have HB1 := Lib.hid hb1
  go_wp2_with fail
  refine (qj _ ?_).mono ?_
  · exact HB1.out.alloc HB1.out.size _
  rintro e w2 ⟨rfl, hb2⟩
  have hz1 := hb1.size
  have hz2 := hb2.size
  simp at hz2
  have hlt : w1.heap.size < w2.heap.size := by omega
  have c1 : w2.cell? ⟨w1.heap.size, 1, none⟩ = some (.int .u8 lv) := (hb2.cell (p := ⟨w1.heap.size, 1, none⟩) (by simp)).trans (by simp [World.cell?_alloc_new])
  have c2 : w2.cell? ⟨w1.heap.size, 2, none⟩ = some (.int .u16 cs) := (hb2.cell (p := ⟨w1.heap.size, 2, none⟩) (by simp)).trans (by simp [World.cell?_alloc_new])
  have hB2 : Below w.heap.size w w2 := (hb1.alloc hb1.size _).trans (hb2.mono (by simp; omega))
  have HB := Lib.hid hB2
  clear hB2 hb2 hb1 qi qj
  cases bi
  · go_wp2
    go_ret
    exact ⟨rfl, HB.out.alloc HB.out.size _⟩
  · cases bj
    · go_wp2
      go_ret
      exact ⟨rfl, HB.out.alloc HB.out.size _⟩
    · go_wp2_with fail
      refine (leq_any lv cs lv' cs' _).mono ?_
      rintro e w3 ⟨rfl, hb3⟩
      have HB3 := Lib.hid ((HB.out.alloc HB.out.size _).trans (hb3.mono (by have := HB.out.size; simp; omega)))
      clear hb3
      go_wp2
      go_ret
      exact ⟨by simp, HB3.out⟩
end Go.Proofs.YtnfadmifdncjoaaGreat.Cf

namespace Go.Proofs.YtnfadmifdncjoaaGreat.Cf
set_option linter.unusedSimpArgs false
set_option linter.unusedVariables false
open Go.RowKit

theorem fold_take {α β : Type} (f : β → α → β) (z : β) (ls : List α) (k : Nat) (h : k < ls.length) : (ls.take (k + 1)).foldl f z = f ((ls.take k).foldl f z) ls[k] := by
  rw [List.take_succ_eq_append_getElem h, List.foldl_append]; rfl

end Go.Proofs.YtnfadmifdncjoaaGreat.Cf

namespace Go.Proofs.YtnfadmifdncjoaaGreat.Cf
set_option linter.unusedSimpArgs false
set_option linter.unusedVariables false
open Go.RowKit

theorem ownsRow_below {w w' : World} {base : Nat} {e : TypeId} {size : Nat} {v : Value} {n : Nat} {xs : List Value} (h : w.ownsRow base e size v n xs) (hb : Below w.heap.size w w') : w'.ownsRow base e size v n xs := by
  obtain ⟨hl, h | ⟨g, cap, cur, hv, hg, hh, r⟩⟩ := h
  · exact ⟨hl, .inl h⟩
  · refine ⟨hl, .inr ⟨g, cap, cur, hv, hg, ?_, r⟩⟩
    have hlt : g < w.heap.size := by
      rcases Nat.lt_or_ge g w.heap.size with h' | h'
      · exact h'
      · rw [Array.getElem?_eq_none h'] at hh; simp at hh
    rw [hb.block g hlt]; exact hh
theorem ownsRow_block {w : World} {base : Nat} {e : TypeId} {size : Nat} {v : Value} {n : Nat} {xs : List Value} (h : w.ownsRow base e size v n xs) : ∀ k, v.ownBlock = some k → base ≤ k := by
  intro k hk
  obtain ⟨_, ⟨hv, _⟩ | ⟨g, cap, cur, hv, hg, _⟩⟩ := h
  · rw [hv] at hk; simp [Value.ownBlock] at hk
  · rw [hv] at hk; simp [Value.ownBlock] at hk; omega
end Go.Proofs.YtnfadmifdncjoaaGreat.Cf
namespace Go.Proofs.YtnfadmifdncjoaaGreat.Cf
set_option linter.unusedSimpArgs false
set_option linter.unusedVariables false
open Go.RowKit

theorem countP_lt {α : Type} (p q : α → Bool) (l : List α) (h : ∀ x ∈ l, q x = true → p x = true) {i : α} (hi : i ∈ l) (hp : p i = true) (hq : q i = false) : l.countP q < l.countP p := by
  induction l with
  | nil => cases hi
  | cons x r ih =>
    have hmono : r.countP q ≤ r.countP p := List.countP_mono_left (fun y hy => h y (List.mem_cons_of_mem _ hy))
    rw [List.countP_cons, List.countP_cons]
    rcases List.mem_cons.1 hi with rfl | hi'
    · simp [hp, hq]; omega
    · have h1 := ih (fun y hy => h y (List.mem_cons_of_mem _ hy)) hi'
      have h2 := h x (List.mem_cons_self ..)
      cases hqx : q x
      · cases p x <;> simp <;> omega
      · rw [h2 hqx]; simp; omega

theorem wpAny_inv {P : Program} {ops : Array Oper} {Q : Exit → Act → World → Prop} {a : Act}
    (hback0 : ((List.range ops.size).all fun i => ((ops[i]?).map fun o : Oper => o.after.all fun e : Edge => decide (e.on < i)).getD true) = true)
    (Inv : Act → (Nat → Bool) → Act → World → Prop)
    (hstep : ∀ (f : Nat → Bool) a1 w1, Inv a f a1 w1 → ∀ (i : Nat) (o : Oper), ops[i]? = some o → f i = false → (∀ e ∈ o.after, Region.binds .any e = true → f e.on = true) → wpOp P ops Q i (fun a' w' => Inv a (fun j => j == i || f j) a' w') a1 w1)
    (hend : ∀ (f : Nat → Bool) a1 w1, (∀ i, i < ops.size → f i = true) → Inv a f a1 w1 → Q .normal a1 w1) :
    ∀ (fuel : Nat) (L : Array Bool) (f : Nat → Bool) (a1 : Act) (w1 : World), L.size = ops.size → (∀ j, j < ops.size → f j = L.getD j false) → (List.range ops.size).countP (fun j => !L.getD j false) ≤ fuel → Inv a f a1 w1 → wpAny P .any ops Q fuel L a1 w1 := by
  have hback : ∀ (i : Nat) (o : Oper), ops[i]? = some o → ∀ e ∈ o.after, e.on < i := by
    intro i o ho e he
    have h1 := List.all_eq_true.1 hback0 i (List.mem_range.2 (Array.getElem?_eq_some_iff.1 ho).1)
    rw [ho] at h1
    simp only [Option.map_some, Option.getD_some] at h1
    have h2 := Array.all_eq_true'.1 h1 e he
    simpa using h2
  have hall : ∀ L : Array Bool, L.size = ops.size → Region.ready .any ops L = [] → ∀ i, i < ops.size → L.getD i false = true := by
    intro L hL hr i
    induction i using Nat.strongRecOn with
    | ind i ih =>
      intro hi
      cases hv : L.getD i false with
      | true => rfl
      | false =>
        exfalso
        have hmem : i ∈ Region.ready .any ops L := by
          refine mem_ready.2 ⟨?_, ops[i], Array.getElem?_eq_getElem hi, fun e he _ => ih e.on (hback i _ (Array.getElem?_eq_getElem hi) e he) (Nat.lt_trans (hback i _ (Array.getElem?_eq_getElem hi) e he) hi)⟩
          simp only [Array.getD_eq_getD_getElem?, Array.getElem?_eq_getElem (show i < L.size by omega), Option.getD_some] at hv ⊢
          exact hv
        rw [hr] at hmem
        cases hmem
  have key : ∀ (fuel : Nat) (L : Array Bool) (f : Nat → Bool) (a1 : Act) (w1 : World), L.size = ops.size → (∀ j, j < ops.size → f j = L.getD j false) → (List.range ops.size).countP (fun j => !L.getD j false) ≤ fuel → Inv a f a1 w1 → wpAny P .any ops Q fuel L a1 w1 := by
    intro fuel
    induction fuel with
    | zero =>
      intro L f a1 w1 hL hf hc hI
      have hz : ∀ i, i < ops.size → L.getD i false = true := by
        intro i hi
        cases hv : L.getD i false with
        | true => rfl
        | false =>
          exfalso
          have : 0 < (List.range ops.size).countP (fun j => !L.getD j false) := List.countP_pos_iff.2 ⟨i, List.mem_range.2 hi, by simp only [hv]; rfl⟩
          omega
      refine ⟨?_, hend f a1 w1 (fun i hi => by rw [hf i hi]; exact hz i hi) hI⟩
      rw [List.eq_nil_iff_forall_not_mem]
      intro j hj
      obtain ⟨h1, o, ho, _⟩ := mem_ready.1 hj
      have hjl : j < ops.size := (Array.getElem?_eq_some_iff.1 ho).1
      have h2 := hz j hjl
      simp only [Array.getD_eq_getD_getElem?, Array.getElem?_eq_getElem (show j < L.size by omega), Option.getD_some] at h1 h2
      rw [h1] at h2
      cases h2
    | succ fuel ih =>
      intro L f a1 w1 hL hf hc hI
      refine ⟨fun hr => hend f a1 w1 (fun i hi => by rw [hf i hi]; exact hall L hL hr i hi) hI, fun i hi => ?_⟩
      obtain ⟨h1, o, ho, hafter⟩ := mem_ready.1 hi
      have hil : i < ops.size := (Array.getElem?_eq_some_iff.1 ho).1
      have h1' : L.getD i false = false := by
        simp only [Array.getD_eq_getD_getElem?, Array.getElem?_eq_getElem (show i < L.size by omega), Option.getD_some] at h1 ⊢
        exact h1
      have hs := hstep f a1 w1 hI i o ho (by rw [hf i hil]; exact h1') (fun e he hb => by rw [hf e.on (Nat.lt_trans (hback i o ho e he) hil)]; exact hafter e he hb)
      have hget : ∀ j, j < ops.size → (L.setIfInBounds i true).getD j false = (j == i || L.getD j false) := by
        intro j hj
        simp only [Array.getD_eq_getD_getElem?, Array.getElem?_setIfInBounds]
        by_cases e : i = j
        · subst e; simp [show i < L.size by omega]
        · have e2 : (j == i) = false := by simp; omega
          simp [e, e2]
      refine wpOp_mono (fun a' w' h' => ih _ _ a' w' (by simpa using hL) ?_ ?_ h') hs
      · intro j hj
        rw [hget j hj, hf j hj]
      · have hlt := countP_lt (fun j => !L.getD j false) (fun j => !(L.setIfInBounds i true).getD j false) (List.range ops.size) (fun x hx hq => by
          have hxl := List.mem_range.1 hx
          rw [hget x hxl] at hq
          simp only [Bool.not_or, Bool.and_eq_true, Bool.not_eq_true'] at hq ⊢
          exact hq.2) (List.mem_range.2 hil) (by simp only [h1']; rfl) (by rw [hget i hil]; simp)
        omega
  exact key

theorem wp_region_inv {P : Program} {ops : Array Oper} {Q : Exit → Act → World → Prop} {id : Nat} {a : Act} {w : World} (hm : P.follows .mixedOrders = true)
    (hback0 : ((List.range ops.size).all fun i => ((ops[i]?).map fun o : Oper => o.after.all fun e : Edge => decide (e.on < i)).getD true) = true)
    (Inv : Act → (Nat → Bool) → Act → World → Prop) (h0 : Inv a (fun _ => false) a w.drew)
    (hstep : ∀ (f : Nat → Bool) a1 w1, Inv a f a1 w1 → ∀ (i : Nat) (o : Oper), ops[i]? = some o → f i = false → (∀ e ∈ o.after, Region.binds .any e = true → f e.on = true) → wpOp P ops Q i (fun a' w' => Inv a (fun j => j == i || f j) a' w') a1 w1)
    (hend : ∀ (f : Nat → Bool) a1 w1, (∀ i, i < ops.size → f i = true) → Inv a f a1 w1 → Q .normal a1 w1) : (Code.region id ops true).wp P Q a w := by
  refine wp_region_any hm (wpAny_inv hback0 Inv hstep hend ops.size (Array.replicate ops.size false) (fun _ => false) a _ (by simp) (fun j hj => by simp [hj]) ?_ h0)
  exact Nat.le_trans List.countP_le_length (by simp)
end Go.Proofs.YtnfadmifdncjoaaGreat.Cf

namespace Go.Proofs.YtnfadmifdncjoaaGreat.Cf
set_option linter.unusedSimpArgs false
set_option linter.unusedVariables false
open Go.RowKit

def markAll (l : List Edge) (m : Array Bool) : Array Bool := l.foldl (fun m e => if Region.binds .any e then m.setIfInBounds e.on true else m) m
def pull (ops : Array Oper) : Nat → Array Bool → Array Bool
  | 0, m => m
  | i + 1, m => pull ops i (if m.getD i false then (match ops[i]? with | some o => markAll o.after.toList m | none => m) else m)
/-- each operation from n on waits for another such one, or for all below n -/
def covers (ops : Array Oper) (n : Nat) : Bool :=
  (List.range ops.size).all fun j => decide (j < n) || match ops[j]? with
    | some o => (o.after.toList.any fun e => Region.binds .any e && decide (n ≤ e.on)) || ((List.range n).all fun i => (pull ops n (markAll o.after.toList (Array.replicate n false))).getD i false)
    | none => true
def backs (ops : Array Oper) : Bool := (List.range ops.size).all fun i => ((ops[i]?).map fun o : Oper => (o.after.all fun e : Edge => decide (e.on < i)) && (match o.guard with | some (g, _) => decide (g < i) | none => true)).getD true

theorem markAll_sound (g : Nat → Bool) : ∀ (l : List Edge) (m : Array Bool), (∀ e ∈ l, Region.binds .any e = true → g e.on = true) → (∀ i, m.getD i false = true → g i = true) → ∀ i, (markAll l m).getD i false = true → g i = true
  | [], _, _, h => h
  | e :: r, m, hl, h => by
    unfold markAll
    rw [List.foldl_cons]
    refine markAll_sound g r _ (fun x hx => hl x (List.mem_cons_of_mem _ hx)) (fun i hi => ?_)
    split at hi
    · rename_i hb
      simp only [Array.getD_eq_getD_getElem?, Array.getElem?_setIfInBounds] at hi
      by_cases he : e.on = i
      · rw [← he]; exact hl e (List.mem_cons_self ..) hb
      · rw [if_neg he] at hi
        exact h i (by simpa only [Array.getD_eq_getD_getElem?] using hi)
    · exact h i hi
theorem pull_sound {ops : Array Oper} (g : Nat → Bool) (n : Nat) (hg : ∀ (i : Nat) (o : Oper), i < n → ops[i]? = some o → g i = true → ∀ e ∈ o.after, Region.binds .any e = true → g e.on = true) :
    ∀ (k : Nat) (m : Array Bool), k ≤ n → (∀ i, m.getD i false = true → g i = true) → ∀ i, (pull ops k m).getD i false = true → g i = true
  | 0, _, _, h => h
  | k + 1, m, hk, h => by
    refine pull_sound g n hg k _ (by omega) (fun i hi => ?_)
    split at hi
    · rename_i hm
      split at hi
      · rename_i o ho
        exact markAll_sound g _ m (fun e he hb => hg k o (by omega) ho (h k hm) e (by simpa using he) hb) h i hi
      · exact h i hi
    · exact h i hi

def listedTo (n m : Nat) : Array Bool := (List.replicate n true ++ List.replicate m false).toArray
theorem listedTo_getD (n m j : Nat) (d : Bool) : (listedTo n m).getD j d = if j < n then true else if j < n + m then false else d := by
  unfold listedTo
  simp only [Array.getD_eq_getD_getElem?, List.getElem?_toArray]
  rw [List.getElem?_append]
  by_cases h : j < n
  · simp [h]
  · by_cases h2 : j < n + m
    · simp [h, h2, show j - n < m by omega]
    · simp [h, h2, show ¬ j - n < m by omega]

section
variable {P : Program} {ops : Array Oper} {Q : Exit → Act → World → Prop} {C : World → Prop}

theorem yielded_take (n : Nat) (tmps : Array Value) (j : Nat) (hj : j < n) : yielded (ops.toList.take n).toArray tmps j = yielded ops tmps j := by
  unfold yielded
  rw [List.getElem?_toArray, List.getElem?_take_of_lt hj, Array.getElem?_toList]
theorem wpOp_of_take {n i : Nat} {a : Act} {K : Act → Prop} {K' : Act → World → Prop} {w : World} (hi : i < n) (hgd : ∀ o, ops[i]? = some o → ∀ g b, o.guard = some (g, b) → g < n)
    (hC : C w) (h : ∀ a w', C w' → K a → K' a w') (hh : qOp P (ops.toList.take n).toArray C i K a) : wpOp P ops Q i K' a w := by
  unfold qOp at hh
  unfold wpOp
  rw [List.getElem?_toArray, List.getElem?_take_of_lt hi, Array.getElem?_toList] at hh
  cases ho : ops[i]? with
  | none => rw [ho] at hh; exact h _ _ hC hh
  | some o =>
    rw [ho] at hh
    simp only at hh ⊢
    have hw : Region.wanted o (yielded (ops.toList.take n).toArray a.tmps) = Region.wanted o (yielded ops a.tmps) := by
      unfold Region.wanted
      cases hgu : o.guard with
      | none => rfl
      | some gb =>
        obtain ⟨g, b⟩ := gb
        simp only
        rw [yielded_take n a.tmps g (hgd o ho g b hgu)]
    rw [hw] at hh
    split
    · rename_i hw2; simp only [hw2, if_true] at hh; exact .inl (Oper.wp_of_quiet hC h hh)
    · rename_i hw2; simp only [hw2] at hh; exact h _ _ hC hh

theorem wp_region_split {id : Nat} {a : Act} {w : World} (n : Nat) (hm : P.follows .mixedOrders = true) (hn : n ≤ ops.size) (hback0 : backs ops = true) (hcov : covers ops n = true)
    (hlex : Region.lexB .any (ops.toList.take n).toArray = true) (hC : C w.drew)
    (h : wpQuiet P (ops.toList.take n).toArray C (fun a' => ∀ w', C w' → wpAny P .any ops Q (ops.size - n) (listedTo n (ops.size - n)) a' w') (ops.toList.take n) a) : (Code.region id ops true).wp P Q a w := by
  have hbk : ∀ (i : Nat) (o : Oper), ops[i]? = some o → (∀ e ∈ o.after, e.on < i) ∧ ∀ g b, o.guard = some (g, b) → g < i := by
    intro i o ho
    have h1 := List.all_eq_true.1 hback0 i (List.mem_range.2 (Array.getElem?_eq_some_iff.1 ho).1)
    rw [ho] at h1
    simp only [Option.map_some, Option.getD_some, Bool.and_eq_true] at h1
    obtain ⟨h1, h3⟩ := h1
    refine ⟨fun e he => ?_, fun g b hg => ?_⟩
    · have h2 := Array.all_eq_true'.1 h1 e he
      simpa using h2
    · rw [hg] at h3; simpa using h3
  have hlen : (ops.toList.take n).length = n := by rw [List.length_take, Array.length_toList]; omega
  simp only [Region.lexB, Bool.and_eq_true] at hlex
  have hq := wpAnyQ_lex (P := P) (C := C) (md := .any) hlex.1 (ops.toList.take n) 0 (Array.replicate (ops.toList.take n).toArray.size false) a (by simp) (by simpa using hlex.2) h
  rw [hlen] at hq
  have ext : ∀ (fuel : Nat) (LA : Array Bool) (a : Act) (w : World), LA.size = n → (List.range n).countP (fun j => !LA.getD j false) = fuel →
      (∀ (i : Nat) (o : Oper), i < n → ops[i]? = some o → LA.getD i false = true → ∀ e ∈ o.after, Region.binds .any e = true → LA.getD e.on false = true) → C w →
      wpAnyQ P .any (ops.toList.take n).toArray C (fun a' => ∀ w', C w' → wpAny P .any ops Q (ops.size - n) (listedTo n (ops.size - n)) a' w') fuel LA a →
      wpAny P .any ops Q (fuel + (ops.size - n)) (LA ++ Array.replicate (ops.size - n) false) a w := by
    intro fuel
    induction fuel with
    | zero =>
      intro LA a w hL hc _ hw hQ
      have hz : ∀ i, i < n → LA.getD i false = true := by
        intro i hi
        cases hv : LA.getD i false with
        | true => rfl
        | false =>
          exfalso
          have : 0 < (List.range n).countP (fun j => !LA.getD j false) := List.countP_pos_iff.2 ⟨i, List.mem_range.2 hi, by simp only [hv]; rfl⟩
          omega
      have e : LA ++ Array.replicate (ops.size - n) false = listedTo n (ops.size - n) := by
        apply Array.ext_getElem?
        intro j
        have h1 : ∀ d, (LA ++ Array.replicate (ops.size - n) false).getD j d = (listedTo n (ops.size - n)).getD j d := by
          intro d
          rw [listedTo_getD]
          simp only [Array.getD_eq_getD_getElem?, Array.getElem?_append, hL]
          by_cases hj : j < n
          · have := hz j hj
            simp only [Array.getD_eq_getD_getElem?, Array.getElem?_eq_getElem (show j < LA.size by omega), Option.getD_some] at this
            simp [hj, Array.getElem?_eq_getElem (show j < LA.size by omega), this]
          · by_cases hj2 : j < n + (ops.size - n)
            · simp [hj, hj2, show j - n < ops.size - n by omega]
            · simp [hj, hj2, show ¬ j - n < ops.size - n by omega]
        have h2 := h1 true
        have h3 := h1 false
        simp only [Array.getD_eq_getD_getElem?] at h2 h3
        cases x : (LA ++ Array.replicate (ops.size - n) false)[j]? <;> cases y : (listedTo n (ops.size - n))[j]? <;> rw [x, y] at h2 h3 <;> simp at h2 h3 ⊢ <;> simp_all
      rw [e, Nat.zero_add]
      exact hQ.2 w hw
    | succ fuel ih =>
      intro LA a w hL hc hcl hw hQ
      rw [Nat.add_right_comm]
      have hnz : ∃ i, i < n ∧ LA.getD i false = false := by
        have : 0 < (List.range n).countP (fun j => !LA.getD j false) := by omega
        obtain ⟨i, hi, hv⟩ := List.countP_pos_iff.1 this
        exact ⟨i, List.mem_range.1 hi, by simpa using hv⟩
      have hget : ∀ j d, j < n → (LA ++ Array.replicate (ops.size - n) false).getD j d = LA.getD j false := by
        intro j d hj
        simp only [Array.getD_eq_getD_getElem?, Array.getElem?_append, hL, if_pos hj, Array.getElem?_eq_getElem (show j < LA.size by omega), Option.getD_some]
      have hget2 : ∀ j d, n ≤ j → j < ops.size → (LA ++ Array.replicate (ops.size - n) false).getD j d = false := by
        intro j d hj hj2
        simp only [Array.getD_eq_getD_getElem?, Array.getElem?_append, hL, if_neg (show ¬ j < n by omega)]
        rw [Array.getElem?_replicate, if_pos (by omega)]; rfl
      have hready : ∀ i ∈ Region.ready .any ops (LA ++ Array.replicate (ops.size - n) false), i < n ∧ i ∈ Region.ready .any (ops.toList.take n).toArray LA := by
        intro i hi
        obtain ⟨h1, o, ho, hafter⟩ := mem_ready.1 hi
        have hil : i < ops.size := (Array.getElem?_eq_some_iff.1 ho).1
        have hin : i < n := by
          rcases Nat.lt_or_ge i n with h' | h'
          · exact h'
          · exfalso
            have hcv := List.all_eq_true.1 hcov i (List.mem_range.2 hil)
            rw [ho] at hcv
            simp only [Bool.or_eq_true, decide_eq_true_eq] at hcv
            rcases hcv with hcv | hcv | hcv
            · omega
            · obtain ⟨e, he, hb⟩ := List.any_eq_true.1 hcv
              simp only [Bool.and_eq_true, decide_eq_true_eq] at hb
              have h2 := hafter e (by simpa using he) hb.1
              rw [hget2 e.on false hb.2 (Nat.lt_trans ((hbk i o ho).1 e (by simpa using he)) hil)] at h2
              cases h2
            · obtain ⟨k, hk, hkf⟩ := hnz
              have h3 := List.all_eq_true.1 hcv k (List.mem_range.2 hk)
              have hB : ∀ e ∈ o.after, Region.binds .any e = true → (fun j => decide (n ≤ j) || LA.getD j false) e.on = true := by
                intro e he hb
                have h4 := hafter e he hb
                rcases Nat.lt_or_ge e.on n with h5 | h5
                · rw [hget e.on false h5] at h4; simp [h4]
                · simp [h5]
              have h6 := pull_sound (ops := ops) (fun j => decide (n ≤ j) || LA.getD j false) n (by
                  intro i' o' h5 ho' hgi e he hb
                  simp only [Bool.or_eq_true, decide_eq_true_eq] at hgi ⊢
                  rcases hgi with hgi | hgi
                  · omega
                  · exact .inr (hcl i' o' h5 ho' hgi e he hb)) n _ (Nat.le_refl n) (markAll_sound _ o.after.toList _ (fun e he hb => hB e (by simpa using he) hb) (by
                  intro i' hi'
                  simp only [Array.getD_eq_getD_getElem?, Array.getElem?_replicate] at hi'
                  split at hi' <;> cases hi')) k h3
              simp only [Bool.or_eq_true, decide_eq_true_eq] at h6
              rcases h6 with h6 | h6
              · omega
              · rw [hkf] at h6; cases h6
        refine ⟨hin, mem_ready.2 ⟨?_, o, ?_, fun e he hb => ?_⟩⟩
        · rw [hget i true hin] at h1
          simp only [Array.getD_eq_getD_getElem?, Array.getElem?_eq_getElem (show i < LA.size by omega), Option.getD_some] at h1 ⊢
          exact h1
        · rw [List.getElem?_toArray, List.getElem?_take_of_lt hin, Array.getElem?_toList]; exact ho
        · have h2 := hafter e he hb
          rwa [hget e.on false (Nat.lt_trans ((hbk i o ho).1 e he) hin)] at h2
      refine ⟨fun hr => ?_, fun i hi => ?_⟩
      · -- something is ready
        exfalso
        obtain ⟨k, hk, hkf⟩ := hnz
        have : ∀ k, k < n → LA.getD k false = true := by
          intro k
          induction k using Nat.strongRecOn with
          | ind k ihk =>
            intro hk
            cases hv : LA.getD k false with
            | true => rfl
            | false =>
              exfalso
              have hko : k < ops.size := by omega
              have hmem : k ∈ Region.ready .any ops (LA ++ Array.replicate (ops.size - n) false) := by
                refine mem_ready.2 ⟨by rw [hget k true hk]; exact hv, ops[k], Array.getElem?_eq_getElem hko, fun e he _ => ?_⟩
                have hlt := (hbk k _ (Array.getElem?_eq_getElem hko)).1 e he
                rw [hget e.on false (by omega)]
                exact ihk e.on hlt (by omega)
              rw [hr] at hmem
              cases hmem
        rw [this k hk] at hkf
        cases hkf
      · obtain ⟨hin, hiA⟩ := hready i hi
        obtain ⟨h1, o, ho, hafter⟩ := mem_ready.1 hi
        have hstep := hQ.2 i hiA
        have hLi : LA.getD i false = false := by rw [hget i true hin] at h1; exact h1
        refine wpOp_of_take (C := C) hin (fun o' ho' g b hg => Nat.lt_trans ((hbk i o' ho').2 g b hg) hin) hw (fun a' w' hw' hK => ?_) hstep
        have hset : (LA ++ Array.replicate (ops.size - n) false).setIfInBounds i true = LA.setIfInBounds i true ++ Array.replicate (ops.size - n) false := by
          rw [Array.setIfInBounds_append_left (by omega)]
        rw [hset]
        have hgs : ∀ j, j < n → (LA.setIfInBounds i true).getD j false = (j == i || LA.getD j false) := by
          intro j hj
          simp only [Array.getD_eq_getD_getElem?, Array.getElem?_setIfInBounds]
          by_cases e : i = j
          · subst e; simp [show i < LA.size by omega]
          · have e2 : (j == i) = false := by simp; omega
            simp [e, e2]
        refine ih _ a' w' (by simpa using hL) ?_ ?_ hw' hK
        · have key : ∀ (l : List Nat), l.Nodup → i ∈ l → (∀ j ∈ l, j < n) → l.countP (fun j => !(LA.setIfInBounds i true).getD j false) + 1 = l.countP (fun j => !LA.getD j false) := by
            intro l
            induction l with
            | nil => intro _ h; cases h
            | cons x r ihl =>
              intro hnd hmem hlt
              rw [List.countP_cons, List.countP_cons, hgs x (hlt x (List.mem_cons_self ..))]
              rw [List.nodup_cons] at hnd
              rcases List.mem_cons.1 hmem with rfl | hmem'
              · have hsame : r.countP (fun j => !(LA.setIfInBounds i true).getD j false) = r.countP (fun j => !LA.getD j false) := by
                  apply List.countP_congr
                  intro y hy
                  rw [hgs y (hlt y (List.mem_cons_of_mem _ hy))]
                  have : (y == i) = false := by
                    simp only [beq_eq_false_iff_ne, ne_eq]
                    rintro rfl
                    exact hnd.1 hy
                  simp [this]
                rw [hsame, hLi]; simp
              · have hxi : (x == i) = false := by
                  simp only [beq_eq_false_iff_ne, ne_eq]
                  rintro rfl
                  exact hnd.1 hmem'
                have := ihl hnd.2 hmem' (fun j hj => hlt j (List.mem_cons_of_mem _ hj))
                rw [hxi, Bool.false_or]
                omega
          have := key (List.range n) List.nodup_range (List.mem_range.2 hin) (fun j hj => List.mem_range.1 hj)
          omega
        · intro i' o' hi' ho' hl e he hb
          have hlt := (hbk i' o' ho').1 e he
          rw [hgs i' hi'] at hl
          rw [hgs e.on (by omega)]
          simp only [Bool.or_eq_true, beq_iff_eq] at hl ⊢
          rcases hl with rfl | hl
          · have hoo : o' = o := Option.some.inj (ho'.symm.trans ho)
            subst hoo
            have h2 := hafter e he hb
            rw [hget e.on false (by omega)] at h2
            exact .inr h2
          · exact .inr (hcl i' o' hi' ho' hl e he hb)
  refine wp_region_any hm ?_
  have hfin := ext n (Array.replicate n false) a w.drew (by simp) (by
      rw [List.countP_eq_length.2]
      · simp
      · intro j hj; simp [List.mem_range.1 hj]) (by
      intro i o hi _ hl
      simp [hi] at hl) hC (by simpa [hlen] using hq)
  rw [show n + (ops.size - n) = ops.size by omega, Array.replicate_append_replicate, show n + (ops.size - n) = ops.size by omega] at hfin
  exact hfin

/-- The second part by an invariant: how many operations are left, and where it begins. -/
theorem wpAny_rest {a : Act} {w : World} (n : Nat) (hn : n ≤ ops.size) (hback0 : ((List.range ops.size).all fun i => ((ops[i]?).map fun o : Oper => o.after.all fun e : Edge => decide (e.on < i)).getD true) = true)
    (Inv : Act → (Nat → Bool) → Act → World → Prop) (h0 : Inv a (fun j => decide (j < n)) a w)
    (hstep : ∀ (f : Nat → Bool) a1 w1, Inv a f a1 w1 → ∀ (i : Nat) (o : Oper), ops[i]? = some o → f i = false → (∀ e ∈ o.after, Region.binds .any e = true → f e.on = true) → wpOp P ops Q i (fun a' w' => Inv a (fun j => j == i || f j) a' w') a1 w1)
    (hend : ∀ (f : Nat → Bool) a1 w1, (∀ i, i < ops.size → f i = true) → Inv a f a1 w1 → Q .normal a1 w1) : wpAny P .any ops Q (ops.size - n) (listedTo n (ops.size - n)) a w := by
  have hg : ∀ j, j < ops.size → decide (j < n) = (listedTo n (ops.size - n)).getD j false := by
    intro j hj
    rw [listedTo_getD]
    by_cases h : j < n
    · simp [h]
    · simp [h]
  refine wpAny_inv hback0 Inv hstep hend _ _ _ a w (by simp [listedTo]; omega) hg ?_ h0
  have h1 : (List.range ops.size).countP (fun j => !(listedTo n (ops.size - n)).getD j false) = (List.range ops.size).countP (fun j => !decide (j < n)) := by
    apply List.countP_congr
    intro y hy
    rw [← hg y (List.mem_range.1 hy)]
  rw [h1]
  have h2 : ∀ m, (List.range m).countP (fun j => !decide (j < n)) = m - n := by
    intro m
    induction m with
    | zero => simp
    | succ m ih =>
      rw [List.range_succ, List.countP_append, ih]
      by_cases hmn : m < n
      · simp [hmn]; omega
      · simp [hmn]; omega
  rw [h2]
  exact Nat.le_refl _
end
end Go.Proofs.YtnfadmifdncjoaaGreat.Cf

namespace Go.Proofs.YtnfadmifdncjoaaGreat.Cf
set_option linter.unusedSimpArgs false
set_option linter.unusedVariables false
open Go.RowKit Go.Maps

theorem Tryz.laidOut : laidOutB Tryz.prog = true := by kernel_rfl
theorem Tryz.lawStr : Keyed Tryz.prog 9 := string_keyed Tryz.underlying9
theorem Tryz.lawLab : Keyed Tryz.prog 39 := Keyed.of_law (deep_law_laid Tryz.laidOut (m := 2) (by omega) (of_decide_eq_true (by kernel_rfl)) (by kernel_rfl) (by kernel_rfl))
theorem Tryz.lawMark : Keyed Tryz.prog 177 := Keyed.of_law (deep_law_laid Tryz.laidOut (m := 2) (by omega) (of_decide_eq_true (by kernel_rfl)) (by kernel_rfl) (by kernel_rfl))
theorem Tryz.zero3 (w : World) : (zeroValue 3).run Tryz.prog w = .ok (.int .i64 0) w := by kernel_rfl
theorem Tryz.zero129 (w : World) : (zeroValue 217).run Tryz.prog w = .ok (.agg #[]) w := by kernel_rfl

theorem Tryz.info39 : (Tryz.prog.info? 41).map (fun i => (i.zero, i.size, i.bytes)) = some (some (.agg #[.string ByteArray.empty, .int .u8 0, .int .u16 0, .int .i64 0, .int .i64 0, .int .i64 0, .int .i64 0, .int .i64 0, .int .i64 0]), 9, 72) := by kernel_rfl
theorem Tryz.info34 : (Tryz.prog.info? 177).map (fun i => (i.zero, i.size, i.bytes)) = some (some (.agg #[.int .u8 0, .int .u16 0]), 2, 4) := by kernel_rfl
theorem Tryz.info69 : (Tryz.prog.info? 133).map (fun i => (i.zero, i.size, i.bytes)) = some (some (.agg #[.int .i64 0, .int .i64 0, .int .i64 0, .int .i64 0, .int .i64 0, .int .i64 0]), 6, 48) := by kernel_rfl
/-- what a label, a mark, read as, as a map's key -/
def labKey (lv cs : Int) : Lit := .string (keyBytes [.int .u8 lv, .int .u16 cs])
theorem Tryz.keyType37 : Tryz.prog.keyType 39 = true := by kernel_rfl
theorem Tryz.keyType34 : Tryz.prog.keyType 177 = true := by kernel_rfl
theorem Tryz.cellsOf37 : Tryz.prog.cellsOf 39 = 2 := by kernel_rfl
theorem Tryz.cellsOf34 : Tryz.prog.cellsOf 177 = 2 := by kernel_rfl
theorem Tryz.cellsOf5 : Tryz.prog.cellsOf 5 = 1 := by kernel_rfl
theorem Tryz.cellsOf32 : Tryz.prog.cellsOf 37 = 1 := by kernel_rfl
theorem Tryz.typesSize : Tryz.prog.types.size = 282 := by kernel_rfl
theorem labKey_is (lv cs : Int) (h0 : 0 ≤ lv) (h1 : lv < 256) (h2 : 0 ≤ cs) (h3 : cs < 65536) : keyOf Tryz.prog 39 (.agg #[.int .u8 lv, .int .u16 cs]) = some (labKey lv cs) := by
  have hf : (Value.agg #[.int .u8 lv, .int .u16 cs]).formed Tryz.prog 39 = true := by simp [Value.formed, Tryz.underlying39, Tryz.cellsOf37]
  have w1 : (Lit.int .u8 lv).wf = true := by simp [Lit.wf, IntKind.min, IntKind.max, IntKind.bits, IntKind.signed]; omega
  have w2 : (Lit.int .u16 cs).wf = true := by simp [Lit.wf, IntKind.min, IntKind.max, IntKind.bits, IntKind.signed]; omega
  have hk : ∀ d, Tryz.prog.keyLits (d + 2) 39 [.int .u8 lv, .int .u16 cs] = some [.int .u8 lv, .int .u16 cs] := by
    intro d
    simp [Program.keyLits, Tryz.underlying39, Tryz.cellsOf37, Tryz.underlying5, Tryz.underlying37, Tryz.cellsOf5, Tryz.cellsOf32, w1, w2]
  unfold keyOf
  rw [Tryz.underlying39]
  simp only [Tryz.keyType37, hf, Bool.and_self, if_true, Tryz.typesSize]
  show Option.map _ (Tryz.prog.keyLits (281 + 2) 39 [.int .u8 lv, .int .u16 cs]) = _
  rw [hk 281]
  rfl
theorem markKey_is (lv cs : Int) (h0 : 0 ≤ lv) (h1 : lv < 256) (h2 : 0 ≤ cs) (h3 : cs < 65536) : keyOf Tryz.prog 177 (.agg #[.int .u8 lv, .int .u16 cs]) = some (labKey lv cs) := by
  have hf : (Value.agg #[.int .u8 lv, .int .u16 cs]).formed Tryz.prog 177 = true := by simp [Value.formed, Tryz.underlying177, Tryz.cellsOf34]
  have w1 : (Lit.int .u8 lv).wf = true := by simp [Lit.wf, IntKind.min, IntKind.max, IntKind.bits, IntKind.signed]; omega
  have w2 : (Lit.int .u16 cs).wf = true := by simp [Lit.wf, IntKind.min, IntKind.max, IntKind.bits, IntKind.signed]; omega
  have hk : ∀ d, Tryz.prog.keyLits (d + 2) 177 [.int .u8 lv, .int .u16 cs] = some [.int .u8 lv, .int .u16 cs] := by
    intro d
    simp [Program.keyLits, Tryz.underlying177, Tryz.cellsOf34, Tryz.underlying5, Tryz.underlying37, Tryz.cellsOf5, Tryz.cellsOf32, w1, w2]
  unfold keyOf
  rw [Tryz.underlying177]
  simp only [Tryz.keyType34, hf, Bool.and_self, if_true, Tryz.typesSize]
  show Option.map _ (Tryz.prog.keyLits (281 + 2) 177 [.int .u8 lv, .int .u16 cs]) = _
  rw [hk 281]
  rfl
theorem labKey_inj {a b c d : Int} (ha : 0 ≤ a ∧ a < 256) (hb : 0 ≤ b ∧ b < 65536) (hc : 0 ≤ c ∧ c < 256) (hd : 0 ≤ d ∧ d < 65536) (h : labKey a b = labKey c d) : a = c ∧ b = d := by
  have := Tryz.lawLab.inj (labKey_is a b ha.1 ha.2 hb.1 hb.2) (by rw [h]; exact labKey_is c d hc.1 hc.2 hd.1 hd.2)
  simpa using this
theorem labKey_key (a b : Int) : WideAt.IsKeyLit (labKey a b) := by unfold labKey; trivial
def strKey (s : ByteArray) : Lit := .string s.data.toList
theorem strKey_is (s : ByteArray) (h : s.size ≤ maxLen) : keyOf Tryz.prog 9 (.string s) = some (strKey s) := WideMaps.keyOf_string_mk Tryz.underlying9 h
theorem strKey_key (s : ByteArray) : WideAt.IsKeyLit (strKey s) := by unfold strKey; trivial
theorem strKey_inj {s t : ByteArray} (h : strKey s = strKey t) : s = t := by
  unfold strKey at h
  simp only [Lit.string.injEq] at h
  obtain ⟨⟨a⟩⟩ := s
  obtain ⟨⟨b⟩⟩ := t
  simpa using h
end Go.Proofs.YtnfadmifdncjoaaGreat.Cf

namespace Go.Proofs.YtnfadmifdncjoaaGreat.Cf
set_option linter.unusedSimpArgs false
set_option linter.unusedVariables false
open Go.RowKit

theorem wpAny_last {P : Program} {ops : Array Oper} {Q : Exit → Act → World → Prop} {a : Act} {w : World} (n : Nat) (hn : ops.size = n + 1)
    (hback0 : ((List.range ops.size).all fun i => ((ops[i]?).map fun o : Oper => o.after.all fun e : Edge => decide (e.on < i)).getD true) = true)
    (h : wpOp P ops Q n (fun a' w' => Q .normal a' w') a w) : wpAny P .any ops Q (ops.size - n) (listedTo n (ops.size - n)) a w := by
  refine wpAny_rest n (by omega) hback0 (fun _ f a1 w1 => (∀ j, j < n → f j = true) ∧ ((f n = false ∧ a1 = a ∧ w1 = w) ∨ (f n = true ∧ Q .normal a1 w1))) ?_ ?_ ?_
  · exact ⟨fun j hj => by simpa using hj, .inl ⟨by simp, rfl, rfl⟩⟩
  · rintro f a1 w1 ⟨hlo, h1⟩ i o ho hfi _
    have hi : i < n + 1 := by rw [← hn]; exact (Array.getElem?_eq_some_iff.1 ho).1
    have hin : i = n := by
      rcases Nat.lt_or_ge i n with h' | h'
      · rw [hlo i h'] at hfi; cases hfi
      · omega
    subst hin
    rcases h1 with ⟨-, rfl, rfl⟩ | ⟨h2, -⟩
    · exact wpOp_mono (fun a' w' h' => ⟨fun j hj => by simp [hlo j hj], .inr ⟨by simp, h'⟩⟩) h
    · rw [h2] at hfi; cases hfi
  · rintro f a1 w1 hall ⟨-, h1⟩
    rcases h1 with ⟨h2, -⟩ | ⟨-, h2⟩
    · rw [hall n (by omega)] at h2; cases h2
    · exact h2
theorem wpOp_step0 {P : Program} {ops : Array Oper} {Q : Exit → Act → World → Prop} {i : Nat} {o : Oper} {K : Act → World → Prop} {a : Act} {w : World} (ho : ops[i]? = some o) (hg : o.guard = none)
    (h : ∀ K' : Act → World → Prop, (∀ a w, K a w → K' a w) → Oper.wp P o a w K' Q) : wpOp P ops Q i K a w :=
  wpOp_step ho fun K' hK' => by simp only [Region.wanted, hg, if_true]; exact h K' hK'
end Go.Proofs.YtnfadmifdncjoaaGreat.Cf
