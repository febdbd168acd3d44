import Derived.Test.YtlpbhijfdeceoaaE3
import Derived.Laws.BitsAllLaws
/- Bits of a block, as numbers. -/
namespace Go.Proofs.Ytlpbhijfdeceoaa
set_option linter.unusedSimpArgs false
set_option linter.unusedVariables false
open Go.RowKit Go.Maps


def msk (i : Nat) : Int := ((2 ^ (i % 8) : Nat) : Int)
theorem msk_nat (i : Nat) : 2 ^ (i % 8) < 256 := by
  have : i % 8 < 8 := Nat.mod_lt _ (by decide)
  calc 2 ^ (i % 8) < 2 ^ 8 := Nat.pow_lt_pow_right (by decide) this
    _ = 256 := rfl
def bitOf (f : Nat → Int) (i : Nat) : Bool := (f (i / 8 % 64)).toNat.testBit (i % 8)
/-- a block whose bit i is turned over -/
def flp (f : Nat → Int) (i : Nat) : Nat → Int := upd f (i / 8 % 64) 1 fun _ => Go.bits .xor .u8 (f (i / 8 % 64)) (msk i)
theorem and_pow (v k : Nat) : (v &&& 2 ^ k != 0) = v.testBit k := by
  cases h : v.testBit k with
  | true =>
    rw [bne_iff_ne]
    intro h0
    have : (v &&& 2 ^ k).testBit k = true := by rw [Nat.testBit_and, h, Nat.testBit_two_pow_self]; rfl
    rw [h0, Nat.zero_testBit] at this
    cases this
  | false =>
    have : v &&& 2 ^ k = 0 := by
      apply Nat.eq_of_testBit_eq
      intro i
      rw [Nat.testBit_and, Nat.testBit_two_pow, Nat.zero_testBit]
      by_cases e : k = i
      · subst e; rw [h]; rfl
      · simp [e]
    rw [this]
    rfl
theorem at_lt (i : Nat) : i / 8 % 64 < 64 := Nat.mod_lt _ (by decide)
theorem isset_math (f : Nat → Int) (hf : Byt f) (i : Nat) : (Go.bits .and .u8 (f (i / 8 % 64)) (msk i) != 0) = bitOf f i := by
  obtain ⟨h0, h1⟩ := hf _ (at_lt i)
  unfold bitOf msk
  obtain ⟨v, hv⟩ := Int.eq_ofNat_of_zero_le h0
  rw [hv] at h1 ⊢
  rw [u8_and_nat v _ (by omega) (msk_nat i), Int.toNat_natCast, ← and_pow]
  rw [Bool.eq_iff_iff, bne_iff_ne, bne_iff_ne]
  constructor
  · intro h h2; exact h (by rw [h2]; rfl)
  · intro h h2; exact h (by exact_mod_cast h2)
theorem xor_math (v : Nat) (hv : v < 256) (i : Nat) : Go.bits .xor .u8 (v : Int) (msk i) = ((v ^^^ 2 ^ (i % 8) : Nat) : Int) := u8_xor_nat v _ hv (msk_nat i)
theorem xor_lt (v : Nat) (hv : v < 256) (i : Nat) : v ^^^ 2 ^ (i % 8) < 256 := Nat.xor_lt_two_pow (n := 8) hv (msk_nat i)
theorem flp_byt {f : Nat → Int} (hf : Byt f) (i : Nat) : Byt (flp f i) := by
  intro j hj
  unfold flp upd
  split
  · obtain ⟨h0, h1⟩ := hf _ (at_lt i)
    obtain ⟨v, hv⟩ := Int.eq_ofNat_of_zero_le h0
    rw [hv] at h1 ⊢
    rw [xor_math v (by omega) i]
    have := xor_lt v (by omega) i
    show 0 ≤ ((v ^^^ 2 ^ (i % 8) : Nat) : Int) ∧ ((v ^^^ 2 ^ (i % 8) : Nat) : Int) < 256
    omega
  · exact hf j hj
theorem bitOf_flp {f : Nat → Int} (hf : Byt f) (i j : Nat) (h : i / 512 = j / 512) : bitOf (flp f i) j = (bitOf f j ^^ decide (i = j)) := by
  unfold bitOf
  have hu : flp f i (j / 8 % 64) = if i / 8 % 64 = j / 8 % 64 then Go.bits .xor .u8 (f (i / 8 % 64)) (msk i) else f (j / 8 % 64) := by
    unfold flp upd
    by_cases c : i / 8 % 64 = j / 8 % 64
    · rw [if_pos (by omega), if_pos c]
    · rw [if_neg (by omega), if_neg c]
  rw [hu]
  by_cases c : i / 8 % 64 = j / 8 % 64
  · rw [if_pos c, c]
    obtain ⟨h0, h1⟩ := hf _ (at_lt j)
    obtain ⟨v, hv⟩ := Int.eq_ofNat_of_zero_le h0
    rw [hv] at h1 ⊢
    rw [xor_math v (by omega) i, Int.toNat_natCast, Int.toNat_natCast, Nat.testBit_xor, Nat.testBit_two_pow]
    have : (i % 8 = j % 8) ↔ i = j := by omega
    simp only [this]
  · rw [if_neg c]
    have : ¬ i = j := fun e => c (by rw [e])
    simp [this]
theorem bitOf_zero (i : Nat) : bitOf (fun _ => 0) i = false := by simp [bitOf]
end Go.Proofs.Ytlpbhijfdeceoaa
