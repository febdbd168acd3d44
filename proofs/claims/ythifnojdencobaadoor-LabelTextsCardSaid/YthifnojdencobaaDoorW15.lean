import Derived.Test.YthifnojdencobaaDoorW11
import Derived.Deep.QuietTactic
import Derived.BigQuiet
import Derived.Lib.Tables
import Derived.Lib.BitFns
namespace Go.Proofs.YthifnojdencobaaDoor
open Go.RowKit

/-- the table of OnesCount16, as the dump's constant stands -/
theorem fold_pop : (⟨(([0, 1, 1, 2, 1, 2, 2, 3, 1, 2, 2, 3, 2, 3, 3, 4, 1, 2, 2, 3, 2, 3, 3, 4, 2, 3, 3, 4, 3, 4, 4, 5, 1, 2, 2, 3, 2, 3, 3, 4, 2, 3, 3, 4, 3, 4, 4, 5, 2, 3, 3, 4, 3, 4, 4, 5, 3, 4, 4, 5, 4, 5, 5, 6].append [1, 2, 2, 3, 2, 3, 3, 4, 2, 3, 3, 4, 3, 4, 4, 5, 2, 3, 3, 4, 3, 4, 4, 5, 3, 4, 4, 5, 4, 5, 5, 6, 2, 3, 3, 4, 3, 4, 4, 5, 3, 4, 4, 5, 4, 5, 5, 6, 3, 4, 4, 5, 4, 5, 5, 6, 4, 5, 5, 6, 5, 6, 6, 7]).append ([1, 2, 2, 3, 2, 3, 3, 4, 2, 3, 3, 4, 3, 4, 4, 5, 2, 3, 3, 4, 3, 4, 4, 5, 3, 4, 4, 5, 4, 5, 5, 6, 2, 3, 3, 4, 3, 4, 4, 5, 3, 4, 4, 5, 4, 5, 5, 6, 3, 4, 4, 5, 4, 5, 5, 6, 4, 5, 5, 6, 5, 6, 6, 7].append [2, 3, 3, 4, 3, 4, 4, 5, 3, 4, 4, 5, 4, 5, 5, 6, 3, 4, 4, 5, 4, 5, 5, 6, 4, 5, 5, 6, 5, 6, 6, 7, 3, 4, 4, 5, 4, 5, 5, 6, 4, 5, 5, 6, 5, 6, 6, 7, 4, 5, 5, 6, 5, 6, 6, 7, 5, 6, 6, 7, 6, 7, 7, 8])).toArray⟩ : ByteArray) = Lib.pop8tab := by decide +kernel
attribute [local go_sem high] fold_pop

theorem and255 (c : Int) (h0 : 0 ≤ c) (h1 : c < 65536) : bits .and .u16 c 255 = c % 256 := by
  obtain ⟨C, rfl⟩ := Int.eq_ofNat_of_zero_le h0
  rw [show (255 : Int) = ((255 : Nat) : Int) from rfl, u16_and_nat C 255 (by omega) (by omega), show (255 : Nat) = 2 ^ 8 - 1 from rfl, Nat.and_two_pow_sub_one_eq_mod]
  omega
theorem pop8_range (b : Int) (h0 : 0 ≤ b) (h1 : b ≤ 255) : 0 ≤ Lib.pop8 b ∧ Lib.pop8 b ≤ 8 := by
  obtain ⟨B, rfl⟩ := Int.eq_ofNat_of_zero_le h0
  have e := Lib.pop8_eq ⟨B, by omega⟩
  have l := Lib.onesCount_le8 ⟨B, by omega⟩
  simp only at e l
  omega

set_option maxHeartbeats 1000000 in
set_option maxRecDepth 100000 in
theorem ones_walk (c : Int) (w : World) (h0 : 0 ≤ c) (h1 : c < 65536) :
    Calls Tryd.prog 30 #[.int .u16 c] w fun e w' => e = .returned (.int .i64 (Lib.pop8 (c / 256) + Lib.pop8 (bits .and .u16 c 255))) ∧ ∃ n, w' = w.drewN n := by
  have g1 : 0 ≤ c / 256 := by omega
  have g2 : c / 256 ≤ 255 := by omega
  have g3 : 0 ≤ bits .and .u16 c 255 := by rw [and255 c h0 h1]; omega
  have g4 : bits .and .u16 c 255 ≤ 255 := by rw [and255 c h0 h1]; omega
  obtain ⟨g5, g6⟩ := pop8_range _ g1 g2
  obtain ⟨g7, g8⟩ := pop8_range _ g3 g4
  go_enter Tryd.func30, Tryd.ntmps30
  go_wp2_with fail
  go_quiet (fail)
  go_wp2
  go_ret
  exact ⟨rfl, _, rfl⟩

/-- how many of the bits below k are set -/
def popN (C : Nat) : Nat → Nat
  | 0 => 0
  | k + 1 => popN C k + if C.testBit k then 1 else 0
theorem popN_catL (c : Int) (h0 : 0 ≤ c) : ∀ k, k ≤ 16 → popN c.toNat k = (catL c k).length
  | 0, _ => by simp [popN, catL]
  | k + 1, hk => by
    rw [popN, popN_catL c h0 k (by omega), catL_succ]
    have := hasB_toNat c k h0 (by omega)
    rw [this]
    cases c.toNat.testBit k <;> simp
theorem pop8_popN : ∀ n : Fin 256, Lib.pop8 (n.val : Int) = (popN n.val 8 : Int) := by decide +kernel
theorem popN_split (C : Nat) : ∀ k, popN C (8 + k) = popN (C % 256) 8 + popN (C / 256) k
  | 0 => by
    simp only [Nat.add_zero, popN]
    have h : ∀ i, i < 8 → (C % 256).testBit i = C.testBit i := by
      intro i hi
      rw [show (256 : Nat) = 2 ^ 8 from rfl, Nat.testBit_mod_two_pow]
      simp [hi]
    rw [h 0 (by omega), h 1 (by omega), h 2 (by omega), h 3 (by omega), h 4 (by omega), h 5 (by omega), h 6 (by omega), h 7 (by omega)]
  | k + 1 => by
    have e : ∀ D j, popN D (j + 1) = popN D j + if D.testBit j then 1 else 0 := fun _ _ => rfl
    rw [← Nat.add_assoc, e C, popN_split C k, e (C / 256)]
    have : (C / 256).testBit k = C.testBit (8 + k) := by
      rw [show (256 : Nat) = 2 ^ 8 from rfl, Nat.testBit_div_two_pow, Nat.add_comm]
    rw [this]
    omega
theorem pop_all (c : Int) (h0 : 0 ≤ c) (h1 : c < 65536) : Lib.pop8 (c / 256) + Lib.pop8 (bits .and .u16 c 255) = ((catL c 16).length : Int) := by
  rw [and255 c h0 h1, ← popN_catL c h0 16 (by omega)]
  obtain ⟨C, rfl⟩ := Int.eq_ofNat_of_zero_le h0
  rw [Int.toNat_natCast, show (16 : Nat) = 8 + 8 from rfl, popN_split C 8]
  have e1 := pop8_popN ⟨C / 256, by omega⟩
  have e2 := pop8_popN ⟨C % 256, by omega⟩
  simp only at e1 e2
  rw [show ((C : Int) / 256) = ((C / 256 : Nat) : Int) by omega, show ((C : Int) % 256) = ((C % 256 : Nat) : Int) by omega, e1, e2]
  omega

theorem ones_any (c : Int) (w : World) (h0 : 0 ≤ c) (h1 : c < 65536) : Calls Tryd.prog 30 #[.int .u16 c] w fun e w' => e = .returned (.int .i64 ((catL c 16).length : Int)) ∧ ∃ n, w' = w.drewN n := by
  rw [← pop_all c h0 h1]; exact ones_walk c w h0 h1

set_option maxHeartbeats 400000 in
theorem rank_any (la ca : Int) (w : World) (h0 : 0 ≤ ca) (h1 : ca < 65536) (hl0 : 0 ≤ la) (hl1 : la < 256) :
    Calls Tryd.prog 15 #[.agg #[.int .u8 la, .int .u16 ca]] w fun e w' => e = .returned (.int .i64 (la + (catL ca 16).length)) ∧ Below w.heap.size w w' := by
  have hlen := catL_len ca 16
  go_enter Tryd.func15, Tryd.ntmps15
  go_wp2_with fail
  go_quiet ((go_at_call 30; exact Calls.quiet_of (ones_any ca _ h0 h1)))
  go_wp2
  go_ret
  exact ⟨rfl, below_drewN' ((Below.refl _ _).alloc (Nat.le_refl _) _) _⟩
end Go.Proofs.YthifnojdencobaaDoor
