import Derived.Test.YticmdeioebbgaaaD8
/- DiskStops: what is written where. -/
namespace Go.Proofs.Yticmdeioebbgaaa
set_option linter.unusedSimpArgs false
set_option linter.unusedVariables false
open Go.RowKit

theorem Try.zero52 : (Try.prog.info? 52).map (fun i => i.zero) = some (some (.agg (byts 256 fun _ => 0).toArray)) := by kernel_rfl
theorem Try.arr52 : Try.prog.underlying 52 = some (.array 256 5) := by kernel_rfl
theorem size52 (f : Nat → Int) : (Try.prog.info? 52).map (·.size) = some (byts 256 f).length := by
  rw [byts_len]
  exact (by kernel_rfl : (Try.prog.info? 52).map (·.size) = some 256)
/-- the last number that was written at a place, of the first m; 0: none -/
def wantF (ts : List Int) : Nat → Nat → Int
  | 0 => fun _ => 0
  | m + 1 => fun p => if p = (ts[m]?.getD 0).toNat then ((m + 1 : Nat) : Int) else wantF ts m p
theorem wantF_range (ts : List Int) : ∀ (m p : Nat), 0 ≤ wantF ts m p ∧ wantF ts m p ≤ m
  | 0, p => by simp [wantF]
  | m + 1, p => by
    unfold wantF
    have := wantF_range ts m p
    split <;> omega
/-- the block that holds a number: noughts for 0 -/
def cell0 (x : Int) : Nat → Int := fun i => if x = 0 then 0 else blk x i
def contF (ts : List Int) (m : Nat) : Nat → Int := fun j => cell0 (wantF ts m (j / 64)) (j % 64)
theorem contF_at (ts : List Int) (m p i : Nat) (hi : i < 64) : contF ts m (p * 64 + i) = cell0 (wantF ts m p) i := by
  unfold contF
  rw [show (p * 64 + i) / 64 = p by omega, show (p * 64 + i) % 64 = i by omega]
theorem contF_succ (ts : List Int) (m x : Nat) (hx : (ts[m]?.getD 0).toNat = x) (j : Nat) : upd (contF ts m) (x * 64) 64 (blk ((m + 1 : Nat) : Int)) j = contF ts (m + 1) j := by
  unfold upd contF
  have hw : wantF ts (m + 1) = fun p => if p = x then ((m + 1 : Nat) : Int) else wantF ts m p := by
    funext p
    show (if p = (ts[m]?.getD 0).toNat then _ else _) = _
    rw [hx]
  rw [hw]
  by_cases h : x * 64 ≤ j ∧ j < x * 64 + 64
  · rw [if_pos h]
    simp only
    rw [if_pos (show j / 64 = x by omega)]
    unfold cell0
    rw [if_neg (by omega), show j - x * 64 = j % 64 by omega]
  · rw [if_neg h]
    simp only
    rw [if_neg (show ¬ j / 64 = x by omega)]
theorem wantF_succ (ts : List Int) (m x : Nat) (hx : (ts[m]?.getD 0).toNat = x) (j : Nat) : (if j = x then ((m + 1 : Nat) : Int) else wantF ts m j) = wantF ts (m + 1) j := by
  show _ = (if j = (ts[m]?.getD 0).toNat then _ else _)
  rw [hx]
theorem Dk.congr {w : World} {d g : Nat} {s : DS} (h : Dk w d g s) (f : Nat → Int) (hf : ∀ j, s.f j = f j) : Dk w d g { s with f := f } := by
  have : s.f = f := funext hf
  subst this
  exact h
end Go.Proofs.Yticmdeioebbgaaa
