import Derived.Test.YtfkiinbmbbhbkaaDoorT1
namespace Go.Proofs.YtfkiinbmbbhbkaaDoor
set_option linter.unusedSimpArgs false
set_option linter.unusedVariables false
open Go.RowKit

def isD (b : UInt8) : Bool := decide (48 ≤ b.toNat) && decide (b.toNat ≤ 57)
/-- a number of one or two digits without noughts ahead -/
def numO : List UInt8 → Option Nat
  | [a] => if isD a then some (a.toNat - 48) else none
  | [a, b] => if a.toNat = 48 then none else if isD a && isD b then some ((a.toNat - 48) * 10 + (b.toNat - 48)) else none
  | _ => none
def NumPost (s : List UInt8) (w : World) (e : Ending) (w' : World) : Prop := e = .returned (.tuple #[.int .i64 (((numO s).getD 0 : Nat) : Int), .bool (numO s).isSome]) ∧ Below w.heap.size w w'

set_option maxRecDepth 100000 in
set_option maxHeartbeats 1000000 in
theorem number_one (a : UInt8) (w : World) : Calls Tryd.prog 85 #[.string ⟨#[a]⟩] w (NumPost [a] w) := by
  have hlt := a.toNat_lt
  have hb : (⟨#[a]⟩ : ByteArray)[0]'(by show 0 < 1; omega) = a := rfl
  by_cases h1 : a.toNat < 48
  · have HN : Hid (numO [a] = none) := by
      show numO [a] = _
      rw [numO, if_neg (by simp [isD]; omega)]
    have h1' : (a.toNat : Int) < 48 := by omega
    go_enter Tryd.func85, Tryd.ntmps85
    go_wp2_with fail
    refine wp_loop_rounds 3 ?_
    rw [rounds_succ]
    go_wp2_with fail
    go_ret2
    exact ⟨by rw [HN.out]; rfl, Below.refl _ _⟩
  · by_cases h2 : 57 < a.toNat
    · have HN : Hid (numO [a] = none) := by
        show numO [a] = _
        rw [numO, if_neg (by simp [isD]; omega)]
      have h1' : ¬ (a.toNat : Int) < 48 := by omega
      have h2' : (57 : Int) < (a.toNat : Int) := by omega
      go_enter Tryd.func85, Tryd.ntmps85
      go_wp2_with fail
      refine wp_loop_rounds 3 ?_
      rw [rounds_succ]
      go_wp2_with fail
      go_ret2
      exact ⟨by rw [HN.out]; rfl, Below.refl _ _⟩
    · have HN : Hid (numO [a] = some (a.toNat - 48)) := by
        show numO [a] = _
        rw [numO, if_pos (by simp [isD]; omega)]
      have h1' : ¬ (a.toNat : Int) < 48 := by omega
      have h2' : ¬ (57 : Int) < (a.toNat : Int) := by omega
      have hw1 : IntKind.u8.wrap ((a.toNat : Int) - 48) = ((a.toNat - 48 : Nat) : Int) := by rw [IntWalk.u8_in _ (by omega)]; omega
      go_enter Tryd.func85, Tryd.ntmps85
      go_wp2_with fail
      refine wp_loop_rounds 3 ?_
      rw [rounds_succ]
      go_wp2_with fail
      rw [rounds_succ]
      go_wp2_with fail
      go_ret2
      exact ⟨by rw [HN.out]; rfl, Below.refl _ _⟩
set_option maxRecDepth 100000 in
set_option maxHeartbeats 2000000 in
theorem number_two (a b : UInt8) (w : World) : Calls Tryd.prog 85 #[.string ⟨#[a, b]⟩] w (NumPost [a, b] w) := by
  have hlta := a.toNat_lt
  have hltb := b.toNat_lt
  have hb0 : (⟨#[a, b]⟩ : ByteArray)[0]'(by show 0 < 2; omega) = a := rfl
  have hb1 : (⟨#[a, b]⟩ : ByteArray)[1]'(by show 1 < 2; omega) = b := rfl
  by_cases h0 : a.toNat = 48
  · have HN : Hid (numO [a, b] = none) := by
      show numO [a, b] = _
      rw [numO, if_pos h0]
    have h0' : (a.toNat : Int) = 48 := by omega
    clear h0
    go_enter Tryd.func85, Tryd.ntmps85
    go_wp2_with fail
    go_ret2
    exact ⟨by rw [HN.out]; rfl, Below.refl _ _⟩
  · by_cases h1 : a.toNat < 48
    · have HN : Hid (numO [a, b] = none) := by
        show numO [a, b] = _
        rw [numO, if_neg h0, if_neg (by simp [isD]; omega)]
      have h0' : ¬ (a.toNat : Int) = 48 := by omega
      have h0'' : ((a.toNat : Int) == 48) = false := by simp; omega
      have h1' : (a.toNat : Int) < 48 := by omega
      go_enter Tryd.func85, Tryd.ntmps85
      go_wp2_with fail
      refine wp_loop_rounds 3 ?_
      rw [rounds_succ]
      go_wp2_with fail
      go_ret2
      exact ⟨by rw [HN.out]; rfl, Below.refl _ _⟩
    · by_cases h2 : 57 < a.toNat
      · have HN : Hid (numO [a, b] = none) := by
          show numO [a, b] = _
          rw [numO, if_neg h0, if_neg (by simp [isD]; omega)]
        have h0' : ¬ (a.toNat : Int) = 48 := by omega
        have h0'' : ((a.toNat : Int) == 48) = false := by simp; omega
        have h1' : ¬ (a.toNat : Int) < 48 := by omega
        have h2' : (57 : Int) < (a.toNat : Int) := by omega
        go_enter Tryd.func85, Tryd.ntmps85
        go_wp2_with fail
        refine wp_loop_rounds 3 ?_
        rw [rounds_succ]
        go_wp2_with fail
        go_ret2
        exact ⟨by rw [HN.out]; rfl, Below.refl _ _⟩
      · by_cases h3 : b.toNat < 48
        · have HN : Hid (numO [a, b] = none) := by
            show numO [a, b] = _
            rw [numO, if_neg h0, if_neg (by simp [isD]; omega)]
          have h0' : ¬ (a.toNat : Int) = 48 := by omega
          have h0'' : ((a.toNat : Int) == 48) = false := by simp; omega
          have h1' : ¬ (a.toNat : Int) < 48 := by omega
          have h2' : ¬ (57 : Int) < (a.toNat : Int) := by omega
          have hw1 : IntKind.u8.wrap ((a.toNat : Int) - 48) = ((a.toNat - 48 : Nat) : Int) := by rw [IntWalk.u8_in _ (by omega)]; omega
          have h3' : (b.toNat : Int) < 48 := by omega
          go_enter Tryd.func85, Tryd.ntmps85
          go_wp2_with fail
          refine wp_loop_rounds 3 ?_
          rw [rounds_succ]
          go_wp2_with fail
          rw [rounds_succ]
          go_wp2_with fail
          go_ret2
          exact ⟨by rw [HN.out]; rfl, Below.refl _ _⟩
        · by_cases h4 : 57 < b.toNat
          · have HN : Hid (numO [a, b] = none) := by
              show numO [a, b] = _
              rw [numO, if_neg h0, if_neg (by simp [isD]; omega)]
            have h0' : ¬ (a.toNat : Int) = 48 := by omega
            have h0'' : ((a.toNat : Int) == 48) = false := by simp; omega
            have h1' : ¬ (a.toNat : Int) < 48 := by omega
            have h2' : ¬ (57 : Int) < (a.toNat : Int) := by omega
            have hw1 : IntKind.u8.wrap ((a.toNat : Int) - 48) = ((a.toNat - 48 : Nat) : Int) := by rw [IntWalk.u8_in _ (by omega)]; omega
            have h3' : ¬ (b.toNat : Int) < 48 := by omega
            have h4' : (57 : Int) < (b.toNat : Int) := by omega
            go_enter Tryd.func85, Tryd.ntmps85
            go_wp2_with fail
            refine wp_loop_rounds 3 ?_
            rw [rounds_succ]
            go_wp2_with fail
            rw [rounds_succ]
            go_wp2_with fail
            go_ret2
            exact ⟨by rw [HN.out]; rfl, Below.refl _ _⟩
          · have HN : Hid (numO [a, b] = some ((a.toNat - 48) * 10 + (b.toNat - 48))) := by
              show numO [a, b] = _
              rw [numO, if_neg h0, if_pos (by simp [isD]; omega)]
            have h0' : ¬ (a.toNat : Int) = 48 := by omega
            have h0'' : ((a.toNat : Int) == 48) = false := by simp; omega
            have h1' : ¬ (a.toNat : Int) < 48 := by omega
            have h2' : ¬ (57 : Int) < (a.toNat : Int) := by omega
            have hw1 : IntKind.u8.wrap ((a.toNat : Int) - 48) = ((a.toNat - 48 : Nat) : Int) := by rw [IntWalk.u8_in _ (by omega)]; omega
            have h3' : ¬ (b.toNat : Int) < 48 := by omega
            have h4' : ¬ (57 : Int) < (b.toNat : Int) := by omega
            have hw2 : IntKind.u8.wrap ((b.toNat : Int) - 48) = ((b.toNat - 48 : Nat) : Int) := by rw [IntWalk.u8_in _ (by omega)]; omega
            have hw3 : IntKind.i64.wrap (((a.toNat - 48 : Nat) : Int) * 10) = ((a.toNat - 48 : Nat) : Int) * 10 := IntWalk.i64_in _ (by omega)
            have hw4 : IntKind.i64.wrap (((a.toNat - 48 : Nat) : Int) * 10 + ((b.toNat - 48 : Nat) : Int)) = (((a.toNat - 48) * 10 + (b.toNat - 48) : Nat) : Int) := by rw [IntWalk.i64_in _ (by omega)]; omega
            go_enter Tryd.func85, Tryd.ntmps85
            go_wp2_with fail
            refine wp_loop_rounds 3 ?_
            rw [rounds_succ]
            go_wp2_with fail
            rw [rounds_succ]
            go_wp2_with fail
            rw [rounds_succ]
            go_wp2_with fail
            go_ret2
            exact ⟨by rw [HN.out]; rfl, Below.refl _ _⟩
set_option maxRecDepth 100000 in
set_option maxHeartbeats 1000000 in
theorem number_none (w : World) : Calls Tryd.prog 85 #[.string ⟨#[]⟩] w (NumPost [] w) := by
  go_enter Tryd.func85, Tryd.ntmps85
  go_wp2_with fail
  go_ret2
  exact ⟨rfl, Below.refl _ _⟩
set_option maxRecDepth 100000 in
set_option maxHeartbeats 1000000 in
theorem number_many (s : List UInt8) (w : World) (h : 2 < s.length) (hm : s.length < 4294967281) : Calls Tryd.prog 85 #[.string ⟨s.toArray⟩] w (NumPost s w) := by
  have HN : Hid (numO s = none) := by
    show numO s = none
    match s, h with
    | a :: b :: c :: r, _ => rfl
  have hsz : (⟨s.toArray⟩ : ByteArray).size = s.length := by show s.toArray.size = _; simp
  have h2 : (2 : Int) < (s.length : Int) := by omega
  generalize (⟨s.toArray⟩ : ByteArray) = S at *
  go_enter Tryd.func85, Tryd.ntmps85
  go_wp2_with fail
  go_ret2
  exact ⟨by rw [HN.out]; rfl, Below.refl _ _⟩
set_option maxRecDepth 100000 in
theorem number_any (s : List UInt8) (w : World) (hm : s.length < 4294967281) : Calls Tryd.prog 85 #[.string ⟨s.toArray⟩] w (NumPost s w) := by
  match s with
  | [] => exact number_none w
  | [a] => exact number_one a w
  | [a, b] => exact number_two a b w
  | a :: b :: c :: r => exact number_many (a :: b :: c :: r) w (by simp) hm
end Go.Proofs.YtfkiinbmbbhbkaaDoor
