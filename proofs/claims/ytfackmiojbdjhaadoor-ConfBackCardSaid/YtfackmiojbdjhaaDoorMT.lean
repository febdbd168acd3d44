import Derived.Test.YtfackmiojbdjhaaDoorW12
import Derived.IntWalk
import Derived.Laws.IdiomStrings
import Derived.Lib.ItoaLen
import Derived.Test.YtfackmiojbdjhaaDoorW17
import Derived.Lib.IndexBytes
import Derived.Deep.DeepCutAuto
import Derived.Lib.SmallJoins
import Derived.Laws.AppendOwnNone

namespace Go.Proofs.YtfackmiojbdjhaaDoor
set_option linter.unusedSimpArgs false
set_option linter.unusedVariables false
open Go.RowKit

set_option maxRecDepth 100000 in
theorem digit_conv (N : Nat) (w : World) : Sem.run Tryd.prog (convert 26 9 (.slice (some ⟨w.heap.size, 0, none⟩) 1 1)) (w.alloc (.cells #[.int .u8 (48 + (N : Int) % 10)] 5)) = .ok (.string ⟨#[UInt8.ofNat (48 + N % 10)]⟩) (w.alloc (.cells #[.int .u8 (48 + (N : Int) % 10)] 5)) := by
  refine run_convert_bytes_back (P := Tryd.prog) _ 26 9 5 ⟨w.heap.size, 0, none⟩ 1 [UInt8.ofNat (48 + N % 10)] Tryd.underlying26 Tryd.underlying5 Tryd.underlying9 (fun j hj => ?_)
  obtain rfl : j = 0 := by simpa using hj
  have : ((UInt8.ofNat (48 + N % 10)).toNat : Int) = 48 + (N : Int) % 10 := by
    rw [UInt8.toNat_ofNat']
    omega
  have h2 : (48 + (N : Int) % 10) % 256 = 48 + (N : Int) % 10 := by omega
  simp [Addr.add, h2]

set_option maxRecDepth 100000 in
set_option maxHeartbeats 1000000 in
/-- the document's answer's own Itoa: the decimal numeral -/
theorem refitoa_nat (N : Nat) : N < 1000000 → ∀ w, Calls Tryd.prog 64 #[.int .i64 (N : Int)] w fun e w' => e = .returned (.string ⟨(Lib.decDigits N).toArray⟩) ∧ Below w.heap.size w w' := by
  induction N using Nat.strongRecOn with
  | ind N ih =>
    intro hN w
    have IH := Lib.hid ih
    clear ih
    have h0 : (0 : Int) ≤ (N : Int) := by omega
    have hcv := digit_conv N w
    have hB : Below w.heap.size w (w.alloc (.cells #[.int .u8 (48 + (N : Int) % 10)] 5)) := (Below.refl _ w).alloc (Nat.le_refl _) _
    by_cases h9 : 9 < N
    · have h9' : (9 : Int) < (N : Int) := by omega
      have HD : Hid (Lib.decDigits N = Lib.decDigits (N / 10) ++ [UInt8.ofNat (48 + N % 10)]) := by
        show Lib.decDigits N = _
        rw [Lib.decDigits, dif_neg (by omega)]
      have hl : (Lib.decDigits (N / 10)).length ≤ 20 := by
        rw [Lib.decDigits_length]
        exact Lib.nDigits_le20 _ (by omega)
      generalize UInt8.ofNat (48 + N % 10) = dg at *
      have HB := Lib.hid hB
      clear hB
      go_enter Tryd.func64, Tryd.ntmps64
      go_wp2_with fail
      rw [show (N : Int) / 10 = ((N / 10 : Nat) : Int) by omega]
      refine (IH.out (N / 10) (by omega) (by omega) _).mono ?_
      rintro e w1 ⟨rfl, hb1⟩
      have HB1 := Lib.hid (HB.out.trans (hb1.mono HB.out.size))
      clear hcv hb1
      generalize Lib.decDigits (N / 10) = D at *
      have he : (⟨D.toArray⟩ ++ ⟨#[dg]⟩ : ByteArray) = ⟨(D ++ [dg]).toArray⟩ := by
        apply ByteArray.ext; simp
      have HE := Lib.hid he
      clear he
      go_wp2
      go_ret
      refine ⟨?_, HB1.out⟩
      rw [HD.out, ← HE.out]
      rfl
    · have h9' : ¬ (9 : Int) < (N : Int) := by omega
      have HD : Hid (Lib.decDigits N = [UInt8.ofNat (48 + N % 10)]) := by
        show Lib.decDigits N = _
        rw [Lib.decDigits_one (by omega), show N % 10 = N by omega]
      generalize UInt8.ofNat (48 + N % 10) = dg at *
      have HB := Lib.hid hB
      clear hB
      go_enter Tryd.func64, Tryd.ntmps64
      go_wp2
      go_ret
      rw [HD.out]
      exact ⟨rfl, HB.out⟩
set_option maxRecDepth 100000 in
theorem refitoa_any (n : Int) (w : World) (h0 : 0 ≤ n) (h1 : n < 1000000) : Calls Tryd.prog 64 #[.int .i64 n] w fun e w' => e = .returned (.string ⟨(Lib.itoa n).toArray⟩) ∧ Below w.heap.size w w' := by
  obtain ⟨N, rfl⟩ := Int.eq_ofNat_of_zero_le h0
  rw [Lib.itoa_nonneg]
  exact refitoa_nat N (by omega) w
end Go.Proofs.YtfackmiojbdjhaaDoor


namespace Go.Proofs.YtfackmiojbdjhaaDoor
set_option linter.unusedSimpArgs false
set_option linter.unusedVariables false
open Go.RowKit

def isD (b : UInt8) : Bool := decide (48 ≤ b.toNat) && decide (b.toNat ≤ 57)
/-- a number of one or two digits without noughts ahead -/
def numO : List UInt8 → Option Nat
  | [a] => if isD a then some (a.toNat - 48) else none
  | [a, b] => if a.toNat = 48 then none else if isD a && isD b then some ((a.toNat - 48) * 10 + (b.toNat - 48)) else none
  | _ => none
def NumPost (s : List UInt8) (w : World) (e : Ending) (w' : World) : Prop := e = .returned (.tuple #[.int .i64 (((numO s).getD 0 : Nat) : Int), .bool (numO s).isSome]) ∧ Below w.heap.size w w'

set_option maxRecDepth 100000 in
set_option maxHeartbeats 1000000 in
theorem number_one (a : UInt8) (w : World) : Calls Tryd.prog 85 #[.string ⟨#[a]⟩] w (NumPost [a] w) := by
  have hlt := a.toNat_lt
  have hb : (⟨#[a]⟩ : ByteArray)[0]'(by show 0 < 1; omega) = a := rfl
  by_cases h1 : a.toNat < 48
  · have HN : Hid (numO [a] = none) := by
      show numO [a] = _
      rw [numO, if_neg (by simp [isD]; omega)]
    have h1' : (a.toNat : Int) < 48 := by omega
    go_enter Tryd.func85, Tryd.ntmps85
    go_wp2_with fail
    refine wp_loop_rounds 3 ?_
    rw [rounds_succ]
    go_wp2_with fail
    go_ret2
    exact ⟨by rw [HN.out]; rfl, Below.refl _ _⟩
  · by_cases h2 : 57 < a.toNat
    · have HN : Hid (numO [a] = none) := by
        show numO [a] = _
        rw [numO, if_neg (by simp [isD]; omega)]
      have h1' : ¬ (a.toNat : Int) < 48 := by omega
      have h2' : (57 : Int) < (a.toNat : Int) := by omega
      go_enter Tryd.func85, Tryd.ntmps85
      go_wp2_with fail
      refine wp_loop_rounds 3 ?_
      rw [rounds_succ]
      go_wp2_with fail
      go_ret2
      exact ⟨by rw [HN.out]; rfl, Below.refl _ _⟩
    · have HN : Hid (numO [a] = some (a.toNat - 48)) := by
        show numO [a] = _
        rw [numO, if_pos (by simp [isD]; omega)]
      have h1' : ¬ (a.toNat : Int) < 48 := by omega
      have h2' : ¬ (57 : Int) < (a.toNat : Int) := by omega
      have hw1 : IntKind.u8.wrap ((a.toNat : Int) - 48) = ((a.toNat - 48 : Nat) : Int) := by rw [IntWalk.u8_in _ (by omega)]; omega
      go_enter Tryd.func85, Tryd.ntmps85
      go_wp2_with fail
      refine wp_loop_rounds 3 ?_
      rw [rounds_succ]
      go_wp2_with fail
      rw [rounds_succ]
      go_wp2_with fail
      go_ret2
      exact ⟨by rw [HN.out]; rfl, Below.refl _ _⟩
set_option maxRecDepth 100000 in
set_option maxHeartbeats 2000000 in
theorem number_two (a b : UInt8) (w : World) : Calls Tryd.prog 85 #[.string ⟨#[a, b]⟩] w (NumPost [a, b] w) := by
  have hlta := a.toNat_lt
  have hltb := b.toNat_lt
  have hb0 : (⟨#[a, b]⟩ : ByteArray)[0]'(by show 0 < 2; omega) = a := rfl
  have hb1 : (⟨#[a, b]⟩ : ByteArray)[1]'(by show 1 < 2; omega) = b := rfl
  by_cases h0 : a.toNat = 48
  · have HN : Hid (numO [a, b] = none) := by
      show numO [a, b] = _
      rw [numO, if_pos h0]
    have h0' : (a.toNat : Int) = 48 := by omega
    clear h0
    go_enter Tryd.func85, Tryd.ntmps85
    go_wp2_with fail
    go_ret2
    exact ⟨by rw [HN.out]; rfl, Below.refl _ _⟩
  · by_cases h1 : a.toNat < 48
    · have HN : Hid (numO [a, b] = none) := by
        show numO [a, b] = _
        rw [numO, if_neg h0, if_neg (by simp [isD]; omega)]
      have h0' : ¬ (a.toNat : Int) = 48 := by omega
      have h0'' : ((a.toNat : Int) == 48) = false := by simp; omega
      have h1' : (a.toNat : Int) < 48 := by omega
      go_enter Tryd.func85, Tryd.ntmps85
      go_wp2_with fail
      refine wp_loop_rounds 3 ?_
      rw [rounds_succ]
      go_wp2_with fail
      go_ret2
      exact ⟨by rw [HN.out]; rfl, Below.refl _ _⟩
    · by_cases h2 : 57 < a.toNat
      · have HN : Hid (numO [a, b] = none) := by
          show numO [a, b] = _
          rw [numO, if_neg h0, if_neg (by simp [isD]; omega)]
        have h0' : ¬ (a.toNat : Int) = 48 := by omega
        have h0'' : ((a.toNat : Int) == 48) = false := by simp; omega
        have h1' : ¬ (a.toNat : Int) < 48 := by omega
        have h2' : (57 : Int) < (a.toNat : Int) := by omega
        go_enter Tryd.func85, Tryd.ntmps85
        go_wp2_with fail
        refine wp_loop_rounds 3 ?_
        rw [rounds_succ]
        go_wp2_with fail
        go_ret2
        exact ⟨by rw [HN.out]; rfl, Below.refl _ _⟩
      · by_cases h3 : b.toNat < 48
        · have HN : Hid (numO [a, b] = none) := by
            show numO [a, b] = _
            rw [numO, if_neg h0, if_neg (by simp [isD]; omega)]
          have h0' : ¬ (a.toNat : Int) = 48 := by omega
          have h0'' : ((a.toNat : Int) == 48) = false := by simp; omega
          have h1' : ¬ (a.toNat : Int) < 48 := by omega
          have h2' : ¬ (57 : Int) < (a.toNat : Int) := by omega
          have hw1 : IntKind.u8.wrap ((a.toNat : Int) - 48) = ((a.toNat - 48 : Nat) : Int) := by rw [IntWalk.u8_in _ (by omega)]; omega
          have h3' : (b.toNat : Int) < 48 := by omega
          go_enter Tryd.func85, Tryd.ntmps85
          go_wp2_with fail
          refine wp_loop_rounds 3 ?_
          rw [rounds_succ]
          go_wp2_with fail
          rw [rounds_succ]
          go_wp2_with fail
          go_ret2
          exact ⟨by rw [HN.out]; rfl, Below.refl _ _⟩
        · by_cases h4 : 57 < b.toNat
          · have HN : Hid (numO [a, b] = none) := by
              show numO [a, b] = _
              rw [numO, if_neg h0, if_neg (by simp [isD]; omega)]
            have h0' : ¬ (a.toNat : Int) = 48 := by omega
            have h0'' : ((a.toNat : Int) == 48) = false := by simp; omega
            have h1' : ¬ (a.toNat : Int) < 48 := by omega
            have h2' : ¬ (57 : Int) < (a.toNat : Int) := by omega
            have hw1 : IntKind.u8.wrap ((a.toNat : Int) - 48) = ((a.toNat - 48 : Nat) : Int) := by rw [IntWalk.u8_in _ (by omega)]; omega
            have h3' : ¬ (b.toNat : Int) < 48 := by omega
            have h4' : (57 : Int) < (b.toNat : Int) := by omega
            go_enter Tryd.func85, Tryd.ntmps85
            go_wp2_with fail
            refine wp_loop_rounds 3 ?_
            rw [rounds_succ]
            go_wp2_with fail
            rw [rounds_succ]
            go_wp2_with fail
            go_ret2
            exact ⟨by rw [HN.out]; rfl, Below.refl _ _⟩
          · have HN : Hid (numO [a, b] = some ((a.toNat - 48) * 10 + (b.toNat - 48))) := by
              show numO [a, b] = _
              rw [numO, if_neg h0, if_pos (by simp [isD]; omega)]
            have h0' : ¬ (a.toNat : Int) = 48 := by omega
            have h0'' : ((a.toNat : Int) == 48) = false := by simp; omega
            have h1' : ¬ (a.toNat : Int) < 48 := by omega
            have h2' : ¬ (57 : Int) < (a.toNat : Int) := by omega
            have hw1 : IntKind.u8.wrap ((a.toNat : Int) - 48) = ((a.toNat - 48 : Nat) : Int) := by rw [IntWalk.u8_in _ (by omega)]; omega
            have h3' : ¬ (b.toNat : Int) < 48 := by omega
            have h4' : ¬ (57 : Int) < (b.toNat : Int) := by omega
            have hw2 : IntKind.u8.wrap ((b.toNat : Int) - 48) = ((b.toNat - 48 : Nat) : Int) := by rw [IntWalk.u8_in _ (by omega)]; omega
            have hw3 : IntKind.i64.wrap (((a.toNat - 48 : Nat) : Int) * 10) = ((a.toNat - 48 : Nat) : Int) * 10 := IntWalk.i64_in _ (by omega)
            have hw4 : IntKind.i64.wrap (((a.toNat - 48 : Nat) : Int) * 10 + ((b.toNat - 48 : Nat) : Int)) = (((a.toNat - 48) * 10 + (b.toNat - 48) : Nat) : Int) := by rw [IntWalk.i64_in _ (by omega)]; omega
            go_enter Tryd.func85, Tryd.ntmps85
            go_wp2_with fail
            refine wp_loop_rounds 3 ?_
            rw [rounds_succ]
            go_wp2_with fail
            rw [rounds_succ]
            go_wp2_with fail
            rw [rounds_succ]
            go_wp2_with fail
            go_ret2
            exact ⟨by rw [HN.out]; rfl, Below.refl _ _⟩
set_option maxRecDepth 100000 in
set_option maxHeartbeats 1000000 in
theorem number_none (w : World) : Calls Tryd.prog 85 #[.string ⟨#[]⟩] w (NumPost [] w) := by
  go_enter Tryd.func85, Tryd.ntmps85
  go_wp2_with fail
  go_ret2
  exact ⟨rfl, Below.refl _ _⟩
set_option maxRecDepth 100000 in
set_option maxHeartbeats 1000000 in
theorem number_many (s : List UInt8) (w : World) (h : 2 < s.length) (hm : s.length < 4294967281) : Calls Tryd.prog 85 #[.string ⟨s.toArray⟩] w (NumPost s w) := by
  have HN : Hid (numO s = none) := by
    show numO s = none
    match s, h with
    | a :: b :: c :: r, _ => rfl
  have hsz : (⟨s.toArray⟩ : ByteArray).size = s.length := by show s.toArray.size = _; simp
  have h2 : (2 : Int) < (s.length : Int) := by omega
  generalize (⟨s.toArray⟩ : ByteArray) = S at *
  go_enter Tryd.func85, Tryd.ntmps85
  go_wp2_with fail
  go_ret2
  exact ⟨by rw [HN.out]; rfl, Below.refl _ _⟩
set_option maxRecDepth 100000 in
theorem number_any (s : List UInt8) (w : World) (hm : s.length < 4294967281) : Calls Tryd.prog 85 #[.string ⟨s.toArray⟩] w (NumPost s w) := by
  match s with
  | [] => exact number_none w
  | [a] => exact number_one a w
  | [a, b] => exact number_two a b w
  | a :: b :: c :: r => exact number_many (a :: b :: c :: r) w (by simp) hm
end Go.Proofs.YtfackmiojbdjhaaDoor


namespace Go.Proofs.YtfackmiojbdjhaaDoor
set_option linter.unusedSimpArgs false
set_option linter.unusedVariables false
open Go.RowKit

/-- the text ahead of the first c, and what stands behind it, if there is one -/
def splitC (c : UInt8) : List UInt8 → List UInt8 × Option (List UInt8)
  | [] => ([], none)
  | x :: r => if x = c then ([], some r) else (x :: (splitC c r).1, (splitC c r).2)
set_option maxRecDepth 100000 in
theorem splitC_none (c : UInt8) : ∀ s, (splitC c s).2 = none → (splitC c s).1 = s ∧ ∀ x ∈ s, x ≠ c
  | [], _ => ⟨rfl, by simp⟩
  | x :: r, h => by
    rw [splitC] at h ⊢
    split
    · rename_i hx; rw [if_pos hx] at h; cases h
    · rename_i hx
      rw [if_neg hx] at h
      obtain ⟨h1, h2⟩ := splitC_none c r h
      refine ⟨by simp [h1], fun y hy => ?_⟩
      rcases List.mem_cons.1 hy with rfl | hy
      · exact hx
      · exact h2 y hy
set_option maxRecDepth 100000 in
theorem splitC_some (c : UInt8) : ∀ s t, (splitC c s).2 = some t → s = (splitC c s).1 ++ c :: t ∧ ∀ x ∈ (splitC c s).1, x ≠ c
  | [], _, h => by cases h
  | x :: r, t, h => by
    rw [splitC] at h ⊢
    split
    · rename_i hx
      rw [if_pos hx] at h
      injection h with h
      subst h hx
      exact ⟨rfl, by simp⟩
    · rename_i hx
      rw [if_neg hx] at h
      obtain ⟨h1, h2⟩ := splitC_some c r t h
      refine ⟨congrArg (x :: ·) h1, fun y hy => ?_⟩
      rcases List.mem_cons.1 hy with rfl | hy
      · exact hx
      · exact h2 y hy
set_option maxRecDepth 100000 in
theorem splitC_app (c : UInt8) : ∀ (h t : List UInt8), (∀ x ∈ h, x ≠ c) → splitC c (h ++ c :: t) = (h, some t)
  | [], t, _ => by rw [List.nil_append, splitC, if_pos rfl]
  | x :: r, t, h => by
    rw [List.cons_append, splitC, if_neg (h x (List.mem_cons_self ..)), splitC_app c r t (fun y hy => h y (List.mem_cons_of_mem _ hy))]
set_option maxRecDepth 100000 in
theorem splitC_all (c : UInt8) : ∀ (h : List UInt8), (∀ x ∈ h, x ≠ c) → splitC c h = (h, none)
  | [], _ => rfl
  | x :: r, h => by
    rw [splitC, if_neg (h x (List.mem_cons_self ..)), splitC_all c r (fun y hy => h y (List.mem_cons_of_mem _ hy))]
set_option maxRecDepth 100000 in
theorem splitC_lt (c : UInt8) (s t : List UInt8) (h : (splitC c s).2 = some t) : t.length < s.length := by
  have := congrArg List.length (splitC_some c s t h).1
  rw [List.length_append, List.length_cons] at this
  omega
set_option maxRecDepth 100000 in
theorem digits_isD (n : Fin 100) : ((Lib.decDigits n.val).all isD) = true ∧ numO (Lib.decDigits n.val) = some n.val := by
  revert n; decide +kernel
set_option maxRecDepth 100000 in
theorem numO_digits (n : Nat) (h : n < 100) : numO (Lib.decDigits n) = some n := (digits_isD ⟨n, h⟩).2
set_option maxRecDepth 100000 in
theorem digits_ne (n : Nat) (h : n < 100) (c : UInt8) (hc : isD c = false) : ∀ x ∈ Lib.decDigits n, x ≠ c := by
  intro x hx he
  have := List.all_eq_true.1 (digits_isD ⟨n, h⟩).1 x hx
  rw [he, hc] at this; cases this
set_option maxRecDepth 100000 in
theorem isD_of {b : UInt8} (h : isD b = true) : ∃ k : Nat, k < 10 ∧ b = UInt8.ofNat (48 + k) ∧ b.toNat - 48 = k := by
  simp only [isD, Bool.and_eq_true, decide_eq_true_eq] at h
  refine ⟨b.toNat - 48, by omega, ?_, rfl⟩
  apply UInt8.toNat_inj.1
  rw [UInt8.toNat_ofNat']
  have := b.toNat_lt
  omega
set_option maxRecDepth 100000 in
theorem numO_is (h : List UInt8) (n : Nat) (hn : numO h = some n) : n < 100 ∧ h = Lib.decDigits n := by
  match h, hn with
  | [], hn => cases hn
  | [a], hn =>
    rw [numO] at hn
    split at hn
    · rename_i ha
      obtain ⟨k, hk, rfl, e⟩ := isD_of ha
      rw [e] at hn
      injection hn with hn
      subst hn
      exact ⟨by omega, (Lib.decDigits_one hk).symm⟩
    · cases hn
  | [a, b], hn =>
    rw [numO] at hn
    split at hn
    · cases hn
    · rename_i h0
      split at hn
      · rename_i hab
        rw [Bool.and_eq_true] at hab
        obtain ⟨k, hk, rfl, e⟩ := isD_of hab.1
        obtain ⟨m, hm, rfl, e2⟩ := isD_of hab.2
        rw [e, e2] at hn
        injection hn with hn
        have hk0 : 0 < k := by
          rcases Nat.eq_zero_or_pos k with h | h
          · subst h; exact absurd (by decide) h0
          · exact h
        subst hn
        refine ⟨by omega, ?_⟩
        rw [Lib.decDigits_two (by omega) (by omega), show (k * 10 + m) / 10 = k by omega, show (k * 10 + m) % 10 = m by omega]
      · cases hn
  | a :: b :: c :: r, hn => cases hn

/-- a list of numbers with commas between, strictly rising from above 'last' on; and whether the text is one -/
def listO (s : List UInt8) (last : Int) : List Int × Bool :=
  match numO (splitC 44 s).1 with
  | none => ([], false)
  | some n => if (n : Int) ≤ last then ([], false) else match _ht : (splitC 44 s).2 with
    | none => ([(n : Int)], true)
    | some t => ((n : Int) :: (listO t n).1, (listO t n).2)
termination_by s.length
decreasing_by all_goals exact splitC_lt 44 s t _ht
set_option maxRecDepth 100000 in
theorem listO_len (s : List UInt8) (last : Int) : (listO s last).1.length ≤ s.length + 1 := by
  induction s using (measure List.length).wf.induction generalizing last with
  | _ s ih =>
    rw [listO]
    split
    · simp
    · split
      · simp
      · split
        · simp
        · rename_i t ht
          have h1 := splitC_lt 44 s t ht
          have h2 := ih t h1 (Int.ofNat ‹Nat›)
          simp only [List.length_cons]
          have h3 : (listO t (Int.ofNat ‹Nat›)).1.length = (listO t ((‹Nat› : Nat) : Int)).1.length := rfl
          omega
end Go.Proofs.YtfackmiojbdjhaaDoor


namespace Go.Proofs.YtfackmiojbdjhaaDoor
set_option linter.unusedSimpArgs false
set_option linter.unusedVariables false
open Go.RowKit

set_option maxRecDepth 100000 in
theorem byte_split (c : UInt8) : ∀ s : List UInt8, Lib.indexByte s c = (match (splitC c s).2 with | none => -1 | some _ => ((splitC c s).1.length : Int))
  | [] => rfl
  | x :: r => by
    rw [Lib.indexByte, splitC, byte_split c r]
    by_cases h : x = c
    · rw [if_pos (by simpa using h), if_pos h]; rfl
    · rw [if_neg (by simpa using h), if_neg h]
      cases hq : (splitC c r).2 with
      | none => simp
      | some t =>
        rw [if_neg (by simp)]
        simp
set_option maxRecDepth 100000 in
theorem cut_split (c : UInt8) (s : List UInt8) : Lib.cut s [c] = ((splitC c s).1, (splitC c s).2.getD [], (splitC c s).2.isSome) := by
  unfold Lib.cut
  rw [Lib.index_one, byte_split]
  cases hq : (splitC c s).2 with
  | none => simp [(splitC_none c s hq).1]
  | some t =>
    obtain ⟨h1, -⟩ := splitC_some c s t hq
    simp only [Int.natCast_nonneg, if_true, Int.toNat_natCast, List.length_singleton, Option.getD_some, Option.isSome_some]
    generalize (splitC c s).1 = h at *
    subst h1
    have e1 : (h ++ c :: t).take h.length = h := by simp
    have e2 : (h ++ c :: t).drop (h.length + 1) = t := by
      rw [List.drop_append, Nat.add_sub_cancel_left, List.drop_eq_nil_of_le (by omega)]; rfl
    rw [e1, e2]
set_option maxRecDepth 100000 in
theorem cut_any (s : List UInt8) (c : UInt8) (m : Int) (w : World) (hs : s.length < 4294967281) (hm : w.cell? ⟨1, 0, none⟩ = some (.int .i64 m)) :
    Calls Tryd.prog 38 #[.string ⟨s.toArray⟩, .string ⟨#[c]⟩] w fun e w' => e = .returned (.tuple #[.string ⟨(splitC c s).1.toArray⟩, .string ⟨((splitC c s).2.getD []).toArray⟩, .bool (splitC c s).2.isSome]) ∧ Below w.heap.size w w' := by
  refine (Tryd.strings_Cut ⟨s.toArray⟩ ⟨#[c]⟩ m w (by show s.toArray.size < _; simpa using hs) hm).mono ?_
  rintro e w' ⟨rfl, n, rfl⟩
  have h := cut_split c s
  refine ⟨?_, below_drewN' (Below.refl _ _) _⟩
  show Ending.returned (.tuple #[.string ⟨(Lib.cut s [c]).1.toArray⟩, .string ⟨(Lib.cut s [c]).2.1.toArray⟩, .bool (Lib.cut s [c]).2.2]) = _
  rw [h]

def finLv (lv : Int) (zs : List Int) : Int := ofLv lv zs
/-- what a text is, read: level, categories, the error's number -/
def readL (s : List UInt8) : Option (Int × List Int) :=
  match numO (splitC 58 s).1 with
  | none => none
  | some n => match (splitC 58 s).2 with
    | none => some ((n : Int), [])
    | some t => if (listO t (-1)).2 then some ((n : Int), (listO t (-1)).1) else none
def readLv (s : List UInt8) : Int := match readL s with | none => 0 | some x => ofLv x.1 x.2
def readCs (s : List UInt8) : Int := match readL s with | none => 0 | some x => ofCs x.1 x.2
def readEr (s : List UInt8) : Int := match readL s with | none => 28 | some x => if ofOk x.1 x.2 then 0 else 27
def strN : Value → Nat
  | .string b => b.size + 1
  | _ => 0
def boolOf : Value → Bool
  | .bool b => b
  | _ => false
/-- the list that is read when 'zs' have been read, up to 'last', and 'o' is left -/
def restL (zs : List Int) (last : Int) (o : Option (List UInt8)) : List Int × Bool :=
  match o with
  | none => (zs, true)
  | some t => (zs ++ (listO t last).1, (listO t last).2)

set_option maxRecDepth 100000 in
theorem readL_eq (s : List UInt8) : readL s = (match numO (splitC 58 s).1 with | none => none | some n => if (restL [] (-1) (splitC 58 s).2).2 then some ((n : Int), (restL [] (-1) (splitC 58 s).2).1) else none) := by
  unfold readL
  split
  · rfl
  · cases (splitC 58 s).2 with
    | none => rfl
    | some t => rfl
set_option maxRecDepth 100000 in
theorem restL_step (zs : List Int) (last : Int) (t : List UInt8) : restL zs last (some t) = (match numO (splitC 44 t).1 with | none => (zs, false) | some n => if (n : Int) ≤ last then (zs, false) else restL (zs ++ [(n : Int)]) n (splitC 44 t).2) := by
  unfold restL
  simp only []
  rw [listO]
  split
  · rename_i hq; simp [hq]
  · rename_i n hn
    split
    · rename_i hle; simp [hn, hle]
    · rename_i hle
      split
      · rename_i hq; simp [hn, hle, hq]
      · rename_i t' hq; simp [hn, hle, hq]
def roomO (o : Option (List UInt8)) : Nat := match o with | none => 0 | some t => t.length + 1

set_option maxRecDepth 100000 in
set_option maxHeartbeats 4000000 in
theorem parse_any (s : List UInt8) (m : Int) (w : World) (hs : s.length ≤ 4000) (hm : w.cell? ⟨1, 0, none⟩ = some (.int .i64 m)) :
    Calls Tryd.prog 75 #[.string ⟨s.toArray⟩] w fun e w' => e = .returned (.tuple #[.agg #[.int .u8 (readLv s), .int .u16 (readCs s)], .int .i64 (readEr s)]) ∧ Below w.heap.size w w' := by
  obtain ⟨i0, hi, hz0, hz1, hz2⟩ := info_parts Tryd.info3
  have HM := Lib.hid hm
  have h00 := World.block_lt_of_cell? w _ hm
  clear hm
  have hB0 : Below (w.heap.size) w (w.alloc (.cells #[.int .u8 0, .int .u16 0] 37)) := (Below.refl _ _).alloc (Nat.le_refl _) _
  have HR := Lib.hid (readL_eq s)
  have hroom : roomO (splitC 58 s).2 ≤ 4001 := by
    cases hq : (splitC 58 s).2 with
    | none => simp [roomO]
    | some t => have := splitC_lt 58 s t hq; simp [roomO]; omega
  have hlen : (splitC 58 s).1.length ≤ 4000 := by
    cases hq : (splitC 58 s).2 with
    | none => rw [(splitC_none 58 s hq).1]; exact hs
    | some t => have := congrArg List.length (splitC_some 58 s t hq).1; rw [List.length_append] at this; omega
  go_enter Tryd.func75, Tryd.ntmps75
  go_wp2_with fail
  refine (cut_any s 58 m _ (by omega) ((hB0.cell h00).trans HM.out)).mono ?_
  rintro e w1 ⟨rfl, hb1⟩
  have hB1 : Below (w.heap.size + 1) (w.alloc (.cells #[.int .u8 0, .int .u16 0] 37)) w1 := by simpa using hb1
  clear hb1
  generalize (splitC 58 s).1 = h at *
  generalize (splitC 58 s).2 = o0 at *
  go_wp2_with fail
  refine (number_any h w1 (by omega)).mono ?_
  rintro e w2 ⟨rfl, hb2⟩
  have hB2 := hB1.trans (hb2.mono (by have := hB1.size; simp at this; omega))
  clear hB1 hb2
  cases hn : numO h with
  | none =>
    have hX : readL s = none := by rw [HR.out, hn]
    have HX : Hid (readLv s = 0 ∧ readCs s = 0 ∧ readEr s = 28) := by
      show readLv s = 0 ∧ readCs s = 0 ∧ readEr s = 28
      unfold readLv readCs readEr; rw [hX]; exact ⟨rfl, rfl, rfl⟩
    obtain ⟨-, r0, r1, q0, q1⟩ := (Pair.new w (.int .u8 0) (.int .u16 0) 37).below hB2 (by omega)
    have HB2 := Lib.hid hB2
    clear hX hn hB2
    go_wp2
    refine bodyPost_ret (v := .tuple #[.agg #[.int .u8 0, .int .u16 0], .int .i64 28]) (by simp [results, Tryd.results75, go_sem, r0, r1]) rfl ⟨by rw [HX.out.1, HX.out.2.1, HX.out.2.2], ?_⟩
    exact ((hB0.trans (HB2.out.mono (by simp))).setCell (by simp) _).setCell (by simp) _
  | some lv =>
    have hlv := (numO_is h lv hn).1
    have hX : readL s = if (restL [] (-1) o0).2 then some ((lv : Int), (restL [] (-1) o0).1) else none := by rw [HR.out, hn]
    have HX := Lib.hid hX
    clear hX hn HR
    have HB2 := Lib.hid hB2
    clear hB2
    go_wp2_with fail
    go_loopw [5, 6, 9, 10] (fun s5 s6 v s10 wr => ∃ (o : Option (List UInt8)) (zs : List Int) (last : Int), s5 = .string ⟨(o.getD []).toArray⟩ ∧ s6 = .bool o.isSome ∧ s10 = .int .i64 last ∧ (-1 ≤ last ∧ last < 100) ∧ zs.length + roomO o ≤ 4001 ∧ wr.ownsRow (w.heap.size + 1) 3 1 v zs.length (zs.map (Value.int .i64)) ∧ Below (w.heap.size + 1) (w.alloc (.cells #[.int .u8 0, .int .u16 0] 37)) wr ∧ restL zs last o = restL [] (-1) o0) (fun s5 s6 _ _ _ => if boolOf s6 then strN s5 else 0)
    case atStart => exact ⟨o0, [], -1, rfl, rfl, rfl, by omega, by simpa using hroom, World.ownsRow_nil _ _ _ _, HB2.out, rfl⟩
    case round =>
      obtain ⟨o, zs, last, rfl, rfl, rfl, hlast, hrm, hown, hb, hrest⟩ := hrel
      have HO := Lib.hid hown
      have HRe := Lib.hid hrest
      have HB := Lib.hid hb
      clear hown hrest hb
      cases o with
      | none =>
        have hR0 : restL [] (-1) o0 = (zs, true) := HRe.out.symm
        have HX2 : Hid (readLv s = ofLv lv zs ∧ readCs s = ofCs lv zs ∧ readEr s = if ofOk lv zs then 0 else 27) := by
          show readLv s = ofLv lv zs ∧ readCs s = ofCs lv zs ∧ readEr s = if ofOk lv zs then 0 else 27
          unfold readLv readCs readEr; rw [HX.out, hR0]; exact ⟨rfl, rfl, rfl⟩
        clear hR0
        go_wp2_with fail
        refine (make_ref lv _ zs _ (ownsRow_ints HO.out)).mono ?_
        rintro e w3 ⟨rfl, hb3⟩
        have hB3 := HB.out.trans (hb3.mono (by have := HB.out.size; simp at this; omega))
        obtain ⟨-, r0, r1, q0, q1⟩ := (Pair.new w (.int .u8 0) (.int .u16 0) 37).below hB3 (by omega)
        have HB3 := Lib.hid hB3
        clear hb3 hB3
        generalize ofLv lv zs = L at *
        generalize ofCs lv zs = C at *
        generalize (if ofOk lv zs then (0 : Int) else 27) = E at *
        go_wp2
        refine bodyPost_ret (v := .tuple #[.agg #[.int .u8 L, .int .u16 C], .int .i64 E]) (by simp [results, Tryd.results75, go_sem, r0, r1]) rfl ⟨by rw [HX2.out.1, HX2.out.2.1, HX2.out.2.2], ?_⟩
        exact ((hB0.trans (HB3.out.mono (by simp))).setCell (by simp) _).setCell (by simp) _
      | some t =>
        have hlt1 : t.length + zs.length ≤ 4000 := by simp [roomO] at hrm; omega
        have HS := Lib.hid ((restL_step zs last t).symm.trans HRe.out)
        have hroom2 : roomO (splitC 44 t).2 ≤ t.length := by
          cases hq : (splitC 44 t).2 with
          | none => simp [roomO]
          | some t' => have := splitC_lt 44 t t' hq; simp [roomO]; omega
        have hlen2 : (splitC 44 t).1.length ≤ t.length := by
          cases hq : (splitC 44 t).2 with
          | none => rw [(splitC_none 44 t hq).1]; exact Nat.le_refl _
          | some t' => have := congrArg List.length (splitC_some 44 t t' hq).1; rw [List.length_append] at this; omega
        have hsz := HB.out.size
        simp at hsz
        simp only [Option.getD_some, Option.isSome_some]
        go_wp2_with fail
        refine (cut_any t 44 m _ (by omega) (((HB.out.cell (p := ⟨1, 0, none⟩) (Nat.lt_succ_of_lt h00)).trans (hB0.cell h00)).trans HM.out)).mono ?_
        rintro e w3 ⟨rfl, hb3⟩
        have hB3 := HB.out.trans (hb3.mono (by omega))
        have hO3 := ownsRow_below HO.out hb3
        have hsz3 := hB3.size
        simp at hsz3
        clear hb3
        generalize (splitC 44 t).1 = h' at *
        generalize (splitC 44 t).2 = o' at *
        have HB3 := Lib.hid hB3
        have HO3 := Lib.hid hO3
        clear hB3 hO3
        go_wp2_with fail
        refine (number_any h' w3 (by omega)).mono ?_
        rintro e w4 ⟨rfl, hb4⟩
        have hB4 := HB3.out.trans (hb4.mono (by omega))
        have hsz4 := hB4.size
        simp at hsz4
        have HO4 := Lib.hid (ownsRow_below HO3.out hb4)
        clear hb4
        cases hn' : numO h' with
        | none =>
            have hR0 : restL [] (-1) o0 = (zs, false) := by rw [← HS.out, hn']
            have HX3 : Hid (readLv s = 0 ∧ readCs s = 0 ∧ readEr s = 28) := by
              show readLv s = 0 ∧ readCs s = 0 ∧ readEr s = 28
              unfold readLv readCs readEr; rw [HX.out, hR0]; exact ⟨rfl, rfl, rfl⟩
            obtain ⟨-, r0, r1, q0, q1⟩ := (Pair.new w (.int .u8 0) (.int .u16 0) 37).below hB4 (by omega)
            have HB4 := Lib.hid hB4
            clear hR0 hn' hB4
            go_wp2
            refine bodyPost_ret (v := .tuple #[.agg #[.int .u8 0, .int .u16 0], .int .i64 28]) (by simp [results, Tryd.results75, go_sem, r0, r1]) rfl ⟨by rw [HX3.out.1, HX3.out.2.1, HX3.out.2.2], ?_⟩
            exact ((hB0.trans (HB4.out.mono (by simp))).setCell (by simp) _).setCell (by simp) _
        | some n =>
          have hn100 := (numO_is h' n hn').1
          by_cases hle : (n : Int) ≤ last
          · have hR0 : restL [] (-1) o0 = (zs, false) := by rw [← HS.out, hn']; exact if_pos hle
            have HX3 : Hid (readLv s = 0 ∧ readCs s = 0 ∧ readEr s = 28) := by
              show readLv s = 0 ∧ readCs s = 0 ∧ readEr s = 28
              unfold readLv readCs readEr; rw [HX.out, hR0]; exact ⟨rfl, rfl, rfl⟩
            obtain ⟨-, r0, r1, q0, q1⟩ := (Pair.new w (.int .u8 0) (.int .u16 0) 37).below hB4 (by omega)
            have HB4 := Lib.hid hB4
            clear hR0 hn' hB4
            go_wp2
            refine bodyPost_ret (v := .tuple #[.agg #[.int .u8 0, .int .u16 0], .int .i64 28]) (by simp [results, Tryd.results75, go_sem, r0, r1]) rfl ⟨by rw [HX3.out.1, HX3.out.2.1, HX3.out.2.2], ?_⟩
            exact ((hB0.trans (HB4.out.mono (by simp))).setCell (by simp) _).setCell (by simp) _
          · have HR2 : Hid (restL (zs ++ [(n : Int)]) n o' = restL [] (-1) o0) := by
              show restL (zs ++ [(n : Int)]) n o' = restL [] (-1) o0
              rw [← HS.out, hn']; exact (if_neg hle).symm
            have HB4 := Lib.hid hB4
            clear hn' hB4
            go_wp2_with (first | (at_builtin; refine wpList_append_own _ rfl _ _ 111 rfl (w.heap.size + 1) 3 i0 (.int .i64 0) 1 8 Tryd.underlying111 hi hz0 hz1 hz2 rfl (by decide) _ _ _ rfl (HO4.out.alloc _) ⟨w4.heap.size, 0, none⟩ 1 1 [.int .i64 (n : Int)] rfl rfl ?c1 ?c2 ?c3 ?c4 ?c5 ?_))
            case c1 =>
              intro j u hj
              match j, hj with
              | 0, hj => simp at hj; subst hj; simp [Addr.add]
            case c2 => intro u hu; simp at hu; subst hu; rfl
            case c3 => unfold maxLen; omega
            case c4 => omega
            case c5 => simp; omega
            intro v' w5 hown' hgrow _
            have hb5 := (HB4.out.alloc (by omega) _).grown hgrow (by simp; omega) (ownsRow_block HO4.out)
            have HO5 : Hid (w5.ownsRow (w.heap.size + 1) 3 1 v' (zs ++ [(n : Int)]).length ((zs ++ [(n : Int)]).map (Value.int .i64))) := by
              show w5.ownsRow _ _ _ _ _ _
              simpa using hown'
            have HB5 := Lib.hid hb5
            have hrm2 : (zs ++ [(n : Int)]).length + roomO o' ≤ 4001 := by rw [List.length_append, List.length_singleton]; omega
            clear hown' hgrow hb5
            go_wp2
            go_roundw
            case rel => exact ⟨o', zs ++ [(n : Int)], n, rfl, rfl, rfl, by omega, hrm2, HO5.out, HB5.out, HR2.out⟩
            case measure =>
              have hz : ∀ l : List UInt8, (⟨l.toArray⟩ : ByteArray).size = l.length := fun l => by show l.toArray.size = _; simp
              simp only [boolOf, strN, hz]
              cases o' with
              | none => simp
              | some t' => simp [roomO] at hroom2; simp; omega
end Go.Proofs.YtfackmiojbdjhaaDoor


namespace Go.Proofs.YtfackmiojbdjhaaDoor
set_option linter.unusedSimpArgs false
set_option linter.unusedVariables false
open Go.RowKit

set_option maxRecDepth 100000 in
theorem ext_to (s : List UInt8) (n : Nat) : (⟨s.toArray⟩ : ByteArray).extract 0 n = ⟨(s.take n).toArray⟩ := by
  apply ByteArray.ext
  simp
set_option maxRecDepth 100000 in
theorem ext_from (s : List UInt8) (n : Nat) : (⟨s.toArray⟩ : ByteArray).extract n (⟨s.toArray⟩ : ByteArray).size = ⟨(s.drop n).toArray⟩ := by
  apply ByteArray.ext
  have : (⟨s.toArray⟩ : ByteArray).size = s.length := by show s.toArray.size = _; simp
  rw [this]
  simp
  exact List.take_of_length_le (by rw [List.length_drop]; exact Nat.le_refl _)
set_option maxRecDepth 100000 in
theorem bytes_inj {s t : List UInt8} (h : (⟨s.toArray⟩ : ByteArray) = ⟨t.toArray⟩) : s = t := by
  have := congrArg ByteArray.data h
  simpa using this
set_option maxRecDepth 100000 in
/-- a head that fits: the piece ahead is D, the byte behind it c -/
theorem fits (s D : List UInt8) (c : UInt8) (hl : (⟨D.toArray⟩ : ByteArray).size < (⟨s.toArray⟩ : ByteArray).size) (hp : (⟨s.toArray⟩ : ByteArray).extract 0 (⟨D.toArray⟩ : ByteArray).size = ⟨D.toArray⟩)
    (hq : (((⟨s.toArray⟩ : ByteArray)[(⟨D.toArray⟩ : ByteArray).size]'hl).toNat : Int) = (c.toNat : Int)) :
    s = D ++ c :: s.drop (D.length + 1) ∧ (⟨s.toArray⟩ : ByteArray).extract ((⟨D.toArray⟩ : ByteArray).size + 1) (⟨s.toArray⟩ : ByteArray).size = ⟨(s.drop (D.length + 1)).toArray⟩ := by
  have hz : (⟨D.toArray⟩ : ByteArray).size = D.length := by show D.toArray.size = _; simp
  have hz2 : (⟨s.toArray⟩ : ByteArray).size = s.length := by show s.toArray.size = _; simp
  refine ⟨?_, by rw [ext_from, hz]⟩
  rw [ext_to, hz] at hp
  have h1 := bytes_inj hp
  have hl' : D.length < s.length := by omega
  have h2 : s[D.length] = c := by
    apply UInt8.toNat_inj.1
    have : (((⟨s.toArray⟩ : ByteArray)[(⟨D.toArray⟩ : ByteArray).size]'hl).toNat : Int) = ((s[D.length]).toNat : Int) := by
      congr 2
    omega
  calc s = s.take D.length ++ s.drop D.length := (List.take_append_drop _ _).symm
    _ = D ++ c :: s.drop (D.length + 1) := by rw [h1, List.drop_eq_getElem_cons hl', h2]
set_option maxRecDepth 100000 in
theorem fits_back (D t : List UInt8) (c : UInt8) : ∃ hl : (⟨D.toArray⟩ : ByteArray).size < (⟨(D ++ c :: t).toArray⟩ : ByteArray).size,
    (⟨(D ++ c :: t).toArray⟩ : ByteArray).extract 0 (⟨D.toArray⟩ : ByteArray).size = ⟨D.toArray⟩ ∧ (((⟨(D ++ c :: t).toArray⟩ : ByteArray)[(⟨D.toArray⟩ : ByteArray).size]'hl).toNat : Int) = (c.toNat : Int) := by
  have hz : (⟨D.toArray⟩ : ByteArray).size = D.length := by show D.toArray.size = _; simp
  have hz2 : (⟨(D ++ c :: t).toArray⟩ : ByteArray).size = (D ++ c :: t).length := by show (D ++ c :: t).toArray.size = _; simp
  refine ⟨by rw [hz, hz2, List.length_append, List.length_cons]; omega, ?_, ?_⟩
  · rw [ext_to, hz]; simp
  · congr 2
    show (D ++ c :: t).toArray[(⟨D.toArray⟩ : ByteArray).size]'_ = _
    simp [hz]
end Go.Proofs.YtfackmiojbdjhaaDoor


namespace Go.Proofs.YtfackmiojbdjhaaDoor
set_option linter.unusedSimpArgs false
set_option linter.unusedVariables false
open Go.RowKit

def NoRoom (v : Value) : Prop := ∀ n c, v = .slice none n c → n = 0 ∧ c = 0
def ListPost (s : List UInt8) (above : Int) (w : World) (e : Ending) (w' : World) : Prop := ∃ v, e = .returned (.tuple #[v, .bool (listO s above).2]) ∧ Ints w' v (listO s above).1 ∧ NoRoom v ∧ Below w.heap.size w w'
set_option maxRecDepth 100000 in
theorem listO_one (s : List UInt8) (above : Int) (c : Nat) (h : numO (splitC 44 s).1 = some c) (hc : above < (c : Int)) : listO s above = (match (splitC 44 s).2 with | none => ([(c : Int)], true) | some t => ((c : Int) :: (listO t c).1, (listO t c).2)) := by
  rw [listO]
  split
  · rename_i hq; rw [hq] at h; cases h
  · rename_i n hn
    rw [hn] at h
    injection h with h
    subst h
    rw [if_neg (by omega)]
    split
    · rename_i hq; rw [hq]
    · rename_i t hq; rw [hq]
set_option maxRecDepth 100000 in
theorem listO_no (s : List UInt8) (above : Int) (h : ∀ c : Nat, above < (c : Int) → c < 100 → (splitC 44 s).1 ≠ Lib.decDigits c) : listO s above = ([], false) := by
  rw [listO]
  split
  · rfl
  · rename_i n hn
    obtain ⟨h1, h2⟩ := numO_is _ n hn
    split
    · rfl
    · rename_i hle
      exact absurd h2 (h n (by omega) h1)

set_option maxRecDepth 100000 in
theorem strT_ne {S H : ByteArray} (h : ¬ S = H) : (S.toList == H.toList) = false := by
  rw [beq_eq_false_iff_ne]
  intro e
  rw [Lib.toList_data, Lib.toList_data] at e
  exact h (ByteArray.ext (Array.ext' e))

set_option maxRecDepth 100000 in
set_option maxHeartbeats 4000000 in
theorem list_any (k : Nat) : ∀ (s : List UInt8), s.length < k → k ≤ 4001 → ∀ (above : Int) (w : World), -1 ≤ above → above < 100 → Calls Tryd.prog 66 #[.string ⟨s.toArray⟩, .int .i64 above] w (ListPost s above w) := by
  induction k with
  | zero => intro s h; omega
  | succ k ih =>
    intro s hsk hk above w ha ha2
    have IH := Lib.hid ih
    clear ih
    obtain ⟨i0, hi, hz0, hz1, hz2⟩ := info_parts Tryd.info3
    have hw1 : IntKind.i64.wrap (above + 1) = above + 1 := IntWalk.i64_in _ (by omega)
    have hssz : (⟨s.toArray⟩ : ByteArray).size = s.length := by show s.toArray.size = _; simp
    obtain ⟨S, hS⟩ : ∃ S : ByteArray, S = ⟨s.toArray⟩ := ⟨_, rfl⟩
    rw [← hS] at hssz ⊢
    have HS := Lib.hid hS
    clear hS
    have hsl : S.size ≤ 4000 := by omega
    clear hssz
    go_enter Tryd.func66, Tryd.ntmps66
    go_wp2_with fail
    go_loopw [6] (fun i wr => ∃ c : Nat, above + 1 ≤ (c : Int) ∧ c ≤ 100 ∧ i = .int .i64 c ∧ Below w.heap.size w wr ∧ ∀ c' : Nat, above < (c' : Int) → c' < c → (splitC 44 s).1 ≠ Lib.decDigits c') (fun i _ => 100 - (intOf i).toNat)
    case atStart => exact ⟨(above + 1).toNat, by omega, by omega, by congr 1; omega, Below.refl _ _, fun c' h1 h2 => by omega⟩
    case round =>
      obtain ⟨c, hc0, hc1, rfl, hb, hno⟩ := hrel
      have HNo := Lib.hid hno
      clear hno
      by_cases hlt : c < 100
      · have hlt' : (c : Int) < 100 := by omega
        go_wp2_with fail
        refine (refitoa_nat c (by omega) wr).mono ?_
        rintro e w1 ⟨rfl, hb1⟩
        have hB1 := hb.trans (hb1.mono hb.size)
        have hnum := numO_digits c hlt
        have hne := digits_ne c hlt 44 (by decide)
        have hDl : (Lib.decDigits c).length ≤ 20 := by rw [Lib.decDigits_length]; exact Lib.nDigits_le20 _ (by omega)
        have hNext : Hid ((splitC 44 s).1 ≠ Lib.decDigits c → ∀ c' : Nat, above < (c' : Int) → c' < c + 1 → (splitC 44 s).1 ≠ Lib.decDigits c') := by
          show (splitC 44 s).1 ≠ Lib.decDigits c → _
          intro hh c' h1 h2
          rcases Nat.lt_or_ge c' c with h3 | h3
          · exact HNo.out c' h1 h3
          · obtain rfl : c' = c := by omega
            exact hh
        generalize Lib.decDigits c = D at *
        have hDsz : (⟨D.toArray⟩ : ByteArray).size = D.length := by show D.toArray.size = _; simp
        have HFit := Lib.hid (fun hl hp hq => fits s D 44 hl hp hq)
        -- where it does not fit
        have HBad : Hid ((S = ⟨D.toArray⟩ → False) → (∀ hl : (⟨D.toArray⟩ : ByteArray).size < S.size, S.extract 0 (⟨D.toArray⟩ : ByteArray).size = ⟨D.toArray⟩ → ((S[(⟨D.toArray⟩ : ByteArray).size]'hl).toNat : Int) = 44 → False) → (splitC 44 s).1 ≠ D) := by
          show (S = ⟨D.toArray⟩ → False) → (∀ hl : (⟨D.toArray⟩ : ByteArray).size < S.size, S.extract 0 (⟨D.toArray⟩ : ByteArray).size = ⟨D.toArray⟩ → ((S[(⟨D.toArray⟩ : ByteArray).size]'hl).toNat : Int) = 44 → False) → (splitC 44 s).1 ≠ D
          intro h1 h2 h3
          cases ht : (splitC 44 s).2 with
          | none => exact h1 (by rw [HS.out, ← (splitC_none 44 s ht).1, h3])
          | some t =>
            obtain ⟨h4, -⟩ := splitC_some 44 s t ht
            rw [h3] at h4
            obtain ⟨hl, hp, hq⟩ := fits_back D t 44
            have hS := HS.out
            rw [h4] at hS
            subst hS
            exact h2 hl hp hq
        obtain ⟨H, hH⟩ : ∃ H : ByteArray, H = ⟨D.toArray⟩ := ⟨_, rfl⟩
        rw [← hH] at hDsz HFit HBad ⊢
        have hHl : H.size ≤ 20 := by omega
        have HHH := Lib.hid hH
        have HNe := Lib.hid hne
        have HNum := Lib.hid hnum
        have HB1 := Lib.hid hB1
        clear hDsz hH hne hnum hb1 hB1 hDl
        by_cases hE : S = H
        · have hs : s = D := bytes_inj (HS.out.symm.trans (hE.trans HHH.out))
          have hL : listO s above = ([(c : Int)], true) := by
            rw [hs, listO_one D above c (by rw [splitC_all 44 D HNe.out]; exact HNum.out) (by omega), splitC_all 44 D HNe.out]
          have HL := Lib.hid hL
          clear hs hL
          subst hE
          go_wp2_with fail
          go_ret2
          unfold ListPost
          rw [HL.out]
          refine ⟨_, rfl, .inr ⟨w1.heap.size, 0, 1, rfl, by simp, by simp [maxLen], fun i hi => ?_⟩, (fun n cc h => by cases h), HB1.out.alloc HB1.out.size _⟩
          match i, hi with
          | 0, _ => simp
        · have hE' := strT_ne hE
          have HE := Lib.hid hE
          clear hE
          by_cases hl : H.size < S.size
          · have hl' : (H.size : Int) < (S.size : Int) := by omega
            by_cases hp : S.extract 0 H.size = H
            · by_cases hq : ((S[H.size]'hl).toNat : Int) = 44
              · obtain ⟨hf1, hf2⟩ : s = D ++ 44 :: s.drop (D.length + 1) ∧ S.extract (H.size + 1) S.size = ⟨(s.drop (D.length + 1)).toArray⟩ := by
                  have hS := HS.out
                  have hH := HHH.out
                  subst hS hH
                  exact HFit.out hl hp hq
                have hdl : (s.drop (D.length + 1)).length < k := by
                  have := congrArg List.length hf1
                  rw [List.length_append, List.length_cons] at this
                  omega
                have hL : listO s above = ((c : Int) :: (listO (s.drop (D.length + 1)) c).1, (listO (s.drop (D.length + 1)) c).2) := by
                  have hsp : splitC 44 s = (D, some (s.drop (D.length + 1))) := (congrArg (splitC 44) hf1).trans (splitC_app 44 D _ HNe.out)
                  rw [listO_one s above c (by rw [hsp]; exact HNum.out) (by omega), hsp]
                generalize s.drop (D.length + 1) = t at *
                have HL := Lib.hid hL
                have HF2 := Lib.hid hf2
                have hll := listO_len t c
                clear hf1 hf2 hL
                go_wp2_with fail
                rw [HF2.out]
                refine (IH.out t hdl (by omega) c w1 (by omega) (by omega)).mono ?_
                rintro e w2 ⟨v2, rfl, hi2, hnr, hb2⟩
                generalize (listO t c).1 = zs at *
                generalize (listO t c).2 = ok at *
                obtain ⟨a2, cap2, rfl⟩ := hi2.form
                have HNr := Lib.hid hnr
                have HB2 := Lib.hid (HB1.out.trans (hb2.mono HB1.out.size))
                clear hnr hb2
                have hown0 : (w2.alloc (.cells #[.int .i64 (c : Int)] 3)).ownsRow w2.heap.size 3 1 (.slice (some ⟨w2.heap.size, 0, none⟩) 1 1) 1 [.int .i64 (c : Int)] := World.ownsRow_lit w2 #[.int .i64 (c : Int)] 1 (Nat.le_refl _) (by simp [maxLen]) rfl
                have hBe : Below w2.heap.size w2 (w2.alloc (.cells #[.int .i64 (c : Int)] 3)) := (Below.refl _ w2).alloc (Nat.le_refl _) _
                rcases hi2 with ⟨a', cap', he, rfl⟩ | ⟨b, off, cap', he, hbl, hmz, hcells⟩
                · injection he with h1 h2 h3
                  subst h1 h3
                  rcases a2 with _ | a
                  · obtain ⟨_, hc0⟩ := HNr.out _ _ rfl
                    subst hc0
                    go_wp2_with (first | (at_builtin; refine wpList_append_own_none rfl _ _ 111 rfl w2.heap.size 3 i0 1 Tryd.underlying111 hi _ 1 [.int .i64 (c : Int)] rfl hown0 rfl ?_))
                    go_ret2
                    unfold ListPost
                    rw [HL.out]
                    exact ⟨_, rfl, ownsRow_ints (zs := [(c : Int)]) hown0, (fun n cc h => by cases h), HB2.out.trans (hBe.mono HB2.out.size)⟩
                  · go_wp2_with (first | (at_builtin; refine wpList_append_own _ rfl _ _ 111 rfl w2.heap.size 3 i0 (.int .i64 0) 1 8 Tryd.underlying111 hi hz0 hz1 hz2 rfl (by decide) _ 1 [.int .i64 (c : Int)] rfl hown0 a 0 cap2 [] rfl rfl (by intro j u h; simp at h) (by intro u h; cases h) (by simp [maxLen]) (by omega) (by simp) ?_; intro v' w5 hown' hgrow _))
                    have HB5 := Lib.hid (HB2.out.trans ((hBe.grown hgrow (by simp) (ownsRow_block hown0)).mono HB2.out.size))
                    have hown2 : w5.ownsRow w2.heap.size 3 1 v' ((c : Int) :: []).length (((c : Int) :: []).map (Value.int .i64)) := by simpa [Nat.add_comm] using hown'
                    obtain ⟨g, cap5, rfl⟩ := Joins.ownsRow_form hown2 (by simp)
                    have HO5 := Lib.hid hown2
                    clear hown' hgrow hown2
                    go_wp2_with fail
                    go_ret2
                    unfold ListPost
                    rw [HL.out]
                    exact ⟨_, rfl, ownsRow_ints HO5.out, (fun n cc h => by cases h), HB5.out⟩
                · injection he with h1 h2 h3
                  subst h1 h3
                  have HCells : Hid (∀ j u, (zs.map (Value.int .i64))[j]? = some u → (w2.alloc (.cells #[.int .i64 (c : Int)] 3)).cell? (Addr.add ⟨b, off, none⟩ j) = some u) := by
                    show ∀ j u, (zs.map (Value.int .i64))[j]? = some u → (w2.alloc (.cells #[.int .i64 (c : Int)] 3)).cell? (Addr.add ⟨b, off, none⟩ j) = some u
                    intro j u hu
                    obtain ⟨hj, hu'⟩ := List.getElem?_eq_some_iff.1 hu
                    have hj' : j < zs.length := by simpa using hj
                    rw [List.getElem_map] at hu'
                    subst hu'
                    have ea : Addr.add ⟨b, off, none⟩ j = ⟨b, off + j, none⟩ := by
                      unfold Addr.add
                      split
                      · rename_i h; subst h; rfl
                      · rfl
                    rw [ea]
                    exact (hBe.cell (p := ⟨b, off + j, none⟩) hbl).trans (hcells j hj')
                  clear hcells
                  go_wp2_with (first | (at_builtin; refine wpList_append_own _ rfl _ _ 111 rfl w2.heap.size 3 i0 (.int .i64 0) 1 8 Tryd.underlying111 hi hz0 hz1 hz2 rfl (by decide) _ 1 [.int .i64 (c : Int)] rfl hown0 ⟨b, off, none⟩ zs.length cap2 (zs.map (Value.int .i64)) rfl (by simp) HCells.out (by intro u hu; obtain ⟨z, _, rfl⟩ := List.mem_map.1 hu; rfl) (by unfold maxLen; omega) (by omega) (by simp) ?_; intro v' w5 hown' hgrow _))
                  have HB5 := Lib.hid (HB2.out.trans ((hBe.grown hgrow (by simp) (ownsRow_block hown0)).mono HB2.out.size))
                  have hown2 : w5.ownsRow w2.heap.size 3 1 v' ((c : Int) :: zs).length (((c : Int) :: zs).map (Value.int .i64)) := by simpa [Nat.add_comm] using hown'
                  obtain ⟨g, cap5, rfl⟩ := Joins.ownsRow_form hown2 (by simp)
                  have HO5 := Lib.hid hown2
                  clear hown' hgrow hown2
                  go_wp2_with fail
                  go_ret2
                  unfold ListPost
                  rw [HL.out]
                  exact ⟨_, rfl, ownsRow_ints HO5.out, (fun n cc h => by cases h), HB5.out⟩
              · have HN := Lib.hid (hNext.out (HBad.out (fun h => HE.out h) (fun _ _ h => hq h)))
                have hq' : (((S[H.size]'hl).toNat : Int) == 44) = false := by rw [beq_eq_false_iff_ne]; exact hq
                go_wp2
                go_roundw
                case rel => exact ⟨c + 1, by omega, by omega, by go_num, HB1.out, HN.out⟩
                case measure => simp [intOf]; omega
            · have HN := Lib.hid (hNext.out (HBad.out (fun h => HE.out h) (fun _ h _ => hp h)))
              have hp' := strT_ne hp
              go_wp2
              go_roundw
              case rel => exact ⟨c + 1, by omega, by omega, by go_num, HB1.out, HN.out⟩
              case measure => simp [intOf]; omega
          · have hl' : ¬ (H.size : Int) < (S.size : Int) := by omega
            have HN := Lib.hid (hNext.out (HBad.out (fun h => HE.out h) (fun h _ _ => hl h)))
            go_wp2
            go_roundw
            case rel => exact ⟨c + 1, by omega, by omega, by go_num, HB1.out, HN.out⟩
            case measure => simp [intOf]; omega
      · obtain rfl : c = 100 := by omega
        have HL : Hid (listO s above = ([], false)) := by
          show listO s above = ([], false)
          exact listO_no s above (fun c' h1 h2 => HNo.out c' h1 h2)
        go_wp2
        go_ret2
        unfold ListPost
        rw [HL.out]
        exact ⟨_, rfl, .inl ⟨none, 0, rfl, rfl⟩, (fun n cc h => by injection h with h1 h2 h3; exact ⟨h2.symm, h3.symm⟩), hb⟩
end Go.Proofs.YtfackmiojbdjhaaDoor


namespace Go.Proofs.YtfackmiojbdjhaaDoor
set_option linter.unusedSimpArgs false
set_option linter.unusedVariables false
open Go.RowKit

set_option maxRecDepth 100000 in
theorem read_of (s : List UInt8) (o : Option (Int × List Int)) (h : readL s = o) : readLv s = (o.elim 0 fun x => ofLv x.1 x.2) ∧ readCs s = (o.elim 0 fun x => ofCs x.1 x.2) ∧ readEr s = (o.elim 28 fun x => if ofOk x.1 x.2 then 0 else 27) := by
  subst h
  unfold readLv readCs readEr
  cases readL s <;> exact ⟨rfl, rfl, rfl⟩
set_option maxRecDepth 100000 in
theorem of_bad0 (lv : Int) (zs : List Int) (h : ofOk lv zs = false) : ofLv lv zs = 0 ∧ ofCs lv zs = 0 := by
  unfold ofOk at h
  unfold ofLv ofCs
  split at h
  · cases h
  · rename_i hn
    rw [if_neg hn, if_neg hn]
    exact ⟨rfl, rfl⟩
set_option maxRecDepth 100000 in
theorem readL_no (s : List UInt8) (h : ∀ c : Nat, c < 100 → (splitC 58 s).1 ≠ Lib.decDigits c) : readL s = none := by
  unfold readL
  split
  · rfl
  · rename_i n hn
    obtain ⟨h1, h2⟩ := numO_is _ n hn
    exact absurd h2 (h n h1)

set_option maxRecDepth 100000 in
set_option maxHeartbeats 4000000 in
theorem refparse_any (s : List UInt8) (w : World) (hs : s.length ≤ 4000) : Calls Tryd.prog 47 #[.string ⟨s.toArray⟩] w fun e w' => e = .returned (.tuple #[.agg #[.int .u8 (readLv s), .int .u16 (readCs s)], .int .i64 (readEr s)]) ∧ Below w.heap.size w w' := by
  have hssz : (⟨s.toArray⟩ : ByteArray).size = s.length := by show s.toArray.size = _; simp
  obtain ⟨S, hS⟩ : ∃ S : ByteArray, S = ⟨s.toArray⟩ := ⟨_, rfl⟩
  rw [← hS] at hssz ⊢
  have HS := Lib.hid hS
  clear hS
  have hsl : S.size ≤ 4000 := by omega
  have HSz := Lib.hid hssz
  clear hssz
  have hB0 : Below (w.heap.size) w (w.alloc (.cells #[.int .u8 0, .int .u16 0] 37)) := (Below.refl _ _).alloc (Nat.le_refl _) _
  go_enter Tryd.func47, Tryd.ntmps47
  go_wp2_with fail
  go_loopw [4] (fun i wr => ∃ c : Nat, c ≤ 100 ∧ i = .int .i64 c ∧ Below (w.heap.size + 1) (w.alloc (.cells #[.int .u8 0, .int .u16 0] 37)) wr ∧ ∀ c' : Nat, c' < c → (splitC 58 s).1 ≠ Lib.decDigits c') (fun i _ => 100 - (intOf i).toNat)
  case atStart => exact ⟨0, by omega, rfl, Below.refl _ _, fun c' h => by omega⟩
  case round =>
    obtain ⟨c, hc1, rfl, hb, hno⟩ := hrel
    have HNo := Lib.hid hno
    clear hno
    have hsz := hb.size
    simp at hsz
    by_cases hlt : c < 100
    · have hlt' : (c : Int) < 100 := by omega
      go_wp2_with fail
      refine (refitoa_nat c (by omega) wr).mono ?_
      rintro e w1 ⟨rfl, hb1⟩
      have hB1 := hb.trans (hb1.mono (by omega))
      have hnum := numO_digits c hlt
      have hne := digits_ne c hlt 58 (by decide)
      have hDl : (Lib.decDigits c).length ≤ 20 := by rw [Lib.decDigits_length]; exact Lib.nDigits_le20 _ (by omega)
      have hNext : Hid ((splitC 58 s).1 ≠ Lib.decDigits c → ∀ c' : Nat, c' < c + 1 → (splitC 58 s).1 ≠ Lib.decDigits c') := by
        show (splitC 58 s).1 ≠ Lib.decDigits c → _
        intro hh c' h2
        rcases Nat.lt_or_ge c' c with h3 | h3
        · exact HNo.out c' h3
        · obtain rfl : c' = c := by omega
          exact hh
      generalize Lib.decDigits c = D at *
      have hDsz : (⟨D.toArray⟩ : ByteArray).size = D.length := by show D.toArray.size = _; simp
      have HFit := Lib.hid (fun hl hp hq => fits s D 58 hl hp hq)
      -- where it does not fit
      have HBad : Hid ((S = ⟨D.toArray⟩ → False) → (∀ hl : (⟨D.toArray⟩ : ByteArray).size < S.size, S.extract 0 (⟨D.toArray⟩ : ByteArray).size = ⟨D.toArray⟩ → ((S[(⟨D.toArray⟩ : ByteArray).size]'hl).toNat : Int) = 58 → False) → (splitC 58 s).1 ≠ D) := by
        show (S = ⟨D.toArray⟩ → False) → (∀ hl : (⟨D.toArray⟩ : ByteArray).size < S.size, S.extract 0 (⟨D.toArray⟩ : ByteArray).size = ⟨D.toArray⟩ → ((S[(⟨D.toArray⟩ : ByteArray).size]'hl).toNat : Int) = 58 → False) → (splitC 58 s).1 ≠ D
        intro h1 h2 h3
        cases ht : (splitC 58 s).2 with
        | none => exact h1 (by rw [HS.out, ← (splitC_none 58 s ht).1, h3])
        | some t =>
          obtain ⟨h4, -⟩ := splitC_some 58 s t ht
          rw [h3] at h4
          obtain ⟨hl, hp, hq⟩ := fits_back D t 58
          have hS := HS.out
          rw [h4] at hS
          subst hS
          exact h2 hl hp hq
      obtain ⟨H, hH⟩ : ∃ H : ByteArray, H = ⟨D.toArray⟩ := ⟨_, rfl⟩
      rw [← hH] at hDsz HFit HBad ⊢
      have hHl : H.size ≤ 20 := by omega
      have HHH := Lib.hid hH
      have HNe := Lib.hid hne
      have HNum := Lib.hid hnum
      have HB1 := Lib.hid hB1
      clear hDsz hH hne hnum hb1 hB1 hDl
      have hsz1 := HB1.out.size
      simp at hsz1
      have HR0 := Lib.hid ((Pair.new w (.int .u8 0) (.int .u16 0) 37).below HB1.out (by omega))
      by_cases hE : S = H
      · have hs' : s = D := bytes_inj (HS.out.symm.trans (hE.trans HHH.out))
        have hL : readL s = some ((c : Int), []) := by
          unfold readL
          rw [hs', splitC_all 58 D HNe.out, HNum.out]
        have hX := read_of s _ hL
        simp only [Option.elim_some] at hX
        have HX := Lib.hid hX
        clear hs' hL hX
        subst hE
        go_wp2_with fail
        refine (of_any c (.slice none 0 0) [] _ (.inl ⟨none, 0, rfl, rfl⟩)).mono ?_
        rintro e w2 ⟨rfl, hb2⟩
        have hB2 := HB1.out.trans (hb2.mono (by omega))
        have hsz2 := hB2.size
        simp at hsz2
        obtain ⟨hlt2, r0, r1, q0, q1⟩ := (Pair.new w (.int .u8 0) (.int .u16 0) 37).below hB2 (by omega)
        have HB2 := Lib.hid hB2
        clear hb2 hB2
        generalize ofLv (c : Int) [] = L at *
        generalize ofCs (c : Int) [] = C at *
        cases hok : ofOk (c : Int) []
        · have HK := Lib.hid hok
          clear hok
          go_wp2_with fail
          refine bodyPost_ret (v := .tuple #[.agg #[.int .u8 L, .int .u16 C], .int .i64 27]) (by simp [results, Tryd.results47, go_sem, r0, r1, hlt2]) rfl ⟨by rw [HX.out.1, HX.out.2.1, HX.out.2.2, HK.out]; rfl, ?_⟩
          refine Below.alloc (((hB0.trans (HB2.out.mono (by simp))).setCell (by simp) _).setCell (by simp) _) (by simp; omega) _
        · have HK := Lib.hid hok
          clear hok
          go_wp2_with fail
          refine bodyPost_ret (v := .tuple #[.agg #[.int .u8 L, .int .u16 C], .int .i64 0]) (by simp [results, Tryd.results47, go_sem, r0, r1, hlt2]) rfl ⟨by rw [HX.out.1, HX.out.2.1, HX.out.2.2, HK.out]; rfl, ?_⟩
          refine Below.alloc (((hB0.trans (HB2.out.mono (by simp))).setCell (by simp) _).setCell (by simp) _) (by simp; omega) _
      · have hE' := strT_ne hE
        have HE := Lib.hid hE
        clear hE
        by_cases hl : H.size < S.size
        · have hl' : (H.size : Int) < (S.size : Int) := by omega
          by_cases hp : S.extract 0 H.size = H
          · by_cases hq : ((S[H.size]'hl).toNat : Int) = 58
            · obtain ⟨hf1, hf2⟩ : s = D ++ 58 :: s.drop (D.length + 1) ∧ S.extract (H.size + 1) S.size = ⟨(s.drop (D.length + 1)).toArray⟩ := by
                have hS := HS.out
                have hH := HHH.out
                subst hS hH
                exact HFit.out hl hp hq
              have hdl : (s.drop (D.length + 1)).length < 4001 := by
                have := congrArg List.length hf1
                rw [List.length_append, List.length_cons] at this
                omega
              have hL : readL s = if (listO (s.drop (D.length + 1)) (-1)).2 then some ((c : Int), (listO (s.drop (D.length + 1)) (-1)).1) else none := by
                have hsp : splitC 58 s = (D, some (s.drop (D.length + 1))) := (congrArg (splitC 58) hf1).trans (splitC_app 58 D _ HNe.out)
                unfold readL
                rw [hsp, HNum.out]
              generalize s.drop (D.length + 1) = t at *
              have HL := Lib.hid hL
              have HF2 := Lib.hid hf2
              clear hf1 hf2 hL
              go_wp2_with fail
              rw [HF2.out]
              refine (list_any 4001 t hdl (Nat.le_refl _) (-1) w1 (by omega) (by omega)).mono ?_
              rintro e w2 ⟨v2, rfl, hi2, -, hb2⟩
              generalize (listO t (-1)).1 = zs at *
              have hB2 := HB1.out.trans (hb2.mono (by omega))
              have hsz2 := hB2.size
              simp at hsz2
              clear hb2
              cases hok : (listO t (-1)).2
              · have hX := read_of s none (by rw [HL.out, hok]; rfl)
                simp only [Option.elim_none] at hX
                have HX := Lib.hid hX
                obtain ⟨hlt2, r0, r1, q0, q1⟩ := (Pair.new w (.int .u8 0) (.int .u16 0) 37).below hB2 (by omega)
                have HB2 := Lib.hid hB2
                clear hX hok hB2
                go_wp2
                refine bodyPost_ret (v := .tuple #[.agg #[.int .u8 0, .int .u16 0], .int .i64 28]) (by simp [results, Tryd.results47, go_sem, r0, r1]) rfl ⟨by rw [HX.out.1, HX.out.2.1, HX.out.2.2], ?_⟩
                exact ((hB0.trans (HB2.out.mono (by simp))).setCell (by simp) _).setCell (by simp) _
              · have hX := read_of s (some ((c : Int), zs)) (by rw [HL.out, hok]; rfl)
                simp only [Option.elim_some] at hX
                have HX := Lib.hid hX
                have HB2 := Lib.hid hB2
                clear hX hok hB2
                go_wp2_with fail
                refine (of_any c v2 zs _ hi2).mono ?_
                rintro e w3 ⟨rfl, hb3⟩
                have hB3 := HB2.out.trans (hb3.mono (by omega))
                have hsz3 := hB3.size
                simp at hsz3
                obtain ⟨hlt2, r0, r1, q0, q1⟩ := (Pair.new w (.int .u8 0) (.int .u16 0) 37).below hB3 (by omega)
                have HB3 := Lib.hid hB3
                have HBad0 := Lib.hid (of_bad0 (c : Int) zs)
                clear hb3 hB3
                generalize ofLv (c : Int) zs = L at *
                generalize ofCs (c : Int) zs = C at *
                cases hok : ofOk (c : Int) zs
                · obtain ⟨hL0, hC0⟩ := HBad0.out hok
                  have HK := Lib.hid hok
                  subst hL0 hC0
                  clear hok
                  go_wp2_with fail
                  refine bodyPost_ret (v := .tuple #[.agg #[.int .u8 0, .int .u16 0], .int .i64 27]) (by simp [results, Tryd.results47, go_sem, r0, r1, hlt2]) rfl ⟨by rw [HX.out.1, HX.out.2.1, HX.out.2.2, HK.out]; rfl, ?_⟩
                  refine Below.alloc (((hB0.trans (HB3.out.mono (by simp))).setCell (by simp) _).setCell (by simp) _) (by simp; omega) _
                · have HK := Lib.hid hok
                  clear hok
                  go_wp2_with fail
                  refine bodyPost_ret (v := .tuple #[.agg #[.int .u8 L, .int .u16 C], .int .i64 0]) (by simp [results, Tryd.results47, go_sem, r0, r1, hlt2]) rfl ⟨by rw [HX.out.1, HX.out.2.1, HX.out.2.2, HK.out]; rfl, ?_⟩
                  refine Below.alloc (((hB0.trans (HB3.out.mono (by simp))).setCell (by simp) _).setCell (by simp) _) (by simp; omega) _
            · have HN := Lib.hid (hNext.out (HBad.out (fun h => HE.out h) (fun _ _ h => hq h)))
              have hq' : (((S[H.size]'hl).toNat : Int) == 58) = false := by rw [beq_eq_false_iff_ne]; exact hq
              go_wp2
              go_roundw
              case rel => exact ⟨c + 1, by omega, by go_num, HB1.out, HN.out⟩
              case measure => simp [intOf]; omega
          · have HN := Lib.hid (hNext.out (HBad.out (fun h => HE.out h) (fun _ h _ => hp h)))
            have hp' := strT_ne hp
            go_wp2
            go_roundw
            case rel => exact ⟨c + 1, by omega, by go_num, HB1.out, HN.out⟩
            case measure => simp [intOf]; omega
        · have hl' : ¬ (H.size : Int) < (S.size : Int) := by omega
          have HN := Lib.hid (hNext.out (HBad.out (fun h => HE.out h) (fun h _ _ => hl h)))
          go_wp2
          go_roundw
          case rel => exact ⟨c + 1, by omega, by go_num, HB1.out, HN.out⟩
          case measure => simp [intOf]; omega
    · obtain rfl : c = 100 := by omega
      have hX := read_of s none (readL_no s (fun c' h => HNo.out c' h))
      simp only [Option.elim_none] at hX
      have HX := Lib.hid hX
      obtain ⟨hlt2, r0, r1, q0, q1⟩ := (Pair.new w (.int .u8 0) (.int .u16 0) 37).below hb (by omega)
      have HB := Lib.hid hb
      clear hX hb
      go_wp2
      refine bodyPost_ret (v := .tuple #[.agg #[.int .u8 0, .int .u16 0], .int .i64 28]) (by simp [results, Tryd.results47, go_sem, r0, r1]) rfl ⟨by rw [HX.out.1, HX.out.2.1, HX.out.2.2], ?_⟩
      exact ((hB0.trans (HB.out.mono (by simp))).setCell (by simp) _).setCell (by simp) _
end Go.Proofs.YtfackmiojbdjhaaDoor


namespace Go.Proofs.YtfackmiojbdjhaaDoor
open Go.RowKit

theorem ofN_catL (x : Nat) : ∀ k, k ≤ 16 → ofN (catL (x : Int) k) = orTo x 0 k
  | 0, _ => rfl
  | k + 1, hk => by
    have ih := ofN_catL x k (by omega)
    rw [catL_succ, hasB_nat x k (by omega), orTo, ← ih]
    cases hb : x.testBit k
    · simp
    · simp only [if_true, Bool.true_and]
      have e : ofN (catL (x : Int) k ++ [(k : Int)]) = ofStep (ofN (catL (x : Int) k)) (k : Int) := by unfold ofN; rw [List.foldl_append]; rfl
      rw [e]
      generalize ofN (catL (x : Int) k) = D
      unfold ofStep
      rw [Int.toNat_natCast]
      cases D.testBit k <;> rfl
theorem ofN_all (x : Nat) (hx : x < 65536) : ofN (catL (x : Int) 16) = x := by
  rw [ofN_catL x 16 (by omega), orTo_or x 0 hx (by omega), Nat.zero_or]
theorem catL_ok (c : Int) : catsOk (catL c 16) = true := by
  unfold catsOk
  rw [List.all_eq_true]
  intro z hz
  have := catL_mem c 16 z hz
  simp; omega
theorem catL_rise (c : Int) (k : Nat) : (catL c k).Pairwise (· < ·) := by
  induction k with
  | zero => simp [catL]
  | succ k ih =>
    rw [catL_succ]
    split
    · rw [List.pairwise_append]
      refine ⟨ih, by simp, fun a ha b hb => ?_⟩
      have := catL_mem c k a ha
      simp at hb
      omega
    · exact ih
theorem digits256 (n : Fin 256) : ((Lib.decDigits n.val).all isD) = true ∧ numO (Lib.decDigits n.val) = if n.val < 100 then some n.val else none := by
  revert n; decide +kernel
theorem itoa_isD (z : Int) (h0 : 0 ≤ z) (h1 : z < 256) (c : UInt8) (hc : isD c = false) : (∀ x ∈ Lib.itoa z, x ≠ c) ∧ numO (Lib.itoa z) = if z < 100 then some z.toNat else none := by
  obtain ⟨N, rfl⟩ := Int.eq_ofNat_of_zero_le h0
  rw [Lib.itoa_nonneg]
  obtain ⟨d1, d2⟩ := digits256 ⟨N, by omega⟩
  refine ⟨fun x hx he => ?_, ?_⟩
  · have := List.all_eq_true.1 d1 x hx
    rw [he, hc] at this; cases this
  · simp only [] at d2
    rw [d2]
    by_cases h : N < 100
    · rw [if_pos h, if_pos (by omega)]; rfl
    · rw [if_neg h, if_neg (by omega)]
theorem split_tail (c : UInt8) (b : Bool) (hc : (if b then 58 else 44) = c) (h : List UInt8) (hh : ∀ x ∈ h, x ≠ c) (r : List Int) : splitC c (h ++ tailT b r) = (h, match r with | [] => none | z :: r' => some (Lib.itoa z ++ tailT false r')) := by
  cases r with
  | nil => rw [tailT, List.append_nil, splitC_all c h hh]
  | cons z r' => rw [tailT, hc, splitC_app c h _ hh]
theorem listO_txt : ∀ (r : List Int) (z last : Int), last < z → (∀ x ∈ z :: r, 0 ≤ x ∧ x < 16) → (z :: r).Pairwise (· < ·) → listO (Lib.itoa z ++ tailT false r) last = (z :: r, true)
  | [], z, last, hl, hm, _ => by
    have hz := hm z (List.mem_cons_self ..)
    obtain ⟨d1, d2⟩ := itoa_isD z hz.1 (by omega) 44 (by decide)
    have hs := split_tail 44 false rfl (Lib.itoa z) d1 []
    rw [if_pos (by omega)] at d2
    rw [listO_one _ last z.toNat (by rw [hs]; exact d2) (by omega), hs]
    simp; omega
  | y :: r, z, last, hl, hm, hp => by
    have hz := hm z (List.mem_cons_self ..)
    obtain ⟨d1, d2⟩ := itoa_isD z hz.1 (by omega) 44 (by decide)
    have hs := split_tail 44 false rfl (Lib.itoa z) d1 (y :: r)
    rw [if_pos (by omega)] at d2
    have hp' := List.pairwise_cons.1 hp
    have ih := listO_txt r y (z.toNat : Int) (by have := hp'.1 y (List.mem_cons_self ..); omega) (fun x hx => hm x (List.mem_cons_of_mem _ hx)) hp'.2
    rw [listO_one _ last z.toNat (by rw [hs]; exact d2) (by omega), hs]
    simp only [ih]
    rw [show (z.toNat : Int) = z by omega]
theorem read_txt (la ca : Int) (hl0 : 0 ≤ la) (hl1 : la < 256) : readL (txt la (catL ca 16)) = if la < 100 then some (la, catL ca 16) else none := by
  obtain ⟨d1, d2⟩ := itoa_isD la hl0 hl1 58 (by decide)
  have hs := split_tail 58 true rfl (Lib.itoa la) d1 (catL ca 16)
  have hm : ∀ x ∈ catL ca 16, 0 ≤ x ∧ x < 16 := fun x hx => by have := catL_mem ca 16 x hx; omega
  have hp := catL_rise ca 16
  unfold readL txt
  rw [hs]
  simp only [d2]
  by_cases h : la < 100
  · rw [if_pos h, if_pos h]
    generalize catL ca 16 = zs at *
    cases zs with
    | nil => simp; omega
    | cons z r =>
      have hz := hm z (List.mem_cons_self ..)
      simp only [listO_txt r z (-1) (by omega) hm hp, if_true]
      rw [show (la.toNat : Int) = la by omega]
  · rw [if_neg h, if_neg h]
def wantE (la : Int) : Int := if 99 < la then 28 else if 15 < la then 27 else 0
theorem read_text (la ca : Int) (hl0 : 0 ≤ la) (hl1 : la < 256) (h0 : 0 ≤ ca) (h1 : ca < 65536) : readEr (txt la (catL ca 16)) = wantE la ∧ (la ≤ 15 → readLv (txt la (catL ca 16)) = la ∧ readCs (txt la (catL ca 16)) = ca) := by
  obtain ⟨e1, e2, e3⟩ := read_of _ _ (read_txt la ca hl0 hl1)
  rw [e1, e2, e3]
  by_cases h : la < 100
  · rw [if_pos h]
    simp only [Option.elim_some]
    by_cases h15 : la ≤ 15
    · have hg : 0 ≤ la ∧ la ≤ 15 ∧ catsOk (catL ca 16) = true := ⟨hl0, h15, catL_ok ca⟩
      have hW : wantE la = 0 := by unfold wantE; rw [if_neg (by omega), if_neg (by omega)]
      rw [show ofOk la (catL ca 16) = true from if_pos hg, show ofLv la (catL ca 16) = la from if_pos hg, show ofCs la (catL ca 16) = (ofN (catL ca 16) : Int) from if_pos hg, hW]
      obtain ⟨C, rfl⟩ := Int.eq_ofNat_of_zero_le h0
      rw [ofN_all C (by omega)]
      exact ⟨rfl, fun _ => ⟨rfl, rfl⟩⟩
    · have hg : ¬ (0 ≤ la ∧ la ≤ 15 ∧ catsOk (catL ca 16) = true) := fun h => h15 h.2.1
      have hW : wantE la = 27 := by unfold wantE; rw [if_neg (by omega), if_pos (by omega)]
      rw [show ofOk la (catL ca 16) = false from if_neg hg, hW]
      exact ⟨rfl, fun h => absurd h h15⟩
  · have hW : wantE la = 28 := by unfold wantE; rw [if_pos (by omega)]
    rw [if_neg h, hW]
    exact ⟨rfl, fun h' => by omega⟩
end Go.Proofs.YtfackmiojbdjhaaDoor
