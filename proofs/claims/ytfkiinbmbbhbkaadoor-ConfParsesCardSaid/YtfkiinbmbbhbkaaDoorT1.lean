import Derived.Test.YtfkiinbmbbhbkaaDoorW12
import Derived.IntWalk
import Derived.Laws.IdiomStrings
import Derived.Lib.ItoaLen
namespace Go.Proofs.YtfkiinbmbbhbkaaDoor
set_option linter.unusedSimpArgs false
set_option linter.unusedVariables false
open Go.RowKit

set_option maxRecDepth 100000 in
theorem digit_conv (N : Nat) (w : World) : Sem.run Tryd.prog (convert 26 9 (.slice (some ⟨w.heap.size, 0, none⟩) 1 1)) (w.alloc (.cells #[.int .u8 (48 + (N : Int) % 10)] 5)) = .ok (.string ⟨#[UInt8.ofNat (48 + N % 10)]⟩) (w.alloc (.cells #[.int .u8 (48 + (N : Int) % 10)] 5)) := by
  refine run_convert_bytes_back (P := Tryd.prog) _ 26 9 5 ⟨w.heap.size, 0, none⟩ 1 [UInt8.ofNat (48 + N % 10)] Tryd.underlying26 Tryd.underlying5 Tryd.underlying9 (fun j hj => ?_)
  obtain rfl : j = 0 := by simpa using hj
  have : ((UInt8.ofNat (48 + N % 10)).toNat : Int) = 48 + (N : Int) % 10 := by
    rw [UInt8.toNat_ofNat']
    omega
  have h2 : (48 + (N : Int) % 10) % 256 = 48 + (N : Int) % 10 := by omega
  simp [Addr.add, h2]

set_option maxRecDepth 100000 in
set_option maxHeartbeats 1000000 in
/-- the document's answer's own Itoa: the decimal numeral -/
theorem refitoa_nat (N : Nat) : N < 1000000 → ∀ w, Calls Tryd.prog 64 #[.int .i64 (N : Int)] w fun e w' => e = .returned (.string ⟨(Lib.decDigits N).toArray⟩) ∧ Below w.heap.size w w' := by
  induction N using Nat.strongRecOn with
  | ind N ih =>
    intro hN w
    have IH := Lib.hid ih
    clear ih
    have h0 : (0 : Int) ≤ (N : Int) := by omega
    have hcv := digit_conv N w
    have hB : Below w.heap.size w (w.alloc (.cells #[.int .u8 (48 + (N : Int) % 10)] 5)) := (Below.refl _ w).alloc (Nat.le_refl _) _
    by_cases h9 : 9 < N
    · have h9' : (9 : Int) < (N : Int) := by omega
      have HD : Hid (Lib.decDigits N = Lib.decDigits (N / 10) ++ [UInt8.ofNat (48 + N % 10)]) := by
        show Lib.decDigits N = _
        rw [Lib.decDigits, dif_neg (by omega)]
      have hl : (Lib.decDigits (N / 10)).length ≤ 20 := by
        rw [Lib.decDigits_length]
        exact Lib.nDigits_le20 _ (by omega)
      generalize UInt8.ofNat (48 + N % 10) = dg at *
      have HB := Lib.hid hB
      clear hB
      go_enter Tryd.func64, Tryd.ntmps64
      go_wp2_with fail
      rw [show (N : Int) / 10 = ((N / 10 : Nat) : Int) by omega]
      refine (IH.out (N / 10) (by omega) (by omega) _).mono ?_
      rintro e w1 ⟨rfl, hb1⟩
      have HB1 := Lib.hid (HB.out.trans (hb1.mono HB.out.size))
      clear hcv hb1
      generalize Lib.decDigits (N / 10) = D at *
      have he : (⟨D.toArray⟩ ++ ⟨#[dg]⟩ : ByteArray) = ⟨(D ++ [dg]).toArray⟩ := by
        apply ByteArray.ext; simp
      have HE := Lib.hid he
      clear he
      go_wp2
      go_ret
      refine ⟨?_, HB1.out⟩
      rw [HD.out, ← HE.out]
      rfl
    · have h9' : ¬ (9 : Int) < (N : Int) := by omega
      have HD : Hid (Lib.decDigits N = [UInt8.ofNat (48 + N % 10)]) := by
        show Lib.decDigits N = _
        rw [Lib.decDigits_one (by omega), show N % 10 = N by omega]
      generalize UInt8.ofNat (48 + N % 10) = dg at *
      have HB := Lib.hid hB
      clear hB
      go_enter Tryd.func64, Tryd.ntmps64
      go_wp2
      go_ret
      rw [HD.out]
      exact ⟨rfl, HB.out⟩
set_option maxRecDepth 100000 in
theorem refitoa_any (n : Int) (w : World) (h0 : 0 ≤ n) (h1 : n < 1000000) : Calls Tryd.prog 64 #[.int .i64 n] w fun e w' => e = .returned (.string ⟨(Lib.itoa n).toArray⟩) ∧ Below w.heap.size w w' := by
  obtain ⟨N, rfl⟩ := Int.eq_ofNat_of_zero_le h0
  rw [Lib.itoa_nonneg]
  exact refitoa_nat N (by omega) w
end Go.Proofs.YtfkiinbmbbhbkaaDoor
