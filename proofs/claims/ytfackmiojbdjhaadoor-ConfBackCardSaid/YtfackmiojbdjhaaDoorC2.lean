import Derived.Test.YtfackmiojbdjhaaDoorC1
import Derived.Test.YtfackmiojbdjhaaDoorMA
/- The answer's test of a name; the range of a label's numbers; how many blocks hold so many bytes. -/
namespace Go.Proofs.YtfackmiojbdjhaaDoor
set_option linter.unusedSimpArgs false
set_option linter.unusedVariables false
open Go.RowKit

theorem refname_any (s : ByteArray) (w : World) : Calls Tryd.prog 29 #[.string s] w fun e w' => e = .returned (.bool (nameB s)) ∧ Below w.heap.size w w' := by
  by_cases h1 : s.size = 0
  · have hd : Hid (nameB s = false) := by show nameB s = false; simp [nameB]; omega
    go_enter Tryd.func29, Tryd.ntmps29
    go_wp2
    go_ret
    exact ⟨ret_bool hd.out.symm, Below.refl _ _⟩
  · by_cases h8 : 8 < s.size
    · have hd : Hid (nameB s = false) := by show nameB s = false; simp [nameB]; omega
      go_enter Tryd.func29, Tryd.ntmps29
      go_wp2
      go_ret
      exact ⟨ret_bool hd.out.symm, Below.refl _ _⟩
    · have hz : ¬ ((s.size : Int) = 0) := by omega
      have h8' : ¬ (8 < (s.size : Int)) := by omega
      go_enter Tryd.func29, Tryd.ntmps29
      go_wp2
      go_loopw [3] (fun i wr => ∃ k : Nat, k ≤ s.size ∧ i = .int .i64 k ∧ Below w.heap.size w wr ∧ ∀ j (hj : j < s.size), j < k → letterB s[j] = true) (fun i _ => s.size - (intOf i).toNat)
      case atStart => exact ⟨0, Nat.zero_le _, rfl, Below.refl _ _, fun j _ h => by omega⟩
      case round =>
        obtain ⟨k, hk, rfl, hb, hall⟩ := hrel
        have HA := Lib.hid hall
        clear hall
        by_cases hlt : k < s.size
        · have HL := Lib.hid (show letterB s[k] = letterB s[k] from rfl)
          obtain ⟨R, hR⟩ : ∃ R, s[k] = R := ⟨_, rfl⟩
          by_cases hlow : R.toNat < 97
          · have HF : Hid (nameB s = false) := by
              show nameB s = false
              rw [nameB, letters_bad s k hlt (by rw [hR]; simp [letterB]; omega), Bool.and_false]
            clear HL
            go_wp2
            go_ret
            exact ⟨ret_bool HF.out.symm, hb⟩
          · by_cases hhi : 122 < R.toNat
            · have HF : Hid (nameB s = false) := by
                show nameB s = false
                rw [nameB, letters_bad s k hlt (by rw [hR]; simp [letterB]; omega), Bool.and_false]
              clear HL
              go_wp2
              go_ret
              exact ⟨ret_bool HF.out.symm, hb⟩
            · have HG : Hid (letterB s[k] = true) := by
                show letterB s[k] = true
                rw [hR]; simp [letterB]; omega
              clear HL
              go_wp2
              go_roundw
              case rel =>
                refine ⟨k + 1, by omega, by go_num, hb, fun j hj hjp => ?_⟩
                by_cases e : j = k
                · subst e; exact HG.out
                · exact HA.out j hj (by omega)
              case measure => simp [intOf]; omega
        · have HT : Hid (nameB s = true) := by
            show nameB s = true
            rw [nameB, letters_upto s (fun j hj => HA.out j hj (by omega))]
            simp; omega
          go_wp2
          go_ret
          exact ⟨ret_bool HT.out.symm, hb⟩
end Go.Proofs.YtfackmiojbdjhaaDoor
