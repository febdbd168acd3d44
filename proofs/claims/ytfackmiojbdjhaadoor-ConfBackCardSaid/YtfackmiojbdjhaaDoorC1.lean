import Derived.Test.YtfackmiojbdjhaaDoorMA
import Derived.Lib.OthersKept
import Derived.Lib.DecodeNEq
import Derived.Lib.TrimU
/- Names: the code's test by the runes, and the answer's by the bytes. -/
namespace Go.Proofs.YtfackmiojbdjhaaDoor
set_option linter.unusedSimpArgs false
set_option linter.unusedVariables false
open Go.RowKit

def letterB (b : UInt8) : Bool := decide (97 ≤ b.toNat) && decide (b.toNat ≤ 122)
def nameB (s : ByteArray) : Bool := decide (1 ≤ s.size) && decide (s.size ≤ 8) && s.data.toList.all letterB

theorem letters_upto (s : ByteArray) (h : ∀ j (hj : j < s.size), letterB s[j] = true) : s.data.toList.all letterB = true := by
  rw [List.all_eq_true]
  intro x hx
  obtain ⟨j, hj, rfl⟩ := List.mem_iff_getElem.1 hx
  exact h j (by simpa using hj)
theorem letters_bad (s : ByteArray) (j : Nat) (hj : j < s.size) (h : letterB s[j] = false) : s.data.toList.all letterB = false := by
  rw [List.all_eq_false]
  exact ⟨s[j], by exact Array.mem_toList_iff.2 (Array.getElem_mem _), by simp [h]⟩

theorem get_bang (s : ByteArray) (pos : Nat) (h : pos < s.size) : s.get! pos = s[pos] := by
  have h' : pos < s.data.size := h
  show s.data[pos]! = s.data[pos]
  rw [getElem!_pos s.data pos h']

/-- a byte that is no letter opens no rune that is one -/
theorem decode_letter (s : ByteArray) (pos : Nat) (h : pos < s.size) : (letterB s[pos] = true → Utf8.decode s pos = (s[pos].toNat, 1)) ∧ (letterB s[pos] = false → (Utf8.decode s pos).1 < 97 ∨ 122 < (Utf8.decode s pos).1) := by
  refine ⟨fun hl => ?_, fun hl => ?_⟩
  · have : s[pos].toNat < 128 := by simp [letterB] at hl; omega
    exact decode_ascii s pos h this
  · by_cases ha : s[pos].toNat < 128
    · rw [decode_ascii s pos h ha]
      simp [letterB] at hl
      omega
    · rw [Lib.decode_at, get_bang s pos h]
      refine .inr ?_
      generalize s.size - pos = n
      generalize (s.get! (pos + 1)).toNat = b1
      generalize (s.get! (pos + 2)).toNat = b2
      generalize (s.get! (pos + 3)).toNat = b3
      generalize s[pos].toNat = b0 at ha
      unfold Lib.decodeN
      rw [if_neg ha]
      repeat' split
      all_goals (try simp only) <;> omega

theorem isname_any (s : ByteArray) (w : World) : Calls Tryd.prog 55 #[.string s] w fun e w' => e = .returned (.bool (nameB s)) ∧ Below w.heap.size w w' := by
  by_cases h1 : s.size < 1
  · have hd : Hid (nameB s = false) := by show nameB s = false; simp [nameB]; omega
    go_enter Tryd.func55, Tryd.ntmps55
    go_wp2
    go_ret
    exact ⟨ret_bool hd.out.symm, Below.refl _ _⟩
  · by_cases h8 : 8 < s.size
    · have hd : Hid (nameB s = false) := by show nameB s = false; simp [nameB]; omega
      go_enter Tryd.func55, Tryd.ntmps55
      go_wp2
      go_ret
      exact ⟨ret_bool hd.out.symm, Below.refl _ _⟩
    · go_enter Tryd.func55, Tryd.ntmps55
      go_wp2
      go_loopw [4] (fun _ wr => ∃ pos, pos ≤ s.size ∧ wr.heap[w.heap.size]? = some (.stringIter s pos) ∧ Below w.heap.size w wr ∧ ∀ j (hj : j < s.size), j < pos → letterB s[j] = true) (fun _ wr => s.size - (match wr.heap[w.heap.size]? with | some (.stringIter _ p) => p | _ => 0))
      case atStart =>
        exact ⟨0, Nat.zero_le _, World.iter_heap w s 0, (Below.refl _ _).alloc (Nat.le_refl _) _, fun j _ h => by omega⟩
      case round =>
        obtain ⟨pos, hps, hit, hb, hall⟩ := hrel
        have HA := Lib.hid hall
        clear hall
        by_cases hlt : pos < s.size
        · have hnx : ∀ ty, (Instr.next (.pointer (some ⟨w.heap.size, 0, none⟩)) true ty).run Tryd.prog wr = _ := fun ty => Lib.run_next_any_at wr w.heap.size s pos ty hit hlt
          have hD := decode_letter s pos hlt
          cases hl : letterB s[pos]
          · have hr := hD.2 hl
            have HF : Hid (nameB s = false) := by
              show nameB s = false
              rw [nameB, letters_bad s pos hlt hl, Bool.and_false]
            obtain ⟨R, hR⟩ : ∃ R, (Utf8.decode s pos).1 = R := ⟨_, rfl⟩
            obtain ⟨K, hK⟩ : ∃ K, (Utf8.decode s pos).2 = K := ⟨_, rfl⟩
            rw [hR] at hr
            rw [hR, hK] at hnx
            have hbw2 := Lib.below_iterAt hb (k := w.heap.size) (Nat.le_refl _) s (pos + K)
            obtain ⟨W, hWd⟩ : ∃ W, wr.iterAt w.heap.size s (pos + K) = W := ⟨_, rfl⟩
            rw [hWd] at hnx hbw2
            clear hit hb hD hl
            by_cases hlow : R < 97
            · go_wp2
              go_ret
              exact ⟨ret_bool HF.out.symm, hbw2⟩
            · have hhi : 122 < R := by omega
              go_wp2
              go_ret
              exact ⟨ret_bool HF.out.symm, hbw2⟩
          · have hr := hD.1 hl
            have hl' : 97 ≤ s[pos].toNat ∧ s[pos].toNat ≤ 122 := by simpa [letterB] using hl
            rw [hr] at hnx
            have HL := Lib.hid hl
            obtain ⟨R, hR⟩ : ∃ R, s[pos].toNat = R := ⟨_, rfl⟩
            rw [hR] at hnx hl'
            have hbw2 := Lib.below_iterAt hb (k := w.heap.size) (Nat.le_refl _) s (pos + 1)
            have hit2 := Lib.hid (Lib.iterAt_heap wr w.heap.size s pos (pos + 1) hit)
            have HI := Lib.hid hit
            obtain ⟨W, hWd⟩ : ∃ W, wr.iterAt w.heap.size s (pos + 1) = W := ⟨_, rfl⟩
            rw [hWd] at hnx hbw2 hit2
            clear hit hb hD hl hr hR hWd
            go_wp2
            go_roundw
            case rel =>
              refine ⟨pos + 1, by omega, hit2.out, hbw2, fun j hj hjp => ?_⟩
              by_cases e : j = pos
              · subst e; exact HL.out
              · exact HA.out j hj (by omega)
            case measure => rw [hit2.out, HI.out]; simp only; omega
        · have hnx : ∀ ty, (Instr.next (.pointer (some ⟨w.heap.size, 0, none⟩)) true ty).run Tryd.prog wr = _ := fun ty => Lib.run_next_end_at wr w.heap.size s pos ty hit hlt
          have HT : Hid (nameB s = true) := by
            show nameB s = true
            rw [nameB, letters_upto s (fun j hj => HA.out j hj (by omega))]
            simp; omega
          clear hit
          go_wp2
          go_ret
          exact ⟨ret_bool HT.out.symm, hb⟩
end Go.Proofs.YtfackmiojbdjhaaDoor
