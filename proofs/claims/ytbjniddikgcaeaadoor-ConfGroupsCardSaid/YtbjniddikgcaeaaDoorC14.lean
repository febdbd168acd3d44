import Derived.Test.YtbjniddikgcaeaaDoorC1
/- Numbers of one to four digits: the code's. -/
namespace Go.Proofs.YtbjniddikgcaeaaDoor
set_option linter.unusedSimpArgs false
set_option linter.unusedVariables false
open Go.RowKit

def digB (b : UInt8) : Bool := decide (48 ≤ b.toNat) && decide (b.toNat ≤ 57)
def numV (l : List UInt8) : Nat := l.foldl (fun n b => n * 10 + (b.toNat - 48)) 0
def numC (s : ByteArray) : Option Nat :=
  if 1 ≤ s.size ∧ s.size ≤ 4 ∧ ¬ (1 < s.size ∧ (s.get! 0).toNat = 48) ∧ s.data.toList.all digB = true then some (numV s.data.toList) else none
theorem numV_snoc (l : List UInt8) (b : UInt8) : numV (l ++ [b]) = numV l * 10 + (b.toNat - 48) := by
  unfold numV; rw [List.foldl_append]; rfl
theorem numV_lt : ∀ (n : Nat) (l : List UInt8), l.length = n → (∀ b ∈ l, digB b = true) → numV l < 10 ^ n := by
  intro n
  induction n with
  | zero => intro l hl _; obtain rfl := List.eq_nil_of_length_eq_zero hl; decide
  | succ n ih =>
    intro l hl hd
    have hne : l ≠ [] := by intro e; subst e; simp at hl
    rw [← List.dropLast_concat_getLast hne, numV_snoc, Nat.pow_succ]
    have h1 := ih l.dropLast (by simp [hl]) (fun b hb => hd b ((List.dropLast_sublist l).subset hb))
    have h2 := hd (l.getLast hne) (List.getLast_mem hne)
    simp only [digB, Bool.and_eq_true, decide_eq_true_eq] at h2
    omega
theorem digs_upto (s : ByteArray) (h : ∀ j (hj : j < s.size), digB s[j] = true) : s.data.toList.all digB = true := by
  rw [List.all_eq_true]
  intro x hx
  obtain ⟨j, hj, rfl⟩ := List.mem_iff_getElem.1 hx
  exact h j (by simpa using hj)
theorem digs_bad (s : ByteArray) (j : Nat) (hj : j < s.size) (h : digB s[j] = false) : s.data.toList.all digB = false := by
  rw [List.all_eq_false]
  exact ⟨s[j], by exact Array.mem_toList_iff.2 (Array.getElem_mem _), by simp [h]⟩
theorem take_snoc (s : ByteArray) (k : Nat) (h : k < s.size) : s.data.toList.take (k + 1) = s.data.toList.take k ++ [s[k]] := by
  rw [List.take_succ_eq_append_getElem (by simpa using h)]
  rfl
theorem numV_take_lt (s : ByteArray) (k : Nat) (hk : k ≤ s.size) (h : ∀ j (hj : j < s.size), j < k → digB s[j] = true) : numV (s.data.toList.take k) < 10 ^ k := by
  refine numV_lt k _ (by rw [List.length_take]; have : s.data.toList.length = s.size := Array.length_toList
                         omega) (fun b hb => ?_)
  obtain ⟨j, hj, rfl⟩ := List.mem_iff_getElem.1 hb
  rw [List.length_take] at hj
  have hj2 : j < s.size := by omega
  rw [List.getElem_take]
  exact h j hj2 (by omega)

set_option maxHeartbeats 1000000 in
theorem number_any4 (s : ByteArray) (w : World) : Calls Tryd.prog 63 #[.string s] w fun e w' => e = .returned (.tuple #[.int .i64 (((numC s).getD 0 : Nat) : Int), .bool (numC s).isSome]) ∧ Below w.heap.size w w' := by
  have hbad : ¬ (1 ≤ s.size ∧ s.size ≤ 4 ∧ ¬ (1 < s.size ∧ (s.get! 0).toNat = 48)) → Hid (numC s = none) := by
    intro h
    show numC s = none
    unfold numC
    rw [if_neg (fun h' => h ⟨h'.1, h'.2.1, h'.2.2.1⟩)]
  by_cases h1 : s.size < 1
  · have hN := hbad (by omega)
    clear hbad
    go_enter Tryd.func63, Tryd.ntmps63
    go_wp2
    refine bodyPost_ret (v := .tuple #[.int .i64 0, .bool false]) (by simp [results, Tryd.results63, go_sem]) rfl ⟨by rw [hN.out]; rfl, Below.refl _ _⟩
  · by_cases h4 : 4 < s.size
    · have hN := hbad (by omega)
      clear hbad
      go_enter Tryd.func63, Tryd.ntmps63
      go_wp2
      refine bodyPost_ret (v := .tuple #[.int .i64 0, .bool false]) (by simp [results, Tryd.results63, go_sem]) rfl ⟨by rw [hN.out]; rfl, Below.refl _ _⟩
    · have h0 : 0 < s.size := by omega
      have hg : s.get! 0 = s[0] := get_bang s 0 h0
      rw [hg] at hbad
      have HG := Lib.hid hg
      clear hg
      obtain ⟨Z, hZ⟩ : ∃ Z, s[0] = Z := ⟨_, rfl⟩
      rw [hZ] at hbad
      by_cases hz : 1 < s.size ∧ Z.toNat = 48
      · have hN := hbad (fun h => h.2.2 hz)
        obtain ⟨hz1, hz2⟩ := hz
        clear hbad
        go_enter Tryd.func63, Tryd.ntmps63
        go_wp2
        refine bodyPost_ret (v := .tuple #[.int .i64 0, .bool false]) (by simp [results, Tryd.results63, go_sem]) rfl ⟨by rw [hN.out]; rfl, Below.refl _ _⟩
      · have HGood : Hid (∀ (_ : s.data.toList.all digB = true), numC s = some (numV s.data.toList)) := by
          intro h
          unfold numC
          rw [if_pos ⟨by omega, by omega, by rw [HG.out, hZ]; exact hz, h⟩]
        have HBad : Hid (s.data.toList.all digB = false → numC s = none) := by
          intro h
          unfold numC
          rw [if_neg (by rw [h]; simp)]
        clear hbad
        have main : ∀ (hz' : (s.size ≤ 1) ∨ (1 < s.size ∧ ¬ (Z.toNat = 48))), Calls Tryd.prog 63 #[.string s] w fun e w' => e = .returned (.tuple #[.int .i64 (((numC s).getD 0 : Nat) : Int), .bool (numC s).isSome]) ∧ Below w.heap.size w w' := by
          intro hz'
          have HZ := Lib.hid hz'
          have i1 : ¬ ((s.size : Int) < 1) := by omega
          have i4 : ¬ (4 < (s.size : Int)) := by omega
          rcases hz' with hz1 | ⟨hz1, hz2⟩
          · have i2 : ¬ (1 < (s.size : Int)) := by omega
            go_enter Tryd.func63, Tryd.ntmps63
            go_wp2
            go_loopw [4, 26] (fun n i wr => ∃ k : Nat, k ≤ s.size ∧ i = .int .i64 k ∧ n = .int .i64 (numV (s.data.toList.take k) : Nat) ∧ Below w.heap.size w wr ∧ ∀ j (hj : j < s.size), j < k → digB s[j] = true) (fun _ i _ => s.size - (intOf i).toNat)
            case atStart => exact ⟨0, by omega, rfl, by simp [numV], Below.refl _ _, fun j _ h => by omega⟩
            case round =>
              obtain ⟨k, hk, rfl, rfl, hb, hall⟩ := hrel
              have HA := Lib.hid hall
              have hlt10 := numV_take_lt s k hk hall
              clear hall
              by_cases hlt : k < s.size
              · have hp : 10 ^ k ≤ 10 ^ 3 := Nat.pow_le_pow_right (by omega) (by omega)
                have HT : Hid (numV (s.data.toList.take (k + 1)) = numV (s.data.toList.take k) * 10 + (s[k].toNat - 48)) := by
                  show numV _ = _
                  rw [take_snoc s k hlt, numV_snoc]
                have HD : Hid (digB s[k] = (decide (48 ≤ s[k].toNat) && decide (s[k].toNat ≤ 57))) := rfl
                have HF : Hid (digB s[k] = false → numC s = none) := fun h => HBad.out (digs_bad s k hlt h)
                have hv : numV (s.data.toList.take k) ≤ 999 := by omega
                generalize numV (s.data.toList.take k) = V at *
                obtain ⟨R, hR⟩ : ∃ R, s[k] = R := ⟨_, rfl⟩
                rw [hR] at HT HD HF
                clear hlt10 hp
                by_cases hlow : R.toNat < 48
                · have hN : Hid (numC s = none) := HF.out (by rw [HD.out]; simp; omega)
                  go_wp2
                  refine bodyPost_ret (v := .tuple #[.int .i64 0, .bool false]) (by simp [results, Tryd.results63, go_sem]) rfl ⟨by rw [hN.out]; rfl, hb⟩
                · by_cases hhi : 57 < R.toNat
                  · have hN : Hid (numC s = none) := HF.out (by rw [HD.out]; simp; omega)
                    go_wp2
                    refine bodyPost_ret (v := .tuple #[.int .i64 0, .bool false]) (by simp [results, Tryd.results63, go_sem]) rfl ⟨by rw [hN.out]; rfl, hb⟩
                  · have HR := Lib.hid hR
                    go_wp2
                    go_roundw
                    case rel =>
                      refine ⟨k + 1, by omega, by go_num, ?_, hb, fun j hj hjk => ?_⟩
                      · rw [HT.out]; congr 1; omega
                      · by_cases e : j = k
                        · subst e; rw [HR.out, HD.out]; simp; omega
                        · exact HA.out j hj (by omega)
                    case measure => simp [intOf]; omega
              · obtain rfl : k = s.size := by omega
                have hN : Hid (numC s = some (numV s.data.toList)) := HGood.out (digs_upto s (fun j hj => HA.out j hj hj))
                have hfull : s.data.toList.take s.size = s.data.toList := List.take_of_length_le (Nat.le_of_eq Array.length_toList)
                rw [hfull]
                clear hfull
                go_wp2
                refine bodyPost_ret (v := .tuple #[.int .i64 (numV s.data.toList : Nat), .bool true]) (by simp [results, Tryd.results63, go_sem]) rfl ⟨by rw [hN.out]; rfl, hb⟩
          · have i2 : 1 < (s.size : Int) := by omega
            go_enter Tryd.func63, Tryd.ntmps63
            go_wp2
            go_loopw [4, 26] (fun n i wr => ∃ k : Nat, k ≤ s.size ∧ i = .int .i64 k ∧ n = .int .i64 (numV (s.data.toList.take k) : Nat) ∧ Below w.heap.size w wr ∧ ∀ j (hj : j < s.size), j < k → digB s[j] = true) (fun _ i _ => s.size - (intOf i).toNat)
            case atStart => exact ⟨0, by omega, rfl, by simp [numV], Below.refl _ _, fun j _ h => by omega⟩
            case round =>
              obtain ⟨k, hk, rfl, rfl, hb, hall⟩ := hrel
              have HA := Lib.hid hall
              have hlt10 := numV_take_lt s k hk hall
              clear hall
              by_cases hlt : k < s.size
              · have hp : 10 ^ k ≤ 10 ^ 3 := Nat.pow_le_pow_right (by omega) (by omega)
                have HT : Hid (numV (s.data.toList.take (k + 1)) = numV (s.data.toList.take k) * 10 + (s[k].toNat - 48)) := by
                  show numV _ = _
                  rw [take_snoc s k hlt, numV_snoc]
                have HD : Hid (digB s[k] = (decide (48 ≤ s[k].toNat) && decide (s[k].toNat ≤ 57))) := rfl
                have HF : Hid (digB s[k] = false → numC s = none) := fun h => HBad.out (digs_bad s k hlt h)
                have hv : numV (s.data.toList.take k) ≤ 999 := by omega
                generalize numV (s.data.toList.take k) = V at *
                obtain ⟨R, hR⟩ : ∃ R, s[k] = R := ⟨_, rfl⟩
                rw [hR] at HT HD HF
                clear hlt10 hp
                by_cases hlow : R.toNat < 48
                · have hN : Hid (numC s = none) := HF.out (by rw [HD.out]; simp; omega)
                  go_wp2
                  refine bodyPost_ret (v := .tuple #[.int .i64 0, .bool false]) (by simp [results, Tryd.results63, go_sem]) rfl ⟨by rw [hN.out]; rfl, hb⟩
                · by_cases hhi : 57 < R.toNat
                  · have hN : Hid (numC s = none) := HF.out (by rw [HD.out]; simp; omega)
                    go_wp2
                    refine bodyPost_ret (v := .tuple #[.int .i64 0, .bool false]) (by simp [results, Tryd.results63, go_sem]) rfl ⟨by rw [hN.out]; rfl, hb⟩
                  · have HR := Lib.hid hR
                    go_wp2
                    go_roundw
                    case rel =>
                      refine ⟨k + 1, by omega, by go_num, ?_, hb, fun j hj hjk => ?_⟩
                      · rw [HT.out]; congr 1; omega
                      · by_cases e : j = k
                        · subst e; rw [HR.out, HD.out]; simp; omega
                        · exact HA.out j hj (by omega)
                    case measure => simp [intOf]; omega
              · obtain rfl : k = s.size := by omega
                have hN : Hid (numC s = some (numV s.data.toList)) := HGood.out (digs_upto s (fun j hj => HA.out j hj hj))
                have hfull : s.data.toList.take s.size = s.data.toList := List.take_of_length_le (Nat.le_of_eq Array.length_toList)
                rw [hfull]
                clear hfull
                go_wp2
                refine bodyPost_ret (v := .tuple #[.int .i64 (numV s.data.toList : Nat), .bool true]) (by simp [results, Tryd.results63, go_sem]) rfl ⟨by rw [hN.out]; rfl, hb⟩
        exact main (by omega)
end Go.Proofs.YtbjniddikgcaeaaDoor
