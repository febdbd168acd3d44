import Derived.Test.YtfkiinbmbbhbkaaDoorW2
namespace Go.Proofs.YtfkiinbmbbhbkaaDoor
set_option linter.unusedSimpArgs false
set_option linter.unusedVariables false
open Go.RowKit

theorem range_all_snoc (p : Nat → Bool) (k : Nat) : (List.range (k + 1)).all p = ((List.range k).all p && p k) := by
  simp [List.range_succ]
theorem range_all_bad (p : Nat → Bool) (n k : Nat) (hk : k < n) (h : p k = false) : (List.range n).all p = false := by
  rw [List.all_eq_false]; exact ⟨k, by simpa using hk, by simp [h]⟩

set_option maxHeartbeats 400000 in
theorem refleq_any (la ca lb cb : Int) (w : World) (h0 : 0 ≤ ca) (h1 : ca < 65536) (h2 : 0 ≤ cb) (h3 : cb < 65536) :
    Calls Tryd.prog 30 #[.agg #[.int .u8 la, .int .u16 ca], .agg #[.int .u8 lb, .int .u16 cb]] w fun e w' => e = .returned (.bool (refLeqB la ca lb cb)) ∧ Below w.heap.size w w' := by
  by_cases h : la ≤ lb
  · have hd : decide (lb < la) = false := by simp; omega
    go_enter Tryd.func30, Tryd.ntmps30
    go_wp2
    go_loopw [5] (fun i wr => ∃ k : Nat, k ≤ 16 ∧ i = .int .i64 k ∧ Below w.heap.size w wr ∧ w.heap.size + 1 < wr.heap.size ∧
        wr.cell? ⟨w.heap.size, 0, none⟩ = some (.int .u8 la) ∧ wr.cell? ⟨w.heap.size, 1, none⟩ = some (.int .u16 ca) ∧
        wr.cell? ⟨w.heap.size + 1, 0, none⟩ = some (.int .u8 lb) ∧ wr.cell? ⟨w.heap.size + 1, 1, none⟩ = some (.int .u16 cb) ∧
        (List.range k).all (fun i => !hasB ca (i : Int) || hasB cb (i : Int)) = true) (fun i _ => 16 - (intOf i).toNat)
    case atStart =>
      exact ⟨0, by omega, rfl, by repeat (first | exact Below.refl _ _ | apply Below.drew | refine Below.alloc ?_ (by simp) _), by simp, by simp, by simp, by simp, by simp, rfl⟩
    case round =>
      obtain ⟨k, hk, rfl, hb, hsz, c0, c1, d0, d1, hall⟩ := hrel
      have HA := Lib.hid hall
      clear hall
      by_cases hlt : k < 16
      · by_cases hh : hasB ca (k : Int) = true
        · by_cases hg : hasB cb (k : Int) = true
          · go_wp2_with fail
            refine (has_any la ca _ _ h0 h1).mono ?_
            rintro e w1 ⟨rfl, hb1⟩
            rw [hh]
            obtain ⟨hc1, hf1⟩ := bcell hb1
            have hz1 := hb1.size
            go_wp2_with fail
            refine (has_any lb cb _ _ h2 h3).mono ?_
            rintro e w2 ⟨rfl, hb2⟩
            rw [hg]
            obtain ⟨hc2, hf2⟩ := bcell hb2
            have hz2 := hb2.size
            go_wp2
            go_roundw
            case rel =>
              refine ⟨k + 1, by omega, by go_num, (hb.trans (hb1.mono (by omega))).trans (hb2.mono (by omega)), by omega, ?_, ?_, ?_, ?_, ?_⟩
              · rw [hc2 _ _ (by omega), hc1 _ _ (by omega), c0]
              · rw [hc2 _ _ (by omega), hc1 _ _ (by omega), c1]
              · rw [hc2 _ _ (by omega), hc1 _ _ (by omega), d0]
              · rw [hc2 _ _ (by omega), hc1 _ _ (by omega), d1]
              · rw [range_all_snoc, HA.out]; simp [hg]
            case measure => simp [intOf]; omega
          · have hg' : hasB cb (k : Int) = false := by simpa using hg
            go_wp2_with fail
            refine (has_any la ca _ _ h0 h1).mono ?_
            rintro e w1 ⟨rfl, hb1⟩
            rw [hh]
            obtain ⟨hc1, hf1⟩ := bcell hb1
            have hz1 := hb1.size
            go_wp2_with fail
            refine (has_any lb cb _ _ h2 h3).mono ?_
            rintro e w2 ⟨rfl, hb2⟩
            rw [hg']
            go_wp2
            go_ret
            refine ⟨ret_bool ?_, (hb.trans (hb1.mono (by omega))).trans (hb2.mono (by omega))⟩
            unfold refLeqB
            rw [range_all_bad _ 16 k hlt (by simp [hh, hg'])]
            simp
        · have hh' : hasB ca (k : Int) = false := by simpa using hh
          go_wp2_with fail
          refine (has_any la ca _ _ h0 h1).mono ?_
          rintro e w1 ⟨rfl, hb1⟩
          rw [hh']
          obtain ⟨hc1, hf1⟩ := bcell hb1
          have hz1 := hb1.size
          go_wp2
          go_roundw
          case rel =>
            refine ⟨k + 1, by omega, by go_num, (hb.trans (hb1.mono (by omega))), by omega, ?_, ?_, ?_, ?_, ?_⟩
            · rw [hc1 _ _ (by omega), c0]
            · rw [hc1 _ _ (by omega), c1]
            · rw [hc1 _ _ (by omega), d0]
            · rw [hc1 _ _ (by omega), d1]
            · rw [range_all_snoc, HA.out]; simp [hh']
          case measure => simp [intOf]; omega
      · obtain rfl : k = 16 := by omega
        go_wp2
        go_ret
        exact ⟨ret_bool (by unfold refLeqB; rw [HA.out]; simpa using h), hb⟩
  · have hd : decide (lb < la) = true := by simp; omega
    go_enter Tryd.func30, Tryd.ntmps30
    go_wp2
    go_ret
    exact ⟨ret_bool (by simp [refLeqB]; omega), by repeat (first | exact Below.refl _ _ | apply Below.drew | refine Below.alloc ?_ (by simp) _)⟩
end Go.Proofs.YtfkiinbmbbhbkaaDoor
