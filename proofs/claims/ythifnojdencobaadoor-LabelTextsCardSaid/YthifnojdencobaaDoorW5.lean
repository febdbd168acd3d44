import Derived.Test.YthifnojdencobaaDoorW4
namespace Go.Proofs.YthifnojdencobaaDoor
open Go.RowKit

set_option maxHeartbeats 400000 in
theorem top_any (w : World) : Calls Tryd.prog 26 #[] w fun e w' => e = .returned (.agg #[.int .u8 15, .int .u16 65535]) ∧ Below w.heap.size w w' := by
  go_enter Tryd.func26, Tryd.ntmps26
  go_wp2
  refine bodyPost_ret (v := .agg #[.int .u8 15, .int .u16 65535]) (by simp [results, Tryd.results26, go_sem]) rfl ⟨rfl, ?_⟩
  exact (Below.refl _ _).alloc (Nat.le_refl _) _

/-- one step of the greatest below, as the code reckons it -/
def meetStep (a x : Int × Int) : Int × Int := (min a.1 x.1, bits .and .u16 a.2 x.2)
def meetC (ls : List (Int × Int)) : Int × Int := ls.foldl meetStep (15, 65535)

set_option maxHeartbeats 400000 in
theorem meet_some (b off cap : Nat) (ls : List (Int × Int)) (w : World) (hbl : b < w.heap.size) (hm : ls.length ≤ maxLen)
    (hc0 : ∀ i (h : i < ls.length), w.cell? ⟨b, off + i * 2, none⟩ = some (.int .u8 ls[i].1)) (hc1 : ∀ i (h : i < ls.length), w.cell? ⟨b, off + i * 2 + 1, none⟩ = some (.int .u16 ls[i].2)) :
    Calls Tryd.prog 20 #[.slice (some ⟨b, off, none⟩) ls.length cap] w fun e w' => e = .returned (.agg #[.int .u8 (meetC ls).1, .int .u16 (meetC ls).2]) ∧ Below w.heap.size w w' := by
  unfold maxLen at hm
  have HC0 := Lib.hid hc0
  have HC1 := Lib.hid hc1
  clear hc0 hc1
  go_enter Tryd.func20, Tryd.ntmps20
  go_wp2_with fail
  refine (top_any _).mono ?_
  rintro e w1 ⟨rfl, hb1⟩
  obtain ⟨hcT, hfT⟩ := bcell hb1
  have hz1 := hb1.size
  simp at hz1
  go_wp2
  go_loopw [9] (fun i wr => ∃ k : Nat, k ≤ ls.length ∧ i = .int .i64 k ∧ Below w.heap.size w wr ∧ Pair wr w.heap.size (.int .u8 0) (.int .u16 0) ∧ Pair wr w1.heap.size (.int .u8 (meetC (ls.take k)).1) (.int .u16 (meetC (ls.take k)).2)) (fun i _ => ls.length - (intOf i).toNat)
  case atStart =>
    have h0 : Below w.heap.size w (w.alloc (.cells #[.int .u8 0, .int .u16 0] 25)) := (Below.refl _ _).alloc (Nat.le_refl _) _
    refine ⟨0, by omega, rfl, ?_, ?_, by simpa [meetC] using Pair.new w1 (.int .u8 15) (.int .u16 65535) 25⟩
    · exact (h0.trans (hb1.mono (by simp))).alloc (by omega) _
    · exact ((Pair.new w _ _ _).below hb1 (by simp)).alloc _
  case round =>
    obtain ⟨k, hk, rfl, hb, hr, hp⟩ := hrel
    obtain ⟨hsz, c0, c1, f0, f1⟩ := id hp
    obtain ⟨-, r0, r1, q0, q1⟩ := id hr
    by_cases hlt : k < ls.length
    · have e0 := (hb.cell (p := ⟨b, off + k * 2, none⟩) hbl).trans (HC0.out k hlt)
      have e1 := (hb.cell (p := ⟨b, off + k * 2 + 1, none⟩) hbl).trans (HC1.out k hlt)
      have HS : Hid (meetC (ls.take (k + 1)) = meetStep (meetC (ls.take k)) ls[k]) := fold_take _ _ _ _ hlt
      generalize ls[k] = x at *
      generalize meetC (ls.take k) = A at *
      have HP := Lib.hid hp
      have HR := Lib.hid hr
      clear hp hr hcT hfT
      by_cases hmax : x.1 < A.1
      all_goals
        go_wp2
        go_roundw
        case rel =>
          refine ⟨k + 1, by omega, by go_num, ?_, ?_, ?_⟩
          · exact ((hb.setCell (by simp; omega) _).setCell (by simp; omega) _).alloc (by simpa [World.setCell] using hb.size) _
          · exact ((HR.out.set_far (by simp; omega) _).set_far (by simp; omega) _).alloc _
          · rw [HS.out]
            have hP := ((HP.out.set0 (.int .u8 (meetStep A x).1)).set1 (.int .u16 (meetStep A x).2)).alloc (.cells #[.int .u8 x.1, .int .u16 x.2] 25)
            have hj : (meetStep A x).1 = min A.1 x.1 := rfl
            first
              | (rw [show min A.1 x.1 = x.1 by omega] at hj; rw [hj] at hP ⊢; exact hP)
              | (rw [show min A.1 x.1 = A.1 by omega] at hj; rw [hj] at hP ⊢; exact hP)
        case measure => simp [intOf]; omega
    · obtain rfl : k = ls.length := by omega
      rw [List.take_length] at *
      have HP := Lib.hid hp
      have HR := Lib.hid hr
      clear hp hr hcT hfT
      go_wp2
      refine bodyPost_ret (v := .agg #[.int .u8 (meetC ls).1, .int .u16 (meetC ls).2]) (by simp [results, Tryd.results20, go_sem, r0, r1]) rfl ⟨rfl, ?_⟩
      exact (hb.setCell (by simp) _).setCell (by simp) _
end Go.Proofs.YthifnojdencobaaDoor
