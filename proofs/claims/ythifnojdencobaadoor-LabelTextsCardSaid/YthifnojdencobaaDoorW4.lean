import Derived.Test.YthifnojdencobaaDoorLab
namespace Go.Proofs.YthifnojdencobaaDoor
open Go.RowKit

/-- one step of the least above, as the code reckons it -/
def joinStep (a x : Int × Int) : Int × Int := (max a.1 x.1, bits .or .u16 a.2 x.2)
def joinC (ls : List (Int × Int)) : Int × Int := ls.foldl joinStep (0, 0)

theorem fold_take {α β : Type} (f : β → α → β) (z : β) (ls : List α) (k : Nat) (h : k < ls.length) : (ls.take (k + 1)).foldl f z = f ((ls.take k).foldl f z) ls[k] := by
  rw [List.take_succ_eq_append_getElem h, List.foldl_append]; rfl

set_option maxHeartbeats 400000 in
theorem join_some (b off cap : Nat) (ls : List (Int × Int)) (w : World) (hbl : b < w.heap.size) (hm : ls.length ≤ maxLen)
    (hc0 : ∀ i (h : i < ls.length), w.cell? ⟨b, off + i * 2, none⟩ = some (.int .u8 ls[i].1)) (hc1 : ∀ i (h : i < ls.length), w.cell? ⟨b, off + i * 2 + 1, none⟩ = some (.int .u16 ls[i].2)) :
    Calls Tryd.prog 18 #[.slice (some ⟨b, off, none⟩) ls.length cap] w fun e w' => e = .returned (.agg #[.int .u8 (joinC ls).1, .int .u16 (joinC ls).2]) ∧ Below w.heap.size w w' := by
  unfold maxLen at hm
  have HC0 := Lib.hid hc0
  have HC1 := Lib.hid hc1
  clear hc0 hc1
  go_enter Tryd.func18, Tryd.ntmps18
  go_wp2
  go_loopw [8] (fun i wr => ∃ k : Nat, k ≤ ls.length ∧ i = .int .i64 k ∧ Below w.heap.size w wr ∧ Pair wr w.heap.size (.int .u8 0) (.int .u16 0) ∧ Pair wr (w.heap.size + 1) (.int .u8 (joinC (ls.take k)).1) (.int .u16 (joinC (ls.take k)).2)) (fun i _ => ls.length - (intOf i).toNat)
  case atStart =>
    exact ⟨0, by omega, rfl, by repeat (first | exact Below.refl _ _ | apply Below.drew | refine Below.alloc ?_ (by simp) _), (Pair.new _ _ _ _).alloc _, by simpa [joinC] using Pair.new (w.alloc (.cells #[.int .u8 0, .int .u16 0] 25)) (.int .u8 0) (.int .u16 0) 25⟩
  case round =>
    obtain ⟨k, hk, rfl, hb, hr, hp⟩ := hrel
    obtain ⟨hsz, c0, c1, f0, f1⟩ := id hp
    obtain ⟨-, r0, r1, q0, q1⟩ := id hr
    by_cases hlt : k < ls.length
    · have e0 := (hb.cell (p := ⟨b, off + k * 2, none⟩) hbl).trans (HC0.out k hlt)
      have e1 := (hb.cell (p := ⟨b, off + k * 2 + 1, none⟩) hbl).trans (HC1.out k hlt)
      have HS : Hid (joinC (ls.take (k + 1)) = joinStep (joinC (ls.take k)) ls[k]) := fold_take _ _ _ _ hlt
      generalize ls[k] = x at *
      generalize joinC (ls.take k) = A at *
      have HP := Lib.hid hp
      have HR := Lib.hid hr
      clear hp hr
      by_cases hmax : A.1 < x.1
      all_goals
        go_wp2
        go_roundw
        case rel =>
          refine ⟨k + 1, by omega, by go_num, ?_, ?_, ?_⟩
          · exact ((hb.setCell (by simp) _).setCell (by simp) _).alloc (by simpa [World.setCell] using hb.size) _
          · exact ((HR.out.set_far (by simp) _).set_far (by simp) _).alloc _
          · rw [HS.out]
            have hP := ((HP.out.set0 (.int .u8 (joinStep A x).1)).set1 (.int .u16 (joinStep A x).2)).alloc (.cells #[.int .u8 x.1, .int .u16 x.2] 25)
            have hj : (joinStep A x).1 = max A.1 x.1 := rfl
            first
              | (rw [show max A.1 x.1 = x.1 by omega] at hj; rw [hj] at hP ⊢; exact hP)
              | (rw [show max A.1 x.1 = A.1 by omega] at hj; rw [hj] at hP ⊢; exact hP)
        case measure => simp [intOf]; omega
    · obtain rfl : k = ls.length := by omega
      rw [List.take_length] at *
      have HP := Lib.hid hp
      have HR := Lib.hid hr
      clear hp hr
      go_wp2
      refine bodyPost_ret (v := .agg #[.int .u8 (joinC ls).1, .int .u16 (joinC ls).2]) (by simp [results, Tryd.results18, go_sem, r0, r1]) rfl ⟨rfl, ?_⟩
      exact (hb.setCell (by simp) _).setCell (by simp) _
end Go.Proofs.YthifnojdencobaaDoor
