import Derived.Test.YthifnojdencobaaDoorW12
import Derived.Test.YthifnojdencobaaDoorW2
namespace Go.Proofs.YthifnojdencobaaDoor
open Go.RowKit

theorem aw1 : makeLv 3 [0, 12] = 3 := by decide +kernel
theorem aw2 : makeCs 3 [0, 12] = 4097 := by decide +kernel
theorem aw3 : makeEr 3 [0, 12] = 0 := by decide +kernel
theorem aw4 : (⟨(txt 3 (catL 4097 16)).toArray⟩ : ByteArray) = ⟨#[51, 58, 48, 44, 49, 50]⟩ := by decide +kernel
theorem aw5 : leqB 1 4 3 20 = true := by decide +kernel
theorem aw6 : leqB 1 4 3 16 = false := by decide +kernel

set_option maxHeartbeats 400000 in
theorem awake_any (w : World) : Calls Tryd.prog 8 #[] w fun e w' => e = .returned (.bool true) ∧ Below w.heap.size w w' := by
  go_enter Tryd.func8, Tryd.ntmps8
  go_wp2_with fail
  have hb0 : Below w.heap.size w (w.alloc (.cells #[.int .i64 0, .int .i64 12] 3)) := (Below.refl _ _).alloc (Nat.le_refl _) _
  refine (make_any 3 _ [0, 12] _ (.inr ⟨w.heap.size, 0, 2, rfl, by simp, by simp [maxLen], fun i hi => ?_⟩)).mono ?_
  · match i, hi with
    | 0, _ => simp
    | 1, _ => simp
  rintro e w1 ⟨rfl, hb1⟩
  rw [aw1, aw2, aw3]
  have hB1 := hb0.trans (hb1.mono (by simp))
  go_wp2_with fail
  have hl := fun (W : World) => itoa_small 3 W (by omega) (by omega)
  refine (text_any 3 4097 _ (by omega) (by omega) (by omega) (by omega) (fun W _ => hl W)).mono ?_
  rintro e w2 ⟨rfl, hb2⟩
  rw [aw4]
  have hB2 := (hB1.alloc hB1.size (.cells #[.int .u8 3, .int .u16 4097] 25)).trans (hb2.mono (by have := hB1.size; simp; omega))
  clear hl
  go_wp2_with fail
  refine (leq_any 1 4 3 20 _).mono ?_
  rintro e w3 ⟨rfl, hb3⟩
  rw [aw5]
  have hB3 := hB2.trans (hb3.mono hB2.size)
  go_wp2_with fail
  refine (leq_any 1 4 3 16 _).mono ?_
  rintro e w4 ⟨rfl, hb4⟩
  rw [aw6]
  have hB4 := hB3.trans (hb4.mono hB3.size)
  go_wp2
  go_ret
  exact ⟨rfl, hB4⟩
end Go.Proofs.YthifnojdencobaaDoor
