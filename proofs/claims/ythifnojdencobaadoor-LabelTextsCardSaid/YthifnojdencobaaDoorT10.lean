import Derived.Test.YthifnojdencobaaDoorT9
import Derived.Test.YthifnojdencobaaDoorSplit
import Derived.Deep.QuietTactic
import Derived.BigQuiet
import Derived.Lib.QuietBelow
import Derived.Laws.StructEq
import Derived.Deep.DeepCutAuto
namespace Go.Proofs.YthifnojdencobaaDoor
open Go.RowKit

set_option maxHeartbeats 4000000 in
set_option maxRecDepth 100000 in
theorem texts_walk (s : List UInt8) (la ca : Int) (m : Int) (w : World) (hl0 : 0 ≤ la) (hl1 : la < 256) (h0 : 0 ≤ ca) (h1 : ca < 65536) (hm : w.cell? ⟨0, 0, none⟩ = some (.int .i64 m))
    (hI : ∀ W, Below w.heap.size w W → Calls Tryd.prog 35 #[.int .i64 la] W fun e w' => e = .returned (.string ⟨(Lib.itoa la).toArray⟩) ∧ Below W.heap.size W w') :
    Calls Tryd.prog 5 #[.string ⟨s.toArray⟩, .agg #[.int .u8 la, .int .u16 ca]] w fun e w' => e = .returned (.bool true) ∧ Below w.heap.size w w' := by
  have HI := Lib.hid hI
  have HM := Lib.hid hm
  have h00 := World.block_lt_of_cell? w _ hm
  clear hI hm
  have hssz : (⟨s.toArray⟩ : ByteArray).size = s.length := by show s.toArray.size = _; simp
  have hb0 : Below w.heap.size w (w.alloc (.cells #[.int .u8 la, .int .u16 ca] 25)) := (Below.refl _ _).alloc (Nat.le_refl _) _
  obtain ⟨hT1, hT2⟩ := read_text la ca hl0 hl1 h0 h1
  have hTl := txt_len la (catL ca 16) hl0 hl1 (fun z hz => catL_mem ca 16 z hz)
  have hcl := catL_len ca 16
  have HT1 := Lib.hid hT1
  have HT2 := Lib.hid hT2
  clear hT1 hT2
  go_enter Tryd.func5, Tryd.ntmps5
  go_wp2_with fail
  refine (awake_any _).mono ?_
  rintro e w1 ⟨rfl, hb1⟩
  have hB1 : Below w.heap.size w w1 := hb0.trans (hb1.mono (by simp))
  have hP1 := (Pair.new w (.int .u8 la) (.int .u16 ca) 25).below hb1 (by simp)
  clear hb1
  by_cases hlen : 200 < s.length
  · have hd : decide ((200 : Int) < (s.length : Int)) = true := by simp; omega
    go_wp2
    go_ret
    exact ⟨rfl, hB1⟩
  · have hd : decide ((200 : Int) < (s.length : Int)) = false := by simp; omega
    have HSz := Lib.hid hssz
    have HP1 := Lib.hid hP1
    have HB1 := Lib.hid hB1
    clear hP1 hB1
    go_wp2_with fail
    refine (parse_any s m _ (by omega) ((HB1.out.cell h00).trans HM.out)).mono ?_
    rintro e w2 ⟨rfl, hb2⟩
    have HQ := Lib.hid (fun wz => refparse_any s wz (by omega))
    generalize readLv s = X1 at *
    generalize readCs s = X2 at *
    generalize readEr s = X3 at *
    have hB2 := HB1.out.trans (hb2.mono HB1.out.size)
    have hP2 := HP1.out.below hb2 (HP1.out.1)
    clear hb2
    have hB2' := hB2.alloc hB2.size (.cells #[.int .u8 X1, .int .u16 X2] 25)
    have hP2' := hP2.alloc (.cells #[.int .u8 X1, .int .u16 X2] 25)
    have hX2 := Pair.new w2 (.int .u8 X1) (.int .u16 X2) 25
    have HB2 := Lib.hid hB2'
    have HP2 := Lib.hid hP2'
    have HX2 := Lib.hid hX2
    clear hB2 hP2 hB2' hP2' hX2
    go_wp2_with fail
    refine (HQ.out _).mono ?_
    rintro e w3 ⟨rfl, hb3⟩
    have hB3 := HB2.out.trans (hb3.mono HB2.out.size)
    have hP3 := HP2.out.below hb3 HP2.out.1
    have hX3 := HX2.out.below hb3 HX2.out.1
    have hY3 := Pair.new w3 (.int .u8 X1) (.int .u16 X2) 25
    have HB3 := Lib.hid (hB3.alloc hB3.size (.cells #[.int .u8 X1, .int .u16 X2] 25))
    have HP3 := Lib.hid (hP3.alloc (.cells #[.int .u8 X1, .int .u16 X2] 25))
    have HX3 := Lib.hid (hX3.alloc (.cells #[.int .u8 X1, .int .u16 X2] 25))
    have HY3 := Lib.hid hY3
    obtain ⟨hlt3, l0, l1, -, -⟩ := id hP3
    clear hb3 hB3 hP3 hX3 hY3
    go_wp2_with fail
    refine (text_any la ca _ h0 h1 hl0 hl1 (fun W hW => HI.out W (HB3.out.trans (hW.mono HB3.out.size)))).mono ?_
    rintro e w4 ⟨rfl, hb4⟩
    have HB4 := Lib.hid (HB3.out.trans (hb4.mono HB3.out.size))
    have HP4 := Lib.hid (HP3.out.below hb4 HP3.out.1)
    have HX4 := Lib.hid (HX3.out.below hb4 HX3.out.1)
    have HY4 := Lib.hid (HY3.out.below hb4 HY3.out.1)
    clear hb4 l0 l1 hlt3
    generalize txt la (catL ca 16) = T at *
    obtain ⟨E, hE⟩ : ∃ E, readEr T = E := ⟨_, rfl⟩
    have HE := Lib.hid hE
    have hT1 := HT1.out
    rw [hE] at hT1
    clear hE
    have HW := Lib.hid hT1
    clear hT1
    go_wp2_with fail
    refine (parse_any T m _ (by omega) ((HB4.out.cell h00).trans HM.out)).mono ?_
    rintro e w5 ⟨rfl, hb5⟩
    rw [HE.out]
    generalize readLv T = Z1 at *
    generalize readCs T = Z2 at *
    have HB5 := HB4.out.trans (hb5.mono HB4.out.size)
    have HP5 := HP4.out.below hb5 HP4.out.1
    have HX5 := HX4.out.below hb5 HX4.out.1
    have HY5 := HY4.out.below hb5 HY4.out.1
    have HB6 := Lib.hid (HB5.alloc HB5.size (.cells #[.int .u8 Z1, .int .u16 Z2] 25))
    have HP6 := Lib.hid (HP5.alloc (.cells #[.int .u8 Z1, .int .u16 Z2] 25))
    have HX6 := Lib.hid (HX5.alloc (.cells #[.int .u8 Z1, .int .u16 Z2] 25))
    have HY6 := Lib.hid (HY5.alloc (.cells #[.int .u8 Z1, .int .u16 Z2] 25))
    have HZ6 := Lib.hid (Pair.new w5 (.int .u8 Z1) (.int .u16 Z2) 25)
    clear hb5 HB5 HP5 HX5 HY5
    go_upto_region 8 with fail
    generalize hw6 : w5.alloc (.cells #[.int .u8 Z1, .int .u16 Z2] 25) = w6 at *
    clear hw6
    obtain ⟨-, l0, l1, -, -⟩ := id HP6.out
    obtain ⟨-, x0, x1, -, -⟩ := id HX6.out
    obtain ⟨-, y0, y1, -, -⟩ := id HY6.out
    obtain ⟨-, z0, z1, -, -⟩ := id HZ6.out
    by_cases h99 : 99 < la
    · have hEE : E = 28 := by rw [HW.out]; unfold wantE; rw [if_pos h99]
      subst hEE
      go_wp2_with fail
      have k0 := cell_regrown l0
      have k1 := cell_regrown l1
      have k2 := cell_regrown x0
      have k3 := cell_regrown x1
      have k4 := cell_regrown y0
      have k5 := cell_regrown y1
      have k6 := cell_regrown z0
      have k7 := cell_regrown z1
      have q1 := fun d os => Calls.regrown_of (text_any la ca (Sort.grow (redrawn w6 d) os) h0 h1 hl0 hl1 (fun W hW => HI.out W (HB6.out.trans (((below_regrown w6 d os).trans (hW.mono (below_regrown w6 d os).size)).mono HB6.out.size))))
      have q2 := fun d os => Calls.regrown_of (reftext_any la ca (Sort.grow (redrawn w6 d) os) h0 h1 hl0 hl1)
      refine wp_region_quiet_below (by kernel_rfl) (by kernel_rfl) ?_
      repeat (first | go_big_quiet_step (first | (with_reducible exact q1 _ _) | (with_reducible exact q2 _ _)) | quiet_step (first | (with_reducible exact q1 _ _) | (with_reducible exact q2 _ _)))
      refine wpQuiet_nil ?_
      intro _ hw'
      obtain ⟨⟨dq, osq⟩, rfl⟩ := hw'
      have HB7 := Lib.hid (HB6.out.trans ((below_regrown w6 dq osq).mono HB6.out.size))
      clear k0 k1 k2 k3 k4 k5 k6 k7 q1 q2 l0 l1 x0 x1 y0 y1 z0 z1
      generalize Sort.grow (redrawn w6 dq) osq = w7 at *
      go_wp2
      go_ret
      exact ⟨rfl, HB7.out⟩
    · by_cases h15 : 15 < la
      · have hEE : E = 27 := by rw [HW.out]; unfold wantE; rw [if_neg h99, if_pos h15]
        subst hEE
        go_wp2_with fail
        have k0 := cell_regrown l0
        have k1 := cell_regrown l1
        have k2 := cell_regrown x0
        have k3 := cell_regrown x1
        have k4 := cell_regrown y0
        have k5 := cell_regrown y1
        have k6 := cell_regrown z0
        have k7 := cell_regrown z1
        have q1 := fun d os => Calls.regrown_of (text_any la ca (Sort.grow (redrawn w6 d) os) h0 h1 hl0 hl1 (fun W hW => HI.out W (HB6.out.trans (((below_regrown w6 d os).trans (hW.mono (below_regrown w6 d os).size)).mono HB6.out.size))))
        have q2 := fun d os => Calls.regrown_of (reftext_any la ca (Sort.grow (redrawn w6 d) os) h0 h1 hl0 hl1)
        refine wp_region_quiet_below (by kernel_rfl) (by kernel_rfl) ?_
        repeat (first | go_big_quiet_step (first | (with_reducible exact q1 _ _) | (with_reducible exact q2 _ _)) | quiet_step (first | (with_reducible exact q1 _ _) | (with_reducible exact q2 _ _)))
        refine wpQuiet_nil ?_
        intro _ hw'
        obtain ⟨⟨dq, osq⟩, rfl⟩ := hw'
        have HB7 := Lib.hid (HB6.out.trans ((below_regrown w6 dq osq).mono HB6.out.size))
        clear k0 k1 k2 k3 k4 k5 k6 k7 q1 q2 l0 l1 x0 x1 y0 y1 z0 z1
        generalize Sort.grow (redrawn w6 dq) osq = w7 at *
        go_wp2
        go_ret
        exact ⟨rfl, HB7.out⟩
      · have hEE : E = 0 := by rw [HW.out]; unfold wantE; rw [if_neg h99, if_neg h15]
        subst hEE
        obtain ⟨hz1', hz2'⟩ := HT2.out (by omega)
        have hz3 := hz1'.symm
        have hz4 := hz2'.symm
        clear hz1' hz2'
        subst hz3 hz4
        go_wp2_with fail
        have k0 := cell_regrown l0
        have k1 := cell_regrown l1
        have k2 := cell_regrown x0
        have k3 := cell_regrown x1
        have k4 := cell_regrown y0
        have k5 := cell_regrown y1
        have k6 := cell_regrown z0
        have k7 := cell_regrown z1
        have q1 := fun d os => Calls.regrown_of (text_any la ca (Sort.grow (redrawn w6 d) os) h0 h1 hl0 hl1 (fun W hW => HI.out W (HB6.out.trans (((below_regrown w6 d os).trans (hW.mono (below_regrown w6 d os).size)).mono HB6.out.size))))
        have q2 := fun d os => Calls.regrown_of (reftext_any la ca (Sort.grow (redrawn w6 d) os) h0 h1 hl0 hl1)
        refine wp_region_quiet_below (by kernel_rfl) (by kernel_rfl) ?_
        repeat (first | go_big_quiet_step (first | (with_reducible exact q1 _ _) | (with_reducible exact q2 _ _)) | quiet_step (first | (with_reducible exact q1 _ _) | (with_reducible exact q2 _ _)))
        refine wpQuiet_nil ?_
        intro _ hw'
        obtain ⟨⟨dq, osq⟩, rfl⟩ := hw'
        have HB7 := Lib.hid (HB6.out.trans ((below_regrown w6 dq osq).mono HB6.out.size))
        clear k0 k1 k2 k3 k4 k5 k6 k7 q1 q2 l0 l1 x0 x1 y0 y1 z0 z1
        generalize Sort.grow (redrawn w6 dq) osq = w7 at *
        go_wp2
        go_ret
        exact ⟨rfl, HB7.out⟩
end Go.Proofs.YthifnojdencobaaDoor
