import Derived.Test.YtlbfdmiihnlljaaD4
import Derived.Test.YtlbfdmiihnlljaaD6
/- Awake; the calls of a nil disk. -/
namespace Go.Proofs.Ytlbfdmiihnlljaa
set_option linter.unusedSimpArgs false
set_option linter.unusedVariables false
open Go.RowKit

/-- a block whose first byte alone is told -/
def one (x : Int) : Nat → Int := fun j => if j = 0 then x else 0
theorem one_eq (x : Int) : (byts 64 fun _ => 0).toArray.setIfInBounds 0 (.int .u8 x) = (byts 64 (one x)).toArray := by
  rw [List.setIfInBounds_toArray]
  refine congrArg List.toArray (List.ext_getElem? fun i => ?_)
  rw [List.getElem?_set]
  by_cases hi : i < 64
  · rw [byts_get _ hi, byts_len]
    by_cases h0 : i = 0
    · subst h0
      rw [byts_get _ hi]
      simp [one]
    · rw [if_neg (fun e => h0 e.symm), byts_get _ hi]
      simp [one, h0]
  · have e1 : (byts 64 (one x))[i]? = none := List.getElem?_eq_none (by rw [byts_len]; omega)
    have e2 : (byts 64 fun _ => 0)[i]? = none := List.getElem?_eq_none (by rw [byts_len]; omega)
    rw [if_neg (by omega), e1, e2]
theorem run_build1 (x : Int) (w : World) : (Instr.build 50 #[(0, .int .u8 x)]).run Try.prog w = .ok (.agg (byts 64 (one x)).toArray) w := by
  obtain ⟨i, hi, hz, hs, hb⟩ := Try.info36i
  have hs5 : ∃ j, Try.prog.info? 5 = some j ∧ j.size = 1 := by
    have := Try.info5
    cases hq : Try.prog.info? 5 with
    | none => simp [hq] at this
    | some j => exact ⟨j, rfl, by simpa [hq] using this⟩
  obtain ⟨j, hj, hj1⟩ := hs5
  have hne : ¬ (byts 64 fun _ => 0) = [] := fun e => by have := byts_len 64 fun _ => 0; rw [e] at this; cases this
  rw [← one_eq]
  simp [Instr.build, zeroValue, sizeOf, typeInfo, hi, hz, hj, hj1, Value.cells, run_underlying Try.arr36, Instr.fill, hne]
theorem run_build0 (w : World) : (Instr.build 50 #[]).run Try.prog w = .ok (.agg (byts 64 fun _ => 0).toArray) w := by
  obtain ⟨i, hi, hz, hs, hb⟩ := Try.info36i
  have hs5 : ∃ j, Try.prog.info? 5 = some j := by
    have := Try.info5
    cases hq : Try.prog.info? 5 with
    | none => simp [hq] at this
    | some j => exact ⟨j, rfl⟩
  obtain ⟨j, hj⟩ := hs5
  simp [Instr.build, zeroValue, sizeOf, typeInfo, hi, hz, hj, Value.cells, run_underlying Try.arr36, Instr.fill]
theorem yields_build1 {ops : Array Oper} {S : World → Prop} {op : Oper} {a : Act} (hw : Region.wanted op (yielded ops a.tmps) = true) (x : Int) (ho : op.op = .build 50 #[(0, .const (.int .u8 x))]) : YieldsIf Try.prog ops S op (.agg (byts 64 (one x)).toArray) a :=
  .inl ⟨hw, fun w _ => by
    have hr := run_build1 x w
    unfold execOp
    simp [ho, Act.eval, hr, Result.andThen]⟩
theorem yields_build0 {ops : Array Oper} {S : World → Prop} {op : Oper} {a : Act} (hw : Region.wanted op (yielded ops a.tmps) = true) (ho : op.op = .build 50 #[]) : YieldsIf Try.prog ops S op (.agg (byts 64 fun _ => 0).toArray) a :=
  .inl ⟨hw, fun w _ => by
    have hr := run_build0 w
    unfold execOp
    simp [ho, hr, Result.andThen]⟩
/-- an operation that yields, in a list: guarded ones too -/
theorem wpList_yields {P : Program} {ops : Array Oper} {rest : List Oper} {op : Oper} {a : Act} {w : World} {Q : Exit → Act → World → Prop} (v : Value) (hy : YieldsIf P ops (fun W => W = w) op v a) (h : wpList P ops Q rest (a.put op.dst v) w) : wpList P ops Q (op :: rest) a w := by
  rcases hy with ⟨hw, hr⟩ | ⟨hw, rfl⟩
  · refine wpList_step fun K hK => ?_
    rw [if_pos hw]
    unfold Oper.wp
    rw [hr w rfl]
    exact hK _ _ h
  · exact wpList_skip hw h

theorem nil_len (w : World) : Calls Try.prog 36 #[.pointer none] w fun e w' => e = .returned (.int .i64 0) ∧ w' = w := by
  go_enter Try.func36, Try.ntmps36
  go_wp2
  go_ret
  exact ⟨rfl, rfl⟩
theorem nil_dead (w : World) : Calls Try.prog 31 #[.pointer none] w fun e w' => e = .returned (.bool false) ∧ w' = w := by
  go_enter Try.func31, Try.ntmps31
  go_wp2
  go_ret
  exact ⟨rfl, rfl⟩
theorem nil_counts (w : World) : Calls Try.prog 34 #[.pointer none] w fun e w' => e = .returned (.tuple #[.int .i64 0, .int .i64 0]) ∧ w' = w := by
  go_enter Try.func34, Try.ntmps34
  go_wp2
  exact bodyPost_ret (v := .tuple #[.int .i64 0, .int .i64 0]) (by simp [results, Try.results34, go_sem]) rfl ⟨rfl, rfl⟩
theorem nil_wake (w : World) : Calls Try.prog 21 #[.pointer none] w fun e w' => e = .returned (.tuple #[]) ∧ w' = w := by
  go_enter Try.func21, Try.ntmps21
  go_wp2
  exact bodyPost_ret (results_none rfl _ _ _) rfl ⟨rfl, rfl⟩
theorem nil_arm (x : Int) (w : World) : Calls Try.prog 20 #[.pointer none, .int .i64 x] w fun e w' => e = .returned (.tuple #[]) ∧ w' = w := by
  go_enter Try.func20, Try.ntmps20
  go_wp2
  exact bodyPost_ret (results_none rfl _ _ _) rfl ⟨rfl, rfl⟩
theorem nil_image (w : World) : Calls Try.prog 12 #[.pointer none] w fun e w' => e = .returned (.slice none 0 0) ∧ w' = w := by
  go_enter Try.func12, Try.ntmps12
  go_wp2
  go_ret
  exact ⟨rfl, rfl⟩
set_option maxHeartbeats 2000000 in
set_option maxRecDepth 100000 in
theorem nil_read (x : Int) (w : World) : Calls Try.prog 35 #[.pointer none, .int .i64 x] w fun e w' => e = .returned (.tuple #[.agg (byts 64 fun _ => 0).toArray, .int .i64 1]) ∧ Below w.heap.size w w' := by
  go_enter Try.func35, Try.ntmps35
  go_wp2_with (first | (refine wpList_alloc_byts rfl 50 64 rfl Try.zero36 ?_; intro w1 F1 hb1 hz1; have hb1' := Lib.hid hb1; clear hb1) | (refine wpList_yields _ (yields_build0 rfl rfl) ?_) | (refine wpList_store_mid rfl 50 _ _ rfl w.heap.size 0 (byts 64 fun _ => 0).toArray rfl rfl (by rw [byts_size]; exact F1.out.there 0 64 (Nat.le_refl _)) (size36' _) (byts_all _ _) ?_))
  have F2 := F1.out.stored (fun _ => 0)
  exact bodyPost_ret_by (results_mid_tmp rfl _ _ w.heap.size _ (.array 64 5) rfl F2.range0 Try.arr36 rfl (size36 _)) rfl ⟨rfl, below_setCells hb1'.out _ _ (Nat.le_refl _) _⟩
set_option maxHeartbeats 2000000 in
set_option maxRecDepth 100000 in
theorem nil_write (x : Int) (b : Nat → Int) (w : World) : Calls Try.prog 32 #[.pointer none, .int .i64 x, .agg (byts 64 b).toArray] w fun e w' => e = .returned (.int .i64 1) ∧ Below w.heap.size w w' := by
  go_enter Try.func32, Try.ntmps32
  go_wp2_with (refine wpList_box_byts rfl 50 _ 64 rfl b rfl ?_; intro w1 F1 hb1 hz1; have hb1' := Lib.hid hb1; clear hb1)
  go_ret
  exact ⟨rfl, hb1'.out⟩
end Go.Proofs.Ytlbfdmiihnlljaa
