import Derived.Test.YtdebkifnaiohcaaD4
import Derived.Test.YtdebkifnaiohcaaD6
/- Awake; the calls of a nil disk. -/
namespace Go.Proofs.Ytdebkifnaiohcaa
set_option linter.unusedSimpArgs false
set_option linter.unusedVariables false
open Go.RowKit

/-- a block whose first byte alone is told -/
def one (x : Int) : Nat → Int := fun j => if j = 0 then x else 0
theorem one_eq (x : Int) : (byts 64 fun _ => 0).toArray.setIfInBounds 0 (.int .u8 x) = (byts 64 (one x)).toArray := by
  rw [List.setIfInBounds_toArray]
  refine congrArg List.toArray (List.ext_getElem? fun i => ?_)
  rw [List.getElem?_set]
  by_cases hi : i < 64
  · rw [byts_get _ hi, byts_len]
    by_cases h0 : i = 0
    · subst h0
      rw [byts_get _ hi]
      simp [one]
    · rw [if_neg (fun e => h0 e.symm), byts_get _ hi]
      simp [one, h0]
  · have e1 : (byts 64 (one x))[i]? = none := List.getElem?_eq_none (by rw [byts_len]; omega)
    have e2 : (byts 64 fun _ => 0)[i]? = none := List.getElem?_eq_none (by rw [byts_len]; omega)
    rw [if_neg (by omega), e1, e2]
theorem run_build1 (x : Int) (w : World) : (Instr.build 96 #[(0, .int .u8 x)]).run Try.prog w = .ok (.agg (byts 64 (one x)).toArray) w := by
  obtain ⟨i, hi, hz, hs, hb⟩ := Try.info36i
  have hs5 : ∃ j, Try.prog.info? 5 = some j ∧ j.size = 1 := by
    have := Try.info5
    cases hq : Try.prog.info? 5 with
    | none => simp [hq] at this
    | some j => exact ⟨j, rfl, by simpa [hq] using this⟩
  obtain ⟨j, hj, hj1⟩ := hs5
  have hne : ¬ (byts 64 fun _ => 0) = [] := fun e => by have := byts_len 64 fun _ => 0; rw [e] at this; cases this
  rw [← one_eq]
  simp [Instr.build, zeroValue, sizeOf, typeInfo, hi, hz, hj, hj1, Value.cells, run_underlying Try.arr36, Instr.fill, hne]
theorem run_build0 (w : World) : (Instr.build 96 #[]).run Try.prog w = .ok (.agg (byts 64 fun _ => 0).toArray) w := by
  obtain ⟨i, hi, hz, hs, hb⟩ := Try.info36i
  have hs5 : ∃ j, Try.prog.info? 5 = some j := by
    have := Try.info5
    cases hq : Try.prog.info? 5 with
    | none => simp [hq] at this
    | some j => exact ⟨j, rfl⟩
  obtain ⟨j, hj⟩ := hs5
  simp [Instr.build, zeroValue, sizeOf, typeInfo, hi, hz, hj, Value.cells, run_underlying Try.arr36, Instr.fill]
theorem yields_build1 {ops : Array Oper} {S : World → Prop} {op : Oper} {a : Act} (hw : Region.wanted op (yielded ops a.tmps) = true) (x : Int) (ho : op.op = .build 96 #[(0, .const (.int .u8 x))]) : YieldsIf Try.prog ops S op (.agg (byts 64 (one x)).toArray) a :=
  .inl ⟨hw, fun w _ => by
    have hr := run_build1 x w
    unfold execOp
    simp [ho, Act.eval, hr, Result.andThen]⟩
theorem yields_build0 {ops : Array Oper} {S : World → Prop} {op : Oper} {a : Act} (hw : Region.wanted op (yielded ops a.tmps) = true) (ho : op.op = .build 96 #[]) : YieldsIf Try.prog ops S op (.agg (byts 64 fun _ => 0).toArray) a :=
  .inl ⟨hw, fun w _ => by
    have hr := run_build0 w
    unfold execOp
    simp [ho, hr, Result.andThen]⟩
/-- an operation that yields, in a list: guarded ones too -/
theorem wpList_yields {P : Program} {ops : Array Oper} {rest : List Oper} {op : Oper} {a : Act} {w : World} {Q : Exit → Act → World → Prop} (v : Value) (hy : YieldsIf P ops (fun W => W = w) op v a) (h : wpList P ops Q rest (a.put op.dst v) w) : wpList P ops Q (op :: rest) a w := by
  rcases hy with ⟨hw, hr⟩ | ⟨hw, rfl⟩
  · refine wpList_step fun K hK => ?_
    rw [if_pos hw]
    unfold Oper.wp
    rw [hr w rfl]
    exact hK _ _ h
  · exact wpList_skip hw h

theorem nil_len (w : World) : Calls Try.prog 46 #[.pointer none] w fun e w' => e = .returned (.int .i64 0) ∧ w' = w := by
  go_enter Try.func46, Try.ntmps46
  go_wp2
  go_ret
  exact ⟨rfl, rfl⟩
set_option maxHeartbeats 2000000 in
set_option maxRecDepth 100000 in
theorem nil_read (x : Int) (w : World) : Calls Try.prog 48 #[.pointer none, .int .i64 x] w fun e w' => e = .returned (.tuple #[.agg (byts 64 fun _ => 0).toArray, .int .i64 1]) ∧ Below w.heap.size w w' := by
  go_enter Try.func48, Try.ntmps48
  go_wp2_with (first | (refine wpList_alloc_byts rfl 96 64 rfl Try.zero36 ?_; intro w1 F1 hb1 hz1; have hb1' := Lib.hid hb1; clear hb1) | (refine wpList_yields _ (yields_build0 rfl rfl) ?_) | (refine wpList_store_mid rfl 96 _ _ rfl w.heap.size 0 (byts 64 fun _ => 0).toArray rfl rfl (by rw [byts_size]; exact F1.out.there 0 64 (Nat.le_refl _)) (size36' _) (byts_all _ _) ?_))
  have F2 := F1.out.stored (fun _ => 0)
  exact bodyPost_ret_by (results_mid_tmp rfl _ _ w.heap.size _ (.array 64 5) rfl F2.range0 Try.arr36 rfl (size36 _)) rfl ⟨rfl, below_setCells hb1'.out _ _ (Nat.le_refl _) _⟩
set_option maxHeartbeats 2000000 in
set_option maxRecDepth 100000 in
theorem nil_write (x : Int) (b : Nat → Int) (w : World) : Calls Try.prog 55 #[.pointer none, .int .i64 x, .agg (byts 64 b).toArray] w fun e w' => e = .returned (.int .i64 1) ∧ Below w.heap.size w w' := by
  go_enter Try.func55, Try.ntmps55
  go_wp2_with (refine wpList_box_byts rfl 96 _ 64 rfl b rfl ?_; intro w1 F1 hb1 hz1; have hb1' := Lib.hid hb1; clear hb1)
  go_ret
  exact ⟨rfl, hb1'.out⟩
end Go.Proofs.Ytdebkifnaiohcaa
