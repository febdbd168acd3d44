import Derived.Test.YtdebkifnaiohcaaE5
import Derived.Deep.CutBlock
import Derived.Deep.DeepCutAuto
/- install. -/
namespace Go.Proofs.Ytdebkifnaiohcaa
set_option linter.unusedSimpArgs false
set_option linter.unusedVariables false
open Go.RowKit Go.Maps

theorem step_alloc_byts {P : Program} {ops : Array Oper} {o : Oper} {a : Act} {w : World} {K : Act → World → Prop} {Q : Exit → Act → World → Prop} {E : Prop} (hgd : o.guard = none) (ty : TypeId) (n : Nat) (ho : o.op = .alloc ty)
    (hz : (P.info? ty).map (fun i => i.zero) = some (some (.agg (byts n fun _ => 0).toArray)))
    (h : ∀ w', Hid (Fl w' w.heap.size n fun _ => 0) → Below w.heap.size w w' → w'.heap.size = w.heap.size + 1 → K (a.put o.dst (.pointer (some ⟨w.heap.size, 0, none⟩))) w') : if Region.wanted o (yielded ops a.tmps) = true then Oper.wp P o a w K Q else E := by
  have hw : Region.wanted o (yielded ops a.tmps) = true := by simp [Region.wanted, hgd]
  rw [if_pos hw]
  have hr : (Instr.alloc ty true (.tuple #[])).run P w = .ok (.pointer (some ⟨w.heap.size, 0, none⟩)) (w.alloc (.cells (byts n fun _ => 0).toArray ty)) := by
    cases hq : P.info? ty with
    | none => simp [hq] at hz
    | some i =>
      simp [hq] at hz
      simp [Instr.alloc, zeroValue, typeInfo, hq, hz, newVar, newRow, Value.cells]
  unfold Oper.wp
  simp [execOp, ho, hr, Result.andThen]
  exact h _ (Fl.new w n _ ty) ((Below.refl _ _).alloc (Nat.le_refl _) _) (by simp)

end Go.Proofs.Ytdebkifnaiohcaa
