import Derived.Test.YtdebkifnaiohcaaG1
import Derived.Test.YtdebkifnaiohcaaD1
import Derived.Deep.QuietTactic
/- The disk's state; the operations on whole blocks; what the short calls answer. -/
namespace Go.Proofs.Ytdebkifnaiohcaa
set_option linter.unusedSimpArgs false
set_option linter.unusedVariables false
open Go.RowKit

/-! ### a block as a variable, as a zero, as a box -/
theorem wpList_alloc_byts {P : Program} {ops : Array Oper} {rest : List Oper} {op : Oper} {a : Act} {w : World} {Q : Exit → Act → World → Prop} (hgd : op.guard = none) (ty : TypeId) (n : Nat) (ho : op.op = .alloc ty)
    (hz : (P.info? ty).map (fun i => i.zero) = some (some (.agg (byts n fun _ => 0).toArray)))
    (h : ∀ w', Hid (Fl w' w.heap.size n fun _ => 0) → Below w.heap.size w w' → w'.heap.size = w.heap.size + 1 → wpList P ops Q rest (a.put op.dst (.pointer (some ⟨w.heap.size, 0, none⟩))) w') : wpList P ops Q (op :: rest) a w := by
  refine wpList_plain hgd fun K hK => ?_
  have hr : (Instr.alloc ty true (.tuple #[])).run P w = .ok (.pointer (some ⟨w.heap.size, 0, none⟩)) (w.alloc (.cells (byts n fun _ => 0).toArray ty)) := by
    cases hq : P.info? ty with
    | none => simp [hq] at hz
    | some i =>
      simp [hq] at hz
      simp [Instr.alloc, zeroValue, typeInfo, hq, hz, newVar, newRow, Value.cells]
  unfold Oper.wp
  simp [execOp, ho, hr, Result.andThen]
  exact hK _ _ (h _ (Fl.new w n _ ty) ((Below.refl _ _).alloc (Nat.le_refl _) _) (by simp))
theorem wpList_build_byts {P : Program} {ops : Array Oper} {rest : List Oper} {op : Oper} {a : Act} {w : World} {Q : Exit → Act → World → Prop} (hgd : op.guard = none) (ty e : TypeId) (n : Nat) (ho : op.op = .build ty #[])
    (hu : P.underlying ty = some (.array n e)) (hz : (P.info? ty).map (fun i => i.zero) = some (some (.agg (byts n fun _ => 0).toArray))) (he : ((P.info? e).map (·.size)).isSome = true)
    (h : wpList P ops Q rest (a.put op.dst (.agg (byts n fun _ => 0).toArray)) w) : wpList P ops Q (op :: rest) a w := by
  refine wpList_plain hgd fun K hK => ?_
  have hr : (Instr.build ty #[]).run P w = .ok (.agg (byts n fun _ => 0).toArray) w := by
    cases hq : P.info? ty with
    | none => simp [hq] at hz
    | some i =>
      simp [hq] at hz
      cases hq2 : P.info? e with
      | none => simp [hq2] at he
      | some j => simp [Instr.build, zeroValue, sizeOf, typeInfo, hq, hq2, hz, Value.cells, run_underlying hu, Instr.fill]
  unfold Oper.wp
  simp [execOp, ho, hr, Result.andThen]
  exact hK _ _ h
theorem wpList_box_byts {P : Program} {ops : Array Oper} {rest : List Oper} {op : Oper} {a : Act} {w : World} {Q : Exit → Act → World → Prop} (hgd : op.guard = none) (ty : TypeId) (x : Operand) (n : Nat) (ho : op.op = .box ty x) (f : Nat → Int) (hx : a.eval x = .agg (byts n f).toArray)
    (h : ∀ w', Hid (Fl w' w.heap.size n f) → Below w.heap.size w w' → w'.heap.size = w.heap.size + 1 → wpList P ops Q rest (a.put op.dst (.pointer (some ⟨w.heap.size, 0, none⟩))) w') : wpList P ops Q (op :: rest) a w := by
  refine wpList_plain hgd fun K hK => ?_
  have hr : (Instr.box ty (.agg (byts n f).toArray)).run P w = .ok (.pointer (some ⟨w.heap.size, 0, none⟩)) (w.alloc (.cells (byts n f).toArray ty)) := by
    simp [Instr.box, newVar, newRow, Value.cells]
  unfold Oper.wp
  simp [execOp, ho, hx, hr, Result.andThen]
  exact hK _ _ (h _ (Fl.new w n f ty) ((Below.refl _ _).alloc (Nat.le_refl _) _) (by simp))
theorem Try.zero36 : (Try.prog.info? 96).map (fun i => i.zero) = some (some (.agg (byts 64 fun _ => 0).toArray)) := by kernel_rfl
theorem Try.size36 : (Try.prog.info? 96).map (·.size) = some (byts 64 fun _ => 0).length := by kernel_rfl
theorem size36 (f : Nat → Int) : (Try.prog.info? 96).map (·.size) = some (byts 64 f).length := by rw [Try.size36, byts_len, byts_len]
theorem size36' (f : Nat → Int) : (Try.prog.info? 96).map (·.size) = some (byts 64 f).toArray.size := by rw [Try.size36, byts_len, byts_size]
theorem Try.info36 : (Try.prog.info? 96).map (fun i => (i.zero, i.size, i.bytes)) = some (some (.agg (byts 64 fun _ => 0).toArray), 64, 64) := by kernel_rfl

theorem Kp.setA {w w' : World} {a b : Nat} (h : Kp w w' a b) (o : Nat) (v : Value) : Kp w (w'.setCell ⟨a, o, none⟩ v) a b := h.setCell ⟨a, o, none⟩ (.inl rfl) v

/-! ### the disk -/
structure DS where
  n : Nat
  f : Nat → Int
  ar : Bool
  lf : Int
  de : Bool
  rd : Int
  wr : Int
/-- block d holds a disk in this state, whose blocks lie in block g -/
structure Dk (w : World) (d g : Nat) (s : DS) : Prop where
  lt : d < w.heap.size
  ne : g ≠ d
  c0 : w.cell? ⟨d, 0, none⟩ = some (.slice (some ⟨g, 0, none⟩) s.n s.n)
  c1 : w.cell? ⟨d, 1, none⟩ = some (.bool s.ar)
  c2 : w.cell? ⟨d, 2, none⟩ = some (.int .i64 s.lf)
  c3 : w.cell? ⟨d, 3, none⟩ = some (.bool s.de)
  c4 : w.cell? ⟨d, 4, none⟩ = some (.int .i64 s.rd)
  c5 : w.cell? ⟨d, 5, none⟩ = some (.int .i64 s.wr)
  z1 : w.frozen? ⟨d, 1, none⟩ = false
  z2 : w.frozen? ⟨d, 2, none⟩ = false
  z3 : w.frozen? ⟨d, 3, none⟩ = false
  z4 : w.frozen? ⟨d, 4, none⟩ = false
  z5 : w.frozen? ⟨d, 5, none⟩ = false
  fl : Fl w g (s.n * 64) s.f
theorem Dk.below {w w' : World} {B d g : Nat} {s : DS} (h : Dk w d g s) (hb : Below B w w') (hd : d < B) (hg : g < B) : Dk w' d g s :=
  ⟨Nat.lt_of_lt_of_le h.lt hb.size, h.ne, (hb.cell (p := ⟨d, 0, none⟩) hd).trans h.c0, (hb.cell (p := ⟨d, 1, none⟩) hd).trans h.c1, (hb.cell (p := ⟨d, 2, none⟩) hd).trans h.c2, (hb.cell (p := ⟨d, 3, none⟩) hd).trans h.c3, (hb.cell (p := ⟨d, 4, none⟩) hd).trans h.c4, (hb.cell (p := ⟨d, 5, none⟩) hd).trans h.c5,
    (hb.frozen (p := ⟨d, 1, none⟩) hd).trans h.z1, (hb.frozen (p := ⟨d, 2, none⟩) hd).trans h.z2, (hb.frozen (p := ⟨d, 3, none⟩) hd).trans h.z3, (hb.frozen (p := ⟨d, 4, none⟩) hd).trans h.z4, (hb.frozen (p := ⟨d, 5, none⟩) hd).trans h.z5, h.fl.below hb hg⟩
theorem Dk.keep {w w' : World} {d g : Nat} {s : DS} (h : Dk w d g s) (hb : Below w.heap.size w w') : Dk w' d g s := h.below hb h.lt h.fl.lt
theorem Dk.kp {w w' : World} {a b d g : Nat} {s : DS} (h : Dk w d g s) (hb : Kp w w' a b) (h1 : d ≠ a) (h2 : d ≠ b) (h3 : g ≠ a) (h4 : g ≠ b) : Dk w' d g s :=
  ⟨Nat.lt_of_lt_of_le h.lt hb.size, h.ne, (hb.cell (p := ⟨d, 0, none⟩) h.lt h1 h2).trans h.c0, (hb.cell (p := ⟨d, 1, none⟩) h.lt h1 h2).trans h.c1, (hb.cell (p := ⟨d, 2, none⟩) h.lt h1 h2).trans h.c2, (hb.cell (p := ⟨d, 3, none⟩) h.lt h1 h2).trans h.c3, (hb.cell (p := ⟨d, 4, none⟩) h.lt h1 h2).trans h.c4, (hb.cell (p := ⟨d, 5, none⟩) h.lt h1 h2).trans h.c5,
    (hb.frozen (p := ⟨d, 1, none⟩) h.lt h1 h2).trans h.z1, (hb.frozen (p := ⟨d, 2, none⟩) h.lt h1 h2).trans h.z2, (hb.frozen (p := ⟨d, 3, none⟩) h.lt h1 h2).trans h.z3, (hb.frozen (p := ⟨d, 4, none⟩) h.lt h1 h2).trans h.z4, (hb.frozen (p := ⟨d, 5, none⟩) h.lt h1 h2).trans h.z5, h.fl.kp hb h3 h4⟩
theorem cell_set_same {w : World} {d o : Nat} {u : Value} (h : w.cell? ⟨d, o, none⟩ = some u) (v : Value) : (w.setCell ⟨d, o, none⟩ v).cell? ⟨d, o, none⟩ = some v := World.cell?_setCell_same _ _ _ h
theorem cell_set_other {w : World} {d o o' : Nat} {u : Value} (h : w.cell? ⟨d, o, none⟩ = some u) (v : Value) (hne : o' ≠ o) : (w.setCell ⟨d, o', none⟩ v).cell? ⟨d, o, none⟩ = some u := by
  rw [World.cell?_setCell_other _ _ _ _ (by simp [hne])]; exact h
theorem frozen_set {w : World} {d o d' o' : Nat} (h : w.frozen? ⟨d, o, none⟩ = false) (v : Value) : (w.setCell ⟨d', o', none⟩ v).frozen? ⟨d, o, none⟩ = false := by rw [World.frozen?_setCell]; exact h
theorem lt_set {w : World} {d : Nat} (h : d < w.heap.size) (p : Addr) (v : Value) : d < (w.setCell p v).heap.size := by simpa [World.setCell] using h
theorem Dk.set1 {w : World} {d g : Nat} {s : DS} (h : Dk w d g s) (b : Bool) : Dk (w.setCell ⟨d, 1, none⟩ (.bool b)) d g { s with ar := b } :=
  ⟨lt_set h.lt _ _, h.ne, cell_set_other h.c0 _ (by decide), cell_set_same h.c1 _, cell_set_other h.c2 _ (by decide), cell_set_other h.c3 _ (by decide), cell_set_other h.c4 _ (by decide), cell_set_other h.c5 _ (by decide), frozen_set h.z1 _, frozen_set h.z2 _, frozen_set h.z3 _, frozen_set h.z4 _, frozen_set h.z5 _, h.fl.far _ (fun e => h.ne e.symm) _⟩
theorem Dk.set2 {w : World} {d g : Nat} {s : DS} (h : Dk w d g s) (x : Int) : Dk (w.setCell ⟨d, 2, none⟩ (.int .i64 x)) d g { s with lf := x } :=
  ⟨lt_set h.lt _ _, h.ne, cell_set_other h.c0 _ (by decide), cell_set_other h.c1 _ (by decide), cell_set_same h.c2 _, cell_set_other h.c3 _ (by decide), cell_set_other h.c4 _ (by decide), cell_set_other h.c5 _ (by decide), frozen_set h.z1 _, frozen_set h.z2 _, frozen_set h.z3 _, frozen_set h.z4 _, frozen_set h.z5 _, h.fl.far _ (fun e => h.ne e.symm) _⟩
theorem Dk.set3 {w : World} {d g : Nat} {s : DS} (h : Dk w d g s) (b : Bool) : Dk (w.setCell ⟨d, 3, none⟩ (.bool b)) d g { s with de := b } :=
  ⟨lt_set h.lt _ _, h.ne, cell_set_other h.c0 _ (by decide), cell_set_other h.c1 _ (by decide), cell_set_other h.c2 _ (by decide), cell_set_same h.c3 _, cell_set_other h.c4 _ (by decide), cell_set_other h.c5 _ (by decide), frozen_set h.z1 _, frozen_set h.z2 _, frozen_set h.z3 _, frozen_set h.z4 _, frozen_set h.z5 _, h.fl.far _ (fun e => h.ne e.symm) _⟩
theorem Dk.set4 {w : World} {d g : Nat} {s : DS} (h : Dk w d g s) (x : Int) : Dk (w.setCell ⟨d, 4, none⟩ (.int .i64 x)) d g { s with rd := x } :=
  ⟨lt_set h.lt _ _, h.ne, cell_set_other h.c0 _ (by decide), cell_set_other h.c1 _ (by decide), cell_set_other h.c2 _ (by decide), cell_set_other h.c3 _ (by decide), cell_set_same h.c4 _, cell_set_other h.c5 _ (by decide), frozen_set h.z1 _, frozen_set h.z2 _, frozen_set h.z3 _, frozen_set h.z4 _, frozen_set h.z5 _, h.fl.far _ (fun e => h.ne e.symm) _⟩
theorem Dk.set5 {w : World} {d g : Nat} {s : DS} (h : Dk w d g s) (x : Int) : Dk (w.setCell ⟨d, 5, none⟩ (.int .i64 x)) d g { s with wr := x } :=
  ⟨lt_set h.lt _ _, h.ne, cell_set_other h.c0 _ (by decide), cell_set_other h.c1 _ (by decide), cell_set_other h.c2 _ (by decide), cell_set_other h.c3 _ (by decide), cell_set_other h.c4 _ (by decide), cell_set_same h.c5 _, frozen_set h.z1 _, frozen_set h.z2 _, frozen_set h.z3 _, frozen_set h.z4 _, frozen_set h.z5 _, h.fl.far _ (fun e => h.ne e.symm) _⟩
theorem Dk.setB {w : World} {d g : Nat} {s : DS} (h : Dk w d g s) (o : Nat) (ho : o + 64 ≤ s.n * 64) (b : Nat → Int) : Dk (w.setCells g o (byts 64 b)) d g { s with f := upd s.f o 64 b } := by
  have hc : ∀ i, (w.setCells g o (byts 64 b)).cell? ⟨d, i, none⟩ = w.cell? ⟨d, i, none⟩ := fun i => World.cell?_setCells_out g _ o w _ (fun e _ => absurd e.symm h.ne)
  have hz : ∀ i, (w.setCells g o (byts 64 b)).frozen? ⟨d, i, none⟩ = w.frozen? ⟨d, i, none⟩ := fun i => World.frozen?_setCells g _ o w _
  exact ⟨by rw [size_setCells]; exact h.lt, h.ne, (hc 0).trans h.c0, (hc 1).trans h.c1, (hc 2).trans h.c2, (hc 3).trans h.c3, (hc 4).trans h.c4, (hc 5).trans h.c5, (hz 1).trans h.z1, (hz 2).trans h.z2, (hz 3).trans h.z3, (hz 4).trans h.z4, (hz 5).trans h.z5, h.fl.store o 64 ho b⟩

set_option maxHeartbeats 1000000 in
theorem len_any (d g : Nat) (s : DS) (hn : s.n ≤ 65536) (w : World) (h : Dk w d g s) : Calls Try.prog 46 #[.pointer (some ⟨d, 0, none⟩)] w fun e w' => e = .returned (.int .i64 s.n) ∧ w' = w := by
  have c0 := h.c0
  clear h
  go_enter Try.func46, Try.ntmps46
  go_wp2
  go_ret
  exact ⟨rfl, rfl⟩
end Go.Proofs.Ytdebkifnaiohcaa
