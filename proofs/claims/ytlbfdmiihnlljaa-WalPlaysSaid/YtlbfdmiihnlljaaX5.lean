import Derived.Test.YtlbfdmiihnlljaaX3
import Derived.Test.YtlbfdmiihnlljaaD8
import Derived.Test.YtlbfdmiihnlljaaH1
/- append in a drawn region: the step law. -/
namespace Go.Proofs.Ytlbfdmiihnlljaa
set_option linter.unusedSimpArgs false
set_option linter.unusedVariables false
open Go.RowKit Go.Maps

theorem step_append_own {P : Program} {ops : Array Oper} {o : Oper} {a : Act} {w : World} {K : Act → World → Prop} {Q : Exit → Act → World → Prop} {E : Prop} (hgd : o.guard = none) (s x : Operand) (t : TypeId)
    (ho : o.op = .call { callee := .builtin .append, args := #[s, x], argTypes := #[t, t] })
    (base : Nat) (e : TypeId) (i : TypeInfo) (z : Value) (size bytes : Nat) (ht : P.underlying t = some (.slice e)) (hi : P.info? e = some i) (hz : i.zero = some z)
    (hsize : i.size = size) (hby : i.bytes = bytes) (hzs : z.cells.size = size) (hsz : 0 < size)
    (v : Value) (n : Nat) (xs : List Value) (hs : a.eval s = v) (hown : w.ownsRow base e size v n xs)
    (ad : Addr) (m c : Nat) (news : List Value) (hx : a.eval x = .slice (some ad) m c) (hl : news.length = m * size) (hnews : ∀ j u, news[j]? = some u → w.cell? (ad.add j) = some u) (h1 : ∀ u ∈ news, u.oneCell' = true)
    (h63 : n + m ≤ maxLen) (hbytes : (n + m) * bytes ≤ 140737488355328) (hbase : base ≤ w.heap.size)
    (h : ∀ v' w', w'.ownsRow base e size v' (n + m) (xs ++ news) → w.grownBy w' v.ownBlock → (v' = .slice none 0 0 ↔ v = .slice none 0 0 ∧ m = 0) → K (a.put o.dst v') w') : if Region.wanted o (yielded ops a.tmps) = true then Oper.wp P o a w K Q else E := by
  have hw : Region.wanted o (yielded ops a.tmps) = true := by simp [Region.wanted, hgd]
  rw [if_pos hw]
  exact wp_append_own w s x t ho base e i z size bytes ht hi hz hsize hby hzs hsz v n xs hs hown ad m c news hx hl hnews h1 h63 hbytes hbase h
theorem step_append_none {P : Program} {ops : Array Oper} {o : Oper} {a : Act} {w : World} {K : Act → World → Prop} {Q : Exit → Act → World → Prop} {E : Prop} (hgd : o.guard = none) (s x : Operand) (t : TypeId)
    (ho : o.op = .call { callee := .builtin .append, args := #[s, x], argTypes := #[t, t] })
    (base : Nat) (e : TypeId) (i : TypeInfo) (size : Nat) (ht : P.underlying t = some (.slice e)) (hi : P.info? e = some i)
    (v : Value) (n : Nat) (xs : List Value) (hs : a.eval s = v) (hown : w.ownsRow base e size v n xs) (hx : a.eval x = .slice none 0 0)
    (h : K (a.put o.dst v) w) : if Region.wanted o (yielded ops a.tmps) = true then Oper.wp P o a w K Q else E := by
  have hw : Region.wanted o (yielded ops a.tmps) = true := by simp [Region.wanted, hgd]
  rw [if_pos hw]
  have hrun := run_append_owned_none (P := P) (w := w) base t o.type e i size ht hi v n xs hown
  unfold Oper.wp
  simp [execOp, ho, resolve, invoke, builtin, hs, hx, hrun, Result.andThen]
  exact h
/-- an empty list written out: a block of its own, of no cells -/
theorem ownsRow_empty (w : World) (base : Nat) (e : TypeId) (size : Nat) (hb : base ≤ w.heap.size) : (w.alloc (.cells #[] e)).ownsRow base e size (.slice (some ⟨w.heap.size, 0, none⟩) 0 0) 0 [] :=
  ⟨by simp, .inr ⟨w.heap.size, 0, #[], rfl, hb, by show (w.heap.push (.cells #[] e))[w.heap.size]? = _; simp, Nat.le_refl _, Nat.zero_le _, by simp, by simp⟩⟩
theorem step_slice1 {ops : Array Oper} {op : Oper} {a : Act} {w : World} {K : Act → World → Prop} {Q : Exit → Act → World → Prop} {E : Prop} (hgd : op.guard = none) (x : Operand) (ho : op.op = .buildSlice 34 1 #[(0, x)]) (f : Nat → Int) (hx : a.eval x = .agg (byts 64 f).toArray)
    (h : ∀ w', Hid (Fl w' w.heap.size 64 f) → Below w.heap.size w w' → w'.heap.size = w.heap.size + 1 → K (a.put op.dst (.slice (some ⟨w.heap.size, 0, none⟩) 1 1)) w') : if Region.wanted op (yielded ops a.tmps) = true then Oper.wp Try.prog op a w K Q else E := by
  have hw : Region.wanted op (yielded ops a.tmps) = true := by simp [Region.wanted, hgd]
  rw [if_pos hw]
  obtain ⟨i, hi, hz, hs, hb⟩ := Try.info36i
  have hu : Try.prog.underlying 34 = some (.slice 50) := by kernel_rfl
  have hr : (Instr.buildSlice 34 1 #[(0, .agg (byts 64 f).toArray)]).run Try.prog w = .ok (.slice (some ⟨w.heap.size, 0, none⟩) 1 1) (w.alloc (.cells (byts 64 f).toArray 50)) := by
    have hfill : Instr.fill (fun i => some (i * 64, 64)) ((Array.range (1 * 64)).map ((byts 64 fun _ => 0).toArray[· % (byts 64 fun _ => 0).toArray.size]!)) [(0, .agg (byts 64 f).toArray)] = some (byts 64 f).toArray := by
      have hsz : ((Array.range (1 * 64)).map ((byts 64 fun _ => 0).toArray[· % (byts 64 fun _ => 0).toArray.size]!)).size = 64 := by simp
      generalize (Array.range (1 * 64)).map ((byts 64 fun _ => 0).toArray[· % (byts 64 fun _ => 0).toArray.size]!) = Z at *
      have hc : (Value.agg (byts 64 f).toArray).cells = (byts 64 f).toArray := rfl
      simp only [Instr.fill, hc, byts_size, hsz]
      rw [if_neg (by simp)]
      refine congrArg some (Array.ext_getElem? fun i => ?_)
      have := foldl_set (byts 64 f) 0 Z i (by rw [byts_len, hsz]; decide)
      rw [byts_len, Nat.zero_add, Nat.sub_zero] at this
      have e : (byts 64 f).toArray.zipIdx.foldl (fun cs x => cs.setIfInBounds (0 * 64 + x.2) x.1) Z = ((byts 64 f).zipIdx 0).foldl (fun cs x => cs.setIfInBounds (0 * 64 + x.2) x.1) Z := by simp
      refine (congrArg (·[i]?) e).trans (this.trans ?_)
      by_cases hi : i < 64
      · rw [if_pos (by omega)]
        simp
      · rw [if_neg (by omega), Array.getElem?_eq_none (by omega), Array.getElem?_eq_none (by rw [byts_size]; omega)]
    simp [Instr.buildSlice, zeroValue, sizeOf, typeInfo, hi, hz, hs, Value.cells, run_underlying hu, newRow] at hfill ⊢
    rw [hfill]
    simp [newRow]
  unfold Oper.wp
  simp [execOp, ho, hx, hr, Result.andThen]
  exact h _ (Fl.new w 64 f _) ((Below.refl _ _).alloc (Nat.le_refl _) _) (by simp)
theorem step_empty34 {ops : Array Oper} {op : Oper} {a : Act} {w : World} {K : Act → World → Prop} {Q : Exit → Act → World → Prop} {E : Prop} (hgd : op.guard = none) (ho : op.op = .buildSlice 34 0 #[])
    (h : K (a.put op.dst (.slice (some ⟨w.heap.size, 0, none⟩) 0 0)) (w.alloc (.cells #[] 50))) : if Region.wanted op (yielded ops a.tmps) = true then Oper.wp Try.prog op a w K Q else E := by
  have hw : Region.wanted op (yielded ops a.tmps) = true := by simp [Region.wanted, hgd]
  rw [if_pos hw]
  obtain ⟨i, hi, hz, hs, hb⟩ := Try.info36i
  have hu : Try.prog.underlying 34 = some (.slice 50) := by kernel_rfl
  have hr : (Instr.buildSlice 34 0 #[]).run Try.prog w = .ok (.slice (some ⟨w.heap.size, 0, none⟩) 0 0) (w.alloc (.cells #[] 50)) := by
    simp [Instr.buildSlice, sizeOf, typeInfo, hi, hs, run_underlying hu, newRow, Instr.fill, show Array.range 0 = #[] from by decide, show Array.range 1 = #[0] from by decide]
  unfold Oper.wp
  simp [execOp, ho, hr, Result.andThen]
  exact h
theorem step_empty43 {ops : Array Oper} {op : Oper} {a : Act} {w : World} {K : Act → World → Prop} {Q : Exit → Act → World → Prop} {E : Prop} (hgd : op.guard = none) (ho : op.op = .buildSlice 43 0 #[])
    (h : K (a.put op.dst (.slice (some ⟨w.heap.size, 0, none⟩) 0 0)) (w.alloc (.cells #[] 3))) : if Region.wanted op (yielded ops a.tmps) = true then Oper.wp Try.prog op a w K Q else E := by
  have hw : Region.wanted op (yielded ops a.tmps) = true := by simp [Region.wanted, hgd]
  rw [if_pos hw]
  obtain ⟨i, hi, hz, hs, hb⟩ := Try.info3i
  have hu : Try.prog.underlying 43 = some (.slice 3) := by kernel_rfl
  have hr : (Instr.buildSlice 43 0 #[]).run Try.prog w = .ok (.slice (some ⟨w.heap.size, 0, none⟩) 0 0) (w.alloc (.cells #[] 3)) := by
    simp [Instr.buildSlice, sizeOf, typeInfo, hi, hs, run_underlying hu, newRow, Instr.fill, show Array.range 0 = #[] from by decide, show Array.range 1 = #[0] from by decide]
  unfold Oper.wp
  simp [execOp, ho, hr, Result.andThen]
  exact h
theorem step_int1 {ops : Array Oper} {op : Oper} {a : Act} {w : World} {K : Act → World → Prop} {Q : Exit → Act → World → Prop} {E : Prop} (hgd : op.guard = none) (x : Operand) (ho : op.op = .buildSlice 43 1 #[(0, x)]) (n : Int) (hx : a.eval x = .int .i64 n)
    (h : K (a.put op.dst (.slice (some ⟨w.heap.size, 0, none⟩) 1 1)) (w.alloc (.cells #[.int .i64 n] 3))) : if Region.wanted op (yielded ops a.tmps) = true then Oper.wp Try.prog op a w K Q else E := by
  have hw : Region.wanted op (yielded ops a.tmps) = true := by simp [Region.wanted, hgd]
  rw [if_pos hw]
  obtain ⟨i, hi, hz, hs, hb⟩ := Try.info3i
  have hu : Try.prog.underlying 43 = some (.slice 3) := by kernel_rfl
  have hr : (Instr.buildSlice 43 1 #[(0, .int .i64 n)]).run Try.prog w = .ok (.slice (some ⟨w.heap.size, 0, none⟩) 1 1) (w.alloc (.cells #[.int .i64 n] 3)) := by
    simp [Instr.buildSlice, zeroValue, sizeOf, typeInfo, hi, hz, hs, Value.cells, run_underlying hu, newRow, Instr.fill, show Array.range 0 = #[] from by decide, show Array.range 1 = #[0] from by decide]
  unfold Oper.wp
  simp [execOp, ho, hx, hr, Result.andThen]
  exact h
end Go.Proofs.Ytlbfdmiihnlljaa
