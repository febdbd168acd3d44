import Derived.Test.YtdebkifnaiohcaaD1
import Derived.Test.YtdebkifnaiohcaaG2
import Derived.Deep.QuietTactic
import Derived.BigQuiet
import Derived.DeepKeys
/- Blocks of cells; a node as twelve numbers; nodes compared. -/
namespace Go.Proofs.Ytdebkifnaiohcaa
set_option linter.unusedSimpArgs false
set_option linter.unusedVariables false
open Go.RowKit Go.Maps


/-- block g holds these cells, which may be written -/
structure Vl (w : World) (g : Nat) (cs : List Value) : Prop where
  lt : g < w.heap.size
  c : ∀ j v, cs[j]? = some v → w.cell? ⟨g, j, none⟩ = some v
  z : ∀ j, j < cs.length → w.frozen? ⟨g, j, none⟩ = false
theorem Vl.below {w w' : World} {B g : Nat} {cs : List Value} (h : Vl w g cs) (hb : Below B w w') (hg : g < B) : Vl w' g cs :=
  ⟨Nat.lt_of_lt_of_le h.lt hb.size, fun j v hj => (hb.cell (p := ⟨g, j, none⟩) hg).trans (h.c j v hj), fun j hj => (hb.frozen (p := ⟨g, j, none⟩) hg).trans (h.z j hj)⟩
theorem Vl.keep {w w' : World} {g : Nat} {cs : List Value} (h : Vl w g cs) (hb : Below w.heap.size w w') : Vl w' g cs := h.below hb h.lt
theorem Vl.kp {w w' : World} {a b g : Nat} {cs : List Value} (h : Vl w g cs) (hb : Kp w w' a b) (h1 : g ≠ a) (h2 : g ≠ b) : Vl w' g cs :=
  ⟨Nat.lt_of_lt_of_le h.lt hb.size, fun j v hj => (hb.cell (p := ⟨g, j, none⟩) h.lt h1 h2).trans (h.c j v hj), fun j hj => (hb.frozen (p := ⟨g, j, none⟩) h.lt h1 h2).trans (h.z j hj)⟩
theorem Vl.range0 {w : World} {g : Nat} {cs : List Value} (h : Vl w g cs) : w.rangeAt g 0 cs := fun j v hj => by rw [Nat.zero_add]; exact h.c j v hj
theorem Vl.there0 {w : World} {g : Nat} {cs : List Value} (h : Vl w g cs) (n : Nat) (hn : n = cs.length) : w.there g 0 n := fun j hj => by
  rw [Nat.zero_add]
  refine ⟨?_, h.z j (by omega)⟩
  have hj' : j < cs.length := by omega
  rw [h.c j _ (List.getElem?_eq_getElem hj')]
  rfl
theorem Vl.new (w : World) (cs : List Value) (t : TypeId) : Vl (w.alloc (.cells cs.toArray t)) w.heap.size cs := by
  refine ⟨by simp, fun j v hj => ?_, fun j _ => by simp⟩
  rw [World.cell?_alloc_at _ _ _ _ rfl]
  simpa using hj
theorem Vl.set {w : World} {g : Nat} {cs : List Value} (h : Vl w g cs) (i : Nat) (hi : i < cs.length) (x : Value) : Vl (w.setCell ⟨g, i, none⟩ x) g (cs.set i x) := by
  refine ⟨by simpa [World.setCell] using h.lt, fun j v hj => ?_, fun j hj => by simpa using h.z j (by simpa using hj)⟩
  by_cases e : j = i
  · subst e
    rw [List.getElem?_set_self hi] at hj
    obtain rfl := Option.some.inj hj
    obtain ⟨u, hu⟩ : ∃ u, cs[j]? = some u := ⟨_, List.getElem?_eq_getElem hi⟩
    exact World.cell?_setCell_same _ _ _ (h.c j u hu)
  · rw [List.getElem?_set_ne (by omega)] at hj
    rw [World.cell?_setCell_other _ _ _ _ (by simp [Ne.symm e])]
    exact h.c j v hj
theorem Vl.stored {w : World} {g : Nat} {cs : List Value} (h : Vl w g cs) (ds : List Value) (hl : ds.length = cs.length) : Vl (w.setCells g 0 ds) g ds := by
  refine ⟨by rw [size_setCells]; exact h.lt, fun j v hj => ?_, fun j hj => by rw [World.frozen?_setCells]; exact h.z j (by omega)⟩
  have := World.rangeAt_setCells_same w g 0 ds (h.there0 ds.length hl) j v hj
  rwa [Nat.zero_add] at this

theorem wpList_box_list {P : Program} {ops : Array Oper} {rest : List Oper} {op : Oper} {a : Act} {w : World} {Q : Exit → Act → World → Prop} (hgd : op.guard = none) (ty : TypeId) (x : Operand) (ho : op.op = .box ty x) (cs : List Value) (hx : a.eval x = .agg cs.toArray)
    (h : ∀ w', Hid (Vl w' w.heap.size cs) → Below w.heap.size w w' → w'.heap.size = w.heap.size + 1 → wpList P ops Q rest (a.put op.dst (.pointer (some ⟨w.heap.size, 0, none⟩))) w') : wpList P ops Q (op :: rest) a w := by
  refine wpList_plain hgd fun K hK => ?_
  have hr : (Instr.box ty (.agg cs.toArray)).run P w = .ok (.pointer (some ⟨w.heap.size, 0, none⟩)) (w.alloc (.cells cs.toArray ty)) := by
    simp [Instr.box, newVar, newRow, Value.cells]
  unfold Oper.wp
  simp [execOp, ho, hx, hr, Result.andThen]
  exact hK _ _ (h _ (Vl.new w cs ty) ((Below.refl _ _).alloc (Nat.le_refl _) _) (by simp))
theorem wpList_alloc_list {P : Program} {ops : Array Oper} {rest : List Oper} {op : Oper} {a : Act} {w : World} {Q : Exit → Act → World → Prop} (hgd : op.guard = none) (ty : TypeId) (ho : op.op = .alloc ty) (cs : List Value)
    (hz : (P.info? ty).map (fun i => i.zero) = some (some (.agg cs.toArray)))
    (h : ∀ w', Hid (Vl w' w.heap.size cs) → Below w.heap.size w w' → w'.heap.size = w.heap.size + 1 → wpList P ops Q rest (a.put op.dst (.pointer (some ⟨w.heap.size, 0, none⟩))) w') : wpList P ops Q (op :: rest) a w := by
  refine wpList_plain hgd fun K hK => ?_
  have hr : (Instr.alloc ty true (.tuple #[])).run P w = .ok (.pointer (some ⟨w.heap.size, 0, none⟩)) (w.alloc (.cells cs.toArray ty)) := by
    cases hq : P.info? ty with
    | none => simp [hq] at hz
    | some i =>
      simp [hq] at hz
      simp [Instr.alloc, zeroValue, typeInfo, hq, hz, newVar, newRow, Value.cells]
  unfold Oper.wp
  simp [execOp, ho, hr, Result.andThen]
  exact hK _ _ (h _ (Vl.new w cs ty) ((Below.refl _ _).alloc (Nat.le_refl _) _) (by simp))

/-! ### a node as twelve numbers -/
def ndc (f : Nat → Int) : List Value := [.int .u8 (f 0), .int .u8 (f 1), .int .u16 (f 2), .int .u32 (f 3), .int .u16 (f 4), .int .u16 (f 5), .int .u16 (f 6), .int .u16 (f 7), .int .u16 (f 8), .int .u16 (f 9), .int .u16 (f 10), .int .u16 (f 11)]
/-- eight pointers -/
def ptc (f : Nat → Int) : List Value := [.int .u16 (f 0), .int .u16 (f 1), .int .u16 (f 2), .int .u16 (f 3), .int .u16 (f 4), .int .u16 (f 5), .int .u16 (f 6), .int .u16 (f 7)]
theorem ndc_len (f : Nat → Int) : (ndc f).length = 12 := rfl
theorem ptc_len (f : Nat → Int) : (ptc f).length = 8 := rfl
structure NdOk (f : Nat → Int) : Prop where
  k : 0 ≤ f 0 ∧ f 0 < 256
  l : 0 ≤ f 1 ∧ f 1 < 256
  g : 0 ≤ f 2 ∧ f 2 < 65536
  s : 0 ≤ f 3 ∧ f 3 < 4294967296
  p : ∀ i, 4 ≤ i → i < 12 → 0 ≤ f i ∧ f i < 65536
theorem ndc_one (f : Nat → Int) : ∀ v ∈ ndc f, v.oneCell' = true := by
  intro v hv
  simp only [ndc, List.mem_cons, List.not_mem_nil, or_false] at hv
  rcases hv with rfl | rfl | rfl | rfl | rfl | rfl | rfl | rfl | rfl | rfl | rfl | rfl <;> rfl
theorem ptc_one (f : Nat → Int) : ∀ v ∈ ptc f, v.oneCell' = true := by
  intro v hv
  simp only [ptc, List.mem_cons, List.not_mem_nil, or_false] at hv
  rcases hv with rfl | rfl | rfl | rfl | rfl | rfl | rfl | rfl <;> rfl
theorem Try.row27 : (Try.prog.underlying 27).map (·.isRow) = some true := by kernel_rfl
theorem Try.isize27 : (Try.prog.info? 27).map (·.size) = some 12 := by kernel_rfl
theorem Try.izero27 : (Try.prog.info? 27).map (fun i => i.zero) = some (some (.agg (ndc fun _ => 0).toArray)) := by kernel_rfl
theorem size27 (f : Nat → Int) : (Try.prog.info? 27).map (·.size) = some (ndc f).length := Try.isize27
theorem size27' (f : Nat → Int) : (Try.prog.info? 27).map (·.size) = some (ndc f).toArray.size := Try.isize27
theorem wf8 (x : Int) (h : 0 ≤ x ∧ x < 256) : (Lit.int .u8 x).wf = true := by simp [Lit.wf, IntKind.min, IntKind.max, IntKind.bits, IntKind.signed]; omega
theorem wf16 (x : Int) (h : 0 ≤ x ∧ x < 65536) : (Lit.int .u16 x).wf = true := by simp [Lit.wf, IntKind.min, IntKind.max, IntKind.bits, IntKind.signed]; omega
theorem wf32 (x : Int) (h : 0 ≤ x ∧ x < 4294967296) : (Lit.int .u32 x).wf = true := by simp [Lit.wf, IntKind.min, IntKind.max, IntKind.bits, IntKind.signed]; omega
def ndl (f : Nat → Int) : List Lit := [.int .u8 (f 0), .int .u8 (f 1), .int .u16 (f 2), .int .u32 (f 3), .int .u16 (f 4), .int .u16 (f 5), .int .u16 (f 6), .int .u16 (f 7), .int .u16 (f 8), .int .u16 (f 9), .int .u16 (f 10), .int .u16 (f 11)]
theorem eqb_ndl (f g : Nat → Int) : eqb 12 f g = true ↔ ndl f = ndl g := by
  rw [eqb_iff]
  unfold ndl
  simp only [List.cons.injEq, Lit.int.injEq, true_and, and_true]
  constructor
  · intro h
    exact ⟨h 0 (by decide), h 1 (by decide), h 2 (by decide), h 3 (by decide), h 4 (by decide), h 5 (by decide), h 6 (by decide), h 7 (by decide), h 8 (by decide), h 9 (by decide), h 10 (by decide), h 11 (by decide)⟩
  · rintro ⟨h0, h1, h2, h3, h4, h5, h6, h7, h8, h9, h10, h11⟩ i hi
    match i, hi with
    | 0, _ => exact h0
    | 1, _ => exact h1
    | 2, _ => exact h2
    | 3, _ => exact h3
    | 4, _ => exact h4
    | 5, _ => exact h5
    | 6, _ => exact h6
    | 7, _ => exact h7
    | 8, _ => exact h8
    | 9, _ => exact h9
    | 10, _ => exact h10
    | 11, _ => exact h11
theorem Try.cl27 : Try.prog.cellsOf 27 = 12 := by kernel_rfl
theorem Try.cl25 : Try.prog.cellsOf 25 = 6 := by kernel_rfl
theorem Try.cl22 : Try.prog.cellsOf 22 = 1 := by kernel_rfl
theorem Try.cl5 : Try.prog.cellsOf 5 = 1 := by kernel_rfl
theorem Try.cl23 : Try.prog.cellsOf 23 = 1 := by kernel_rfl
theorem Try.cl24 : Try.prog.cellsOf 24 = 1 := by kernel_rfl
theorem Try.key27 : Try.prog.keyTypeAt 3 27 = true := by kernel_rfl
theorem ndl_is (f : Nat → Int) (h : NdOk f) : Try.prog.keyLits 4 27 (ndc f) = some (ndl f) := by
  have w0 := wf8 _ h.k
  have w1 := wf8 _ h.l
  have w2 := wf16 _ h.g
  have w3 := wf32 _ h.s
  have w4 := wf16 _ (h.p 4 (by decide) (by decide))
  have w5 := wf16 _ (h.p 5 (by decide) (by decide))
  have w6 := wf16 _ (h.p 6 (by decide) (by decide))
  have w7 := wf16 _ (h.p 7 (by decide) (by decide))
  have w8 := wf16 _ (h.p 8 (by decide) (by decide))
  have w9 := wf16 _ (h.p 9 (by decide) (by decide))
  have w10 := wf16 _ (h.p 10 (by decide) (by decide))
  have w11 := wf16 _ (h.p 11 (by decide) (by decide))
  simp [ndc, ndl, Program.keyLits, Try.underlying27, Try.underlying25, Try.underlying22, Try.underlying5, Try.underlying23, Try.underlying24, Try.cl27, Try.cl25, Try.cl22, Try.cl5, Try.cl23, Try.cl24, w0, w1, w2, w3, w4, w5, w6, w7, w8, w9, w10, w11, List.range, List.range.loop]
theorem ndc_formed (f : Nat → Int) : (Value.agg (ndc f).toArray).formed Try.prog 27 = true := by simp [Value.formed, Try.underlying27, Try.cl27, ndc]
theorem eq27 (f g : Nat → Int) (hf : NdOk f) (hg : NdOk g) (w : World) : (Op.equalIn 10000 27 (.agg (ndc f).toArray) (.agg (ndc g).toArray)).run Try.prog w = .ok (eqb 12 f g) w := by
  obtain ⟨r, hr, hiff⟩ := run_equalIn_deep (P := Try.prog) 9997 3 27 Try.key27 w 4 4 _ _ _ _ (ndc_formed f) (ndc_formed g) (ndl_is f hf) (ndl_is g hg)
  rw [show 9997 + 3 = 10000 from rfl] at hr
  rw [hr, ← eqb_ndl] at *
  rw [show r = eqb 12 f g from Bool.eq_iff_iff.2 hiff]
end Go.Proofs.Ytdebkifnaiohcaa
