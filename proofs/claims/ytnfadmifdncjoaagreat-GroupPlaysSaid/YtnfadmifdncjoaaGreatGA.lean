import Derived.Test.YtnfadmifdncjoaaGreatEA
import Derived.LoopTactic
import Derived.Deep.QuietTactic
import Derived.BigQuiet
import Derived.DeepKeys
import Derived.IntWalk
import Derived.Lib.EndianBits
import Derived.Laws.ShiftsVarLaws
import Derived.StillTailTactics
import Derived.Deep.CutBlock
import Derived.Deep.DeepCutAuto
/- Nodes: blocks of cells, a node as twelve numbers, Blank, Check; Encode. -/
namespace Go.Proofs.YtnfadmifdncjoaaGreat
set_option linter.unusedSimpArgs false
set_option linter.unusedVariables false
open Go.RowKit Go.Maps
/-- block g holds these cells, which may be written -/
structure Vl (w : World) (g : Nat) (cs : List Value) : Prop where
  lt : g < w.heap.size
  c : ∀ j v, cs[j]? = some v → w.cell? ⟨g, j, none⟩ = some v
  z : ∀ j, j < cs.length → w.frozen? ⟨g, j, none⟩ = false
theorem Vl.below {w w' : World} {B g : Nat} {cs : List Value} (h : Vl w g cs) (hb : Below B w w') (hg : g < B) : Vl w' g cs :=
  ⟨Nat.lt_of_lt_of_le h.lt hb.size, fun j v hj => (hb.cell (p := ⟨g, j, none⟩) hg).trans (h.c j v hj), fun j hj => (hb.frozen (p := ⟨g, j, none⟩) hg).trans (h.z j hj)⟩
theorem Vl.keep {w w' : World} {g : Nat} {cs : List Value} (h : Vl w g cs) (hb : Below w.heap.size w w') : Vl w' g cs := h.below hb h.lt
theorem Vl.kp {w w' : World} {a b g : Nat} {cs : List Value} (h : Vl w g cs) (hb : Kp w w' a b) (h1 : g ≠ a) (h2 : g ≠ b) : Vl w' g cs :=
  ⟨Nat.lt_of_lt_of_le h.lt hb.size, fun j v hj => (hb.cell (p := ⟨g, j, none⟩) h.lt h1 h2).trans (h.c j v hj), fun j hj => (hb.frozen (p := ⟨g, j, none⟩) h.lt h1 h2).trans (h.z j hj)⟩
theorem Vl.range0 {w : World} {g : Nat} {cs : List Value} (h : Vl w g cs) : w.rangeAt g 0 cs := fun j v hj => by rw [Nat.zero_add]; exact h.c j v hj
theorem Vl.there0 {w : World} {g : Nat} {cs : List Value} (h : Vl w g cs) (n : Nat) (hn : n = cs.length) : w.there g 0 n := fun j hj => by
  rw [Nat.zero_add]
  refine ⟨?_, h.z j (by omega)⟩
  have hj' : j < cs.length := by omega
  rw [h.c j _ (List.getElem?_eq_getElem hj')]
  rfl
theorem Vl.new (w : World) (cs : List Value) (t : TypeId) : Vl (w.alloc (.cells cs.toArray t)) w.heap.size cs := by
  refine ⟨by simp, fun j v hj => ?_, fun j _ => by simp⟩
  rw [World.cell?_alloc_at _ _ _ _ rfl]
  simpa using hj
theorem Vl.set {w : World} {g : Nat} {cs : List Value} (h : Vl w g cs) (i : Nat) (hi : i < cs.length) (x : Value) : Vl (w.setCell ⟨g, i, none⟩ x) g (cs.set i x) := by
  refine ⟨by simpa [World.setCell] using h.lt, fun j v hj => ?_, fun j hj => by simpa using h.z j (by simpa using hj)⟩
  by_cases e : j = i
  · subst e
    rw [List.getElem?_set_self hi] at hj
    obtain rfl := Option.some.inj hj
    obtain ⟨u, hu⟩ : ∃ u, cs[j]? = some u := ⟨_, List.getElem?_eq_getElem hi⟩
    exact World.cell?_setCell_same _ _ _ (h.c j u hu)
  · rw [List.getElem?_set_ne (by omega)] at hj
    rw [World.cell?_setCell_other _ _ _ _ (by simp [Ne.symm e])]
    exact h.c j v hj
theorem Vl.stored {w : World} {g : Nat} {cs : List Value} (h : Vl w g cs) (ds : List Value) (hl : ds.length = cs.length) : Vl (w.setCells g 0 ds) g ds := by
  refine ⟨by rw [size_setCells]; exact h.lt, fun j v hj => ?_, fun j hj => by rw [World.frozen?_setCells]; exact h.z j (by omega)⟩
  have := World.rangeAt_setCells_same w g 0 ds (h.there0 ds.length hl) j v hj
  rwa [Nat.zero_add] at this

theorem wpList_box_list {P : Program} {ops : Array Oper} {rest : List Oper} {op : Oper} {a : Act} {w : World} {Q : Exit → Act → World → Prop} (hgd : op.guard = none) (ty : TypeId) (x : Operand) (ho : op.op = .box ty x) (cs : List Value) (hx : a.eval x = .agg cs.toArray)
    (h : ∀ w', Hid (Vl w' w.heap.size cs) → Below w.heap.size w w' → w'.heap.size = w.heap.size + 1 → wpList P ops Q rest (a.put op.dst (.pointer (some ⟨w.heap.size, 0, none⟩))) w') : wpList P ops Q (op :: rest) a w := by
  refine wpList_plain hgd fun K hK => ?_
  have hr : (Instr.box ty (.agg cs.toArray)).run P w = .ok (.pointer (some ⟨w.heap.size, 0, none⟩)) (w.alloc (.cells cs.toArray ty)) := by
    simp [Instr.box, newVar, newRow, Value.cells]
  unfold Oper.wp
  simp [execOp, ho, hx, hr, Result.andThen]
  exact hK _ _ (h _ (Vl.new w cs ty) ((Below.refl _ _).alloc (Nat.le_refl _) _) (by simp))
theorem wpList_alloc_list {P : Program} {ops : Array Oper} {rest : List Oper} {op : Oper} {a : Act} {w : World} {Q : Exit → Act → World → Prop} (hgd : op.guard = none) (ty : TypeId) (ho : op.op = .alloc ty) (cs : List Value)
    (hz : (P.info? ty).map (fun i => i.zero) = some (some (.agg cs.toArray)))
    (h : ∀ w', Hid (Vl w' w.heap.size cs) → Below w.heap.size w w' → w'.heap.size = w.heap.size + 1 → wpList P ops Q rest (a.put op.dst (.pointer (some ⟨w.heap.size, 0, none⟩))) w') : wpList P ops Q (op :: rest) a w := by
  refine wpList_plain hgd fun K hK => ?_
  have hr : (Instr.alloc ty true (.tuple #[])).run P w = .ok (.pointer (some ⟨w.heap.size, 0, none⟩)) (w.alloc (.cells cs.toArray ty)) := by
    cases hq : P.info? ty with
    | none => simp [hq] at hz
    | some i =>
      simp [hq] at hz
      simp [Instr.alloc, zeroValue, typeInfo, hq, hz, newVar, newRow, Value.cells]
  unfold Oper.wp
  simp [execOp, ho, hr, Result.andThen]
  exact hK _ _ (h _ (Vl.new w cs ty) ((Below.refl _ _).alloc (Nat.le_refl _) _) (by simp))

/-! ### a node as twelve numbers -/
def ndc (f : Nat → Int) : List Value := [.int .u8 (f 0), .int .u8 (f 1), .int .u16 (f 2), .int .u32 (f 3), .int .u16 (f 4), .int .u16 (f 5), .int .u16 (f 6), .int .u16 (f 7), .int .u16 (f 8), .int .u16 (f 9), .int .u16 (f 10), .int .u16 (f 11)]
/-- eight pointers -/
def ptc (f : Nat → Int) : List Value := [.int .u16 (f 0), .int .u16 (f 1), .int .u16 (f 2), .int .u16 (f 3), .int .u16 (f 4), .int .u16 (f 5), .int .u16 (f 6), .int .u16 (f 7)]
theorem ndc_len (f : Nat → Int) : (ndc f).length = 12 := rfl
theorem ptc_len (f : Nat → Int) : (ptc f).length = 8 := rfl
structure NdOk (f : Nat → Int) : Prop where
  k : 0 ≤ f 0 ∧ f 0 < 256
  l : 0 ≤ f 1 ∧ f 1 < 256
  g : 0 ≤ f 2 ∧ f 2 < 65536
  s : 0 ≤ f 3 ∧ f 3 < 4294967296
  p : ∀ i, 4 ≤ i → i < 12 → 0 ≤ f i ∧ f i < 65536
theorem ndc_one (f : Nat → Int) : ∀ v ∈ ndc f, v.oneCell' = true := by
  intro v hv
  simp only [ndc, List.mem_cons, List.not_mem_nil, or_false] at hv
  rcases hv with rfl | rfl | rfl | rfl | rfl | rfl | rfl | rfl | rfl | rfl | rfl | rfl <;> rfl
theorem ptc_one (f : Nat → Int) : ∀ v ∈ ptc f, v.oneCell' = true := by
  intro v hv
  simp only [ptc, List.mem_cons, List.not_mem_nil, or_false] at hv
  rcases hv with rfl | rfl | rfl | rfl | rfl | rfl | rfl | rfl <;> rfl
theorem Tryz.row27 : (Tryz.prog.underlying 68).map (·.isRow) = some true := by kernel_rfl
theorem Tryz.isize27 : (Tryz.prog.info? 68).map (·.size) = some 12 := by kernel_rfl
theorem Tryz.izero27 : (Tryz.prog.info? 68).map (fun i => i.zero) = some (some (.agg (ndc fun _ => 0).toArray)) := by kernel_rfl
theorem size27 (f : Nat → Int) : (Tryz.prog.info? 68).map (·.size) = some (ndc f).length := Tryz.isize27
theorem size27' (f : Nat → Int) : (Tryz.prog.info? 68).map (·.size) = some (ndc f).toArray.size := Tryz.isize27
theorem wf8 (x : Int) (h : 0 ≤ x ∧ x < 256) : (Lit.int .u8 x).wf = true := by simp [Lit.wf, IntKind.min, IntKind.max, IntKind.bits, IntKind.signed]; omega
theorem wf16 (x : Int) (h : 0 ≤ x ∧ x < 65536) : (Lit.int .u16 x).wf = true := by simp [Lit.wf, IntKind.min, IntKind.max, IntKind.bits, IntKind.signed]; omega
theorem wf32 (x : Int) (h : 0 ≤ x ∧ x < 4294967296) : (Lit.int .u32 x).wf = true := by simp [Lit.wf, IntKind.min, IntKind.max, IntKind.bits, IntKind.signed]; omega
def ndl (f : Nat → Int) : List Lit := [.int .u8 (f 0), .int .u8 (f 1), .int .u16 (f 2), .int .u32 (f 3), .int .u16 (f 4), .int .u16 (f 5), .int .u16 (f 6), .int .u16 (f 7), .int .u16 (f 8), .int .u16 (f 9), .int .u16 (f 10), .int .u16 (f 11)]
theorem eqb_ndl (f g : Nat → Int) : eqb 12 f g = true ↔ ndl f = ndl g := by
  rw [eqb_iff]
  unfold ndl
  simp only [List.cons.injEq, Lit.int.injEq, true_and, and_true]
  constructor
  · intro h
    exact ⟨h 0 (by decide), h 1 (by decide), h 2 (by decide), h 3 (by decide), h 4 (by decide), h 5 (by decide), h 6 (by decide), h 7 (by decide), h 8 (by decide), h 9 (by decide), h 10 (by decide), h 11 (by decide)⟩
  · rintro ⟨h0, h1, h2, h3, h4, h5, h6, h7, h8, h9, h10, h11⟩ i hi
    match i, hi with
    | 0, _ => exact h0
    | 1, _ => exact h1
    | 2, _ => exact h2
    | 3, _ => exact h3
    | 4, _ => exact h4
    | 5, _ => exact h5
    | 6, _ => exact h6
    | 7, _ => exact h7
    | 8, _ => exact h8
    | 9, _ => exact h9
    | 10, _ => exact h10
    | 11, _ => exact h11
theorem Tryz.cl27 : Tryz.prog.cellsOf 68 = 12 := by kernel_rfl
theorem Tryz.cl25 : Tryz.prog.cellsOf 66 = 6 := by kernel_rfl
theorem Tryz.cl22 : Tryz.prog.cellsOf 62 = 1 := by kernel_rfl
theorem Tryz.cl5 : Tryz.prog.cellsOf 5 = 1 := by kernel_rfl
theorem Tryz.cl23 : Tryz.prog.cellsOf 37 = 1 := by kernel_rfl
theorem Tryz.cl24 : Tryz.prog.cellsOf 65 = 1 := by kernel_rfl
theorem Tryz.key27 : Tryz.prog.keyTypeAt 3 68 = true := by kernel_rfl
theorem ndl_is (f : Nat → Int) (h : NdOk f) : Tryz.prog.keyLits 4 68 (ndc f) = some (ndl f) := by
  have w0 := wf8 _ h.k
  have w1 := wf8 _ h.l
  have w2 := wf16 _ h.g
  have w3 := wf32 _ h.s
  have w4 := wf16 _ (h.p 4 (by decide) (by decide))
  have w5 := wf16 _ (h.p 5 (by decide) (by decide))
  have w6 := wf16 _ (h.p 6 (by decide) (by decide))
  have w7 := wf16 _ (h.p 7 (by decide) (by decide))
  have w8 := wf16 _ (h.p 8 (by decide) (by decide))
  have w9 := wf16 _ (h.p 9 (by decide) (by decide))
  have w10 := wf16 _ (h.p 10 (by decide) (by decide))
  have w11 := wf16 _ (h.p 11 (by decide) (by decide))
  simp [ndc, ndl, Program.keyLits, Tryz.underlying68, Tryz.underlying66, Tryz.underlying62, Tryz.underlying5, Tryz.underlying37, Tryz.underlying65, Tryz.cl27, Tryz.cl25, Tryz.cl22, Tryz.cl5, Tryz.cl23, Tryz.cl24, w0, w1, w2, w3, w4, w5, w6, w7, w8, w9, w10, w11, List.range, List.range.loop]
theorem ndc_formed (f : Nat → Int) : (Value.agg (ndc f).toArray).formed Tryz.prog 68 = true := by simp [Value.formed, Tryz.underlying68, Tryz.cl27, ndc]
theorem eq27 (f g : Nat → Int) (hf : NdOk f) (hg : NdOk g) (w : World) : (Op.equalIn 10000 68 (.agg (ndc f).toArray) (.agg (ndc g).toArray)).run Tryz.prog w = .ok (eqb 12 f g) w := by
  obtain ⟨r, hr, hiff⟩ := run_equalIn_deep (P := Tryz.prog) 9997 3 68 Tryz.key27 w 4 4 _ _ _ _ (ndc_formed f) (ndc_formed g) (ndl_is f hf) (ndl_is g hg)
  rw [show 9997 + 3 = 10000 from rfl] at hr
  rw [hr, ← eqb_ndl] at *
  rw [show r = eqb 12 f g from Bool.eq_iff_iff.2 hiff]
theorem yields_bld {P : Program} {ops : Array Oper} {S : World → Prop} {op : Oper} {a : Act} (hw : Region.wanted op (yielded ops a.tmps) = true) (ty : TypeId) (ps : Array (Nat × Operand)) (ho : op.op = .build ty ps) (v : Value)
    (hr : ∀ w, (Instr.build ty (ps.map fun p => (p.1, a.eval p.2))).run P w = .ok v w) : YieldsIf P ops S op v a :=
  .inl ⟨hw, fun w _ => by
    have hr := hr w
    unfold execOp
    simp [ho, hr, Result.andThen]⟩
theorem yields_bld0 {P : Program} {ops : Array Oper} {S : World → Prop} {op : Oper} {a : Act} (hw : Region.wanted op (yielded ops a.tmps) = true) (ty : TypeId) (ho : op.op = .build ty #[]) (v : Value)
    (hr : ∀ w, (Instr.build ty #[]).run P w = .ok v w) : YieldsIf P ops S op v a :=
  .inl ⟨hw, fun w _ => by
    have hr := hr w
    unfold execOp
    simp [ho, hr, Result.andThen]⟩
theorem yields_eql {P : Program} {ops : Array Oper} {S : World → Prop} {op : Oper} {a : Act} (hw : Region.wanted op (yielded ops a.tmps) = true) (ty ty' : TypeId) (x y : Operand) (ho : op.op = .binOp .eql ty x y ty') (xs ys : Array Value) (hx : a.eval x = .agg xs) (hy : a.eval y = .agg ys) (b : Bool)
    (hg : P.eqGuardType P.depth ty = false) (hr : ∀ w, S w → (Op.equalIn 10000 ty (.agg xs) (.agg ys)).run P w = .ok b w) : YieldsIf P ops S op (.bool b) a :=
  .inl ⟨hw, fun w hS => by
    have hr := hr w hS
    have hgd := run_eqGuard_agg (P := P) w .eql ty x y xs ys hg
    unfold execOp
    simp [ho, hx, hy, hgd, run_eql_struct, hr, Result.andThen]⟩
theorem yields_neq {P : Program} {ops : Array Oper} {S : World → Prop} {op : Oper} {a : Act} (hw : Region.wanted op (yielded ops a.tmps) = true) (ty ty' : TypeId) (x y : Operand) (ho : op.op = .binOp .neq ty x y ty') (xs ys : Array Value) (hx : a.eval x = .agg xs) (hy : a.eval y = .agg ys) (b : Bool)
    (hg : P.eqGuardType P.depth ty = false) (hr : ∀ w, S w → (Op.equalIn 10000 ty (.agg xs) (.agg ys)).run P w = .ok b w) : YieldsIf P ops S op (.bool (!b)) a :=
  .inl ⟨hw, fun w hS => by
    have hr := hr w hS
    have hgd := run_eqGuard_agg (P := P) w .neq ty x y xs ys hg
    unfold execOp
    simp [ho, hx, hy, hgd, run_neq_struct, hr, Result.andThen]⟩
theorem Tryz.guard27 : Tryz.prog.eqGuardType Tryz.prog.depth 68 = false := by kernel_rfl
theorem Tryz.desc27 : ∃ d, Tryz.prog.underlying 68 = some d ∧ d.isRow = true := ⟨_, Tryz.underlying68, rfl⟩
def genN (x : Int) : Nat → Int := fun i => if i = 2 then x else 0
def blankB (f : Nat → Int) : Bool := eqb 12 f (genN (f 2))
theorem genN_ok {x : Int} (h : 0 ≤ x ∧ x < 65536) : NdOk (genN x) := ⟨⟨Int.le_refl _, by show (0 : Int) < 256; decide⟩, ⟨Int.le_refl _, by show (0 : Int) < 256; decide⟩, h, ⟨Int.le_refl _, by show (0 : Int) < 4294967296; decide⟩, fun i h1 h2 => by
  unfold genN
  rw [if_neg (by omega)]; decide⟩
theorem build27_gen (x : Int) (w : World) : (Instr.build 68 #[(2, .int .u16 x)]).run Tryz.prog w = .ok (.agg (ndc (genN x)).toArray) w := by kernel_rfl
set_option maxHeartbeats 2000000 in
set_option maxRecDepth 100000 in
theorem blank_any (f : Nat → Int) (hf : NdOk f) (w : World) : Calls Tryz.prog 123 #[.agg (ndc f).toArray] w fun e w' => e = .returned (.bool (blankB f)) ∧ Below w.heap.size w w' := by
  obtain ⟨d, hu, hd⟩ := Tryz.desc27
  have HE := Lib.hid (fun W => eq27 f _ hf (genN_ok hf.g) W)
  have HU := Lib.hid hu
  have HD := Lib.hid hd
  have HBl : Hid (eqb 12 f (genN (f 2)) = blankB f) := rfl
  obtain ⟨C, hC⟩ : ∃ C, blankB f = C := ⟨_, rfl⟩
  rw [hC] at HBl ⊢
  rw [HBl.out] at HE
  obtain ⟨g2, hg2⟩ : ∃ x, f 2 = x := ⟨_, rfl⟩
  rw [hg2] at HE
  clear hC hu hd HBl
  go_enter Tryz.func123, Tryz.ntmps123
  go_wp2_with (first | (refine wpList_box_list rfl 68 _ rfl (ndc f) rfl ?_; intro w1 F1 hb1 hz1; have HB1 := Lib.hid hb1; have c2 := F1.out.c 2 _ rfl; rw [hg2] at c2; clear hb1 hz1 hg2) | (refine wpList_load_mid rfl 68 _ rfl w.heap.size 0 rfl (ndc f) d F1.out.range0 HU.out HD.out (size27 f) ?_) | (refine wpList_yields (.agg (ndc (genN g2)).toArray) (yields_bld (by rfl) 68 _ rfl _ (build27_gen g2)) ?_) | (refine wpList_yields (.bool C) (yields_eql (by rfl) 68 68 _ _ rfl (ndc f).toArray (ndc (genN g2)).toArray rfl rfl C Tryz.guard27 (fun W _ => HE.out W)) ?_))
  go_ret
  exact ⟨rfl, HB1.out⟩
def mbl (k s : Int) : Bool := if k = 1 then decide (s ≤ 16384) else if k = 2 then decide (s ≤ 16384) && decide (s % 16 = 0) else if k = 3 ∨ k = 5 then decide (s = 0) else if k = 4 then decide (1 ≤ s) && decide (s ≤ 60) else false
theorem maybe_any (k s : Int) (hk : 0 ≤ k ∧ k < 256) (hs : 0 ≤ s ∧ s < 4294967296) (w : World) : Calls Tryz.prog 124 #[.int .u8 k, .int .u32 s] w fun e w' => e = .returned (.bool (mbl k s)) ∧ w' = w := by
  obtain ⟨hs0, hs1⟩ := hs
  by_cases k1 : k = 1
  · subst k1
    by_cases c : s ≤ 16384
    · have hm : mbl 1 s = true := by simp [mbl, c]
      rw [hm]
      clear hm
      go_enter Tryz.func124, Tryz.ntmps124
      go_wp2
      go_ret
      exact ⟨rfl, rfl⟩
    · have hm : mbl 1 s = false := by simp [mbl]; omega
      rw [hm]
      clear hm
      go_enter Tryz.func124, Tryz.ntmps124
      go_wp2
      go_ret
      exact ⟨rfl, rfl⟩
  by_cases k2 : k = 2
  · subst k2
    by_cases c : s ≤ 16384
    · by_cases c2 : s % 16 = 0
      · have hm : mbl 2 s = true := by simp [mbl, c, c2]
        have c3 : s.tmod 16 = 0 := by rw [Int.tmod_eq_emod_of_nonneg hs0]; exact c2
        rw [hm]
        clear hm
        go_enter Tryz.func124, Tryz.ntmps124
        go_wp2
        go_ret
        exact ⟨rfl, rfl⟩
      · have hm : mbl 2 s = false := by simp [mbl]; omega
        have c3 : (s % 16 == 0) = false := by simpa using c2
        have c4 : (s.tmod 16 == 0) = false := by rw [Int.tmod_eq_emod_of_nonneg hs0]; exact c3
        rw [hm]
        clear hm
        go_enter Tryz.func124, Tryz.ntmps124
        go_wp2
        go_ret
        exact ⟨rfl, rfl⟩
    · have hm : mbl 2 s = false := by simp [mbl]; omega
      have c' : decide (s ≤ 16384) = false := decide_eq_false c
      rw [hm]
      clear hm
      go_enter Tryz.func124, Tryz.ntmps124
      go_wp2
      go_ret
      exact ⟨rfl, rfl⟩
  by_cases k3 : k = 3
  · subst k3
    by_cases c : s = 0
    · have hm : mbl 3 s = true := by simp [mbl, c]
      rw [hm]
      subst c
      clear hm
      go_enter Tryz.func124, Tryz.ntmps124
      go_wp2
      go_ret
      exact ⟨rfl, rfl⟩
    · have hm : mbl 3 s = false := by simp [mbl]; omega
      have c' : (s == 0) = false := by simpa using c
      rw [hm]
      clear hm
      go_enter Tryz.func124, Tryz.ntmps124
      go_wp2
      go_ret
      exact ⟨rfl, rfl⟩
  by_cases k5 : k = 5
  · subst k5
    by_cases c : s = 0
    · have hm : mbl 5 s = true := by simp [mbl, c]
      rw [hm]
      subst c
      clear hm
      go_enter Tryz.func124, Tryz.ntmps124
      go_wp2
      go_ret
      exact ⟨rfl, rfl⟩
    · have hm : mbl 5 s = false := by simp [mbl]; omega
      have c' : (s == 0) = false := by simpa using c
      rw [hm]
      clear hm
      go_enter Tryz.func124, Tryz.ntmps124
      go_wp2
      go_ret
      exact ⟨rfl, rfl⟩
  by_cases k4 : k = 4
  · subst k4
    by_cases c : 1 ≤ s
    · by_cases c2 : s ≤ 60
      · have hm : mbl 4 s = true := by simp [mbl, c, c2]
        rw [hm]
        clear hm
        go_enter Tryz.func124, Tryz.ntmps124
        go_wp2
        go_ret
        exact ⟨rfl, rfl⟩
      · have hm : mbl 4 s = false := by simp [mbl]; omega
        rw [hm]
        clear hm
        go_enter Tryz.func124, Tryz.ntmps124
        go_wp2
        go_ret
        exact ⟨rfl, rfl⟩
    · have hm : mbl 4 s = false := by simp [mbl]; omega
      have c' : decide (1 ≤ s) = false := decide_eq_false c
      have c'' : s = 0 := by omega
      rw [hm]
      subst c''
      clear hm
      go_enter Tryz.func124, Tryz.ntmps124
      go_wp2
      go_ret
      exact ⟨rfl, rfl⟩
  · have hm : mbl k s = false := by simp [mbl, k1, k2, k3, k4, k5]
    have e1 : (k == 1) = false := by simpa using k1
    have e2 : (k == 2) = false := by simpa using k2
    have e3 : (k == 3) = false := by simpa using k3
    have e4 : (k == 4) = false := by simpa using k4
    have e5 : (k == 5) = false := by simpa using k5
    rw [hm]
    clear hm
    go_enter Tryz.func124, Tryz.ntmps124
    go_wp2
    go_ret
    exact ⟨rfl, rfl⟩

/-- may it be a node? -/
def okN (f : Nat → Int) : Bool := blankB f || (decide (0 < f 1) && mbl (f 0) (f 3))
def codeN (f : Nat → Int) : Int := if okN f = true then 0 else 28
set_option maxHeartbeats 4000000 in
set_option maxRecDepth 100000 in
theorem check_any (f : Nat → Int) (hf : NdOk f) (w : World) : Calls Tryz.prog 98 #[.agg (ndc f).toArray] w fun e w' => e = .returned (.int .i64 (codeN f)) ∧ Below w.heap.size w w' := by
  obtain ⟨d, hu, hd⟩ := Tryz.desc27
  have HU := Lib.hid hu
  have HD := Lib.hid hd
  have HB := Lib.hid (fun W => blank_any f hf W)
  have HM := Lib.hid (fun W => maybe_any (f 0) (f 3) hf.k hf.s W)
  have hl := hf.l
  have HC : Hid (codeN f = if (blankB f || (decide (0 < f 1) && mbl (f 0) (f 3))) = true then 0 else 28) := rfl
  obtain ⟨C, hC⟩ : ∃ C, codeN f = C := ⟨_, rfl⟩
  rw [hC] at HC ⊢
  obtain ⟨g0, hg0⟩ : ∃ x, f 0 = x := ⟨_, rfl⟩
  obtain ⟨g1, hg1⟩ : ∃ x, f 1 = x := ⟨_, rfl⟩
  obtain ⟨g3, hg3⟩ : ∃ x, f 3 = x := ⟨_, rfl⟩
  rw [hg0, hg3] at HM
  rw [hg1] at hl
  rw [hg0, hg1, hg3] at HC
  obtain ⟨hl0, hl1⟩ := hl
  have HG0 := Lib.hid hg0
  have HG1 := Lib.hid hg1
  have HG3 := Lib.hid hg3
  obtain ⟨b, hb⟩ : ∃ b, blankB f = b := ⟨_, rfl⟩
  obtain ⟨m, hm⟩ : ∃ m, mbl g0 g3 = m := ⟨_, rfl⟩
  rw [hb] at HB HC
  rw [hm] at HM HC
  clear hC hu hd hf hb hm hg0 hg1 hg3
  cases b
  · by_cases c : 0 < g1
    · cases m
      · have hC : C = 28 := by rw [HC.out]; simp
        subst hC
        clear HC
        go_enter Tryz.func98, Tryz.ntmps98
        go_wp2_with (first | (refine wpList_box_list rfl 68 _ rfl (ndc f) rfl ?_; intro w1 F1 hb1 hz1; have HB1 := Lib.hid hb1; have c0 := F1.out.c 0 _ rfl; have c1 := F1.out.c 1 _ rfl; have c3 := F1.out.c 3 _ rfl; rw [HG0.out] at c0; rw [HG1.out] at c1; rw [HG3.out] at c3; clear hb1 hz1) | (refine wpList_load_mid rfl 68 _ rfl w.heap.size 0 rfl (ndc f) d F1.out.range0 HU.out HD.out (size27 f) ?_))
        clear c0 c1 c3
        refine (HB.out w1).mono ?_
        rintro e w2 ⟨rfl, hb2⟩
        have HB2 := Lib.hid (HB1.out.trans (hb2.mono HB1.out.size))
        have F2 := Lib.hid (F1.out.below hb2 F1.out.lt)
        have c0 := F2.out.c 0 _ rfl
        have c1 := F2.out.c 1 _ rfl
        have c3 := F2.out.c 3 _ rfl
        rw [HG0.out] at c0
        rw [HG1.out] at c1
        rw [HG3.out] at c3
        clear hb2 HB1 F1 HB
        go_wp2_with fail
        refine (HM.out w2).mono ?_
        rintro e wz ⟨rfl, hwz⟩
        rw [hwz]
        clear hwz
        go_wp2_with fail
        go_ret
        exact ⟨rfl, HB2.out⟩
      · have hC : C = 0 := by rw [HC.out]; simp [c]
        subst hC
        clear HC
        go_enter Tryz.func98, Tryz.ntmps98
        go_wp2_with (first | (refine wpList_box_list rfl 68 _ rfl (ndc f) rfl ?_; intro w1 F1 hb1 hz1; have HB1 := Lib.hid hb1; have c0 := F1.out.c 0 _ rfl; have c1 := F1.out.c 1 _ rfl; have c3 := F1.out.c 3 _ rfl; rw [HG0.out] at c0; rw [HG1.out] at c1; rw [HG3.out] at c3; clear hb1 hz1) | (refine wpList_load_mid rfl 68 _ rfl w.heap.size 0 rfl (ndc f) d F1.out.range0 HU.out HD.out (size27 f) ?_))
        clear c0 c1 c3
        refine (HB.out w1).mono ?_
        rintro e w2 ⟨rfl, hb2⟩
        have HB2 := Lib.hid (HB1.out.trans (hb2.mono HB1.out.size))
        have F2 := Lib.hid (F1.out.below hb2 F1.out.lt)
        have c0 := F2.out.c 0 _ rfl
        have c1 := F2.out.c 1 _ rfl
        have c3 := F2.out.c 3 _ rfl
        rw [HG0.out] at c0
        rw [HG1.out] at c1
        rw [HG3.out] at c3
        clear hb2 HB1 F1 HB
        go_wp2_with fail
        refine (HM.out w2).mono ?_
        rintro e wz ⟨rfl, hwz⟩
        rw [hwz]
        clear hwz
        go_wp2_with fail
        go_ret
        exact ⟨rfl, HB2.out⟩
    · have c' : g1 = 0 := by omega
      have hC : C = 28 := by rw [HC.out]; simp [c']
      subst hC
      clear HC
      go_enter Tryz.func98, Tryz.ntmps98
      go_wp2_with (first | (refine wpList_box_list rfl 68 _ rfl (ndc f) rfl ?_; intro w1 F1 hb1 hz1; have HB1 := Lib.hid hb1; have c0 := F1.out.c 0 _ rfl; have c1 := F1.out.c 1 _ rfl; have c3 := F1.out.c 3 _ rfl; rw [HG0.out] at c0; rw [HG1.out] at c1; rw [HG3.out] at c3; clear hb1 hz1) | (refine wpList_load_mid rfl 68 _ rfl w.heap.size 0 rfl (ndc f) d F1.out.range0 HU.out HD.out (size27 f) ?_))
      clear c0 c1 c3
      refine (HB.out w1).mono ?_
      rintro e w2 ⟨rfl, hb2⟩
      have HB2 := Lib.hid (HB1.out.trans (hb2.mono HB1.out.size))
      have F2 := Lib.hid (F1.out.below hb2 F1.out.lt)
      have c0 := F2.out.c 0 _ rfl
      have c1 := F2.out.c 1 _ rfl
      have c3 := F2.out.c 3 _ rfl
      rw [HG0.out] at c0
      rw [HG1.out] at c1
      rw [HG3.out] at c3
      clear hb2 HB1 F1 HB
      go_wp2_with fail
      go_ret
      exact ⟨rfl, HB2.out⟩
  · have hC : C = 0 := by rw [HC.out]; simp
    subst hC
    clear HC
    go_enter Tryz.func98, Tryz.ntmps98
    go_wp2_with (first | (refine wpList_box_list rfl 68 _ rfl (ndc f) rfl ?_; intro w1 F1 hb1 hz1; have HB1 := Lib.hid hb1; have c0 := F1.out.c 0 _ rfl; have c1 := F1.out.c 1 _ rfl; have c3 := F1.out.c 3 _ rfl; rw [HG0.out] at c0; rw [HG1.out] at c1; rw [HG3.out] at c3; clear hb1 hz1) | (refine wpList_load_mid rfl 68 _ rfl w.heap.size 0 rfl (ndc f) d F1.out.range0 HU.out HD.out (size27 f) ?_))
    clear c0 c1 c3
    refine (HB.out w1).mono ?_
    rintro e w2 ⟨rfl, hb2⟩
    have HB2 := Lib.hid (HB1.out.trans (hb2.mono HB1.out.size))
    have F2 := Lib.hid (F1.out.below hb2 F1.out.lt)
    have c0 := F2.out.c 0 _ rfl
    have c1 := F2.out.c 1 _ rfl
    have c3 := F2.out.c 3 _ rfl
    rw [HG0.out] at c0
    rw [HG1.out] at c1
    rw [HG3.out] at c3
    clear hb2 HB1 F1 HB
    go_wp2_with fail
    go_ret
    exact ⟨rfl, HB2.out⟩
def zf : Nat → Int := fun _ => 0
def drc (f : Nat → Int) : List Value := [.int .u16 (f 4), .int .u16 (f 5), .int .u16 (f 6), .int .u16 (f 7), .int .u16 (f 8), .int .u16 (f 9)]
def drl (f : Nat → Int) : List Lit := [.int .u16 (f 4), .int .u16 (f 5), .int .u16 (f 6), .int .u16 (f 7), .int .u16 (f 8), .int .u16 (f 9)]
theorem Tryz.key25 : Tryz.prog.keyTypeAt 2 66 = true := by kernel_rfl
theorem Tryz.guard25 : Tryz.prog.eqGuardType Tryz.prog.depth 66 = false := by kernel_rfl
theorem Tryz.isize25 : (Tryz.prog.info? 66).map (·.size) = some 6 := by kernel_rfl
theorem size25 (f : Nat → Int) : (Tryz.prog.info? 66).map (·.size) = some (drc f).length := Tryz.isize25
theorem Tryz.desc25 : ∃ d, Tryz.prog.underlying 66 = some d ∧ d.isRow = true := ⟨_, Tryz.underlying66, rfl⟩
theorem build25_zero (w : World) : (Instr.build 66 #[]).run Tryz.prog w = .ok (.agg (drc zf).toArray) w := by kernel_rfl
theorem drl_is (f : Nat → Int) (h : ∀ i, 4 ≤ i → i < 12 → 0 ≤ f i ∧ f i < 65536) : Tryz.prog.keyLits 4 66 (drc f) = some (drl f) := by
  have w4 := wf16 _ (h 4 (by decide) (by decide))
  have w5 := wf16 _ (h 5 (by decide) (by decide))
  have w6 := wf16 _ (h 6 (by decide) (by decide))
  have w7 := wf16 _ (h 7 (by decide) (by decide))
  have w8 := wf16 _ (h 8 (by decide) (by decide))
  have w9 := wf16 _ (h 9 (by decide) (by decide))
  simp [drc, drl, Program.keyLits, Tryz.underlying66, Tryz.underlying37, Tryz.cl25, Tryz.cl23, w4, w5, w6, w7, w8, w9, List.range, List.range.loop]
theorem drl_zero : Tryz.prog.keyLits 4 66 (drc zf) = some (drl zf) := by kernel_rfl
theorem drc_formed (f : Nat → Int) : (Value.agg (drc f).toArray).formed Tryz.prog 66 = true := by simp [Value.formed, Tryz.underlying66, Tryz.cl25, drc]
theorem Vl.range4 {w : World} {g : Nat} {f : Nat → Int} (h : Vl w g (ndc f)) : w.rangeAt g 4 (drc f) := fun j v hj => h.c (4 + j) v (by
  have hj6 : j < 6 := (List.getElem?_eq_some_iff.1 hj).1
  match j, hj6 with
  | 0, _ | 1, _ | 2, _ | 3, _ | 4, _ | 5, _ => exact hj)
/-- byte i of a number -/
def dig (n : Int) (i : Nat) : Int := if i = 0 then n % 256 else if i = 1 then n / 256 % 256 else if i = 2 then n / 65536 % 256 else n / 16777216 % 256
theorem dig_bd (n : Int) (i : Nat) : 0 ≤ dig n i ∧ dig n i < 256 := by unfold dig; repeat' split
                                                                       all_goals omega
theorem upd_step (f : Nat → Int) (o k : Nat) (b : Nat → Int) : (fun j => if j = o + k then b k else upd f o k b j) = upd f o (k + 1) b := by
  funext j
  unfold upd
  by_cases h : j = o + k
  · subst h
    rw [if_pos rfl, if_pos (by omega), show o + k - o = k by omega]
  · rw [if_neg h]
    by_cases h2 : o ≤ j ∧ j < o + k
    · rw [if_pos h2, if_pos (by omega)]
    · rw [if_neg h2, if_neg (by omega)]
theorem upd_none (f : Nat → Int) (o : Nat) (b : Nat → Int) : upd f o 0 b = f := by
  funext j
  unfold upd
  rw [if_neg (by omega)]
set_option maxHeartbeats 4000000 in
set_option maxRecDepth 100000 in
theorem putnum_any (g o c cap N : Nat) (n : Int) (n0 : 0 ≤ n) (n1 : n < 4294967296) (hc : c ≤ 4) (hN : o + c ≤ N) (f : Nat → Int) (w : World) (F : Fl w g N f) :
    Calls Tryz.prog 125 #[.slice (some ⟨g, o, none⟩) c cap, .int .u32 n] w fun e w' => e = .returned (.tuple #[]) ∧ Fl w' g N (upd f o c (dig n)) ∧ Kp w w' g g := by
  have HF := Lib.hid F
  clear F
  have c4 : (c : Int) ≤ 4 := by omega
  have c0 : (0 : Int) ≤ c := by omega
  go_enter Tryz.func125, Tryz.ntmps125
  go_wp2_with fail
  go_loopw [7] (fun i wr => ∃ k : Nat, k ≤ c ∧ i = .int .i64 k ∧ Fl wr g N (upd f o k (dig n)) ∧ Kp w wr g g) (fun i _ => c - (Go.RowKit.intOf i).toNat)
  case atStart => exact ⟨0, by omega, rfl, by rw [upd_none]; exact HF.out, Kp.refl _ _ _⟩
  case round =>
    obtain ⟨k, hk, rfl, hF, hK⟩ := hrel
    have HR := Lib.hid hF
    have HK := Lib.hid hK
    clear hF hK HF
    by_cases hlt : k < c
    · have hkk : (k : Int) < c := by omega
      have hk4 : k = 0 ∨ k = 1 ∨ k = 2 ∨ k = 3 := by omega
      rcases hk4 with rfl | rfl | rfl | rfl
      · have hcell : wr.cell? ⟨g, o, none⟩ = _ := HR.out.c (o) (by omega)
        have hz : wr.frozen? ⟨g, o, none⟩ = false := HR.out.z (o) (by omega)
        have HX : Hid (Fl (wr.setCell ⟨g, o, none⟩ (.int .u8 (n % 256))) g N (upd f o 1 (dig n))) := by
          have h := HR.out.set (o) (by omega) (dig n 0)
          rw [show (fun j => if j = o then dig n 0 else upd f o 0 (dig n) j) = upd f o 1 (dig n) from upd_step f o 0 (dig n)] at h
          exact h
        have HKX : Hid (Kp w (wr.setCell ⟨g, o, none⟩ (.int .u8 (n % 256))) g g) := HK.out.setA (o) _
        clear HR HK
        have hk1 : 1 ≤ c := by omega
        go_wp2_with fail
        go_roundw
        case rel => exact ⟨1, hk1, rfl, HX.out, HKX.out⟩
        case measure => simp [Go.RowKit.intOf]; omega
      · have hcell : wr.cell? ⟨g, o + 1, none⟩ = _ := HR.out.c (o + 1) (by omega)
        have hz : wr.frozen? ⟨g, o + 1, none⟩ = false := HR.out.z (o + 1) (by omega)
        have HX : Hid (Fl (wr.setCell ⟨g, o + 1, none⟩ (.int .u8 (n / 256 % 256))) g N (upd f o 2 (dig n))) := by
          have h := HR.out.set (o + 1) (by omega) (dig n 1)
          rw [show (fun j => if j = o + 1 then dig n 1 else upd f o 1 (dig n) j) = upd f o 2 (dig n) from upd_step f o 1 (dig n)] at h
          exact h
        have HKX : Hid (Kp w (wr.setCell ⟨g, o + 1, none⟩ (.int .u8 (n / 256 % 256))) g g) := HK.out.setA (o + 1) _
        clear HR HK
        have hk1 : 2 ≤ c := by omega
        go_wp2_with fail
        go_roundw
        case rel => exact ⟨2, hk1, rfl, HX.out, HKX.out⟩
        case measure => simp [Go.RowKit.intOf]; omega
      · have hcell : wr.cell? ⟨g, o + 2, none⟩ = _ := HR.out.c (o + 2) (by omega)
        have hz : wr.frozen? ⟨g, o + 2, none⟩ = false := HR.out.z (o + 2) (by omega)
        have HX : Hid (Fl (wr.setCell ⟨g, o + 2, none⟩ (.int .u8 (n / 65536 % 256))) g N (upd f o 3 (dig n))) := by
          have h := HR.out.set (o + 2) (by omega) (dig n 2)
          rw [show (fun j => if j = o + 2 then dig n 2 else upd f o 2 (dig n) j) = upd f o 3 (dig n) from upd_step f o 2 (dig n)] at h
          exact h
        have HKX : Hid (Kp w (wr.setCell ⟨g, o + 2, none⟩ (.int .u8 (n / 65536 % 256))) g g) := HK.out.setA (o + 2) _
        clear HR HK
        have hk1 : 3 ≤ c := by omega
        go_wp2_with fail
        go_roundw
        case rel => exact ⟨3, hk1, rfl, HX.out, HKX.out⟩
        case measure => simp [Go.RowKit.intOf]; omega
      · have hcell : wr.cell? ⟨g, o + 3, none⟩ = _ := HR.out.c (o + 3) (by omega)
        have hz : wr.frozen? ⟨g, o + 3, none⟩ = false := HR.out.z (o + 3) (by omega)
        have HX : Hid (Fl (wr.setCell ⟨g, o + 3, none⟩ (.int .u8 (n / 16777216))) g N (upd f o 4 (dig n))) := by
          rw [show n / 16777216 = dig n 3 from (by show n / 16777216 = n / 16777216 % 256; omega)]
          have h := HR.out.set (o + 3) (by omega) (dig n 3)
          rw [show (fun j => if j = o + 3 then dig n 3 else upd f o 3 (dig n) j) = upd f o 4 (dig n) from upd_step f o 3 (dig n)] at h
          exact h
        have HKX : Hid (Kp w (wr.setCell ⟨g, o + 3, none⟩ (.int .u8 (n / 16777216))) g g) := HK.out.setA (o + 3) _
        clear HR HK
        have hk1 : 4 ≤ c := by omega
        go_wp2_with fail
        go_roundw
        case rel => exact ⟨4, hk1, rfl, HX.out, HKX.out⟩
        case measure => simp [Go.RowKit.intOf]; omega
    · obtain rfl : k = c := by omega
      go_wp2_with fail
      go_end0
      exact ⟨rfl, HR.out, HK.out⟩
/-- a number of some bytes, the lowest first -/
def numS (f : Nat → Int) (o : Nat) : Nat → Int
  | 0 => 0
  | k + 1 => numS f o k + f (o + k) * (if k = 0 then 1 else if k = 1 then 256 else if k = 2 then 65536 else 16777216)
theorem u32_in (n : Int) (h0 : 0 ≤ n) (h1 : n < 4294967296) : IntKind.u32.wrap n = n := by
  simp [IntKind.wrap, IntKind.bits, IntKind.signed]
  omega
theorem or_join (k : Nat) (hk : k = 0 ∨ k = 1 ∨ k = 2 ∨ k = 3) (a x m : Int) (hm : m = if k = 0 then 1 else if k = 1 then 256 else if k = 2 then 65536 else 16777216) (ha : 0 ≤ a ∧ a < m) (hx : 0 ≤ x ∧ x < 256) : Go.bits .or .u32 a (x * m) = a + x * m := by
  rcases hk with rfl | rfl | rfl | rfl
  · simp at hm
    subst hm
    obtain rfl : a = 0 := by omega
    rw [bits_join_low .u32 32 (by decide) (fun n h0 h1 => u32_in n h0 (by omega)) 0 0 (x * 1) (by omega) (by omega) (by omega) (by omega) (by omega) (by omega)]
  · simp at hm
    subst hm
    rw [bits_join_low .u32 32 (by decide) (fun n h0 h1 => u32_in n h0 (by omega)) 8 a (x * 256) ha.1 (by omega) (by omega) (by omega) (by omega) (by omega)]
  · simp at hm
    subst hm
    rw [bits_join_low .u32 32 (by decide) (fun n h0 h1 => u32_in n h0 (by omega)) 16 a (x * 65536) ha.1 (by omega) (by omega) (by omega) (by omega) (by omega)]
  · simp at hm
    subst hm
    rw [bits_join_low .u32 32 (by decide) (fun n h0 h1 => u32_in n h0 (by omega)) 24 a (x * 16777216) ha.1 (by omega) (by omega) (by omega) (by omega) (by omega)]
theorem numS_bd (f : Nat → Int) (o c : Nat) (h : ∀ i, i < c → 0 ≤ f (o + i) ∧ f (o + i) < 256) : (1 ≤ c → 0 ≤ numS f o 1 ∧ numS f o 1 < 256) ∧ (2 ≤ c → 0 ≤ numS f o 2 ∧ numS f o 2 < 65536) ∧ (3 ≤ c → 0 ≤ numS f o 3 ∧ numS f o 3 < 16777216) ∧ (4 ≤ c → 0 ≤ numS f o 4 ∧ numS f o 4 < 4294967296) := by
  refine ⟨fun hc => ?_, fun hc => ?_, fun hc => ?_, fun hc => ?_⟩
  · have h0 := h 0 (by omega)
    simp [numS] at *
    omega
  · have h0 := h 0 (by omega)
    have h1 := h 1 (by omega)
    simp [numS] at *
    omega
  · have h0 := h 0 (by omega)
    have h1 := h 1 (by omega)
    have h2 := h 2 (by omega)
    simp [numS] at *
    omega
  · have h0 := h 0 (by omega)
    have h1 := h 1 (by omega)
    have h2 := h 2 (by omega)
    have h3 := h 3 (by omega)
    simp [numS] at *
    omega
set_option maxHeartbeats 4000000 in
set_option maxRecDepth 100000 in
theorem number_any (g o c cap N : Nat) (hc : c ≤ 4) (hN : o + c ≤ N) (f : Nat → Int) (hf : ∀ i, i < c → 0 ≤ f (o + i) ∧ f (o + i) < 256) (w : World) (F : Fl w g N f) :
    Calls Tryz.prog 135 #[.slice (some ⟨g, o, none⟩) c cap] w fun e w' => e = .returned (.int .u32 (numS f o c)) ∧ w' = w := by
  have HF := Lib.hid F
  have HB := Lib.hid (numS_bd f o c hf)
  have Hf := Lib.hid hf
  clear F hf
  have c4 : (c : Int) ≤ 4 := by omega
  have c0 : (0 : Int) ≤ c := by omega
  go_enter Tryz.func135, Tryz.ntmps135
  go_wp2_with fail
  go_loop [3, 8] (fun a i => ∃ k : Nat, k ≤ c ∧ i = .int .i64 k ∧ a = .int .u32 (numS f o k)) (fun _ i => c - (Go.RowKit.intOf i).toNat)
  case atStart => exact ⟨0, by omega, rfl, rfl⟩
  case round =>
    obtain ⟨k, hk, rfl, rfl⟩ := hrel
    by_cases hlt : k < c
    · have hkk : (k : Int) < c := by omega
      have hk4 : k = 0 ∨ k = 1 ∨ k = 2 ∨ k = 3 := by omega
      rcases hk4 with rfl | rfl | rfl | rfl
      · have hcell : w.cell? ⟨g, o, none⟩ = _ := HF.out.c (o) (by omega)
        obtain ⟨x, hx⟩ : ∃ x, f (o) = x := ⟨_, rfl⟩
        have hxb : 0 ≤ x ∧ x < 256 := by rw [← hx]; exact Hf.out 0 (by omega)
        rw [hx] at hcell
        have hs : numS f o 1 = numS f o 0 + x * 1 := by rw [← hx]; rfl
        have ha : 0 ≤ numS f o 0 ∧ numS f o 0 < 1 := ⟨Int.le_refl _, by show (0 : Int) < 1; decide⟩
        have hor := or_join 0 (by omega) (numS f o 0) x 1 rfl ha hxb
        have hw1 : x * 1 < 4294967296 := by omega
        have hw0 : 0 ≤ x * 1 := by omega
        have hwr : IntKind.u32.wrap (x * 1) = x * 1 := u32_in _ hw0 hw1
        rw [← hs] at hor
        obtain ⟨y, hy⟩ : ∃ y, numS f o 1 = y := ⟨_, rfl⟩
        obtain ⟨z, hz⟩ : ∃ z, numS f o 0 = z := ⟨_, rfl⟩
        rw [hy, hz] at hor
        try rw [Int.mul_one] at hor
        rw [hz] at ha
        have HY := Lib.hid hy
        obtain ⟨hx0, hx1⟩ := hxb
        obtain ⟨ha0, ha1⟩ := ha
        try rw [hz]
        have hk1 : 1 ≤ c := by omega
        clear hs hx hy hz
        go_wp2_with fail
        go_round
        case rel => exact ⟨1, hk1, rfl, by rw [HY.out]⟩
        case measure => simp [Go.RowKit.intOf]; omega
      · have hcell : w.cell? ⟨g, o + 1, none⟩ = _ := HF.out.c (o + 1) (by omega)
        obtain ⟨x, hx⟩ : ∃ x, f (o + 1) = x := ⟨_, rfl⟩
        have hxb : 0 ≤ x ∧ x < 256 := by rw [← hx]; exact Hf.out 1 (by omega)
        rw [hx] at hcell
        have hs : numS f o 2 = numS f o 1 + x * 256 := by rw [← hx]; rfl
        have ha : 0 ≤ numS f o 1 ∧ numS f o 1 < 256 := HB.out.1 (by omega)
        have hor := or_join 1 (by omega) (numS f o 1) x 256 rfl ha hxb
        have hw1 : x * 256 < 4294967296 := by omega
        have hw0 : 0 ≤ x * 256 := by omega
        have hwr : IntKind.u32.wrap (x * 256) = x * 256 := u32_in _ hw0 hw1
        rw [← hs] at hor
        obtain ⟨y, hy⟩ : ∃ y, numS f o 2 = y := ⟨_, rfl⟩
        obtain ⟨z, hz⟩ : ∃ z, numS f o 1 = z := ⟨_, rfl⟩
        rw [hy, hz] at hor
        try rw [Int.mul_one] at hor
        rw [hz] at ha
        have HY := Lib.hid hy
        obtain ⟨hx0, hx1⟩ := hxb
        obtain ⟨ha0, ha1⟩ := ha
        try rw [hz]
        have hk1 : 2 ≤ c := by omega
        clear hs hx hy hz
        go_wp2_with fail
        go_round
        case rel => exact ⟨2, hk1, rfl, by rw [HY.out]⟩
        case measure => simp [Go.RowKit.intOf]; omega
      · have hcell : w.cell? ⟨g, o + 2, none⟩ = _ := HF.out.c (o + 2) (by omega)
        obtain ⟨x, hx⟩ : ∃ x, f (o + 2) = x := ⟨_, rfl⟩
        have hxb : 0 ≤ x ∧ x < 256 := by rw [← hx]; exact Hf.out 2 (by omega)
        rw [hx] at hcell
        have hs : numS f o 3 = numS f o 2 + x * 65536 := by rw [← hx]; rfl
        have ha : 0 ≤ numS f o 2 ∧ numS f o 2 < 65536 := HB.out.2.1 (by omega)
        have hor := or_join 2 (by omega) (numS f o 2) x 65536 rfl ha hxb
        have hw1 : x * 65536 < 4294967296 := by omega
        have hw0 : 0 ≤ x * 65536 := by omega
        have hwr : IntKind.u32.wrap (x * 65536) = x * 65536 := u32_in _ hw0 hw1
        rw [← hs] at hor
        obtain ⟨y, hy⟩ : ∃ y, numS f o 3 = y := ⟨_, rfl⟩
        obtain ⟨z, hz⟩ : ∃ z, numS f o 2 = z := ⟨_, rfl⟩
        rw [hy, hz] at hor
        try rw [Int.mul_one] at hor
        rw [hz] at ha
        have HY := Lib.hid hy
        obtain ⟨hx0, hx1⟩ := hxb
        obtain ⟨ha0, ha1⟩ := ha
        try rw [hz]
        have hk1 : 3 ≤ c := by omega
        clear hs hx hy hz
        go_wp2_with fail
        go_round
        case rel => exact ⟨3, hk1, rfl, by rw [HY.out]⟩
        case measure => simp [Go.RowKit.intOf]; omega
      · have hcell : w.cell? ⟨g, o + 3, none⟩ = _ := HF.out.c (o + 3) (by omega)
        obtain ⟨x, hx⟩ : ∃ x, f (o + 3) = x := ⟨_, rfl⟩
        have hxb : 0 ≤ x ∧ x < 256 := by rw [← hx]; exact Hf.out 3 (by omega)
        rw [hx] at hcell
        have hs : numS f o 4 = numS f o 3 + x * 16777216 := by rw [← hx]; rfl
        have ha : 0 ≤ numS f o 3 ∧ numS f o 3 < 16777216 := HB.out.2.2.1 (by omega)
        have hor := or_join 3 (by omega) (numS f o 3) x 16777216 rfl ha hxb
        have hw1 : x * 16777216 < 4294967296 := by omega
        have hw0 : 0 ≤ x * 16777216 := by omega
        have hwr : IntKind.u32.wrap (x * 16777216) = x * 16777216 := u32_in _ hw0 hw1
        rw [← hs] at hor
        obtain ⟨y, hy⟩ : ∃ y, numS f o 4 = y := ⟨_, rfl⟩
        obtain ⟨z, hz⟩ : ∃ z, numS f o 3 = z := ⟨_, rfl⟩
        rw [hy, hz] at hor
        try rw [Int.mul_one] at hor
        rw [hz] at ha
        have HY := Lib.hid hy
        obtain ⟨hx0, hx1⟩ := hxb
        obtain ⟨ha0, ha1⟩ := ha
        try rw [hz]
        have hk1 : 4 ≤ c := by omega
        clear hs hx hy hz
        go_wp2_with fail
        go_round
        case rel => exact ⟨4, hk1, rfl, by rw [HY.out]⟩
        case measure => simp [Go.RowKit.intOf]; omega
    · obtain rfl : k = c := by omega
      go_wp2_with fail
      go_ret
      exact ⟨rfl, rfl⟩
def zpt : Nat → Int := fun _ => 0
theorem Tryz.zero70 : (Tryz.prog.info? 231).map (fun i => i.zero) = some (some (.agg (ptc zpt).toArray)) := by kernel_rfl
theorem Tryz.isize70 : (Tryz.prog.info? 231).map (·.size) = some 8 := by kernel_rfl
theorem size70 (f : Nat → Int) : (Tryz.prog.info? 231).map (·.size) = some (ptc f).length := Tryz.isize70
theorem size70' (f : Nat → Int) : (Tryz.prog.info? 231).map (·.size) = some (ptc f).toArray.size := Tryz.isize70
theorem Tryz.desc70 : ∃ d, Tryz.prog.underlying 231 = some d ∧ d.isRow = true := ⟨_, Tryz.underlying231, rfl⟩
theorem Tryz.sl101 : Tryz.prog.underlying 104 = some (.slice 37) := Tryz.underlying104
theorem Tryz.isize23 : (Tryz.prog.info? 37).map (·.size) = some 1 := by kernel_rfl
theorem drc_one (f : Nat → Int) : ∀ v ∈ drc f, v.oneCell' = true := by
  intro v hv
  simp only [drc, List.mem_cons, List.not_mem_nil, or_false] at hv
  rcases hv with rfl | rfl | rfl | rfl | rfl | rfl <;> rfl
/-- six of eight pointers laid over -/
theorem Vl.six {w : World} {g : Nat} {p : Nat → Int} (h : Vl w g (ptc p)) (f : Nat → Int) : Vl (w.setCells g 0 (drc f)) g (ptc fun i => if i < 6 then f (4 + i) else p i) := by
  have ht : w.there g 0 6 := fun j hj => h.there0 8 rfl j (by omega)
  refine ⟨by rw [size_setCells]; exact h.lt, fun j v hj => ?_, fun j hj => by rw [World.frozen?_setCells]; exact h.z j hj⟩
  have hj8 : j < 8 := (List.getElem?_eq_some_iff.1 hj).1
  by_cases h6 : j < 6
  · have := World.rangeAt_setCells_same w g 0 (drc f) ht j v (by
      match j, h6 with
      | 0, _ | 1, _ | 2, _ | 3, _ | 4, _ | 5, _ => exact hj)
    rwa [Nat.zero_add] at this
  · rw [World.cell?_setCells_out g (drc f) 0 w _ (fun _ _ => by show j < 0 ∨ 0 + 6 ≤ j; omega)]
    refine h.c j v ?_
    match j, hj8, h6 with
    | 6, _, _ => exact hj
    | 7, _, _ => exact hj
def ptOf (f : Nat → Int) : Nat → Int := fun i => f (4 + i)
set_option maxHeartbeats 4000000 in
set_option maxRecDepth 100000 in
theorem pointersof_any (f : Nat → Int) (w : World) : Calls Tryz.prog 126 #[.agg (ndc f).toArray] w fun e w' => e = .returned (.agg (ptc (ptOf f)).toArray) ∧ Below w.heap.size w w' := by
  obtain ⟨d, hu, hd⟩ := Tryz.desc70
  have HU := Lib.hid hu
  have HD := Lib.hid hd
  clear hu hd
  go_enter Tryz.func126, Tryz.ntmps126
  go_upto_region 2 with (first | (refine wpList_box_list (w := w) rfl 68 _ rfl (ndc f) rfl ?_; intro w1 F1 hb1 hz1; have HB1 := Lib.hid hb1; have hq1 : w.heap.size < w1.heap.size := (by omega); clear hb1 hz1) | (refine wpList_alloc_list (w := w1) rfl 231 rfl (ptc zpt) Tryz.zero70 ?_; intro w2 F2 hb2 hz2; have HB2 := Lib.hid hb2; have hq2 : w1.heap.size < w2.heap.size := (by omega); clear hb2 hz2) | (refine wpList_alloc_list (w := w2) rfl 231 rfl (ptc zpt) Tryz.zero70 ?_; intro w3 F3 hb3 hz3; have HB3 := Lib.hid hb3; have hq3 : w2.heap.size < w3.heap.size := (by omega); clear hb3 hz3))
  obtain ⟨b1, hb1⟩ : ∃ b, w.heap.size = b := ⟨_, rfl⟩
  obtain ⟨b2, hb2⟩ : ∃ b, w1.heap.size = b := ⟨_, rfl⟩
  obtain ⟨b3, hb3⟩ : ∃ b, w2.heap.size = b := ⟨_, rfl⟩
  have G1 := Lib.hid ((F1.out.keep HB2.out).keep HB3.out)
  have G2 := Lib.hid (F2.out.keep HB3.out)
  have HB := Lib.hid ((HB1.out.trans (HB2.out.mono HB1.out.size)).trans (HB3.out.mono (Nat.le_trans HB1.out.size HB2.out.size)))
  rw [hb1, hb2] at hq1
  rw [hb2, hb3] at hq2
  rw [hb3] at hq3
  rw [hb1] at G1 HB
  rw [hb2] at G2
  rw [hb3] at F3
  have HW := Lib.hid hb1
  try rw [hb1]
  try rw [hb2]
  try rw [hb3]
  clear hb1 hb2 hb3 HB1 HB2 HB3 F1 F2
  go_still_tail 3, (by kernel_rfl)
  have D1 := Lib.hid (G1.out.keep (Below.refl w3.heap.size w3).drew)
  have D2 := Lib.hid (G2.out.keep (Below.refl w3.heap.size w3).drew)
  have D3 := Lib.hid (F3.out.keep (Below.refl w3.heap.size w3).drew)
  have DB := Lib.hid (HB.out.drew)
  change wpList _ _ _ _ _ (World.drew w3)
  have hq4 : b3 < (World.drew w3).heap.size := hq3
  obtain ⟨w4, hw4⟩ : ∃ x, World.drew w3 = x := ⟨_, rfl⟩
  rw [hw4] at D1 D2 D3 DB hq4 ⊢
  clear hw4 G1 G2 F3 HB hq3
  refine wpList_copy_mid rfl (.tmp 4) (.tmp 6) 104 104 rfl 37 Tryz.sl101 1 Tryz.isize23 b3 0 8 8 (some ⟨b1, 4, none⟩) 6 6 rfl rfl (drc f) rfl (fun _ => ⟨_, rfl, fun j v hj => ?_⟩) ?_ (drc_one f) ?_
  · rw [Addr.add_mid]
    exact D1.out.range4 j v hj
  · exact fun j hj => D3.out.there0 8 rfl j (Nat.lt_of_lt_of_le hj (by show 6 ≤ 8; decide))
  have E3 := Lib.hid (D3.out.six f)
  have hk : Kp w4 (w4.setCells b3 0 (drc f)) b3 b3 := (Kp.refl w4 b3 b3).setCells b3 0 (.inl rfl) _
  have E1 := Lib.hid (D1.out.kp hk (by omega) (by omega))
  have E2 := Lib.hid (D2.out.kp hk (by omega) (by omega))
  have EB := Lib.hid (DB.out.trans (hk.below (by omega) (by omega) (by omega)))
  obtain ⟨w5, hw5⟩ : ∃ x, w4.setCells b3 0 (drc f) = x := ⟨_, rfl⟩
  rw [hw5] at E1 E2 E3 EB hk ⊢
  have hq5 := hk.size
  clear hw5 hk D1 D2 D3 DB
  have c10 := E1.out.c 10 _ rfl
  have c6 := E3.out.c 6 _ rfl
  have z6 := E3.out.z 6 (by show 6 < 8; decide)
  go_upto_region 4 with fail
  have N3 := Lib.hid (E3.out.set 6 (by show 6 < 8; decide) (.int .u16 (f 10)))
  have hk : Kp w5 (w5.setCell ⟨b3, 6, none⟩ (.int .u16 (f 10))) b3 b3 := (Kp.refl _ _ _).setA 6 _
  have N1 := Lib.hid (E1.out.kp hk (by omega) (by omega))
  have N2 := Lib.hid (E2.out.kp hk (by omega) (by omega))
  have NB := Lib.hid (EB.out.trans (hk.below (by omega) (by omega) (by omega)))
  obtain ⟨w6, hw6⟩ : ∃ x, w5.setCell ⟨b3, 6, none⟩ (.int .u16 (f 10)) = x := ⟨_, rfl⟩
  rw [hw6] at N1 N2 N3 NB hk ⊢
  have hq6 := hk.size
  clear hw6 hk E1 E2 E3 EB c10 c6 z6
  have c11 := N1.out.c 11 _ rfl
  have c7 := N3.out.c 7 _ rfl
  have z7 := N3.out.z 7 (by show 7 < 8; decide)
  go_upto_region 5 with fail
  have P3 := Lib.hid (N3.out.set 7 (by show 7 < 8; decide) (.int .u16 (f 11)))
  have hk : Kp w6 (w6.setCell ⟨b3, 7, none⟩ (.int .u16 (f 11))) b3 b3 := (Kp.refl _ _ _).setA 7 _
  have P2 := Lib.hid (N2.out.kp hk (by omega) (by omega))
  have PB := Lib.hid (NB.out.trans (hk.below (by omega) (by omega) (by omega)))
  obtain ⟨w7, hw7⟩ : ∃ x, w6.setCell ⟨b3, 7, none⟩ (.int .u16 (f 11)) = x := ⟨_, rfl⟩
  rw [hw7] at P2 P3 PB hk ⊢
  have hq7 := hk.size
  clear hw7 hk N1 N2 N3 NB c11 c7 z7
  have hP : ((ptc fun i => if i < 6 then f (4 + i) else zpt i).set 6 (.int .u16 (f 10))).set 7 (.int .u16 (f 11)) = ptc (ptOf f) := rfl
  rw [hP] at P3
  have HR := Lib.hid P3.out.range0
  have PF := Lib.hid (P2.out.stored (ptc (ptOf f)) rfl)
  go_wp2_with (first | (refine wpList_load_mid rfl 231 _ rfl b3 0 rfl (ptc (ptOf f)) d HR.out HU.out HD.out (size70 _) ?_) | (refine wpList_store_mid rfl 231 _ _ rfl b2 0 (ptc (ptOf f)).toArray rfl rfl (P2.out.there0 8 rfl) (size70' _) (all_oneCell_toArray (ptc_one _)) ?_))
  exact bodyPost_ret_by (results_mid rfl _ _ b2 _ d rfl PF.out.range0 HU.out HD.out (size70 _)) rfl ⟨rfl, by rw [HW.out]; exact below_setCells PB.out b2 0 (by omega) _⟩
def zby : Nat → Int := fun _ => 0
theorem Tryz.zero28 : (Tryz.prog.info? 203).map (fun i => i.zero) = some (some (.agg (byts 32 fun _ => 0).toArray)) := by kernel_rfl
theorem Tryz.isize28 : (Tryz.prog.info? 203).map (·.size) = some 32 := by kernel_rfl
theorem size28 (f : Nat → Int) : (Tryz.prog.info? 203).map (·.size) = some (byts 32 f).length := by rw [Tryz.isize28, byts_len]
theorem size28' (f : Nat → Int) : (Tryz.prog.info? 203).map (·.size) = some (byts 32 f).toArray.size := by rw [Tryz.isize28, byts_size]
theorem Tryz.arr28 : Tryz.prog.underlying 203 = some (.array 32 5) := Tryz.underlying203
/-- a node's bytes -/
def encF (f : Nat → Int) : Nat → Int := fun j => if j = 0 then f 0 else if j = 1 then f 1 else if j < 4 then dig (f 2) (j - 2) else if j < 8 then dig (f 3) (j - 4) else if j < 24 then dig (f (4 + (j - 8) / 2)) ((j - 8) % 2) else 0
theorem enc_first (f : Nat → Int) (j : Nat) : upd (upd (fun j => if j = 1 then f 1 else (fun j => if j = 0 then f 0 else 0) j) 2 2 (dig (f 2))) 4 4 (dig (f 3)) j = if j < 8 + 2 * 0 then encF f j else 0 := by
  unfold upd encF
  by_cases h0 : j = 0
  · subst h0; rfl
  by_cases h1 : j = 1
  · subst h1; rfl
  simp only [h0, h1, if_false]
  by_cases h4 : j < 4
  · rw [if_neg (by omega), if_pos (by omega), if_pos (by omega), if_pos h4]
  · by_cases h8 : j < 8
    · rw [if_pos (by omega), if_pos (by omega), if_neg h4, if_pos h8]
    · rw [if_neg (by omega), if_neg (by omega), if_neg (by omega)]
theorem enc_step (f : Nat → Int) (k : Nat) (hk : k < 8) (j : Nat) : upd (fun j => if j < 8 + 2 * k then encF f j else 0) (8 + 2 * k) 2 (dig (f (4 + k))) j = if j < 8 + 2 * (k + 1) then encF f j else 0 := by
  unfold upd
  by_cases h : 8 + 2 * k ≤ j ∧ j < 8 + 2 * k + 2
  · rw [if_pos h, if_pos (by omega)]
    unfold encF
    rw [if_neg (by omega), if_neg (by omega), if_neg (by omega), if_neg (by omega), if_pos (by omega), show (j - 8) / 2 = k by omega, show (j - 8) % 2 = j - (8 + 2 * k) by omega]
  · rw [if_neg h]
    show (if j < 8 + 2 * k then encF f j else 0) = _
    by_cases h2 : j < 8 + 2 * k
    · rw [if_pos h2, if_pos (by omega)]
    · rw [if_neg h2, if_neg (by omega)]
theorem enc_last (f : Nat → Int) (j : Nat) : (if j < 8 + 2 * 8 then encF f j else 0) = encF f j := by
  by_cases h : j < 8 + 2 * 8
  · rw [if_pos h]
  · rw [if_neg h]
    unfold encF
    rw [if_neg (by omega), if_neg (by omega), if_neg (by omega), if_neg (by omega), if_neg (by omega)]
set_option maxHeartbeats 20000000 in
set_option maxRecDepth 100000 in
theorem encode_any (f : Nat → Int) (hf : NdOk f) (w : World) : Calls Tryz.prog 99 #[.agg (ndc f).toArray] w fun e w' => e = .returned (.agg (byts 32 (encF f)).toArray) ∧ Below w.heap.size w w' := by
  obtain ⟨d27, hu27, hd27⟩ := Tryz.desc27
  have HU27 := Lib.hid hu27
  have HD27 := Lib.hid hd27
  obtain ⟨g0, g1⟩ := hf.g
  obtain ⟨s0, s1⟩ := hf.s
  have HP := Lib.hid hf.p
  have HPt := Lib.hid (fun W => pointersof_any f W)
  have HS2 : Hid (∀ g F W, Fl W g 32 F → Calls Tryz.prog 125 #[.slice (some ⟨g, 2, none⟩) 2 30, .int .u32 (f 2)] W fun e w' => e = .returned (.tuple #[]) ∧ Fl w' g 32 (upd F 2 2 (dig (f 2))) ∧ Kp W w' g g) := fun g F W h => putnum_any g 2 2 30 32 (f 2) g0 (by omega) (by omega) (by omega) F W h
  have HS4 : Hid (∀ g F W, Fl W g 32 F → Calls Tryz.prog 125 #[.slice (some ⟨g, 4, none⟩) 4 28, .int .u32 (f 3)] W fun e w' => e = .returned (.tuple #[]) ∧ Fl w' g 32 (upd F 4 4 (dig (f 3))) ∧ Kp W w' g g) := fun g F W h => putnum_any g 4 4 28 32 (f 3) s0 s1 (by omega) (by omega) F W h
  have hF1 : Hid (∀ j, upd (upd (fun j => if j = 1 then f 1 else (fun j => if j = 0 then f 0 else 0) j) 2 2 (dig (f 2))) 4 4 (dig (f 3)) j = if j < 8 + 2 * 0 then encF f j else 0) := enc_first f
  clear hu27 hd27 hf
  go_enter Tryz.func99, Tryz.ntmps99
  go_upto_region 2 with (first | (refine wpList_box_list (w := w) rfl 68 _ rfl (ndc f) rfl ?_; intro w1 F1 hb1 hz1; have HB1 := Lib.hid hb1; have hq1 : w.heap.size < w1.heap.size := (by omega); clear hb1 hz1) | (refine wpList_alloc_byts (w := w1) rfl 203 32 rfl Tryz.zero28 ?_; intro w2 F2 hb2 hz2; have HB2 := Lib.hid hb2; have hq2 : w1.heap.size < w2.heap.size := (by omega); clear hb2 hz2) | (refine wpList_alloc_byts (w := w2) rfl 203 32 rfl Tryz.zero28 ?_; intro w3 F3 hb3 hz3; have HB3 := Lib.hid hb3; have hq3 : w2.heap.size < w3.heap.size := (by omega); clear hb3 hz3))
  obtain ⟨b1, hb1⟩ : ∃ b, w.heap.size = b := ⟨_, rfl⟩
  obtain ⟨b2, hb2⟩ : ∃ b, w1.heap.size = b := ⟨_, rfl⟩
  obtain ⟨b3, hb3⟩ : ∃ b, w2.heap.size = b := ⟨_, rfl⟩
  have G1 := Lib.hid ((F1.out.keep HB2.out).keep HB3.out)
  have G2 := Lib.hid (F2.out.below HB3.out F2.out.lt)
  have HB := Lib.hid ((HB1.out.trans (HB2.out.mono HB1.out.size)).trans (HB3.out.mono (Nat.le_trans HB1.out.size HB2.out.size)))
  rw [hb1, hb2] at hq1
  rw [hb2, hb3] at hq2
  rw [hb3] at hq3
  rw [hb1] at G1 HB
  rw [hb2] at G2
  rw [hb3] at F3
  have HW := Lib.hid hb1
  try rw [hb1]
  try rw [hb2]
  try rw [hb3]
  clear hb1 hb2 hb3 HB1 HB2 HB3 F1 F2
  have c0 := G1.out.c 0 _ rfl
  have e0 := F3.out.c 0 (by decide)
  have z0 := F3.out.z 0 (by decide)
  go_upto_region 3 with fail
  have GB := HB
  have G3 := F3
  clear HB F3
  have M3 := Lib.hid (G3.out.set 0 (by decide) (f 0))
  have hk : Kp w3 (w3.setCell ⟨b3, 0, none⟩ (.int .u8 (f 0))) b3 b3 := (Kp.refl _ _ _).setA 0 _
  have M1 := Lib.hid (G1.out.kp hk (by omega) (by omega))
  have M2 := Lib.hid (G2.out.kp hk (by omega) (by omega))
  have MB := Lib.hid (GB.out.trans (hk.below (by omega) (by omega) (by omega)))
  obtain ⟨w4, hw⟩ : ∃ x, w3.setCell ⟨b3, 0, none⟩ (.int .u8 (f 0)) = x := ⟨_, rfl⟩
  rw [hw] at M1 M2 M3 MB hk ⊢
  have hq_w4 := hk.size
  clear hw hk G1 G2 G3 GB c0 e0 z0
  have c1 := M1.out.c 1 _ rfl
  have e1 := M3.out.c 1 (by decide)
  have z1 := M3.out.z 1 (by decide)
  go_upto_region 4 with fail
  have N3 := Lib.hid (M3.out.set 1 (by decide) (f 1))
  have hk : Kp w4 (w4.setCell ⟨b3, 1, none⟩ (.int .u8 (f 1))) b3 b3 := (Kp.refl _ _ _).setA 1 _
  have N1 := Lib.hid (M1.out.kp hk (by omega) (by omega))
  have N2 := Lib.hid (M2.out.kp hk (by omega) (by omega))
  have NB := Lib.hid (MB.out.trans (hk.below (by omega) (by omega) (by omega)))
  obtain ⟨w5, hw⟩ : ∃ x, w4.setCell ⟨b3, 1, none⟩ (.int .u8 (f 1)) = x := ⟨_, rfl⟩
  rw [hw] at N1 N2 N3 NB hk ⊢
  have hq_w5 := hk.size
  clear hw hk M1 M2 M3 MB c1 e1 z1
  have c2 := N1.out.c 2 _ rfl
  go_still_tail 4, (by kernel_rfl)
  have P1 := Lib.hid (N1.out.keep (Below.refl w5.heap.size w5).drew)
  have P2 := Lib.hid (N2.out.below (Below.refl w5.heap.size w5).drew N2.out.lt)
  have P3 := Lib.hid (N3.out.below (Below.refl w5.heap.size w5).drew N3.out.lt)
  have PB := Lib.hid (NB.out.drew)
  have hq_w6 : b3 < (World.drew w5).heap.size := N3.out.lt
  change wpList _ _ _ _ _ (World.drew w5)
  obtain ⟨w6, hw⟩ : ∃ x, World.drew w5 = x := ⟨_, rfl⟩
  rw [hw] at P1 P2 P3 PB hq_w6 ⊢
  clear hw
  clear N1 N2 N3 NB c2
  go_wp2_with fail
  refine (HS2.out b3 _ w6 P3.out).mono ?_
  rintro e w7 ⟨rfl, hF, hk⟩
  have R3 := Lib.hid hF
  have R1 := Lib.hid (P1.out.kp hk (by omega) (by omega))
  have R2 := Lib.hid (P2.out.kp hk (by omega) (by omega))
  have RB := Lib.hid (PB.out.trans (hk.below (by omega) (by omega) (by omega)))
  have hq_w7 := hk.size
  clear hF hk P1 P2 P3 PB
  have c3 := R1.out.c 3 _ rfl
  go_upto_region 5 with fail
  go_still_tail 3, (by kernel_rfl)
  have S1 := Lib.hid (R1.out.keep (Below.refl w7.heap.size w7).drew)
  have S2 := Lib.hid (R2.out.below (Below.refl w7.heap.size w7).drew R2.out.lt)
  have S3 := Lib.hid (R3.out.below (Below.refl w7.heap.size w7).drew R3.out.lt)
  have SB := Lib.hid (RB.out.drew)
  have hq_w8 : b3 < (World.drew w7).heap.size := R3.out.lt
  change wpList _ _ _ _ _ (World.drew w7)
  obtain ⟨w8, hw⟩ : ∃ x, World.drew w7 = x := ⟨_, rfl⟩
  rw [hw] at S1 S2 S3 SB hq_w8 ⊢
  clear hw
  clear R1 R2 R3 RB c3
  go_wp2_with fail
  refine (HS4.out b3 _ w8 S3.out).mono ?_
  rintro e w9 ⟨rfl, hF, hk⟩
  have T3 := Lib.hid hF
  have T1 := Lib.hid (S1.out.kp hk (by omega) (by omega))
  have T2 := Lib.hid (S2.out.kp hk (by omega) (by omega))
  have TB := Lib.hid (SB.out.trans (hk.below (by omega) (by omega) (by omega)))
  have hq_w9 := hk.size
  have T3' := Lib.hid (T3.out.congr fun j _ => hF1.out j)
  clear hF hk S1 S2 S3 SB T3 hF1 HS2 HS4
  go_wp2_with (refine wpList_load_mid rfl 68 _ rfl b1 0 rfl (ndc f) d27 T1.out.range0 HU27.out HD27.out (size27 f) ?_)
  refine (HPt.out w9).mono ?_
  rintro e w10 ⟨rfl, hb⟩
  have V1 := Lib.hid (T1.out.keep hb)
  have V2 := Lib.hid (T2.out.below hb T2.out.lt)
  have V3 := Lib.hid (T3'.out.below hb T3'.out.lt)
  have VB := Lib.hid (TB.out.trans (hb.mono (by omega)))
  have hq_w10 := hb.size
  clear hb T1 T2 T3' TB HPt
  go_wp2_with fail
  have hbw : b1 ≤ w.heap.size := Nat.le_of_eq HW.out.symm
  go_loopw [24] (fun i wr => ∃ k : Nat, k ≤ 8 ∧ i = .int .i64 k ∧ Fl wr b3 32 (fun j => if j < 8 + 2 * k then encF f j else 0) ∧ Fl wr b2 32 (fun _ => 0) ∧ Below b1 w wr) (fun i _ => 8 - (Go.RowKit.intOf i).toNat)
  case atStart => exact ⟨0, by omega, rfl, V3.out, V2.out, VB.out⟩
  case round =>
    obtain ⟨k, hk, rfl, hF, hG, hBB⟩ := hrel
    have X3 := Lib.hid hF
    have X2 := Lib.hid hG
    have XB := Lib.hid hBB
    clear hF hG hBB V1 V2 V3 VB
    by_cases hlt : k < 8
    · have hk8 : k = 0 ∨ k = 1 ∨ k = 2 ∨ k = 3 ∨ k = 4 ∨ k = 5 ∨ k = 6 ∨ k = 7 := by omega
      rcases hk8 with rfl | rfl | rfl | rfl | rfl | rfl | rfl | rfl
      · obtain ⟨x, hx⟩ : ∃ x, f 4 = x := ⟨_, rfl⟩
        obtain ⟨hx0, hx1⟩ : 0 ≤ x ∧ x < 65536 := by rw [← hx]; exact HP.out 4 (by decide) (by decide)
        have hI : ∀ W, (Instr.index 231 (.agg (ptc (ptOf f)).toArray) (.int .i64 0)).run Tryz.prog W = .ok (.int .u16 x) W := fun W => by
          rw [← hx]; kernel_rfl
        have HS : Hid (∀ F W, Fl W b3 32 F → Calls Tryz.prog 125 #[.slice (some ⟨b3, 8, none⟩) 2 24, .int .u32 x] W fun e w' => e = .returned (.tuple #[]) ∧ Fl w' b3 32 (upd F 8 2 (dig x)) ∧ Kp W w' b3 b3) := fun F W h => putnum_any b3 8 2 24 32 x hx0 (by omega) (by omega) (by omega) F W h
        have HX := Lib.hid hx
        clear hx
        go_wp2_with fail
        refine (HS.out _ wr X3.out).mono ?_
        rintro e wn ⟨rfl, hF, hk⟩
        have hE := enc_step f 0 (by decide)
        rw [show f (4 + 0) = x from HX.out] at hE
        have Y3 : Hid (Fl wn b3 32 (fun j => if j < 8 + 2 * (0 + 1) then encF f j else 0)) := Lib.hid (hF.congr fun j _ => hE j)
        clear hE
        have Y2 := Lib.hid (X2.out.kp hk (by omega) (by omega))
        have YB := Lib.hid (XB.out.trans (hk.below (by omega) (by omega) (by have := XB.out.size; omega)))
        clear hF hk X3 X2 XB HS hI
        go_wp2_with fail
        go_roundw
        case rel => exact ⟨1, by decide, rfl, Y3.out, Y2.out, YB.out⟩
        case measure => simp [Go.RowKit.intOf]
      · obtain ⟨x, hx⟩ : ∃ x, f 5 = x := ⟨_, rfl⟩
        obtain ⟨hx0, hx1⟩ : 0 ≤ x ∧ x < 65536 := by rw [← hx]; exact HP.out 5 (by decide) (by decide)
        have hI : ∀ W, (Instr.index 231 (.agg (ptc (ptOf f)).toArray) (.int .i64 1)).run Tryz.prog W = .ok (.int .u16 x) W := fun W => by
          rw [← hx]; kernel_rfl
        have HS : Hid (∀ F W, Fl W b3 32 F → Calls Tryz.prog 125 #[.slice (some ⟨b3, 10, none⟩) 2 22, .int .u32 x] W fun e w' => e = .returned (.tuple #[]) ∧ Fl w' b3 32 (upd F 10 2 (dig x)) ∧ Kp W w' b3 b3) := fun F W h => putnum_any b3 10 2 22 32 x hx0 (by omega) (by omega) (by omega) F W h
        have HX := Lib.hid hx
        clear hx
        go_wp2_with fail
        refine (HS.out _ wr X3.out).mono ?_
        rintro e wn ⟨rfl, hF, hk⟩
        have hE := enc_step f 1 (by decide)
        rw [show f (4 + 1) = x from HX.out] at hE
        have Y3 : Hid (Fl wn b3 32 (fun j => if j < 8 + 2 * (1 + 1) then encF f j else 0)) := Lib.hid (hF.congr fun j _ => hE j)
        clear hE
        have Y2 := Lib.hid (X2.out.kp hk (by omega) (by omega))
        have YB := Lib.hid (XB.out.trans (hk.below (by omega) (by omega) (by have := XB.out.size; omega)))
        clear hF hk X3 X2 XB HS hI
        go_wp2_with fail
        go_roundw
        case rel => exact ⟨2, by decide, rfl, Y3.out, Y2.out, YB.out⟩
        case measure => simp [Go.RowKit.intOf]
      · obtain ⟨x, hx⟩ : ∃ x, f 6 = x := ⟨_, rfl⟩
        obtain ⟨hx0, hx1⟩ : 0 ≤ x ∧ x < 65536 := by rw [← hx]; exact HP.out 6 (by decide) (by decide)
        have hI : ∀ W, (Instr.index 231 (.agg (ptc (ptOf f)).toArray) (.int .i64 2)).run Tryz.prog W = .ok (.int .u16 x) W := fun W => by
          rw [← hx]; kernel_rfl
        have HS : Hid (∀ F W, Fl W b3 32 F → Calls Tryz.prog 125 #[.slice (some ⟨b3, 12, none⟩) 2 20, .int .u32 x] W fun e w' => e = .returned (.tuple #[]) ∧ Fl w' b3 32 (upd F 12 2 (dig x)) ∧ Kp W w' b3 b3) := fun F W h => putnum_any b3 12 2 20 32 x hx0 (by omega) (by omega) (by omega) F W h
        have HX := Lib.hid hx
        clear hx
        go_wp2_with fail
        refine (HS.out _ wr X3.out).mono ?_
        rintro e wn ⟨rfl, hF, hk⟩
        have hE := enc_step f 2 (by decide)
        rw [show f (4 + 2) = x from HX.out] at hE
        have Y3 : Hid (Fl wn b3 32 (fun j => if j < 8 + 2 * (2 + 1) then encF f j else 0)) := Lib.hid (hF.congr fun j _ => hE j)
        clear hE
        have Y2 := Lib.hid (X2.out.kp hk (by omega) (by omega))
        have YB := Lib.hid (XB.out.trans (hk.below (by omega) (by omega) (by have := XB.out.size; omega)))
        clear hF hk X3 X2 XB HS hI
        go_wp2_with fail
        go_roundw
        case rel => exact ⟨3, by decide, rfl, Y3.out, Y2.out, YB.out⟩
        case measure => simp [Go.RowKit.intOf]
      · obtain ⟨x, hx⟩ : ∃ x, f 7 = x := ⟨_, rfl⟩
        obtain ⟨hx0, hx1⟩ : 0 ≤ x ∧ x < 65536 := by rw [← hx]; exact HP.out 7 (by decide) (by decide)
        have hI : ∀ W, (Instr.index 231 (.agg (ptc (ptOf f)).toArray) (.int .i64 3)).run Tryz.prog W = .ok (.int .u16 x) W := fun W => by
          rw [← hx]; kernel_rfl
        have HS : Hid (∀ F W, Fl W b3 32 F → Calls Tryz.prog 125 #[.slice (some ⟨b3, 14, none⟩) 2 18, .int .u32 x] W fun e w' => e = .returned (.tuple #[]) ∧ Fl w' b3 32 (upd F 14 2 (dig x)) ∧ Kp W w' b3 b3) := fun F W h => putnum_any b3 14 2 18 32 x hx0 (by omega) (by omega) (by omega) F W h
        have HX := Lib.hid hx
        clear hx
        go_wp2_with fail
        refine (HS.out _ wr X3.out).mono ?_
        rintro e wn ⟨rfl, hF, hk⟩
        have hE := enc_step f 3 (by decide)
        rw [show f (4 + 3) = x from HX.out] at hE
        have Y3 : Hid (Fl wn b3 32 (fun j => if j < 8 + 2 * (3 + 1) then encF f j else 0)) := Lib.hid (hF.congr fun j _ => hE j)
        clear hE
        have Y2 := Lib.hid (X2.out.kp hk (by omega) (by omega))
        have YB := Lib.hid (XB.out.trans (hk.below (by omega) (by omega) (by have := XB.out.size; omega)))
        clear hF hk X3 X2 XB HS hI
        go_wp2_with fail
        go_roundw
        case rel => exact ⟨4, by decide, rfl, Y3.out, Y2.out, YB.out⟩
        case measure => simp [Go.RowKit.intOf]
      · obtain ⟨x, hx⟩ : ∃ x, f 8 = x := ⟨_, rfl⟩
        obtain ⟨hx0, hx1⟩ : 0 ≤ x ∧ x < 65536 := by rw [← hx]; exact HP.out 8 (by decide) (by decide)
        have hI : ∀ W, (Instr.index 231 (.agg (ptc (ptOf f)).toArray) (.int .i64 4)).run Tryz.prog W = .ok (.int .u16 x) W := fun W => by
          rw [← hx]; kernel_rfl
        have HS : Hid (∀ F W, Fl W b3 32 F → Calls Tryz.prog 125 #[.slice (some ⟨b3, 16, none⟩) 2 16, .int .u32 x] W fun e w' => e = .returned (.tuple #[]) ∧ Fl w' b3 32 (upd F 16 2 (dig x)) ∧ Kp W w' b3 b3) := fun F W h => putnum_any b3 16 2 16 32 x hx0 (by omega) (by omega) (by omega) F W h
        have HX := Lib.hid hx
        clear hx
        go_wp2_with fail
        refine (HS.out _ wr X3.out).mono ?_
        rintro e wn ⟨rfl, hF, hk⟩
        have hE := enc_step f 4 (by decide)
        rw [show f (4 + 4) = x from HX.out] at hE
        have Y3 : Hid (Fl wn b3 32 (fun j => if j < 8 + 2 * (4 + 1) then encF f j else 0)) := Lib.hid (hF.congr fun j _ => hE j)
        clear hE
        have Y2 := Lib.hid (X2.out.kp hk (by omega) (by omega))
        have YB := Lib.hid (XB.out.trans (hk.below (by omega) (by omega) (by have := XB.out.size; omega)))
        clear hF hk X3 X2 XB HS hI
        go_wp2_with fail
        go_roundw
        case rel => exact ⟨5, by decide, rfl, Y3.out, Y2.out, YB.out⟩
        case measure => simp [Go.RowKit.intOf]
      · obtain ⟨x, hx⟩ : ∃ x, f 9 = x := ⟨_, rfl⟩
        obtain ⟨hx0, hx1⟩ : 0 ≤ x ∧ x < 65536 := by rw [← hx]; exact HP.out 9 (by decide) (by decide)
        have hI : ∀ W, (Instr.index 231 (.agg (ptc (ptOf f)).toArray) (.int .i64 5)).run Tryz.prog W = .ok (.int .u16 x) W := fun W => by
          rw [← hx]; kernel_rfl
        have HS : Hid (∀ F W, Fl W b3 32 F → Calls Tryz.prog 125 #[.slice (some ⟨b3, 18, none⟩) 2 14, .int .u32 x] W fun e w' => e = .returned (.tuple #[]) ∧ Fl w' b3 32 (upd F 18 2 (dig x)) ∧ Kp W w' b3 b3) := fun F W h => putnum_any b3 18 2 14 32 x hx0 (by omega) (by omega) (by omega) F W h
        have HX := Lib.hid hx
        clear hx
        go_wp2_with fail
        refine (HS.out _ wr X3.out).mono ?_
        rintro e wn ⟨rfl, hF, hk⟩
        have hE := enc_step f 5 (by decide)
        rw [show f (4 + 5) = x from HX.out] at hE
        have Y3 : Hid (Fl wn b3 32 (fun j => if j < 8 + 2 * (5 + 1) then encF f j else 0)) := Lib.hid (hF.congr fun j _ => hE j)
        clear hE
        have Y2 := Lib.hid (X2.out.kp hk (by omega) (by omega))
        have YB := Lib.hid (XB.out.trans (hk.below (by omega) (by omega) (by have := XB.out.size; omega)))
        clear hF hk X3 X2 XB HS hI
        go_wp2_with fail
        go_roundw
        case rel => exact ⟨6, by decide, rfl, Y3.out, Y2.out, YB.out⟩
        case measure => simp [Go.RowKit.intOf]
      · obtain ⟨x, hx⟩ : ∃ x, f 10 = x := ⟨_, rfl⟩
        obtain ⟨hx0, hx1⟩ : 0 ≤ x ∧ x < 65536 := by rw [← hx]; exact HP.out 10 (by decide) (by decide)
        have hI : ∀ W, (Instr.index 231 (.agg (ptc (ptOf f)).toArray) (.int .i64 6)).run Tryz.prog W = .ok (.int .u16 x) W := fun W => by
          rw [← hx]; kernel_rfl
        have HS : Hid (∀ F W, Fl W b3 32 F → Calls Tryz.prog 125 #[.slice (some ⟨b3, 20, none⟩) 2 12, .int .u32 x] W fun e w' => e = .returned (.tuple #[]) ∧ Fl w' b3 32 (upd F 20 2 (dig x)) ∧ Kp W w' b3 b3) := fun F W h => putnum_any b3 20 2 12 32 x hx0 (by omega) (by omega) (by omega) F W h
        have HX := Lib.hid hx
        clear hx
        go_wp2_with fail
        refine (HS.out _ wr X3.out).mono ?_
        rintro e wn ⟨rfl, hF, hk⟩
        have hE := enc_step f 6 (by decide)
        rw [show f (4 + 6) = x from HX.out] at hE
        have Y3 : Hid (Fl wn b3 32 (fun j => if j < 8 + 2 * (6 + 1) then encF f j else 0)) := Lib.hid (hF.congr fun j _ => hE j)
        clear hE
        have Y2 := Lib.hid (X2.out.kp hk (by omega) (by omega))
        have YB := Lib.hid (XB.out.trans (hk.below (by omega) (by omega) (by have := XB.out.size; omega)))
        clear hF hk X3 X2 XB HS hI
        go_wp2_with fail
        go_roundw
        case rel => exact ⟨7, by decide, rfl, Y3.out, Y2.out, YB.out⟩
        case measure => simp [Go.RowKit.intOf]
      · obtain ⟨x, hx⟩ : ∃ x, f 11 = x := ⟨_, rfl⟩
        obtain ⟨hx0, hx1⟩ : 0 ≤ x ∧ x < 65536 := by rw [← hx]; exact HP.out 11 (by decide) (by decide)
        have hI : ∀ W, (Instr.index 231 (.agg (ptc (ptOf f)).toArray) (.int .i64 7)).run Tryz.prog W = .ok (.int .u16 x) W := fun W => by
          rw [← hx]; kernel_rfl
        have HS : Hid (∀ F W, Fl W b3 32 F → Calls Tryz.prog 125 #[.slice (some ⟨b3, 22, none⟩) 2 10, .int .u32 x] W fun e w' => e = .returned (.tuple #[]) ∧ Fl w' b3 32 (upd F 22 2 (dig x)) ∧ Kp W w' b3 b3) := fun F W h => putnum_any b3 22 2 10 32 x hx0 (by omega) (by omega) (by omega) F W h
        have HX := Lib.hid hx
        clear hx
        go_wp2_with fail
        refine (HS.out _ wr X3.out).mono ?_
        rintro e wn ⟨rfl, hF, hk⟩
        have hE := enc_step f 7 (by decide)
        rw [show f (4 + 7) = x from HX.out] at hE
        have Y3 : Hid (Fl wn b3 32 (fun j => if j < 8 + 2 * (7 + 1) then encF f j else 0)) := Lib.hid (hF.congr fun j _ => hE j)
        clear hE
        have Y2 := Lib.hid (X2.out.kp hk (by omega) (by omega))
        have YB := Lib.hid (XB.out.trans (hk.below (by omega) (by omega) (by have := XB.out.size; omega)))
        clear hF hk X3 X2 XB HS hI
        go_wp2_with fail
        go_roundw
        case rel => exact ⟨8, by decide, rfl, Y3.out, Y2.out, YB.out⟩
        case measure => simp [Go.RowKit.intOf]
    · obtain rfl : k = 8 := by omega
      have Z3 := Lib.hid (X3.out.congr fun j _ => enc_last f j)
      have HR := Lib.hid Z3.out.range0
      clear X3
      go_wp2_with (first | (refine wpList_load_mid rfl 203 _ rfl b3 0 rfl (byts 32 (encF f)) (.array 32 5) HR.out Tryz.arr28 rfl (size28 _) ?_) | (refine wpList_store_mid rfl 203 _ _ rfl b2 0 (byts 32 (encF f)).toArray rfl rfl (by rw [byts_size]; exact X2.out.there 0 32 (Nat.le_refl _)) (size28' _) (byts_all _ _) ?_))
      exact bodyPost_ret_by (results_mid rfl _ _ b2 _ (.array 32 5) rfl (X2.out.stored (encF f)).range0 Tryz.arr28 rfl (size28 _)) rfl ⟨rfl, by rw [HW.out]; exact below_setCells XB.out b2 0 (by omega) _⟩
end Go.Proofs.YtnfadmifdncjoaaGreat
