import Derived.Test.YtfackmiojbdjhaaDoorC13
import Derived.Deep.MidRow
import Derived.Deep.RegionHeld
import Derived.Deep.LoopGhost
import Derived.Deep.CutBlock
import Derived.Deep.DeepCutAuto
import Derived.Laws.StructEq
import Derived.ChangeKeysEq
import Derived.DeepKeys
import Derived.StillTailTactics
import Derived.Laws.BitsAllLaws
import Derived.Test.YtfackmiojbdjhaaDoorC11
/- Blocks of cells; the answer's Geos. -/
/- Sums of groups: the code's and the answer's. -/
/- Sums of groups: the answer's; groups compared. -/
/- What a configuration that is right has: names and labels told apart, marks; structs that are the same. -/

namespace Go.Proofs.YtfackmiojbdjhaaDoor
set_option linter.unusedSimpArgs false
set_option linter.unusedVariables false
open Go.RowKit Go.Maps

/-- of the world nothing has turned but blocks a and b, and what was made -/
structure Kp (w w' : World) (a b : Nat) : Prop where
  os : w'.os = w.os
  tape : w'.tape = w.tape
  output : w'.output = w.output
  size : w.heap.size ≤ w'.heap.size
  block : ∀ k, k < w.heap.size → k ≠ a → k ≠ b → w'.heap[k]? = w.heap[k]?
theorem Kp.refl (w : World) (a b : Nat) : Kp w w a b := ⟨rfl, rfl, rfl, Nat.le_refl _, fun _ _ _ _ => rfl⟩
theorem Kp.trans {w1 w2 w3 : World} {a b : Nat} (h : Kp w1 w2 a b) (k : Kp w2 w3 a b) : Kp w1 w3 a b :=
  ⟨k.os.trans h.os, k.tape.trans h.tape, k.output.trans h.output, Nat.le_trans h.size k.size, fun i hi h1 h2 => (k.block i (Nat.lt_of_lt_of_le hi h.size) h1 h2).trans (h.block i hi h1 h2)⟩
theorem Kp.of_below {w w' : World} (h : Below w.heap.size w w') (a b : Nat) : Kp w w' a b := ⟨h.os, h.tape, h.output, h.size, fun k hk _ _ => h.block k hk⟩
theorem Kp.below {w w' : World} {a b B : Nat} (h : Kp w w' a b) (ha : B ≤ a) (hb : B ≤ b) (hB : B ≤ w.heap.size) : Below B w w' :=
  ⟨h.os, h.tape, h.output, h.size, fun k hk => h.block k (by omega) (by omega) (by omega)⟩
theorem Kp.alloc {w w' : World} {a b : Nat} (h : Kp w w' a b) (o : Obj) : Kp w (w'.alloc o) a b := h.trans (Kp.of_below ((Below.refl _ _).alloc (Nat.le_refl _) o) a b)
theorem Kp.drew {w w' : World} {a b : Nat} (h : Kp w w' a b) : Kp w w'.drew a b := h.trans (Kp.of_below (Below.refl _ _).drew a b)
theorem Kp.setCell {w w' : World} {a b : Nat} (h : Kp w w' a b) (p : Addr) (hp : p.block = a ∨ p.block = b) (v : Value) : Kp w (w'.setCell p v) a b :=
  h.trans ⟨rfl, rfl, rfl, by simp [World.setCell], fun k _ h1 h2 => Below.heap_setCell _ _ _ _ (by omega)⟩
/-- a store into a block that was made since -/
theorem Kp.setNew {w w' : World} {a b : Nat} (h : Kp w w' a b) (p : Addr) (hp : w.heap.size ≤ p.block) (v : Value) : Kp w (w'.setCell p v) a b :=
  ⟨h.os, h.tape, h.output, Nat.le_trans h.size (by simp [World.setCell]), fun k hk h1 h2 => (Below.heap_setCell _ _ _ _ (by omega)).trans (h.block k hk h1 h2)⟩
theorem heap_setCells (b : Nat) : ∀ (vs : List Value) (o : Nat) (w : World) (k : Nat), k ≠ b → (w.setCells b o vs).heap[k]? = w.heap[k]?
  | [], _, _, _, _ => rfl
  | v :: r, o, w, k, h => by rw [World.setCells, heap_setCells b r (o + 1) _ k h, Below.heap_setCell _ _ _ _ (by exact h)]
theorem setCells_rest (b : Nat) : ∀ (vs : List Value) (o : Nat) (w : World), (w.setCells b o vs).os = w.os ∧ (w.setCells b o vs).tape = w.tape ∧ (w.setCells b o vs).output = w.output ∧ (w.setCells b o vs).heap.size = w.heap.size
  | [], _, _ => ⟨rfl, rfl, rfl, rfl⟩
  | v :: r, o, w => by
    obtain ⟨h1, h2, h3, h4⟩ := setCells_rest b r (o + 1) (w.setCell ⟨b, o, none⟩ v)
    exact ⟨h1, h2, h3, h4.trans (by simp [World.setCell])⟩
theorem size_setCells (w : World) (b o : Nat) (vs : List Value) : (w.setCells b o vs).heap.size = w.heap.size := (setCells_rest b vs o w).2.2.2
theorem Kp.setCells {w w' : World} {a b : Nat} (h : Kp w w' a b) (g o : Nat) (hg : g = a ∨ g = b) (vs : List Value) : Kp w (w'.setCells g o vs) a b := by
  obtain ⟨h1, h2, h3, h4⟩ := setCells_rest g vs o w'
  exact h.trans ⟨h1, h2, h3, by omega, fun k _ h5 h6 => heap_setCells g vs o w' k (by omega)⟩
theorem below_setCells {B : Nat} {w w' : World} (h : Below B w w') (g o : Nat) (hg : B ≤ g) (vs : List Value) : Below B w (w'.setCells g o vs) := by
  obtain ⟨h1, h2, h3, h4⟩ := setCells_rest g vs o w'
  exact h.trans ⟨h1, h2, h3, by omega, fun k h5 => heap_setCells g vs o w' k (by omega)⟩
theorem Kp.cell {w w' : World} {a b : Nat} (h : Kp w w' a b) {p : Addr} (hp : p.block < w.heap.size) (h1 : p.block ≠ a) (h2 : p.block ≠ b) : w'.cell? p = w.cell? p := World.cell?_of_block (w := w) (h.block p.block hp h1 h2)
theorem Kp.frozen {w w' : World} {a b : Nat} (h : Kp w w' a b) {p : Addr} (hp : p.block < w.heap.size) (h1 : p.block ≠ a) (h2 : p.block ≠ b) : w'.frozen? p = w.frozen? p := World.frozen?_of_block (w := w) (h.block p.block hp h1 h2)

/-- block g holds these cells, which may be written -/
structure Vl (w : World) (g : Nat) (cs : List Value) : Prop where
  lt : g < w.heap.size
  c : ∀ j v, cs[j]? = some v → w.cell? ⟨g, j, none⟩ = some v
  z : ∀ j, j < cs.length → w.frozen? ⟨g, j, none⟩ = false
theorem Vl.below {w w' : World} {B g : Nat} {cs : List Value} (h : Vl w g cs) (hb : Below B w w') (hg : g < B) : Vl w' g cs :=
  ⟨Nat.lt_of_lt_of_le h.lt hb.size, fun j v hj => (hb.cell (p := ⟨g, j, none⟩) hg).trans (h.c j v hj), fun j hj => (hb.frozen (p := ⟨g, j, none⟩) hg).trans (h.z j hj)⟩
theorem Vl.keep {w w' : World} {g : Nat} {cs : List Value} (h : Vl w g cs) (hb : Below w.heap.size w w') : Vl w' g cs := h.below hb h.lt
theorem Vl.kp {w w' : World} {a b g : Nat} {cs : List Value} (h : Vl w g cs) (hb : Kp w w' a b) (h1 : g ≠ a) (h2 : g ≠ b) : Vl w' g cs :=
  ⟨Nat.lt_of_lt_of_le h.lt hb.size, fun j v hj => (hb.cell (p := ⟨g, j, none⟩) h.lt h1 h2).trans (h.c j v hj), fun j hj => (hb.frozen (p := ⟨g, j, none⟩) h.lt h1 h2).trans (h.z j hj)⟩
theorem Vl.range0 {w : World} {g : Nat} {cs : List Value} (h : Vl w g cs) : w.rangeAt g 0 cs := fun j v hj => by rw [Nat.zero_add]; exact h.c j v hj
theorem Vl.there0 {w : World} {g : Nat} {cs : List Value} (h : Vl w g cs) (n : Nat) (hn : n = cs.length) : w.there g 0 n := fun j hj => by
  rw [Nat.zero_add]
  refine ⟨?_, h.z j (by omega)⟩
  have hj' : j < cs.length := by omega
  rw [h.c j _ (List.getElem?_eq_getElem hj')]
  rfl
theorem Vl.new (w : World) (cs : List Value) (t : TypeId) : Vl (w.alloc (.cells cs.toArray t)) w.heap.size cs := by
  refine ⟨by simp, fun j v hj => ?_, fun j _ => by simp⟩
  rw [World.cell?_alloc_at _ _ _ _ rfl]
  simpa using hj
theorem Vl.set {w : World} {g : Nat} {cs : List Value} (h : Vl w g cs) (i : Nat) (hi : i < cs.length) (x : Value) : Vl (w.setCell ⟨g, i, none⟩ x) g (cs.set i x) := by
  refine ⟨by simpa [World.setCell] using h.lt, fun j v hj => ?_, fun j hj => by simpa using h.z j (by simpa using hj)⟩
  by_cases e : j = i
  · subst e
    rw [List.getElem?_set_self hi] at hj
    obtain rfl := Option.some.inj hj
    obtain ⟨u, hu⟩ : ∃ u, cs[j]? = some u := ⟨_, List.getElem?_eq_getElem hi⟩
    exact World.cell?_setCell_same _ _ _ (h.c j u hu)
  · rw [List.getElem?_set_ne (by omega)] at hj
    rw [World.cell?_setCell_other _ _ _ _ (by simp [Ne.symm e])]
    exact h.c j v hj
theorem Vl.stored {w : World} {g : Nat} {cs : List Value} (h : Vl w g cs) (ds : List Value) (hl : ds.length = cs.length) : Vl (w.setCells g 0 ds) g ds := by
  refine ⟨by rw [size_setCells]; exact h.lt, fun j v hj => ?_, fun j hj => by rw [World.frozen?_setCells]; exact h.z j (by omega)⟩
  have := World.rangeAt_setCells_same w g 0 ds (h.there0 ds.length hl) j v hj
  rwa [Nat.zero_add] at this

theorem wpList_box_list {P : Program} {ops : Array Oper} {rest : List Oper} {op : Oper} {a : Act} {w : World} {Q : Exit → Act → World → Prop} (hgd : op.guard = none) (ty : TypeId) (x : Operand) (ho : op.op = .box ty x) (cs : List Value) (hx : a.eval x = .agg cs.toArray)
    (h : ∀ w', Hid (Vl w' w.heap.size cs) → Below w.heap.size w w' → w'.heap.size = w.heap.size + 1 → wpList P ops Q rest (a.put op.dst (.pointer (some ⟨w.heap.size, 0, none⟩))) w') : wpList P ops Q (op :: rest) a w := by
  refine wpList_plain hgd fun K hK => ?_
  have hr : (Instr.box ty (.agg cs.toArray)).run P w = .ok (.pointer (some ⟨w.heap.size, 0, none⟩)) (w.alloc (.cells cs.toArray ty)) := by
    simp [Instr.box, newVar, newRow, Value.cells]
  unfold Oper.wp
  simp [execOp, ho, hx, hr, Result.andThen]
  exact hK _ _ (h _ (Vl.new w cs ty) ((Below.refl _ _).alloc (Nat.le_refl _) _) (by simp))
theorem wpList_alloc_list {P : Program} {ops : Array Oper} {rest : List Oper} {op : Oper} {a : Act} {w : World} {Q : Exit → Act → World → Prop} (hgd : op.guard = none) (ty : TypeId) (ho : op.op = .alloc ty) (cs : List Value)
    (hz : (P.info? ty).map (fun i => i.zero) = some (some (.agg cs.toArray)))
    (h : ∀ w', Hid (Vl w' w.heap.size cs) → Below w.heap.size w w' → w'.heap.size = w.heap.size + 1 → wpList P ops Q rest (a.put op.dst (.pointer (some ⟨w.heap.size, 0, none⟩))) w') : wpList P ops Q (op :: rest) a w := by
  refine wpList_plain hgd fun K hK => ?_
  have hr : (Instr.alloc ty true (.tuple #[])).run P w = .ok (.pointer (some ⟨w.heap.size, 0, none⟩)) (w.alloc (.cells cs.toArray ty)) := by
    cases hq : P.info? ty with
    | none => simp [hq] at hz
    | some i =>
      simp [hq] at hz
      simp [Instr.alloc, zeroValue, typeInfo, hq, hz, newVar, newRow, Value.cells]
  unfold Oper.wp
  simp [execOp, ho, hr, Result.andThen]
  exact hK _ _ (h _ (Vl.new w cs ty) ((Below.refl _ _).alloc (Nat.le_refl _) _) (by simp))

/-- an operation that yields, in a list: guarded ones too -/
theorem wpList_yields {P : Program} {ops : Array Oper} {rest : List Oper} {op : Oper} {a : Act} {w : World} {Q : Exit → Act → World → Prop} (v : Value) (hy : YieldsIf P ops (fun W => W = w) op v a) (h : wpList P ops Q rest (a.put op.dst v) w) : wpList P ops Q (op :: rest) a w := by
  rcases hy with ⟨hw, hr⟩ | ⟨hw, rfl⟩
  · refine wpList_step fun K hK => ?_
    rw [if_pos hw]
    unfold Oper.wp
    rw [hr w rfl]
    exact hK _ _ h
  · exact wpList_skip hw h

theorem yields_bld0 {P : Program} {ops : Array Oper} {S : World → Prop} {op : Oper} {a : Act} (hw : Region.wanted op (yielded ops a.tmps) = true) (ty : TypeId) (ho : op.op = .build ty #[]) (v : Value)
    (hr : ∀ w, (Instr.build ty #[]).run P w = .ok v w) : YieldsIf P ops S op v a :=
  .inl ⟨hw, fun w _ => by
    have hr := hr w
    unfold execOp
    simp [ho, hr, Result.andThen]⟩
theorem yields_eql {P : Program} {ops : Array Oper} {S : World → Prop} {op : Oper} {a : Act} (hw : Region.wanted op (yielded ops a.tmps) = true) (ty ty' : TypeId) (x y : Operand) (ho : op.op = .binOp .eql ty x y ty') (xs ys : Array Value) (hx : a.eval x = .agg xs) (hy : a.eval y = .agg ys) (b : Bool)
    (hg : P.eqGuardType P.depth ty = false) (hr : ∀ w, S w → (Op.equalIn 10000 ty (.agg xs) (.agg ys)).run P w = .ok b w) : YieldsIf P ops S op (.bool b) a :=
  .inl ⟨hw, fun w hS => by
    have hr := hr w hS
    have hgd := run_eqGuard_agg (P := P) w .eql ty x y xs ys hg
    unfold execOp
    simp [ho, hx, hy, hgd, run_eql_struct, hr, Result.andThen]⟩
theorem yields_neq {P : Program} {ops : Array Oper} {S : World → Prop} {op : Oper} {a : Act} (hw : Region.wanted op (yielded ops a.tmps) = true) (ty ty' : TypeId) (x y : Operand) (ho : op.op = .binOp .neq ty x y ty') (xs ys : Array Value) (hx : a.eval x = .agg xs) (hy : a.eval y = .agg ys) (b : Bool)
    (hg : P.eqGuardType P.depth ty = false) (hr : ∀ w, S w → (Op.equalIn 10000 ty (.agg xs) (.agg ys)).run P w = .ok b w) : YieldsIf P ops S op (.bool (!b)) a :=
  .inl ⟨hw, fun w hS => by
    have hr := hr w hS
    have hgd := run_eqGuard_agg (P := P) w .neq ty x y xs ys hg
    unfold execOp
    simp [ho, hx, hy, hgd, run_neq_struct, hr, Result.andThen]⟩
theorem step_alloc_list {P : Program} {ops : Array Oper} {o : Oper} {a : Act} {w : World} {K : Act → World → Prop} {Q : Exit → Act → World → Prop} {E : Prop} (hgd : o.guard = none) (ty : TypeId) (cs : List Value) (ho : o.op = .alloc ty)
    (hz : (P.info? ty).map (fun i => i.zero) = some (some (.agg cs.toArray)))
    (h : ∀ w', Hid (Vl w' w.heap.size cs) → Below w.heap.size w w' → w'.heap.size = w.heap.size + 1 → K (a.put o.dst (.pointer (some ⟨w.heap.size, 0, none⟩))) w') : if Region.wanted o (yielded ops a.tmps) = true then Oper.wp P o a w K Q else E := by
  have hw : Region.wanted o (yielded ops a.tmps) = true := by simp [Region.wanted, hgd]
  rw [if_pos hw]
  have hr : (Instr.alloc ty true (.tuple #[])).run P w = .ok (.pointer (some ⟨w.heap.size, 0, none⟩)) (w.alloc (.cells cs.toArray ty)) := by
    cases hq : P.info? ty with
    | none => simp [hq] at hz
    | some i =>
      simp [hq] at hz
      simp [Instr.alloc, zeroValue, typeInfo, hq, hz, newVar, newRow, Value.cells]
  unfold Oper.wp
  simp [execOp, ho, hr, Result.andThen]
  exact h _ (Vl.new w cs ty) ((Below.refl _ _).alloc (Nat.le_refl _) _) (by simp)
theorem wpList_store_list {P : Program} {ops : Array Oper} {rest : List Oper} {op : Oper} {a : Act} {w : World} {Q : Exit → Act → World → Prop} (hgd : op.guard = none) (ty : TypeId) (x y : Operand) (ho : op.op = .store ty x y) (g : Nat) (cs ds : List Value)
    (hx : a.eval x = .pointer (some ⟨g, 0, none⟩)) (hy : a.eval y = .agg ds.toArray) (hV : Vl w g cs) (hl : ds.length = cs.length) (hi : (P.info? ty).map (·.size) = some ds.length) (h1 : ∀ v ∈ ds, v.oneCell' = true)
    (h : ∀ w', Hid (Vl w' g ds) → Hid (Kp w w' g g) → wpList P ops Q rest (a.put op.dst undef) w') : wpList P ops Q (op :: rest) a w := by
  refine wpList_store_mid hgd ty x y ho g 0 ds.toArray hx hy (hV.there0 _ (by simp [hl])) (by simpa using hi) (all_oneCell_toArray h1) ?_
  exact h _ (hV.stored ds hl) ((Kp.refl w g g).setCells g 0 (.inl rfl) _)
theorem step_store_mid {P : Program} {ops : Array Oper} {o : Oper} {a : Act} {w : World} {K : Act → World → Prop} {Q : Exit → Act → World → Prop} {E : Prop} (hgd : o.guard = none) (ty : TypeId) (x y : Operand) (ho : o.op = .store ty x y)
    (b off : Nat) (cells : Array Value) (hx : a.eval x = .pointer (some ⟨b, off, none⟩)) (hy : a.eval y = .agg cells)
    (ht : w.there b off cells.size) (hi : (P.info? ty).map (·.size) = some cells.size) (h1 : cells.all (·.oneCell') = true)
    (h : K (a.put o.dst undef) (w.setCells b off cells.toList)) : if Region.wanted o (yielded ops a.tmps) = true then Oper.wp P o a w K Q else E := by
  have hw : Region.wanted o (yielded ops a.tmps) = true := by simp [Region.wanted, hgd]
  rw [if_pos hw]
  exact wp_store_mid ty x y ho b off cells hx hy ht hi h1 h
theorem ownsRow_keep {w w' : World} {base : Nat} {e : TypeId} {size n : Nat} {v : Value} {xs : List Value} (h : w.ownsRow base e size v n xs) (hk : ∀ k, v.ownBlock = some k → w'.heap[k]? = w.heap[k]?) : w'.ownsRow base e size v n xs := by
  obtain ⟨hl, ⟨hv, hn⟩ | ⟨g, cap, cur, hv, hg, hh, r⟩⟩ := h
  · exact ⟨hl, .inl ⟨hv, hn⟩⟩
  · refine ⟨hl, .inr ⟨g, cap, cur, hv, hg, ?_, r⟩⟩
    rw [hk g (by rw [hv]; simp [Value.ownBlock])]
    exact hh
theorem yields_bld3 {P : Program} {ops : Array Oper} {S : World → Prop} {op : Oper} {a : Act} (hw : Region.wanted op (yielded ops a.tmps) = true) (ty : TypeId) (i0 i1 i2 : Nat) (x0 x1 x2 : Operand) (ho : op.op = .build ty #[(i0, x0), (i1, x1), (i2, x2)]) (v0 v1 v2 : Value) (h0 : a.eval x0 = v0) (h1 : a.eval x1 = v1) (h2 : a.eval x2 = v2) (v : Value)
    (hr : ∀ w, (Instr.build ty #[(i0, v0), (i1, v1), (i2, v2)]).run P w = .ok v w) : YieldsIf P ops S op v a :=
  .inl ⟨hw, fun w _ => by
    have hr := hr w
    unfold execOp
    simp [ho, h0, h1, h2, hr, Result.andThen]⟩
theorem geo_one (g : Ge) : ∀ v ∈ g.cells, v.oneCell' = true := by
  intro v hv
  simp [Ge.cells] at hv
  rcases hv with rfl | rfl | rfl | rfl | rfl | rfl <;> rfl
def gz (a b c d e f : Int) : List Value := [.int .i64 a, .int .i64 b, .int .i64 c, .int .i64 d, .int .i64 e, .int .i64 f]
theorem gz_one (a b c d e f : Int) : ∀ v ∈ gz a b c d e f, v.oneCell' = true := by
  intro v hv
  simp [gz] at hv
  rcases hv with rfl | rfl | rfl | rfl | rfl | rfl <;> rfl
theorem Tryd.zero95 : (Tryd.prog.info? 95).map (fun i => i.zero) = some (some (.agg (gz 0 0 0 0 0 0).toArray)) := by kernel_rfl
theorem Tryd.isize95 : (Tryd.prog.info? 95).map (·.size) = some 6 := by kernel_rfl
theorem build95 (a b c : Int) (w : World) : (Instr.build 95 #[(0, .int .i64 a), (4, .int .i64 b), (5, .int .i64 c)]).run Tryd.prog w = .ok (.agg (gz a 0 0 0 b c).toArray) w := by kernel_rfl
theorem Tryd.info95 : (Tryd.prog.info? 95).map (fun i => (i.zero, i.size, i.bytes)) = some (some (.agg #[.int .i64 0, .int .i64 0, .int .i64 0, .int .i64 0, .int .i64 0, .int .i64 0]), 6, 48) := by kernel_rfl
theorem Tryd.desc95 : ∃ d, Tryd.prog.underlying 95 = some d ∧ d.isRow = true := ⟨_, Tryd.underlying95, rfl⟩

set_option maxHeartbeats 8000000 in
set_option maxRecDepth 100000 in
theorem geos_some (b off cap : Nat) (rs : List Rg) (w : World) (hbl : b < w.heap.size) (hm : rs.length ≤ 64) (hs : ∀ r ∈ rs, Small r) (hr : Row9 w b off rs) :
    Calls Tryd.prog 31 #[.slice (some ⟨b, off, none⟩) rs.length cap] w fun e w' => ∃ v, e = .returned (.tuple #[v, .int .i64 (layF rs).2]) ∧ w'.ownsRow w.heap.size 95 6 v rs.length (flatG (layF rs).1) ∧ Below w.heap.size w w' := by
  obtain ⟨i0, hi, hz0, hz1, hz2⟩ := info_parts Tryd.info95
  obtain ⟨d95, hu95, hd95⟩ := Tryd.desc95
  have HU95 := Lib.hid hu95
  have HD95 := Lib.hid hd95
  have HR := Lib.hid hr
  have HS := Lib.hid hs
  have hlen0 : (0 : Int) ≤ rs.length := by omega
  have hlen1 : (rs.length : Int) ≤ 64 := by omega
  clear hr hs hu95 hd95
  go_enter Tryd.func31, Tryd.ntmps31
  go_wp2
  go_loopw [4, 5, 6, 7] (fun bs v i _ wr => ∃ k : Nat, k ≤ rs.length ∧ i = .int .i64 k ∧ bs = .int .i64 (layF (rs.take k)).2 ∧ wr.ownsRow w.heap.size 95 6 v k (flatG (layF (rs.take k)).1) ∧ Below w.heap.size w wr) (fun _ _ i _ _ => rs.length - (intOf i).toNat)
  case atStart => exact ⟨0, by omega, rfl, by simp [layF], by simpa [layF, flatG] using World.ownsRow_nil _ _ _ _, Below.refl _ _⟩
  case round =>
    obtain ⟨k, hk, rfl, rfl, hown, hb⟩ := hrel
    have HW := Lib.hid hown
    clear hown
    have hwz := hb.size
    have hk0 : (0 : Int) ≤ k := by omega
    have hk64 : (k : Int) ≤ 64 := by omega
    obtain ⟨wX, rfl⟩ : ∃ x, x = wr := ⟨wr, rfl⟩
    by_cases hlt : k < rs.length
    · have hlti : (k : Int) < rs.length := by omega
      have HL := Lib.hid (layF_take rs k hlt)
      have hb' := hb
      have e3 := (hb.cell (p := ⟨b, off + k * 9 + 3, none⟩) hbl).trans (HR.out.k3 k hlt)
      have e4 := (hb.cell (p := ⟨b, off + k * 9 + 4, none⟩) hbl).trans (HR.out.k4 k hlt)
      obtain ⟨r1, r2⟩ := layF_range rs HS.out k hk
      obtain ⟨s1, s2, s3, s4⟩ := HS.out rs[k] (List.getElem_mem _)
      generalize rs[k] = r at *
      obtain ⟨nm, lv, cs, bl, nd, fr, pr, op, cl⟩ := r
      obtain ⟨bs, hbs⟩ : ∃ x, (layF (rs.take k)).2 = x := ⟨_, rfl⟩
      rw [hbs] at r1 r2 ⊢
      have HBS := Lib.hid hbs
      clear hbs
      simp only at s1 s2 s3 s4 e3 e4
      have hB := Lib.hid hb
      have hbX : b < wX.heap.size := Nat.lt_of_lt_of_le hbl hb.size
      clear hb hb'
      have hr2 : bs ≤ 40000 := by omega
      have hX : ((bl + 7) / 8 + 63) / 64 = 1 := by omega
      obtain ⟨Y, hY⟩ : ∃ x : Nat, (nd * 32 + 63) / 64 = x := ⟨((nd * 32 + 63) / 64).toNat, by omega⟩
      have hY0 : Y ≤ 70 := by omega
      have hYm : ∀ j : Nat, j < Y ↔ (j : Int) * 64 < nd * 32 := by intro j; omega
      have HYm := Lib.hid hYm
      have HG : Hid (geoAt bs ⟨nm, lv, cs, bl, nd, fr, pr, op, cl⟩ = ⟨bs, 1, Y, bs + 1 + Y, bl, nd⟩) := by
        show geoAt _ _ = _
        simp only [geoAt, hX, hY]
      clear hX hY hYm r2
      go_upto_region 6 with fail
      refine wp_region_held (S := fun W => W.cell? ⟨b, off + k * 9 + 3, none⟩ = some (.int .i64 bl) ∧ W.cell? ⟨b, off + k * 9 + 4, none⟩ = some (.int .i64 nd)) (by kernel_rfl) ?_
      change wpAnyH _ _ _ _ _ _ _ _ (World.drew wX)
      have hS0 : (fun W : World => W.cell? ⟨b, off + k * 9 + 3, none⟩ = some (.int .i64 bl) ∧ W.cell? ⟨b, off + k * 9 + 4, none⟩ = some (.int .i64 nd)) (World.drew wX) := ⟨e3, e4⟩
      refine wpAnyH_take (i := 0) (v := ?_) rfl (by kernel_rfl) (by kernel_rfl) (by kernel_rfl) (fun _ _ _ h => h) (Or.inl ⟨by rfl, ?_⟩) hS0 ?_
      rotate_left 1
      · intro W hW
        go_simp
        try with_reducible rfl
      simp only [Act.put, List.getElem_toArray, List.getElem_cons_zero, List.getElem_cons_succ, List.setIfInBounds_toArray, List.set_cons_zero, List.set_cons_succ]
      refine wpAnyH_take (i := 1) (v := ?_) rfl (by kernel_rfl) (by kernel_rfl) (by kernel_rfl) (fun _ _ _ h => h) (Or.inl ⟨by rfl, ?_⟩) hS0 ?_
      rotate_left 1
      · intro W hW
        go_simp
        try with_reducible rfl
      simp only [Act.put, List.getElem_toArray, List.getElem_cons_zero, List.getElem_cons_succ, List.setIfInBounds_toArray, List.set_cons_zero, List.set_cons_succ]
      refine wpAnyH_take (i := 2) (v := ?_) rfl (by kernel_rfl) (by kernel_rfl) (by kernel_rfl) (fun _ _ _ h => h) (Or.inl ⟨by rfl, ?_⟩) hS0 ?_
      rotate_left 1
      · intro W hW
        go_simp
        try with_reducible rfl
      simp only [Act.put, List.getElem_toArray, List.getElem_cons_zero, List.getElem_cons_succ, List.setIfInBounds_toArray, List.set_cons_zero, List.set_cons_succ]
      refine wpAnyH_take (i := 3) (v := ?_) rfl (by kernel_rfl) (by kernel_rfl) (by kernel_rfl) (fun _ _ _ h => h) (Or.inl ⟨by rfl, ?_⟩) hS0 ?_
      rotate_left 1
      · intro W hW
        go_simp
        try with_reducible rfl
      simp only [Act.put, List.getElem_toArray, List.getElem_cons_zero, List.getElem_cons_succ, List.setIfInBounds_toArray, List.set_cons_zero, List.set_cons_succ]
      refine wpAnyH_take (i := 4) (v := ?_) rfl (by kernel_rfl) (by kernel_rfl) (by kernel_rfl) (fun _ _ _ h => h) (Or.inl ⟨by rfl, ?_⟩) hS0 ?_
      rotate_left 1
      · intro W hW
        go_simp
        try with_reducible rfl
      simp only [Act.put, List.getElem_toArray, List.getElem_cons_zero, List.getElem_cons_succ, List.setIfInBounds_toArray, List.set_cons_zero, List.set_cons_succ]
      refine wpAnyH_take (i := 5) (v := ?_) rfl (by kernel_rfl) (by kernel_rfl) (by kernel_rfl) (fun _ _ _ h => h) (Or.inl ⟨by rfl, ?_⟩) hS0 ?_
      rotate_left 1
      · intro W hW
        have e3 := hW.1
        have e4 := hW.2
        go_simp
        try with_reducible rfl
      simp only [Act.put, List.getElem_toArray, List.getElem_cons_zero, List.getElem_cons_succ, List.setIfInBounds_toArray, List.set_cons_zero, List.set_cons_succ]
      refine wpAnyH_take (i := 6) (v := ?_) rfl (by kernel_rfl) (by kernel_rfl) (by kernel_rfl) (fun _ _ _ h => h) (Or.inl ⟨by rfl, ?_⟩) hS0 ?_
      rotate_left 1
      · intro W hW
        go_simp
        try with_reducible rfl
      simp only [Act.put, List.getElem_toArray, List.getElem_cons_zero, List.getElem_cons_succ, List.setIfInBounds_toArray, List.set_cons_zero, List.set_cons_succ]
      refine wpAnyH_take (i := 7) (v := ?_) rfl (by kernel_rfl) (by kernel_rfl) (by kernel_rfl) (fun _ _ _ h => h) (Or.inl ⟨by rfl, ?_⟩) hS0 ?_
      rotate_left 1
      · intro W hW
        go_simp
        try with_reducible rfl
      simp only [Act.put, List.getElem_toArray, List.getElem_cons_zero, List.getElem_cons_succ, List.setIfInBounds_toArray, List.set_cons_zero, List.set_cons_succ]
      refine wpAnyH_take (i := 8) (v := ?_) rfl (by kernel_rfl) (by kernel_rfl) (by kernel_rfl) (fun _ _ _ h => h) (Or.inl ⟨by rfl, ?_⟩) hS0 ?_
      rotate_left 1
      · intro W hW
        go_simp
        try with_reducible rfl
      simp only [Act.put, List.getElem_toArray, List.getElem_cons_zero, List.getElem_cons_succ, List.setIfInBounds_toArray, List.set_cons_zero, List.set_cons_succ]
      refine wpAnyH_take (i := 9) (v := ?_) rfl (by kernel_rfl) (by kernel_rfl) (by kernel_rfl) (fun _ _ _ h => h) (Or.inl ⟨by rfl, ?_⟩) hS0 ?_
      rotate_left 1
      · intro W hW
        go_simp
        try with_reducible rfl
      simp only [Act.put, List.getElem_toArray, List.getElem_cons_zero, List.getElem_cons_succ, List.setIfInBounds_toArray, List.set_cons_zero, List.set_cons_succ]
      refine wpAnyH_take (i := 10) (v := ?_) rfl (by kernel_rfl) (by kernel_rfl) (by kernel_rfl) (fun _ _ _ h => h) (Or.inl ⟨by rfl, ?_⟩) hS0 ?_
      rotate_left 1
      · intro W hW
        have e3 := hW.1
        have e4 := hW.2
        go_simp
        try with_reducible rfl
      simp only [Act.put, List.getElem_toArray, List.getElem_cons_zero, List.getElem_cons_succ, List.setIfInBounds_toArray, List.set_cons_zero, List.set_cons_succ]
      refine wpAnyH_take (i := 11) (v := .agg (gz bs 0 0 0 bl nd).toArray) rfl (by kernel_rfl) (by kernel_rfl) (by kernel_rfl) (fun _ _ _ h => h) ?_ hS0 ?_
      · exact yields_bld3 (by rfl) 95 0 4 5 (.tmp 14) (.tmp 19) (.tmp 24) rfl _ _ _ rfl rfl rfl _ (build95 bs bl nd)
      simp only [Act.put, List.getElem_toArray, List.getElem_cons_zero, List.getElem_cons_succ, List.setIfInBounds_toArray, List.set_cons_zero, List.set_cons_succ]
      have B0 := Lib.hid (hB.out.drew)
      have W0 := Lib.hid (ownsRow_below HW.out (Below.refl wX.heap.size wX).drew)
      have hs0 : w.heap.size ≤ (World.drew wX).heap.size := hwz
      have hb0 : b < (World.drew wX).heap.size := hbX
      obtain ⟨w0, hw0⟩ : ∃ x, World.drew wX = x := ⟨_, rfl⟩
      rw [hw0] at hS0 B0 W0 hs0 hb0 ⊢
      clear hw0 hB HW hwz hbX e3 e4
      refine wpAnyH_ready (rs := [12]) (by kernel_rfl) (by simp) (AllReadyH.cons rfl (fun KK hKK => ?_) AllReadyH.nil)
      refine step_alloc_list rfl 95 (gz 0 0 0 0 0 0) rfl Tryd.zero95 ?_
      intro w1 HF1 hb1 hs1
      have hS1 : w1.cell? ⟨b, off + k * 9 + 3, none⟩ = some (.int .i64 bl) ∧ w1.cell? ⟨b, off + k * 9 + 4, none⟩ = some (.int .i64 nd) := ⟨(hb1.cell (p := ⟨b, off + k * 9 + 3, none⟩) hb0).trans hS0.1, (hb1.cell (p := ⟨b, off + k * 9 + 4, none⟩) hb0).trans hS0.2⟩
      have B1 := Lib.hid (B0.out.trans (hb1.mono hs0))
      have W1 := Lib.hid (ownsRow_below W0.out hb1)
      obtain ⟨g, hg⟩ : ∃ g, w0.heap.size = g := ⟨_, rfl⟩
      have hW1n : Hid (∀ j, u5.ownBlock = some j → j < w0.heap.size) := Lib.hid (ownsRow_lt W0.out)
      rw [hg] at HF1 hs0 hb0 hW1n ⊢
      have hg1 : g < w1.heap.size := HF1.out.lt
      clear hs1 hb1 hg W0 B0
      clear hS0
      have hS0 := hS1
      clear hS1
      refine hKK _ _ hS0 ?_
      intro _
      clear hKK KK
      try simp only [Act.put, List.getElem_toArray, List.getElem_cons_zero, List.getElem_cons_succ, List.setIfInBounds_toArray, List.set_cons_zero, List.set_cons_succ]
      refine wpAnyH_ready (rs := [13]) (by kernel_rfl) (by simp) (AllReadyH.cons rfl (fun KK hKK => ?_) AllReadyH.nil)
      refine step_store_mid rfl 95 _ _ rfl g 0 (gz bs 0 0 0 bl nd).toArray rfl rfl (HF1.out.there0 6 rfl) Tryd.isize95 (all_oneCell_toArray (gz_one _ _ _ _ _ _)) ?_
      rw [List.toList_toArray]
      have hk2 : Kp w1 (w1.setCells g 0 (gz bs 0 0 0 bl nd)) g g := (Kp.refl w1 g g).setCells g 0 (.inl rfl) _
      have HF2 := Lib.hid (HF1.out.stored (gz bs 0 0 0 bl nd) rfl)
      have B2 := Lib.hid (B1.out.trans (hk2.below hs0 hs0 B1.out.size))
      have W2 := Lib.hid (ownsRow_keep W1.out (fun j hj => hk2.block j (ownsRow_lt W1.out j hj) (by have := hW1n.out j hj; omega) (by have := hW1n.out j hj; omega)))
      have hS1 : (w1.setCells g 0 (gz bs 0 0 0 bl nd)).cell? ⟨b, off + k * 9 + 3, none⟩ = some (.int .i64 bl) ∧ (w1.setCells g 0 (gz bs 0 0 0 bl nd)).cell? ⟨b, off + k * 9 + 4, none⟩ = some (.int .i64 nd) := ⟨(hk2.cell (p := ⟨b, off + k * 9 + 3, none⟩) (by show b < _; omega) (by show b ≠ g; omega) (by show b ≠ g; omega)).trans hS0.1, (hk2.cell (p := ⟨b, off + k * 9 + 4, none⟩) (by show b < _; omega) (by show b ≠ g; omega) (by show b ≠ g; omega)).trans hS0.2⟩
      have hg2 : g < (w1.setCells g 0 (gz bs 0 0 0 bl nd)).heap.size := HF2.out.lt
      obtain ⟨w2, hw2⟩ : ∃ x, w1.setCells g 0 (gz bs 0 0 0 bl nd) = x := ⟨_, rfl⟩
      rw [hw2] at HF2 B2 W2 hS1 hg2 ⊢
      clear hw2 hk2 HF1 B1 W1 hg1 hS0
      refine hKK _ _ hS1 ?_
      intro _
      clear hKK KK hS1
      try simp only [Act.put, List.getElem_toArray, List.getElem_cons_zero, List.getElem_cons_succ, List.setIfInBounds_toArray, List.set_cons_zero, List.set_cons_succ]
      refine wpAnyH_done (by kernel_rfl) ?_ _
      go_wp2_with fail
      go_loopg [] 1 (fun gk wr => ∃ j : Nat, j + gk = 1 ∧ Vl wr g (gz bs j 0 0 bl nd) ∧ wr.ownsRow w.heap.size 95 6 u5 k (flatG (layF (rs.take k)).1) ∧ Below w.heap.size w wr)
      case atStart => exact ⟨0, rfl, HF2.out, W2.out, B2.out⟩
      case round =>
        obtain ⟨j, hj, hF, hW, hB⟩ := hrel
        have HF := Lib.hid hF
        have HW := Lib.hid hW
        have HB := Lib.hid hB
        have c1 := hF.c 1 _ rfl
        have c4 := hF.c 4 _ rfl
        have z1 := hF.z 1 (by show 1 < 6; decide)
        have hgl := hF.lt
        clear hF hW hB HF2 W2 B2
        obtain ⟨wY, rfl⟩ : ∃ x, x = wr := ⟨wr, rfl⟩
        have hj1 : j = 0 ∨ j = 1 := by omega
        rcases hj1 with rfl | rfl
        · go_wp2_with fail
          have hk3 : Kp wY (wY.setCell ⟨g, 1, none⟩ (.int .i64 1)) g g := (Kp.refl _ _ _).setCell ⟨g, 1, none⟩ (.inl rfl) _
          go_roundg 0
          case rel => exact ⟨1, rfl, HF.out.set 1 (by show 1 < 6; decide) (.int .i64 1), ownsRow_keep HW.out (fun j hj => hk3.block j (ownsRow_lt HW.out j hj) (by have := hW1n.out j hj; omega) (by have := hW1n.out j hj; omega)), HB.out.trans (hk3.below hs0 hs0 HB.out.size)⟩
          case measure => omega
        · have hw1 : ¬ ((1 : Int) * 64 * 8 < bl) := by omega
          go_wp2_with fail
          clear c1 c4 z1 hw1
          go_loopg [] Y (fun gk wr => ∃ j : Nat, j + gk = Y ∧ Vl wr g (gz bs 1 j 0 bl nd) ∧ wr.ownsRow w.heap.size 95 6 u5 k (flatG (layF (rs.take k)).1) ∧ Below w.heap.size w wr)
          case atStart => exact ⟨0, by omega, HF.out, HW.out, HB.out⟩
          case round =>
            obtain ⟨j, hj', hF, hW, hB⟩ := hrel
            have HF3 := Lib.hid hF
            have HW3 := Lib.hid hW
            have HB3 := Lib.hid hB
            have c1 := hF.c 1 _ rfl
            have c2 := hF.c 2 _ rfl
            have c5 := hF.c 5 _ rfl
            have z2 := hF.z 2 (by show 2 < 6; decide)
            have hgl3 := hF.lt
            clear hF hW hB HF HW HB
            have hj0 : (0 : Int) ≤ j := by omega
            have hj70 : (j : Int) ≤ 70 := by omega
            obtain ⟨wZ, rfl⟩ : ∃ x, x = wr := ⟨wr, rfl⟩
            by_cases hjY : j < Y
            · have hji := (HYm.out j).1 hjY
              go_wp2_with fail
              have hk3 : Kp wZ (wZ.setCell ⟨g, 2, none⟩ (.int .i64 (j + 1))) g g := (Kp.refl _ _ _).setCell ⟨g, 2, none⟩ (.inl rfl) _
              go_roundg (Y - (j + 1))
              case rel => exact ⟨j + 1, by omega, HF3.out.set 2 (by show 2 < 6; decide) (.int .i64 (j + 1)), ownsRow_keep HW3.out (fun j hj => hk3.block j (ownsRow_lt HW3.out j hj) (by have := hW1n.out j hj; omega) (by have := hW1n.out j hj; omega)), HB3.out.trans (hk3.below hs0 hs0 HB3.out.size)⟩
              case measure => omega
            · have hjY' : j = Y := by omega
              subst hjY'
              have hji : ¬ ((j : Int) * 64 < nd * 32) := fun h => hjY ((HYm.out j).2 h)
              have z3 := HF3.out.z 3 (by show 3 < 6; decide)
              have c3 := HF3.out.c 3 _ rfl
              have c4 := HF3.out.c 4 _ rfl
              go_upto_region 12 with fail
              clear c1 c2 c3 c4 c5 z2 z3
              have HF4 := Lib.hid (HF3.out.set 3 (by show 3 < 6; decide) (.int .i64 (bs + 1 + j)))
              have hk4 : Kp wZ (wZ.setCell ⟨g, 3, none⟩ (.int .i64 (bs + 1 + j))) g g := (Kp.refl _ _ _).setCell ⟨g, 3, none⟩ (.inl rfl) _
              have HW4 := Lib.hid (ownsRow_keep HW3.out (fun j hj => hk4.block j (ownsRow_lt HW3.out j hj) (by have := hW1n.out j hj; omega) (by have := hW1n.out j hj; omega)))
              have HB4 := Lib.hid (HB3.out.trans (hk4.below hs0 hs0 HB3.out.size))
              have hgl4 : g < (wZ.setCell ⟨g, 3, none⟩ (.int .i64 (bs + 1 + j))).heap.size := HF4.out.lt
              obtain ⟨w4, hw4⟩ : ∃ x, wZ.setCell ⟨g, 3, none⟩ (.int .i64 (bs + 1 + j)) = x := ⟨_, rfl⟩
              rw [hw4] at HF4 HW4 HB4 hgl4 ⊢
              clear hw4 hk4 HF3 HW3 HB3 hgl hgl3
              have c3 := HF4.out.c 3 _ rfl
              have c4 := HF4.out.c 4 _ rfl
              have c0 := HF4.out.c 0 _ rfl
              have c1 := HF4.out.c 1 _ rfl
              have c2 := HF4.out.c 2 _ rfl
              have c5 := HF4.out.c 5 _ rfl
              go_wp2_with (first | (at_builtin; refine wpList_append_own _ rfl _ _ 86 rfl w.heap.size 95 i0 _ 6 48 Tryd.underlying86 hi hz0 hz1 hz2 rfl (by decide) _ _ _ rfl (HW4.out.alloc _) ⟨w4.heap.size, 0, none⟩ 1 1 [.int .i64 bs, .int .i64 1, .int .i64 j, .int .i64 (bs + 1 + j), .int .i64 bl, .int .i64 nd] rfl rfl (cells_new w4 _ 95) (by simp [Value.oneCell']) (by unfold maxLen; omega) (by omega) (by have := HB4.out.size; simp; omega) ?_))
              intro v' w5 hown' hgrow _
              have hb5 := Lib.hid ((HB4.out.alloc HB4.out.size (.cells #[.int .i64 bs, .int .i64 1, .int .i64 j, .int .i64 (bs + 1 + j), .int .i64 bl, .int .i64 nd] 95)).grown hgrow (by have := HB4.out.size; simp; omega) (ownsRow_block HW4.out))
              have HO5 := Lib.hid hown'
              clear hown' hgrow HW4 HB4 HF4 c0 c1 c2 c3 c4 c5
              go_wp2_with fail
              go_roundw
              case rel =>
                refine ⟨k + 1, by omega, by go_num, ?_, ?_, hb5.out⟩
                · rw [HL.out, layStep, HBS.out, HG.out]; rfl
                · rw [HL.out, layStep, HBS.out, HG.out]
                  simpa [flatG, Ge.cells] using HO5.out
              case measure => simp [intOf]; omega
    · obtain rfl : k = rs.length := by omega
      go_wp2
      refine bodyPost_ret (v := .tuple #[u5, .int .i64 (layF (rs.take rs.length)).2]) (by simp [results, Tryd.results31, go_sem]) rfl ⟨u5, by rw [List.take_length], ?_, hb⟩
      have := HW.out
      rw [List.take_length] at this
      exact this
end Go.Proofs.YtfackmiojbdjhaaDoor

namespace Go.Proofs.YtfackmiojbdjhaaDoor
set_option linter.unusedSimpArgs false
set_option linter.unusedVariables false
open Go.RowKit Go.Maps


theorem geo_row {w : World} {base : Nat} {ty : TypeId} {v : Value} {gs : List Ge} (h : w.ownsRow base ty 6 v gs.length (flatG gs)) (h0 : 0 < gs.length) : ∃ g cap, v = .slice (some ⟨g, 0, none⟩) gs.length cap ∧ g < w.heap.size ∧ gs.length ≤ maxLen ∧ ∀ i (hi : i < gs.length) j, j < 6 → w.cell? ⟨g, i * 6 + j, none⟩ = (gs[i]).cells[j]? := by
  rcases ownsRow_cell (k := 6) (fun _ => rfl) rfl h with ⟨-, h1⟩ | ⟨g, cap, hv, -, hlt, hm, hc⟩
  · rw [h1] at h0
    simp at h0
  · exact ⟨g, cap, hv, hlt, hm, hc⟩
def xs1 (n x : Int) : Int := ((n.toNat ^^^ x.toNat : Nat) : Int) * 16777619 % 4294967296
theorem xs1_bd (n x : Int) : 0 ≤ xs1 n x ∧ xs1 n x < 4294967296 := by unfold xs1; omega
def gone (n : Int) (g : Ge) : Int := xs1 (xs1 (xs1 n g.base) g.bl) g.nd
def gsum (gs : List Ge) : Int := gs.foldl gone 2166136261
theorem gsum_bd (gs : List Ge) : 0 ≤ gsum gs ∧ gsum gs < 4294967296 := by
  unfold gsum
  induction gs using list_snoc_rec with
  | h0 => exact ⟨by decide, by decide⟩
  | h1 l a ih => rw [List.foldl_append]; exact xs1_bd _ _
theorem gsum_take (gs : List Ge) (k : Nat) (h : k < gs.length) : gsum (gs.take (k + 1)) = gone (gsum (gs.take k)) gs[k] := fold_take _ _ _ _ h
theorem xor_lt (n x : Int) (n0 : 0 ≤ n) (n1 : n < 4294967296) (x0 : 0 ≤ x) (x1 : x < 4294967296) : n.toNat ^^^ x.toNat < 4294967296 := Nat.xor_lt_two_pow (n := 32) (by omega) (by omega)
theorem step32 (n x : Int) (n0 : 0 ≤ n) (n1 : n < 4294967296) (x0 : 0 ≤ x) (x1 : x < 4294967296) : IntKind.u32.wrap (Go.bits .xor .u32 n x * 16777619) = xs1 n x := by
  rw [u32_xor n x n0 n1 x0 x1, IntKind.wrap_u32']
  rfl
theorem step64 (n x : Int) (n0 : 0 ≤ n) (n1 : n < 4294967296) (x0 : 0 ≤ x) (x1 : x < 4294967296) : (IntKind.u64.wrap (Go.bits .xor .u64 n x * 16777619)).tmod 4294967296 = xs1 n x := by
  rw [u64_xor n x n0 (by omega) x0 (by omega)]
  have h := xor_lt n x n0 n1 x0 x1
  rw [IntKind.wrap_u64, Int.tmod_eq_emod_of_nonneg (by omega)]
  unfold xs1
  omega
theorem index133 (a b c : Int) (j : Nat) (hj : j < 3) (w : World) : (Instr.index 133 (.agg #[.int .i64 a, .int .i64 b, .int .i64 c]) (.int .i64 (j : Int))).run Tryd.prog w = .ok (.int .i64 (if j = 0 then a else if j = 1 then b else c)) w := by
  have : j = 0 ∨ j = 1 ∨ j = 2 := by omega
  rcases this with rfl | rfl | rfl
  · show _ = _; kernel_rfl
  · show _ = _; kernel_rfl
  · show _ = _; kernel_rfl
theorem wpList_index133 {ops : Array Oper} {rest : List Oper} {op : Oper} {a : Act} {w : World} {Q : Exit → Act → World → Prop} (hgd : op.guard = none) (x y : Operand) (ho : op.op = .index 133 x y) (p q r : Int) (j : Nat) (hj : j < 3) (hx : a.eval x = .agg #[.int .i64 p, .int .i64 q, .int .i64 r]) (hy : a.eval y = .int .i64 (j : Int))
    (h : wpList Tryd.prog ops Q rest (a.put op.dst (.int .i64 (if j = 0 then p else if j = 1 then q else r))) w) : wpList Tryd.prog ops Q (op :: rest) a w := by
  refine wpList_plain hgd fun K hK => ?_
  have hr := index133 p q r j hj w
  unfold Oper.wp
  simp [execOp, ho, hx, hy, hr, Result.andThen]
  exact hK _ _ h
def nthI (g : Ge) (k : Nat) : Int := if k = 0 then g.base else if k = 1 then g.bl else g.nd
def upI (n : Int) (g : Ge) (k : Nat) : Int := if k = 0 then n else if k = 1 then xs1 n g.base else if k = 2 then xs1 (xs1 n g.base) g.bl else gone n g
theorem upI_bd (n : Int) (g : Ge) (k : Nat) (n0 : 0 ≤ n ∧ n < 4294967296) : 0 ≤ upI n g k ∧ upI n g k < 4294967296 := by
  unfold upI gone
  split
  · exact n0
  · split
    · exact xs1_bd _ _
    · split <;> exact xs1_bd _ _
theorem upI_step (n : Int) (g : Ge) (k : Nat) (hk : k < 3) : xs1 (upI n g k) (nthI g k) = upI n g (k + 1) := by
  have : k = 0 ∨ k = 1 ∨ k = 2 := by omega
  rcases this with rfl | rfl | rfl <;> rfl

set_option maxHeartbeats 8000000 in
set_option maxRecDepth 100000 in
theorem sum_any (n : Nat) (vr vm vg : Value) (rs : List Rg) (ms : List (Int × Int)) (hs : ∀ r ∈ rs, Small r) (h0 : 0 < rs.length) (h64 : rs.length ≤ 64) (w : World) (h : CF n w vr vm vg rs ms) :
    Calls Tryd.prog 32 #[.pointer (some ⟨n + 3, 0, none⟩)] w fun e w' => e = .returned (.int .u32 (gsum (layF rs).1)) ∧ Below w.heap.size w w' := by
  have HLen := Lib.hid (fun W (hb : Below w.heap.size w W) => clen_any n vr vm vg rs ms W (h.below hb) h64)
  have hran := fun i hi => lay_range rs hs h64 i hi
  obtain ⟨g, cap, rfl, hgl, hm, hc⟩ := h.geo h0
  have c2 := h.cb.c2
  have hlt := h.cb.lt
  have hll := lay_len rs
  obtain ⟨L, hL⟩ : ∃ L, (layF rs).1 = L := ⟨_, rfl⟩
  have HC : Hid (∀ i (hi : i < L.length) j, j < 6 → w.cell? ⟨g, i * 6 + j, none⟩ = (L[i]).cells[j]?) := fun i hi j hj => by
    subst hL
    exact hc i (by omega) j hj
  have HRan : Hid (∀ i (hi : i < L.length), 32 ≤ L[i].base ∧ L[i].base < 50000 ∧ 4 ≤ L[i].bl ∧ L[i].bl ≤ 512 ∧ 4 ≤ L[i].nd ∧ L[i].nd ≤ 128) := fun i hi => by
    subst hL
    have := hran i (by omega)
    omega
  rw [hL] at hll ⊢
  have hlL : L.length = rs.length := hll
  have hl0 : (0 : Int) ≤ rs.length := by omega
  have hl64 : (rs.length : Int) ≤ 64 := by omega
  have HC2 := Lib.hid c2
  clear hran hc hL hll hs h c2 hm
  go_enter Tryd.func32, Tryd.ntmps32
  go_wp2_with fail
  refine (HLen.out w (Below.refl _ _)).mono ?_
  rintro e wz ⟨rfl, hwz⟩
  rw [hwz]
  clear hwz wz HLen
  go_wp2_with fail
  go_loopw [3, 4, 5, 7, 10] (fun sv _ _ _ iv wr => ∃ k : Nat, k ≤ rs.length ∧ iv = .int .i64 k ∧ sv = .int .u32 (gsum (L.take k)) ∧ Below w.heap.size w wr) (fun _ _ _ _ iv _ => rs.length - (intOf iv).toNat)
  case atStart => exact ⟨0, by omega, rfl, rfl, Below.refl _ _⟩
  case round =>
    obtain ⟨k, hk, rfl, rfl, hb⟩ := hrel
    have HB := Lib.hid hb
    have hk0 : (0 : Int) ≤ k := by omega
    have hk64 : (k : Int) ≤ 64 := by omega
    have hsz := hb.size
    obtain ⟨wX, rfl⟩ : ∃ x, x = wr := ⟨wr, rfl⟩
    by_cases hlt' : k < rs.length
    · have hlti : (k : Int) < rs.length := by omega
      have hkL : k < L.length := by omega
      have cc2 := (hb.cell (p := ⟨n + 3, 2, none⟩) (by show n + 3 < _; omega)).trans HC2.out
      have e0 := (hb.cell (p := ⟨g, k * 6 + 0, none⟩) hgl).trans (HC.out k hkL 0 (by decide))
      have e1 := (hb.cell (p := ⟨g, k * 6 + 1, none⟩) hgl).trans (HC.out k hkL 1 (by decide))
      have e2 := (hb.cell (p := ⟨g, k * 6 + 2, none⟩) hgl).trans (HC.out k hkL 2 (by decide))
      have e3 := (hb.cell (p := ⟨g, k * 6 + 3, none⟩) hgl).trans (HC.out k hkL 3 (by decide))
      have e4 := (hb.cell (p := ⟨g, k * 6 + 4, none⟩) hgl).trans (HC.out k hkL 4 (by decide))
      have e5 := (hb.cell (p := ⟨g, k * 6 + 5, none⟩) hgl).trans (HC.out k hkL 5 (by decide))
      have hr := HRan.out k hkL
      have hst := gsum_take L k hkL
      have HST := Lib.hid hst
      have hbd := gsum_bd (L.take k)
      obtain ⟨S, hS⟩ : ∃ S, gsum (L.take k) = S := ⟨_, rfl⟩
      rw [hS] at HST hbd
      generalize L[k] = gg at *
      obtain ⟨bs, bm, tb, da, bl, nd⟩ := gg
      simp [Ge.cells] at e0 e1 e2 e3 e4 e5
      simp only at hr
      clear hb hst
      rw [hS]
      clear hS
      obtain ⟨G, hG⟩ : ∃ G : Ge, (⟨bs, bm, tb, da, bl, nd⟩ : Ge) = G := ⟨_, rfl⟩
      rw [hG] at HST
      have HGb : Hid (bs = nthI G 0) := by rw [← hG]; rfl
      have HGl : Hid (bl = nthI G 1) := by rw [← hG]; rfl
      have HGn : Hid (nd = nthI G 2) := by rw [← hG]; rfl
      clear hG
      have HBd := Lib.hid hbd
      clear hbd
      go_wp2_with fail
      clear cc2 e0 e1 e2 e3 e4 e5
      have HB1 := Lib.hid (HB.out.alloc hsz (.cells #[.int .i64 bs, .int .i64 bm, .int .i64 tb, .int .i64 da, .int .i64 bl, .int .i64 nd] 69))
      obtain ⟨w1, hw1⟩ : ∃ x, wX.alloc (.cells #[.int .i64 bs, .int .i64 bm, .int .i64 tb, .int .i64 da, .int .i64 bl, .int .i64 nd] 69) = x := ⟨_, rfl⟩
      rw [hw1] at HB1 ⊢
      clear hw1
      go_loopw [3, 7, 27] (fun sv _ jv wr => ∃ j : Nat, j ≤ 3 ∧ jv = .int .i64 j ∧ sv = .int .u32 (upI S G j) ∧ wr = w1) (fun _ _ jv _ => 3 - (intOf jv).toNat)
      case atStart => exact ⟨0, by omega, rfl, rfl, rfl⟩
      case round =>
        obtain ⟨j, hj, rfl, rfl, hwr⟩ := hrel
        subst hwr
        have hub := upI_bd S G j HBd.out
        have HUS := Lib.hid (fun hk => upI_step S G j hk)
        obtain ⟨Z, hZ⟩ : ∃ Z, upI S G j = Z := ⟨_, rfl⟩
        rw [hZ] at hub HUS ⊢
        have HZ := Lib.hid hZ
        clear hZ
        have hj3 : j = 0 ∨ j = 1 ∨ j = 2 ∨ j = 3 := by omega
        rcases hj3 with rfl | rfl | rfl | rfl
        · have hs := step32 Z bs hub.1 hub.2 (by omega) (by omega)
          have hwv : IntKind.u32.wrap bs = bs := by rw [IntKind.wrap_u32']; omega
          go_wp2_with (refine wpList_index133 rfl _ _ rfl bs bl nd 0 (by decide) rfl rfl ?_)
          go_roundw
          case rel => exact ⟨1, by omega, rfl, by rw [← HUS.out (by decide), ← HGb.out], trivial⟩
          case measure => simp [intOf]
        · have hs := step32 Z bl hub.1 hub.2 (by omega) (by omega)
          have hwv : IntKind.u32.wrap bl = bl := by rw [IntKind.wrap_u32']; omega
          go_wp2_with (refine wpList_index133 rfl _ _ rfl bs bl nd 1 (by decide) rfl rfl ?_)
          go_roundw
          case rel => exact ⟨2, by omega, rfl, by rw [← HUS.out (by decide), ← HGl.out], trivial⟩
          case measure => simp [intOf]
        · have hs := step32 Z nd hub.1 hub.2 (by omega) (by omega)
          have hwv : IntKind.u32.wrap nd = nd := by rw [IntKind.wrap_u32']; omega
          go_wp2_with (refine wpList_index133 rfl _ _ rfl bs bl nd 2 (by decide) rfl rfl ?_)
          go_roundw
          case rel => exact ⟨3, by omega, rfl, by rw [← HUS.out (by decide), ← HGn.out], trivial⟩
          case measure => simp [intOf]
        · go_wp2_with fail
          go_roundw
          case rel => exact ⟨k + 1, by omega, by go_num, by rw [HST.out, ← HZ.out]; rfl, HB1.out⟩
          case measure => simp [intOf]; omega
    · obtain rfl : k = rs.length := by omega
      go_wp2_with fail
      refine bodyPost_ret (v := .int .u32 (gsum (L.take rs.length))) (by simp [results, Tryd.results32, go_sem]) rfl ⟨by rw [← hlL, List.take_length], hb⟩
end Go.Proofs.YtfackmiojbdjhaaDoor

namespace Go.Proofs.YtfackmiojbdjhaaDoor
set_option linter.unusedSimpArgs false
set_option linter.unusedVariables false
open Go.RowKit Go.Maps


set_option maxHeartbeats 8000000 in
set_option maxRecDepth 100000 in
theorem rsum_any (b off cap : Nat) (rs : List Rg) (w : World) (hbl : b < w.heap.size) (h0 : 0 < rs.length) (h64 : rs.length ≤ 64) (hs : ∀ r ∈ rs, Small r) (hr : Row9 w b off rs) :
    Calls Tryd.prog 33 #[.slice (some ⟨b, off, none⟩) rs.length cap] w fun e w' => e = .returned (.int .u32 (gsum (layF rs).1)) ∧ Below w.heap.size w w' := by
  have HG := Lib.hid (geos_some b off cap rs w hbl h64 hs hr)
  have hran := fun i hi => lay_range rs hs h64 i hi
  have hll := lay_len rs
  clear hr
  go_enter Tryd.func33, Tryd.ntmps33
  go_wp2_with fail
  refine HG.out.mono ?_
  rintro e w1 ⟨v, rfl, hown, hb⟩
  rw [← hll] at hown
  obtain ⟨g, cg, rfl, hgl, hm, hc⟩ := geo_row hown (by omega)
  obtain ⟨L, hL⟩ : ∃ L, (layF rs).1 = L := ⟨_, rfl⟩
  have HC : Hid (∀ i (hi : i < L.length) j, j < 6 → w1.cell? ⟨g, i * 6 + j, none⟩ = (L[i]).cells[j]?) := fun i hi j hj => by
    subst hL
    exact hc i hi j hj
  have HRan : Hid (∀ i (hi : i < L.length), 32 ≤ L[i].base ∧ L[i].base < 50000 ∧ 4 ≤ L[i].bl ∧ L[i].bl ≤ 512 ∧ 4 ≤ L[i].nd ∧ L[i].nd ≤ 128) := fun i hi => by
    subst hL
    have := hran i (by omega)
    omega
  have HLq := Lib.hid hL
  rw [hL] at hll ⊢
  have hlL : L.length = rs.length := hll
  have hl0 : (0 : Int) ≤ L.length := by omega
  have hl64 : (L.length : Int) ≤ 64 := by omega
  have HB1 := Lib.hid hb
  have hwz := hb.size
  clear hran hc hL hll hs hown hb HG hm
  go_wp2_with fail
  go_loopw [5, 6, 7, 8] (fun sv iv _ _ wr => ∃ k : Nat, k ≤ L.length ∧ iv = .int .i64 k ∧ sv = .int .u64 (gsum (L.take k)) ∧ Below w1.heap.size w1 wr) (fun _ iv _ _ _ => L.length - (intOf iv).toNat)
  case atStart => exact ⟨0, by omega, rfl, rfl, Below.refl _ _⟩
  case round =>
    obtain ⟨k, hk, rfl, rfl, hb⟩ := hrel
    have HB := Lib.hid hb
    have hk0 : (0 : Int) ≤ k := by omega
    have hk64 : (k : Int) ≤ 64 := by omega
    have hsz := hb.size
    obtain ⟨wX, rfl⟩ : ∃ x, x = wr := ⟨wr, rfl⟩
    by_cases hkL : k < L.length
    · have hlti : (k : Int) < L.length := by omega
      have e0 := (hb.cell (p := ⟨g, k * 6 + 0, none⟩) hgl).trans (HC.out k hkL 0 (by decide))
      have e4 := (hb.cell (p := ⟨g, k * 6 + 4, none⟩) hgl).trans (HC.out k hkL 4 (by decide))
      have e5 := (hb.cell (p := ⟨g, k * 6 + 5, none⟩) hgl).trans (HC.out k hkL 5 (by decide))
      have hr := HRan.out k hkL
      have hst := gsum_take L k hkL
      have HST := Lib.hid hst
      have hbd := gsum_bd (L.take k)
      obtain ⟨S, hS⟩ : ∃ S, gsum (L.take k) = S := ⟨_, rfl⟩
      rw [hS] at HST hbd
      generalize L[k] = gg at *
      obtain ⟨bs, bm, tb, da, bl, nd⟩ := gg
      simp [Ge.cells] at e0 e4 e5
      simp only at hr
      clear hb hst
      rw [hS]
      clear hS
      obtain ⟨G, hG⟩ : ∃ G : Ge, (⟨bs, bm, tb, da, bl, nd⟩ : Ge) = G := ⟨_, rfl⟩
      rw [hG] at HST
      have HGb : Hid (bs = nthI G 0) := by rw [← hG]; rfl
      have HGl : Hid (bl = nthI G 1) := by rw [← hG]; rfl
      have HGn : Hid (nd = nthI G 2) := by rw [← hG]; rfl
      clear hG
      have HBd := Lib.hid hbd
      clear hbd
      go_upto_region 6 with fail
      go_still_tail 15, (by kernel_rfl)
      change wpList _ _ _ _ _ (World.drew wX)
      have HBx := Lib.hid HB.out.drew
      have hszx : w1.heap.size ≤ (World.drew wX).heap.size := hsz
      obtain ⟨wD, hwD⟩ : ∃ x, World.drew wX = x := ⟨_, rfl⟩
      rw [hwD] at HBx hszx ⊢
      clear hwD e0 e4 e5
      go_upto_region 7 with fail
      have HB2 := Lib.hid (HBx.out.alloc hszx (.cells #[.int .i64 bs, .int .i64 bl, .int .i64 nd] 3))
      have c0 : (wD.alloc (.cells #[.int .i64 bs, .int .i64 bl, .int .i64 nd] 3)).cell? ⟨wD.heap.size, 0, none⟩ = some (.int .i64 bs) := by simp
      have c1 : (wD.alloc (.cells #[.int .i64 bs, .int .i64 bl, .int .i64 nd] 3)).cell? ⟨wD.heap.size, 1, none⟩ = some (.int .i64 bl) := by simp
      have c2 : (wD.alloc (.cells #[.int .i64 bs, .int .i64 bl, .int .i64 nd] 3)).cell? ⟨wD.heap.size, 2, none⟩ = some (.int .i64 nd) := by simp
      obtain ⟨w2, hw2⟩ : ∃ x, wD.alloc (.cells #[.int .i64 bs, .int .i64 bl, .int .i64 nd] 3) = x := ⟨_, rfl⟩
      obtain ⟨gD, hgD⟩ : ∃ x, wD.heap.size = x := ⟨_, rfl⟩
      rw [hw2] at HB2 c0 c1 c2 ⊢
      rw [hgD] at c0 c1 c2
      try rw [hgD]
      clear hw2 hgD hszx HBx
      go_wp2_with fail
      go_loopw [5, 8] (fun sv jv wr => ∃ j : Nat, j ≤ 3 ∧ jv = .int .i64 j ∧ sv = .int .u64 (upI S G j) ∧ wr = w2) (fun _ jv _ => 3 - (intOf jv).toNat)
      case atStart => exact ⟨0, by omega, rfl, rfl, rfl⟩
      case round =>
        obtain ⟨j, hj, rfl, rfl, hwr⟩ := hrel
        subst hwr
        have hub := upI_bd S G j HBd.out
        have HUS := Lib.hid (fun hk => upI_step S G j hk)
        obtain ⟨Z, hZ⟩ : ∃ Z, upI S G j = Z := ⟨_, rfl⟩
        rw [hZ] at hub HUS ⊢
        have HZ := Lib.hid hZ
        clear hZ
        have hj3 : j = 0 ∨ j = 1 ∨ j = 2 ∨ j = 3 := by omega
        rcases hj3 with rfl | rfl | rfl | rfl
        · have hs := step64 Z bs hub.1 hub.2 (by omega) (by omega)
          have hwv : IntKind.u64.wrap bs = bs := by rw [IntKind.wrap_u64]; omega
          have cj := c0
          go_wp2_with fail
          go_roundw
          case rel => exact ⟨1, by omega, rfl, by rw [← HUS.out (by decide), ← HGb.out], trivial⟩
          case measure => simp [intOf]
        · have hs := step64 Z bl hub.1 hub.2 (by omega) (by omega)
          have hwv : IntKind.u64.wrap bl = bl := by rw [IntKind.wrap_u64]; omega
          have cj := c1
          go_wp2_with fail
          go_roundw
          case rel => exact ⟨2, by omega, rfl, by rw [← HUS.out (by decide), ← HGl.out], trivial⟩
          case measure => simp [intOf]
        · have hs := step64 Z nd hub.1 hub.2 (by omega) (by omega)
          have hwv : IntKind.u64.wrap nd = nd := by rw [IntKind.wrap_u64]; omega
          have cj := c2
          go_wp2_with fail
          go_roundw
          case rel => exact ⟨3, by omega, rfl, by rw [← HUS.out (by decide), ← HGn.out], trivial⟩
          case measure => simp [intOf]
        · go_wp2_with fail
          go_roundw
          case rel => exact ⟨k + 1, by omega, by go_num, by rw [HST.out, ← HZ.out]; rfl, HB2.out⟩
          case measure => simp [intOf]; omega
    · obtain rfl : k = L.length := by omega
      go_wp2_with fail
      have hbd := gsum_bd L
      have hee : gsum (List.take rs.length L) % 4294967296 = gsum L := by rw [← hlL, List.take_length]; omega
      rw [HLq.out]
      refine bodyPost_ret (v := .int .u32 (gsum L)) (by simp [results, Tryd.results33, go_sem, hee]) rfl ⟨rfl, HB1.out.trans (hb.mono hwz)⟩
end Go.Proofs.YtfackmiojbdjhaaDoor

namespace Go.Proofs.YtfackmiojbdjhaaDoor
set_option linter.unusedSimpArgs false
set_option linter.unusedVariables false
open Go.RowKit Go.Maps


theorem newE_zero {rs : List Rg} {ms : List (Int × Int)} (h : newE rs ms = 0) : 1 ≤ rs.length ∧ rs.length ≤ 64 ∧ regsE rs rs.length = 0 ∧ permB rs rs.length = true ∧ marksE rs ms ms.length = 0 := by
  unfold newE at h
  split at h
  · cases h
  · split at h
    · rename_i h2; exact absurd h h2
    · split at h
      · cases h
      · split at h
        · cases h
        · rename_i h1 h2 h3 h4
          refine ⟨by omega, by omega, by simpa using h2, by simpa using h4, h⟩
theorem oneE_apart {rs : List Rg} {k : Nat} (hk : k < rs.length) (h : oneE rs k = 0) : nameB rs[k].nm = true ∧ (0 ≤ rs[k].cl ∧ rs[k].cl < rs.length) ∧ ∀ j (hj : j < k), rs[j].nm ≠ rs[k].nm ∧ ¬ (rs[j].lv = rs[k].lv ∧ rs[j].cs = rs[k].cs) := by
  unfold oneE at h
  have e : rs.getD k zeroRg = rs[k] := by rw [List.getD_eq_getElem?_getD, List.getElem?_eq_getElem hk]; rfl
  simp only [e] at h
  split at h
  · cases h
  · rename_i h1
    split at h
    · cases h
    · rename_i h2
      split at h
      · cases h
      · rename_i h3
        simp only [Bool.not_eq_false, Bool.and_eq_true, decide_eq_true_eq] at h2
        refine ⟨by simpa using h1, ⟨h2.1.2, h2.2⟩, fun j hj => ?_⟩
        have h4 : ((rs.take k).any fun x => decide (x.nm = rs[k].nm) || (decide (x.lv = rs[k].lv) && decide (x.cs = rs[k].cs))) = false := by simpa using h3
        rw [List.any_eq_false] at h4
        have h5 := h4 rs[j] (by
          rw [List.mem_take_iff_getElem]
          exact ⟨j, by omega, rfl⟩)
        simp only [Bool.or_eq_true, Bool.and_eq_true, decide_eq_true_eq, not_or] at h5
        exact h5
theorem nm_apart {rs : List Rg} (h : regsE rs rs.length = 0) (i j : Nat) (hi : i < rs.length) (hj : j < rs.length) (e : rs[i].nm = rs[j].nm) : i = j := by
  rcases Nat.lt_trichotomy i j with hl | hl | hl
  · exact absurd e ((oneE_apart hj (regsE_all rs _ h j hj)).2.2 i hl).1
  · exact hl
  · exact absurd e.symm ((oneE_apart hi (regsE_all rs _ h i hi)).2.2 j hl).1
theorem lb_apart {rs : List Rg} (h : regsE rs rs.length = 0) (i j : Nat) (hi : i < rs.length) (hj : j < rs.length) (e : rs[i].lv = rs[j].lv ∧ rs[i].cs = rs[j].cs) : i = j := by
  rcases Nat.lt_trichotomy i j with hl | hl | hl
  · exact absurd e ((oneE_apart hj (regsE_all rs _ h j hj)).2.2 i hl).2
  · exact hl
  · exact absurd ⟨e.1.symm, e.2.symm⟩ ((oneE_apart hi (regsE_all rs _ h i hi)).2.2 j hl).2
theorem named_at {rs : List Rg} (h : regsE rs rs.length = 0) (i : Nat) (hi : i < rs.length) : atI (gD nmKey rs) (strKey rs[i].nm) = i ∧ Maps.has (gD nmKey rs) (strKey rs[i].nm) = true := by
  have hk : ∀ r, WideAt.IsKeyLit (nmKey r) := fun r => strKey_key r.nm
  refine ⟨gD_at nmKey hk rs (fun a b ha hb e => nm_apart h a b ha hb (strKey_inj e)) i hi, ?_⟩
  rw [gD_has nmKey hk, List.any_eq_true]
  exact ⟨rs[i], List.getElem_mem _, WideAt.sameKey_self (hk rs[i])⟩
theorem found_at {rs : List Rg} (hok : ∀ r ∈ rs, r.ok) (h : regsE rs rs.length = 0) (i : Nat) (hi : i < rs.length) : atI (gD lbKey rs) (labKey rs[i].lv rs[i].cs) = i ∧ Maps.has (gD lbKey rs) (labKey rs[i].lv rs[i].cs) = true := by
  have hk : ∀ r, WideAt.IsKeyLit (lbKey r) := fun r => labKey_key r.lv r.cs
  refine ⟨gD_at lbKey hk rs (fun a b ha hb e => lb_apart h a b ha hb ?_) i hi, ?_⟩
  · obtain ⟨-, a1, a2, a3, a4⟩ := hok rs[a] (List.getElem_mem _)
    obtain ⟨-, b1, b2, b3, b4⟩ := hok rs[b] (List.getElem_mem _)
    exact labKey_inj ⟨a1, a2⟩ ⟨a3, a4⟩ ⟨b1, b2⟩ ⟨b3, b4⟩ e
  · rw [gD_has lbKey hk, List.any_eq_true]
    exact ⟨rs[i], List.getElem_mem _, WideAt.sameKey_self (hk rs[i])⟩
theorem marksE_all (rs : List Rg) (ms : List (Int × Int)) : ∀ n, marksE rs ms n = 0 → ∀ k, k < n → markOne rs ms k = 0
  | 0, _, k, hk => by omega
  | n + 1, h, k, hk => by
    have h0 : marksE rs ms n = 0 := by
      by_cases e : marksE rs ms n = 0
      · exact e
      · rw [marksE, if_neg e] at h; exact h
    by_cases e : k = n
    · subst e
      rw [marksE, if_pos h0] at h
      exact h
    · exact marksE_all rs ms n h0 k (by omega)
theorem mark_small {rs : List Rg} (hs : ∀ r ∈ rs, Small r) {ms : List (Int × Int)} (h : marksE rs ms ms.length = 0) (k : Nat) (hk : k < ms.length) : 1 ≤ ms[k].2 ∧ ms[k].2 ≤ 128 := by
  have h1 := marksE_all rs ms _ h k hk
  unfold markOne at h1
  have e : ms.getD k (0, 0) = ms[k] := by rw [List.getD_eq_getElem?_getD, List.getElem?_eq_getElem hk]; rfl
  simp only [e] at h1
  split at h1
  · cases h1
  · rename_i h2
    simp only [Bool.not_eq_false, Bool.and_eq_true, decide_eq_true_eq] at h2
    obtain ⟨⟨h3, h4⟩, h5⟩ := h2
    refine ⟨h4, ?_⟩
    unfold regAt at h3 h5
    split at h3
    · rename_i h6
      rw [if_pos h6] at h5
      cases hq : rs[ms[k].1.toNat]? with
      | none => simp [hq] at h3
      | some r =>
        simp only [hq] at h5
        have := hs r (List.mem_of_getElem? hq)
        unfold Small at this
        omega
    · cases h3
theorem trusted_at {rs : List Rg} (hs : ∀ r ∈ rs, Small r) {ms : List (Int × Int)} (hok : ∀ m ∈ ms, markOk m) (h : marksE rs ms ms.length = 0) (k : Nat) (hk : k < ms.length) : Maps.has (tD ms) (labKey ms[k].1 ms[k].2) = true ∧ Maps.has (tD ms) (labKey ms[k].1 (ms[k].2 + 1000)) = false := by
  obtain ⟨a1, a2, a3, a4⟩ := hok ms[k] (List.getElem_mem _)
  have hsm := mark_small hs h k hk
  have e1 := tD_has2 ms[k].1 ms[k].2 ms hok ⟨a1, a2, a3, a4⟩
  have e2 := tD_has2 ms[k].1 (ms[k].2 + 1000) ms hok ⟨a1, a2, by show 0 ≤ ms[k].2 + 1000; omega, by show ms[k].2 + 1000 < 65536; omega⟩
  rw [e1, e2]
  constructor
  · rw [List.any_eq_true]
    exact ⟨ms[k], List.getElem_mem _, by simp⟩
  · rw [List.any_eq_false]
    intro x hx
    obtain ⟨j, hj, rfl⟩ := List.mem_iff_getElem.1 hx
    have := mark_small hs h j hj
    simp
    omega
/-! ### structs that are the same -/
def rgl (r : Rg) : List Lit := [.string r.nm.data.toList, .int .u8 r.lv, .int .u16 r.cs, .int .i64 r.bl, .int .i64 r.nd, .int .i64 r.fr, .int .i64 r.pr, .int .i64 r.op, .int .i64 r.cl]
def gel (g : Ge) : List Lit := [.int .i64 g.base, .int .i64 g.bm, .int .i64 g.tb, .int .i64 g.da, .int .i64 g.bl, .int .i64 g.nd]
theorem wfa8 (x : Int) (h : 0 ≤ x ∧ x < 256) : (Lit.int .u8 x).wf = true := by simp [Lit.wf, IntKind.min, IntKind.max, IntKind.bits, IntKind.signed]; omega
theorem wfa16 (x : Int) (h : 0 ≤ x ∧ x < 65536) : (Lit.int .u16 x).wf = true := by simp [Lit.wf, IntKind.min, IntKind.max, IntKind.bits, IntKind.signed]; omega
theorem wfa64 (x : Int) (h : 0 ≤ x ∧ x < 1000000) : (Lit.int .i64 x).wf = true := by simp [Lit.wf, IntKind.min, IntKind.max, IntKind.bits, IntKind.signed]; omega
theorem Tryd.cl39 : Tryd.prog.cellsOf 39 = 9 := by kernel_rfl
theorem Tryd.cl9 : Tryd.prog.cellsOf 9 = 1 := by kernel_rfl
theorem Tryd.cl3 : Tryd.prog.cellsOf 3 = 1 := by kernel_rfl
theorem Tryd.cl95 : Tryd.prog.cellsOf 95 = 6 := by kernel_rfl
theorem Tryd.key39 : Tryd.prog.keyTypeAt 3 39 = true := by kernel_rfl
theorem Tryd.key95 : Tryd.prog.keyTypeAt 3 95 = true := by kernel_rfl
theorem Tryd.guard39 : Tryd.prog.eqGuardType Tryd.prog.depth 39 = false := by kernel_rfl
theorem Tryd.guard95 : Tryd.prog.eqGuardType Tryd.prog.depth 95 = false := by kernel_rfl
theorem rg_cells (r : Rg) : r.val = .agg r.cells.toArray := rfl
theorem have_bd {r : Rg} (h : haveB r = true) : (0 ≤ r.bl ∧ r.bl < 1000000) ∧ (0 ≤ r.nd ∧ r.nd < 1000000) ∧ (0 ≤ r.fr ∧ r.fr < 1000000) ∧ (0 ≤ r.pr ∧ r.pr < 1000000) ∧ (0 ≤ r.op ∧ r.op < 1000000) := by
  simp only [haveB, Bool.and_eq_true, decide_eq_true_eq] at h
  omega
theorem rgl_is (r : Rg) (hok : r.ok) (h : haveB r = true) (hc : 0 ≤ r.cl ∧ r.cl < 1000000) : Tryd.prog.keyLits 4 39 r.cells = some (rgl r) := by
  obtain ⟨o1, o2, o3, o4, o5⟩ := hok
  obtain ⟨b1, b2, b3, b4, b5⟩ := have_bd h
  have w1 := wfa8 _ ⟨o2, o3⟩
  have w2 := wfa16 _ ⟨o4, o5⟩
  have w3 := wfa64 _ b1
  have w4 := wfa64 _ b2
  have w5 := wfa64 _ b3
  have w6 := wfa64 _ b4
  have w7 := wfa64 _ b5
  have w8 := wfa64 _ hc
  simp [Rg.cells, rgl, Program.keyLits, Tryd.underlying39, Tryd.underlying37, Tryd.underlying9, Tryd.underlying5, Tryd.underlying32, Tryd.underlying3, Tryd.cl39, Tryd.cellsOf37, Tryd.cl9, Tryd.cl3, Tryd.cellsOf5, Tryd.cellsOf32, o1, w1, w2, w3, w4, w5, w6, w7, w8]
  rw [if_pos]
  · rfl
  · intro i x
    have : i = 0 ∨ i = 1 := by omega
    rcases this with rfl | rfl <;> simp
theorem rg_formed (r : Rg) : (Value.agg r.cells.toArray).formed Tryd.prog 39 = true := by simp [Value.formed, Tryd.underlying39, Tryd.cl39, Rg.cells]
theorem eq39 (r : Rg) (hok : r.ok) (h : haveB r = true) (hc : 0 ≤ r.cl ∧ r.cl < 1000000) (w : World) : (Op.equalIn 10000 39 (.agg r.cells.toArray) (.agg r.cells.toArray)).run Tryd.prog w = .ok true w := by
  obtain ⟨x, hx, hiff⟩ := run_equalIn_deep (P := Tryd.prog) 9997 3 39 Tryd.key39 w 4 4 _ _ _ _ (rg_formed r) (rg_formed r) (rgl_is r hok h hc) (rgl_is r hok h hc)
  rw [show 9997 + 3 = 10000 from rfl] at hx
  rw [hx, show x = true from hiff.2 rfl]
theorem gel_is (g : Ge) (h0 : 0 ≤ g.base ∧ g.base < 1000000) (h1 : 0 ≤ g.bm ∧ g.bm < 1000000) (h2 : 0 ≤ g.tb ∧ g.tb < 1000000) (h3 : 0 ≤ g.da ∧ g.da < 1000000) (h4 : 0 ≤ g.bl ∧ g.bl < 1000000) (h5 : 0 ≤ g.nd ∧ g.nd < 1000000) : Tryd.prog.keyLits 4 95 g.cells = some (gel g) := by
  have w0 := wfa64 _ h0
  have w1 := wfa64 _ h1
  have w2 := wfa64 _ h2
  have w3 := wfa64 _ h3
  have w4 := wfa64 _ h4
  have w5 := wfa64 _ h5
  simp [Ge.cells, gel, Program.keyLits, Tryd.underlying95, Tryd.underlying3, Tryd.cl95, Tryd.cl3, w0, w1, w2, w3, w4, w5]
theorem ge_formed (g : Ge) : (Value.agg g.cells.toArray).formed Tryd.prog 95 = true := by simp [Value.formed, Tryd.underlying95, Tryd.cl95, Ge.cells]
theorem eq95 (g : Ge) (h0 : 0 ≤ g.base ∧ g.base < 1000000) (h1 : 0 ≤ g.bm ∧ g.bm < 1000000) (h2 : 0 ≤ g.tb ∧ g.tb < 1000000) (h3 : 0 ≤ g.da ∧ g.da < 1000000) (h4 : 0 ≤ g.bl ∧ g.bl < 1000000) (h5 : 0 ≤ g.nd ∧ g.nd < 1000000) (w : World) : (Op.equalIn 10000 95 (.agg g.cells.toArray) (.agg g.cells.toArray)).run Tryd.prog w = .ok true w := by
  obtain ⟨x, hx, hiff⟩ := run_equalIn_deep (P := Tryd.prog) 9997 3 95 Tryd.key95 w 4 4 _ _ _ _ (ge_formed g) (ge_formed g) (gel_is g h0 h1 h2 h3 h4 h5) (gel_is g h0 h1 h2 h3 h4 h5)
  rw [show 9997 + 3 = 10000 from rfl] at hx
  rw [hx, show x = true from hiff.2 rfl]
end Go.Proofs.YtfackmiojbdjhaaDoor
