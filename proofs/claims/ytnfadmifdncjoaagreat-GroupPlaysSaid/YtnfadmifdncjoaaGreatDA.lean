import Derived.Test.YtnfadmifdncjoaaGreatRows
import Derived.WalkKit
import Derived.WalkSpells
import Derived.WalkLawsBesides
import Derived.Lib.Hide
import Derived.Deep.RegionHeld
import Derived.Deep.Draws
import Derived.Deep.MidRow
import Derived.Laws.MakeOwn
import Derived.Laws.CopyOwn
import Derived.Laws.ResultCell
import Derived.ChangeKeysEq
import Derived.Deep.QuietTactic
import Derived.OwnWalk
/- Blocks of bytes; the disk. -/
namespace Go.Proofs.YtnfadmifdncjoaaGreat
set_option linter.unusedSimpArgs false
set_option linter.unusedVariables false
open Go.RowKit Go.Maps
/-- n bytes -/
def byts (n : Nat) (f : Nat → Int) : List Value := (List.range n).map fun i => Value.int .u8 (f i)
theorem byts_len (n : Nat) (f : Nat → Int) : (byts n f).length = n := by simp [byts]
theorem byts_get {n : Nat} (f : Nat → Int) {i : Nat} (h : i < n) : (byts n f)[i]? = some (.int .u8 (f i)) := by simp [byts, h]
theorem byts_of {n : Nat} {f : Nat → Int} {i : Nat} {v : Value} (h : (byts n f)[i]? = some v) : i < n ∧ v = .int .u8 (f i) := by
  have hi : i < n := by
    have := (List.getElem?_eq_some_iff.1 h).1
    rwa [byts_len] at this
  rw [byts_get f hi] at h
  exact ⟨hi, (Option.some.inj h).symm⟩
theorem byts_one (n : Nat) (f : Nat → Int) : ∀ v ∈ byts n f, v.oneCell' = true := by
  intro v hv
  simp only [byts, List.mem_map] at hv
  obtain ⟨i, _, rfl⟩ := hv
  rfl
theorem byts_congr {n : Nat} {f g : Nat → Int} (h : ∀ i, i < n → f i = g i) : byts n f = byts n g := by
  unfold byts
  refine List.map_congr_left fun i hi => ?_
  rw [h i (List.mem_range.1 hi)]
theorem byts_size (n : Nat) (f : Nat → Int) : (byts n f).toArray.size = n := by simp [byts_len]
theorem byts_all (n : Nat) (f : Nat → Int) : (byts n f).toArray.all (·.oneCell') = true := all_oneCell_toArray (byts_one n f)

/-- of the world nothing has turned but blocks a and b, and what was made -/
structure Kp (w w' : World) (a b : Nat) : Prop where
  os : w'.os = w.os
  tape : w'.tape = w.tape
  output : w'.output = w.output
  size : w.heap.size ≤ w'.heap.size
  block : ∀ k, k < w.heap.size → k ≠ a → k ≠ b → w'.heap[k]? = w.heap[k]?
theorem Kp.refl (w : World) (a b : Nat) : Kp w w a b := ⟨rfl, rfl, rfl, Nat.le_refl _, fun _ _ _ _ => rfl⟩
theorem Kp.trans {w1 w2 w3 : World} {a b : Nat} (h : Kp w1 w2 a b) (k : Kp w2 w3 a b) : Kp w1 w3 a b :=
  ⟨k.os.trans h.os, k.tape.trans h.tape, k.output.trans h.output, Nat.le_trans h.size k.size, fun i hi h1 h2 => (k.block i (Nat.lt_of_lt_of_le hi h.size) h1 h2).trans (h.block i hi h1 h2)⟩
theorem Kp.of_below {w w' : World} (h : Below w.heap.size w w') (a b : Nat) : Kp w w' a b := ⟨h.os, h.tape, h.output, h.size, fun k hk _ _ => h.block k hk⟩
theorem Kp.below {w w' : World} {a b B : Nat} (h : Kp w w' a b) (ha : B ≤ a) (hb : B ≤ b) (hB : B ≤ w.heap.size) : Below B w w' :=
  ⟨h.os, h.tape, h.output, h.size, fun k hk => h.block k (by omega) (by omega) (by omega)⟩
theorem Kp.alloc {w w' : World} {a b : Nat} (h : Kp w w' a b) (o : Obj) : Kp w (w'.alloc o) a b := h.trans (Kp.of_below ((Below.refl _ _).alloc (Nat.le_refl _) o) a b)
theorem Kp.drew {w w' : World} {a b : Nat} (h : Kp w w' a b) : Kp w w'.drew a b := h.trans (Kp.of_below (Below.refl _ _).drew a b)
theorem Kp.setCell {w w' : World} {a b : Nat} (h : Kp w w' a b) (p : Addr) (hp : p.block = a ∨ p.block = b) (v : Value) : Kp w (w'.setCell p v) a b :=
  h.trans ⟨rfl, rfl, rfl, by simp [World.setCell], fun k _ h1 h2 => Below.heap_setCell _ _ _ _ (by omega)⟩
/-- a store into a block that was made since -/
theorem Kp.setNew {w w' : World} {a b : Nat} (h : Kp w w' a b) (p : Addr) (hp : w.heap.size ≤ p.block) (v : Value) : Kp w (w'.setCell p v) a b :=
  ⟨h.os, h.tape, h.output, Nat.le_trans h.size (by simp [World.setCell]), fun k hk h1 h2 => (Below.heap_setCell _ _ _ _ (by omega)).trans (h.block k hk h1 h2)⟩
theorem heap_setCells (b : Nat) : ∀ (vs : List Value) (o : Nat) (w : World) (k : Nat), k ≠ b → (w.setCells b o vs).heap[k]? = w.heap[k]?
  | [], _, _, _, _ => rfl
  | v :: r, o, w, k, h => by rw [World.setCells, heap_setCells b r (o + 1) _ k h, Below.heap_setCell _ _ _ _ (by exact h)]
theorem setCells_rest (b : Nat) : ∀ (vs : List Value) (o : Nat) (w : World), (w.setCells b o vs).os = w.os ∧ (w.setCells b o vs).tape = w.tape ∧ (w.setCells b o vs).output = w.output ∧ (w.setCells b o vs).heap.size = w.heap.size
  | [], _, _ => ⟨rfl, rfl, rfl, rfl⟩
  | v :: r, o, w => by
    obtain ⟨h1, h2, h3, h4⟩ := setCells_rest b r (o + 1) (w.setCell ⟨b, o, none⟩ v)
    exact ⟨h1, h2, h3, h4.trans (by simp [World.setCell])⟩
theorem size_setCells (w : World) (b o : Nat) (vs : List Value) : (w.setCells b o vs).heap.size = w.heap.size := (setCells_rest b vs o w).2.2.2
theorem Kp.setCells {w w' : World} {a b : Nat} (h : Kp w w' a b) (g o : Nat) (hg : g = a ∨ g = b) (vs : List Value) : Kp w (w'.setCells g o vs) a b := by
  obtain ⟨h1, h2, h3, h4⟩ := setCells_rest g vs o w'
  exact h.trans ⟨h1, h2, h3, by omega, fun k _ h5 h6 => heap_setCells g vs o w' k (by omega)⟩
theorem below_setCells {B : Nat} {w w' : World} (h : Below B w w') (g o : Nat) (hg : B ≤ g) (vs : List Value) : Below B w (w'.setCells g o vs) := by
  obtain ⟨h1, h2, h3, h4⟩ := setCells_rest g vs o w'
  exact h.trans ⟨h1, h2, h3, by omega, fun k h5 => heap_setCells g vs o w' k (by omega)⟩
theorem Kp.cell {w w' : World} {a b : Nat} (h : Kp w w' a b) {p : Addr} (hp : p.block < w.heap.size) (h1 : p.block ≠ a) (h2 : p.block ≠ b) : w'.cell? p = w.cell? p := World.cell?_of_block (w := w) (h.block p.block hp h1 h2)
theorem Kp.frozen {w w' : World} {a b : Nat} (h : Kp w w' a b) {p : Addr} (hp : p.block < w.heap.size) (h1 : p.block ≠ a) (h2 : p.block ≠ b) : w'.frozen? p = w.frozen? p := World.frozen?_of_block (w := w) (h.block p.block hp h1 h2)

/-- block g has N bytes, which may be written -/
structure Fl (w : World) (g N : Nat) (f : Nat → Int) : Prop where
  lt : g < w.heap.size
  c : ∀ j, j < N → w.cell? ⟨g, j, none⟩ = some (.int .u8 (f j))
  z : ∀ j, j < N → w.frozen? ⟨g, j, none⟩ = false
theorem Fl.below {w w' : World} {B g N : Nat} {f : Nat → Int} (h : Fl w g N f) (hb : Below B w w') (hg : g < B) : Fl w' g N f :=
  ⟨Nat.lt_of_lt_of_le h.lt hb.size, fun j hj => (hb.cell (p := ⟨g, j, none⟩) hg).trans (h.c j hj), fun j hj => (hb.frozen (p := ⟨g, j, none⟩) hg).trans (h.z j hj)⟩
theorem Fl.kp {w w' : World} {a b g N : Nat} {f : Nat → Int} (h : Fl w g N f) (hb : Kp w w' a b) (h1 : g ≠ a) (h2 : g ≠ b) : Fl w' g N f :=
  ⟨Nat.lt_of_lt_of_le h.lt hb.size, fun j hj => (hb.cell (p := ⟨g, j, none⟩) h.lt h1 h2).trans (h.c j hj), fun j hj => (hb.frozen (p := ⟨g, j, none⟩) h.lt h1 h2).trans (h.z j hj)⟩
theorem Fl.far {w : World} {g N : Nat} {f : Nat → Int} (h : Fl w g N f) (p : Addr) (hp : p.block ≠ g) (v : Value) : Fl (w.setCell p v) g N f :=
  ⟨by simpa [World.setCell] using h.lt, fun j hj => by rw [World.cell?_setCell_far w p _ v (by exact hp)]; exact h.c j hj, fun j hj => by simpa using h.z j hj⟩
theorem Fl.range {w : World} {g N : Nat} {f : Nat → Int} (h : Fl w g N f) (o n : Nat) (hn : o + n ≤ N) : w.rangeAt g o (byts n fun i => f (o + i)) := fun j v hj => by
  obtain ⟨h1, rfl⟩ := byts_of hj
  exact h.c (o + j) (by omega)
theorem Fl.there {w : World} {g N : Nat} {f : Nat → Int} (h : Fl w g N f) (o n : Nat) (hn : o + n ≤ N) : w.there g o n := fun j hj =>
  ⟨by rw [h.c (o + j) (by omega)]; rfl, h.z (o + j) (by omega)⟩
theorem Fl.congr {w : World} {g N : Nat} {f f' : Nat → Int} (h : Fl w g N f) (he : ∀ j, j < N → f j = f' j) : Fl w g N f' := ⟨h.lt, fun j hj => by rw [← he j hj]; exact h.c j hj, h.z⟩
/-- n bytes laid over, from place o on -/
def upd (f : Nat → Int) (o n : Nat) (b : Nat → Int) : Nat → Int := fun j => if o ≤ j ∧ j < o + n then b (j - o) else f j
theorem Fl.store {w : World} {g N : Nat} {f : Nat → Int} (h : Fl w g N f) (o n : Nat) (hn : o + n ≤ N) (b : Nat → Int) : Fl (w.setCells g o (byts n b)) g N (upd f o n b) := by
  refine ⟨by rw [size_setCells]; exact h.lt, fun j hj => ?_, fun j hj => by rw [World.frozen?_setCells]; exact h.z j hj⟩
  unfold upd
  by_cases hh : o ≤ j ∧ j < o + n
  · rw [if_pos hh]
    have := World.cell?_setCells_in g (byts n b) o w (fun i hi => (h.there o n hn i (by rwa [byts_len] at hi)).1) (j - o) (by rw [byts_len]; omega)
    rw [show o + (j - o) = j by omega] at this
    rw [this]
    simp [byts]
  · rw [if_neg hh, World.cell?_setCells_out g (byts n b) o w _ (fun _ _ => by rw [byts_len]; show j < o ∨ o + n ≤ j; omega)]
    exact h.c j hj
theorem Fl.new (w : World) (N : Nat) (f : Nat → Int) (t : TypeId) : Fl (w.alloc (.cells (byts N f).toArray t)) w.heap.size N f := by
  refine ⟨by simp, fun j hj => ?_, fun j _ => by simp⟩
  rw [World.cell?_alloc_at _ _ _ _ rfl]
  simpa using byts_get f hj
theorem Fl.made (w : World) (c : Nat) (t : TypeId) : Fl (w.alloc (.cells (madeCells (byts 64 fun _ => 0).toArray (c * 64)) t)) w.heap.size (c * 64) (fun _ => 0) := by
  refine ⟨by simp, fun j hj => ?_, fun j _ => by simp⟩
  rw [World.cell?_alloc_at _ _ _ _ rfl]
  have h1 : j % 64 < 64 := Nat.mod_lt _ (by decide)
  simp [madeCells, byts_len, hj, byts, h1]

/-! ### copy, by elements of several cells -/
theorem run_copy_mid {P : Program} (w : World) (dT sT ty elem : TypeId) (sz b o dLen dCap : Nat) (sp : Option Addr) (sLen sCap : Nat) (cs : List Value)
    (hu : P.underlying dT = some (.slice elem)) (hs : (P.info? elem).map (·.size) = some sz) (hn : cs.length = Nat.min sLen dLen * sz)
    (hpos : 0 < cs.length → ∃ ad, sp = some ad ∧ ∀ j v, cs[j]? = some v → w.cell? (ad.add j) = some v) (ht : w.there b o cs.length) (h1 : ∀ v ∈ cs, v.oneCell' = true) :
    (Builtin.copy_ #[dT, sT] ty #[.slice (some ⟨b, o, none⟩) dLen dCap, .slice sp sLen sCap]).run P w = .ok (goInt (Nat.min sLen dLen)) (w.setCells b o cs) := by
  have hst := run_storeCells_cells (P := P) b o cs 0 w (fun j hj => by simpa using (ht j hj).1) (fun j hj => by simpa using (ht j hj).2) h1
  simp only [Nat.add_zero] at hst
  cases hq : P.info? elem with
  | none => simp [hq] at hs
  | some i =>
    have hi : i.size = sz := by simpa [hq] using hs
    by_cases h0 : cs.length = 0
    · obtain rfl : cs = [] := List.eq_nil_of_length_eq_zero h0
      rw [List.length_nil] at hn
      have hl : ∀ (x : Addr), (loadCells x 0).run P w = .ok #[] w := fun x => by simpa using run_loadCells_list (P := P) w x [] (by simp)
      cases sp <;> simp [Builtin.copy_, run_underlying hu, Builtin.lenOf, Builtin.firstCells, sizeOf, typeInfo, hq, hi, ← hn, hl, storeCells, World.setCells]
    · obtain ⟨ad, rfl, hsrc⟩ := hpos (by omega)
      have hl := run_loadCells_list (P := P) w ad cs hsrc
      simp [Builtin.copy_, run_underlying hu, Builtin.lenOf, Builtin.firstCells, sizeOf, typeInfo, hq, hi, ← hn, hl, hst]
theorem wpList_copy_mid {P : Program} {w : World} {ops : Array Oper} {rest : List Oper} {o : Oper} {a : Act} {Q : Exit → Act → World → Prop} (hgd : o.guard = none) (d s : Operand) (dT sT : TypeId)
    (ho : o.op = .call { callee := .builtin .copy, args := #[d, s], argTypes := #[dT, sT] }) (elem : TypeId) (hu : P.underlying dT = some (.slice elem)) (sz : Nat) (hsz : (P.info? elem).map (·.size) = some sz)
    (b off dLen dCap : Nat) (sp : Option Addr) (sLen sCap : Nat) (hd : a.eval d = .slice (some ⟨b, off, none⟩) dLen dCap) (hs : a.eval s = .slice sp sLen sCap)
    (cs : List Value) (hn : cs.length = Nat.min sLen dLen * sz) (hpos : 0 < cs.length → ∃ ad, sp = some ad ∧ ∀ j v, cs[j]? = some v → w.cell? (ad.add j) = some v) (ht : w.there b off cs.length) (h1 : ∀ v ∈ cs, v.oneCell' = true)
    (h : wpList P ops Q rest (a.put o.dst (goInt (Nat.min sLen dLen))) (w.setCells b off cs)) : wpList P ops Q (o :: rest) a w := by
  refine wpList_plain hgd fun K hK => ?_
  have hrun := run_copy_mid (P := P) w dT sT o.type elem sz b off dLen dCap sp sLen sCap cs hu hsz hn hpos ht h1
  unfold Oper.wp
  simp [execOp, ho, resolve, invoke, builtin, hd, hs, hrun, Result.andThen]
  exact hK _ _ h

/-! ### blocks compared -/
def eqb (n : Nat) (f g : Nat → Int) : Bool := (List.range n).all fun i => f i == g i
theorem eqb_iff (n : Nat) (f g : Nat → Int) : eqb n f g = true ↔ ∀ i, i < n → f i = g i := by simp [eqb]
theorem eqb_same {n : Nat} {f g : Nat → Int} (h : ∀ i, i < n → f i = g i) : eqb n f g = true := (eqb_iff n f g).2 h
theorem Tryz.arr36 : Tryz.prog.underlying 59 = some (.array 64 5) := by kernel_rfl
theorem Tryz.int5 : Tryz.prog.underlying 5 = some (.int .u8) := by kernel_rfl
theorem Tryz.info5 : (Tryz.prog.info? 5).map (·.size) = some 1 := by kernel_rfl
theorem Tryz.cells5 : Tryz.prog.cellsOf 5 = 1 := by kernel_rfl
theorem eqItems_byts (n d : Nat) (f g : Nat → Int) (w : World) : ∀ is : List Nat, (∀ i ∈ is, i < n) → (Op.eqItems (d + 1) 5 1 (byts n f).toArray (byts n g).toArray is).run Tryz.prog w = .ok (is.all fun i => f i == g i) w
  | [], _ => by simp [Op.eqItems]
  | i :: is, h => by
    have hi := h i (by simp)
    have ih := eqItems_byts n d f g w is (fun j hj => h j (by simp [hj]))
    have hag : (isAgg 5).run Tryz.prog w = .ok false w := by
      unfold isAgg
      rw [Sem.run_bind, run_underlying Tryz.int5 w]
      rfl
    have p1 : ∀ f : Nat → Int, (part 5 (byts n f).toArray (i * 1)).run Tryz.prog w = .ok (.int .u8 (f i)) w := fun f => by
      simp [part, Sem.run_bind, hag, byts_get f hi]
    simp only [Op.eqItems, Sem.run_bind, p1, Result.andThen_ok, run_equalIn_int w d 5 .u8 .u8 _ _ Tryz.int5, List.all_cons]
    cases hb : (f i == g i)
    · simp
    · simpa using ih
theorem eq36 (f g : Nat → Int) (w : World) : (Op.equalIn 10000 59 (.agg (byts 64 f).toArray) (.agg (byts 64 g).toArray)).run Tryz.prog w = .ok (eqb 64 f g) w := by
  obtain ⟨i, hi⟩ : ∃ i, Tryz.prog.info? 5 = some i := by
    have := Tryz.info5
    cases h : Tryz.prog.info? 5 with
    | none => simp [h] at this
    | some i => exact ⟨i, rfl⟩
  rw [run_equalIn_array w 9999 (byts 64 f).toArray (byts 64 g).toArray Tryz.arr36 hi, Tryz.cells5]
  exact eqItems_byts 64 9998 f g w (List.range 64) (fun j hj => List.mem_range.1 hj)

/-! ### results that are a cell -/
theorem results_mid {P : Program} {fn : Func} {p : Tmp} {ty : TypeId} (h : fn.results = #[.cell p ty]) (tmps : Array Value) (w : World) (b : Nat) (cs : List Value) (d : TypeDesc)
    (hp : tmps.getD p undef = .pointer (some ⟨b, 0, none⟩)) (hc : w.rangeAt b 0 cs) (hu : P.underlying ty = some d) (hd : d.isRow = true) (hi : (P.info? ty).map (·.size) = some cs.length) :
    (results fn tmps).run P w = .ok (.agg cs.toArray) w := by
  have hp' : tmps[p]?.getD undef = .pointer (some ⟨b, 0, none⟩) := by simpa using hp
  simp [results, h, hp', asAddr, run_loadVar_mid w b 0 ty cs d hc hu hd hi]
theorem results_mid_tmp {P : Program} {fn : Func} {p u : Tmp} {ty : TypeId} (h : fn.results = #[.cell p ty, .tmp u]) (tmps : Array Value) (w : World) (b : Nat) (cs : List Value) (d : TypeDesc)
    (hp : tmps.getD p undef = .pointer (some ⟨b, 0, none⟩)) (hc : w.rangeAt b 0 cs) (hu : P.underlying ty = some d) (hd : d.isRow = true) (hi : (P.info? ty).map (·.size) = some cs.length) :
    (results fn tmps).run P w = .ok (.tuple #[.agg cs.toArray, tmps.getD u undef]) w := by
  rw [results_cell_tmp h, hp]
  simp [asAddr, run_loadVar_mid w b 0 ty cs d hc hu hd hi]

/-! ### a block as a variable, as a zero, as a box -/
theorem wpList_alloc_byts {P : Program} {ops : Array Oper} {rest : List Oper} {op : Oper} {a : Act} {w : World} {Q : Exit → Act → World → Prop} (hgd : op.guard = none) (ty : TypeId) (n : Nat) (ho : op.op = .alloc ty)
    (hz : (P.info? ty).map (fun i => i.zero) = some (some (.agg (byts n fun _ => 0).toArray)))
    (h : ∀ w', Hid (Fl w' w.heap.size n fun _ => 0) → Below w.heap.size w w' → w'.heap.size = w.heap.size + 1 → wpList P ops Q rest (a.put op.dst (.pointer (some ⟨w.heap.size, 0, none⟩))) w') : wpList P ops Q (op :: rest) a w := by
  refine wpList_plain hgd fun K hK => ?_
  have hr : (Instr.alloc ty true (.tuple #[])).run P w = .ok (.pointer (some ⟨w.heap.size, 0, none⟩)) (w.alloc (.cells (byts n fun _ => 0).toArray ty)) := by
    cases hq : P.info? ty with
    | none => simp [hq] at hz
    | some i =>
      simp [hq] at hz
      simp [Instr.alloc, zeroValue, typeInfo, hq, hz, newVar, newRow, Value.cells]
  unfold Oper.wp
  simp [execOp, ho, hr, Result.andThen]
  exact hK _ _ (h _ (Fl.new w n _ ty) ((Below.refl _ _).alloc (Nat.le_refl _) _) (by simp))
theorem wpList_build_byts {P : Program} {ops : Array Oper} {rest : List Oper} {op : Oper} {a : Act} {w : World} {Q : Exit → Act → World → Prop} (hgd : op.guard = none) (ty e : TypeId) (n : Nat) (ho : op.op = .build ty #[])
    (hu : P.underlying ty = some (.array n e)) (hz : (P.info? ty).map (fun i => i.zero) = some (some (.agg (byts n fun _ => 0).toArray))) (he : ((P.info? e).map (·.size)).isSome = true)
    (h : wpList P ops Q rest (a.put op.dst (.agg (byts n fun _ => 0).toArray)) w) : wpList P ops Q (op :: rest) a w := by
  refine wpList_plain hgd fun K hK => ?_
  have hr : (Instr.build ty #[]).run P w = .ok (.agg (byts n fun _ => 0).toArray) w := by
    cases hq : P.info? ty with
    | none => simp [hq] at hz
    | some i =>
      simp [hq] at hz
      cases hq2 : P.info? e with
      | none => simp [hq2] at he
      | some j => simp [Instr.build, zeroValue, sizeOf, typeInfo, hq, hq2, hz, Value.cells, run_underlying hu, Instr.fill]
  unfold Oper.wp
  simp [execOp, ho, hr, Result.andThen]
  exact hK _ _ h
theorem wpList_box_byts {P : Program} {ops : Array Oper} {rest : List Oper} {op : Oper} {a : Act} {w : World} {Q : Exit → Act → World → Prop} (hgd : op.guard = none) (ty : TypeId) (x : Operand) (n : Nat) (ho : op.op = .box ty x) (f : Nat → Int) (hx : a.eval x = .agg (byts n f).toArray)
    (h : ∀ w', Hid (Fl w' w.heap.size n f) → Below w.heap.size w w' → w'.heap.size = w.heap.size + 1 → wpList P ops Q rest (a.put op.dst (.pointer (some ⟨w.heap.size, 0, none⟩))) w') : wpList P ops Q (op :: rest) a w := by
  refine wpList_plain hgd fun K hK => ?_
  have hr : (Instr.box ty (.agg (byts n f).toArray)).run P w = .ok (.pointer (some ⟨w.heap.size, 0, none⟩)) (w.alloc (.cells (byts n f).toArray ty)) := by
    simp [Instr.box, newVar, newRow, Value.cells]
  unfold Oper.wp
  simp [execOp, ho, hx, hr, Result.andThen]
  exact hK _ _ (h _ (Fl.new w n f ty) ((Below.refl _ _).alloc (Nat.le_refl _) _) (by simp))
theorem Tryz.zero36 : (Tryz.prog.info? 59).map (fun i => i.zero) = some (some (.agg (byts 64 fun _ => 0).toArray)) := by kernel_rfl
theorem Tryz.size36 : (Tryz.prog.info? 59).map (·.size) = some (byts 64 fun _ => 0).length := by kernel_rfl
theorem size36 (f : Nat → Int) : (Tryz.prog.info? 59).map (·.size) = some (byts 64 f).length := by rw [Tryz.size36, byts_len, byts_len]
theorem size36' (f : Nat → Int) : (Tryz.prog.info? 59).map (·.size) = some (byts 64 f).toArray.size := by rw [Tryz.size36, byts_len, byts_size]
theorem Tryz.info36 : (Tryz.prog.info? 59).map (fun i => (i.zero, i.size, i.bytes)) = some (some (.agg (byts 64 fun _ => 0).toArray), 64, 64) := by kernel_rfl

theorem Kp.setA {w w' : World} {a b : Nat} (h : Kp w w' a b) (o : Nat) (v : Value) : Kp w (w'.setCell ⟨a, o, none⟩ v) a b := h.setCell ⟨a, o, none⟩ (.inl rfl) v

/-! ### the disk -/
structure DS where
  n : Nat
  f : Nat → Int
  ar : Bool
  lf : Int
  de : Bool
  rd : Int
  wr : Int
/-- block d holds a disk in this state, whose blocks lie in block g -/
structure Dk (w : World) (d g : Nat) (s : DS) : Prop where
  lt : d < w.heap.size
  ne : g ≠ d
  c0 : w.cell? ⟨d, 0, none⟩ = some (.slice (some ⟨g, 0, none⟩) s.n s.n)
  c1 : w.cell? ⟨d, 1, none⟩ = some (.bool s.ar)
  c2 : w.cell? ⟨d, 2, none⟩ = some (.int .i64 s.lf)
  c3 : w.cell? ⟨d, 3, none⟩ = some (.bool s.de)
  c4 : w.cell? ⟨d, 4, none⟩ = some (.int .i64 s.rd)
  c5 : w.cell? ⟨d, 5, none⟩ = some (.int .i64 s.wr)
  z1 : w.frozen? ⟨d, 1, none⟩ = false
  z2 : w.frozen? ⟨d, 2, none⟩ = false
  z3 : w.frozen? ⟨d, 3, none⟩ = false
  z4 : w.frozen? ⟨d, 4, none⟩ = false
  z5 : w.frozen? ⟨d, 5, none⟩ = false
  fl : Fl w g (s.n * 64) s.f
theorem Dk.below {w w' : World} {B d g : Nat} {s : DS} (h : Dk w d g s) (hb : Below B w w') (hd : d < B) (hg : g < B) : Dk w' d g s :=
  ⟨Nat.lt_of_lt_of_le h.lt hb.size, h.ne, (hb.cell (p := ⟨d, 0, none⟩) hd).trans h.c0, (hb.cell (p := ⟨d, 1, none⟩) hd).trans h.c1, (hb.cell (p := ⟨d, 2, none⟩) hd).trans h.c2, (hb.cell (p := ⟨d, 3, none⟩) hd).trans h.c3, (hb.cell (p := ⟨d, 4, none⟩) hd).trans h.c4, (hb.cell (p := ⟨d, 5, none⟩) hd).trans h.c5,
    (hb.frozen (p := ⟨d, 1, none⟩) hd).trans h.z1, (hb.frozen (p := ⟨d, 2, none⟩) hd).trans h.z2, (hb.frozen (p := ⟨d, 3, none⟩) hd).trans h.z3, (hb.frozen (p := ⟨d, 4, none⟩) hd).trans h.z4, (hb.frozen (p := ⟨d, 5, none⟩) hd).trans h.z5, h.fl.below hb hg⟩
theorem Dk.keep {w w' : World} {d g : Nat} {s : DS} (h : Dk w d g s) (hb : Below w.heap.size w w') : Dk w' d g s := h.below hb h.lt h.fl.lt
theorem Dk.kp {w w' : World} {a b d g : Nat} {s : DS} (h : Dk w d g s) (hb : Kp w w' a b) (h1 : d ≠ a) (h2 : d ≠ b) (h3 : g ≠ a) (h4 : g ≠ b) : Dk w' d g s :=
  ⟨Nat.lt_of_lt_of_le h.lt hb.size, h.ne, (hb.cell (p := ⟨d, 0, none⟩) h.lt h1 h2).trans h.c0, (hb.cell (p := ⟨d, 1, none⟩) h.lt h1 h2).trans h.c1, (hb.cell (p := ⟨d, 2, none⟩) h.lt h1 h2).trans h.c2, (hb.cell (p := ⟨d, 3, none⟩) h.lt h1 h2).trans h.c3, (hb.cell (p := ⟨d, 4, none⟩) h.lt h1 h2).trans h.c4, (hb.cell (p := ⟨d, 5, none⟩) h.lt h1 h2).trans h.c5,
    (hb.frozen (p := ⟨d, 1, none⟩) h.lt h1 h2).trans h.z1, (hb.frozen (p := ⟨d, 2, none⟩) h.lt h1 h2).trans h.z2, (hb.frozen (p := ⟨d, 3, none⟩) h.lt h1 h2).trans h.z3, (hb.frozen (p := ⟨d, 4, none⟩) h.lt h1 h2).trans h.z4, (hb.frozen (p := ⟨d, 5, none⟩) h.lt h1 h2).trans h.z5, h.fl.kp hb h3 h4⟩
theorem cell_set_same {w : World} {d o : Nat} {u : Value} (h : w.cell? ⟨d, o, none⟩ = some u) (v : Value) : (w.setCell ⟨d, o, none⟩ v).cell? ⟨d, o, none⟩ = some v := World.cell?_setCell_same _ _ _ h
theorem cell_set_other {w : World} {d o o' : Nat} {u : Value} (h : w.cell? ⟨d, o, none⟩ = some u) (v : Value) (hne : o' ≠ o) : (w.setCell ⟨d, o', none⟩ v).cell? ⟨d, o, none⟩ = some u := by
  rw [World.cell?_setCell_other _ _ _ _ (by simp [hne])]; exact h
theorem frozen_set {w : World} {d o d' o' : Nat} (h : w.frozen? ⟨d, o, none⟩ = false) (v : Value) : (w.setCell ⟨d', o', none⟩ v).frozen? ⟨d, o, none⟩ = false := by rw [World.frozen?_setCell]; exact h
theorem lt_set {w : World} {d : Nat} (h : d < w.heap.size) (p : Addr) (v : Value) : d < (w.setCell p v).heap.size := by simpa [World.setCell] using h
theorem Dk.set1 {w : World} {d g : Nat} {s : DS} (h : Dk w d g s) (b : Bool) : Dk (w.setCell ⟨d, 1, none⟩ (.bool b)) d g { s with ar := b } :=
  ⟨lt_set h.lt _ _, h.ne, cell_set_other h.c0 _ (by decide), cell_set_same h.c1 _, cell_set_other h.c2 _ (by decide), cell_set_other h.c3 _ (by decide), cell_set_other h.c4 _ (by decide), cell_set_other h.c5 _ (by decide), frozen_set h.z1 _, frozen_set h.z2 _, frozen_set h.z3 _, frozen_set h.z4 _, frozen_set h.z5 _, h.fl.far _ (fun e => h.ne e.symm) _⟩
theorem Dk.set2 {w : World} {d g : Nat} {s : DS} (h : Dk w d g s) (x : Int) : Dk (w.setCell ⟨d, 2, none⟩ (.int .i64 x)) d g { s with lf := x } :=
  ⟨lt_set h.lt _ _, h.ne, cell_set_other h.c0 _ (by decide), cell_set_other h.c1 _ (by decide), cell_set_same h.c2 _, cell_set_other h.c3 _ (by decide), cell_set_other h.c4 _ (by decide), cell_set_other h.c5 _ (by decide), frozen_set h.z1 _, frozen_set h.z2 _, frozen_set h.z3 _, frozen_set h.z4 _, frozen_set h.z5 _, h.fl.far _ (fun e => h.ne e.symm) _⟩
theorem Dk.set3 {w : World} {d g : Nat} {s : DS} (h : Dk w d g s) (b : Bool) : Dk (w.setCell ⟨d, 3, none⟩ (.bool b)) d g { s with de := b } :=
  ⟨lt_set h.lt _ _, h.ne, cell_set_other h.c0 _ (by decide), cell_set_other h.c1 _ (by decide), cell_set_other h.c2 _ (by decide), cell_set_same h.c3 _, cell_set_other h.c4 _ (by decide), cell_set_other h.c5 _ (by decide), frozen_set h.z1 _, frozen_set h.z2 _, frozen_set h.z3 _, frozen_set h.z4 _, frozen_set h.z5 _, h.fl.far _ (fun e => h.ne e.symm) _⟩
theorem Dk.set4 {w : World} {d g : Nat} {s : DS} (h : Dk w d g s) (x : Int) : Dk (w.setCell ⟨d, 4, none⟩ (.int .i64 x)) d g { s with rd := x } :=
  ⟨lt_set h.lt _ _, h.ne, cell_set_other h.c0 _ (by decide), cell_set_other h.c1 _ (by decide), cell_set_other h.c2 _ (by decide), cell_set_other h.c3 _ (by decide), cell_set_same h.c4 _, cell_set_other h.c5 _ (by decide), frozen_set h.z1 _, frozen_set h.z2 _, frozen_set h.z3 _, frozen_set h.z4 _, frozen_set h.z5 _, h.fl.far _ (fun e => h.ne e.symm) _⟩
theorem Dk.set5 {w : World} {d g : Nat} {s : DS} (h : Dk w d g s) (x : Int) : Dk (w.setCell ⟨d, 5, none⟩ (.int .i64 x)) d g { s with wr := x } :=
  ⟨lt_set h.lt _ _, h.ne, cell_set_other h.c0 _ (by decide), cell_set_other h.c1 _ (by decide), cell_set_other h.c2 _ (by decide), cell_set_other h.c3 _ (by decide), cell_set_other h.c4 _ (by decide), cell_set_same h.c5 _, frozen_set h.z1 _, frozen_set h.z2 _, frozen_set h.z3 _, frozen_set h.z4 _, frozen_set h.z5 _, h.fl.far _ (fun e => h.ne e.symm) _⟩
theorem Dk.setB {w : World} {d g : Nat} {s : DS} (h : Dk w d g s) (o : Nat) (ho : o + 64 ≤ s.n * 64) (b : Nat → Int) : Dk (w.setCells g o (byts 64 b)) d g { s with f := upd s.f o 64 b } := by
  have hc : ∀ i, (w.setCells g o (byts 64 b)).cell? ⟨d, i, none⟩ = w.cell? ⟨d, i, none⟩ := fun i => World.cell?_setCells_out g _ o w _ (fun e _ => absurd e.symm h.ne)
  have hz : ∀ i, (w.setCells g o (byts 64 b)).frozen? ⟨d, i, none⟩ = w.frozen? ⟨d, i, none⟩ := fun i => World.frozen?_setCells g _ o w _
  exact ⟨by rw [size_setCells]; exact h.lt, h.ne, (hc 0).trans h.c0, (hc 1).trans h.c1, (hc 2).trans h.c2, (hc 3).trans h.c3, (hc 4).trans h.c4, (hc 5).trans h.c5, (hz 1).trans h.z1, (hz 2).trans h.z2, (hz 3).trans h.z3, (hz 4).trans h.z4, (hz 5).trans h.z5, h.fl.store o 64 ho b⟩

set_option maxHeartbeats 1000000 in
theorem len_any (d g : Nat) (s : DS) (hn : s.n ≤ 65536) (w : World) (h : Dk w d g s) : Calls Tryz.prog 88 #[.pointer (some ⟨d, 0, none⟩)] w fun e w' => e = .returned (.int .i64 s.n) ∧ w' = w := by
  have c0 := h.c0
  clear h
  go_enter Tryz.func88, Tryz.ntmps88
  go_wp2
  go_ret
  exact ⟨rfl, rfl⟩
theorem Kp.setCellsNew {w w' : World} {a b : Nat} (h : Kp w w' a b) (g o : Nat) (hg : w.heap.size ≤ g) (vs : List Value) : Kp w (w'.setCells g o vs) a b := by
  obtain ⟨h1, h2, h3, h4⟩ := setCells_rest g vs o w'
  exact ⟨h1.trans h.os, h2.trans h.tape, h3.trans h.output, by have := h.size; omega, fun k hk h5 h6 => (heap_setCells g vs o w' k (by omega)).trans (h.block k hk h5 h6)⟩
theorem Fl.stored {w : World} {g N : Nat} {f : Nat → Int} (h : Fl w g N f) (b : Nat → Int) : Fl (w.setCells g 0 (byts N b)) g N b := by
  refine (h.store 0 N (by omega) b).congr fun j hj => ?_
  unfold upd
  rw [if_pos (by omega), Nat.sub_zero]
theorem Fl.range0 {w : World} {g N : Nat} {f : Nat → Int} (h : Fl w g N f) : w.rangeAt g 0 (byts N f) := by
  have := h.range 0 N (by omega)
  rwa [byts_congr (fun i _ => by rw [Nat.zero_add])] at this

set_option maxHeartbeats 2000000 in
set_option maxRecDepth 100000 in
theorem read_in (d g : Nat) (s : DS) (k : Nat) (hk : k < s.n) (hn : s.n ≤ 65536) (hr0 : 0 ≤ s.rd) (hr1 : s.rd < 1000000000) (w : World) (h : Dk w d g s) :
    Calls Tryz.prog 96 #[.pointer (some ⟨d, 0, none⟩), .int .i64 k] w fun e w' => e = .returned (.tuple #[.agg (byts 64 fun i => s.f (k * 64 + i)).toArray, .int .i64 0]) ∧ Dk w' d g { s with rd := s.rd + 1 } ∧ Kp w w' d g := by
  have H := Lib.hid h
  have hd0 := h.lt
  have hg0 := h.fl.lt
  clear h
  have h0 : (0 : Int) ≤ k := by omega
  have h1 : (k : Int) < s.n := by omega
  go_enter Tryz.func96, Tryz.ntmps96
  go_wp2_with (first | (refine wpList_alloc_byts rfl 59 64 rfl Tryz.zero36 ?_; intro w1 F1 hb1 hz1; have H1 := Lib.hid (H.out.keep hb1); have c0 := H1.out.c0; have c4 := H1.out.c4; have z4 := H1.out.z4; have hd1 := H1.out.lt; have hb1' := Lib.hid hb1; clear hb1) | (refine wpList_load_mid rfl 59 _ rfl g (k * 64) rfl (byts 64 fun i => s.f (k * 64 + i)) (.array 64 5) ((H1.out.set4 _).fl.range (k * 64) 64 (by show k * 64 + 64 ≤ s.n * 64; omega)) Tryz.arr36 rfl (size36 _) ?_) | (refine wpList_store_mid rfl 59 _ _ rfl w.heap.size 0 (byts 64 fun i => s.f (k * 64 + i)).toArray rfl rfl (by rw [byts_size]; exact (F1.out.far _ (by show d ≠ w.heap.size; omega) _).there 0 64 (Nat.le_refl _)) (size36' _) (byts_all _ _) ?_))
  have F2 := (F1.out.far ⟨d, 4, none⟩ (by show d ≠ w.heap.size; omega) (.int .i64 (s.rd + 1))).stored (fun i => s.f (k * 64 + i))
  refine bodyPost_ret_by (results_mid_tmp rfl _ _ w.heap.size _ (.array 64 5) rfl F2.range0 Tryz.arr36 rfl (size36 _)) rfl ⟨rfl, ?_, ?_⟩
  · exact (H1.out.set4 _).below (below_setCells (Below.refl w.heap.size _) _ _ (Nat.le_refl _) _) hd0 hg0
  · exact ((Kp.of_below hb1'.out _ _).setA _ _).setCellsNew _ _ (Nat.le_refl _) _

set_option maxHeartbeats 2000000 in
set_option maxRecDepth 100000 in
theorem read_out (d g : Nat) (s : DS) (x : Int) (hx : x < 0 ∨ (s.n : Int) ≤ x) (hn : s.n ≤ 65536) (w : World) (h : Dk w d g s) :
    Calls Tryz.prog 96 #[.pointer (some ⟨d, 0, none⟩), .int .i64 x] w fun e w' => e = .returned (.tuple #[.agg (byts 64 fun _ => 0).toArray, .int .i64 27]) ∧ Below w.heap.size w w' := by
  have H := Lib.hid h
  clear h
  rcases hx with hx | hx
  · go_enter Tryz.func96, Tryz.ntmps96
    go_wp2_with (first | (refine wpList_alloc_byts rfl 59 64 rfl Tryz.zero36 ?_; intro w1 F1 hb1 hz1; have H1 := Lib.hid (H.out.keep hb1); have c0 := H1.out.c0; have hb1' := Lib.hid hb1; clear hb1) | (refine wpList_build_byts rfl 59 5 64 rfl Tryz.arr36 Tryz.zero36 (by kernel_rfl) ?_) | (refine wpList_store_mid rfl 59 _ _ rfl w.heap.size 0 (byts 64 fun _ => 0).toArray rfl rfl (by rw [byts_size]; exact F1.out.there 0 64 (Nat.le_refl _)) (size36' _) (byts_all _ _) ?_))
    have F2 := F1.out.stored (fun _ => 0)
    exact bodyPost_ret_by (results_mid_tmp rfl _ _ w.heap.size _ (.array 64 5) rfl F2.range0 Tryz.arr36 rfl (size36 _)) rfl ⟨rfl, below_setCells hb1'.out _ _ (Nat.le_refl _) _⟩
  · by_cases hx0 : x < 0
    · exfalso; omega
    · go_enter Tryz.func96, Tryz.ntmps96
      go_wp2_with (first | (refine wpList_alloc_byts rfl 59 64 rfl Tryz.zero36 ?_; intro w1 F1 hb1 hz1; have H1 := Lib.hid (H.out.keep hb1); have c0 := H1.out.c0; have hb1' := Lib.hid hb1; clear hb1) | (refine wpList_build_byts rfl 59 5 64 rfl Tryz.arr36 Tryz.zero36 (by kernel_rfl) ?_) | (refine wpList_store_mid rfl 59 _ _ rfl w.heap.size 0 (byts 64 fun _ => 0).toArray rfl rfl (by rw [byts_size]; exact F1.out.there 0 64 (Nat.le_refl _)) (size36' _) (byts_all _ _) ?_))
      have F2 := F1.out.stored (fun _ => 0)
      exact bodyPost_ret_by (results_mid_tmp rfl _ _ w.heap.size _ (.array 64 5) rfl F2.range0 Tryz.arr36 rfl (size36 _)) rfl ⟨rfl, below_setCells hb1'.out _ _ (Nat.le_refl _) _⟩
theorem step_store_mid {P : Program} {ops : Array Oper} {o : Oper} {a : Act} {w : World} {K : Act → World → Prop} {Q : Exit → Act → World → Prop} {E : Prop} (hgd : o.guard = none) (ty : TypeId) (x y : Operand) (ho : o.op = .store ty x y)
    (b off : Nat) (cells : Array Value) (hx : a.eval x = .pointer (some ⟨b, off, none⟩)) (hy : a.eval y = .agg cells)
    (ht : w.there b off cells.size) (hi : (P.info? ty).map (·.size) = some cells.size) (h1 : cells.all (·.oneCell') = true)
    (h : K (a.put o.dst undef) (w.setCells b off cells.toList)) : if Region.wanted o (yielded ops a.tmps) = true then Oper.wp P o a w K Q else E := by
  have hw : Region.wanted o (yielded ops a.tmps) = true := by simp [Region.wanted, hgd]
  rw [if_pos hw]
  exact wp_store_mid ty x y ho b off cells hx hy ht hi h1 h
/-- a write of block k that is there: what is answered, and how the disk stands then -/
def DS.write (s : DS) (k : Nat) (b : Nat → Int) : Int × DS :=
  if s.ar = true ∧ s.lf = 0 ∨ s.de = true then (24, { s with de := true })
  else (0, { s with f := upd s.f (k * 64) 64 b, lf := if s.ar = true then s.lf - 1 else s.lf, wr := s.wr + 1 })

set_option maxHeartbeats 2000000 in
set_option maxRecDepth 100000 in
theorem write_out (d g : Nat) (s : DS) (b : Nat → Int) (x : Int) (hx : x < 0 ∨ (s.n : Int) ≤ x) (hn : s.n ≤ 65536) (w : World) (h : Dk w d g s) :
    Calls Tryz.prog 103 #[.pointer (some ⟨d, 0, none⟩), .int .i64 x, .agg (byts 64 b).toArray] w fun e w' => e = .returned (.int .i64 27) ∧ Below w.heap.size w w' := by
  have H := Lib.hid h
  clear h
  by_cases hx0 : x < 0
  · go_enter Tryz.func103, Tryz.ntmps103
    go_wp2_with (refine wpList_box_byts rfl 59 _ 64 rfl b rfl ?_; intro w1 F1 hb1 hz1; have H1 := Lib.hid (H.out.keep hb1); have c0 := H1.out.c0; have hb1' := Lib.hid hb1; clear hb1)
    go_ret
    exact ⟨rfl, hb1'.out⟩
  · replace hx : (s.n : Int) ≤ x := by omega
    go_enter Tryz.func103, Tryz.ntmps103
    go_wp2_with (refine wpList_box_byts rfl 59 _ 64 rfl b rfl ?_; intro w1 F1 hb1 hz1; have H1 := Lib.hid (H.out.keep hb1); have c0 := H1.out.c0; have hb1' := Lib.hid hb1; clear hb1)
    go_ret
    exact ⟨rfl, hb1'.out⟩

set_option maxHeartbeats 4000000 in
set_option maxRecDepth 100000 in
theorem write_in (d g : Nat) (s : DS) (b : Nat → Int) (k : Nat) (hk : k < s.n) (hn : s.n ≤ 65536) (hr0 : 0 ≤ s.wr) (hr1 : s.wr < 1000000000) (hl : s.ar = true → 0 ≤ s.lf) (hl2 : s.lf < 9223372036854775808) (w : World) (h : Dk w d g s) :
    Calls Tryz.prog 103 #[.pointer (some ⟨d, 0, none⟩), .int .i64 k, .agg (byts 64 b).toArray] w fun e w' => e = .returned (.int .i64 (s.write k b).1) ∧ Dk w' d g (s.write k b).2 ∧ Kp w w' d g := by
  have H := Lib.hid h
  have hd0 := h.lt
  have hg0 := h.fl.lt
  clear h
  have h0 : (0 : Int) ≤ k := by omega
  have h1 : (k : Int) < s.n := by omega
  by_cases hA : s.ar = true ∧ s.lf = 0
  · obtain ⟨hA1, hA2⟩ := hA
    unfold DS.write
    rw [if_pos (.inl ⟨hA1, hA2⟩)]
    go_enter Tryz.func103, Tryz.ntmps103
    go_wp2_with (refine wpList_box_byts rfl 59 _ 64 rfl b rfl ?_; intro w1 F1 hb1 hz1; have H1 := Lib.hid (H.out.keep hb1); have c0 := H1.out.c0; have c1 := H1.out.c1; rw [hA1] at c1; have c2 := H1.out.c2; rw [hA2] at c2; have c3 := H1.out.c3; have z3 := H1.out.z3; have hb1' := Lib.hid hb1; clear hb1)
    go_ret
    exact ⟨rfl, H1.out.set3 _, (Kp.of_below hb1'.out _ _).setA _ _⟩
  · by_cases hD : s.de = true
    · unfold DS.write
      rw [if_pos (.inr hD)]
      have HS : Hid (({ s with de := true } : DS) = s) := by show _ = s; cases s; simp_all
      rw [HS.out]
      cases hA1 : s.ar
      · go_enter Tryz.func103, Tryz.ntmps103
        go_wp2_with (refine wpList_box_byts rfl 59 _ 64 rfl b rfl ?_; intro w1 F1 hb1 hz1; have H1 := Lib.hid (H.out.keep hb1); have c0 := H1.out.c0; have c1 := H1.out.c1; rw [hA1] at c1; have c2 := H1.out.c2; have c3 := H1.out.c3; rw [hD] at c3; have hb1' := Lib.hid hb1; clear hb1)
        go_ret
        exact ⟨rfl, H1.out, Kp.of_below hb1'.out _ _⟩
      · have hl0 : ¬ (s.lf = 0) := fun e => hA ⟨hA1, e⟩
        go_enter Tryz.func103, Tryz.ntmps103
        go_wp2_with (refine wpList_box_byts rfl 59 _ 64 rfl b rfl ?_; intro w1 F1 hb1 hz1; have H1 := Lib.hid (H.out.keep hb1); have c0 := H1.out.c0; have c1 := H1.out.c1; rw [hA1] at c1; have c2 := H1.out.c2; have c3 := H1.out.c3; rw [hD] at c3; have hb1' := Lib.hid hb1; clear hb1)
        go_ret
        exact ⟨rfl, H1.out, Kp.of_below hb1'.out _ _⟩
    · replace hD : s.de = false := by simpa using hD
      unfold DS.write
      rw [if_neg (by rintro (h | h); exact hA h; rw [hD] at h; cases h)]
      cases hA1 : s.ar
      · go_enter Tryz.func103, Tryz.ntmps103
        go_wp2_with (refine wpList_box_byts rfl 59 _ 64 rfl b rfl ?_; intro w1 F1 hb1 hz1; have H1 := Lib.hid (H.out.keep hb1); have c0 := H1.out.c0; have c1 := H1.out.c1; rw [hA1] at c1; have c2 := H1.out.c2; have c3 := H1.out.c3; rw [hD] at c3; have c5 := H1.out.c5; have z5 := H1.out.z5; have hb1' := Lib.hid hb1; clear hb1)
        have H2 := H1.out
        have F2 := F1.out
        have K2 := Kp.of_below hb1'.out d g
        generalize w1 = W2 at *
        clear c0 c1 c2 c3 c5 z5 H1 F1 hb1'
        have HD2 : Hid (Dk W2 d g s) := H2
        have HF2 := Lib.hid F2
        have HK2 := Lib.hid K2
        clear H2 F2 K2
        refine wp_region_held (S := fun w' => Fl w' w.heap.size 64 b ∧ ∃ s' : DS, Dk w' d g s' ∧ s'.n = s.n) (by kernel_rfl) ?_
        change wpAnyH _ _ _ _ _ _ _ _ (World.drew _)
        have hS0 : Fl W2.drew w.heap.size 64 b ∧ ∃ s' : DS, Dk W2.drew d g s' ∧ s'.n = s.n := ⟨HF2.out.below (Below.refl _ _).drew HF2.out.lt, _, HD2.out.keep (Below.refl _ _).drew, rfl⟩
        refine wpAnyH_take (i := 0) (v := ?_) rfl (by kernel_rfl) (by kernel_rfl) (by kernel_rfl) (fun _ _ _ h => h) (Or.inl ⟨by rfl, ?_⟩) hS0 ?_
        rotate_left 1
        · intro W hW
          go_simp
          try with_reducible rfl
        simp only [Act.put, List.getElem_toArray, List.getElem_cons_zero, List.getElem_cons_succ, List.setIfInBounds_toArray, List.set_cons_zero, List.set_cons_succ]
        refine wpAnyH_take (i := 1) (v := ?_) rfl (by kernel_rfl) (by kernel_rfl) (by kernel_rfl) (fun _ _ _ h => h) (Or.inl ⟨by rfl, ?_⟩) hS0 ?_
        rotate_left 1
        · intro W hW
          go_simp
          try with_reducible rfl
        simp only [Act.put, List.getElem_toArray, List.getElem_cons_zero, List.getElem_cons_succ, List.setIfInBounds_toArray, List.set_cons_zero, List.set_cons_succ]
        refine wpAnyH_take (i := 2) (v := ?_) rfl (by kernel_rfl) (by kernel_rfl) (by kernel_rfl) (fun _ _ _ h => h) (Or.inl ⟨by rfl, ?_⟩) hS0 ?_
        rotate_left 1
        · intro W hW
          go_simp
          try with_reducible rfl
        simp only [Act.put, List.getElem_toArray, List.getElem_cons_zero, List.getElem_cons_succ, List.setIfInBounds_toArray, List.set_cons_zero, List.set_cons_succ]
        refine wpAnyH_take (i := 3) (v := ?_) rfl (by kernel_rfl) (by kernel_rfl) (by kernel_rfl) (fun _ _ _ h => h) (Or.inl ⟨by rfl, ?_⟩) hS0 ?_
        rotate_left 1
        · intro W hW
          obtain ⟨_, s', hs', hsn⟩ := hW
          have e0 := hs'.c0
          rw [hsn] at e0
          go_simp
          try with_reducible rfl
        simp only [Act.put, List.getElem_toArray, List.getElem_cons_zero, List.getElem_cons_succ, List.setIfInBounds_toArray, List.set_cons_zero, List.set_cons_succ]
        refine wpAnyH_take (i := 4) (v := ?_) rfl (by kernel_rfl) (by kernel_rfl) (by kernel_rfl) (fun _ _ _ h => h) (Or.inl ⟨by rfl, ?_⟩) hS0 ?_
        rotate_left 1
        · intro W hW
          go_simp
          try with_reducible rfl
        simp only [Act.put, List.getElem_toArray, List.getElem_cons_zero, List.getElem_cons_succ, List.setIfInBounds_toArray, List.set_cons_zero, List.set_cons_succ]
        refine wpAnyH_take (i := 5) (v := .agg (byts 64 b).toArray) rfl (by kernel_rfl) (by kernel_rfl) (by kernel_rfl) (fun _ _ _ h => h) ?_ hS0 ?_
        · exact yieldsIf_load_mid (by rfl) 59 _ rfl w.heap.size 0 rfl (byts 64 b) (.array 64 5) (fun _ h => h.1.range0) Tryz.arr36 rfl (size36 _)
        simp only [Act.put, List.getElem_toArray, List.getElem_cons_zero, List.getElem_cons_succ, List.setIfInBounds_toArray, List.set_cons_zero, List.set_cons_succ]
        refine wpAnyH_take (i := 6) (v := ?_) rfl (by kernel_rfl) (by kernel_rfl) (by kernel_rfl) (fun _ _ _ h => h) (Or.inl ⟨by rfl, ?_⟩) hS0 ?_
        rotate_left 1
        · intro W hW
          go_simp
          try with_reducible rfl
        simp only [Act.put, List.getElem_toArray, List.getElem_cons_zero, List.getElem_cons_succ, List.setIfInBounds_toArray, List.set_cons_zero, List.set_cons_succ]
        refine wpAnyH_ready (rs := [7]) (by kernel_rfl) (by simp) (AllReadyH.cons rfl (fun K hK => ?_) AllReadyH.nil)
        refine step_store_mid rfl 59 _ _ rfl g (k * 64) (byts 64 b).toArray rfl rfl (by rw [byts_size]; exact (HD2.out.keep (Below.refl _ _).drew).fl.there (k * 64) 64 (by show k * 64 + 64 ≤ s.n * 64; omega)) (size36' _) (byts_all _ _) ?_
        have HW3 := Lib.hid ((HD2.out.keep (Below.refl _ _).drew).setB (k * 64) (by show k * 64 + 64 ≤ s.n * 64; omega) b)
        have HK3 := Lib.hid ((HK2.out.drew).setCells g (k * 64) (.inr rfl) (byts 64 b))
        have HF3 := (HF2.out.below (Below.refl _ _).drew HF2.out.lt).kp (((Kp.refl W2.drew d g).setCells g (k * 64) (.inr rfl) (byts 64 b))) (by omega) (by omega)
        refine hK _ _ ?_ ?_
        · exact ⟨HF3, _, HW3.out, rfl⟩
        try intro _
        clear hK K
        refine wpAnyH_done (by kernel_rfl) ?_ _
        clear hS0
        obtain ⟨W3, hW3⟩ : ∃ z, W2.drew.setCells g (k * 64) (byts 64 b).toArray.toList = z := ⟨_, rfl⟩
        rw [List.toList_toArray] at hW3 ⊢
        rw [hW3] at HW3 HK3 ⊢
        have c5 := HW3.out.c5
        have z5 := HW3.out.z5
        clear hW3 HF3
        go_wp2
        go_ret
        have hE := HW3.out.set5 (s.wr + 1)
        simp only [hA1, hD] at hE
        exact ⟨rfl, hE, HK3.out.setA _ _⟩
      · have hl0 : ¬ (s.lf = 0) := fun e => hA ⟨hA1, e⟩
        have hlp := hl hA1
        have HL := Lib.hid hl
        clear hl
        go_enter Tryz.func103, Tryz.ntmps103
        go_wp2_with (refine wpList_box_byts rfl 59 _ 64 rfl b rfl ?_; intro w1 F1 hb1 hz1; have H1 := Lib.hid (H.out.keep hb1); have c0 := H1.out.c0; have c1 := H1.out.c1; rw [hA1] at c1; have c2 := H1.out.c2; have z2 := H1.out.z2; have c3 := H1.out.c3; rw [hD] at c3; have c5 := H1.out.c5; have z5 := H1.out.z5; have hb1' := Lib.hid hb1; clear hb1)
        have H2 := H1.out.set2 (s.lf - 1)
        have F2 := F1.out.far ⟨d, 2, none⟩ (by show d ≠ w.heap.size; omega) (.int .i64 (s.lf - 1))
        have K2 := (Kp.of_below hb1'.out d g).setA 2 (.int .i64 (s.lf - 1))
        generalize w1.setCell ⟨d, 2, none⟩ (.int .i64 (s.lf - 1)) = W2 at *
        clear c0 c1 c2 z2 c3 c5 z5 H1 F1 hb1'
        have HD2 : Hid (Dk W2 d g { s with lf := s.lf - 1 }) := H2
        have HF2 := Lib.hid F2
        have HK2 := Lib.hid K2
        clear H2 F2 K2
        refine wp_region_held (S := fun w' => Fl w' w.heap.size 64 b ∧ ∃ s' : DS, Dk w' d g s' ∧ s'.n = s.n) (by kernel_rfl) ?_
        change wpAnyH _ _ _ _ _ _ _ _ (World.drew _)
        have hS0 : Fl W2.drew w.heap.size 64 b ∧ ∃ s' : DS, Dk W2.drew d g s' ∧ s'.n = s.n := ⟨HF2.out.below (Below.refl _ _).drew HF2.out.lt, _, HD2.out.keep (Below.refl _ _).drew, rfl⟩
        refine wpAnyH_take (i := 0) (v := ?_) rfl (by kernel_rfl) (by kernel_rfl) (by kernel_rfl) (fun _ _ _ h => h) (Or.inl ⟨by rfl, ?_⟩) hS0 ?_
        rotate_left 1
        · intro W hW
          go_simp
          try with_reducible rfl
        simp only [Act.put, List.getElem_toArray, List.getElem_cons_zero, List.getElem_cons_succ, List.setIfInBounds_toArray, List.set_cons_zero, List.set_cons_succ]
        refine wpAnyH_take (i := 1) (v := ?_) rfl (by kernel_rfl) (by kernel_rfl) (by kernel_rfl) (fun _ _ _ h => h) (Or.inl ⟨by rfl, ?_⟩) hS0 ?_
        rotate_left 1
        · intro W hW
          go_simp
          try with_reducible rfl
        simp only [Act.put, List.getElem_toArray, List.getElem_cons_zero, List.getElem_cons_succ, List.setIfInBounds_toArray, List.set_cons_zero, List.set_cons_succ]
        refine wpAnyH_take (i := 2) (v := ?_) rfl (by kernel_rfl) (by kernel_rfl) (by kernel_rfl) (fun _ _ _ h => h) (Or.inl ⟨by rfl, ?_⟩) hS0 ?_
        rotate_left 1
        · intro W hW
          go_simp
          try with_reducible rfl
        simp only [Act.put, List.getElem_toArray, List.getElem_cons_zero, List.getElem_cons_succ, List.setIfInBounds_toArray, List.set_cons_zero, List.set_cons_succ]
        refine wpAnyH_take (i := 3) (v := ?_) rfl (by kernel_rfl) (by kernel_rfl) (by kernel_rfl) (fun _ _ _ h => h) (Or.inl ⟨by rfl, ?_⟩) hS0 ?_
        rotate_left 1
        · intro W hW
          obtain ⟨_, s', hs', hsn⟩ := hW
          have e0 := hs'.c0
          rw [hsn] at e0
          go_simp
          try with_reducible rfl
        simp only [Act.put, List.getElem_toArray, List.getElem_cons_zero, List.getElem_cons_succ, List.setIfInBounds_toArray, List.set_cons_zero, List.set_cons_succ]
        refine wpAnyH_take (i := 4) (v := ?_) rfl (by kernel_rfl) (by kernel_rfl) (by kernel_rfl) (fun _ _ _ h => h) (Or.inl ⟨by rfl, ?_⟩) hS0 ?_
        rotate_left 1
        · intro W hW
          go_simp
          try with_reducible rfl
        simp only [Act.put, List.getElem_toArray, List.getElem_cons_zero, List.getElem_cons_succ, List.setIfInBounds_toArray, List.set_cons_zero, List.set_cons_succ]
        refine wpAnyH_take (i := 5) (v := .agg (byts 64 b).toArray) rfl (by kernel_rfl) (by kernel_rfl) (by kernel_rfl) (fun _ _ _ h => h) ?_ hS0 ?_
        · exact yieldsIf_load_mid (by rfl) 59 _ rfl w.heap.size 0 rfl (byts 64 b) (.array 64 5) (fun _ h => h.1.range0) Tryz.arr36 rfl (size36 _)
        simp only [Act.put, List.getElem_toArray, List.getElem_cons_zero, List.getElem_cons_succ, List.setIfInBounds_toArray, List.set_cons_zero, List.set_cons_succ]
        refine wpAnyH_take (i := 6) (v := ?_) rfl (by kernel_rfl) (by kernel_rfl) (by kernel_rfl) (fun _ _ _ h => h) (Or.inl ⟨by rfl, ?_⟩) hS0 ?_
        rotate_left 1
        · intro W hW
          go_simp
          try with_reducible rfl
        simp only [Act.put, List.getElem_toArray, List.getElem_cons_zero, List.getElem_cons_succ, List.setIfInBounds_toArray, List.set_cons_zero, List.set_cons_succ]
        refine wpAnyH_ready (rs := [7]) (by kernel_rfl) (by simp) (AllReadyH.cons rfl (fun K hK => ?_) AllReadyH.nil)
        refine step_store_mid rfl 59 _ _ rfl g (k * 64) (byts 64 b).toArray rfl rfl (by rw [byts_size]; exact (HD2.out.keep (Below.refl _ _).drew).fl.there (k * 64) 64 (by show k * 64 + 64 ≤ s.n * 64; omega)) (size36' _) (byts_all _ _) ?_
        have HW3 := Lib.hid ((HD2.out.keep (Below.refl _ _).drew).setB (k * 64) (by show k * 64 + 64 ≤ s.n * 64; omega) b)
        have HK3 := Lib.hid ((HK2.out.drew).setCells g (k * 64) (.inr rfl) (byts 64 b))
        have HF3 := (HF2.out.below (Below.refl _ _).drew HF2.out.lt).kp (((Kp.refl W2.drew d g).setCells g (k * 64) (.inr rfl) (byts 64 b))) (by omega) (by omega)
        refine hK _ _ ?_ ?_
        · exact ⟨HF3, _, HW3.out, rfl⟩
        try intro _
        clear hK K
        refine wpAnyH_done (by kernel_rfl) ?_ _
        clear hS0
        obtain ⟨W3, hW3⟩ : ∃ z, W2.drew.setCells g (k * 64) (byts 64 b).toArray.toList = z := ⟨_, rfl⟩
        rw [List.toList_toArray] at hW3 ⊢
        rw [hW3] at HW3 HK3 ⊢
        have c5 := HW3.out.c5
        have z5 := HW3.out.z5
        clear hW3 HF3
        go_wp2
        go_ret
        have hE := HW3.out.set5 (s.wr + 1)
        simp only [hA1, hD] at hE
        exact ⟨rfl, hE, HK3.out.setA _ _⟩
def DS.new (n : Nat) : DS := ⟨n, fun _ => 0, false, 0, false, 0, 0⟩
/-- what a made disk is: in blocks of its own -/
def Made (w : World) (s : DS) (e : Ending) (w' : World) : Prop := ∃ d g, e = .returned (.tuple #[.pointer (some ⟨d, 0, none⟩), .int .i64 0]) ∧ w.heap.size ≤ d ∧ w.heap.size ≤ g ∧ Dk w' d g s ∧ Below w.heap.size w w'
theorem Tryz.info36i : ∃ i, Tryz.prog.info? 59 = some i ∧ i.zero = some (.agg (byts 64 fun _ => 0).toArray) ∧ i.size = 64 ∧ i.bytes = 64 := by
  have h := Tryz.info36
  cases hq : Tryz.prog.info? 59 with
  | none => simp [hq] at h
  | some i =>
    simp [hq] at h
    exact ⟨i, rfl, h.1, h.2.1, h.2.2⟩
theorem run_make36 (w : World) (c : Nat) (hc : c ≤ 65536) : (Instr.makeSlice 46 (.int .i64 (c : Int)) (.int .i64 (c : Int))).run Tryz.prog w = .ok (.slice (some ⟨w.heap.size, 0, none⟩) c c) (w.alloc (.cells (madeCells (byts 64 fun _ => 0).toArray (c * 64)) 59)) := by
  obtain ⟨i, hi, hz, hs, hb⟩ := Tryz.info36i
  have := run_make (P := Tryz.prog) w 46 59 i _ (by kernel_rfl) hi hz .i64 .i64 c c (by omega) (by omega) (by rw [hb]; omega) (by omega)
  rw [this, hs, Int.toNat_natCast]
  rfl
theorem wpList_make36 {ops : Array Oper} {rest : List Oper} {o : Oper} {a : Act} {w : World} {Q : Exit → Act → World → Prop} (hgd : o.guard = none) (x : Operand) (ho : o.op = .makeSlice 46 x x) (c : Nat) (hx : a.eval x = .int .i64 (c : Int)) (hc : c ≤ 65536)
    (h : ∀ w', Hid (Fl w' w.heap.size (c * 64) fun _ => 0) → Below w.heap.size w w' → w'.heap.size = w.heap.size + 1 → wpList Tryz.prog ops Q rest (a.put o.dst (.slice (some ⟨w.heap.size, 0, none⟩) c c)) w') : wpList Tryz.prog ops Q (o :: rest) a w := by
  refine wpList_plain hgd fun K hK => ?_
  have hr := run_make36 w c hc
  unfold Oper.wp
  simp [execOp, ho, hx, hr, Result.andThen]
  exact hK _ _ (h _ (Fl.made w c 59) ((Below.refl _ _).alloc (Nat.le_refl _) _) (by simp))

theorem Dk.new {w : World} {g : Nat} (s : DS) (h : Fl w g (s.n * 64) s.f) : Dk (w.alloc (.cells #[.slice (some ⟨g, 0, none⟩) s.n s.n, .bool s.ar, .int .i64 s.lf, .bool s.de, .int .i64 s.rd, .int .i64 s.wr] 189)) w.heap.size g s := by
  have hlt := h.lt
  refine ⟨by simp, by omega, ?_, ?_, ?_, ?_, ?_, ?_, ?_, ?_, ?_, ?_, ?_, h.below ((Below.refl _ _).alloc (Nat.le_refl _) _) h.lt⟩
  all_goals first | (rw [World.cell?_alloc_at _ _ _ _ rfl]; rfl) | simp

set_option maxHeartbeats 2000000 in
set_option maxRecDepth 100000 in
theorem new_any (n : Nat) (hn : n ≤ 65536) (w : World) : Calls Tryz.prog 43 #[.int .i64 n] w (Made w (DS.new n)) := by
  have h0 : (0 : Int) ≤ n := by omega
  have h1 : (n : Int) ≤ 65536 := by omega
  go_enter Tryz.func43, Tryz.ntmps43
  go_wp2_with (refine wpList_make36 rfl _ rfl n rfl hn ?_; intro w1 F1 hb1 hz1; have hb1' := Lib.hid hb1; clear hb1)
  refine bodyPost_ret (v := .tuple #[.pointer (some ⟨w1.heap.size, 0, none⟩), .int .i64 0]) (by simp [results, Tryz.results43, go_sem]) rfl ?_
  exact ⟨_, _, rfl, hb1'.out.size, Nat.le_refl _, Dk.new (DS.new n) F1.out, hb1'.out.alloc hb1'.out.size _⟩
theorem new_out (x : Int) (hx : x < 0 ∨ 65536 < x) (w : World) : Calls Tryz.prog 43 #[.int .i64 x] w fun e w' => e = .returned (.tuple #[.pointer none, .int .i64 27]) ∧ Below w.heap.size w w' := by
  by_cases hx0 : x < 0
  · go_enter Tryz.func43, Tryz.ntmps43
    go_wp2
    refine bodyPost_ret (v := .tuple #[.pointer none, .int .i64 27]) (by simp [results, Tryz.results43, go_sem]) rfl ⟨rfl, Below.refl _ _⟩
  · have hx1 : 65536 < x := by omega
    go_enter Tryz.func43, Tryz.ntmps43
    go_wp2
    refine bodyPost_ret (v := .tuple #[.pointer none, .int .i64 27]) (by simp [results, Tryz.results43, go_sem]) rfl ⟨rfl, Below.refl _ _⟩

/-- a slice of n blocks, from its block's head on -/
def Bs (w : World) (v : Value) (n : Nat) (f : Nat → Int) : Prop := ∃ p c, v = .slice p n c ∧ (0 < n → ∃ b, p = some ⟨b, 0, none⟩ ∧ b < w.heap.size ∧ ∀ j, j < n * 64 → w.cell? ⟨b, j, none⟩ = some (.int .u8 (f j)))
theorem Bs.below {w w' : World} {v : Value} {n : Nat} {f : Nat → Int} (h : Bs w v n f) (hb : Below w.heap.size w w') : Bs w' v n f := by
  obtain ⟨p, c, hv, hp⟩ := h
  refine ⟨p, c, hv, fun h0 => ?_⟩
  obtain ⟨b, h1, h2, h3⟩ := hp h0
  exact ⟨b, h1, Nat.lt_of_lt_of_le h2 hb.size, fun j hj => (hb.cell (p := ⟨b, j, none⟩) h2).trans (h3 j hj)⟩
theorem Bs.of_fl {w : World} {g n : Nat} {f : Nat → Int} (h : Fl w g (n * 64) f) (c : Nat) : Bs w (.slice (some ⟨g, 0, none⟩) n c) n f := ⟨_, _, rfl, fun _ => ⟨g, rfl, h.lt, h.c⟩⟩
theorem Bs.src {w : World} {p : Option Addr} {c n : Nat} {f : Nat → Int} (h : 0 < n → ∃ b, p = some ⟨b, 0, none⟩ ∧ b < w.heap.size ∧ ∀ j, j < n * 64 → w.cell? ⟨b, j, none⟩ = some (.int .u8 (f j))) (w' : World) (hb : Below w.heap.size w w') :
    0 < (byts (n * 64) f).length → ∃ ad, p = some ad ∧ ∀ j v, (byts (n * 64) f)[j]? = some v → w'.cell? (ad.add j) = some v := by
  intro h0
  rw [byts_len] at h0
  obtain ⟨b, h1, h2, h3⟩ := h (by omega)
  refine ⟨_, h1, fun j v hj => ?_⟩
  obtain ⟨hj1, rfl⟩ := byts_of hj
  rw [Addr.add_mid, Nat.zero_add]
  exact (hb.cell (p := ⟨b, j, none⟩) h2).trans (h3 j hj1)
theorem Tryz.size36n : (Tryz.prog.info? 59).map (·.size) = some 64 := by kernel_rfl

theorem ret_bool {a b : Bool} (h : a = b) : Ending.returned (.bool a) = .returned (.bool b) := by rw [h]
theorem eqb_succ (k : Nat) (f g : Nat → Int) : eqb ((k + 1) * 64) f g = (eqb (k * 64) f g && eqb 64 (fun i => f (k * 64 + i)) (fun i => g (k * 64 + i))) := by
  rw [Bool.eq_iff_iff, Bool.and_eq_true, eqb_iff, eqb_iff, eqb_iff]
  constructor
  · intro h
    exact ⟨fun i hi => h i (by omega), fun i hi => h (k * 64 + i) (by omega)⟩
  · rintro ⟨h1, h2⟩ i hi
    by_cases hh : i < k * 64
    · exact h1 i hh
    · have := h2 (i - k * 64) (by omega)
      simpa [show k * 64 + (i - k * 64) = i by omega] using this
theorem eqb_mono {m n : Nat} {f g : Nat → Int} (h : eqb m f g = false) (hm : m ≤ n) : eqb n f g = false := by
  cases h2 : eqb n f g
  · rfl
  · rw [eqb_iff] at h2
    rw [(eqb_iff m f g).2 fun i hi => h2 i (by omega)] at h
    exact h

theorem Fl.set {w : World} {g N : Nat} {f : Nat → Int} (h : Fl w g N f) (i : Nat) (hi : i < N) (x : Int) : Fl (w.setCell ⟨g, i, none⟩ (.int .u8 x)) g N (fun j => if j = i then x else f j) := by
  refine ⟨lt_set h.lt _ _, fun j hj => ?_, fun j hj => by rw [World.frozen?_setCell]; exact h.z j hj⟩
  by_cases e : j = i
  · subst e
    rw [if_pos rfl]
    exact World.cell?_setCell_same _ _ _ (h.c j hj)
  · rw [if_neg e, World.cell?_setCell_other _ _ _ _ (by simp [Ne.symm e])]
    exact h.c j hj
/-- a block whose first byte alone is told -/
def one (x : Int) : Nat → Int := fun j => if j = 0 then x else 0
theorem one_eq (x : Int) : (byts 64 fun _ => 0).toArray.setIfInBounds 0 (.int .u8 x) = (byts 64 (one x)).toArray := by
  rw [List.setIfInBounds_toArray]
  refine congrArg List.toArray (List.ext_getElem? fun i => ?_)
  rw [List.getElem?_set]
  by_cases hi : i < 64
  · rw [byts_get _ hi, byts_len]
    by_cases h0 : i = 0
    · subst h0
      rw [byts_get _ hi]
      simp [one]
    · rw [if_neg (fun e => h0 e.symm), byts_get _ hi]
      simp [one, h0]
  · have e1 : (byts 64 (one x))[i]? = none := List.getElem?_eq_none (by rw [byts_len]; omega)
    have e2 : (byts 64 fun _ => 0)[i]? = none := List.getElem?_eq_none (by rw [byts_len]; omega)
    rw [if_neg (by omega), e1, e2]
theorem run_build1 (x : Int) (w : World) : (Instr.build 59 #[(0, .int .u8 x)]).run Tryz.prog w = .ok (.agg (byts 64 (one x)).toArray) w := by
  obtain ⟨i, hi, hz, hs, hb⟩ := Tryz.info36i
  have hs5 : ∃ j, Tryz.prog.info? 5 = some j ∧ j.size = 1 := by
    have := Tryz.info5
    cases hq : Tryz.prog.info? 5 with
    | none => simp [hq] at this
    | some j => exact ⟨j, rfl, by simpa [hq] using this⟩
  obtain ⟨j, hj, hj1⟩ := hs5
  have hne : ¬ (byts 64 fun _ => 0) = [] := fun e => by have := byts_len 64 fun _ => 0; rw [e] at this; cases this
  rw [← one_eq]
  simp [Instr.build, zeroValue, sizeOf, typeInfo, hi, hz, hj, hj1, Value.cells, run_underlying Tryz.arr36, Instr.fill, hne]
theorem run_build0 (w : World) : (Instr.build 59 #[]).run Tryz.prog w = .ok (.agg (byts 64 fun _ => 0).toArray) w := by
  obtain ⟨i, hi, hz, hs, hb⟩ := Tryz.info36i
  have hs5 : ∃ j, Tryz.prog.info? 5 = some j := by
    have := Tryz.info5
    cases hq : Tryz.prog.info? 5 with
    | none => simp [hq] at this
    | some j => exact ⟨j, rfl⟩
  obtain ⟨j, hj⟩ := hs5
  simp [Instr.build, zeroValue, sizeOf, typeInfo, hi, hz, hj, Value.cells, run_underlying Tryz.arr36, Instr.fill]
theorem yields_build1 {ops : Array Oper} {S : World → Prop} {op : Oper} {a : Act} (hw : Region.wanted op (yielded ops a.tmps) = true) (x : Int) (ho : op.op = .build 59 #[(0, .const (.int .u8 x))]) : YieldsIf Tryz.prog ops S op (.agg (byts 64 (one x)).toArray) a :=
  .inl ⟨hw, fun w _ => by
    have hr := run_build1 x w
    unfold execOp
    simp [ho, Act.eval, hr, Result.andThen]⟩
theorem yields_build0 {ops : Array Oper} {S : World → Prop} {op : Oper} {a : Act} (hw : Region.wanted op (yielded ops a.tmps) = true) (ho : op.op = .build 59 #[]) : YieldsIf Tryz.prog ops S op (.agg (byts 64 fun _ => 0).toArray) a :=
  .inl ⟨hw, fun w _ => by
    have hr := run_build0 w
    unfold execOp
    simp [ho, hr, Result.andThen]⟩
/-- an operation that yields, in a list: guarded ones too -/
theorem wpList_yields {P : Program} {ops : Array Oper} {rest : List Oper} {op : Oper} {a : Act} {w : World} {Q : Exit → Act → World → Prop} (v : Value) (hy : YieldsIf P ops (fun W => W = w) op v a) (h : wpList P ops Q rest (a.put op.dst v) w) : wpList P ops Q (op :: rest) a w := by
  rcases hy with ⟨hw, hr⟩ | ⟨hw, rfl⟩
  · refine wpList_step fun K hK => ?_
    rw [if_pos hw]
    unfold Oper.wp
    rw [hr w rfl]
    exact hK _ _ h
  · exact wpList_skip hw h

theorem nil_len (w : World) : Calls Tryz.prog 88 #[.pointer none] w fun e w' => e = .returned (.int .i64 0) ∧ w' = w := by
  go_enter Tryz.func88, Tryz.ntmps88
  go_wp2
  go_ret
  exact ⟨rfl, rfl⟩
set_option maxHeartbeats 2000000 in
set_option maxRecDepth 100000 in
theorem nil_read (x : Int) (w : World) : Calls Tryz.prog 96 #[.pointer none, .int .i64 x] w fun e w' => e = .returned (.tuple #[.agg (byts 64 fun _ => 0).toArray, .int .i64 1]) ∧ Below w.heap.size w w' := by
  go_enter Tryz.func96, Tryz.ntmps96
  go_wp2_with (first | (refine wpList_alloc_byts rfl 59 64 rfl Tryz.zero36 ?_; intro w1 F1 hb1 hz1; have hb1' := Lib.hid hb1; clear hb1) | (refine wpList_yields _ (yields_build0 rfl rfl) ?_) | (refine wpList_store_mid rfl 59 _ _ rfl w.heap.size 0 (byts 64 fun _ => 0).toArray rfl rfl (by rw [byts_size]; exact F1.out.there 0 64 (Nat.le_refl _)) (size36' _) (byts_all _ _) ?_))
  have F2 := F1.out.stored (fun _ => 0)
  exact bodyPost_ret_by (results_mid_tmp rfl _ _ w.heap.size _ (.array 64 5) rfl F2.range0 Tryz.arr36 rfl (size36 _)) rfl ⟨rfl, below_setCells hb1'.out _ _ (Nat.le_refl _) _⟩
set_option maxHeartbeats 2000000 in
set_option maxRecDepth 100000 in
theorem nil_write (x : Int) (b : Nat → Int) (w : World) : Calls Tryz.prog 103 #[.pointer none, .int .i64 x, .agg (byts 64 b).toArray] w fun e w' => e = .returned (.int .i64 1) ∧ Below w.heap.size w w' := by
  go_enter Tryz.func103, Tryz.ntmps103
  go_wp2_with (refine wpList_box_byts rfl 59 _ 64 rfl b rfl ?_; intro w1 F1 hb1 hz1; have hb1' := Lib.hid hb1; clear hb1)
  go_ret
  exact ⟨rfl, hb1'.out⟩
/-- a slice of small numbers -/
def U8s (w : World) (v : Value) (ts : List Int) : Prop :=
  (∃ a cap, v = .slice a 0 cap ∧ ts = []) ∨ ∃ b off cap, v = .slice (some ⟨b, off, none⟩) ts.length cap ∧ b < w.heap.size ∧ ts.length ≤ maxLen ∧ ∀ i (h : i < ts.length), w.cell? ⟨b, off + i, none⟩ = some (.int .u8 ts[i])
theorem U8s.below {w w' : World} {v : Value} {ts : List Int} (h : U8s w v ts) (hb : Below w.heap.size w w') : U8s w' v ts := by
  rcases h with h | ⟨b, off, cap, hv, hlt, hm, hc⟩
  · exact .inl h
  · exact .inr ⟨b, off, cap, hv, Nat.lt_of_lt_of_le hlt hb.size, hm, fun i hi => (hb.cell (p := ⟨b, off + i, none⟩) hlt).trans (hc i hi)⟩
theorem U8s.form {w : World} {v : Value} {ts : List Int} (h : U8s w v ts) : ∃ a cap, v = .slice a ts.length cap ∧ ts.length ≤ maxLen := by
  rcases h with ⟨a, cap, rfl, rfl⟩ | ⟨b, off, cap, rfl, _, hm, _⟩
  · exact ⟨a, cap, rfl, by unfold maxLen; simp⟩
  · exact ⟨_, cap, rfl, hm⟩
theorem U8s.at {w : World} {a : Option Addr} {n cap : Nat} {ts : List Int} (h : U8s w (.slice a n cap) ts) (i : Nat) (hi : i < ts.length) : ∃ b off, a = some ⟨b, off, none⟩ ∧ b < w.heap.size ∧ w.cell? ⟨b, off + i, none⟩ = some (.int .u8 ts[i]) := by
  rcases h with ⟨a', cap', _, rfl⟩ | ⟨b, off, cap', hv, hlt, _, hc⟩
  · simp at hi
  · have : a = some ⟨b, off, none⟩ := by injection hv
    exact ⟨b, off, this, hlt, hc i hi⟩

theorem byts_append (m n : Nat) (f : Nat → Int) : byts (m + n) f = byts m f ++ byts n (fun i => f (m + i)) := by
  refine List.ext_getElem? fun i => ?_
  by_cases h : i < m
  · rw [List.getElem?_append_left (by rw [byts_len]; exact h), byts_get _ h, byts_get _ (by omega)]
  · rw [List.getElem?_append_right (by rw [byts_len]; omega), byts_len]
    by_cases h2 : i < m + n
    · rw [byts_get _ h2, byts_get _ (by omega), show m + (i - m) = i by omega]
    · rw [List.getElem?_eq_none (by rw [byts_len]; omega), List.getElem?_eq_none (by rw [byts_len]; omega)]
theorem ownsRow_below {w w' : World} {base : Nat} {e : TypeId} {size : Nat} {v : Value} {n : Nat} {xs : List Value} (h : w.ownsRow base e size v n xs) (hb : Below w.heap.size w w') : w'.ownsRow base e size v n xs := by
  obtain ⟨hl, h | ⟨g, cap, cur, hv, hg, hh, r⟩⟩ := h
  · exact ⟨hl, .inl h⟩
  · refine ⟨hl, .inr ⟨g, cap, cur, hv, hg, ?_, r⟩⟩
    have hlt : g < w.heap.size := by
      rcases Nat.lt_or_ge g w.heap.size with h' | h'
      · exact h'
      · rw [Array.getElem?_eq_none h'] at hh; simp at hh
    rw [hb.block g hlt]; exact hh
theorem ownsRow_block {w : World} {base : Nat} {e : TypeId} {size : Nat} {v : Value} {n : Nat} {xs : List Value} (h : w.ownsRow base e size v n xs) : ∀ k, v.ownBlock = some k → base ≤ k := by
  intro k hk
  obtain ⟨_, ⟨hv, _⟩ | ⟨g, cap, cur, hv, hg, _⟩⟩ := h
  · rw [hv] at hk; simp [Value.ownBlock] at hk
  · rw [hv] at hk; simp [Value.ownBlock] at hk; omega
theorem ownsRow_bs {w : World} {base : Nat} {v : Value} {n : Nat} {f : Nat → Int} (h : w.ownsRow base 59 64 v n (byts (n * 64) f)) : Bs w v n f := by
  obtain ⟨hl, ⟨hv, hn⟩ | ⟨g, cap, cur, hv, hg, hh, hc, hm, hs, ht⟩⟩ := h
  · exact ⟨none, 0, by rw [hv, hn], fun h0 => by omega⟩
  · have hlt : g < w.heap.size := by
      rcases Nat.lt_or_ge g w.heap.size with h' | h'
      · exact h'
      · rw [Array.getElem?_eq_none h'] at hh; simp at hh
    refine ⟨_, cap, hv, fun _ => ⟨g, rfl, hlt, fun j hj => ?_⟩⟩
    have hx : (cur.toList.take (n * 64))[j]? = (byts (n * 64) f)[j]? := by rw [ht]
    rw [List.getElem?_take_of_lt hj, byts_get _ hj] at hx
    simp only [World.cell?, hh]
    simpa using hx
theorem foldl_set : ∀ (L : List Value) (k : Nat) (cs : Array Value) (i : Nat), k + L.length ≤ cs.size →
    ((L.zipIdx k).foldl (fun cs x => cs.setIfInBounds (0 * 64 + x.2) x.1) cs)[i]? = if k ≤ i ∧ i < k + L.length then L[i - k]? else cs[i]?
  | [], k, cs, i, _ => by
    rw [if_neg (by simp)]
    rfl
  | v :: r, k, cs, i, h => by
    rw [List.length_cons] at h
    rw [List.zipIdx_cons, List.foldl_cons, foldl_set r (k + 1) _ i (by simp; omega), List.length_cons]
    by_cases h1 : k + 1 ≤ i ∧ i < k + 1 + r.length
    · rw [if_pos h1, if_pos (by omega), show i - k = (i - (k + 1)) + 1 by omega, List.getElem?_cons_succ]
    · rw [if_neg h1]
      by_cases h2 : i = k
      · subst h2
        have e0 : 0 * 64 + i = i := by omega
        simp only [e0]
        rw [if_pos (by omega), Nat.sub_self, List.getElem?_cons_zero, Array.getElem?_setIfInBounds_self_of_lt (by omega)]
      · rw [if_neg (by omega), Array.getElem?_setIfInBounds_ne (by omega)]
/-- a slice that is one block -/
theorem wpList_slice1 {ops : Array Oper} {rest : List Oper} {op : Oper} {a : Act} {w : World} {Q : Exit → Act → World → Prop} (hgd : op.guard = none) (x : Operand) (ho : op.op = .buildSlice 46 1 #[(0, x)]) (f : Nat → Int) (hx : a.eval x = .agg (byts 64 f).toArray)
    (h : ∀ w', Hid (Fl w' w.heap.size 64 f) → Below w.heap.size w w' → w'.heap.size = w.heap.size + 1 → wpList Tryz.prog ops Q rest (a.put op.dst (.slice (some ⟨w.heap.size, 0, none⟩) 1 1)) w') : wpList Tryz.prog ops Q (op :: rest) a w := by
  refine wpList_plain hgd fun K hK => ?_
  obtain ⟨i, hi, hz, hs, hb⟩ := Tryz.info36i
  have hu : Tryz.prog.underlying 46 = some (.slice 59) := by kernel_rfl
  have hr : (Instr.buildSlice 46 1 #[(0, .agg (byts 64 f).toArray)]).run Tryz.prog w = .ok (.slice (some ⟨w.heap.size, 0, none⟩) 1 1) (w.alloc (.cells (byts 64 f).toArray 59)) := by
    have hfill : Instr.fill (fun i => some (i * 64, 64)) ((Array.range (1 * 64)).map ((byts 64 fun _ => 0).toArray[· % (byts 64 fun _ => 0).toArray.size]!)) [(0, .agg (byts 64 f).toArray)] = some (byts 64 f).toArray := by
      have hsz : ((Array.range (1 * 64)).map ((byts 64 fun _ => 0).toArray[· % (byts 64 fun _ => 0).toArray.size]!)).size = 64 := by simp
      generalize (Array.range (1 * 64)).map ((byts 64 fun _ => 0).toArray[· % (byts 64 fun _ => 0).toArray.size]!) = Z at *
      have hc : (Value.agg (byts 64 f).toArray).cells = (byts 64 f).toArray := rfl
      simp only [Instr.fill, hc, byts_size, hsz]
      rw [if_neg (by simp)]
      refine congrArg some (Array.ext_getElem? fun i => ?_)
      have := foldl_set (byts 64 f) 0 Z i (by rw [byts_len, hsz]; decide)
      rw [byts_len, Nat.zero_add, Nat.sub_zero] at this
      have e : (byts 64 f).toArray.zipIdx.foldl (fun cs x => cs.setIfInBounds (0 * 64 + x.2) x.1) Z = ((byts 64 f).zipIdx 0).foldl (fun cs x => cs.setIfInBounds (0 * 64 + x.2) x.1) Z := by simp
      refine (congrArg (·[i]?) e).trans (this.trans ?_)
      by_cases hi : i < 64
      · rw [if_pos (by omega)]
        simp
      · rw [if_neg (by omega), Array.getElem?_eq_none (by omega), Array.getElem?_eq_none (by rw [byts_size]; omega)]
    simp [Instr.buildSlice, zeroValue, sizeOf, typeInfo, hi, hz, hs, Value.cells, run_underlying hu, newRow] at hfill ⊢
    rw [hfill]
    simp [newRow]
  unfold Oper.wp
  simp [execOp, ho, hx, hr, Result.andThen]
  exact hK _ _ (h _ (Fl.new w 64 f 59) ((Below.refl _ _).alloc (Nat.le_refl _) _) (by simp))
end Go.Proofs.YtnfadmifdncjoaaGreat
