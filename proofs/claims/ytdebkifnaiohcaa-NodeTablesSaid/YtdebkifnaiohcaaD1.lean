import Derived.Test.YtdebkifnaiohcaaRows
import Derived.WalkKit
import Derived.WalkSpells
import Derived.WalkLawsBesides
import Derived.Lib.Hide
import Derived.Deep.RegionHeld
import Derived.Deep.Draws
import Derived.Deep.MidRow
import Derived.Laws.MakeOwn
import Derived.Laws.CopyOwn
import Derived.Laws.ResultCell
import Derived.ChangeKeysEq
/- Blocks of bytes: what lies there, what is stored, copied and compared; which blocks a call may turn. -/
namespace Go.Proofs.Ytdebkifnaiohcaa
set_option linter.unusedSimpArgs false
set_option linter.unusedVariables false
open Go.RowKit

/-- n bytes -/
def byts (n : Nat) (f : Nat → Int) : List Value := (List.range n).map fun i => Value.int .u8 (f i)
theorem byts_len (n : Nat) (f : Nat → Int) : (byts n f).length = n := by simp [byts]
theorem byts_get {n : Nat} (f : Nat → Int) {i : Nat} (h : i < n) : (byts n f)[i]? = some (.int .u8 (f i)) := by simp [byts, h]
theorem byts_of {n : Nat} {f : Nat → Int} {i : Nat} {v : Value} (h : (byts n f)[i]? = some v) : i < n ∧ v = .int .u8 (f i) := by
  have hi : i < n := by
    have := (List.getElem?_eq_some_iff.1 h).1
    rwa [byts_len] at this
  rw [byts_get f hi] at h
  exact ⟨hi, (Option.some.inj h).symm⟩
theorem byts_one (n : Nat) (f : Nat → Int) : ∀ v ∈ byts n f, v.oneCell' = true := by
  intro v hv
  simp only [byts, List.mem_map] at hv
  obtain ⟨i, _, rfl⟩ := hv
  rfl
theorem byts_congr {n : Nat} {f g : Nat → Int} (h : ∀ i, i < n → f i = g i) : byts n f = byts n g := by
  unfold byts
  refine List.map_congr_left fun i hi => ?_
  rw [h i (List.mem_range.1 hi)]
theorem byts_size (n : Nat) (f : Nat → Int) : (byts n f).toArray.size = n := by simp [byts_len]
theorem byts_all (n : Nat) (f : Nat → Int) : (byts n f).toArray.all (·.oneCell') = true := all_oneCell_toArray (byts_one n f)

/-- of the world nothing has turned but blocks a and b, and what was made -/
structure Kp (w w' : World) (a b : Nat) : Prop where
  os : w'.os = w.os
  tape : w'.tape = w.tape
  output : w'.output = w.output
  size : w.heap.size ≤ w'.heap.size
  block : ∀ k, k < w.heap.size → k ≠ a → k ≠ b → w'.heap[k]? = w.heap[k]?
theorem Kp.refl (w : World) (a b : Nat) : Kp w w a b := ⟨rfl, rfl, rfl, Nat.le_refl _, fun _ _ _ _ => rfl⟩
theorem Kp.trans {w1 w2 w3 : World} {a b : Nat} (h : Kp w1 w2 a b) (k : Kp w2 w3 a b) : Kp w1 w3 a b :=
  ⟨k.os.trans h.os, k.tape.trans h.tape, k.output.trans h.output, Nat.le_trans h.size k.size, fun i hi h1 h2 => (k.block i (Nat.lt_of_lt_of_le hi h.size) h1 h2).trans (h.block i hi h1 h2)⟩
theorem Kp.of_below {w w' : World} (h : Below w.heap.size w w') (a b : Nat) : Kp w w' a b := ⟨h.os, h.tape, h.output, h.size, fun k hk _ _ => h.block k hk⟩
theorem Kp.below {w w' : World} {a b B : Nat} (h : Kp w w' a b) (ha : B ≤ a) (hb : B ≤ b) (hB : B ≤ w.heap.size) : Below B w w' :=
  ⟨h.os, h.tape, h.output, h.size, fun k hk => h.block k (by omega) (by omega) (by omega)⟩
theorem Kp.alloc {w w' : World} {a b : Nat} (h : Kp w w' a b) (o : Obj) : Kp w (w'.alloc o) a b := h.trans (Kp.of_below ((Below.refl _ _).alloc (Nat.le_refl _) o) a b)
theorem Kp.drew {w w' : World} {a b : Nat} (h : Kp w w' a b) : Kp w w'.drew a b := h.trans (Kp.of_below (Below.refl _ _).drew a b)
theorem Kp.setCell {w w' : World} {a b : Nat} (h : Kp w w' a b) (p : Addr) (hp : p.block = a ∨ p.block = b) (v : Value) : Kp w (w'.setCell p v) a b :=
  h.trans ⟨rfl, rfl, rfl, by simp [World.setCell], fun k _ h1 h2 => Below.heap_setCell _ _ _ _ (by omega)⟩
/-- a store into a block that was made since -/
theorem Kp.setNew {w w' : World} {a b : Nat} (h : Kp w w' a b) (p : Addr) (hp : w.heap.size ≤ p.block) (v : Value) : Kp w (w'.setCell p v) a b :=
  ⟨h.os, h.tape, h.output, Nat.le_trans h.size (by simp [World.setCell]), fun k hk h1 h2 => (Below.heap_setCell _ _ _ _ (by omega)).trans (h.block k hk h1 h2)⟩
theorem heap_setCells (b : Nat) : ∀ (vs : List Value) (o : Nat) (w : World) (k : Nat), k ≠ b → (w.setCells b o vs).heap[k]? = w.heap[k]?
  | [], _, _, _, _ => rfl
  | v :: r, o, w, k, h => by rw [World.setCells, heap_setCells b r (o + 1) _ k h, Below.heap_setCell _ _ _ _ (by exact h)]
theorem setCells_rest (b : Nat) : ∀ (vs : List Value) (o : Nat) (w : World), (w.setCells b o vs).os = w.os ∧ (w.setCells b o vs).tape = w.tape ∧ (w.setCells b o vs).output = w.output ∧ (w.setCells b o vs).heap.size = w.heap.size
  | [], _, _ => ⟨rfl, rfl, rfl, rfl⟩
  | v :: r, o, w => by
    obtain ⟨h1, h2, h3, h4⟩ := setCells_rest b r (o + 1) (w.setCell ⟨b, o, none⟩ v)
    exact ⟨h1, h2, h3, h4.trans (by simp [World.setCell])⟩
theorem size_setCells (w : World) (b o : Nat) (vs : List Value) : (w.setCells b o vs).heap.size = w.heap.size := (setCells_rest b vs o w).2.2.2
theorem Kp.setCells {w w' : World} {a b : Nat} (h : Kp w w' a b) (g o : Nat) (hg : g = a ∨ g = b) (vs : List Value) : Kp w (w'.setCells g o vs) a b := by
  obtain ⟨h1, h2, h3, h4⟩ := setCells_rest g vs o w'
  exact h.trans ⟨h1, h2, h3, by omega, fun k _ h5 h6 => heap_setCells g vs o w' k (by omega)⟩
theorem below_setCells {B : Nat} {w w' : World} (h : Below B w w') (g o : Nat) (hg : B ≤ g) (vs : List Value) : Below B w (w'.setCells g o vs) := by
  obtain ⟨h1, h2, h3, h4⟩ := setCells_rest g vs o w'
  exact h.trans ⟨h1, h2, h3, by omega, fun k h5 => heap_setCells g vs o w' k (by omega)⟩
theorem Kp.cell {w w' : World} {a b : Nat} (h : Kp w w' a b) {p : Addr} (hp : p.block < w.heap.size) (h1 : p.block ≠ a) (h2 : p.block ≠ b) : w'.cell? p = w.cell? p := World.cell?_of_block (w := w) (h.block p.block hp h1 h2)
theorem Kp.frozen {w w' : World} {a b : Nat} (h : Kp w w' a b) {p : Addr} (hp : p.block < w.heap.size) (h1 : p.block ≠ a) (h2 : p.block ≠ b) : w'.frozen? p = w.frozen? p := World.frozen?_of_block (w := w) (h.block p.block hp h1 h2)

/-- block g has N bytes, which may be written -/
structure Fl (w : World) (g N : Nat) (f : Nat → Int) : Prop where
  lt : g < w.heap.size
  c : ∀ j, j < N → w.cell? ⟨g, j, none⟩ = some (.int .u8 (f j))
  z : ∀ j, j < N → w.frozen? ⟨g, j, none⟩ = false
theorem Fl.below {w w' : World} {B g N : Nat} {f : Nat → Int} (h : Fl w g N f) (hb : Below B w w') (hg : g < B) : Fl w' g N f :=
  ⟨Nat.lt_of_lt_of_le h.lt hb.size, fun j hj => (hb.cell (p := ⟨g, j, none⟩) hg).trans (h.c j hj), fun j hj => (hb.frozen (p := ⟨g, j, none⟩) hg).trans (h.z j hj)⟩
theorem Fl.kp {w w' : World} {a b g N : Nat} {f : Nat → Int} (h : Fl w g N f) (hb : Kp w w' a b) (h1 : g ≠ a) (h2 : g ≠ b) : Fl w' g N f :=
  ⟨Nat.lt_of_lt_of_le h.lt hb.size, fun j hj => (hb.cell (p := ⟨g, j, none⟩) h.lt h1 h2).trans (h.c j hj), fun j hj => (hb.frozen (p := ⟨g, j, none⟩) h.lt h1 h2).trans (h.z j hj)⟩
theorem Fl.far {w : World} {g N : Nat} {f : Nat → Int} (h : Fl w g N f) (p : Addr) (hp : p.block ≠ g) (v : Value) : Fl (w.setCell p v) g N f :=
  ⟨by simpa [World.setCell] using h.lt, fun j hj => by rw [World.cell?_setCell_far w p _ v (by exact hp)]; exact h.c j hj, fun j hj => by simpa using h.z j hj⟩
theorem Fl.range {w : World} {g N : Nat} {f : Nat → Int} (h : Fl w g N f) (o n : Nat) (hn : o + n ≤ N) : w.rangeAt g o (byts n fun i => f (o + i)) := fun j v hj => by
  obtain ⟨h1, rfl⟩ := byts_of hj
  exact h.c (o + j) (by omega)
theorem Fl.there {w : World} {g N : Nat} {f : Nat → Int} (h : Fl w g N f) (o n : Nat) (hn : o + n ≤ N) : w.there g o n := fun j hj =>
  ⟨by rw [h.c (o + j) (by omega)]; rfl, h.z (o + j) (by omega)⟩
theorem Fl.congr {w : World} {g N : Nat} {f f' : Nat → Int} (h : Fl w g N f) (he : ∀ j, j < N → f j = f' j) : Fl w g N f' := ⟨h.lt, fun j hj => by rw [← he j hj]; exact h.c j hj, h.z⟩
/-- n bytes laid over, from place o on -/
def upd (f : Nat → Int) (o n : Nat) (b : Nat → Int) : Nat → Int := fun j => if o ≤ j ∧ j < o + n then b (j - o) else f j
theorem Fl.store {w : World} {g N : Nat} {f : Nat → Int} (h : Fl w g N f) (o n : Nat) (hn : o + n ≤ N) (b : Nat → Int) : Fl (w.setCells g o (byts n b)) g N (upd f o n b) := by
  refine ⟨by rw [size_setCells]; exact h.lt, fun j hj => ?_, fun j hj => by rw [World.frozen?_setCells]; exact h.z j hj⟩
  unfold upd
  by_cases hh : o ≤ j ∧ j < o + n
  · rw [if_pos hh]
    have := World.cell?_setCells_in g (byts n b) o w (fun i hi => (h.there o n hn i (by rwa [byts_len] at hi)).1) (j - o) (by rw [byts_len]; omega)
    rw [show o + (j - o) = j by omega] at this
    rw [this]
    simp [byts]
  · rw [if_neg hh, World.cell?_setCells_out g (byts n b) o w _ (fun _ _ => by rw [byts_len]; show j < o ∨ o + n ≤ j; omega)]
    exact h.c j hj
theorem Fl.new (w : World) (N : Nat) (f : Nat → Int) (t : TypeId) : Fl (w.alloc (.cells (byts N f).toArray t)) w.heap.size N f := by
  refine ⟨by simp, fun j hj => ?_, fun j _ => by simp⟩
  rw [World.cell?_alloc_at _ _ _ _ rfl]
  simpa using byts_get f hj
theorem Fl.made (w : World) (c : Nat) (t : TypeId) : Fl (w.alloc (.cells (madeCells (byts 64 fun _ => 0).toArray (c * 64)) t)) w.heap.size (c * 64) (fun _ => 0) := by
  refine ⟨by simp, fun j hj => ?_, fun j _ => by simp⟩
  rw [World.cell?_alloc_at _ _ _ _ rfl]
  have h1 : j % 64 < 64 := Nat.mod_lt _ (by decide)
  simp [madeCells, byts_len, hj, byts, h1]

/-! ### copy, by elements of several cells -/
theorem run_copy_mid {P : Program} (w : World) (dT sT ty elem : TypeId) (sz b o dLen dCap : Nat) (sp : Option Addr) (sLen sCap : Nat) (cs : List Value)
    (hu : P.underlying dT = some (.slice elem)) (hs : (P.info? elem).map (·.size) = some sz) (hn : cs.length = Nat.min sLen dLen * sz)
    (hpos : 0 < cs.length → ∃ ad, sp = some ad ∧ ∀ j v, cs[j]? = some v → w.cell? (ad.add j) = some v) (ht : w.there b o cs.length) (h1 : ∀ v ∈ cs, v.oneCell' = true) :
    (Builtin.copy_ #[dT, sT] ty #[.slice (some ⟨b, o, none⟩) dLen dCap, .slice sp sLen sCap]).run P w = .ok (goInt (Nat.min sLen dLen)) (w.setCells b o cs) := by
  have hst := run_storeCells_cells (P := P) b o cs 0 w (fun j hj => by simpa using (ht j hj).1) (fun j hj => by simpa using (ht j hj).2) h1
  simp only [Nat.add_zero] at hst
  cases hq : P.info? elem with
  | none => simp [hq] at hs
  | some i =>
    have hi : i.size = sz := by simpa [hq] using hs
    by_cases h0 : cs.length = 0
    · obtain rfl : cs = [] := List.eq_nil_of_length_eq_zero h0
      rw [List.length_nil] at hn
      have hl : ∀ (x : Addr), (loadCells x 0).run P w = .ok #[] w := fun x => by simpa using run_loadCells_list (P := P) w x [] (by simp)
      cases sp <;> simp [Builtin.copy_, run_underlying hu, Builtin.lenOf, Builtin.firstCells, sizeOf, typeInfo, hq, hi, ← hn, hl, storeCells, World.setCells]
    · obtain ⟨ad, rfl, hsrc⟩ := hpos (by omega)
      have hl := run_loadCells_list (P := P) w ad cs hsrc
      simp [Builtin.copy_, run_underlying hu, Builtin.lenOf, Builtin.firstCells, sizeOf, typeInfo, hq, hi, ← hn, hl, hst]
theorem wpList_copy_mid {P : Program} {w : World} {ops : Array Oper} {rest : List Oper} {o : Oper} {a : Act} {Q : Exit → Act → World → Prop} (hgd : o.guard = none) (d s : Operand) (dT sT : TypeId)
    (ho : o.op = .call { callee := .builtin .copy, args := #[d, s], argTypes := #[dT, sT] }) (elem : TypeId) (hu : P.underlying dT = some (.slice elem)) (sz : Nat) (hsz : (P.info? elem).map (·.size) = some sz)
    (b off dLen dCap : Nat) (sp : Option Addr) (sLen sCap : Nat) (hd : a.eval d = .slice (some ⟨b, off, none⟩) dLen dCap) (hs : a.eval s = .slice sp sLen sCap)
    (cs : List Value) (hn : cs.length = Nat.min sLen dLen * sz) (hpos : 0 < cs.length → ∃ ad, sp = some ad ∧ ∀ j v, cs[j]? = some v → w.cell? (ad.add j) = some v) (ht : w.there b off cs.length) (h1 : ∀ v ∈ cs, v.oneCell' = true)
    (h : wpList P ops Q rest (a.put o.dst (goInt (Nat.min sLen dLen))) (w.setCells b off cs)) : wpList P ops Q (o :: rest) a w := by
  refine wpList_plain hgd fun K hK => ?_
  have hrun := run_copy_mid (P := P) w dT sT o.type elem sz b off dLen dCap sp sLen sCap cs hu hsz hn hpos ht h1
  unfold Oper.wp
  simp [execOp, ho, resolve, invoke, builtin, hd, hs, hrun, Result.andThen]
  exact hK _ _ h

/-! ### blocks compared -/
def eqb (n : Nat) (f g : Nat → Int) : Bool := (List.range n).all fun i => f i == g i
theorem eqb_iff (n : Nat) (f g : Nat → Int) : eqb n f g = true ↔ ∀ i, i < n → f i = g i := by simp [eqb]
theorem eqb_same {n : Nat} {f g : Nat → Int} (h : ∀ i, i < n → f i = g i) : eqb n f g = true := (eqb_iff n f g).2 h
theorem Try.arr36 : Try.prog.underlying 96 = some (.array 64 5) := by kernel_rfl
theorem Try.int5 : Try.prog.underlying 5 = some (.int .u8) := by kernel_rfl
theorem Try.info5 : (Try.prog.info? 5).map (·.size) = some 1 := by kernel_rfl
theorem Try.cells5 : Try.prog.cellsOf 5 = 1 := by kernel_rfl
theorem eqItems_byts (n d : Nat) (f g : Nat → Int) (w : World) : ∀ is : List Nat, (∀ i ∈ is, i < n) → (Op.eqItems (d + 1) 5 1 (byts n f).toArray (byts n g).toArray is).run Try.prog w = .ok (is.all fun i => f i == g i) w
  | [], _ => by simp [Op.eqItems]
  | i :: is, h => by
    have hi := h i (by simp)
    have ih := eqItems_byts n d f g w is (fun j hj => h j (by simp [hj]))
    have hag : (isAgg 5).run Try.prog w = .ok false w := by
      unfold isAgg
      rw [Sem.run_bind, run_underlying Try.int5 w]
      rfl
    have p1 : ∀ f : Nat → Int, (part 5 (byts n f).toArray (i * 1)).run Try.prog w = .ok (.int .u8 (f i)) w := fun f => by
      simp [part, Sem.run_bind, hag, byts_get f hi]
    simp only [Op.eqItems, Sem.run_bind, p1, Result.andThen_ok, run_equalIn_int w d 5 .u8 .u8 _ _ Try.int5, List.all_cons]
    cases hb : (f i == g i)
    · simp
    · simpa using ih
theorem eq36 (f g : Nat → Int) (w : World) : (Op.equalIn 10000 96 (.agg (byts 64 f).toArray) (.agg (byts 64 g).toArray)).run Try.prog w = .ok (eqb 64 f g) w := by
  obtain ⟨i, hi⟩ : ∃ i, Try.prog.info? 5 = some i := by
    have := Try.info5
    cases h : Try.prog.info? 5 with
    | none => simp [h] at this
    | some i => exact ⟨i, rfl⟩
  rw [run_equalIn_array w 9999 (byts 64 f).toArray (byts 64 g).toArray Try.arr36 hi, Try.cells5]
  exact eqItems_byts 64 9998 f g w (List.range 64) (fun j hj => List.mem_range.1 hj)

/-! ### results that are a cell -/
theorem results_mid {P : Program} {fn : Func} {p : Tmp} {ty : TypeId} (h : fn.results = #[.cell p ty]) (tmps : Array Value) (w : World) (b : Nat) (cs : List Value) (d : TypeDesc)
    (hp : tmps.getD p undef = .pointer (some ⟨b, 0, none⟩)) (hc : w.rangeAt b 0 cs) (hu : P.underlying ty = some d) (hd : d.isRow = true) (hi : (P.info? ty).map (·.size) = some cs.length) :
    (results fn tmps).run P w = .ok (.agg cs.toArray) w := by
  have hp' : tmps[p]?.getD undef = .pointer (some ⟨b, 0, none⟩) := by simpa using hp
  simp [results, h, hp', asAddr, run_loadVar_mid w b 0 ty cs d hc hu hd hi]
theorem results_mid_tmp {P : Program} {fn : Func} {p u : Tmp} {ty : TypeId} (h : fn.results = #[.cell p ty, .tmp u]) (tmps : Array Value) (w : World) (b : Nat) (cs : List Value) (d : TypeDesc)
    (hp : tmps.getD p undef = .pointer (some ⟨b, 0, none⟩)) (hc : w.rangeAt b 0 cs) (hu : P.underlying ty = some d) (hd : d.isRow = true) (hi : (P.info? ty).map (·.size) = some cs.length) :
    (results fn tmps).run P w = .ok (.tuple #[.agg cs.toArray, tmps.getD u undef]) w := by
  rw [results_cell_tmp h, hp]
  simp [asAddr, run_loadVar_mid w b 0 ty cs d hc hu hd hi]
end Go.Proofs.Ytdebkifnaiohcaa
