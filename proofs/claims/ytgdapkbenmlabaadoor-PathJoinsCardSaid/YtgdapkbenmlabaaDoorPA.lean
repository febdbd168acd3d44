import Derived.Test.YtgdapkbenmlabaaDoorRows
import Derived.BigQuiet
import Derived.BigRegion
import Derived.ChangeKeysEq
import Derived.Deep.CutBlock
import Derived.Deep.DeepCutAuto
import Derived.Deep.Draws
import Derived.Deep.MidRow
import Derived.Deep.Quiet
import Derived.Deep.QuietTactic
import Derived.Deep.RegionHeld
import Derived.DeepKeys
import Derived.DeepKeys4
import Derived.IntWalk
import Derived.Laws.CopyOwn
import Derived.Laws.MakeOwn
import Derived.Laws.ResultCell
import Derived.Lib.Hide
import Derived.Lib.OthersKept
import Derived.Lib.QuietBelow
import Derived.LoopTactic
import Derived.Maps.OwnOps
import Derived.Maps.OwnSet
import Derived.Orders
import Derived.OwnWalk
import Derived.RegionTactic
import Derived.Sort.Grow
import Derived.WalkKit
import Derived.WalkLawsBesides
import Derived.WalkSpells
/- Blocks of cells, rows that are one's own, regions that draw their order: what the walks of this seat take. -/
namespace Go.Proofs.YtgdapkbenmlabaaDoor.Pt
set_option linter.unusedSimpArgs false
set_option linter.unusedVariables false
open Go.RowKit Go.Maps

/-- of the world nothing has turned but blocks a and b, and what was made -/
structure Kp (w w' : World) (a b : Nat) : Prop where
  os : w'.os = w.os
  tape : w'.tape = w.tape
  output : w'.output = w.output
  size : w.heap.size ≤ w'.heap.size
  block : ∀ k, k < w.heap.size → k ≠ a → k ≠ b → w'.heap[k]? = w.heap[k]?
theorem Kp.refl (w : World) (a b : Nat) : Kp w w a b := ⟨rfl, rfl, rfl, Nat.le_refl _, fun _ _ _ _ => rfl⟩
theorem Kp.trans {w1 w2 w3 : World} {a b : Nat} (h : Kp w1 w2 a b) (k : Kp w2 w3 a b) : Kp w1 w3 a b :=
  ⟨k.os.trans h.os, k.tape.trans h.tape, k.output.trans h.output, Nat.le_trans h.size k.size, fun i hi h1 h2 => (k.block i (Nat.lt_of_lt_of_le hi h.size) h1 h2).trans (h.block i hi h1 h2)⟩
theorem Kp.of_below {w w' : World} (h : Below w.heap.size w w') (a b : Nat) : Kp w w' a b := ⟨h.os, h.tape, h.output, h.size, fun k hk _ _ => h.block k hk⟩
theorem Kp.below {w w' : World} {a b B : Nat} (h : Kp w w' a b) (ha : B ≤ a) (hb : B ≤ b) (hB : B ≤ w.heap.size) : Below B w w' :=
  ⟨h.os, h.tape, h.output, h.size, fun k hk => h.block k (by omega) (by omega) (by omega)⟩
theorem Kp.alloc {w w' : World} {a b : Nat} (h : Kp w w' a b) (o : Obj) : Kp w (w'.alloc o) a b := h.trans (Kp.of_below ((Below.refl _ _).alloc (Nat.le_refl _) o) a b)
theorem Kp.drew {w w' : World} {a b : Nat} (h : Kp w w' a b) : Kp w w'.drew a b := h.trans (Kp.of_below (Below.refl _ _).drew a b)
theorem Kp.setCell {w w' : World} {a b : Nat} (h : Kp w w' a b) (p : Addr) (hp : p.block = a ∨ p.block = b) (v : Value) : Kp w (w'.setCell p v) a b :=
  h.trans ⟨rfl, rfl, rfl, by simp [World.setCell], fun k _ h1 h2 => Below.heap_setCell _ _ _ _ (by omega)⟩
/-- a store into a block that was made since -/
theorem Kp.setNew {w w' : World} {a b : Nat} (h : Kp w w' a b) (p : Addr) (hp : w.heap.size ≤ p.block) (v : Value) : Kp w (w'.setCell p v) a b :=
  ⟨h.os, h.tape, h.output, Nat.le_trans h.size (by simp [World.setCell]), fun k hk h1 h2 => (Below.heap_setCell _ _ _ _ (by omega)).trans (h.block k hk h1 h2)⟩
theorem heap_setCells (b : Nat) : ∀ (vs : List Value) (o : Nat) (w : World) (k : Nat), k ≠ b → (w.setCells b o vs).heap[k]? = w.heap[k]?
  | [], _, _, _, _ => rfl
  | v :: r, o, w, k, h => by rw [World.setCells, heap_setCells b r (o + 1) _ k h, Below.heap_setCell _ _ _ _ (by exact h)]
theorem setCells_rest (b : Nat) : ∀ (vs : List Value) (o : Nat) (w : World), (w.setCells b o vs).os = w.os ∧ (w.setCells b o vs).tape = w.tape ∧ (w.setCells b o vs).output = w.output ∧ (w.setCells b o vs).heap.size = w.heap.size
  | [], _, _ => ⟨rfl, rfl, rfl, rfl⟩
  | v :: r, o, w => by
    obtain ⟨h1, h2, h3, h4⟩ := setCells_rest b r (o + 1) (w.setCell ⟨b, o, none⟩ v)
    exact ⟨h1, h2, h3, h4.trans (by simp [World.setCell])⟩
theorem size_setCells (w : World) (b o : Nat) (vs : List Value) : (w.setCells b o vs).heap.size = w.heap.size := (setCells_rest b vs o w).2.2.2
theorem Kp.setCells {w w' : World} {a b : Nat} (h : Kp w w' a b) (g o : Nat) (hg : g = a ∨ g = b) (vs : List Value) : Kp w (w'.setCells g o vs) a b := by
  obtain ⟨h1, h2, h3, h4⟩ := setCells_rest g vs o w'
  exact h.trans ⟨h1, h2, h3, by omega, fun k _ h5 h6 => heap_setCells g vs o w' k (by omega)⟩
theorem below_setCells {B : Nat} {w w' : World} (h : Below B w w') (g o : Nat) (hg : B ≤ g) (vs : List Value) : Below B w (w'.setCells g o vs) := by
  obtain ⟨h1, h2, h3, h4⟩ := setCells_rest g vs o w'
  exact h.trans ⟨h1, h2, h3, by omega, fun k h5 => heap_setCells g vs o w' k (by omega)⟩
theorem Kp.cell {w w' : World} {a b : Nat} (h : Kp w w' a b) {p : Addr} (hp : p.block < w.heap.size) (h1 : p.block ≠ a) (h2 : p.block ≠ b) : w'.cell? p = w.cell? p := World.cell?_of_block (w := w) (h.block p.block hp h1 h2)
theorem Kp.frozen {w w' : World} {a b : Nat} (h : Kp w w' a b) {p : Addr} (hp : p.block < w.heap.size) (h1 : p.block ≠ a) (h2 : p.block ≠ b) : w'.frozen? p = w.frozen? p := World.frozen?_of_block (w := w) (h.block p.block hp h1 h2)
theorem Kp.setA {w w' : World} {a b : Nat} (h : Kp w w' a b) (o : Nat) (v : Value) : Kp w (w'.setCell ⟨a, o, none⟩ v) a b := h.setCell ⟨a, o, none⟩ (.inl rfl) v
theorem results_mid {P : Program} {fn : Func} {p : Tmp} {ty : TypeId} (h : fn.results = #[.cell p ty]) (tmps : Array Value) (w : World) (b : Nat) (cs : List Value) (d : TypeDesc)
    (hp : tmps.getD p undef = .pointer (some ⟨b, 0, none⟩)) (hc : w.rangeAt b 0 cs) (hu : P.underlying ty = some d) (hd : d.isRow = true) (hi : (P.info? ty).map (·.size) = some cs.length) :
    (results fn tmps).run P w = .ok (.agg cs.toArray) w := by
  have hp' : tmps[p]?.getD undef = .pointer (some ⟨b, 0, none⟩) := by simpa using hp
  simp [results, h, hp', asAddr, run_loadVar_mid w b 0 ty cs d hc hu hd hi]
theorem results_mid_tmp {P : Program} {fn : Func} {p u : Tmp} {ty : TypeId} (h : fn.results = #[.cell p ty, .tmp u]) (tmps : Array Value) (w : World) (b : Nat) (cs : List Value) (d : TypeDesc)
    (hp : tmps.getD p undef = .pointer (some ⟨b, 0, none⟩)) (hc : w.rangeAt b 0 cs) (hu : P.underlying ty = some d) (hd : d.isRow = true) (hi : (P.info? ty).map (·.size) = some cs.length) :
    (results fn tmps).run P w = .ok (.tuple #[.agg cs.toArray, tmps.getD u undef]) w := by
  rw [results_cell_tmp h, hp]
  simp [asAddr, run_loadVar_mid w b 0 ty cs d hc hu hd hi]
theorem ret_bool {a b : Bool} (h : a = b) : Ending.returned (.bool a) = .returned (.bool b) := by rw [h]
/-- an operation that yields, in a list: guarded ones too -/
theorem wpList_yields {P : Program} {ops : Array Oper} {rest : List Oper} {op : Oper} {a : Act} {w : World} {Q : Exit → Act → World → Prop} (v : Value) (hy : YieldsIf P ops (fun W => W = w) op v a) (h : wpList P ops Q rest (a.put op.dst v) w) : wpList P ops Q (op :: rest) a w := by
  rcases hy with ⟨hw, hr⟩ | ⟨hw, rfl⟩
  · refine wpList_step fun K hK => ?_
    rw [if_pos hw]
    unfold Oper.wp
    rw [hr w rfl]
    exact hK _ _ h
  · exact wpList_skip hw h
theorem ownsRow_below {w w' : World} {base : Nat} {e : TypeId} {size : Nat} {v : Value} {n : Nat} {xs : List Value} (h : w.ownsRow base e size v n xs) (hb : Below w.heap.size w w') : w'.ownsRow base e size v n xs := by
  obtain ⟨hl, h | ⟨g, cap, cur, hv, hg, hh, r⟩⟩ := h
  · exact ⟨hl, .inl h⟩
  · refine ⟨hl, .inr ⟨g, cap, cur, hv, hg, ?_, r⟩⟩
    have hlt : g < w.heap.size := by
      rcases Nat.lt_or_ge g w.heap.size with h' | h'
      · exact h'
      · rw [Array.getElem?_eq_none h'] at hh; simp at hh
    rw [hb.block g hlt]; exact hh
theorem ownsRow_block {w : World} {base : Nat} {e : TypeId} {size : Nat} {v : Value} {n : Nat} {xs : List Value} (h : w.ownsRow base e size v n xs) : ∀ k, v.ownBlock = some k → base ≤ k := by
  intro k hk
  obtain ⟨_, ⟨hv, _⟩ | ⟨g, cap, cur, hv, hg, _⟩⟩ := h
  · rw [hv] at hk; simp [Value.ownBlock] at hk
  · rw [hv] at hk; simp [Value.ownBlock] at hk; omega
theorem ret_int {k : IntKind} {a b : Int} (h : a = b) : Ending.returned (.int k a) = .returned (.int k b) := by rw [h]
theorem below_drewN' {B : Nat} {a w : World} (h : Below B a w) (n : Nat) : Below B a (w.drewN n) := ⟨h.os, h.tape, h.output, h.size, h.block⟩
def letterB (b : UInt8) : Bool := decide (97 ≤ b.toNat) && decide (b.toNat ≤ 122)
def nameB (s : ByteArray) : Bool := decide (1 ≤ s.size) && decide (s.size ≤ 8) && s.data.toList.all letterB
theorem letters_upto (s : ByteArray) (h : ∀ j (hj : j < s.size), letterB s[j] = true) : s.data.toList.all letterB = true := by
  rw [List.all_eq_true]
  intro x hx
  obtain ⟨j, hj, rfl⟩ := List.mem_iff_getElem.1 hx
  exact h j (by simpa using hj)
theorem letters_bad (s : ByteArray) (j : Nat) (hj : j < s.size) (h : letterB s[j] = false) : s.data.toList.all letterB = false := by
  rw [List.all_eq_false]
  exact ⟨s[j], by exact Array.mem_toList_iff.2 (Array.getElem_mem _), by simp [h]⟩
theorem countP_lt {α : Type} (p q : α → Bool) (l : List α) (h : ∀ x ∈ l, q x = true → p x = true) {i : α} (hi : i ∈ l) (hp : p i = true) (hq : q i = false) : l.countP q < l.countP p := by
  induction l with
  | nil => cases hi
  | cons x r ih =>
    have hmono : r.countP q ≤ r.countP p := List.countP_mono_left (fun y hy => h y (List.mem_cons_of_mem _ hy))
    rw [List.countP_cons, List.countP_cons]
    rcases List.mem_cons.1 hi with rfl | hi'
    · simp [hp, hq]; omega
    · have h1 := ih (fun y hy => h y (List.mem_cons_of_mem _ hy)) hi'
      have h2 := h x (List.mem_cons_self ..)
      cases hqx : q x
      · cases p x <;> simp <;> omega
      · rw [h2 hqx]; simp; omega
theorem wpAny_inv {P : Program} {ops : Array Oper} {Q : Exit → Act → World → Prop} {a : Act}
    (hback0 : ((List.range ops.size).all fun i => ((ops[i]?).map fun o : Oper => o.after.all fun e : Edge => decide (e.on < i)).getD true) = true)
    (Inv : Act → (Nat → Bool) → Act → World → Prop)
    (hstep : ∀ (f : Nat → Bool) a1 w1, Inv a f a1 w1 → ∀ (i : Nat) (o : Oper), ops[i]? = some o → f i = false → (∀ e ∈ o.after, Region.binds .any e = true → f e.on = true) → wpOp P ops Q i (fun a' w' => Inv a (fun j => j == i || f j) a' w') a1 w1)
    (hend : ∀ (f : Nat → Bool) a1 w1, (∀ i, i < ops.size → f i = true) → Inv a f a1 w1 → Q .normal a1 w1) :
    ∀ (fuel : Nat) (L : Array Bool) (f : Nat → Bool) (a1 : Act) (w1 : World), L.size = ops.size → (∀ j, j < ops.size → f j = L.getD j false) → (List.range ops.size).countP (fun j => !L.getD j false) ≤ fuel → Inv a f a1 w1 → wpAny P .any ops Q fuel L a1 w1 := by
  have hback : ∀ (i : Nat) (o : Oper), ops[i]? = some o → ∀ e ∈ o.after, e.on < i := by
    intro i o ho e he
    have h1 := List.all_eq_true.1 hback0 i (List.mem_range.2 (Array.getElem?_eq_some_iff.1 ho).1)
    rw [ho] at h1
    simp only [Option.map_some, Option.getD_some] at h1
    have h2 := Array.all_eq_true'.1 h1 e he
    simpa using h2
  have hall : ∀ L : Array Bool, L.size = ops.size → Region.ready .any ops L = [] → ∀ i, i < ops.size → L.getD i false = true := by
    intro L hL hr i
    induction i using Nat.strongRecOn with
    | ind i ih =>
      intro hi
      cases hv : L.getD i false with
      | true => rfl
      | false =>
        exfalso
        have hmem : i ∈ Region.ready .any ops L := by
          refine mem_ready.2 ⟨?_, ops[i], Array.getElem?_eq_getElem hi, fun e he _ => ih e.on (hback i _ (Array.getElem?_eq_getElem hi) e he) (Nat.lt_trans (hback i _ (Array.getElem?_eq_getElem hi) e he) hi)⟩
          simp only [Array.getD_eq_getD_getElem?, Array.getElem?_eq_getElem (show i < L.size by omega), Option.getD_some] at hv ⊢
          exact hv
        rw [hr] at hmem
        cases hmem
  have key : ∀ (fuel : Nat) (L : Array Bool) (f : Nat → Bool) (a1 : Act) (w1 : World), L.size = ops.size → (∀ j, j < ops.size → f j = L.getD j false) → (List.range ops.size).countP (fun j => !L.getD j false) ≤ fuel → Inv a f a1 w1 → wpAny P .any ops Q fuel L a1 w1 := by
    intro fuel
    induction fuel with
    | zero =>
      intro L f a1 w1 hL hf hc hI
      have hz : ∀ i, i < ops.size → L.getD i false = true := by
        intro i hi
        cases hv : L.getD i false with
        | true => rfl
        | false =>
          exfalso
          have : 0 < (List.range ops.size).countP (fun j => !L.getD j false) := List.countP_pos_iff.2 ⟨i, List.mem_range.2 hi, by simp only [hv]; rfl⟩
          omega
      refine ⟨?_, hend f a1 w1 (fun i hi => by rw [hf i hi]; exact hz i hi) hI⟩
      rw [List.eq_nil_iff_forall_not_mem]
      intro j hj
      obtain ⟨h1, o, ho, _⟩ := mem_ready.1 hj
      have hjl : j < ops.size := (Array.getElem?_eq_some_iff.1 ho).1
      have h2 := hz j hjl
      simp only [Array.getD_eq_getD_getElem?, Array.getElem?_eq_getElem (show j < L.size by omega), Option.getD_some] at h1 h2
      rw [h1] at h2
      cases h2
    | succ fuel ih =>
      intro L f a1 w1 hL hf hc hI
      refine ⟨fun hr => hend f a1 w1 (fun i hi => by rw [hf i hi]; exact hall L hL hr i hi) hI, fun i hi => ?_⟩
      obtain ⟨h1, o, ho, hafter⟩ := mem_ready.1 hi
      have hil : i < ops.size := (Array.getElem?_eq_some_iff.1 ho).1
      have h1' : L.getD i false = false := by
        simp only [Array.getD_eq_getD_getElem?, Array.getElem?_eq_getElem (show i < L.size by omega), Option.getD_some] at h1 ⊢
        exact h1
      have hs := hstep f a1 w1 hI i o ho (by rw [hf i hil]; exact h1') (fun e he hb => by rw [hf e.on (Nat.lt_trans (hback i o ho e he) hil)]; exact hafter e he hb)
      have hget : ∀ j, j < ops.size → (L.setIfInBounds i true).getD j false = (j == i || L.getD j false) := by
        intro j hj
        simp only [Array.getD_eq_getD_getElem?, Array.getElem?_setIfInBounds]
        by_cases e : i = j
        · subst e; simp [show i < L.size by omega]
        · have e2 : (j == i) = false := by simp; omega
          simp [e, e2]
      refine wpOp_mono (fun a' w' h' => ih _ _ a' w' (by simpa using hL) ?_ ?_ h') hs
      · intro j hj
        rw [hget j hj, hf j hj]
      · have hlt := countP_lt (fun j => !L.getD j false) (fun j => !(L.setIfInBounds i true).getD j false) (List.range ops.size) (fun x hx hq => by
          have hxl := List.mem_range.1 hx
          rw [hget x hxl] at hq
          simp only [Bool.not_or, Bool.and_eq_true, Bool.not_eq_true'] at hq ⊢
          exact hq.2) (List.mem_range.2 hil) (by simp only [h1']; rfl) (by rw [hget i hil]; simp)
        omega
  exact key
theorem wp_region_inv {P : Program} {ops : Array Oper} {Q : Exit → Act → World → Prop} {id : Nat} {a : Act} {w : World} (hm : P.follows .mixedOrders = true)
    (hback0 : ((List.range ops.size).all fun i => ((ops[i]?).map fun o : Oper => o.after.all fun e : Edge => decide (e.on < i)).getD true) = true)
    (Inv : Act → (Nat → Bool) → Act → World → Prop) (h0 : Inv a (fun _ => false) a w.drew)
    (hstep : ∀ (f : Nat → Bool) a1 w1, Inv a f a1 w1 → ∀ (i : Nat) (o : Oper), ops[i]? = some o → f i = false → (∀ e ∈ o.after, Region.binds .any e = true → f e.on = true) → wpOp P ops Q i (fun a' w' => Inv a (fun j => j == i || f j) a' w') a1 w1)
    (hend : ∀ (f : Nat → Bool) a1 w1, (∀ i, i < ops.size → f i = true) → Inv a f a1 w1 → Q .normal a1 w1) : (Code.region id ops true).wp P Q a w := by
  refine wp_region_any hm (wpAny_inv hback0 Inv hstep hend ops.size (Array.replicate ops.size false) (fun _ => false) a _ (by simp) (fun j hj => by simp [hj]) ?_ h0)
  exact Nat.le_trans List.countP_le_length (by simp)
def markAll (l : List Edge) (m : Array Bool) : Array Bool := l.foldl (fun m e => if Region.binds .any e then m.setIfInBounds e.on true else m) m
def pull (ops : Array Oper) : Nat → Array Bool → Array Bool
  | 0, m => m
  | i + 1, m => pull ops i (if m.getD i false then (match ops[i]? with | some o => markAll o.after.toList m | none => m) else m)
/-- each operation from n on waits for another such one, or for all below n -/
def covers (ops : Array Oper) (n : Nat) : Bool :=
  (List.range ops.size).all fun j => decide (j < n) || match ops[j]? with
    | some o => (o.after.toList.any fun e => Region.binds .any e && decide (n ≤ e.on)) || ((List.range n).all fun i => (pull ops n (markAll o.after.toList (Array.replicate n false))).getD i false)
    | none => true
def backs (ops : Array Oper) : Bool := (List.range ops.size).all fun i => ((ops[i]?).map fun o : Oper => (o.after.all fun e : Edge => decide (e.on < i)) && (match o.guard with | some (g, _) => decide (g < i) | none => true)).getD true
theorem markAll_sound (g : Nat → Bool) : ∀ (l : List Edge) (m : Array Bool), (∀ e ∈ l, Region.binds .any e = true → g e.on = true) → (∀ i, m.getD i false = true → g i = true) → ∀ i, (markAll l m).getD i false = true → g i = true
  | [], _, _, h => h
  | e :: r, m, hl, h => by
    unfold markAll
    rw [List.foldl_cons]
    refine markAll_sound g r _ (fun x hx => hl x (List.mem_cons_of_mem _ hx)) (fun i hi => ?_)
    split at hi
    · rename_i hb
      simp only [Array.getD_eq_getD_getElem?, Array.getElem?_setIfInBounds] at hi
      by_cases he : e.on = i
      · rw [← he]; exact hl e (List.mem_cons_self ..) hb
      · rw [if_neg he] at hi
        exact h i (by simpa only [Array.getD_eq_getD_getElem?] using hi)
    · exact h i hi
theorem pull_sound {ops : Array Oper} (g : Nat → Bool) (n : Nat) (hg : ∀ (i : Nat) (o : Oper), i < n → ops[i]? = some o → g i = true → ∀ e ∈ o.after, Region.binds .any e = true → g e.on = true) :
    ∀ (k : Nat) (m : Array Bool), k ≤ n → (∀ i, m.getD i false = true → g i = true) → ∀ i, (pull ops k m).getD i false = true → g i = true
  | 0, _, _, h => h
  | k + 1, m, hk, h => by
    refine pull_sound g n hg k _ (by omega) (fun i hi => ?_)
    split at hi
    · rename_i hm
      split at hi
      · rename_i o ho
        exact markAll_sound g _ m (fun e he hb => hg k o (by omega) ho (h k hm) e (by simpa using he) hb) h i hi
      · exact h i hi
    · exact h i hi
def listedTo (n m : Nat) : Array Bool := (List.replicate n true ++ List.replicate m false).toArray
theorem listedTo_getD (n m j : Nat) (d : Bool) : (listedTo n m).getD j d = if j < n then true else if j < n + m then false else d := by
  unfold listedTo
  simp only [Array.getD_eq_getD_getElem?, List.getElem?_toArray]
  rw [List.getElem?_append]
  by_cases h : j < n
  · simp [h]
  · by_cases h2 : j < n + m
    · simp [h, h2, show j - n < m by omega]
    · simp [h, h2, show ¬ j - n < m by omega]
section
variable {P : Program} {ops : Array Oper} {Q : Exit → Act → World → Prop} {C : World → Prop}

theorem yielded_take (n : Nat) (tmps : Array Value) (j : Nat) (hj : j < n) : yielded (ops.toList.take n).toArray tmps j = yielded ops tmps j := by
  unfold yielded
  rw [List.getElem?_toArray, List.getElem?_take_of_lt hj, Array.getElem?_toList]
theorem wpOp_of_take {n i : Nat} {a : Act} {K : Act → Prop} {K' : Act → World → Prop} {w : World} (hi : i < n) (hgd : ∀ o, ops[i]? = some o → ∀ g b, o.guard = some (g, b) → g < n)
    (hC : C w) (h : ∀ a w', C w' → K a → K' a w') (hh : qOp P (ops.toList.take n).toArray C i K a) : wpOp P ops Q i K' a w := by
  unfold qOp at hh
  unfold wpOp
  rw [List.getElem?_toArray, List.getElem?_take_of_lt hi, Array.getElem?_toList] at hh
  cases ho : ops[i]? with
  | none => rw [ho] at hh; exact h _ _ hC hh
  | some o =>
    rw [ho] at hh
    simp only at hh ⊢
    have hw : Region.wanted o (yielded (ops.toList.take n).toArray a.tmps) = Region.wanted o (yielded ops a.tmps) := by
      unfold Region.wanted
      cases hgu : o.guard with
      | none => rfl
      | some gb =>
        obtain ⟨g, b⟩ := gb
        simp only
        rw [yielded_take n a.tmps g (hgd o ho g b hgu)]
    rw [hw] at hh
    split
    · rename_i hw2; simp only [hw2, if_true] at hh; exact .inl (Oper.wp_of_quiet hC h hh)
    · rename_i hw2; simp only [hw2] at hh; exact h _ _ hC hh

theorem wp_region_split {id : Nat} {a : Act} {w : World} (n : Nat) (hm : P.follows .mixedOrders = true) (hn : n ≤ ops.size) (hback0 : backs ops = true) (hcov : covers ops n = true)
    (hlex : Region.lexB .any (ops.toList.take n).toArray = true) (hC : C w.drew)
    (h : wpQuiet P (ops.toList.take n).toArray C (fun a' => ∀ w', C w' → wpAny P .any ops Q (ops.size - n) (listedTo n (ops.size - n)) a' w') (ops.toList.take n) a) : (Code.region id ops true).wp P Q a w := by
  have hbk : ∀ (i : Nat) (o : Oper), ops[i]? = some o → (∀ e ∈ o.after, e.on < i) ∧ ∀ g b, o.guard = some (g, b) → g < i := by
    intro i o ho
    have h1 := List.all_eq_true.1 hback0 i (List.mem_range.2 (Array.getElem?_eq_some_iff.1 ho).1)
    rw [ho] at h1
    simp only [Option.map_some, Option.getD_some, Bool.and_eq_true] at h1
    obtain ⟨h1, h3⟩ := h1
    refine ⟨fun e he => ?_, fun g b hg => ?_⟩
    · have h2 := Array.all_eq_true'.1 h1 e he
      simpa using h2
    · rw [hg] at h3; simpa using h3
  have hlen : (ops.toList.take n).length = n := by rw [List.length_take, Array.length_toList]; omega
  simp only [Region.lexB, Bool.and_eq_true] at hlex
  have hq := wpAnyQ_lex (P := P) (C := C) (md := .any) hlex.1 (ops.toList.take n) 0 (Array.replicate (ops.toList.take n).toArray.size false) a (by simp) (by simpa using hlex.2) h
  rw [hlen] at hq
  have ext : ∀ (fuel : Nat) (LA : Array Bool) (a : Act) (w : World), LA.size = n → (List.range n).countP (fun j => !LA.getD j false) = fuel →
      (∀ (i : Nat) (o : Oper), i < n → ops[i]? = some o → LA.getD i false = true → ∀ e ∈ o.after, Region.binds .any e = true → LA.getD e.on false = true) → C w →
      wpAnyQ P .any (ops.toList.take n).toArray C (fun a' => ∀ w', C w' → wpAny P .any ops Q (ops.size - n) (listedTo n (ops.size - n)) a' w') fuel LA a →
      wpAny P .any ops Q (fuel + (ops.size - n)) (LA ++ Array.replicate (ops.size - n) false) a w := by
    intro fuel
    induction fuel with
    | zero =>
      intro LA a w hL hc _ hw hQ
      have hz : ∀ i, i < n → LA.getD i false = true := by
        intro i hi
        cases hv : LA.getD i false with
        | true => rfl
        | false =>
          exfalso
          have : 0 < (List.range n).countP (fun j => !LA.getD j false) := List.countP_pos_iff.2 ⟨i, List.mem_range.2 hi, by simp only [hv]; rfl⟩
          omega
      have e : LA ++ Array.replicate (ops.size - n) false = listedTo n (ops.size - n) := by
        apply Array.ext_getElem?
        intro j
        have h1 : ∀ d, (LA ++ Array.replicate (ops.size - n) false).getD j d = (listedTo n (ops.size - n)).getD j d := by
          intro d
          rw [listedTo_getD]
          simp only [Array.getD_eq_getD_getElem?, Array.getElem?_append, hL]
          by_cases hj : j < n
          · have := hz j hj
            simp only [Array.getD_eq_getD_getElem?, Array.getElem?_eq_getElem (show j < LA.size by omega), Option.getD_some] at this
            simp [hj, Array.getElem?_eq_getElem (show j < LA.size by omega), this]
          · by_cases hj2 : j < n + (ops.size - n)
            · simp [hj, hj2, show j - n < ops.size - n by omega]
            · simp [hj, hj2, show ¬ j - n < ops.size - n by omega]
        have h2 := h1 true
        have h3 := h1 false
        simp only [Array.getD_eq_getD_getElem?] at h2 h3
        cases x : (LA ++ Array.replicate (ops.size - n) false)[j]? <;> cases y : (listedTo n (ops.size - n))[j]? <;> rw [x, y] at h2 h3 <;> simp at h2 h3 ⊢ <;> simp_all
      rw [e, Nat.zero_add]
      exact hQ.2 w hw
    | succ fuel ih =>
      intro LA a w hL hc hcl hw hQ
      rw [Nat.add_right_comm]
      have hnz : ∃ i, i < n ∧ LA.getD i false = false := by
        have : 0 < (List.range n).countP (fun j => !LA.getD j false) := by omega
        obtain ⟨i, hi, hv⟩ := List.countP_pos_iff.1 this
        exact ⟨i, List.mem_range.1 hi, by simpa using hv⟩
      have hget : ∀ j d, j < n → (LA ++ Array.replicate (ops.size - n) false).getD j d = LA.getD j false := by
        intro j d hj
        simp only [Array.getD_eq_getD_getElem?, Array.getElem?_append, hL, if_pos hj, Array.getElem?_eq_getElem (show j < LA.size by omega), Option.getD_some]
      have hget2 : ∀ j d, n ≤ j → j < ops.size → (LA ++ Array.replicate (ops.size - n) false).getD j d = false := by
        intro j d hj hj2
        simp only [Array.getD_eq_getD_getElem?, Array.getElem?_append, hL, if_neg (show ¬ j < n by omega)]
        rw [Array.getElem?_replicate, if_pos (by omega)]; rfl
      have hready : ∀ i ∈ Region.ready .any ops (LA ++ Array.replicate (ops.size - n) false), i < n ∧ i ∈ Region.ready .any (ops.toList.take n).toArray LA := by
        intro i hi
        obtain ⟨h1, o, ho, hafter⟩ := mem_ready.1 hi
        have hil : i < ops.size := (Array.getElem?_eq_some_iff.1 ho).1
        have hin : i < n := by
          rcases Nat.lt_or_ge i n with h' | h'
          · exact h'
          · exfalso
            have hcv := List.all_eq_true.1 hcov i (List.mem_range.2 hil)
            rw [ho] at hcv
            simp only [Bool.or_eq_true, decide_eq_true_eq] at hcv
            rcases hcv with hcv | hcv | hcv
            · omega
            · obtain ⟨e, he, hb⟩ := List.any_eq_true.1 hcv
              simp only [Bool.and_eq_true, decide_eq_true_eq] at hb
              have h2 := hafter e (by simpa using he) hb.1
              rw [hget2 e.on false hb.2 (Nat.lt_trans ((hbk i o ho).1 e (by simpa using he)) hil)] at h2
              cases h2
            · obtain ⟨k, hk, hkf⟩ := hnz
              have h3 := List.all_eq_true.1 hcv k (List.mem_range.2 hk)
              have hB : ∀ e ∈ o.after, Region.binds .any e = true → (fun j => decide (n ≤ j) || LA.getD j false) e.on = true := by
                intro e he hb
                have h4 := hafter e he hb
                rcases Nat.lt_or_ge e.on n with h5 | h5
                · rw [hget e.on false h5] at h4; simp [h4]
                · simp [h5]
              have h6 := pull_sound (ops := ops) (fun j => decide (n ≤ j) || LA.getD j false) n (by
                  intro i' o' h5 ho' hgi e he hb
                  simp only [Bool.or_eq_true, decide_eq_true_eq] at hgi ⊢
                  rcases hgi with hgi | hgi
                  · omega
                  · exact .inr (hcl i' o' h5 ho' hgi e he hb)) n _ (Nat.le_refl n) (markAll_sound _ o.after.toList _ (fun e he hb => hB e (by simpa using he) hb) (by
                  intro i' hi'
                  simp only [Array.getD_eq_getD_getElem?, Array.getElem?_replicate] at hi'
                  split at hi' <;> cases hi')) k h3
              simp only [Bool.or_eq_true, decide_eq_true_eq] at h6
              rcases h6 with h6 | h6
              · omega
              · rw [hkf] at h6; cases h6
        refine ⟨hin, mem_ready.2 ⟨?_, o, ?_, fun e he hb => ?_⟩⟩
        · rw [hget i true hin] at h1
          simp only [Array.getD_eq_getD_getElem?, Array.getElem?_eq_getElem (show i < LA.size by omega), Option.getD_some] at h1 ⊢
          exact h1
        · rw [List.getElem?_toArray, List.getElem?_take_of_lt hin, Array.getElem?_toList]; exact ho
        · have h2 := hafter e he hb
          rwa [hget e.on false (Nat.lt_trans ((hbk i o ho).1 e he) hin)] at h2
      refine ⟨fun hr => ?_, fun i hi => ?_⟩
      · -- something is ready
        exfalso
        obtain ⟨k, hk, hkf⟩ := hnz
        have : ∀ k, k < n → LA.getD k false = true := by
          intro k
          induction k using Nat.strongRecOn with
          | ind k ihk =>
            intro hk
            cases hv : LA.getD k false with
            | true => rfl
            | false =>
              exfalso
              have hko : k < ops.size := by omega
              have hmem : k ∈ Region.ready .any ops (LA ++ Array.replicate (ops.size - n) false) := by
                refine mem_ready.2 ⟨by rw [hget k true hk]; exact hv, ops[k], Array.getElem?_eq_getElem hko, fun e he _ => ?_⟩
                have hlt := (hbk k _ (Array.getElem?_eq_getElem hko)).1 e he
                rw [hget e.on false (by omega)]
                exact ihk e.on hlt (by omega)
              rw [hr] at hmem
              cases hmem
        rw [this k hk] at hkf
        cases hkf
      · obtain ⟨hin, hiA⟩ := hready i hi
        obtain ⟨h1, o, ho, hafter⟩ := mem_ready.1 hi
        have hstep := hQ.2 i hiA
        have hLi : LA.getD i false = false := by rw [hget i true hin] at h1; exact h1
        refine wpOp_of_take (C := C) hin (fun o' ho' g b hg => Nat.lt_trans ((hbk i o' ho').2 g b hg) hin) hw (fun a' w' hw' hK => ?_) hstep
        have hset : (LA ++ Array.replicate (ops.size - n) false).setIfInBounds i true = LA.setIfInBounds i true ++ Array.replicate (ops.size - n) false := by
          rw [Array.setIfInBounds_append_left (by omega)]
        rw [hset]
        have hgs : ∀ j, j < n → (LA.setIfInBounds i true).getD j false = (j == i || LA.getD j false) := by
          intro j hj
          simp only [Array.getD_eq_getD_getElem?, Array.getElem?_setIfInBounds]
          by_cases e : i = j
          · subst e; simp [show i < LA.size by omega]
          · have e2 : (j == i) = false := by simp; omega
            simp [e, e2]
        refine ih _ a' w' (by simpa using hL) ?_ ?_ hw' hK
        · have key : ∀ (l : List Nat), l.Nodup → i ∈ l → (∀ j ∈ l, j < n) → l.countP (fun j => !(LA.setIfInBounds i true).getD j false) + 1 = l.countP (fun j => !LA.getD j false) := by
            intro l
            induction l with
            | nil => intro _ h; cases h
            | cons x r ihl =>
              intro hnd hmem hlt
              rw [List.countP_cons, List.countP_cons, hgs x (hlt x (List.mem_cons_self ..))]
              rw [List.nodup_cons] at hnd
              rcases List.mem_cons.1 hmem with rfl | hmem'
              · have hsame : r.countP (fun j => !(LA.setIfInBounds i true).getD j false) = r.countP (fun j => !LA.getD j false) := by
                  apply List.countP_congr
                  intro y hy
                  rw [hgs y (hlt y (List.mem_cons_of_mem _ hy))]
                  have : (y == i) = false := by
                    simp only [beq_eq_false_iff_ne, ne_eq]
                    rintro rfl
                    exact hnd.1 hy
                  simp [this]
                rw [hsame, hLi]; simp
              · have hxi : (x == i) = false := by
                  simp only [beq_eq_false_iff_ne, ne_eq]
                  rintro rfl
                  exact hnd.1 hmem'
                have := ihl hnd.2 hmem' (fun j hj => hlt j (List.mem_cons_of_mem _ hj))
                rw [hxi, Bool.false_or]
                omega
          have := key (List.range n) List.nodup_range (List.mem_range.2 hin) (fun j hj => List.mem_range.1 hj)
          omega
        · intro i' o' hi' ho' hl e he hb
          have hlt := (hbk i' o' ho').1 e he
          rw [hgs i' hi'] at hl
          rw [hgs e.on (by omega)]
          simp only [Bool.or_eq_true, beq_iff_eq] at hl ⊢
          rcases hl with rfl | hl
          · have hoo : o' = o := Option.some.inj (ho'.symm.trans ho)
            subst hoo
            have h2 := hafter e he hb
            rw [hget e.on false (by omega)] at h2
            exact .inr h2
          · exact .inr (hcl i' o' hi' ho' hl e he hb)
  refine wp_region_any hm ?_
  have hfin := ext n (Array.replicate n false) a w.drew (by simp) (by
      rw [List.countP_eq_length.2]
      · simp
      · intro j hj; simp [List.mem_range.1 hj]) (by
      intro i o hi _ hl
      simp [hi] at hl) hC (by simpa [hlen] using hq)
  rw [show n + (ops.size - n) = ops.size by omega, Array.replicate_append_replicate, show n + (ops.size - n) = ops.size by omega] at hfin
  exact hfin

/-- The second part by an invariant: how many operations are left, and where it begins. -/
theorem wpAny_rest {a : Act} {w : World} (n : Nat) (hn : n ≤ ops.size) (hback0 : ((List.range ops.size).all fun i => ((ops[i]?).map fun o : Oper => o.after.all fun e : Edge => decide (e.on < i)).getD true) = true)
    (Inv : Act → (Nat → Bool) → Act → World → Prop) (h0 : Inv a (fun j => decide (j < n)) a w)
    (hstep : ∀ (f : Nat → Bool) a1 w1, Inv a f a1 w1 → ∀ (i : Nat) (o : Oper), ops[i]? = some o → f i = false → (∀ e ∈ o.after, Region.binds .any e = true → f e.on = true) → wpOp P ops Q i (fun a' w' => Inv a (fun j => j == i || f j) a' w') a1 w1)
    (hend : ∀ (f : Nat → Bool) a1 w1, (∀ i, i < ops.size → f i = true) → Inv a f a1 w1 → Q .normal a1 w1) : wpAny P .any ops Q (ops.size - n) (listedTo n (ops.size - n)) a w := by
  have hg : ∀ j, j < ops.size → decide (j < n) = (listedTo n (ops.size - n)).getD j false := by
    intro j hj
    rw [listedTo_getD]
    by_cases h : j < n
    · simp [h]
    · simp [h]
  refine wpAny_inv hback0 Inv hstep hend _ _ _ a w (by simp [listedTo]; omega) hg ?_ h0
  have h1 : (List.range ops.size).countP (fun j => !(listedTo n (ops.size - n)).getD j false) = (List.range ops.size).countP (fun j => !decide (j < n)) := by
    apply List.countP_congr
    intro y hy
    rw [← hg y (List.mem_range.1 hy)]
  rw [h1]
  have h2 : ∀ m, (List.range m).countP (fun j => !decide (j < n)) = m - n := by
    intro m
    induction m with
    | zero => simp
    | succ m ih =>
      rw [List.range_succ, List.countP_append, ih]
      by_cases hmn : m < n
      · simp [hmn]; omega
      · simp [hmn]; omega
  rw [h2]
  exact Nat.le_refl _
end
theorem wpAny_last {P : Program} {ops : Array Oper} {Q : Exit → Act → World → Prop} {a : Act} {w : World} (n : Nat) (hn : ops.size = n + 1)
    (hback0 : ((List.range ops.size).all fun i => ((ops[i]?).map fun o : Oper => o.after.all fun e : Edge => decide (e.on < i)).getD true) = true)
    (h : wpOp P ops Q n (fun a' w' => Q .normal a' w') a w) : wpAny P .any ops Q (ops.size - n) (listedTo n (ops.size - n)) a w := by
  refine wpAny_rest n (by omega) hback0 (fun _ f a1 w1 => (∀ j, j < n → f j = true) ∧ ((f n = false ∧ a1 = a ∧ w1 = w) ∨ (f n = true ∧ Q .normal a1 w1))) ?_ ?_ ?_
  · exact ⟨fun j hj => by simpa using hj, .inl ⟨by simp, rfl, rfl⟩⟩
  · rintro f a1 w1 ⟨hlo, h1⟩ i o ho hfi _
    have hi : i < n + 1 := by rw [← hn]; exact (Array.getElem?_eq_some_iff.1 ho).1
    have hin : i = n := by
      rcases Nat.lt_or_ge i n with h' | h'
      · rw [hlo i h'] at hfi; cases hfi
      · omega
    subst hin
    rcases h1 with ⟨-, rfl, rfl⟩ | ⟨h2, -⟩
    · exact wpOp_mono (fun a' w' h' => ⟨fun j hj => by simp [hlo j hj], .inr ⟨by simp, h'⟩⟩) h
    · rw [h2] at hfi; cases hfi
  · rintro f a1 w1 hall ⟨-, h1⟩
    rcases h1 with ⟨h2, -⟩ | ⟨-, h2⟩
    · rw [hall n (by omega)] at h2; cases h2
    · exact h2
theorem wpOp_step0 {P : Program} {ops : Array Oper} {Q : Exit → Act → World → Prop} {i : Nat} {o : Oper} {K : Act → World → Prop} {a : Act} {w : World} (ho : ops[i]? = some o) (hg : o.guard = none)
    (h : ∀ K' : Act → World → Prop, (∀ a w, K a w → K' a w) → Oper.wp P o a w K' Q) : wpOp P ops Q i K a w :=
  wpOp_step ho fun K' hK' => by simp only [Region.wanted, hg, if_true]; exact h K' hK'
/-- block g holds these cells, which may be written -/
structure Vl (w : World) (g : Nat) (cs : List Value) : Prop where
  lt : g < w.heap.size
  c : ∀ j v, cs[j]? = some v → w.cell? ⟨g, j, none⟩ = some v
  z : ∀ j, j < cs.length → w.frozen? ⟨g, j, none⟩ = false
theorem Vl.below {w w' : World} {B g : Nat} {cs : List Value} (h : Vl w g cs) (hb : Below B w w') (hg : g < B) : Vl w' g cs :=
  ⟨Nat.lt_of_lt_of_le h.lt hb.size, fun j v hj => (hb.cell (p := ⟨g, j, none⟩) hg).trans (h.c j v hj), fun j hj => (hb.frozen (p := ⟨g, j, none⟩) hg).trans (h.z j hj)⟩
theorem Vl.keep {w w' : World} {g : Nat} {cs : List Value} (h : Vl w g cs) (hb : Below w.heap.size w w') : Vl w' g cs := h.below hb h.lt
theorem Vl.kp {w w' : World} {a b g : Nat} {cs : List Value} (h : Vl w g cs) (hb : Kp w w' a b) (h1 : g ≠ a) (h2 : g ≠ b) : Vl w' g cs :=
  ⟨Nat.lt_of_lt_of_le h.lt hb.size, fun j v hj => (hb.cell (p := ⟨g, j, none⟩) h.lt h1 h2).trans (h.c j v hj), fun j hj => (hb.frozen (p := ⟨g, j, none⟩) h.lt h1 h2).trans (h.z j hj)⟩
theorem Vl.range0 {w : World} {g : Nat} {cs : List Value} (h : Vl w g cs) : w.rangeAt g 0 cs := fun j v hj => by rw [Nat.zero_add]; exact h.c j v hj
theorem Vl.there0 {w : World} {g : Nat} {cs : List Value} (h : Vl w g cs) (n : Nat) (hn : n = cs.length) : w.there g 0 n := fun j hj => by
  rw [Nat.zero_add]
  refine ⟨?_, h.z j (by omega)⟩
  have hj' : j < cs.length := by omega
  rw [h.c j _ (List.getElem?_eq_getElem hj')]
  rfl
theorem Vl.new (w : World) (cs : List Value) (t : TypeId) : Vl (w.alloc (.cells cs.toArray t)) w.heap.size cs := by
  refine ⟨by simp, fun j v hj => ?_, fun j _ => by simp⟩
  rw [World.cell?_alloc_at _ _ _ _ rfl]
  simpa using hj
theorem Vl.set {w : World} {g : Nat} {cs : List Value} (h : Vl w g cs) (i : Nat) (hi : i < cs.length) (x : Value) : Vl (w.setCell ⟨g, i, none⟩ x) g (cs.set i x) := by
  refine ⟨by simpa [World.setCell] using h.lt, fun j v hj => ?_, fun j hj => by simpa using h.z j (by simpa using hj)⟩
  by_cases e : j = i
  · subst e
    rw [List.getElem?_set_self hi] at hj
    obtain rfl := Option.some.inj hj
    obtain ⟨u, hu⟩ : ∃ u, cs[j]? = some u := ⟨_, List.getElem?_eq_getElem hi⟩
    exact World.cell?_setCell_same _ _ _ (h.c j u hu)
  · rw [List.getElem?_set_ne (by omega)] at hj
    rw [World.cell?_setCell_other _ _ _ _ (by simp [Ne.symm e])]
    exact h.c j v hj
theorem Vl.stored {w : World} {g : Nat} {cs : List Value} (h : Vl w g cs) (ds : List Value) (hl : ds.length = cs.length) : Vl (w.setCells g 0 ds) g ds := by
  refine ⟨by rw [size_setCells]; exact h.lt, fun j v hj => ?_, fun j hj => by rw [World.frozen?_setCells]; exact h.z j (by omega)⟩
  have := World.rangeAt_setCells_same w g 0 ds (h.there0 ds.length hl) j v hj
  rwa [Nat.zero_add] at this
theorem wpList_box_list {P : Program} {ops : Array Oper} {rest : List Oper} {op : Oper} {a : Act} {w : World} {Q : Exit → Act → World → Prop} (hgd : op.guard = none) (ty : TypeId) (x : Operand) (ho : op.op = .box ty x) (cs : List Value) (hx : a.eval x = .agg cs.toArray)
    (h : ∀ w', Hid (Vl w' w.heap.size cs) → Below w.heap.size w w' → w'.heap.size = w.heap.size + 1 → wpList P ops Q rest (a.put op.dst (.pointer (some ⟨w.heap.size, 0, none⟩))) w') : wpList P ops Q (op :: rest) a w := by
  refine wpList_plain hgd fun K hK => ?_
  have hr : (Instr.box ty (.agg cs.toArray)).run P w = .ok (.pointer (some ⟨w.heap.size, 0, none⟩)) (w.alloc (.cells cs.toArray ty)) := by
    simp [Instr.box, newVar, newRow, Value.cells]
  unfold Oper.wp
  simp [execOp, ho, hx, hr, Result.andThen]
  exact hK _ _ (h _ (Vl.new w cs ty) ((Below.refl _ _).alloc (Nat.le_refl _) _) (by simp))
theorem wpList_alloc_list {P : Program} {ops : Array Oper} {rest : List Oper} {op : Oper} {a : Act} {w : World} {Q : Exit → Act → World → Prop} (hgd : op.guard = none) (ty : TypeId) (ho : op.op = .alloc ty) (cs : List Value)
    (hz : (P.info? ty).map (fun i => i.zero) = some (some (.agg cs.toArray)))
    (h : ∀ w', Hid (Vl w' w.heap.size cs) → Below w.heap.size w w' → w'.heap.size = w.heap.size + 1 → wpList P ops Q rest (a.put op.dst (.pointer (some ⟨w.heap.size, 0, none⟩))) w') : wpList P ops Q (op :: rest) a w := by
  refine wpList_plain hgd fun K hK => ?_
  have hr : (Instr.alloc ty true (.tuple #[])).run P w = .ok (.pointer (some ⟨w.heap.size, 0, none⟩)) (w.alloc (.cells cs.toArray ty)) := by
    cases hq : P.info? ty with
    | none => simp [hq] at hz
    | some i =>
      simp [hq] at hz
      simp [Instr.alloc, zeroValue, typeInfo, hq, hz, newVar, newRow, Value.cells]
  unfold Oper.wp
  simp [execOp, ho, hr, Result.andThen]
  exact hK _ _ (h _ (Vl.new w cs ty) ((Below.refl _ _).alloc (Nat.le_refl _) _) (by simp))
theorem yields_bld {P : Program} {ops : Array Oper} {S : World → Prop} {op : Oper} {a : Act} (hw : Region.wanted op (yielded ops a.tmps) = true) (ty : TypeId) (ps : Array (Nat × Operand)) (ho : op.op = .build ty ps) (v : Value)
    (hr : ∀ w, (Instr.build ty (ps.map fun p => (p.1, a.eval p.2))).run P w = .ok v w) : YieldsIf P ops S op v a :=
  .inl ⟨hw, fun w _ => by
    have hr := hr w
    unfold execOp
    simp [ho, hr, Result.andThen]⟩
theorem yields_bld0 {P : Program} {ops : Array Oper} {S : World → Prop} {op : Oper} {a : Act} (hw : Region.wanted op (yielded ops a.tmps) = true) (ty : TypeId) (ho : op.op = .build ty #[]) (v : Value)
    (hr : ∀ w, (Instr.build ty #[]).run P w = .ok v w) : YieldsIf P ops S op v a :=
  .inl ⟨hw, fun w _ => by
    have hr := hr w
    unfold execOp
    simp [ho, hr, Result.andThen]⟩
theorem yields_eql {P : Program} {ops : Array Oper} {S : World → Prop} {op : Oper} {a : Act} (hw : Region.wanted op (yielded ops a.tmps) = true) (ty ty' : TypeId) (x y : Operand) (ho : op.op = .binOp .eql ty x y ty') (xs ys : Array Value) (hx : a.eval x = .agg xs) (hy : a.eval y = .agg ys) (b : Bool)
    (hg : P.eqGuardType P.depth ty = false) (hr : ∀ w, S w → (Op.equalIn 10000 ty (.agg xs) (.agg ys)).run P w = .ok b w) : YieldsIf P ops S op (.bool b) a :=
  .inl ⟨hw, fun w hS => by
    have hr := hr w hS
    have hgd := run_eqGuard_agg (P := P) w .eql ty x y xs ys hg
    unfold execOp
    simp [ho, hx, hy, hgd, run_eql_struct, hr, Result.andThen]⟩
theorem yields_neq {P : Program} {ops : Array Oper} {S : World → Prop} {op : Oper} {a : Act} (hw : Region.wanted op (yielded ops a.tmps) = true) (ty ty' : TypeId) (x y : Operand) (ho : op.op = .binOp .neq ty x y ty') (xs ys : Array Value) (hx : a.eval x = .agg xs) (hy : a.eval y = .agg ys) (b : Bool)
    (hg : P.eqGuardType P.depth ty = false) (hr : ∀ w, S w → (Op.equalIn 10000 ty (.agg xs) (.agg ys)).run P w = .ok b w) : YieldsIf P ops S op (.bool (!b)) a :=
  .inl ⟨hw, fun w hS => by
    have hr := hr w hS
    have hgd := run_eqGuard_agg (P := P) w .neq ty x y xs ys hg
    unfold execOp
    simp [ho, hx, hy, hgd, run_neq_struct, hr, Result.andThen]⟩
theorem wpList_store_list {P : Program} {ops : Array Oper} {rest : List Oper} {op : Oper} {a : Act} {w : World} {Q : Exit → Act → World → Prop} (hgd : op.guard = none) (ty : TypeId) (x y : Operand) (ho : op.op = .store ty x y) (g : Nat) (cs ds : List Value)
    (hx : a.eval x = .pointer (some ⟨g, 0, none⟩)) (hy : a.eval y = .agg ds.toArray) (hV : Vl w g cs) (hl : ds.length = cs.length) (hi : (P.info? ty).map (·.size) = some ds.length) (h1 : ∀ v ∈ ds, v.oneCell' = true)
    (h : ∀ w', Hid (Vl w' g ds) → Hid (Kp w w' g g) → wpList P ops Q rest (a.put op.dst undef) w') : wpList P ops Q (op :: rest) a w := by
  refine wpList_store_mid hgd ty x y ho g 0 ds.toArray hx hy (hV.there0 _ (by simp [hl])) (by simpa using hi) (all_oneCell_toArray h1) ?_
  exact h _ (hV.stored ds hl) ((Kp.refl w g g).setCells g 0 (.inl rfl) _)
theorem ownsRow_form {w : World} {base : Nat} {e : TypeId} {size : Nat} {v : Value} {n : Nat} {xs : List Value} (h : w.ownsRow base e size v n xs) : ∃ a cap, v = .slice a n cap := by
  obtain ⟨_, ⟨hv, hn⟩ | ⟨g, cap, cur, hv, _⟩⟩ := h
  · exact ⟨none, 0, by rw [hv, hn]⟩
  · exact ⟨_, cap, hv⟩
theorem ra_keep {w w' : World} {g o : Nat} {cs : List Value} (h : w.rangeAt g o cs) (hb : Below w.heap.size w w') : w'.rangeAt g o cs := fun j u hj => by
  have := h j u hj
  exact (hb.cell (World.block_lt_of_cell? w _ this)).trans this
/-- what may be appended: m elements that can be read, or nil -/
def Ag (w : World) (v : Value) (m : Nat) (news : List Value) : Prop := (v = .slice none 0 0 ∧ m = 0 ∧ news = []) ∨ ∃ ad c, v = .slice (some ad) m c ∧ ∀ j u, news[j]? = some u → w.cell? (ad.add j) = some u
theorem Ag.keep {w w' : World} {v : Value} {m : Nat} {news : List Value} (h : Ag w v m news) (hb : Below w.heap.size w w') : Ag w' v m news := by
  rcases h with h | ⟨ad, c, hv, hc⟩
  · exact .inl h
  · refine .inr ⟨ad, c, hv, fun j u hu => ?_⟩
    have := hc j u hu
    exact (hb.cell (World.block_lt_of_cell? w _ this)).trans this
theorem Ag.own {w : World} {base size n : Nat} {e : TypeId} {v : Value} {xs : List Value} (h : w.ownsRow base e size v n xs) : Ag w v n xs := by
  rcases h.2 with ⟨hv, hn⟩ | ⟨g, cap, cur, hv, -⟩
  · have h1 := h.1
    rw [hn, Nat.zero_mul] at h1
    exact .inl ⟨hv, hn, List.eq_nil_of_length_eq_zero h1⟩
  · exact .inr ⟨_, _, hv, h.cells (g := g) (by rw [hv]; rfl)⟩
theorem run_append_ag {P : Program} (w : World) (base : Nat) (t ty e : TypeId) (i : TypeInfo) (z : Value) (size bytes : Nat) (ht : P.underlying t = some (.slice e)) (hi : P.info? e = some i) (hz : i.zero = some z)
    (hsize : i.size = size) (hby : i.bytes = bytes) (hzs : z.cells.size = size) (hsz : 0 < size) (g n cap : Nat) (xs : List Value) (hown : w.ownsRow base e size (.slice (some ⟨g, 0, none⟩) n cap) n xs)
    (v2 : Value) (m : Nat) (news : List Value) (hA : Ag w v2 m news) (hl : news.length = m * size) (h1 : ∀ u ∈ news, u.oneCell' = true) (h63 : n + m ≤ maxLen) (hbytes : (n + m) * bytes ≤ 140737488355328) (hbase : base ≤ w.heap.size) :
    ∃ g' cap' w', (Builtin.append_ #[t, t] ty #[.slice (some ⟨g, 0, none⟩) n cap, v2]).run P w = .ok (.slice (some ⟨g', 0, none⟩) (n + m) cap') w' ∧ w'.ownsRow base e size (.slice (some ⟨g', 0, none⟩) (n + m) cap') (n + m) (xs ++ news) ∧ w.grownBy w' (some g) := by
  rcases hA with ⟨rfl, rfl, rfl⟩ | ⟨ad, c, rfl, hc⟩
  · refine ⟨g, cap, w, run_append_owned_none (P := P) w base t ty e i size ht hi _ n xs hown, ?_, World.grownBy.refl _ _⟩
    rw [List.append_nil]
    exact hown
  · obtain ⟨v', w', hr, h2, h3, h4⟩ := run_append_own (P := P) w base t ty e i z size bytes ht hi hz hsize hby hzs hsz _ n xs hown ad m c news hl hc h1 h63 hbytes hbase
    rcases h2.2 with ⟨hv, -⟩ | ⟨g', cap', cur, hv, -⟩
    · exact absurd (h4.1 hv).1 (by intro hh; cases hh)
    · subst hv
      exact ⟨g', cap', w', hr, h2, h3⟩
theorem wp_append_ag {P : Program} (w : World) {o : Oper} {a : Act} {K : Act → World → Prop} {Q : Exit → Act → World → Prop} (s x : Operand) (t : TypeId)
    (ho : o.op = .call { callee := .builtin .append, args := #[s, x], argTypes := #[t, t] })
    (base : Nat) (e : TypeId) (i : TypeInfo) (z : Value) (size bytes : Nat) (ht : P.underlying t = some (.slice e)) (hi : P.info? e = some i) (hz : i.zero = some z)
    (hsize : i.size = size) (hby : i.bytes = bytes) (hzs : z.cells.size = size) (hsz : 0 < size) (g n cap : Nat) (xs : List Value) (hs : a.eval s = .slice (some ⟨g, 0, none⟩) n cap) (hown : w.ownsRow base e size (.slice (some ⟨g, 0, none⟩) n cap) n xs)
    (v2 : Value) (m : Nat) (news : List Value) (hx : a.eval x = v2) (hA : Ag w v2 m news) (hl : news.length = m * size) (h1 : ∀ u ∈ news, u.oneCell' = true) (h63 : n + m ≤ maxLen) (hbytes : (n + m) * bytes ≤ 140737488355328) (hbase : base ≤ w.heap.size)
    (h : ∀ g' cap' w', w'.ownsRow base e size (.slice (some ⟨g', 0, none⟩) (n + m) cap') (n + m) (xs ++ news) → w.grownBy w' (some g) → K (a.put o.dst (.slice (some ⟨g', 0, none⟩) (n + m) cap')) w') : o.wp P a w K Q := by
  obtain ⟨g', cap', w', hr, h2, h3⟩ := run_append_ag (P := P) w base t o.type e i z size bytes ht hi hz hsize hby hzs hsz g n cap xs hown v2 m news hA hl h1 h63 hbytes hbase
  unfold Oper.wp execOp
  simp only [ho, resolve, invoke, builtin, Sem.run_bind, Sem.run_pure, Result.andThen_ok, List.map_toArray, List.map_cons, List.map_nil, hs, hx, hr]
  exact h g' cap' w' h2 h3
theorem wpList_append_ag {P : Program} (w : World) {ops : Array Oper} {rest : List Oper} {o : Oper} {a : Act} {Q : Exit → Act → World → Prop} (hgd : o.guard = none) (s x : Operand) (t : TypeId)
    (ho : o.op = .call { callee := .builtin .append, args := #[s, x], argTypes := #[t, t] })
    (base : Nat) (e : TypeId) (i : TypeInfo) (z : Value) (size bytes : Nat) (ht : P.underlying t = some (.slice e)) (hi : P.info? e = some i) (hz : i.zero = some z)
    (hsize : i.size = size) (hby : i.bytes = bytes) (hzs : z.cells.size = size) (hsz : 0 < size) (g n cap : Nat) (xs : List Value) (hs : a.eval s = .slice (some ⟨g, 0, none⟩) n cap) (hown : w.ownsRow base e size (.slice (some ⟨g, 0, none⟩) n cap) n xs)
    (v2 : Value) (m : Nat) (news : List Value) (hx : a.eval x = v2) (hA : Ag w v2 m news) (hl : news.length = m * size) (h1 : ∀ u ∈ news, u.oneCell' = true) (h63 : n + m ≤ maxLen) (hbytes : (n + m) * bytes ≤ 140737488355328) (hbase : base ≤ w.heap.size)
    (h : ∀ g' cap' w', w'.ownsRow base e size (.slice (some ⟨g', 0, none⟩) (n + m) cap') (n + m) (xs ++ news) → w.grownBy w' (some g) → wpList P ops Q rest (a.put o.dst (.slice (some ⟨g', 0, none⟩) (n + m) cap')) w') : wpList P ops Q (o :: rest) a w :=
  wpList_plain hgd fun _ hK => wp_append_ag w s x t ho base e i z size bytes ht hi hz hsize hby hzs hsz g n cap xs hs hown v2 m news hx hA hl h1 h63 hbytes hbase fun g' cap' w' h2 h3 => hK _ _ (h g' cap' w' h2 h3)
theorem Vl.grownO {w w' : World} {v : Value} {g : Nat} {cs : List Value} (h : Vl w g cs) (hg : w.grownBy w' v.ownBlock) (hb : ∀ k, v.ownBlock = some k → k ≠ g) : Vl w' g cs := by
  have hbl : w'.heap[g]? = w.heap[g]? := hg.block g h.lt (fun he => hb g he.symm rfl)
  exact ⟨Nat.lt_of_lt_of_le h.lt hg.size, fun j u hj => (World.cell?_of_block (w := w) hbl).trans (h.c j u hj), fun j hj => (World.frozen?_of_block (w := w) hbl).trans (h.z j hj)⟩
theorem ownsRow_kpn {w w' : World} {x base : Nat} {e : TypeId} {size n : Nat} {v : Value} {xs : List Value} (h : w.ownsRow base e size v n xs) (hk : Kp w w' x x) (hx : x < base) : w'.ownsRow base e size v n xs := by
  refine ⟨h.1, ?_⟩
  rcases h.2 with hn | ⟨g', cap, cur, hv, hb, hgg, rest⟩
  · exact .inl hn
  · refine .inr ⟨g', cap, cur, hv, hb, ?_, rest⟩
    rw [hk.block g' (Array.getElem?_eq_some_iff.1 hgg).1 (by omega) (by omega)]
    exact hgg
theorem ownsRow_kpo {w w' : World} {x base : Nat} {e : TypeId} {size n : Nat} {v : Value} {xs : List Value} (h : w.ownsRow base e size v n xs) (hk : Kp w w' x x) (hx : ∀ k, v.ownBlock = some k → k ≠ x) : w'.ownsRow base e size v n xs := by
  refine ⟨h.1, ?_⟩
  rcases h.2 with hn | ⟨g', cap, cur, hv, hb, hgg, rest⟩
  · exact .inl hn
  · refine .inr ⟨g', cap, cur, hv, hb, ?_, rest⟩
    have := hx g' (by rw [hv]; rfl)
    rw [hk.block g' (Array.getElem?_eq_some_iff.1 hgg).1 this this]
    exact hgg
theorem Kp.growO {w w1 w2 : World} {x base : Nat} {v : Value} (h : Kp w w1 x x) (hg : w1.grownBy w2 v.ownBlock) (hb : ∀ k, v.ownBlock = some k → w.heap.size ≤ k) : Kp w w2 x x :=
  ⟨hg.os.trans h.os, hg.tape.trans h.tape, hg.output.trans h.output, Nat.le_trans h.size hg.size, fun k hk h1 h2 => (hg.block k (Nat.lt_of_lt_of_le hk h.size) (fun he => by have := hb k he.symm; omega)).trans (h.block k hk h1 h2)⟩
theorem yields_bld2 {P : Program} {ops : Array Oper} {S : World → Prop} {op : Oper} {a : Act} (hw : Region.wanted op (yielded ops a.tmps) = true) (ty : TypeId) (i j : Nat) (x y : Operand) (ho : op.op = .build ty #[(i, x), (j, y)]) (vx vy : Value) (hx : a.eval x = vx) (hy : a.eval y = vy) (v : Value)
    (hr : ∀ w, (Instr.build ty #[(i, vx), (j, vy)]).run P w = .ok v w) : YieldsIf P ops S op v a :=
  .inl ⟨hw, fun w _ => by
    have hr := hr w
    unfold execOp
    simp [ho, hx, hy, hr, Result.andThen]⟩
theorem wpList_bld2 {P : Program} {ops : Array Oper} {rest : List Oper} {op : Oper} {a : Act} {w : World} {Q : Exit → Act → World → Prop} (hgd : op.guard = none) (ty : TypeId) (i0 i1 : Nat) (x0 x1 : Operand) (ho : op.op = .build ty #[(i0, x0), (i1, x1)]) (v0 v1 : Value) (h0 : a.eval x0 = v0) (h1 : a.eval x1 = v1) (v : Value)
    (hr : (Instr.build ty #[(i0, v0), (i1, v1)]).run P w = .ok v w) (h : wpList P ops Q rest (a.put op.dst v) w) : wpList P ops Q (op :: rest) a w := by
  refine wpList_plain hgd fun K' hK' => ?_
  unfold Oper.wp
  simp [execOp, ho, h0, h1, hr, Result.andThen]
  exact hK' _ _ h
end Go.Proofs.YtgdapkbenmlabaaDoor.Pt
