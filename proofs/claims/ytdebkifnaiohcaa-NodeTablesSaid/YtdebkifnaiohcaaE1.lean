import Derived.Test.YtdebkifnaiohcaaD7
import Derived.Lib.SlKeysI
import Derived.Maps.RangeWalk
import Derived.Maps.OwnSet
/- A transaction's blocks: a rising list of places with their blocks, as the map reads. -/
namespace Go.Proofs.Ytdebkifnaiohcaa
set_option linter.unusedSimpArgs false
set_option linter.unusedVariables false
open Go.RowKit Go.Maps

/-- how a block in a map reads: as itself -/
def RV (v : Value) : Option (DataW Value × List MemPlace) := some (.held v, [])
/-- a block as a value -/
def bv (f : Nat → Int) : Value := .agg (byts 64 f).toArray
abbrev TS := List (Nat × (Nat → Int))
def ent (p : Nat × (Nat → Int)) : Lit × DataW Value := (.int .i64 p.1, .held (bv p.2))
/-- what the map reads as -/
def dat (T : TS) : DataW Value := .map (T.map ent)
def Rise (T : TS) : Prop := T.Pairwise fun p q => p.1 < q.1
def find (T : TS) (k : Int) : Option (Nat → Int) := (T.find? fun p => decide ((p.1 : Int) = k)).map (·.2)
def put (k : Nat) (f : Nat → Int) : TS → TS
  | [] => [(k, f)]
  | p :: r => if k < p.1 then (k, f) :: p :: r else if k = p.1 then (k, f) :: r else p :: put k f r
def keys (T : TS) : List Nat := T.map (·.1)
theorem sameKey_int (a b : Int) : (Lit.int .i64 a).sameKey (.int .i64 b) = decide (a = b) := by simp [Lit.sameKey]
theorem has_dat (T : TS) (k : Int) : Maps.has (dat T) (.int .i64 k) = (find T k).isSome := by
  induction T with
  | nil => rfl
  | cons p r ih =>
    have ih' : (r.map ent).any (fun q => q.1.sameKey (.int .i64 k)) = (find r k).isSome := ih
    show (List.any (ent p :: r.map ent) fun q => q.1.sameKey (.int .i64 k)) = _
    rw [List.any_cons, ih']
    show ((Lit.int .i64 p.1).sameKey (.int .i64 k) || _) = _
    rw [sameKey_int]
    unfold find
    by_cases h : (p.1 : Int) = k <;> simp [List.find?_cons, h]
theorem atKey_dat (T : TS) (k : Int) (zd : DataW Value) : (dat T).atKey (.int .i64 k) zd = (find T k).elim zd fun f => .held (bv f) := by
  induction T with
  | nil => rfl
  | cons p r ih =>
    have e : (ent p).1.sameKey (.int .i64 k) = decide ((p.1 : Int) = k) := sameKey_int _ _
    simp only [dat, DataW.atKey, find, List.map_cons, List.find?_cons, e] at ih ⊢
    by_cases h : (p.1 : Int) = k
    · simp [h, ent]
    · simpa [h] using ih
theorem size_dat (T : TS) : Maps.size (dat T) = T.length := by simp [dat, Maps.size]
theorem keys_dat (T : TS) : intKeys (dat T) = (keys T).map fun (k : Nat) => (k : Int) := by
  simp [dat, intKeys, keys, ent, Function.comp_def, Go.intOf]
theorem before_int (a b : Nat) : (Lit.int .i64 (a : Int)).before (.int .i64 (b : Int)) = decide (a < b) := by
  unfold Lit.before
  simp
theorem filter_above (k : Nat) : ∀ r : TS, (∀ p ∈ r, k < p.1) → (r.map ent).filter (fun p => !p.1.sameKey (.int .i64 (k : Int))) = r.map ent := by
  intro r h
  rw [List.filter_eq_self]
  intro q hq
  obtain ⟨p, hp, rfl⟩ := List.mem_map.1 hq
  have := h p hp
  show (!(Lit.int .i64 (p.1 : Int)).sameKey _) = true
  rw [sameKey_int]
  simp
  omega
theorem insert_above (k : Nat) (f : Nat → Int) : ∀ r : TS, (∀ p ∈ r, k < p.1) → DataW.insert (ent (k, f)) (r.map ent) = ent (k, f) :: r.map ent
  | [], _ => rfl
  | p :: r, h => by
    rw [List.map_cons, DataW.insert]
    have : (ent (k, f)).1.before (ent p).1 = true := by
      show (Lit.int .i64 (k : Int)).before (.int .i64 (p.1 : Int)) = true
      rw [before_int]
      exact decide_eq_true (h p (by simp))
    rw [if_pos this]
theorem put_dat (T : TS) (h : Rise T) (k : Nat) (f : Nat → Int) : (dat T).put (.int .i64 (k : Int)) (.held (bv f)) = dat (put k f T) := by
  unfold dat DataW.put
  refine congrArg DataW.map ?_
  show DataW.insert (ent (k, f)) _ = _
  induction T with
  | nil => rfl
  | cons p r ih =>
    obtain ⟨h1, h2⟩ := List.pairwise_cons.1 h
    have e : (ent p).1.sameKey (.int .i64 (k : Int)) = decide ((p.1 : Int) = k) := sameKey_int _ _
    unfold put
    rw [List.map_cons, List.filter_cons, e]
    by_cases c1 : k < p.1
    · rw [if_pos c1, if_pos (by simp; omega), filter_above k r (fun q hq => by have := h1 q hq; omega)]
      exact insert_above k f (p :: r) (by intro q hq; rcases List.mem_cons.1 hq with rfl | hq; exact c1; have := h1 q hq; omega)
    · rw [if_neg c1]
      by_cases c2 : k = p.1
      · rw [if_pos c2, if_neg (by simp; omega), filter_above k r (fun q hq => by have := h1 q hq; omega)]
        exact insert_above k f r (fun q hq => by have := h1 q hq; omega)
      · rw [if_neg c2, if_pos (by simp; omega), DataW.insert]
        have : (ent (k, f)).1.before (ent p).1 = false := by
          show (Lit.int .i64 (k : Int)).before (.int .i64 (p.1 : Int)) = false
          rw [before_int]
          exact decide_eq_false c1
        rw [if_neg (by rw [this]; decide), ih h2]
        rfl
theorem mem_put (k : Nat) (f : Nat → Int) : ∀ (T : TS) (q : Nat × (Nat → Int)), q ∈ put k f T → q = (k, f) ∨ q ∈ T
  | [], q, h => by simpa [put] using h
  | p :: r, q, h => by
    unfold put at h
    by_cases c1 : k < p.1
    · rw [if_pos c1] at h
      simpa using h
    · rw [if_neg c1] at h
      by_cases c2 : k = p.1
      · rw [if_pos c2] at h
        rcases List.mem_cons.1 h with h | h
        · exact .inl h
        · exact .inr (by simp [h])
      · rw [if_neg c2] at h
        rcases List.mem_cons.1 h with h | h
        · exact .inr (by simp [h])
        · rcases mem_put k f r q h with h | h
          · exact .inl h
          · exact .inr (by simp [h])
theorem put_rise (k : Nat) (f : Nat → Int) : ∀ T : TS, Rise T → Rise (put k f T)
  | [], _ => by simp [put, Rise]
  | p :: r, h => by
    obtain ⟨h1, h2⟩ := List.pairwise_cons.1 h
    unfold put
    by_cases c1 : k < p.1
    · rw [if_pos c1]
      refine List.pairwise_cons.2 ⟨fun q hq => ?_, h⟩
      rcases List.mem_cons.1 hq with rfl | hq
      · exact c1
      · have := h1 q hq
        show k < q.1
        omega
    · rw [if_neg c1]
      by_cases c2 : k = p.1
      · rw [if_pos c2]
        exact List.pairwise_cons.2 ⟨fun q hq => by have := h1 q hq; show k < q.1; omega, h2⟩
      · rw [if_neg c2]
        refine List.pairwise_cons.2 ⟨fun q hq => ?_, put_rise k f r h2⟩
        rcases mem_put k f r q hq with rfl | hq
        · show p.1 < k
          omega
        · exact h1 q hq
theorem put_len (k : Nat) (f : Nat → Int) : ∀ T : TS, Rise T → (put k f T).length = if (find T k).isSome then T.length else T.length + 1
  | [], _ => rfl
  | p :: r, h => by
    obtain ⟨h1, h2⟩ := List.pairwise_cons.1 h
    have hno : k < p.1 → (find r k).isSome = false := by
      intro c1
      unfold find
      simp only [Option.isSome_map, List.find?_isSome, Bool.eq_false_iff, ne_eq, List.find?_isSome]
      rintro ⟨q, hq, he⟩
      have := h1 q hq
      simp at he
      omega
    have e : find (p :: r) k = if (p.1 : Int) = k then some p.2 else find r k := by
      unfold find
      rw [List.find?_cons]
      by_cases c : (p.1 : Int) = k <;> simp [c]
    rw [e]
    unfold put
    by_cases c1 : k < p.1
    · rw [if_pos c1, if_neg (show ¬ (p.1 : Int) = k by omega), hno c1]
      simp
    · rw [if_neg c1]
      by_cases c2 : k = p.1
      · rw [if_pos c2, if_pos (show (p.1 : Int) = k by omega)]
        simp
      · rw [if_neg c2, if_neg (show ¬ (p.1 : Int) = k by omega), List.length_cons, put_len k f r h2]
        cases (find r k).isSome <;> simp
theorem find_mem {T : TS} {k : Int} {f : Nat → Int} (h : find T k = some f) : ∃ p ∈ T, (p.1 : Int) = k ∧ p.2 = f := by
  unfold find at h
  obtain ⟨p, hp, hf⟩ := Option.map_eq_some_iff.1 h
  exact ⟨p, List.mem_of_find?_eq_some hp, by simpa using List.find?_some hp, hf⟩
theorem find_at {T : TS} (h : Rise T) {i : Nat} (hi : i < T.length) : find T T[i].1 = some T[i].2 := by
  unfold find
  induction T generalizing i with
  | nil => simp at hi
  | cons p r ih =>
    obtain ⟨h1, h2⟩ := List.pairwise_cons.1 h
    cases i with
    | zero => simp
    | succ j =>
      have hj : j < r.length := by simpa using hi
      rw [List.getElem_cons_succ, List.find?_cons]
      have := h1 r[j] (List.getElem_mem hj)
      have e : decide ((p.1 : Int) = (r[j].1 : Int)) = false := by simp; omega
      rw [e]
      exact ih h2 hj

theorem Try.lawInt : Keyed Try.prog 3 := int_keyed Try.underlying3
theorem key_is (k : Int) (h0 : -9223372036854775808 ≤ k) (h1 : k < 9223372036854775808) : keyOf Try.prog 3 (.int .i64 k) = some (.int .i64 k) := by
  have : (Lit.int .i64 k).wf = true := by simp [Lit.wf, IntKind.min, IntKind.max, IntKind.bits, IntKind.signed]; omega
  exact Go.Maps.keyOf_int_mk Try.underlying3 this
/-- the map of a transaction -/
def Mp (w : World) (m : Nat) (T : TS) : Prop := w.ownsMap Try.prog 3 RV m T.length (dat T) ∧ Rise T
theorem ownsMap_tight {w : World} {b n : Nat} {T : TS} (h : w.ownsMap Try.prog 3 RV b n (dat T)) : w.ownsMap Try.prog 3 RV b T.length (dat T) := by
  obtain ⟨es, clock, hb, F, _, hD⟩ := h
  refine ⟨es, clock, hb, F, ?_, hD⟩
  have := congrArg Maps.size hD
  rw [size_dat] at this
  rw [this]
  simp [Maps.size, length_sorted]
theorem Mp.lt {w : World} {m : Nat} {T : TS} (h : Mp w m T) : m < w.heap.size := h.1.lt
theorem Mp.block {w w' : World} {m : Nat} {T : TS} (h : Mp w m T) (hb : w'.heap[m]? = w.heap[m]?) : Mp w' m T := by
  obtain ⟨⟨es, clock, hb', r⟩, hr⟩ := h
  exact ⟨⟨es, clock, hb.trans hb', r⟩, hr⟩
theorem Mp.below {w w' : World} {B m : Nat} {T : TS} (h : Mp w m T) (hb : Below B w w') (hm : m < B) : Mp w' m T := h.block (hb.block m hm)
theorem Mp.keep {w w' : World} {m : Nat} {T : TS} (h : Mp w m T) (hb : Below w.heap.size w w') : Mp w' m T := h.below hb h.lt
theorem Mp.kp {w w' : World} {a b m : Nat} {T : TS} (h : Mp w m T) (hb : Kp w w' a b) (h1 : m ≠ a) (h2 : m ≠ b) : Mp w' m T := h.block (hb.block m h.lt h1 h2)
theorem Mp.new (w : World) : Mp (w.alloc (.map #[] 0)) w.heap.size [] := ⟨World.ownsMap_made w Try.prog 3 RV, List.Pairwise.nil⟩
theorem wpList_store_blk {ops : Array Oper} {rest : List Oper} {op : Oper} {a : Act} {w : World} {Q : Exit → Act → World → Prop} (hgd : op.guard = none) (x y : Operand) (ho : op.op = .store 96 x y) (g off N : Nat) (f b : Nat → Int) (hF : Fl w g N f) (hn : off + 64 ≤ N)
    (hx : a.eval x = .pointer (some ⟨g, off, none⟩)) (hy : a.eval y = .agg (byts 64 b).toArray) (h : ∀ w', Hid (Fl w' g N (upd f off 64 b)) → Hid (Kp w w' g g) → wpList Try.prog ops Q rest (a.put op.dst undef) w') : wpList Try.prog ops Q (op :: rest) a w := by
  refine wpList_store_mid hgd 96 x y ho g off _ hx hy (by rw [byts_size]; exact hF.there off 64 hn) (size36' _) (byts_all _ _) ?_
  rw [List.toList_toArray]
  exact h _ (hF.store off 64 hn b) ((Kp.refl w g g).setCells g off (.inl rfl) _)
end Go.Proofs.Ytdebkifnaiohcaa
