import Derived.Test.YtlpbhijfdeceoaaX2
import Derived.Test.YtlpbhijfdeceoaaBl
/- A set of numbers in a map; blocks appended one by one. -/
namespace Go.Proofs.Ytlpbhijfdeceoaa
set_option linter.unusedSimpArgs false
set_option linter.unusedVariables false
open Go.RowKit Go.Maps


/-- a set of numbers, as a map of trues reads: a rising list (what stands beside a number says nothing) -/
def sent (p : Nat × (Nat → Int)) : Lit × DataW Value := (.int .i64 p.1, .held (.bool true))
def sdat (T : TS) : DataW Value := .map (T.map sent)
theorem has_sdat (T : TS) (k : Int) : Maps.has (sdat T) (.int .i64 k) = (find T k).isSome := by
  induction T with
  | nil => rfl
  | cons p r ih =>
    have ih' : (r.map sent).any (fun q => q.1.sameKey (.int .i64 k)) = (find r k).isSome := ih
    show (List.any (sent p :: r.map sent) fun q => q.1.sameKey (.int .i64 k)) = _
    rw [List.any_cons, ih']
    show ((Lit.int .i64 p.1).sameKey (.int .i64 k) || _) = _
    rw [sameKey_int]
    unfold find
    by_cases h : (p.1 : Int) = k <;> simp [List.find?_cons, h]
theorem atKey_sdat (T : TS) (k : Int) (zd : DataW Value) : (sdat T).atKey (.int .i64 k) zd = (find T k).elim zd fun _ => .held (.bool true) := by
  induction T with
  | nil => rfl
  | cons p r ih =>
    have e : (sent p).1.sameKey (.int .i64 k) = decide ((p.1 : Int) = k) := sameKey_int _ _
    simp only [sdat, DataW.atKey, find, List.map_cons, List.find?_cons, e] at ih ⊢
    by_cases h : (p.1 : Int) = k
    · simp [h, sent]
    · simpa [h] using ih
theorem size_sdat (T : TS) : Maps.size (sdat T) = T.length := by simp [sdat, Maps.size]
theorem filter_sabove (k : Nat) : ∀ r : TS, (∀ p ∈ r, k < p.1) → (r.map sent).filter (fun p => !p.1.sameKey (.int .i64 (k : Int))) = r.map sent := by
  intro r h
  rw [List.filter_eq_self]
  intro q hq
  obtain ⟨p, hp, rfl⟩ := List.mem_map.1 hq
  have := h p hp
  show (!(Lit.int .i64 (p.1 : Int)).sameKey _) = true
  rw [sameKey_int]
  simp
  omega
theorem insert_sabove (k : Nat) (f : Nat → Int) : ∀ r : TS, (∀ p ∈ r, k < p.1) → DataW.insert (sent (k, f)) (r.map sent) = sent (k, f) :: r.map sent
  | [], _ => rfl
  | p :: r, h => by
    rw [List.map_cons, DataW.insert]
    have : (sent (k, f)).1.before (sent p).1 = true := by
      show (Lit.int .i64 (k : Int)).before (.int .i64 (p.1 : Int)) = true
      rw [before_int]
      exact decide_eq_true (h p (by simp))
    rw [if_pos this]
theorem put_sdat (T : TS) (h : Rise T) (k : Nat) (f : Nat → Int) : (sdat T).put (.int .i64 (k : Int)) (.held (.bool true)) = sdat (put k f T) := by
  unfold sdat DataW.put
  refine congrArg DataW.map ?_
  show DataW.insert (sent (k, f)) _ = _
  induction T with
  | nil => rfl
  | cons p r ih =>
    obtain ⟨h1, h2⟩ := List.pairwise_cons.1 h
    have e : (sent p).1.sameKey (.int .i64 (k : Int)) = decide ((p.1 : Int) = k) := sameKey_int _ _
    unfold put
    rw [List.map_cons, List.filter_cons, e]
    by_cases c1 : k < p.1
    · rw [if_pos c1, if_pos (by simp; omega), filter_sabove k r (fun q hq => by have := h1 q hq; omega)]
      exact insert_sabove k f (p :: r) (by intro q hq; rcases List.mem_cons.1 hq with rfl | hq; exact c1; have := h1 q hq; omega)
    · rw [if_neg c1]
      by_cases c2 : k = p.1
      · rw [if_pos c2, if_neg (by simp; omega), filter_sabove k r (fun q hq => by have := h1 q hq; omega)]
        exact insert_sabove k f r (fun q hq => by have := h1 q hq; omega)
      · rw [if_neg c2, if_pos (by simp; omega), DataW.insert]
        have : (sent (k, f)).1.before (sent p).1 = false := by
          show (Lit.int .i64 (k : Int)).before (.int .i64 (p.1 : Int)) = false
          rw [before_int]
          exact decide_eq_false c1
        rw [if_neg (by rw [this]; decide), ih h2]
        rfl
def Sp (w : World) (m : Nat) (T : TS) : Prop := w.ownsMap Try.prog 3 RV m T.length (sdat T) ∧ Rise T
theorem ownsMap_stight {w : World} {b n : Nat} {T : TS} (h : w.ownsMap Try.prog 3 RV b n (sdat T)) : w.ownsMap Try.prog 3 RV b T.length (sdat T) := by
  obtain ⟨es, clock, hb, F, _, hD⟩ := h
  refine ⟨es, clock, hb, F, ?_, hD⟩
  have := congrArg Maps.size hD
  rw [size_sdat] at this
  rw [this]
  simp [Maps.size, length_sorted]
theorem Sp.lt {w : World} {m : Nat} {T : TS} (h : Sp w m T) : m < w.heap.size := h.1.lt
theorem Sp.block {w w' : World} {m : Nat} {T : TS} (h : Sp w m T) (hb : w'.heap[m]? = w.heap[m]?) : Sp w' m T := by
  obtain ⟨⟨es, clock, hb', r⟩, hr⟩ := h
  exact ⟨⟨es, clock, hb.trans hb', r⟩, hr⟩
theorem Sp.below {w w' : World} {B m : Nat} {T : TS} (h : Sp w m T) (hb : Below B w w') (hm : m < B) : Sp w' m T := h.block (hb.block m hm)
theorem Sp.keep {w w' : World} {m : Nat} {T : TS} (h : Sp w m T) (hb : Below w.heap.size w w') : Sp w' m T := h.below hb h.lt
theorem Sp.kf {w w' : World} {L : List Nat} {m : Nat} {T : TS} (h : Sp w m T) (hb : Kf w w' L) (h1 : m ∉ L) : Sp w' m T := h.block (hb.block m h.lt h1)
theorem Sp.new (w : World) : Sp (w.alloc (.map #[] 0)) w.heap.size [] := ⟨World.ownsMap_made w Try.prog 3 RV, List.Pairwise.nil⟩
theorem Try.zeroBool (w : World) : (zeroValue 4).run Try.prog w = .ok (.bool false) w := by
  obtain ⟨i, hi, hz, hs, hb⟩ := Try.info4i
  simp [zeroValue, typeInfo, hi, hz]
theorem Sp.look1 {w : World} {m : Nat} {T : TS} (h : Sp w m T) (k : Int) (h0 : -9223372036854775808 ≤ k) (h1 : k < 9223372036854775808) :
    (Instr.lookup 46 (.map (some m)) (.int .i64 k) false).run Try.prog w = .ok (.bool (find T k).isSome) w := by
  obtain ⟨v, ps, hrun, hv⟩ := h.1.lookup Try.lawInt Try.underlying46 (Try.zeroBool w) (zd := .held (.bool false)) (zp := []) rfl (key_is k h0 h1)
  rw [atKey_sdat] at hv
  rw [hrun]
  have : v = .bool (find T k).isSome := by
    unfold RV at hv
    cases hf : find T k with
    | none => rw [hf] at hv; simpa using (show v = _ ∧ ps = [] by simpa using hv).1
    | some f => rw [hf] at hv; simpa using (show v = _ ∧ ps = [] by simpa using hv).1
  rw [this]
theorem Sp.len {w : World} {m : Nat} {T : TS} (h : Sp w m T) (ty : TypeId) : (Builtin.len_ #[46] ty #[.map (some m)]).run Try.prog w = .ok (.int .i64 T.length) w := by
  rw [h.1.len Try.underlying46 ty, size_sdat]
theorem Sp.put {w : World} {m : Nat} {T : TS} (h : Sp w m T) (k : Nat) (hk : k ≤ 65536) (hn : T.length < 5000) :
    ∃ w', (Instr.mapUpdate 46 (.map (some m)) (.int .i64 k) (.bool true)).run Try.prog w = .ok () w' ∧ Sp w' m (put k (fun _ => 0) T) ∧ Kp w w' m m := by
  obtain ⟨w', hrun, h1, h2⟩ := h.1.store Try.lawInt Try.underlying46 (by unfold maxLen; omega) (key_is k (by omega) (by omega)) (val := .bool true) (d := .held (.bool true)) (ps := []) rfl
  rw [put_sdat T h.2 k (fun _ => 0)] at h1
  have hg := h2.grown
  exact ⟨w', hrun, ⟨ownsMap_stight h1, put_rise k _ T h.2⟩, ⟨hg.os, hg.tape, hg.output, hg.size, fun i hi h3 _ => hg.block i hi (by simpa using h3)⟩⟩
section
variable {ops : Array Oper} {rest : List Oper} {o : Oper} {a : Act} {w : World} {Q : Exit → Act → World → Prop}
theorem wpList_look_sp (hgd : o.guard = none) (x y : Operand) (ho : o.op = .lookup 46 x y false) (m : Nat) (T : TS) (h : Sp w m T) (hx : a.eval x = .map (some m)) (k : Int) (hy : a.eval y = .int .i64 k) (h0 : -9223372036854775808 ≤ k) (h1 : k < 9223372036854775808)
    (hK : wpList Try.prog ops Q rest (a.put o.dst (.bool (find T k).isSome)) w) : wpList Try.prog ops Q (o :: rest) a w := by
  refine wpList_plain hgd fun K hK' => ?_
  have hrun := h.look1 k h0 h1
  unfold Oper.wp
  simp [execOp, ho, hx, hy, hrun, Result.andThen]
  exact hK' _ _ hK
theorem wpList_len_sp (hgd : o.guard = none) (x : Operand) (ho : o.op = .call { callee := .builtin .len, args := #[x], argTypes := #[46] }) (m : Nat) (T : TS) (h : Sp w m T) (hx : a.eval x = .map (some m))
    (hK : wpList Try.prog ops Q rest (a.put o.dst (.int .i64 T.length)) w) : wpList Try.prog ops Q (o :: rest) a w := by
  refine wpList_plain hgd fun K hK' => ?_
  have hrun := h.len o.type
  unfold Oper.wp
  simp [execOp, ho, resolve, invoke, builtin, hx, hrun, Result.andThen]
  exact hK' _ _ hK
theorem wpList_put_sp (hgd : o.guard = none) (x y z : Operand) (ho : o.op = .mapUpdate 46 x y z) (m : Nat) (T : TS) (h : Sp w m T) (hx : a.eval x = .map (some m)) (k : Nat) (hy : a.eval y = .int .i64 k) (hz : a.eval z = .bool true) (hk : k ≤ 65536) (hn : T.length < 5000)
    (hK : ∀ w', Hid (Sp w' m (put k (fun _ => 0) T)) → Hid (Kp w w' m m) → wpList Try.prog ops Q rest (a.put o.dst undef) w') : wpList Try.prog ops Q (o :: rest) a w := by
  refine wpList_plain hgd fun K hK' => ?_
  obtain ⟨w', hrun, h1, h2⟩ := h.put k hk hn
  unfold Oper.wp
  simp [execOp, ho, hx, hy, hz, hrun, Result.andThen]
  exact hK' _ _ (hK w' h1 h2)
end
/-- is k in the set? -/
def mem (T : TS) (k : Nat) : Bool := (find T k).isSome
theorem mem_put' (T : TS) (k j : Nat) (f : Nat → Int) : mem (put k f T) j = (decide (k = j) || mem T j) := by
  unfold mem
  rw [find_put]
  by_cases c : k = j
  · rw [if_pos (by omega)]; simp [c]
  · rw [if_neg (by omega)]; simp [c]

/-! ### blocks, one behind the other -/

/-- a slice of n blocks, from its block's head on -/
def Bs (w : World) (v : Value) (n : Nat) (f : Nat → Int) : Prop := ∃ p c, v = .slice p n c ∧ (0 < n → ∃ b, p = some ⟨b, 0, none⟩ ∧ b < w.heap.size ∧ ∀ j, j < n * 64 → w.cell? ⟨b, j, none⟩ = some (.int .u8 (f j)))
theorem Bs.below {w w' : World} {v : Value} {n : Nat} {f : Nat → Int} (h : Bs w v n f) (hb : Below w.heap.size w w') : Bs w' v n f := by
  obtain ⟨p, c, hv, hp⟩ := h
  refine ⟨p, c, hv, fun h0 => ?_⟩
  obtain ⟨b, h1, h2, h3⟩ := hp h0
  exact ⟨b, h1, Nat.lt_of_lt_of_le h2 hb.size, fun j hj => (hb.cell (p := ⟨b, j, none⟩) h2).trans (h3 j hj)⟩
theorem Bs.of_fl {w : World} {g n : Nat} {f : Nat → Int} (h : Fl w g (n * 64) f) (c : Nat) : Bs w (.slice (some ⟨g, 0, none⟩) n c) n f := ⟨_, _, rfl, fun _ => ⟨g, rfl, h.lt, h.c⟩⟩

theorem byts_append (m n : Nat) (f : Nat → Int) : byts (m + n) f = byts m f ++ byts n (fun i => f (m + i)) := by
  refine List.ext_getElem? fun i => ?_
  by_cases h : i < m
  · rw [List.getElem?_append_left (by rw [byts_len]; exact h), byts_get _ h, byts_get _ (by omega)]
  · rw [List.getElem?_append_right (by rw [byts_len]; omega), byts_len]
    by_cases h2 : i < m + n
    · rw [byts_get _ h2, byts_get _ (by omega), show m + (i - m) = i by omega]
    · rw [List.getElem?_eq_none (by rw [byts_len]; omega), List.getElem?_eq_none (by rw [byts_len]; omega)]
theorem ownsRow_below {w w' : World} {base : Nat} {e : TypeId} {size : Nat} {v : Value} {n : Nat} {xs : List Value} (h : w.ownsRow base e size v n xs) (hb : Below w.heap.size w w') : w'.ownsRow base e size v n xs := by
  obtain ⟨hl, h | ⟨g, cap, cur, hv, hg, hh, r⟩⟩ := h
  · exact ⟨hl, .inl h⟩
  · refine ⟨hl, .inr ⟨g, cap, cur, hv, hg, ?_, r⟩⟩
    have hlt : g < w.heap.size := by
      rcases Nat.lt_or_ge g w.heap.size with h' | h'
      · exact h'
      · rw [Array.getElem?_eq_none h'] at hh; simp at hh
    rw [hb.block g hlt]; exact hh
theorem ownsRow_bs {w : World} {base : Nat} {v : Value} {n : Nat} {f : Nat → Int} (h : w.ownsRow base 49 64 v n (byts (n * 64) f)) : Bs w v n f := by
  obtain ⟨hl, ⟨hv, hn⟩ | ⟨g, cap, cur, hv, hg, hh, hc, hm, hs, ht⟩⟩ := h
  · exact ⟨none, 0, by rw [hv, hn], fun h0 => by omega⟩
  · have hlt : g < w.heap.size := by
      rcases Nat.lt_or_ge g w.heap.size with h' | h'
      · exact h'
      · rw [Array.getElem?_eq_none h'] at hh; simp at hh
    refine ⟨_, cap, hv, fun _ => ⟨g, rfl, hlt, fun j hj => ?_⟩⟩
    have hx : (cur.toList.take (n * 64))[j]? = (byts (n * 64) f)[j]? := by rw [ht]
    rw [List.getElem?_take_of_lt hj, byts_get _ hj] at hx
    simp only [World.cell?, hh]
    simpa using hx
theorem foldl_set : ∀ (L : List Value) (k : Nat) (cs : Array Value) (i : Nat), k + L.length ≤ cs.size →
    ((L.zipIdx k).foldl (fun cs x => cs.setIfInBounds (0 * 64 + x.2) x.1) cs)[i]? = if k ≤ i ∧ i < k + L.length then L[i - k]? else cs[i]?
  | [], k, cs, i, _ => by
    rw [if_neg (by simp)]
    rfl
  | v :: r, k, cs, i, h => by
    rw [List.length_cons] at h
    rw [List.zipIdx_cons, List.foldl_cons, foldl_set r (k + 1) _ i (by simp; omega), List.length_cons]
    by_cases h1 : k + 1 ≤ i ∧ i < k + 1 + r.length
    · rw [if_pos h1, if_pos (by omega), show i - k = (i - (k + 1)) + 1 by omega, List.getElem?_cons_succ]
    · rw [if_neg h1]
      by_cases h2 : i = k
      · subst h2
        have e0 : 0 * 64 + i = i := by omega
        simp only [e0]
        rw [if_pos (by omega), Nat.sub_self, List.getElem?_cons_zero, Array.getElem?_setIfInBounds_self_of_lt (by omega)]
      · rw [if_neg (by omega), Array.getElem?_setIfInBounds_ne (by omega)]
/-- a slice that is one block -/
theorem wpList_slice1 {ops : Array Oper} {rest : List Oper} {op : Oper} {a : Act} {w : World} {Q : Exit → Act → World → Prop} (hgd : op.guard = none) (x : Operand) (ho : op.op = .buildSlice 47 1 #[(0, x)]) (f : Nat → Int) (hx : a.eval x = .agg (byts 64 f).toArray)
    (h : ∀ w', Hid (Fl w' w.heap.size 64 f) → Below w.heap.size w w' → w'.heap.size = w.heap.size + 1 → wpList Try.prog ops Q rest (a.put op.dst (.slice (some ⟨w.heap.size, 0, none⟩) 1 1)) w') : wpList Try.prog ops Q (op :: rest) a w := by
  refine wpList_plain hgd fun K hK => ?_
  obtain ⟨i, hi, hz, hs, hb⟩ := Try.info36i
  have hu : Try.prog.underlying 47 = some (.slice 49) := by kernel_rfl
  have hr : (Instr.buildSlice 47 1 #[(0, .agg (byts 64 f).toArray)]).run Try.prog w = .ok (.slice (some ⟨w.heap.size, 0, none⟩) 1 1) (w.alloc (.cells (byts 64 f).toArray 49)) := by
    have hfill : Instr.fill (fun i => some (i * 64, 64)) ((Array.range (1 * 64)).map ((byts 64 fun _ => 0).toArray[· % (byts 64 fun _ => 0).toArray.size]!)) [(0, .agg (byts 64 f).toArray)] = some (byts 64 f).toArray := by
      have hsz : ((Array.range (1 * 64)).map ((byts 64 fun _ => 0).toArray[· % (byts 64 fun _ => 0).toArray.size]!)).size = 64 := by simp
      generalize (Array.range (1 * 64)).map ((byts 64 fun _ => 0).toArray[· % (byts 64 fun _ => 0).toArray.size]!) = Z at *
      have hc : (Value.agg (byts 64 f).toArray).cells = (byts 64 f).toArray := rfl
      simp only [Instr.fill, hc, byts_size, hsz]
      rw [if_neg (by simp)]
      refine congrArg some (Array.ext_getElem? fun i => ?_)
      have := foldl_set (byts 64 f) 0 Z i (by rw [byts_len, hsz]; decide)
      rw [byts_len, Nat.zero_add, Nat.sub_zero] at this
      have e : (byts 64 f).toArray.zipIdx.foldl (fun cs x => cs.setIfInBounds (0 * 64 + x.2) x.1) Z = ((byts 64 f).zipIdx 0).foldl (fun cs x => cs.setIfInBounds (0 * 64 + x.2) x.1) Z := by simp
      refine (congrArg (·[i]?) e).trans (this.trans ?_)
      by_cases hi : i < 64
      · rw [if_pos (by omega)]
        simp
      · rw [if_neg (by omega), Array.getElem?_eq_none (by omega), Array.getElem?_eq_none (by rw [byts_size]; omega)]
    simp [Instr.buildSlice, zeroValue, sizeOf, typeInfo, hi, hz, hs, Value.cells, run_underlying hu, newRow] at hfill ⊢
    rw [hfill]
    simp [newRow]
  unfold Oper.wp
  simp [execOp, ho, hx, hr, Result.andThen]
  exact hK _ _ (h _ (Fl.new w 64 f 49) ((Below.refl _ _).alloc (Nat.le_refl _) _) (by simp))
end Go.Proofs.Ytlpbhijfdeceoaa
