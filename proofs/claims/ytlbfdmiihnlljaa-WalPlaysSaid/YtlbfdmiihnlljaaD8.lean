import Derived.Test.YtlbfdmiihnlljaaD7
import Derived.OwnWalk
/- A list of numbers as blocks, appended one by one; DiskNew: the walk. -/
namespace Go.Proofs.Ytlbfdmiihnlljaa
set_option linter.unusedSimpArgs false
set_option linter.unusedVariables false
open Go.RowKit

/-- a slice of small numbers -/
def U8s (w : World) (v : Value) (ts : List Int) : Prop :=
  (∃ a cap, v = .slice a 0 cap ∧ ts = []) ∨ ∃ b off cap, v = .slice (some ⟨b, off, none⟩) ts.length cap ∧ b < w.heap.size ∧ ts.length ≤ maxLen ∧ ∀ i (h : i < ts.length), w.cell? ⟨b, off + i, none⟩ = some (.int .u8 ts[i])
theorem U8s.below {w w' : World} {v : Value} {ts : List Int} (h : U8s w v ts) (hb : Below w.heap.size w w') : U8s w' v ts := by
  rcases h with h | ⟨b, off, cap, hv, hlt, hm, hc⟩
  · exact .inl h
  · exact .inr ⟨b, off, cap, hv, Nat.lt_of_lt_of_le hlt hb.size, hm, fun i hi => (hb.cell (p := ⟨b, off + i, none⟩) hlt).trans (hc i hi)⟩
theorem U8s.form {w : World} {v : Value} {ts : List Int} (h : U8s w v ts) : ∃ a cap, v = .slice a ts.length cap ∧ ts.length ≤ maxLen := by
  rcases h with ⟨a, cap, rfl, rfl⟩ | ⟨b, off, cap, rfl, _, hm, _⟩
  · exact ⟨a, cap, rfl, by unfold maxLen; simp⟩
  · exact ⟨_, cap, rfl, hm⟩
theorem U8s.at {w : World} {a : Option Addr} {n cap : Nat} {ts : List Int} (h : U8s w (.slice a n cap) ts) (i : Nat) (hi : i < ts.length) : ∃ b off, a = some ⟨b, off, none⟩ ∧ b < w.heap.size ∧ w.cell? ⟨b, off + i, none⟩ = some (.int .u8 ts[i]) := by
  rcases h with ⟨a', cap', _, rfl⟩ | ⟨b, off, cap', hv, hlt, _, hc⟩
  · simp at hi
  · have : a = some ⟨b, off, none⟩ := by injection hv
    exact ⟨b, off, this, hlt, hc i hi⟩

theorem byts_append (m n : Nat) (f : Nat → Int) : byts (m + n) f = byts m f ++ byts n (fun i => f (m + i)) := by
  refine List.ext_getElem? fun i => ?_
  by_cases h : i < m
  · rw [List.getElem?_append_left (by rw [byts_len]; exact h), byts_get _ h, byts_get _ (by omega)]
  · rw [List.getElem?_append_right (by rw [byts_len]; omega), byts_len]
    by_cases h2 : i < m + n
    · rw [byts_get _ h2, byts_get _ (by omega), show m + (i - m) = i by omega]
    · rw [List.getElem?_eq_none (by rw [byts_len]; omega), List.getElem?_eq_none (by rw [byts_len]; omega)]
theorem ownsRow_below {w w' : World} {base : Nat} {e : TypeId} {size : Nat} {v : Value} {n : Nat} {xs : List Value} (h : w.ownsRow base e size v n xs) (hb : Below w.heap.size w w') : w'.ownsRow base e size v n xs := by
  obtain ⟨hl, h | ⟨g, cap, cur, hv, hg, hh, r⟩⟩ := h
  · exact ⟨hl, .inl h⟩
  · refine ⟨hl, .inr ⟨g, cap, cur, hv, hg, ?_, r⟩⟩
    have hlt : g < w.heap.size := by
      rcases Nat.lt_or_ge g w.heap.size with h' | h'
      · exact h'
      · rw [Array.getElem?_eq_none h'] at hh; simp at hh
    rw [hb.block g hlt]; exact hh
theorem ownsRow_block {w : World} {base : Nat} {e : TypeId} {size : Nat} {v : Value} {n : Nat} {xs : List Value} (h : w.ownsRow base e size v n xs) : ∀ k, v.ownBlock = some k → base ≤ k := by
  intro k hk
  obtain ⟨_, ⟨hv, _⟩ | ⟨g, cap, cur, hv, hg, _⟩⟩ := h
  · rw [hv] at hk; simp [Value.ownBlock] at hk
  · rw [hv] at hk; simp [Value.ownBlock] at hk; omega
theorem ownsRow_bs {w : World} {base : Nat} {v : Value} {n : Nat} {f : Nat → Int} (h : w.ownsRow base 50 64 v n (byts (n * 64) f)) : Bs w v n f := by
  obtain ⟨hl, ⟨hv, hn⟩ | ⟨g, cap, cur, hv, hg, hh, hc, hm, hs, ht⟩⟩ := h
  · exact ⟨none, 0, by rw [hv, hn], fun h0 => by omega⟩
  · have hlt : g < w.heap.size := by
      rcases Nat.lt_or_ge g w.heap.size with h' | h'
      · exact h'
      · rw [Array.getElem?_eq_none h'] at hh; simp at hh
    refine ⟨_, cap, hv, fun _ => ⟨g, rfl, hlt, fun j hj => ?_⟩⟩
    have hx : (cur.toList.take (n * 64))[j]? = (byts (n * 64) f)[j]? := by rw [ht]
    rw [List.getElem?_take_of_lt hj, byts_get _ hj] at hx
    simp only [World.cell?, hh]
    simpa using hx
theorem foldl_set : ∀ (L : List Value) (k : Nat) (cs : Array Value) (i : Nat), k + L.length ≤ cs.size →
    ((L.zipIdx k).foldl (fun cs x => cs.setIfInBounds (0 * 64 + x.2) x.1) cs)[i]? = if k ≤ i ∧ i < k + L.length then L[i - k]? else cs[i]?
  | [], k, cs, i, _ => by
    rw [if_neg (by simp)]
    rfl
  | v :: r, k, cs, i, h => by
    rw [List.length_cons] at h
    rw [List.zipIdx_cons, List.foldl_cons, foldl_set r (k + 1) _ i (by simp; omega), List.length_cons]
    by_cases h1 : k + 1 ≤ i ∧ i < k + 1 + r.length
    · rw [if_pos h1, if_pos (by omega), show i - k = (i - (k + 1)) + 1 by omega, List.getElem?_cons_succ]
    · rw [if_neg h1]
      by_cases h2 : i = k
      · subst h2
        have e0 : 0 * 64 + i = i := by omega
        simp only [e0]
        rw [if_pos (by omega), Nat.sub_self, List.getElem?_cons_zero, Array.getElem?_setIfInBounds_self_of_lt (by omega)]
      · rw [if_neg (by omega), Array.getElem?_setIfInBounds_ne (by omega)]
/-- a slice that is one block -/
theorem wpList_slice1 {ops : Array Oper} {rest : List Oper} {op : Oper} {a : Act} {w : World} {Q : Exit → Act → World → Prop} (hgd : op.guard = none) (x : Operand) (ho : op.op = .buildSlice 34 1 #[(0, x)]) (f : Nat → Int) (hx : a.eval x = .agg (byts 64 f).toArray)
    (h : ∀ w', Hid (Fl w' w.heap.size 64 f) → Below w.heap.size w w' → w'.heap.size = w.heap.size + 1 → wpList Try.prog ops Q rest (a.put op.dst (.slice (some ⟨w.heap.size, 0, none⟩) 1 1)) w') : wpList Try.prog ops Q (op :: rest) a w := by
  refine wpList_plain hgd fun K hK => ?_
  obtain ⟨i, hi, hz, hs, hb⟩ := Try.info36i
  have hu : Try.prog.underlying 34 = some (.slice 50) := by kernel_rfl
  have hr : (Instr.buildSlice 34 1 #[(0, .agg (byts 64 f).toArray)]).run Try.prog w = .ok (.slice (some ⟨w.heap.size, 0, none⟩) 1 1) (w.alloc (.cells (byts 64 f).toArray 50)) := by
    have hfill : Instr.fill (fun i => some (i * 64, 64)) ((Array.range (1 * 64)).map ((byts 64 fun _ => 0).toArray[· % (byts 64 fun _ => 0).toArray.size]!)) [(0, .agg (byts 64 f).toArray)] = some (byts 64 f).toArray := by
      have hsz : ((Array.range (1 * 64)).map ((byts 64 fun _ => 0).toArray[· % (byts 64 fun _ => 0).toArray.size]!)).size = 64 := by simp
      generalize (Array.range (1 * 64)).map ((byts 64 fun _ => 0).toArray[· % (byts 64 fun _ => 0).toArray.size]!) = Z at *
      have hc : (Value.agg (byts 64 f).toArray).cells = (byts 64 f).toArray := rfl
      simp only [Instr.fill, hc, byts_size, hsz]
      rw [if_neg (by simp)]
      refine congrArg some (Array.ext_getElem? fun i => ?_)
      have := foldl_set (byts 64 f) 0 Z i (by rw [byts_len, hsz]; decide)
      rw [byts_len, Nat.zero_add, Nat.sub_zero] at this
      have e : (byts 64 f).toArray.zipIdx.foldl (fun cs x => cs.setIfInBounds (0 * 64 + x.2) x.1) Z = ((byts 64 f).zipIdx 0).foldl (fun cs x => cs.setIfInBounds (0 * 64 + x.2) x.1) Z := by simp
      refine (congrArg (·[i]?) e).trans (this.trans ?_)
      by_cases hi : i < 64
      · rw [if_pos (by omega)]
        simp
      · rw [if_neg (by omega), Array.getElem?_eq_none (by omega), Array.getElem?_eq_none (by rw [byts_size]; omega)]
    simp [Instr.buildSlice, zeroValue, sizeOf, typeInfo, hi, hz, hs, Value.cells, run_underlying hu, newRow] at hfill ⊢
    rw [hfill]
    simp [newRow]
  unfold Oper.wp
  simp [execOp, ho, hx, hr, Result.andThen]
  exact hK _ _ (h _ (Fl.new w 64 f 50) ((Below.refl _ _).alloc (Nat.le_refl _) _) (by simp))
end Go.Proofs.Ytlbfdmiihnlljaa
