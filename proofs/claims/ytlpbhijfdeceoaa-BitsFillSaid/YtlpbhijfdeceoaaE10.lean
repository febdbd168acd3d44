import Derived.Test.YtlpbhijfdeceoaaE9
import Derived.Test.YtlpbhijfdeceoaaE4
import Derived.Sort.KeysCollected
import Derived.Sort.OwnSorted
/- Blocks. -/
namespace Go.Proofs.Ytlpbhijfdeceoaa
set_option linter.unusedSimpArgs false
set_option linter.unusedVariables false
open Go.RowKit Go.Maps Go.Sort

theorem ownsRow_block {w : World} {base : Nat} {e : TypeId} {size : Nat} {v : Value} {n : Nat} {xs : List Value} (h : w.ownsRow base e size v n xs) : ∀ k, v.ownBlock = some k → base ≤ k := by
  intro k hk
  obtain ⟨_, ⟨hv, _⟩ | ⟨g, cap, cur, hv, hg, _⟩⟩ := h
  · rw [hv] at hk; simp [Value.ownBlock] at hk
  · rw [hv] at hk; simp [Value.ownBlock] at hk; omega
theorem ownsRow_ns {w : World} {base : Nat} {v : Value} {ts : List Nat} (h : w.ownsRow base 3 1 v ts.length (ts.map fun (k : Nat) => Value.int .i64 (k : Int))) : Ns w v ts ∧ ∀ k, v.ownBlock = some k → base ≤ k := by
  refine ⟨?_, ownsRow_block h⟩
  obtain ⟨hl, ⟨hv, hn⟩ | ⟨g, cap, cur, hv, hg, hh, hc, hm, hs, ht⟩⟩ := h
  · exact .inl ⟨none, 0, hv, List.eq_nil_of_length_eq_zero hn⟩
  · have hlt : g < w.heap.size := (Array.getElem?_eq_some_iff.1 hh).1
    refine .inr ⟨g, 0, cap, hv, hlt, Nat.le_trans hc hm, fun i hi => ?_⟩
    have hx : (cur.toList.take (ts.length * 1))[i]? = (ts.map fun (k : Nat) => Value.int .i64 (k : Int))[i]? := by rw [ht]
    rw [List.getElem?_take_of_lt (by omega)] at hx
    simp only [World.cell?, hh]
    simpa [hi] using hx
end Go.Proofs.Ytlpbhijfdeceoaa
