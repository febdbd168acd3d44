import Derived.Test.YtlpbhijfdeceoaaB10
/- Slices of whole numbers that came in. -/
namespace Go.Proofs.Ytlpbhijfdeceoaa
set_option linter.unusedSimpArgs false
set_option linter.unusedVariables false
open Go.RowKit

/-- a slice of whole numbers of one kind -/
def Zs (w : World) (k : IntKind) (v : Value) (ts : List Int) : Prop :=
  (∃ a cap, v = .slice a 0 cap ∧ ts = []) ∨ ∃ b off cap, v = .slice (some ⟨b, off, none⟩) ts.length cap ∧ b < w.heap.size ∧ ts.length ≤ maxLen ∧ ∀ i (h : i < ts.length), w.cell? ⟨b, off + i, none⟩ = some (.int k ts[i])
theorem Zs.below {w w' : World} {k : IntKind} {v : Value} {ts : List Int} (h : Zs w k v ts) (hb : Below w.heap.size w w') : Zs w' k v ts := by
  rcases h with h | ⟨b, off, cap, hv, hlt, hm, hc⟩
  · exact .inl h
  · exact .inr ⟨b, off, cap, hv, Nat.lt_of_lt_of_le hlt hb.size, hm, fun i hi => (hb.cell (p := ⟨b, off + i, none⟩) hlt).trans (hc i hi)⟩
theorem Zs.form {w : World} {k : IntKind} {v : Value} {ts : List Int} (h : Zs w k v ts) : ∃ a cap, v = .slice a ts.length cap ∧ ts.length ≤ maxLen := by
  rcases h with ⟨a, cap, rfl, rfl⟩ | ⟨b, off, cap, rfl, _, hm, _⟩
  · exact ⟨a, cap, rfl, by unfold maxLen; simp⟩
  · exact ⟨_, cap, rfl, hm⟩
theorem Zs.at {w : World} {k : IntKind} {a : Option Addr} {n cap : Nat} {ts : List Int} (h : Zs w k (.slice a n cap) ts) (i : Nat) (hi : i < ts.length) : ∃ b off, a = some ⟨b, off, none⟩ ∧ b < w.heap.size ∧ w.cell? ⟨b, off + i, none⟩ = some (.int k ts[i]) := by
  rcases h with ⟨a', cap', _, rfl⟩ | ⟨b, off, cap', hv, hlt, _, hc⟩
  · simp at hi
  · have : a = some ⟨b, off, none⟩ := by injection hv
    exact ⟨b, off, this, hlt, hc i hi⟩
end Go.Proofs.Ytlpbhijfdeceoaa
