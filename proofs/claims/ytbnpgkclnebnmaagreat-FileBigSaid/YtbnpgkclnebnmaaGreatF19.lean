import Derived.Test.YtbnpgkclnebnmaaGreatF16
import Derived.Laws.IdiomStrings
import Derived.Laws.AppendOwnNone
/- Files: bytes as handed in; as strings; appended. -/
namespace Go.Proofs.YtbnpgkclnebnmaaGreat
set_option linter.unusedSimpArgs false
set_option linter.unusedVariables false
open Go.RowKit Go.Maps

def strOf (n : Nat) (s : Nat → Int) : ByteArray := ⟨((List.range n).map fun j => UInt8.ofNat (s j).toNat).toArray⟩
theorem strOf_congr {n : Nat} {s s' : Nat → Int} (h : ∀ j, j < n → s j = s' j) : strOf n s = strOf n s' := by
  unfold strOf
  rw [List.map_congr_left (g := fun j => UInt8.ofNat (s' j).toNat) (fun j hj => by rw [h j (List.mem_range.1 hj)])]
/-- a slice of bytes as handed in: nil, or empty, or some bytes -/
def B8 (w : World) (pa : Option Addr) (n c : Nat) (s : Nat → Int) : Prop :=
  (pa = none ∧ n = 0 ∧ c = 0) ∨ (∃ ad, pa = some ad ∧ n = 0) ∨ ∃ b off, pa = some ⟨b, off, none⟩ ∧ b < w.heap.size ∧ ∀ j, j < n → w.cell? ⟨b, off + j, none⟩ = some (.int .u8 (s j))
theorem B8.keep {w w' : World} {pa : Option Addr} {n c : Nat} {s : Nat → Int} (h : B8 w pa n c s) (hb : Below w.heap.size w w') : B8 w' pa n c s := by
  rcases h with h | h | ⟨b, off, h1, h2, h3⟩
  · exact .inl h
  · exact .inr (.inl h)
  · exact .inr (.inr ⟨b, off, h1, Nat.lt_of_lt_of_le h2 hb.size, fun j hj => (hb.cell (p := ⟨b, off + j, none⟩) h2).trans (h3 j hj)⟩)
theorem u8_back (x : Int) (h0 : 0 ≤ x) (h1 : x < 256) : ((UInt8.ofNat x.toNat).toNat : Int) = x := by
  rw [UInt8.toNat_ofNat']
  omega
set_option maxRecDepth 100000 in
theorem str_cells {w : World} {b off n c : Nat} {s : Nat → Int} (hs : ∀ j, j < n → 0 ≤ s j ∧ s j < 256) (h : ∀ j, j < n → w.cell? ⟨b, off + j, none⟩ = some (.int .u8 (s j))) :
    (convert 24 9 (.slice (some ⟨b, off, none⟩) n c)).run Tryz.prog w = .ok (.string (strOf n s)) w := by
  have := run_convert_bytes_back (P := Tryz.prog) w 24 9 5 ⟨b, off, none⟩ c ((List.range n).map fun j => UInt8.ofNat (s j).toNat) (by kernel_rfl) (by kernel_rfl) (by kernel_rfl) (fun j hj => by
    have hj' : j < n := by simpa using hj
    rw [List.getElem_map, List.getElem_range, u8_back _ (hs j hj').1 (hs j hj').2, Addr.add_lit]
    exact h j hj')
  rw [List.length_map, List.length_range] at this
  exact this
set_option maxRecDepth 100000 in
theorem B8.str {w : World} {pa : Option Addr} {n c : Nat} {s : Nat → Int} (h : B8 w pa n c s) (hs : ∀ j, j < n → 0 ≤ s j ∧ s j < 256) :
    (convert 24 9 (.slice pa n c)).run Tryz.prog w = .ok (.string (strOf n s)) w := by
  rcases h with ⟨rfl, rfl, rfl⟩ | ⟨ad, rfl, rfl⟩ | ⟨b, off, rfl, h2, h3⟩
  · rw [run_convert_bytes_string w 24 9 5 none 0 0 (by kernel_rfl) (by kernel_rfl) (by kernel_rfl)]
    rfl
  · exact run_convert_bytes_back (P := Tryz.prog) w 24 9 5 ad c [] (by kernel_rfl) (by kernel_rfl) (by kernel_rfl) (fun j hj => absurd hj (Nat.not_lt_zero _))
  · exact str_cells hs h3
/-- these bytes appended to a slice of one's own -/
theorem wpList_append_b8 {P : Program} (w : World) {ops : Array Oper} {rest : List Oper} {o : Oper} {a : Act} {Q : Exit → Act → World → Prop} (hgd : o.guard = none) (s x : Operand) (t : TypeId)
    (ho : o.op = .call { callee := .builtin .append, args := #[s, x], argTypes := #[t, t] })
    (base : Nat) (e : TypeId) (i : TypeInfo) (z : Value) (ht : P.underlying t = some (.slice e)) (hi : P.info? e = some i) (hz : i.zero = some z)
    (hsize : i.size = 1) (hby : i.bytes = 1) (hzs : z.cells.size = 1)
    (g n cap : Nat) (xs : List Value) (hs : a.eval s = .slice (some ⟨g, 0, none⟩) n cap) (hown : w.ownsRow base e 1 (.slice (some ⟨g, 0, none⟩) n cap) n xs)
    (pa : Option Addr) (m c N : Nat) (hN : n + m = N) (f : Nat → Int) (hx : a.eval x = .slice pa m c) (hB : B8 w pa m c f) (h63 : n + m ≤ 100000) (hbase : base ≤ w.heap.size)
    (h : ∀ g' cap' w', w'.ownsRow base e 1 (.slice (some ⟨g', 0, none⟩) N cap') N (xs ++ byts m f) → w.grownBy w' (some g) → wpList P ops Q rest (a.put o.dst (.slice (some ⟨g', 0, none⟩) N cap')) w') : wpList P ops Q (o :: rest) a w := by
  subst hN
  have key : ∀ ad : Addr, pa = some ad → (∀ j u, (byts m f)[j]? = some u → w.cell? (ad.add j) = some u) → wpList P ops Q (o :: rest) a w := fun ad hpa hcl => by
    subst hpa
    refine wpList_append_own w hgd s x t ho base e i z 1 1 ht hi hz hsize hby hzs (by decide) _ n xs hs hown ad m c (byts m f) hx (by rw [byts_len]; omega) hcl (byts_one _ _) (by unfold maxLen; omega) (by omega) hbase ?_
    intro v' w' h1 h2 h3
    rcases h1.2 with ⟨hv, -⟩ | ⟨g', cap', cur, hv, -⟩
    · exact absurd (h3.1 hv).1 (by intro hh; cases hh)
    · subst hv
      exact h g' cap' w' h1 h2
  rcases hB with ⟨rfl, rfl, rfl⟩ | ⟨ad, rfl, rfl⟩ | ⟨b, off, rfl, h2, h3⟩
  · refine wpList_append_own_none hgd s x t ho base e i 1 ht hi _ n xs hs hown hx ?_
    exact h g cap w (by simpa [byts] using hown) (World.grownBy.refl _ _)
  · exact key ad rfl (fun j u hu => absurd (byts_of hu).1 (Nat.not_lt_zero _))
  · refine key _ rfl (fun j u hu => ?_)
    obtain ⟨h4, rfl⟩ := byts_of hu
    rw [Addr.add_lit]
    exact h3 j h4
end Go.Proofs.YtbnpgkclnebnmaaGreat
