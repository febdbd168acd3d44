import Derived.Test.YticmdeioebbgaaaD13
import Derived.Test.YticmdeioebbgaaaOpen
/- DiskPlays: its argument. -/
namespace Go.Proofs.Yticmdeioebbgaaa
set_option linter.unusedSimpArgs false
set_option linter.unusedVariables false
open Go.RowKit Go.ChangeShapes Go.WideShapes Go.ChangeAt Go.Deep Go.Joins

theorem Try.cells33 : Try.prog.cellsOf 33 = 4 := by kernel_rfl
theorem Try.cells3 : Try.prog.cellsOf 3 = 1 := by kernel_rfl
theorem Try.cells4 : Try.prog.cellsOf 4 = 1 := by kernel_rfl
theorem take_one {L : List Value} {i : Nat} {v : Value} (h : (L.drop i).take 1 = [v]) : L[i]? = some v := by
  have := congrArg (·[0]?) h
  simpa [List.getElem?_take, List.getElem?_drop] using this
structure AC where
  kind : Int
  n : Int
  b : Int
  raw : Bool
structure ActAt (w : World) (b o : Nat) (x : AC) : Prop where
  lt : b < w.heap.size
  c0 : w.cell? ⟨b, o, none⟩ = some (.int .u8 x.kind)
  c1 : w.cell? ⟨b, o + 1, none⟩ = some (.int .i64 x.n)
  c2 : w.cell? ⟨b, o + 2, none⟩ = some (.int .u8 x.b)
  c3 : w.cell? ⟨b, o + 3, none⟩ = some (.bool x.raw)
  k0 : 0 ≤ x.kind ∧ x.kind < 256
  k1 : -9223372036854775808 ≤ x.n ∧ x.n < 9223372036854775808
  k2 : 0 ≤ x.b ∧ x.b < 256
theorem ActAt.below {w w' : World} {B b o : Nat} {x : AC} (h : ActAt w b o x) (hb : Below B w w') (hB : b < B) : ActAt w' b o x :=
  ⟨Nat.lt_of_lt_of_le h.lt hb.size, (hb.cell (p := ⟨b, o, none⟩) hB).trans h.c0, (hb.cell (p := ⟨b, o + 1, none⟩) hB).trans h.c1, (hb.cell (p := ⟨b, o + 2, none⟩) hB).trans h.c2, (hb.cell (p := ⟨b, o + 3, none⟩) hB).trans h.c3, h.k0, h.k1, h.k2⟩
/-- a slice of calls -/
def Acts (w : World) (v : Value) (n : Nat) : Prop := ∃ p c, v = .slice p n c ∧ n ≤ maxLen ∧ ∀ i, i < n → ∃ b o x, p = some ⟨b, o, none⟩ ∧ ActAt w b (o + i * 4) x

theorem open_acts {H : Type} {enc : TypeId × Value → H} {W : World} {b0 : Nat} {v : Value} {d : DataW H} {p : List MemPlace} (hv : Value.okWide Try.prog W .any b0 22 v)
    (h : DataW.Trod enc Try.prog W 0 (fun _ => true) true 22 v d p) : ∃ n, Acts W v n := by
  obtain ⟨a0, len, cap, rfl⟩ := okWide_slice Try.underlying22 hv
  obtain ⟨fuel, hf⟩ := h
  rcases open_slice Try.underlying22 hf with ⟨hcs, _⟩ | ⟨a, len', cap', m, n, D, Pl, hcs, hb, hl, hm, hmm, _, hx⟩
  · simp only [Value.cells, List.cons.injEq, and_true] at hcs
    injection hcs with h1 h2 h3
    subst h1 h2 h3
    exact ⟨0, none, 0, rfl, Nat.zero_le _, fun i hi => by omega⟩
  · simp only [Value.cells, List.cons.injEq, and_true] at hcs
    injection hcs with h1 h2 h3
    subst h1 h2 h3
    refine ⟨len, _, _, rfl, by omega, fun i hi => ?_⟩
    have hspot : a.spot = none := by
      obtain ⟨cs, hcs, ht⟩ := hx 0 (by rw [hmm]; split <;> omega)
      rw [Try.cells33] at hcs
      obtain ⟨-, hl4, hc⟩ := World.cells?_some hcs
      have h0 := hc 0 (by decide)
      rw [List.getElem?_eq_getElem (show 0 < cs.length by omega)] at h0
      have := World.cell?_spot h0
      rw [Nat.zero_mul] at this
      simpa [Addr.add] using this
    obtain ⟨ab, ao, asp⟩ := a
    simp only at hspot
    subst hspot
    have := hx i (by rw [hmm]; split <;> omega)
    obtain ⟨cs, hcs, ht⟩ := this
    rw [Try.cells33] at hcs
    obtain ⟨-, -, hc⟩ := World.cells?_some hcs
    obtain ⟨y0, y1, y2, y3, n', -, hl4, t0, t1, t2, t3⟩ := trod_struct4 Try.underlying33 ht
    simp only [Try.cells5, Try.cells3, Try.cells4] at t0 t1 t2 t3
    obtain ⟨z0, e0, -, w0⟩ := DataW.trod_int Try.underlying5 t0
    obtain ⟨z1, e1, -, w1⟩ := DataW.trod_int Try.underlying3 t1
    obtain ⟨z2, e2, -, w2⟩ := DataW.trod_int Try.underlying5 t2
    obtain ⟨z3, e3, -⟩ := DataW.trod_bool Try.underlying4 t3
    have g0 := take_one e0
    have g1 := take_one e1
    have g2 := take_one e2
    have g3 := take_one e3
    have b0' := bounds_u8 w0
    have b1' := bounds_i64 w1
    have b2' := bounds_u8 w2
    have h0 := hc 0 (by decide)
    have h1 := hc 1 (by decide)
    have h2 := hc 2 (by decide)
    have h3 := hc 3 (by decide)
    rw [g0] at h0
    rw [g1] at h1
    rw [g2] at h2
    rw [g3] at h3
    simp only [Addr.add_mid, Nat.add_zero] at h0 h1 h2 h3
    have hbl := World.block_lt_of_cell? W _ h0
    exact ⟨ab, ao, ⟨z0, z1, z2, z3⟩, rfl, hbl, h0, h1, h2, h3, ⟨b0'.1, Int.lt_of_le_of_lt b0'.2 (by decide)⟩, ⟨b1'.1, Int.lt_of_le_of_lt b1'.2 (by decide)⟩, ⟨b2'.1, Int.lt_of_le_of_lt b2'.2 (by decide)⟩⟩
theorem Rk.new {w : World} {g : Nat} (n : Nat) (h : Fl w g (n * 64) fun _ => 0) : Rk (w.alloc (.cells #[.slice (some ⟨g, 0, none⟩) n n, .int .i64 (-1), .bool false, .int .i64 0, .int .i64 0] 31)) w.heap.size g (DS.new n) := by
  have hlt := h.lt
  refine ⟨by simp, by omega, ?_, ?_, ?_, ?_, ?_, ?_, ?_, ?_, ?_, h.below ((Below.refl _ _).alloc (Nat.le_refl _) _) h.lt⟩
  all_goals first | (rw [World.cell?_alloc_at _ _ _ _ rfl]; rfl) | simp
end Go.Proofs.Yticmdeioebbgaaa
