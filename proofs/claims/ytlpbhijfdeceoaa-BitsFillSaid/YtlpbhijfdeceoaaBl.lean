import Derived.Test.YtlpbhijfdeceoaaB10
import Derived.OwnWalk
/- Booleans in a slice that is made. -/
namespace Go.Proofs.Ytlpbhijfdeceoaa
set_option linter.unusedSimpArgs false
set_option linter.unusedVariables false
open Go.RowKit Go.Maps

/-- block g has N Booleans, which may be written -/
structure Bl (w : World) (g N : Nat) (f : Nat → Bool) : Prop where
  lt : g < w.heap.size
  c : ∀ j, j < N → w.cell? ⟨g, j, none⟩ = some (.bool (f j))
  z : ∀ j, j < N → w.frozen? ⟨g, j, none⟩ = false
theorem Bl.below {w w' : World} {B g N : Nat} {f : Nat → Bool} (h : Bl w g N f) (hb : Below B w w') (hg : g < B) : Bl w' g N f :=
  ⟨Nat.lt_of_lt_of_le h.lt hb.size, fun j hj => (hb.cell (p := ⟨g, j, none⟩) hg).trans (h.c j hj), fun j hj => (hb.frozen (p := ⟨g, j, none⟩) hg).trans (h.z j hj)⟩
theorem Bl.keep {w w' : World} {g N : Nat} {f : Nat → Bool} (h : Bl w g N f) (hb : Below w.heap.size w w') : Bl w' g N f := h.below hb h.lt
theorem Bl.set {w : World} {g N : Nat} {f : Nat → Bool} (h : Bl w g N f) (i : Nat) (hi : i < N) (x : Bool) : Bl (w.setCell ⟨g, i, none⟩ (.bool x)) g N (fun j => if j = i then x else f j) := by
  refine ⟨lt_set h.lt _ _, fun j hj => ?_, fun j hj => by rw [World.frozen?_setCell]; exact h.z j hj⟩
  by_cases e : j = i
  · subst e
    rw [if_pos rfl]
    exact World.cell?_setCell_same _ _ _ (h.c j hj)
  · rw [if_neg e, World.cell?_setCell_other _ _ _ _ (by simp [Ne.symm e])]
    exact h.c j hj
theorem Bl.congr {w : World} {g N : Nat} {f f' : Nat → Bool} (h : Bl w g N f) (he : ∀ j, j < N → f j = f' j) : Bl w g N f' := ⟨h.lt, fun j hj => by rw [← he j hj]; exact h.c j hj, h.z⟩
theorem Bl.made (w : World) (c : Nat) (t : TypeId) : Bl (w.alloc (.cells (madeCells #[.bool false] c) t)) w.heap.size c (fun _ => false) := by
  refine ⟨by simp, fun j hj => ?_, fun j _ => by simp⟩
  rw [World.cell?_alloc_at _ _ _ _ rfl]
  simp [madeCells, hj, Nat.mod_one]
theorem Try.info4i : ∃ i, Try.prog.info? 4 = some i ∧ i.zero = some (.bool false) ∧ i.size = 1 ∧ i.bytes = 1 := by
  have h : (Try.prog.info? 4).map (fun i => (i.zero, i.size, i.bytes)) = some (some (.bool false), 1, 1) := by kernel_rfl
  cases hq : Try.prog.info? 4 with
  | none => simp [hq] at h
  | some i =>
    simp [hq] at h
    exact ⟨i, rfl, h.1, h.2.1, h.2.2⟩
theorem run_make4 (w : World) (c : Nat) (hc : c ≤ 65536) : (Instr.makeSlice 33 (.int .i64 (c : Int)) (.int .i64 (c : Int))).run Try.prog w = .ok (.slice (some ⟨w.heap.size, 0, none⟩) c c) (w.alloc (.cells (madeCells #[.bool false] c) 4)) := by
  obtain ⟨i, hi, hz, hs, hb⟩ := Try.info4i
  have := run_make (P := Try.prog) w 33 4 i _ (by kernel_rfl) hi hz .i64 .i64 c c (by omega) (by omega) (by rw [hb]; omega) (by omega)
  rw [this, hs, Int.toNat_natCast, Nat.mul_one]
  rfl
theorem wpList_make4 {ops : Array Oper} {rest : List Oper} {o : Oper} {a : Act} {w : World} {Q : Exit → Act → World → Prop} (hgd : o.guard = none) (x : Operand) (ho : o.op = .makeSlice 33 x x) (c : Nat) (hx : a.eval x = .int .i64 (c : Int)) (hc : c ≤ 65536)
    (h : ∀ w', Hid (Bl w' w.heap.size c fun _ => false) → Below w.heap.size w w' → w'.heap.size = w.heap.size + 1 → wpList Try.prog ops Q rest (a.put o.dst (.slice (some ⟨w.heap.size, 0, none⟩) c c)) w') : wpList Try.prog ops Q (o :: rest) a w := by
  refine wpList_plain hgd fun K hK => ?_
  have hr := run_make4 w c hc
  unfold Oper.wp
  simp [execOp, ho, hx, hr, Result.andThen]
  exact hK _ _ (h _ (Bl.made w c 4) ((Below.refl _ _).alloc (Nat.le_refl _) _) (by simp))

theorem Bl.kf {w w' : World} {L : List Nat} {g N : Nat} {f : Nat → Bool} (h : Bl w g N f) (hb : Kf w w' L) (h1 : g ∉ L) : Bl w' g N f :=
  ⟨Nat.lt_of_lt_of_le h.lt hb.size, fun j hj => (hb.cell (p := ⟨g, j, none⟩) h.lt h1).trans (h.c j hj), fun j hj => (hb.frozen (p := ⟨g, j, none⟩) h.lt h1).trans (h.z j hj)⟩
theorem Fr.congr {b b' : Nat → Bool} {n : Nat} {v : Int} (h : Fr b n v) (hb : ∀ i, i < n → b i = b' i) : Fr b' n v := by
  rcases h with ⟨rfl, h⟩ | ⟨i, hi, rfl, h1, h2⟩
  · exact .inl ⟨rfl, fun j hj => by rw [← hb j hj]; exact h j hj⟩
  · exact .inr ⟨i, hi, rfl, by rw [← hb i hi]; exact h1, fun j hj => by rw [← hb j (by omega)]; exact h2 j hj⟩
end Go.Proofs.Ytlpbhijfdeceoaa
