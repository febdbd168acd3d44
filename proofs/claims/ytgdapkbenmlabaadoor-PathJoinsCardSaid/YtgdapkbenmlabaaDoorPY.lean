import Derived.Test.YtgdapkbenmlabaaDoorPost
import Derived.Test.YtgdapkbenmlabaaDoorPW
import Derived.Deep.Slices
import Derived.Deep.DeepHandedRow
import Derived.Lib.SmallJoins
import Derived.Lib.LaidTab
import Derived.ChangeMaps5
import Derived.Shelf.Vars
/- A world in which the listed tables hold what their initialisers lay, for the witnesses; a path as handed in; a cell that is there. -/
namespace Go.Proofs.YtgdapkbenmlabaaDoor.Pt
set_option linter.unusedSimpArgs false
set_option linter.unusedVariables false
open Go.ChangeShapes Go.WideShapes Go.ChangeAt Go.RowKit Go.Deep

set_option maxRecDepth 100000 in
theorem Tryd.ownP : ownKnob Tryd.prog.godebug = none := by kernel_rfl
set_option maxRecDepth 100000 in
theorem Tryd.laidOutP : laidOutB Tryd.prog = true := by kernel_rfl
def litV : Lit → Value
  | .int k z => .int k z
  | .string bs => .string ⟨bs.toArray⟩
  | _ => undef
def oneV : DataW Unit → Value
  | .lit l => litV l
  | _ => undef
def rowV : DataW Unit → List Value
  | .agg ds => ds.map oneV
  | _ => []
def gridV : DataW Unit → List Value
  | .agg ds => ds.flatMap rowV
  | _ => []
def putTab (c : Array Value) : Obj → Obj
  | .cells _ t frozen => .cells c t frozen
  | o => o
noncomputable def laidWorld (os : Os) : World :=
  { World.holding Tryd.prog os ⟨#[], #[], []⟩ with heap := (((World.holding Tryd.prog os ⟨#[], #[], []⟩).heap.modify 1 (putTab (rowV Rows.laid_unicode_utf8_first).toArray)).modify 2 (putTab (gridV Rows.laid_unicode_utf8_acceptRanges).toArray)) }
theorem take_oneP {L : List Value} {i : Nat} {v : Value} (h : (L.drop i).take 1 = [v]) : L[i]? = some v := by
  have := congrArg (·[0]?) h
  simpa [List.getElem?_take, List.getElem?_drop] using this
theorem Tryd.cells1sP : Tryd.prog.cellsOf 9 = 1 := by kernel_rfl
theorem Tryd.cells1bP : Tryd.prog.cellsOf 4 = 1 := by kernel_rfl
theorem Tryd.cellsPr : Tryd.prog.cellsOf 28 = 2 := by kernel_rfl
theorem Tryd.cellsSl : Tryd.prog.cellsOf 22 = 1 := by kernel_rfl
theorem Tryd.cellsPa : Tryd.prog.cellsOf 24 = 2 := by kernel_rfl
theorem Tryd.ctPa : Tryd.prog.cellTypes Tryd.prog.depth 24 = some [4, 22] := by kernel_rfl
theorem trod_struct2P {H : Type} {enc : TypeId × Value → H} {P : Program} {w : World} {base : Nat} {spare : Nat → Bool} {held : Bool} {t : TypeId} {f0 f1 : Field} {fuel : Nat} {cs : List Value} {x : DataW H × List MemPlace} (ht : P.underlying t = some (.struct #[f0, f1])) (h : DataW.trod enc P w base spare held fuel t cs = some x) :
    ∃ y0 y1 n, x = (.agg [y0.1, y1.1], y0.2 ++ y1.2) ∧ cs.length = P.cellsOf t ∧ DataW.trod enc P w base spare held n f0.type ((cs.drop f0.offset).take (P.cellsOf f0.type)) = some y0 ∧
      DataW.trod enc P w base spare held n f1.type ((cs.drop f1.offset).take (P.cellsOf f1.type)) = some y1 := by
  obtain ⟨xs, n, _, rfl, hl, hlen, hf⟩ := DataW.trod_struct ht h
  match xs, hlen with
  | [y0, y1], _ => exact ⟨y0, y1, n, by simp, hl, by simpa using hf 0 f0 rfl, by simpa using hf 1 f1 rfl⟩
set_option maxRecDepth 100000 in
/-- what a part's two cells hold -/
theorem part_cells {H : Type} {enc : TypeId × Value → H} {W : World} {fuel : Nat} {L : List Value} {x : DataW H × List MemPlace}
    (hf : DataW.trod enc Tryd.prog W 0 (fun _ => true) true fuel 28 L = some x) : ∃ y : Pr, L = pc y ∧ okP y := by
  obtain ⟨y0, y1, n', -, hl2, t0, t1⟩ := trod_struct2P Tryd.underlying28 hf
  simp only [Tryd.cells1sP] at t0 t1
  rw [Tryd.cellsPr] at hl2
  obtain ⟨z0, e0, -, w0⟩ := DataW.trod_string Tryd.underlying9 t0
  obtain ⟨z1, e1, -, w1⟩ := DataW.trod_string Tryd.underlying9 t1
  have g0 := take_oneP e0
  have g1 := take_oneP e1
  refine ⟨(z0, z1), ?_, w0, w1⟩
  match L, hl2 with
  | [a0, a1], _ =>
    simp only [List.getElem?_cons_succ, List.getElem?_cons_zero, Option.some.injEq] at g0 g1
    subst g0 g1
    rfl
theorem parts_list (ab ao : Nat) (W : World) : ∀ (n : Nat), (∀ i, i < n → ∃ y : Pr, W.rangeAt ab (ao + i * 2) (pc y) ∧ okP y) → ∃ L : List Pr, L.length = n ∧ smP L ∧ W.rangeAt ab ao (flP L)
  | 0, _ => ⟨[], rfl, (fun e he => by cases he), fun j u hj => by cases hj⟩
  | n + 1, h => by
    obtain ⟨L, h1, h2, h3⟩ := parts_list ab ao W n (fun i hi => h i (by omega))
    obtain ⟨y, h4, h5⟩ := h n (by omega)
    refine ⟨L ++ [y], by rw [List.length_append, h1]; rfl, fun e he => ?_, fun j u hj => ?_⟩
    · rcases List.mem_append.1 he with he | he
      · exact h2 e he
      · rw [List.mem_singleton.1 he]
        exact h5
    · rw [flP_app] at hj
      have hl : (flP L).length = n * 2 := by rw [flP_len, h1]
      rcases Nat.lt_or_ge j (n * 2) with hjn | hjn
      · rw [List.getElem?_append_left (by omega)] at hj
        exact h3 j u hj
      · rw [List.getElem?_append_right (by omega), hl] at hj
        have := h4 (j - n * 2) u (by simpa [flP] using hj)
        rw [show ao + n * 2 + (j - n * 2) = ao + j by omega] at this
        exact this
set_option maxRecDepth 100000 in
theorem open_path {H : Type} {enc : TypeId × Value → H} {W : World} {b0 : Nat} {v : Value} {d : DataW H} {p : List MemPlace} (hv : Value.okWide Tryd.prog W .any b0 24 v)
    (h : DataW.Trod enc Tryd.prog W 0 (fun _ => true) true 24 v d p) : ∃ (a : Bool) (sv : Value) (L : List Pr), v = .agg #[.bool a, sv] ∧ Ps W sv L ∧ smP L ∧ L.length ≤ maxLen := by
  simp only [Value.okWide, Tryd.underlying24] at hv
  obtain ⟨cs, rfl, -, ts, hts, -, hall⟩ := hv
  rw [Tryd.ctPa] at hts
  obtain rfl := Option.some.inj hts
  obtain ⟨fuel, hf⟩ := h
  have hc : (Value.agg cs).cells.toList = cs.toList := rfl
  rw [hc] at hf
  obtain ⟨y0, y1, n', -, hl2, t0, t1⟩ := trod_struct2P Tryd.underlying24 hf
  simp only [Tryd.cells1bP, Tryd.cellsSl] at t0 t1
  rw [Tryd.cellsPa] at hl2
  obtain ⟨z0, e0, -⟩ := DataW.trod_bool Tryd.underlying4 t0
  have g0 := take_oneP e0
  obtain ⟨cl⟩ := cs
  rcases open_slice Tryd.underlying22 t1 with ⟨hcs, _⟩ | ⟨a, len', cap', m, n, D, Pl, hcs, hb, hl, hm, hmm, _, hx⟩
  · have g1 := take_oneP hcs
    refine ⟨z0, .slice none 0 0, [], ?_, .inl ⟨rfl, rfl⟩, (fun e he => by cases he), Nat.zero_le _⟩
    match cl, hl2 with
    | [a0, a1], _ =>
      simp only [List.getElem?_cons_succ, List.getElem?_cons_zero, Option.some.injEq] at g0 g1
      subst g0 g1
      rfl
  · have g1 := take_oneP hcs
    have hva : (Value.agg ⟨cl⟩) = .agg #[.bool z0, .slice (some a) len' cap'] := by
      match cl, hl2 with
      | [a0, a1], _ =>
        simp only [List.getElem?_cons_succ, List.getElem?_cons_zero, Option.some.injEq] at g0 g1
        subst g0 g1
        rfl
    have hspot : a.spot = none := by
      have hc1 : (⟨cl⟩ : Array Value)[1]? = some (.slice (some a) len' cap') := by rw [← Array.getElem?_toList]; exact g1
      obtain ⟨u, hu, hcw⟩ := hall 1 _ hc1
      obtain rfl := Option.some.inj hu
      have hcw' : Cell.ok Tryd.prog W .any b0 22 (.slice (some a) len' cap') := hcw
      unfold Cell.ok at hcw'
      rw [Tryd.underlying22] at hcw'
      exact hcw'.2.2.2.1
    obtain ⟨ab, ao, asp⟩ := a
    simp only at hspot
    subst hspot
    obtain ⟨L, h1, h2, h3⟩ := parts_list ab ao W len' (fun i hi => by
      obtain ⟨cs, hcs, ht⟩ := hx i (by rw [hmm]; split <;> omega)
      rw [Tryd.cellsPr] at hcs
      obtain ⟨-, hl5, hc⟩ := World.cells?_some hcs
      obtain ⟨y, rfl, hy⟩ := part_cells ht
      refine ⟨y, fun j u hj => ?_, hy⟩
      have hj2 : j < 2 := (List.getElem?_eq_some_iff.1 hj).1
      have := hc j hj2
      rw [hj] at this
      simp only [Addr.add_mid] at this
      exact this)
    subst h1
    exact ⟨z0, _, L, hva, .inr ⟨ab, ao, cap', rfl, hl, h3⟩, h2, by omega⟩
set_option maxRecDepth 100000 in
theorem maxlen_there {W : World} (h : W.ShapedOpen Tryd.prog) : ∃ m, W.cell? ⟨0, 0, none⟩ = some (.int .i64 m) :=
  Go.Proofs.cell_of_shapedOpen_int (zero := #[.int .i64 0]) (t := 3) h (of_decide_eq_true (by kernel_rfl)) (by kernel_rfl) rfl (by kernel_rfl) (by kernel_rfl) Tryd.underlying3
end Go.Proofs.YtgdapkbenmlabaaDoor.Pt
